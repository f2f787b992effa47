import PyProof.Rows.All
import Wide.All
import OpenK.AllK
import Wide.FinOn
import Lean
import PyProof.EqAt
import PyProof.EqKinds
import PyProof.TupleCall
import PyProof.P3In
import PyProof.DictCompW
import PyProof.Rows.ReprR
import PyProof.ReprLen
import PySem.Challenge.RW_slotwright_k08_nets_alike_and_twins
set_option Elab.async false
namespace H0
open PySem PySem.W PyProof.Rows

/-- the top, run over a heap that is a tree -/
def topT (tb : String → Option Builtin) (p : Program) (w : World) (n0 : Nat) (ann : Option Value) : Nat → SharedT → Thread → Option SharedT
  | 0, _, _ => none
  | n + 1, s, t => match through t with
    | true => some s
    | false => match stepOk n0 ann t with
      | false => none
      | true => match stepT (denote tb) p w s t with
        | some (s', t') => topT tb p w n0 ann n s' t'
        | none => none
theorem topT_run {tb : String → Option Builtin} {p : Program} {w : World} {n0 : Nat} {ann : Option Value} : ∀ {n : Nat} {s s' : SharedT} {t : Thread}, topT tb p w n0 ann n s t = some s' → topRun tb p w n0 ann n s.abs t = some s'.abs := by
  intro n
  induction n with
  | zero => intro s s' t h; cases h
  | succ n ih =>
    intro s s' t h
    unfold topT at h
    unfold topRun
    cases ht : through t with
    | true => rw [ht] at h; cases h; rfl
    | false =>
      rw [ht] at h
      cases hk : stepOk n0 ann t with
      | false => rw [hk] at h; cases h
      | true =>
        rw [hk] at h
        cases hs : stepT (denote tb) p w s t with
        | none => rw [hs] at h; cases h
        | some r => obtain ⟨s2, t2⟩ := r; rw [hs] at h; dsimp only; rw [stepT_spec hs]; exact ih h
def treeOf : List Obj → BT → Nat → BT
  | [], t, _ => t
  | o :: r, t, n => treeOf r (t.ins n o) (n + 1)
def looksAt (p : Program) (h0 : Heap) (s : Shared) : Bool := staticsOk (importedModules p.main.body) h0 s.heap && namesBound p s.heap && gensDone s && laidKept h0 s.heap
noncomputable def st0 (m0 : Nat) (w : World) (os : OsState) : SharedT := ⟨treeOf (boot_heap w.params).objs.toList .nil 0, m0, (boot_heap w.params).life, Array.mk [], boot_drawn, boot_toks, os⟩
theorem left_tree {p q : Program} {loose : List Str} {Xt : Shared → Bool} {α : Type} {Yf : Shared → α} {Ya : World → α} {N : Nat} {g0 : Bool} {m0 : Nat} {ann : Option Value}
    (open_ : ∀ w : World, (fencedOpening treeTable p w N).map (fun s => (s.heap, s.gens, s.drawn, s.toks)) = some (boot_heap w.params, Array.mk [], boot_drawn, boot_toks))
    (tree : ∀ w : World, absHeap (treeOf (boot_heap w.params).objs.toList .nil 0) m0 (boot_heap w.params).life = boot_heap w.params)
    (size : ∀ w : World, ((boot_heap w.params).isNs mainGlobals, (boot_heap w.params).objs.size, (boot_heap w.params).nsMap mainGlobals "__annotations__") = (true, m0, ann))
    (runA : ∀ (w : World) (os : OsState), (topT treeTable p w m0 ann N (st0 m0 w os) (topStub p)).map (fun s => (looksAt p (boot_heap w.params) s.abs, (openSeen q loose (importedModules p.main.body) Xt g0 s.abs).1, (openSeen q loose (importedModules p.main.body) Xt g0 s.abs).2.1, (openSeen q loose (importedModules p.main.body) Xt g0 s.abs).2.2.1)) = some (true, (openGood q loose).1, (openGood q loose).2.1, (openGood q loose).2.2.1))
    (runB : ∀ (w : World) (os : OsState), (topT treeTable p w m0 ann N (st0 m0 w os) (topStub p)).map (fun s => (openSeen q loose (importedModules p.main.body) Xt g0 s.abs).2.2.2) = some (openGood q loose).2.2.2)
    (runC : ∀ (w : World) (os : OsState), (topT treeTable p w m0 ann N (st0 m0 w os) (topStub p)).map (fun s => Yf s.abs) = some (Ya w)) :
    LeftO p q loose Xt Yf Ya N g0 := fun w => by
  obtain ⟨⟨h, gs, d, k, os⟩, e, e'⟩ := Option.map_eq_some_iff.mp (open_ w)
  obtain ⟨rfl, rfl, rfl, rfl⟩ : h = boot_heap w.params ∧ gs = Array.mk [] ∧ d = boot_drawn ∧ k = boot_toks := by simpa using e'
  obtain ⟨z1, z2, z3⟩ : _ ∧ _ ∧ _ := by simpa only [Prod.mk.injEq] using size w
  obtain ⟨s, r, la⟩ := Option.map_eq_some_iff.mp (runA w os)
  obtain ⟨s1, r1, lb⟩ := Option.map_eq_some_iff.mp (runB w os)
  obtain ⟨s2, r2, lc⟩ := Option.map_eq_some_iff.mp (runC w os)
  have q1 : s = s1 := Option.some.inj (r.symm.trans r1)
  have q2 : s = s2 := Option.some.inj (r.symm.trans r2)
  subst q1 q2
  obtain ⟨l1, a1, a2, a3⟩ : _ ∧ _ ∧ _ ∧ _ := by simpa only [Prod.mk.injEq] using la
  unfold looksAt at l1
  have l2 : openSeen q loose (importedModules p.main.body) Xt g0 s.abs = openGood q loose := Prod.ext a1 (Prod.ext a2 (Prod.ext a3 lb))
  have l3 : Yf s.abs = Ya w := lc
  have r2 := topT_run r
  have r3 : topRun treeTable p w m0 ann N ⟨boot_heap w.params, Array.mk [], boot_drawn, boot_toks, os⟩ (topStub p) = some s.abs := by
    rw [← r2]
    show _ = topRun treeTable p w m0 ann N ⟨absHeap (treeOf (boot_heap w.params).objs.toList .nil 0) m0 (boot_heap w.params).life, Array.mk [], boot_drawn, boot_toks, os⟩ (topStub p)
    rw [tree w]
  have z4 : ((boot_heap w.params).isNs mainGlobals && (Array.mk [] : Array GenState).size == 0) = true := by rw [z1]; rfl
  have t : topFrom treeTable p w N ⟨boot_heap w.params, Array.mk [], boot_drawn, boot_toks, os⟩ = some s.abs := by
    unfold topFrom
    dsimp only
    rw [z4, z2, z3, r3]
    show (match staticsOk (importedModules p.main.body) (boot_heap w.params) s.abs.heap && namesBound p s.abs.heap && gensDone s.abs && laidKept (boot_heap w.params) s.abs.heap with | true => _ | false => _) = _
    rw [l1]
  unfold openEnds
  rw [e]
  show (topFrom treeTable p w N _).map _ = _
  rw [t]
  exact congrArg some (Prod.ext l2 l3)
def bootSize : Nat := 11
def bootAnn : Option Value := some (.ref 6)
theorem boot_tree : ∀ w : World, absHeap (treeOf (boot_heap w.params).objs.toList .nil 0) bootSize (boot_heap w.params).life = boot_heap w.params := fun w => by kernel_rfl
theorem boot_size : ∀ w : World, ((boot_heap w.params).isNs mainGlobals, (boot_heap w.params).objs.size, (boot_heap w.params).nsMap mainGlobals "__annotations__") = (true, bootSize, bootAnn) := fun w => by kernel_rfl
def view0 : Program := { PySem.Challenge.pw_slotwright_k08_nets_alike_and_twins with main := { PySem.Challenge.pw_slotwright_k08_nets_alike_and_twins.main with body := [PySem.Challenge.pw_slotwright_k08_nets_alike_and_twins.main.body.getD 1 (.Pass ⟨0, 0, 0, 0⟩), PySem.Challenge.pw_slotwright_k08_nets_alike_and_twins.main.body.getD 2 (.Pass ⟨0, 0, 0, 0⟩), PySem.Challenge.pw_slotwright_k08_nets_alike_and_twins.main.body.getD 3 (.Pass ⟨0, 0, 0, 0⟩), PySem.Challenge.pw_slotwright_k08_nets_alike_and_twins.main.body.getD 4 (.Pass ⟨0, 0, 0, 0⟩), PySem.Challenge.pw_slotwright_k08_nets_alike_and_twins.main.body.getD 5 (.Pass ⟨0, 0, 0, 0⟩), PySem.Challenge.pw_slotwright_k08_nets_alike_and_twins.main.body.getD 6 (.Pass ⟨0, 0, 0, 0⟩), PySem.Challenge.pw_slotwright_k08_nets_alike_and_twins.main.body.getD 7 (.Pass ⟨0, 0, 0, 0⟩), PySem.Challenge.pw_slotwright_k08_nets_alike_and_twins.main.body.getD 8 (.Pass ⟨0, 0, 0, 0⟩), PySem.Challenge.pw_slotwright_k08_nets_alike_and_twins.main.body.getD 10 (.Pass ⟨0, 0, 0, 0⟩), PySem.Challenge.pw_slotwright_k08_nets_alike_and_twins.main.body.getD 11 (.Pass ⟨0, 0, 0, 0⟩), PySem.Challenge.pw_slotwright_k08_nets_alike_and_twins.main.body.getD 12 (.Pass ⟨0, 0, 0, 0⟩), PySem.Challenge.pw_slotwright_k08_nets_alike_and_twins.main.body.getD 13 (.Pass ⟨0, 0, 0, 0⟩), PySem.Challenge.pw_slotwright_k08_nets_alike_and_twins.main.body.getD 14 (.Pass ⟨0, 0, 0, 0⟩), PySem.Challenge.pw_slotwright_k08_nets_alike_and_twins.main.body.getD 15 (.Pass ⟨0, 0, 0, 0⟩), PySem.Challenge.pw_slotwright_k08_nets_alike_and_twins.main.body.getD 16 (.Pass ⟨0, 0, 0, 0⟩), PySem.Challenge.pw_slotwright_k08_nets_alike_and_twins.main.body.getD 17 (.Pass ⟨0, 0, 0, 0⟩), PySem.Challenge.pw_slotwright_k08_nets_alike_and_twins.main.body.getD 19 (.Pass ⟨0, 0, 0, 0⟩), PySem.Challenge.pw_slotwright_k08_nets_alike_and_twins.main.body.getD 20 (.Pass ⟨0, 0, 0, 0⟩), PySem.Challenge.pw_slotwright_k08_nets_alike_and_twins.main.body.getD 21 (.Pass ⟨0, 0, 0, 0⟩), PySem.Challenge.pw_slotwright_k08_nets_alike_and_twins.main.body.getD 22 (.Pass ⟨0, 0, 0, 0⟩), PySem.Challenge.pw_slotwright_k08_nets_alike_and_twins.main.body.getD 23 (.Pass ⟨0, 0, 0, 0⟩), PySem.Challenge.pw_slotwright_k08_nets_alike_and_twins.main.body.getD 24 (.Pass ⟨0, 0, 0, 0⟩), PySem.Challenge.pw_slotwright_k08_nets_alike_and_twins.main.body.getD 26 (.Pass ⟨0, 0, 0, 0⟩), PySem.Challenge.pw_slotwright_k08_nets_alike_and_twins.main.body.getD 27 (.Pass ⟨0, 0, 0, 0⟩), PySem.Challenge.pw_slotwright_k08_nets_alike_and_twins.main.body.getD 28 (.Pass ⟨0, 0, 0, 0⟩), PySem.Challenge.pw_slotwright_k08_nets_alike_and_twins.main.body.getD 29 (.Pass ⟨0, 0, 0, 0⟩), PySem.Challenge.pw_slotwright_k08_nets_alike_and_twins.main.body.getD 30 (.Pass ⟨0, 0, 0, 0⟩), PySem.Challenge.pw_slotwright_k08_nets_alike_and_twins.main.body.getD 31 (.Pass ⟨0, 0, 0, 0⟩), PySem.Challenge.pw_slotwright_k08_nets_alike_and_twins.main.body.getD 32 (.Pass ⟨0, 0, 0, 0⟩), PySem.Challenge.pw_slotwright_k08_nets_alike_and_twins.main.body.getD 33 (.Pass ⟨0, 0, 0, 0⟩), PySem.Challenge.pw_slotwright_k08_nets_alike_and_twins.main.body.getD 34 (.Pass ⟨0, 0, 0, 0⟩), PySem.Challenge.pw_slotwright_k08_nets_alike_and_twins.main.body.getD 35 (.Pass ⟨0, 0, 0, 0⟩), PySem.Challenge.pw_slotwright_k08_nets_alike_and_twins.main.body.getD 36 (.Pass ⟨0, 0, 0, 0⟩), PySem.Challenge.pw_slotwright_k08_nets_alike_and_twins.main.body.getD 37 (.Pass ⟨0, 0, 0, 0⟩), PySem.Challenge.pw_slotwright_k08_nets_alike_and_twins.main.body.getD 38 (.Pass ⟨0, 0, 0, 0⟩)] } }
set_option maxRecDepth 100000
set_option maxHeartbeats 0
theorem runA (w : World) (os : OsState) : (topT treeTable PySem.Challenge.pw_slotwright_k08_nets_alike_and_twins w bootSize bootAnn 6546 (st0 bootSize w os) (topStub PySem.Challenge.pw_slotwright_k08_nets_alike_and_twins)).map (fun s => (looksAt PySem.Challenge.pw_slotwright_k08_nets_alike_and_twins (boot_heap w.params) s.abs, (openSeen view0 [Str.ofString "Net"] (importedModules PySem.Challenge.pw_slotwright_k08_nets_alike_and_twins.main.body) (fun s => xlAt view0 [] s && recOk (RowW.records (PySem.Challenge.rw_slotwright_k08_nets_alike_and_twins.row.toRowW)) s) true s.abs).1, (openSeen view0 [Str.ofString "Net"] (importedModules PySem.Challenge.pw_slotwright_k08_nets_alike_and_twins.main.body) (fun s => xlAt view0 [] s && recOk (RowW.records (PySem.Challenge.rw_slotwright_k08_nets_alike_and_twins.row.toRowW)) s) true s.abs).2.1, (openSeen view0 [Str.ofString "Net"] (importedModules PySem.Challenge.pw_slotwright_k08_nets_alike_and_twins.main.body) (fun s => xlAt view0 [] s && recOk (RowW.records (PySem.Challenge.rw_slotwright_k08_nets_alike_and_twins.row.toRowW)) s) true s.abs).2.2.1)) = some (true, (openGood view0 [Str.ofString "Net"]).1, (openGood view0 [Str.ofString "Net"]).2.1, (openGood view0 [Str.ofString "Net"]).2.2.1) := by rewrite [PySem.W.Fast.te14364793385576792824]; kernel_rfl
theorem runB (w : World) (os : OsState) : (topT treeTable PySem.Challenge.pw_slotwright_k08_nets_alike_and_twins w bootSize bootAnn 6546 (st0 bootSize w os) (topStub PySem.Challenge.pw_slotwright_k08_nets_alike_and_twins)).map (fun s => (openSeen view0 [Str.ofString "Net"] (importedModules PySem.Challenge.pw_slotwright_k08_nets_alike_and_twins.main.body) (fun s => xlAt view0 [] s && recOk (RowW.records (PySem.Challenge.rw_slotwright_k08_nets_alike_and_twins.row.toRowW)) s) true s.abs).2.2.2) = some (openGood view0 [Str.ofString "Net"]).2.2.2 := by rewrite [PySem.W.Fast.te14364793385576792824]; kernel_rfl
local macro_rules | `(tactic| o_head $H) => `(tactic| (refine holds_open (q := view0) (loose := [Str.ofString "Net"]) (Xt := fun s => xlAt view0 [] s && recOk (RowW.records (PySem.Challenge.rw_slotwright_k08_nets_alike_and_twins.row.toRowW)) s) (XP := XL view0 []) (Yf := Hook.obs $H) (Ya := Hook.val $H) (YP := Hook.says $H) (N := 6546) ?hl (Hook.of $H) (Hook.keeps $H) (fun s e => xl_of s (Bool.and_eq_true_iff.mp e).1) XL.keeps (by rfl) (by rfl) (by rfl) (fun s e => recFacts_of (Bool.and_eq_true_iff.mp e).2) (by rfl) (by first | assumption | decide +kernel) (by decide +kernel) ⟨rfl, rfl, rfl, rfl, rfl, by decide +kernel⟩ ?hw ?hc; (case hl => exact left_tree (m0 := bootSize) (ann := bootAnn) (boot_open (by kernel_rfl) (by decide +kernel) (fun s => by kernel_rfl)) boot_tree boot_size runA runB (fun w os => by rewrite [PySem.W.Fast.te14364793385576792824]; kernel_rfl))))
set_option maxRecDepth 100000
set_option maxHeartbeats 0
open_top hd0 for PySem.Challenge.rw_slotwright_k08_nets_alike_and_twins
end H0
set_option Elab.async false
set_option linter.all false
set_option maxRecDepth 100000
namespace L2
open PySem PySem.Spec PyProof.Rows

abbrev Key := Sum Int Str
def zhc : Key -> Value -> Bool
  | .inl k, v => Value.isInt k v
  | .inr x, v => Value.isStrOf x v
def zvP (w : World) : Key -> Int
  | .inl k => hashInt k
  | .inr x => hashStr w x
theorem zaI : ∀ {k : Key} {v : Value}, zhc k v = true -> (∃ i t, k = Sum.inl i /\ v = Value.int i t) \/ (∃ x t, k = Sum.inr x /\ v = Value.str x t)
  | .inl i, v, h => by
    obtain ⟨t, e⟩ := Value.isInt_shape (k := i) (v := v) h
    exact .inl ⟨i, t, rfl, e⟩
  | .inr x, v, h => by
    obtain ⟨t, e⟩ := Value.isStrOf_shape (x := x) (v := v) h
    exact .inr ⟨x, t, rfl, e⟩
theorem zmM (i : Int) (t : Tok) : zhc (.inl i) (.int i t) = true := by simp [zhc, Value.isInt]
theorem znt (x : Str) (t : Tok) : zhc (.inr x) (.str x t) = true := by simp [zhc, Value.isStrOf]
theorem ztg (a b : Int) : decide ((Sum.inl a : Key) = Sum.inl b) = (a == b) := by
  by_cases e : a = b
  . subst e; simp
  . have h : ¬ (Sum.inl a : Key) = Sum.inl b := fun q => e (Sum.inl.inj q)
    rw [decide_eq_false h]
    exact (beq_eq_false_iff_ne.mpr e).symm
theorem ztQ (a b : Str) : decide ((Sum.inr a : Key) = Sum.inr b) = decide (a = b) := by
  by_cases e : a = b
  . subst e; simp
  . have h : ¬ (Sum.inr a : Key) = Sum.inr b := fun q => e (Sum.inr.inj q)
    rw [decide_eq_false h, decide_eq_false e]
theorem ztz (a : Int) (b : Str) : decide ((Sum.inl a : Key) = Sum.inr b) = false := decide_eq_false (fun q => nomatch q)
theorem ztG (a : Str) (b : Int) : decide ((Sum.inr a : Key) = Sum.inl b) = false := decide_eq_false (fun q => nomatch q)

def zbe (prog : Program) (w : World) : PySem.KeyKind prog w Key where
  is := zhc
  hash := zvP w
  inj := fun v a b ha hb => by
    rcases zaI ha with ⟨i, t, rfl, rfl⟩ | ⟨x, t, rfl, rfl⟩
    . rcases zaI hb with ⟨j, u, rfl, e⟩ | ⟨y, u, rfl, e⟩
      . injection e with e1 _; rw [e1]
      . exact nomatch e
    . rcases zaI hb with ⟨j, u, rfl, e⟩ | ⟨y, u, rfl, e⟩
      . exact nomatch e
      . injection e with e1 _; rw [e1]
  byValue := fun k v h => by
    rcases zaI h with ⟨i, t, rfl, rfl⟩ | ⟨x, t, rfl, rfl⟩ <;> rfl
  pyHash := fun hv h => by
    rcases zaI hv with ⟨i, t, rfl, rfl⟩ | ⟨x, t, rfl, rfl⟩
    . exact wpAny_pyHash_int h
    . exact wpAny_pyHash_str h
  eqBool := fun hu hv h => by
    rcases zaI hu with ⟨i, t, rfl, rfl⟩ | ⟨x, t, rfl, rfl⟩
    . rcases zaI hv with ⟨j, u, rfl, rfl⟩ | ⟨y, u, rfl, rfl⟩
      . rw [ztg] at h; exact wpAny_eqBool_int h
      . rw [ztz] at h; exact SeqAt.EqAt.int_str i t y u _ _ _ _ h
    . rcases zaI hv with ⟨j, u, rfl, rfl⟩ | ⟨y, u, rfl, rfl⟩
      . rw [ztG] at h; exact SeqAt.EqAt.str_int x t j u _ _ _ _ h
      . rw [ztQ] at h; exact wpAny_eqBool_str h
  «strs» := fun k x t v h => by
    rcases zaI h with ⟨i, u, rfl, e⟩ | ⟨y, u, rfl, e⟩
    . exact nomatch e
    . injection e with e1 _
      subst e1
      cases v <;> rfl

theorem zjW (prog : Program) (w : World) (i : Int) (t : Tok) : (zbe prog w).is (.inl i) (.int i t) = true := zmM i t
theorem zkN (prog : Program) (w : World) (x : Str) (t : Tok) : (zbe prog w).is (.inr x) (.str x t) = true := znt x t
end L2

namespace L2
open PySem PySem.Spec PyProof.Rows

inductive V where
  | non | bl (b : Bool) | int (i : Int) | str (x : Str) | byt (b : Array UInt8) | flt (b : UInt64) | ref (a : Addr) | ty (n : String)
  deriving DecidableEq

def RelV : V -> Value -> Prop
  | .non, u => u = Value.none
  | .bl b, u => u = Value.bool b
  | .int i, u => ∃ t, u = Value.int i t
  | .str x, u => ∃ t, u = Value.str x t
  | .byt b, u => ∃ t, u = Value.bytes b t
  | .flt b, u => ∃ t, u = Value.float b t
  | .ref a, u => u = Value.ref a
  | .ty n, u => u = Value.type n

abbrev Vals : List V -> List Value -> Prop := Paired RelV
theorem Vals.length {xs : List V} {us : List Value} (r : Vals xs us) : xs.length = us.length := Paired.length r
theorem Vals.get : ∀ {xs : List V} {us : List Value} {i : Nat} {x : V}, Vals xs us -> xs[i]? = some x -> ∃ u, us[i]? = some u /\ RelV x u
  | _, _, _, _, .nil, e => by simp at e
  | _, _, 0, _, .cons r _, e => by simp at e; subst e; exact ⟨_, rfl, r⟩
  | _, _, i + 1, x, .cons _ t, e => by
    obtain ⟨u, h1, h2⟩ := Vals.get (i := i) (x := x) t (by simpa using e)
    exact ⟨u, by simpa using h1, h2⟩
theorem Vals.set {x : V} {u : Value} (r : RelV x u) : ∀ {xs : List V} {us : List Value} (i : Nat), Vals xs us -> Vals (xs.set i x) (us.set i u)
  | _, _, _, .nil => .nil
  | _, _, 0, .cons _ t => .cons r t
  | _, _, i + 1, .cons q t => .cons q (Vals.set r i t)
theorem Vals.append : ∀ {xs ys : List V} {us ws : List Value}, Vals xs us -> Vals ys ws -> Vals (xs ++ ys) (us ++ ws)
  | _, _, _, _, .nil, s => s
  | _, _, _, _, .cons r t, s => .cons r (Vals.append t s)
theorem Vals.take : ∀ {xs : List V} {us : List Value} (n : Nat), Vals xs us -> Vals (xs.take n) (us.take n)
  | _, _, 0, _ => .nil
  | _, _, _ + 1, .nil => .nil
  | _, _, n + 1, .cons r t => .cons r (Vals.take n t)
theorem Vals.drop : ∀ {xs : List V} {us : List Value} (n : Nat), Vals xs us -> Vals (xs.drop n) (us.drop n)
  | _, _, 0, r => r
  | _, _, _ + 1, .nil => .nil
  | _, _, n + 1, .cons _ t => Vals.drop n t
def zeh : Option V -> Option Value -> Prop
  | some v, some u => RelV v u
  | none, none => True
  | _, _ => False
def KV {κ : Type} : List (κ × V) -> List (κ × Value) -> Prop := Paired fun (p : κ × V) (q : κ × Value) => p.1 = q.1 /\ RelV p.2 q.2

def kV : Key -> V
  | .inl i => .int i
  | .inr x => .str x

inductive HO where
  | lst (xs : List V)
  | tup (xs : List V)
  | dK (kvs : List (Key × V)) | dT (kvs : List (List Key × V))
  | set (S : Int -> Bool) (n : Nat)
  | ins (C dx : Addr) (fs : List (Str × V))
  | own (x : Addr)
  | xd (fs : List (Str × V))
  | met (f x : Addr)
  | rng (lo hi : Int)
  | frz (o : Obj) (u : HO)
  | tbl (ps : Array Value)
  | ext (φ : Heap -> Prop)

abbrev Hp := Addr -> Option HO
def upd (H : Hp) (a : Addr) (o : HO) : Hp := fun b => if b = a then some o else H b
theorem zF {H : Hp} {a : Addr} {o : HO} : upd H a o a = some o := by unfold upd; rw [if_pos rfl]
theorem zJ {H : Hp} {a b : Addr} {o : HO} (h : b ≠ a) : upd H a o b = H b := by unfold upd; rw [if_neg h]
theorem zuW {H : Hp} {a b : Addr} {o u : HO} (h : H a = some o) (h' : H b = some u) (d : o ≠ u) : a ≠ b := by
  intro e; subst e; rw [h] at h'; exact d (Option.some.inj h')
theorem zaD {H : Hp} {a b : Addr} {o : HO} (h : H a = some o) (h' : H b = none) : a ≠ b := by
  intro e; subst e; rw [h] at h'; cases h'

section
variable (P : Program) (w : World)
def zaV (H : Hp) (h : Heap) (a : Addr) : HO -> Prop
  | .lst xs => xs.length <= sizeLine /\ ∃ (its : List Value) (n : Nat), Vals xs its /\ h.get? a = some { cls := .type "list", data := .seq its.toArray n }
  | .tup xs => xs.length <= sizeLine /\ ∃ its : List Value, Vals xs its /\ IsTup h a its.toArray
  | .dK kvs => kvs.length <= sizeLine /\ (a == sysModules) = false /\ ∃ vs, KV kvs vs /\ h.DictOf (zbe P w) a vs
  | .dT kvs => kvs.length <= sizeLine /\ (a == sysModules) = false /\ ∃ xs : List (List Key × Addr × Value),
      Paired (fun (p : List Key × V) (q : List Key × Addr × Value) => p.1 = q.1 /\ H q.2.1 = some (.tup (p.1.map kV)) /\ RelV p.2 q.2.2) kvs xs /\
      ∃ o es ep, h.get? a = some o /\ o.ExactDict /\ o.data = .dict es ep /\ es.toList = xs.map (entryOfKey (tupleKind (zbe P w))) /\ (xs.map (·.1)).Nodup
  | .set S n => h.SetOf (intKind P w) a S n
  | .ins C dx fs => H dx = some (.own a) /\ fs.length <= 1000 /\ dx ≠ a /\ h.get? a = some (PySem.W.instObj C dx) /\
      ∃ mA, h.Ns1 dx mA /\ (∀ f, zeh (fs.lookup f) (mA f)) /\ PySem.Within mA (fs.map (·.1))
  | .own _ => ∃ o, h.get? a = some o
  | .xd fs => ∃ mA, h.Ns1 a mA /\ ∀ f, zeh (fs.lookup f) (mA f)
  | .rng lo hi => ∃ t u v, h.get? a = some { cls := .type "range", data := .fields #[.int lo t, .int hi u, .int 1 v] }
  | .frz o u => h.get? a = some o /\ zaV H h a u
  | .tbl ps => h.get? a = some { cls := .none, data := .fields ps }
  | .met f x => h.get? a = some (PySem.W.methodObj (.ref f) (.ref x))
  | .ext φ => φ h /\ (∃ o, h.get? a = some o) /\ ∀ h1 h2 : Heap, φ h1 -> (∀ o, h1.get? a = some o -> h2.get? a = some o) -> φ h2
def HOk (H : Hp) (h : Heap) : Prop := ∀ a o, H a = some o -> zaV P w H h a o
end

section
variable {P : Program} {w : World} {H H' : Hp} {h h' : Heap} {a : Addr} {o : HO}
theorem zaV.lt (x : zaV P w H h a o) : a < h.objs.size := by
  cases o with
  | lst xs => obtain ⟨_, _, _, _, e⟩ := x; exact Heap.lt_size e
  | tup xs => obtain ⟨_, _, _, p⟩ := x; exact p.lt
  | dK kvs => obtain ⟨_, _, _, _, o, _, _, e, _⟩ := x; exact Heap.lt_size e
  | dT kvs => obtain ⟨_, _, _, _, o, _, _, e, _⟩ := x; exact Heap.lt_size e
  | set S n => obtain ⟨o, _, _, _, e, _⟩ := x; exact Heap.lt_size e
  | ins C dx fs => obtain ⟨_, _, _, e, _⟩ := x; exact Heap.lt_size e
  | own y => obtain ⟨_, e⟩ := x; exact Heap.lt_size e
  | xd fs => obtain ⟨_, ⟨_, _, _, e, _⟩, _⟩ := x; exact Heap.lt_size e
  | rng lo hi => obtain ⟨_, _, _, e⟩ := x; exact Heap.lt_size e
  | frz ob u => obtain ⟨e, _⟩ := x; exact Heap.lt_size e
  | tbl ps => exact Heap.lt_size (show h.get? a = some _ from x)
  | met f y => exact Heap.lt_size (show h.get? a = some _ from x)
  | ext φ => obtain ⟨_, ⟨_, e⟩, _⟩ := x; exact Heap.lt_size e
theorem Paired.mapP {α β : Type} {F G : α -> β -> Prop} : ∀ {l₁ : List α} {l₂ : List β}, Paired F l₁ l₂ -> (∀ a b, F a b -> G a b) -> Paired G l₁ l₂
  | _, _, .nil, _ => .nil
  | _, _, .cons r t, f => .cons (f _ _ r) (Paired.mapP t f)
theorem zaV.stay (x : zaV P w H h a o) (k : ∀ b u, (b = a \/ H b = some (.own a)) -> h.get? b = some u -> h'.get? b = some u)
    (ho : ∀ b, H b = some (.own a) -> H' b = some (.own a)) (ht : ∀ b xs, H b = some (.tup xs) -> H' b = some (.tup xs)) : zaV P w H' h' a o := by
  induction o with
  | lst xs => obtain ⟨z, its, n, r, e⟩ := x; exact ⟨z, its, n, r, k _ _ (.inl rfl) e⟩
  | tup xs => obtain ⟨z, its, r, ob, e, c⟩ := x; exact ⟨z, its, r, ob, k _ _ (.inl rfl) e, c⟩
  | dK kvs => obtain ⟨z, y, vs, r, ob, es, ep, e, c⟩ := x; exact ⟨z, y, vs, r, ob, es, ep, k _ _ (.inl rfl) e, c⟩
  | dT kvs =>
    obtain ⟨z, y, xs, r, ob, es, ep, e, c⟩ := x
    exact ⟨z, y, xs, Paired.mapP r fun p q z => ⟨z.1, ht _ _ z.2.1, z.2.2⟩, ob, es, ep, k _ _ (.inl rfl) e, c⟩
  | set S n => obtain ⟨ob, es, ep, t, e, c⟩ := x; exact ⟨ob, es, ep, t, k _ _ (.inl rfl) e, c⟩
  | ins C dx fs =>
    obtain ⟨d, z, ne, e, mA, ⟨od, es, ep, e2, c⟩, r⟩ := x
    exact ⟨ho _ d, z, ne, k _ _ (.inl rfl) e, mA, ⟨od, es, ep, k _ _ (.inr d) e2, c⟩, r⟩
  | own y => obtain ⟨ob, e⟩ := x; exact ⟨ob, k _ _ (.inl rfl) e⟩
  | xd fs => obtain ⟨mA, ⟨od, es, ep, e, c⟩, r⟩ := x; exact ⟨mA, ⟨od, es, ep, k _ _ (.inl rfl) e, c⟩, r⟩
  | rng lo hi => obtain ⟨t, u, v, e⟩ := x; exact ⟨t, u, v, k _ _ (.inl rfl) e⟩
  | frz ob u ih => obtain ⟨e, q⟩ := x; exact ⟨k _ _ (.inl rfl) e, ih q⟩
  | tbl ps =>
    have e : h.get? a = some { cls := .none, data := .fields ps } := x
    show h'.get? a = some { cls := .none, data := .fields ps }
    exact k a _ (.inl rfl) e
  | met f y =>
    have e : h.get? a = some (PySem.W.methodObj (.ref f) (.ref y)) := x
    show h'.get? a = some (PySem.W.methodObj (.ref f) (.ref y))
    exact k a _ (.inl rfl) e
  | ext φ => obtain ⟨p, ⟨o, e⟩, st⟩ := x; exact ⟨st _ _ p fun o q => k _ _ (.inl rfl) q, ⟨o, k _ _ (.inl rfl) e⟩, st⟩
theorem HOk.lt (x : HOk P w H h) (e : H a = some o) : a < h.objs.size := (x a o e).lt
theorem HOk.fresh (x : HOk P w H h) (e : h.objs.size <= a) : H a = none := by
  cases q : H a with
  | none => rfl
  | some u => exact absurd (Nat.lt_of_lt_of_le (x.lt q) e) (Nat.lt_irrefl _)
theorem HOk.kept (x : HOk P w H h) (k : ∀ b u, h.get? b = some u -> h'.get? b = some u) : HOk P w H h' := fun a o e =>
  (x a o e).stay (fun b u _ q => k b u q) (fun _ q => q) fun _ _ q => q
theorem HOk.laid (x : HOk P w H h) (k : ∀ b u, h.get? b = some u -> h'.get? b = some u) (hp : h.objs.size <= a) (new : zaV P w (upd H a o) h' a o) : HOk P w (upd H a o) h' := fun b u e => by
  have hn := x.fresh hp
  by_cases hb : b = a
  . subst hb; rw [zF] at e; cases e; exact new
  . rw [zJ hb] at e
    exact (x b u e).stay (fun c v _ q => k c v q) (fun c q => by rw [zJ (zaD q hn)]; exact q) fun c xs q => by rw [zJ (zaD q hn)]; exact q
end

def Rd (H : Hp) (a : Addr) (u : HO) : Prop := H a = some u \/ ∃ o, H a = some (.frz o u)
theorem Rd.ok {P : Program} {w : World} {H : Hp} {h : Heap} {a : Addr} {u : HO} (r : Rd H a u) (x : HOk P w H h) : zaV P w H h a u := by
  rcases r with r | ⟨o, r⟩
  . exact x a u r
  . obtain ⟨_, q⟩ := x a _ r
    exact q
def Mut : Option HO -> Prop
  | some (.lst _) => True
  | some (.dK _) => True
  | some (.dT _) => True
  | some (.set _ _) => True
  | some (.ins _ _ _) => True
  | some (.ext _) => True
  | _ => False
section
variable {P : Program} {w : World} {H : Hp} {h h' : Heap} {x e : Addr} {o' : HO}
theorem HOk.write (ok : HOk P w H h) (mu : Mut (H x)) (he : e = x \/ H e = some (.own x)) (k : ∀ b u, b ≠ e -> h.get? b = some u -> h'.get? b = some u) (heo : ∃ u, h'.get? e = some u)
    (new : zaV P w (upd H x o') h' x o') : HOk P w (upd H x o') h' := fun b u q => by
  have nown : ∀ c y, H c = some (.own y) -> c ≠ x := fun c y r z => by subst z; rw [r] at mu; exact mu
  have ntup : ∀ c xs, H c = some (.tup xs) -> c ≠ x := fun c xs r z => by subst z; rw [r] at mu; exact mu
  by_cases hb : b = x
  . subst hb; rw [zF] at q; cases q; exact new
  . rw [zJ hb] at q
    by_cases hbe : b = e
    . have q' : H b = some (.own x) := by
        rcases he with z | z
        . exact absurd (hbe.trans z) hb
        . rw [hbe]; exact z
      rw [q] at q'; cases q'
      obtain ⟨v, hv⟩ := heo
      exact ⟨v, by rw [hbe]; exact hv⟩
    . refine (ok b u q).stay (fun c v hc r => k c v ?_ r) (fun c r => by rw [zJ (nown c b r)]; exact r) fun c xs r => by rw [zJ (ntup c xs r)]; exact r
      rcases hc with rfl | hc
      . exact hbe
      . rintro rfl
        rcases he with z | z
        . exact nown c b hc z
        . rw [hc] at z; cases z; exact hb rfl
end

structure Un (fs ex : List Addr) (H H' : Hp) (h h' : Heap) : Prop where
  keep : ∀ b o, h.get? b = some o -> H b = none -> b ∉ fs -> b ∉ ex -> h'.get? b = some o
  slot : ∀ b o, h.get? b = some o -> H b = none -> b ∈ fs -> b ∉ ex -> ∃ sl, h'.get? b = some { o with slots := sl }
  free : ∀ b o, h.get? b = some o -> H b = none -> b ∉ ex -> H' b = none
  there : ∀ b o, h.get? b = some o -> b ∉ ex -> ∃ o', h'.get? b = some o'
  tups : ∀ b xs, H b = some (.tup xs) -> H' b = some (.tup xs)
  frzs : ∀ b o u, H b = some (.frz o u) -> H' b = some (.frz o u)
  tbls : ∀ b ps, H b = some (.tbl ps) -> ∃ more, H' b = some (.tbl (ps ++ more))
section
variable {fs fs' ex ex' : List Addr} {H H1 H2 : Hp} {h h1 h2 h' : Heap} {a x e : Addr} {o : HO}
theorem Un.any (u : Un fs ex H H1 h h1) {b : Addr} {ob : Obj} (q : h.get? b = some ob) (n : H b = none) (hx : b ∉ ex) : ∃ sl, h1.get? b = some { ob with slots := sl } := by
  by_cases hb : b ∈ fs
  . exact u.slot b ob q n hb hx
  . exact ⟨ob.slots, u.keep b ob q n hb hx⟩
theorem Un.kept (k : ∀ b u, h.get? b = some u -> h'.get? b = some u) : Un fs ex H H h h' :=
  ⟨fun b ob q _ _ _ => k b ob q, fun b ob q _ _ _ => ⟨ob.slots, k b ob q⟩, fun _ _ _ n _ => n, fun b ob q _ => ⟨ob, k b ob q⟩, fun _ _ q => q, fun _ _ _ q => q, fun _ ps q => ⟨#[], by rw [q]; simp⟩⟩
theorem Un.refl : Un fs ex H H h h := Un.kept fun _ _ q => q
theorem Un.laid (k : ∀ b u, h.get? b = some u -> h'.get? b = some u) (hp : h.objs.size <= a) (hn : H a = none) : Un fs ex H (upd H a o) h h' where
  keep := fun b u q _ _ _ => k b u q
  slot := fun b u q _ _ _ => ⟨u.slots, k b u q⟩
  free := fun b u q n _ => by rw [zJ (Nat.ne_of_lt (Nat.lt_of_lt_of_le (Heap.lt_size q) hp))]; exact n
  there := fun b u q _ => ⟨u, k b u q⟩
  tups := fun b xs q => by rw [zJ (zaD q hn)]; exact q
  frzs := fun b u xs q => by rw [zJ (zaD q hn)]; exact q
  tbls := fun b ps q => ⟨#[], by rw [zJ (zaD q hn), q]; simp⟩
theorem Un.write (mu : Mut (H x)) (he : e = x \/ H e = some (.own x)) (k : ∀ b u, b ≠ e -> h.get? b = some u -> h'.get? b = some u) (heo : ∃ u, h'.get? e = some u) : Un fs ex H (upd H x o) h h' := by
  have hx : ∀ b, H b = none -> b ≠ x := fun b n z => by subst z; rw [n] at mu; exact mu
  have hb : ∀ b, H b = none -> b ≠ e := fun b n z => by
    subst z
    rcases he with r | r
    . exact hx b n r
    . rw [n] at r; cases r
  have hm : ∀ b u, H b = some u -> ¬ Mut (some u) -> b ≠ x := fun b u q nm z => by subst z; rw [q] at mu; exact nm mu
  refine ⟨fun b u q n _ _ => k b u (hb b n) q, fun b u q n _ _ => ⟨u.slots, k b u (hb b n) q⟩, fun b u q n _ => by rw [zJ (hx b n)]; exact n, fun b u q _ => ?_,
    fun b xs q => by rw [zJ (hm b _ q fun z => z)]; exact q, fun b u xs q => by rw [zJ (hm b _ q fun z => z)]; exact q, fun b ps q => ⟨#[], by rw [zJ (hm b _ q fun z => z), q]; simp⟩⟩
  by_cases hbe : b = e
  . subst hbe; exact heo
  . exact ⟨u, k b u hbe q⟩
end

def trk (h : Heap) (H : Hp) : List Addr := (List.range h.objs.size).filter fun a => (H a).isSome
def zja (h : Heap) (H : Hp) : Heap := PySem.W.hideAll h (trk h H)
theorem zm4 (h : Heap) (H : Hp) : (zja h H).objs.size = h.objs.size := PySem.W.hideAll_size _ _
theorem zpQ {h : Heap} {H : Hp} {b : Addr} {o : Obj} (e : h.get? b = some o) (n : H b = none) : (zja h H).get? b = some o :=
  PySem.W.hideAll_get _ e fun hm => by
    have q : (H b).isSome = true := (List.mem_filter.mp hm).2
    rw [n] at q; simp at q
theorem zqU {h : Heap} {H : Hp} {b : Addr} {o : Obj} (e : (zja h H).get? b = some o) : h.get? b = some o /\ H b = none := by
  have e' : h.get? b = some o := PySem.W.of_hideAll (trk h H) e
  refine ⟨e', ?_⟩
  cases q : H b with
  | none => rfl
  | some x =>
    have hm : b ∈ trk h H := List.mem_filter.mpr ⟨List.mem_range.mpr (Heap.lt_size e'), by simp [q]⟩
    have z : (zja h H).get? b = none := PySem.W.hideAll_none (trk h H) hm
    rw [z] at e; cases e

def zrI (g h : Heap) (L : Addr) : List (Addr × Obj) := (List.range h.objs.size).filterMap fun a => if a = L \/ (g.get? a).isSome = true then none else (h.get? a).map fun o => (a, o)
def rest (g h : Heap) (L d : Addr) : List (Addr × Obj) := (zrI g h L).filter fun p => decide (p.1 ≠ d)
end L2

namespace L2
open PySem PySem.Spec PyProof.Rows

structure Mod (K : PySem.W.Frag) (mg : Str -> Option Value) (base : Heap) : Prop where
  kin : K.In base
  glob : base.Ns mainGlobals mg
  blt : ∃ mb, base.Ns builtinsNs mb /\ ∀ x : Str, x ≠ "__name__" -> mb x = bootBuiltins x
  nolimit : base.NoLimit

structure Cx where
  prog : Program
  w : World
  K : PySem.W.Frag
  mg : Str -> Option Value
  base : Heap
  A : Around
  N : List Str
  s₀ : Shared
  H₀ : Hp
  env : Env
  outer : List Env
  stack : List Env
  ex : List Addr
  fn : Str -> Bool
  calm : Bool
  pn : List (Addr × Obj)
  xe : Value -> Shared -> Prop
def frs (l : List Env) : List Addr := l.filterMap (·.frame)
abbrev Cx.fs (X : Cx) : List Addr := frs X.outer

def Vis (sc : Scope) (x : Str) : Prop := sc.names.lookup x = some .local \/ sc.names.lookup x = some .cell \/ sc.names.lookup x = some .free
def Loc (sc : Scope) (x : Str) : Prop := sc.names.lookup x = some .local \/ sc.names.lookup x = some .cell
def Look (env : Env) (h : Heap) (m : Str -> Option Value) (x : Str) (u : Value) : Prop :=
  (env.kindOf x = some .local /\ m x = some u) \/ ((env.kindOf x = some .cell \/ env.kindOf x = some .free) /\ ∃ c, env.cells.lookup x = some c /\ h.IsCell c (some u))

structure Cx.Ok (X : Cx) : Prop where
  mod : Mod X.K X.mg X.base
  kind : X.env.scope.kind = .function
  glob : X.env.globals = mainGlobals
  blt : X.env.builtins = builtinsNs
  above : X.s₀.heap.objs.size <= X.env.locals
  inj : ∀ x y c, X.env.cells.lookup x = some c -> X.env.cells.lookup y = some c -> x = y
  has : ∀ x, (X.env.kindOf x = some .cell \/ X.env.kindOf x = some .free) -> ∃ c, X.env.cells.lookup x = some c
  cab : ∀ x c, X.fn x = true -> X.env.cells.lookup x = some c -> X.s₀.heap.objs.size <= c
  hd : X.calm = true -> X.A.handled = none
  frames : X.A.frames = some X.stack
  stk : X.stack = X.outer \/ (X.stack = X.env :: X.outer /\ X.env.frame = some X.env.locals)
  exf : ∀ b ∈ X.ex, b ≠ X.env.locals /\ ∀ x c, X.env.cells.lookup x = some c -> c ≠ b
  bs : ∀ b o, X.base.get? b = some o -> X.s₀.heap.get? b = some o /\ X.H₀ b = none
  bsz : X.base.objs.size <= X.s₀.heap.objs.size
  noex : ∀ b o, X.base.get? b = some o -> b ∉ X.ex
  exfs : ∀ b ∈ X.ex, b ∉ X.fs
  funs : X.s₀.heap.FunFrames X.base X.outer
  frf : ∀ b ∈ X.fs, X.H₀ b = none

structure Inv (X : Cx) (pins : List (Addr × Obj)) (σ : List (Option V)) (H : Hp) (s : Shared) : Prop where
  ok : X.Ok
  os : s.os = X.s₀.os
  bare : AllBare s.gens
  base : Un X.fs X.ex X.H₀ H X.s₀.heap s.heap
  loc : ∃ m, s.heap.Ns X.env.locals m /\ ∀ (i : Nat) (x : Str) (v : V), X.N[i]? = some x -> σ[i]? = some (some v) -> Vis X.env.scope x -> ∃ u, RelV v u /\ Look X.env s.heap m x u
  cell : ∀ x c, X.env.cells.lookup x = some c -> ∃ v, s.heap.IsCell c v
  free : H X.env.locals = none
  freeC : ∀ x c, X.env.cells.lookup x = some c -> H c = none
  pin : ∀ p ∈ X.pn ++ pins, s.heap.get? p.1 = some p.2 /\ H p.1 = none /\ p.1 ≠ X.env.locals /\ p.1 ∉ X.fs /\ ∀ v, p.2.data ≠ .cell v
  hok : HOk X.prog X.w H s.heap
  len : σ.length = X.N.length

section
variable {X : Cx} {pins : List (Addr × Obj)} {σ : List (Option V)} {H H' : Hp} {s : Shared} {h' : Heap}

theorem Cx.Ok.nofr (ok : X.Ok) {b : Addr} {o : Obj} (e : X.base.get? b = some o) : b ∉ X.fs := fun hb => by
  have := (ok.funs.mem hb).1
  rw [e] at this; cases this
theorem Inv.bs (I : Inv X pins σ H s) : ∀ b o, X.base.get? b = some o -> s.heap.get? b = some o /\ H b = none := fun b o e =>
  ⟨I.base.keep b o (I.ok.bs b o e).1 (I.ok.bs b o e).2 (I.ok.nofr e) (I.ok.noex b o e), I.base.free b o (I.ok.bs b o e).1 (I.ok.bs b o e).2 (I.ok.noex b o e)⟩
theorem Inv.bk (I : Inv X pins σ H s) : ∀ b o, X.base.get? b = some o -> s.heap.get? b = some o := fun b o e => (I.bs b o e).1
theorem Inv.mod (I : Inv X pins σ H s) : Mod X.K X.mg X.base := I.ok.mod
theorem Inv.kIn (I : Inv X pins σ H s) : X.K.In s.heap := I.ok.mod.kin.keeps I.bk
theorem Inv.lt (I : Inv X pins σ H s) : X.env.locals < s.heap.objs.size := let ⟨_, hn, _⟩ := I.loc; hn.lt
theorem Inv.sz (I : Inv X pins σ H s) : X.s₀.heap.objs.size <= s.heap.objs.size := Nat.le_trans I.ok.above (Nat.le_of_lt I.lt)
theorem Inv.nofs (I : Inv X pins σ H s) {a : Addr} (h : s.heap.objs.size <= a) : a ∉ X.fs := fun hb => by
  obtain ⟨_, o, ho, _⟩ := I.ok.funs.mem hb
  exact absurd (Nat.lt_of_lt_of_le (Heap.lt_size ho) (Nat.le_trans I.sz h)) (Nat.lt_irrefl _)
theorem Inv.cne (I : Inv X pins σ H s) : ∀ x c, X.env.cells.lookup x = some c -> c ≠ X.env.locals := fun x c e z => by
  obtain ⟨v, o, ho, hd⟩ := I.cell x c e
  obtain ⟨m, ⟨o', es, ep, ho', hd', _⟩, _⟩ := I.loc
  rw [z, ho'] at ho; cases ho; rw [hd'] at hd; cases hd
theorem Inv.funs (I : Inv X pins σ H s) : s.heap.FunFrames X.base X.outer := by
  have all : ∀ (l : List Env), (∀ b ∈ frs l, b ∈ X.fs) -> X.s₀.heap.FunFrames X.base l -> s.heap.FunFrames X.base l := by
    intro l
    induction l with
    | nil => intro _ _; trivial
    | cons env r ih =>
      intro hs hl
      obtain ⟨hk, ⟨L, o, hf, hn, ho, hd⟩, hr⟩ := hl
      have hL : L ∈ X.fs := hs L (by unfold frs; rw [List.filterMap_cons, hf]; exact List.mem_cons_self)
      obtain ⟨sl, e⟩ := I.base.slot L o ho (I.ok.frf L hL) hL fun z => I.ok.exfs L z hL
      exact ⟨hk, ⟨L, _, hf, hn, e, hd⟩, ih (fun b hb => hs b (by unfold frs; rw [List.filterMap_cons, hf]; exact List.mem_cons_of_mem _ hb)) hr⟩
  exact all X.outer (fun _ hb => hb) I.ok.funs

theorem Inv.stack (I : Inv X pins σ H s) : s.heap.FunFrames X.base X.stack := by
  rcases I.ok.stk with e | ⟨e, hf⟩
  . rw [e]; exact I.funs
  . rw [e]
    obtain ⟨m, hn, _⟩ := I.loc
    refine .cons (by rw [I.ok.kind]; decide) hf hn ?_ I.funs
    exact Heap.get?_none_of_le (Nat.le_trans I.ok.bsz I.ok.above)
theorem Inv.stkSub (I : Inv X pins σ H s) : ∀ b ∈ frs X.stack, b ∈ X.env.locals :: X.fs := fun b hb => by
  rcases I.ok.stk with e | ⟨e, hf⟩
  . rw [e] at hb; exact List.mem_cons_of_mem _ hb
  . rw [e] at hb
    unfold frs at hb
    rw [List.filterMap_cons, hf] at hb
    exact hb
theorem Inv.stkFree (I : Inv X pins σ H s) : ∀ b ∈ frs X.stack, H b = none := fun b hb => by
  rcases List.mem_cons.mp (I.stkSub b hb) with e | hb
  . rw [e]; exact I.free
  . obtain ⟨_, o, ho, _⟩ := I.ok.funs.mem hb
    exact I.base.free b o ho (I.ok.frf b hb) fun z => I.ok.exfs b z hb

theorem Inv.step {g' : Array GenState} {t' : Nat} {d' : Drawn} {ch : List Addr} (I : Inv X pins σ H s)
    (hch : ∀ b ∈ ch, (b ∈ X.ex \/ X.s₀.heap.objs.size <= b) /\ b ≠ X.env.locals /\ (∀ x c, X.env.cells.lookup x = some c -> c ≠ b) /\ ∀ p ∈ X.pn ++ pins, p.1 ≠ b)
    (keep : ∀ b o, b ≠ X.env.locals -> b ∉ X.fs -> b ∉ ch -> s.heap.get? b = some o -> H b = none -> h'.get? b = some o)
    (slot : ∀ b o, b ≠ X.env.locals -> b ∈ X.fs -> b ∉ ch -> s.heap.get? b = some o -> H b = none -> ∃ sl, h'.get? b = some { o with slots := sl }) (free : ∀ b o, b ∉ ch -> s.heap.get? b = some o -> H b = none -> H' b = none)
    (there : ∀ b o, b ∉ ch -> s.heap.get? b = some o -> ∃ o', h'.get? b = some o')
    (tups : ∀ b xs, H b = some (.tup xs) -> H' b = some (.tup xs)) (frzs : ∀ b o u, H b = some (.frz o u) -> H' b = some (.frz o u)) (tbls : ∀ b ps, H b = some (.tbl ps) -> ∃ more, H' b = some (.tbl (ps ++ more)))
    (ns : ∀ m, s.heap.Ns X.env.locals m -> h'.Ns X.env.locals m) (hok : HOk X.prog X.w H' h') (hg : AllBare g') :
    Inv X pins σ H' { s with heap := h', gens := g', drawn := d', toks := t' } := by
  have neL : ∀ b o, X.s₀.heap.get? b = some o -> b ≠ X.env.locals := fun b o e => Nat.ne_of_lt (Nat.lt_of_lt_of_le (Heap.lt_size e) I.ok.above)
  have neC : ∀ b o, X.s₀.heap.get? b = some o -> b ∉ X.ex -> b ∉ ch := fun b o e hx hb => by
    rcases (hch b hb).1 with z | z
    . exact hx z
    . exact absurd (Nat.lt_of_lt_of_le (Heap.lt_size e) z) (Nat.lt_irrefl _)
  have cellK : ∀ x c, X.env.cells.lookup x = some c -> ∀ v, s.heap.IsCell c v -> h'.IsCell c v := fun x c e v ⟨o, ho, hd⟩ => by
    have nch : c ∉ ch := fun z => (hch c z).2.2.1 x c e rfl
    by_cases hc : c ∈ X.fs
    . obtain ⟨sl, q⟩ := slot c o (I.cne x c e) hc nch ho (I.freeC x c e)
      exact ⟨_, q, hd⟩
    . exact ⟨o, keep c o (I.cne x c e) hc nch ho (I.freeC x c e), hd⟩
  refine ⟨I.ok, I.os, hg, ⟨fun b o e n hb hx => ?_, fun b o e n hb hx => ?_, fun b o e n hx => ?_, fun b o e hx => ?_, fun b xs e => tups b xs (I.base.tups b xs e), fun b o xs e => frzs b o xs (I.base.frzs b o xs e), fun b ps e => ?_⟩, ?_, fun x c e => ?_, ?_, fun x c e => ?_, fun p hp => ?_, hok, I.len⟩
  . exact keep b o (neL b o e) hb (neC b o e hx) (I.base.keep b o e n hb hx) (I.base.free b o e n hx)
  . obtain ⟨sl, e1⟩ := I.base.slot b o e n hb hx
    obtain ⟨sl', e2⟩ := slot b _ (neL b o e) hb (neC b o e hx) e1 (I.base.free b o e n hx)
    exact ⟨sl', e2⟩
  . obtain ⟨o', e1⟩ := I.base.there b o e hx
    exact free b o' (neC b o e hx) e1 (I.base.free b o e n hx)
  . obtain ⟨o', e1⟩ := I.base.there b o e hx
    exact there b o' (neC b o e hx) e1
  . obtain ⟨m1, e1⟩ := I.base.tbls b ps e
    obtain ⟨m2, e2⟩ := tbls b _ e1
    exact ⟨m1 ++ m2, by rw [e2, Array.append_assoc]⟩
  . obtain ⟨m, hn, hl⟩ := I.loc
    refine ⟨m, ns m hn, fun i x v e1 e2 e3 => ?_⟩
    obtain ⟨u, r, l⟩ := hl i x v e1 e2 e3
    refine ⟨u, r, ?_⟩
    rcases l with l | ⟨k, c, e, z⟩
    . exact .inl l
    . exact .inr ⟨k, c, e, cellK x c e _ z⟩
  . obtain ⟨v, z⟩ := I.cell x c e
    exact ⟨v, cellK x c e v z⟩
  . obtain ⟨m, ⟨o, _, _, ho, _⟩, _⟩ := I.loc
    exact free _ o (fun z => (hch _ z).2.1 rfl) ho I.free
  . obtain ⟨v, o, ho, hd⟩ := I.cell x c e
    exact free c o (fun z => (hch c z).2.2.1 x c e rfl) ho (I.freeC x c e)
  . obtain ⟨e, n, ne, nf, d⟩ := I.pin p hp
    have nch : p.1 ∉ ch := fun z => (hch p.1 z).2.2.2 p hp rfl
    exact ⟨keep p.1 p.2 ne nf nch e n, free p.1 p.2 nch e n, ne, nf, d⟩
theorem Inv.un {t' : Nat} (I : Inv X pins σ H s) (u : Un X.fs [] H H' s.heap h') (hok : HOk X.prog X.w H' h') : Inv X pins σ H' { s with heap := h', toks := t' } := by
  obtain ⟨m, ⟨o, es, ep, ho, r⟩, _⟩ := id I.loc
  obtain ⟨sl, hL⟩ := u.any ho I.free (by simp)
  exact I.step (g' := s.gens) (d' := s.drawn) (ch := []) (fun _ z => nomatch z) (fun b o _ hb _ e n => u.keep b o e n hb (by simp)) (fun b o _ hb _ e n => u.slot b o e n hb (by simp)) (fun b o _ e n => u.free b o e n (by simp)) (fun b o _ e => u.there b o e (by simp)) u.tups u.frzs u.tbls (fun m' hm => by
    obtain ⟨o', es', ep', ho', r'⟩ := hm
    rw [ho] at ho'; cases ho'
    exact ⟨_, es', ep', hL, r'⟩) hok I.bare
theorem Inv.call {g' : Array GenState} {t' : Nat} {d' : Drawn} {ch : List Addr} (I : Inv X pins σ H s) (u : Un (frs X.stack) ch H H' s.heap h') (hok : HOk X.prog X.w H' h') (hg : AllBare g')
    (hch : ∀ b ∈ ch, (b ∈ X.ex \/ X.s₀.heap.objs.size <= b) /\ b ≠ X.env.locals /\ (∀ x c, X.env.cells.lookup x = some c -> c ≠ b) /\ ∀ p ∈ X.pn ++ pins, p.1 ≠ b) :
    Inv X pins σ H' { s with heap := h', gens := g', drawn := d', toks := t' } := by
  obtain ⟨m, ⟨o, es, ep, ho, r⟩, _⟩ := id I.loc
  obtain ⟨sl, hL⟩ := u.any ho I.free fun z => (hch _ z).2.1 rfl
  exact I.step (ch := ch) hch (fun b o hL hb hc e n => u.keep b o e n (fun z => (List.mem_cons.mp (I.stkSub b z)).elim hL hb) hc) (fun b o _ _ hc e n => u.any e n hc) (fun b o hc e n => u.free b o e n hc) (fun b o hc e => u.there b o e hc) u.tups u.frzs u.tbls (fun m' hm => by
    obtain ⟨o', es', ep', ho', r'⟩ := hm
    rw [ho] at ho'; cases ho'
    exact ⟨_, es', ep', hL, r'⟩) hok hg
theorem Inv.turned {t' : Nat} {it : Addr} (I : Inv X pins σ H s) (k : ∀ b o, b ≠ it -> s.heap.get? b = some o -> h'.get? b = some o) (hn : H it = none) (hL : it ≠ X.env.locals)
    (h1 : it ∈ X.ex \/ X.s₀.heap.objs.size <= it) (h2 : ∀ x c, X.env.cells.lookup x = some c -> c ≠ it) (h3 : ∀ p ∈ X.pn ++ pins, p.1 ≠ it) : Inv X pins σ H { s with heap := h', toks := t' } := by
  have nit : ∀ b u, H b = some u -> b ≠ it := fun b u e z => by rw [z, hn] at e; cases e
  refine I.step (g' := s.gens) (d' := s.drawn) (ch := [it]) (fun b hb => ?_) (fun b o _ _ hc e _ => k b o (fun z => hc (by simp [z])) e) (fun b o _ _ hc e _ => ⟨o.slots, k b o (fun z => hc (by simp [z])) e⟩) (fun _ _ _ _ n => n)
    (fun b o hc e => ⟨o, k b o (fun z => hc (by simp [z])) e⟩) (fun _ _ e => e) (fun _ _ _ e => e) (fun b ps e => ⟨#[], by rw [e]; simp⟩) (fun m hm => ?_) (fun b u e => ?_) I.bare
  . have e : b = it := by simpa using hb
    subst e
    exact ⟨h1, hL, h2, h3⟩
  . obtain ⟨o, es, ep, ho, r⟩ := hm
    exact ⟨o, es, ep, k _ o (Ne.symm hL) ho, r⟩
  . refine (I.hok b u e).stay (fun c v hc q => k c v ?_ q) (fun _ q => q) fun _ _ q => q
    rcases hc with z | z
    . rw [z]; exact nit b u e
    . exact nit c _ z
theorem Inv.tok (I : Inv X pins σ H s) (t : Nat) : Inv X pins σ H { s with toks := t } := I.un (h' := s.heap) (t' := t) Un.refl I.hok
theorem Inv.kept {t' : Nat} (I : Inv X pins σ H s) (k : ∀ b u, s.heap.get? b = some u -> h'.get? b = some u) : Inv X pins σ H { s with heap := h', toks := t' } := I.un (Un.kept k) (I.hok.kept k)
theorem Inv.laid {a : Addr} {o : HO} {t' : Nat} (I : Inv X pins σ H s) (k : ∀ b u, s.heap.get? b = some u -> h'.get? b = some u) (hp : s.heap.objs.size <= a) (new : zaV X.prog X.w (upd H a o) h' a o) :
    Inv X pins σ (upd H a o) { s with heap := h', toks := t' } := I.un (Un.laid k hp (I.hok.fresh hp)) (I.hok.laid k hp new)
theorem Inv.write {x e : Addr} {o : HO} {t' : Nat} (I : Inv X pins σ H s) (mu : Mut (H x)) (he : e = x \/ H e = some (.own x)) (k : ∀ b u, b ≠ e -> s.heap.get? b = some u -> h'.get? b = some u) (heo : ∃ u, h'.get? e = some u)
    (new : zaV X.prog X.w (upd H x o) h' x o) : Inv X pins σ (upd H x o) { s with heap := h', toks := t' } := I.un (Un.write mu he k heo) (I.hok.write mu he k heo new)
theorem Inv.weak {σ' : List (Option V)} (I : Inv X pins σ H s) (hl : σ'.length = σ.length) (w : ∀ (i : Nat) v, σ'[i]? = some (some v) -> σ[i]? = some (some v)) : Inv X pins σ' H s :=
  ⟨I.ok, I.os, I.bare, I.base, let ⟨m, hn, hl'⟩ := I.loc; ⟨m, hn, fun i x v e1 e2 e3 => hl' i x v e1 (w i v e2) e3⟩, I.cell, I.free, I.freeC, I.pin, I.hok, hl.trans I.len⟩
theorem Inv.pins_of {pins' : List (Addr × Obj)} (I : Inv X pins σ H s) (h : ∀ p ∈ pins', s.heap.get? p.1 = some p.2 /\ H p.1 = none /\ p.1 ≠ X.env.locals /\ p.1 ∉ X.fs /\ ∀ v, p.2.data ≠ .cell v) : Inv X pins' σ H s :=
  ⟨I.ok, I.os, I.bare, I.base, I.loc, I.cell, I.free, I.freeC, fun p hp => (List.mem_append.mp hp).elim (fun z => I.pin p (List.mem_append_left _ z)) (h p), I.hok, I.len⟩

theorem zkL {N : List Str} (hN : N.Nodup) {i j : Nat} {x : Str} (a : N[i]? = some x) (b : N[j]? = some x) : i = j := by
  obtain ⟨h1, e1⟩ := List.getElem?_eq_some_iff.mp a
  obtain ⟨h2, e2⟩ := List.getElem?_eq_some_iff.mp b
  exact (List.getElem_inj hN).mp (e1.trans e2.symm)

theorem zhP {M : Model} {A : Around} {E : Value -> Shared -> Prop} {i : Nat} {x : Str} {v : V} {u : Value} {Q : Unit -> Shared -> Prop} (I : Inv X pins σ H s) (hN : X.N.Nodup) (hi : X.N[i]? = some x) (hx : Loc X.env.scope x) (r : RelV v u)
    (h : ∀ s', Inv X pins (σ.set i (some v)) H s' -> (∃ a, Heap.SameBut a s.heap s'.heap /\ (a = X.env.locals \/ X.env.cells.lookup x = some a)) -> Q () s') (hf : X.fn x = true \/ X.env.scope.names.lookup x = some .local := by first | exact .inl rfl | exact .inr rfl | assumption) : wpAny M A (storeName X.env x u) Q E s := by
  obtain ⟨m, hn, hl⟩ := id I.loc
  have hcls : (X.env.scope.kind == .class || (X.env.scope.kind == .module && X.env.locals != X.env.globals)) = false := by rw [I.ok.kind]; rfl
  have hiσ : i < σ.length := by rw [I.len]; exact (List.getElem?_eq_some_iff.mp hi).1
  have cne := I.cne
  have tracked : ∀ {a : Addr} {h' : Heap}, (∃ o, s.heap.get? a = some o /\ H a = none) -> Heap.SameBut a s.heap h' -> HOk X.prog X.w H h' := fun {a h'} ha hs b ob e => by
    obtain ⟨_, _, hfree⟩ := ha
    refine (I.hok b ob e).stay (fun c w' hc q => (hs.2 c ?_).trans q) (fun _ q => q) fun _ _ q => q
    rintro rfl
    rcases hc with rfl | hc
    . rw [hfree] at e; cases e
    . rw [hfree] at hc; cases hc
  rcases hx with hk | hk
  . refine wpAny_storeName_local hk hn (fun h' hn' hs => ?_) hcls
    obtain ⟨oL, _, _, hoL, _⟩ := id hn
    refine h _ ⟨I.ok, I.os, I.bare, ⟨fun b o e n hb hx => ?_, fun b o e n hb hx => ?_, I.base.free, fun b o e hx => ?_, I.base.tups, I.base.frzs, I.base.tbls⟩, ⟨_, hn', fun j y v' e1 e2 e3 => ?_⟩, fun y c e => ?_, I.free, I.freeC, fun p hp => ?_, tracked ⟨oL, hoL, I.free⟩ hs, by simpa using I.len⟩ ⟨_, hs, .inl rfl⟩
    . exact (hs.2 b (Nat.ne_of_lt (Nat.lt_of_lt_of_le (Heap.lt_size e) I.ok.above))).trans (I.base.keep b o e n hb hx)
    . obtain ⟨sl, e1⟩ := I.base.slot b o e n hb hx
      exact ⟨sl, (hs.2 b (Nat.ne_of_lt (Nat.lt_of_lt_of_le (Heap.lt_size e) I.ok.above))).trans e1⟩
    . obtain ⟨o', e1⟩ := I.base.there b o e hx
      exact ⟨o', (hs.2 b (Nat.ne_of_lt (Nat.lt_of_lt_of_le (Heap.lt_size e) I.ok.above))).trans e1⟩
    . by_cases hj : j = i
      . subst hj
        rw [hi] at e1; cases e1
        rw [List.getElem?_set_self hiσ] at e2
        cases e2
        exact ⟨u, r, .inl ⟨hk, by simp⟩⟩
      . rw [List.getElem?_set_ne (Ne.symm hj)] at e2
        obtain ⟨u', r', q⟩ := hl j y v' e1 e2 e3
        refine ⟨u', r', ?_⟩
        rcases q with ⟨k, e⟩ | ⟨k, c, e, z⟩
        . refine .inl ⟨k, ?_⟩
          have : y ≠ x := fun e => hj (zkL hN e1 (e ▸ hi))
          simp [this, e]
        . exact .inr ⟨k, c, e, z.sameBut hs (cne y c e)⟩
    . obtain ⟨w', z⟩ := I.cell y c e
      exact ⟨w', z.sameBut hs (cne y c e)⟩
    . obtain ⟨e, n, ne, nf, d⟩ := I.pin p hp
      exact ⟨(hs.2 p.1 ne).trans e, n, ne, nf, d⟩
  . have hfn : X.fn x = true := by
      rcases hf with z | z
      . exact z
      . rw [z] at hk; cases hk
    obtain ⟨c, hc⟩ := I.ok.has x (.inl hk)
    obtain ⟨w', z⟩ := I.cell x c hc
    refine wpAny_storeName_cell I.ok.kind hk hc z (fun h' hc' hs => ?_)
    obtain ⟨oc, hoc, hocd⟩ := id z
    refine h { s with heap := h' } ⟨I.ok, I.os, I.bare, ⟨fun b o e n hb hx => ?_, fun b o e n hb hx => ?_, I.base.free, fun b o e hx => ?_, I.base.tups, I.base.frzs, I.base.tbls⟩, ⟨m, hn.sameBut hs (Ne.symm (cne x c hc)), fun j y v' e1 e2 e3 => ?_⟩, fun y c' e => ?_, I.free, I.freeC, fun p hp => ?_, tracked ⟨oc, hoc, I.freeC x c hc⟩ hs, by simpa using I.len⟩ ⟨c, hs, .inr hc⟩
    . exact (hs.2 b (Nat.ne_of_lt (Nat.lt_of_lt_of_le (Heap.lt_size e) (I.ok.cab x c hfn hc)))).trans (I.base.keep b o e n hb hx)
    . obtain ⟨sl, e1⟩ := I.base.slot b o e n hb hx
      exact ⟨sl, (hs.2 b (Nat.ne_of_lt (Nat.lt_of_lt_of_le (Heap.lt_size e) (I.ok.cab x c hfn hc)))).trans e1⟩
    . obtain ⟨o', e1⟩ := I.base.there b o e hx
      exact ⟨o', (hs.2 b (Nat.ne_of_lt (Nat.lt_of_lt_of_le (Heap.lt_size e) (I.ok.cab x c hfn hc)))).trans e1⟩
    . by_cases hj : j = i
      . subst hj
        rw [hi] at e1; cases e1
        rw [List.getElem?_set_self hiσ] at e2
        cases e2
        exact ⟨u, r, .inr ⟨.inl hk, c, hc, hc'⟩⟩
      . rw [List.getElem?_set_ne (Ne.symm hj)] at e2
        obtain ⟨u', r', q⟩ := hl j y v' e1 e2 e3
        refine ⟨u', r', ?_⟩
        rcases q with q | ⟨k, c', e, z'⟩
        . exact .inl q
        . refine .inr ⟨k, c', e, z'.sameBut hs ?_⟩
          rintro rfl
          exact hj (zkL hN e1 (I.ok.inj _ _ _ e hc ▸ hi))
    . by_cases hcc : c' = c
      . subst hcc; exact ⟨_, hc'⟩
      . obtain ⟨w2, z2⟩ := I.cell y c' e
        exact ⟨w2, z2.sameBut hs hcc⟩
    . obtain ⟨e, n, ne, nf, d⟩ := I.pin p hp
      refine ⟨(hs.2 p.1 ?_).trans e, n, ne, nf, d⟩
      intro q
      rw [q, hoc] at e
      have q' : oc = p.2 := Option.some.inj e
      exact d w' (by rw [<- q']; exact hocd)
theorem zjG {M : Model} {A : Around} {E : Value -> Shared -> Prop} {i : Nat} {x : Str} {v : V} {u : Value} {Q : Unit -> Shared -> Prop} (I : Inv X pins σ H s) (hN : X.N.Nodup) (hi : X.N[i]? = some x) (hx : Loc X.env.scope x) (r : RelV v u)
    (h : ∀ s', Inv X pins (σ.set i (some v)) H s' -> Q () s') (hf : X.fn x = true \/ X.env.scope.names.lookup x = some .local := by first | exact .inl rfl | exact .inr rfl | assumption) : wpAny M A (storeName X.env x u) Q E s :=
  zhP I hN hi hx r (fun s' I' _ => h s' I') hf
theorem Inv.call' {s' : Shared} {ch : List Addr} (I : Inv X pins σ H s) (ho : s'.os = s.os) (u : Un (frs X.stack) ch H H' s.heap s'.heap) (hok : HOk X.prog X.w H' s'.heap) (hg : AllBare s'.gens)
    (hch : ∀ b ∈ ch, (b ∈ X.ex \/ X.s₀.heap.objs.size <= b) /\ b ≠ X.env.locals /\ (∀ x c, X.env.cells.lookup x = some c -> c ≠ b) /\ ∀ p ∈ X.pn ++ pins, p.1 ≠ b) : Inv X pins σ H' s' := by
  obtain ⟨h', g', d', t', o'⟩ := s'
  have e : o' = s.os := ho
  subst e
  exact I.call (g' := g') (t' := t') (d' := d') u hok hg hch
end

abbrev XK := Value -> Option Addr -> Hp -> Prop
abbrev St := List (Option V)
abbrev VK := V -> Hp -> Prop
abbrev TE := St -> Hp -> VK -> Prop
abbrev TT := St -> Hp -> (Bool -> Hp -> Prop) -> Prop
abbrev TA := St -> Hp -> (List V -> Hp -> Prop) -> Prop
structure Ends where
  nx : St -> Hp -> Prop
  rt : VK
  bk : St -> Hp -> Prop := fun _ _ => False
  ct : St -> Hp -> Prop := fun _ _ => False
abbrev TS := Ends -> St -> Hp -> Prop

def EP (X : Cx) (pins : List (Addr × Obj)) (σ : St) (Q : VK) (u : Value) (s' : Shared) : Prop := ∃ v H', Inv X pins σ H' s' /\ RelV v u /\ Q v H'
def TP (X : Cx) (pins : List (Addr × Obj)) (σ : St) (Q : Bool -> Hp -> Prop) (b : Bool) (s' : Shared) : Prop := ∃ H', Inv X pins σ H' s' /\ Q b H'
def AP (X : Cx) (pins : List (Addr × Obj)) (σ : St) (Q : List V -> Hp -> Prop) (us : List Value) (s' : Shared) : Prop := ∃ vs H', Inv X pins σ H' s' /\ Vals vs us /\ Q vs H'
def SP (X : Cx) (pins : List (Addr × Obj)) (D : Ends) (f : Flow) (s' : Shared) : Prop :=
  match f with
  | .next => ∃ σ' H', Inv X pins σ' H' s' /\ D.nx σ' H'
  | .brk => ∃ σ' H', Inv X pins σ' H' s' /\ D.bk σ' H'
  | .cont => ∃ σ' H', Inv X pins σ' H' s' /\ D.ct σ' H'
  | .ret u => ∃ v σ' H', Inv X pins σ' H' s' /\ RelV v u /\ D.rt v H'

def PE (X : Cx) (e : Expr) (t : TE) : Prop :=
  ∀ (pins : List (Addr × Obj)) (s : Shared) (σ : St) (H : Hp) (Q : VK), Inv X pins σ H s -> t σ H Q -> wpAny (model X.prog X.w) X.A (eval e X.env) (EP X pins σ Q) X.xe s
def PT (X : Cx) (e : Expr) (t : TT) : Prop :=
  ∀ (pins : List (Addr × Obj)) (s : Shared) (σ : St) (H : Hp) (Q : Bool -> Hp -> Prop), Inv X pins σ H s -> t σ H Q -> wpAny (model X.prog X.w) X.A (isTrue e X.env (eval e X.env)) (TP X pins σ Q) X.xe s
def PW (X : Cx) (e : Expr) (t : TT) : Prop :=
  ∀ (whole : Sem Value) (pins : List (Addr × Obj)) (s : Shared) (σ : St) (H : Hp) (Q : Bool -> Hp -> Prop), Inv X pins σ H s -> t σ H Q -> wpAny (model X.prog X.w) X.A (isTrue e X.env whole) (TP X pins σ Q) X.xe s
theorem PW.pt {X : Cx} {e : Expr} {t : TT} (h : PW X e t) : PT X e t := h _
def PA (X : Cx) (es : List Expr) (t : TA) : Prop :=
  ∀ (pos : Pos) (pins : List (Addr × Obj)) (s : Shared) (σ : St) (H : Hp) (Q : List V -> Hp -> Prop), Inv X pins σ H s -> t σ H Q -> wpAny (model X.prog X.w) X.A (spliced (backTo pos (starEach es X.env))) (AP X pins σ Q) X.xe s
def PS (X : Cx) (st : Stmt) (t : TS) : Prop :=
  ∀ (pins : List (Addr × Obj)) (s : Shared) (σ : St) (H : Hp) (D : Ends), Inv X pins σ H s -> t D σ H -> wpAny (model X.prog X.w) X.A (exec st X.env) (SP X pins D) X.xe s
def PSs (X : Cx) (st : List Stmt) (t : TS) : Prop :=
  ∀ (pins : List (Addr × Obj)) (s : Shared) (σ : St) (H : Hp) (D : Ends), Inv X pins σ H s -> t D σ H -> wpAny (model X.prog X.w) X.A (execs st X.env) (SP X pins D) X.xe s
theorem thn {α : Type} {t : Sem α} {Q Q' : α -> Shared -> Prop} {M : Model} {A : Around} {E : Value -> Shared -> Prop} {s : Shared} (h : wpAny M A t Q E s) (hQ : ∀ a s, Q a s -> Q' a s) : wpAny M A t Q' E s := wpAny_mono h hQ fun _ _ x => x
end L2

namespace L2
open PySem PySem.Spec PyProof.Rows
section
variable {X : Cx}

def zbN (i : Nat) : TE := fun σ H Q => ∃ v, σ[i]? = some (some v) /\ Q v H
def tC (v : V) : TE := fun _ H Q => Q v H
theorem zt3 {i : Nat} {x : Str} {pos : Pos} (hN : X.N[i]? = some x) (hv : Vis X.env.scope x) (hd : (x == ("__debug__" : Str)) = false := by decide) (hcd : (x == ("__classdict__" : Str)) = false := by decide) : PE X (.Name x pos) (zbN i) := by
  intro pins s σ H Q I h
  obtain ⟨v, e, h⟩ := h
  obtain ⟨m, hn, hl⟩ := I.loc
  obtain ⟨u, r, l⟩ := hl i x v hN e hv
  have fin : EP X pins σ Q u s := ⟨v, H, I, r, h⟩
  rcases l with ⟨hk, hm⟩ | ⟨hk, c, hc, hcell⟩
  . exact wpAny_Name (wpAny_loadName_local I.ok.kind hk hn hm fin) hd
  . rcases hk with hk | hk
    . exact wpAny_Name (wpAny_loadName_cell I.ok.kind hk hc hcell fin) hd
    . exact wpAny_Name (wpAny_loadName_free I.ok.kind hk hc hcell fin hcd) hd
theorem zpx {i j pos} : PE X (.Constant (.int i) j pos) (tC (.int i)) := fun _ _ _ H _ I h => wpAny_Constant_int ⟨.int i, H, I.tok _, ⟨_, rfl⟩, h⟩
theorem zut {b j pos} : PE X (.Constant (.bool b) j pos) (tC (.bl b)) := fun _ _ _ H _ I h => Constant_bool ⟨.bl b, H, I, rfl, h⟩
theorem ztS {x j pos} : PE X (.Constant (.str x) j pos) (tC (.str x)) := fun _ _ _ H _ I h => Calls.Constant_str ⟨.str x, H, I.tok _, ⟨_, rfl⟩, h⟩

def Gl (X : Cx) (x : Str) : Prop := X.env.kindOf x = some .globalImplicit
theorem zi0 {E : Value -> Shared -> Prop} {pins : List (Addr × Obj)} {s : Shared} {σ : St} {H : Hp} {x : Str} {u : Value} {pos : Pos} {Q : Value -> Shared -> Prop} (I : Inv X pins σ H s) (hg : Gl X x) (hm : X.mg x = some u) (h : Q u s)
    (hd : (x == ("__debug__" : Str)) = false := by decide) : wpAny (model X.prog X.w) X.A (eval (.Name x pos) X.env) Q E s :=
  Calls.Name_function_global I.ok.kind hg (Calls.loadGlobal_global (by rw [I.ok.glob]; exact I.mod.glob.keeps I.bk) hm h) hd
theorem ziH {E : Value -> Shared -> Prop} {pins : List (Addr × Obj)} {s : Shared} {σ : St} {H : Hp} {x : Str} {u : Value} {pos : Pos} {Q : Value -> Shared -> Prop} (I : Inv X pins σ H s) (hg : Gl X x) (hm : X.mg x = none) (hv : bootBuiltins x = some u) (h : Q u s)
    (hn : x ≠ "__name__" := by decide) (hd : (x == ("__debug__" : Str)) = false := by decide) : wpAny (model X.prog X.w) X.A (eval (.Name x pos) X.env) Q E s := by
  obtain ⟨mb, h1, h2⟩ := I.mod.blt
  exact Calls.Name_function_global I.ok.kind hg (Calls.loadGlobal_builtin (by rw [I.ok.glob]; exact I.mod.glob.keeps I.bk) hm (by rw [I.ok.blt]; exact h1.keeps I.bk) ((h2 x hn).trans hv) h) hd
theorem zqD {x : Str} {v : V} {u : Value} {pos : Pos} (hg : Gl X x) (hm : X.mg x = some u) (r : RelV v u) (hd : (x == ("__debug__" : Str)) = false := by decide) : PE X (.Name x pos) (tC v) :=
  fun _ _ _ H _ I h => zi0 I hg hm ⟨v, H, I, r, h⟩ hd
theorem zrk {x : Str} {v : V} {u : Value} {pos : Pos} (hg : Gl X x) (hm : X.mg x = none) (hv : bootBuiltins x = some u) (r : RelV v u) (hn : x ≠ "__name__" := by decide) (hd : (x == ("__debug__" : Str)) = false := by decide) : PE X (.Name x pos) (tC v) :=
  fun _ _ _ H _ I h => ziH I hg hm hv ⟨v, H, I, r, h⟩ hn hd

variable {a b : Expr} {ta tb : TE} {pos : Pos}
def tB (t : TE) : TT := fun σ H Q => t σ H fun x H1 => ∃ c, x = .bl c /\ Q c H1
theorem zsA {e : Expr} {t : TE} (h : PE X e t) (he : ∀ whole, isTrue e X.env whole = (do let v <- whole; standAt e.pos; holding [v] (truthy v)) := by intro _; rfl) : PT X e (tB t) := by
  intro pins s σ H Q I hw
  refine isTrue_plain (thn (h pins s σ H _ I hw) fun v s1 ⟨x, H1, I1, r1, q1⟩ => ?_) (he _)
  obtain ⟨d, rfl, q⟩ := q1
  cases r1
  exact wpAny_truthy_bool ⟨H1, I1, q⟩

variable {tA tB' : TT} {rest : List Expr}
def zua (t u : TT) : TT := fun σ H Q => t σ H fun c H1 => if c = true then u σ H1 Q else Q false H1
def tOr (t u : TT) : TT := fun σ H Q => t σ H fun c H1 => if c = true then Q true H1 else u σ H1 Q
def ztA (t : TT) : TT := fun σ H Q => t σ H fun c H1 => Q (!c) H1
theorem zrF (ha : PT X a tA) : PW X (.BoolOp .And [a] pos) tA := by
  intro wh pins s σ H Q I h
  refine isTrue_and (thn (ha pins s σ H Q I h) fun c s1 e => ?_)
  cases c with
  | true => exact isTrue_and_nil e
  | false => exact e
theorem zs8 (ha : PT X a tA) : PW X (.BoolOp .Or [a] pos) tA := by
  intro wh pins s σ H Q I h
  refine isTrue_or (thn (ha pins s σ H Q I h) fun c s1 e => ?_)
  cases c with
  | false => exact isTrue_or_nil e
  | true => exact e
theorem zss (ha : PT X a tA) (hb : PW X (.BoolOp .And (b :: rest) pos) tB') : PW X (.BoolOp .And (a :: b :: rest) pos) (zua tA tB') := by
  intro wh pins s σ H Q I h
  refine isTrue_and (thn (ha pins s σ H _ I h) fun c s1 ⟨H1, I1, q1⟩ => ?_)
  cases c with
  | true => exact hb wh pins s1 σ H1 Q I1 q1
  | false => exact ⟨H1, I1, q1⟩
theorem zuw (ha : PT X a tA) (hb : PW X (.BoolOp .Or (b :: rest) pos) tB') : PW X (.BoolOp .Or (a :: b :: rest) pos) (tOr tA tB') := by
  intro wh pins s σ H Q I h
  refine isTrue_or (thn (ha pins s σ H _ I h) fun c s1 ⟨H1, I1, q1⟩ => ?_)
  cases c with
  | true => exact ⟨H1, I1, q1⟩
  | false => exact hb wh pins s1 σ H1 Q I1 q1
theorem zsQ (ha : PT X a tA) : PT X (.UnaryOp .Not a pos) (ztA tA) := by
  intro pins s σ H Q I h
  exact isTrue_not (ha pins s σ H (fun c H1 => Q (!c) H1) I h)
def zoG (ta tb : TE) : TE := fun σ H Q => ta σ H fun x H1 => ∃ c, x = .bl c /\ if c = true then tb σ H1 Q else Q (.bl false) H1
def zo5 (ta : TE) : TE := fun σ H Q => ta σ H fun x H1 => ∃ c, x = .bl c /\ Q (.bl (!c)) H1
theorem zsD {op} {t : TE} (h : PE X a t) : PE X (.BoolOp op [a] pos) t := fun pins s σ H Q I hw => BoolOp_one (h pins s σ H Q I hw)
theorem ztw (ha : PE X a ta) (hb : PE X (.BoolOp .And (b :: rest) pos) tb) : PE X (.BoolOp .And (a :: b :: rest) pos) (zoG ta tb) := by
  intro pins s σ H Q I h
  refine BoolOp_and (thn (ha pins s σ H _ I h) fun v s1 ⟨x, H1, I1, r1, q1⟩ => ?_)
  obtain ⟨c, rfl, q1⟩ := q1
  cases r1
  refine wpAny_truthy_bool ?_
  cases c with
  | true => exact hb pins s1 σ H1 Q I1 q1
  | false => exact ⟨.bl false, H1, I1, rfl, q1⟩
theorem zsT (ha : PE X a ta) : PE X (.UnaryOp .Not a pos) (zo5 ta) := by
  intro pins s σ H Q I h
  refine UnaryOp_ (thn (ha pins s σ H _ I h) fun v s1 ⟨x, H1, I1, r1, q1⟩ => ?_)
  obtain ⟨c, rfl, q1⟩ := q1
  cases r1
  exact not_of (wpAny_truthy_bool ⟨.bl (!c), H1, I1, rfl, q1⟩)
end
end L2

namespace L2
open PySem PySem.Spec PyProof.Rows

def SqL (K : PySem.W.Frag) (H : Hp) (a : Addr) (xs : List V) : Prop :=
  Rd H a (.lst xs) \/
    ∃ (o : Obj) (its : Array Value) (n : Nat), K.lookup a = some o /\ o.cls = .type "list" /\ o.dict = none /\ o.data = .seq its n /\ its.size <= sizeLine /\ Vals xs its.toList
def SqT (K : PySem.W.Frag) (H : Hp) (a : Addr) (xs : List V) : Prop :=
  Rd H a (.tup xs) \/
    ∃ (o : Obj) (its : Array Value) (n : Nat), K.lookup a = some o /\ o.cls = .type "tuple" /\ o.data = .seq its n /\ its.size <= sizeLine /\ Vals xs its.toList
def zvO : Value -> Option V
  | .none => some .non
  | .bool b => some (.bl b)
  | .int i _ => some (.int i)
  | .str x _ => some (.str x)
  | .bytes b _ => some (.byt b)
  | .float b _ => some (.flt b)
  | .ref a => some (.ref a)
  | .type n => some (.ty n)
  | _ => none
theorem RelV.abs {x : V} {u : Value} (r : RelV x u) : zvO u = some x := by
  cases x with
  | non => cases r; rfl
  | bl _ => cases r; rfl
  | int _ => obtain ⟨t, rfl⟩ := r; rfl
  | str _ => obtain ⟨t, rfl⟩ := r; rfl
  | byt _ => obtain ⟨t, rfl⟩ := r; rfl
  | flt _ => obtain ⟨t, rfl⟩ := r; rfl
  | ref _ => cases r; rfl
  | ty _ => cases r; rfl
theorem RelV.inj {x y : V} {u : Value} (r : RelV x u) (q : RelV y u) : x = y := Option.some.inj (r.abs.symm.trans q.abs)
theorem Vals.inj : ∀ {xs ys : List V} {us : List Value}, Vals xs us -> Vals ys us -> xs = ys
  | _, _, _, .nil, .nil => rfl
  | _, _, _, .cons r t, .cons r' t' => by rw [r.inj r', Vals.inj t t']
section
variable {X : Cx} {pins : List (Addr × Obj)} {σ : St} {H : Hp} {s : Shared} {a : Addr} {xs ys : List V}
theorem SqL.of {K : PySem.W.Frag} (h : H a = some (.lst xs)) : SqL K H a xs := .inl (.inl h)
theorem SqT.of {K : PySem.W.Frag} (h : H a = some (.tup xs)) : SqT K H a xs := .inl (.inl h)
theorem Inv.list (I : Inv X pins σ H s) (h : SqL X.K H a xs) : ∃ its : List Value, Vals xs its /\ PlainL s.heap a its.toArray /\ xs.length <= sizeLine := by
  rcases h with h | ⟨o, its, n, hk, hc, hd, hs, hz, r⟩
  . obtain ⟨z, its, n, r, e⟩ := h.ok I.hok
    exact ⟨its, r, ⟨_, n, e, rfl, rfl, rfl⟩, z⟩
  . refine ⟨its.toList, r, ⟨o, n, I.kIn a o hk, hc, hd, by simpa using hs⟩, ?_⟩
    have e := r.length
    simp only [Array.length_toList] at e
    omega
theorem Inv.tuple (I : Inv X pins σ H s) (h : SqT X.K H a xs) : ∃ its : List Value, Vals xs its /\ IsTup s.heap a its.toArray /\ xs.length <= sizeLine := by
  rcases h with h | ⟨o, its, n, hk, hc, hs, hz, r⟩
  . obtain ⟨z, its, r, p⟩ := h.ok I.hok
    exact ⟨its, r, p, z⟩
  . refine ⟨its.toList, r, ⟨o, I.kIn a o hk, hc, n, by simpa using hs⟩, ?_⟩
    have e := r.length
    simp only [Array.length_toList] at e
    omega
theorem Inv.list_inj (I : Inv X pins σ H s) (h : SqL X.K H a xs) (h' : SqL X.K H a ys) : xs = ys := by
  obtain ⟨its, r, ⟨o, n, e, _, _, d⟩, _⟩ := I.list h
  obtain ⟨its', r', ⟨o', n', e', _, _, d'⟩, _⟩ := I.list h'
  rw [e] at e'; cases e'
  rw [d] at d'
  injection d' with d1 _
  have : its = its' := by simpa using congrArg Array.toList d1
  subst this
  exact r.inj r'
theorem Inv.tuple_inj (I : Inv X pins σ H s) (h : SqT X.K H a xs) (h' : SqT X.K H a ys) : xs = ys := by
  obtain ⟨its, r, ⟨o, e, _, n, d⟩, _⟩ := I.tuple h
  obtain ⟨its', r', ⟨o', e', _, n', d'⟩, _⟩ := I.tuple h'
  rw [e] at e'; cases e'
  rw [d] at d'
  injection d' with d1 _
  have : its = its' := by simpa using congrArg Array.toList d1
  subst this
  exact r.inj r'
end

abbrev Cx.wish (X : Cx) (E : Value -> Shared -> Prop) : Cx := { X with xe := E }
abbrev Cx.nox (X : Cx) : Cx := X.wish fun _ _ => False
theorem Cx.Ok.wish {X : Cx} (ok : X.Ok) (E : Value -> Shared -> Prop) : (X.wish E).Ok :=
  ⟨ok.mod, ok.kind, ok.glob, ok.blt, ok.above, ok.inj, ok.has, ok.cab, ok.hd, ok.frames, ok.stk, ok.exf, ok.bs, ok.bsz, ok.noex, ok.exfs, ok.funs, ok.frf⟩
theorem Cx.Ok.unwish {X : Cx} {E : Value -> Shared -> Prop} (ok : (X.wish E).Ok) : X.Ok :=
  ⟨ok.mod, ok.kind, ok.glob, ok.blt, ok.above, ok.inj, ok.has, ok.cab, ok.hd, ok.frames, ok.stk, ok.exf, ok.bs, ok.bsz, ok.noex, ok.exfs, ok.funs, ok.frf⟩
section
variable {X : Cx} {pins : List (Addr × Obj)} {σ : St} {H : Hp} {s : Shared} {E : Value -> Shared -> Prop}
theorem Inv.wish (I : Inv X pins σ H s) (E : Value -> Shared -> Prop) : Inv (X.wish E) pins σ H s := ⟨I.ok.wish E, I.os, I.bare, I.base, I.loc, I.cell, I.free, I.freeC, I.pin, I.hok, I.len⟩
theorem Inv.unwish (I : Inv (X.wish E) pins σ H s) : Inv X pins σ H s := ⟨I.ok.unwish, I.os, I.bare, I.base, I.loc, I.cell, I.free, I.freeC, I.pin, I.hok, I.len⟩
theorem SP.unwish {D : Ends} {f : Flow} {s' : Shared} (h : SP (X.wish E) pins D f s') : SP X pins D f s' := by
  cases f with
  | next => obtain ⟨σ', H', I, q⟩ := h; exact ⟨σ', H', I.unwish, q⟩
  | brk => obtain ⟨σ', H', I, q⟩ := h; exact ⟨σ', H', I.unwish, q⟩
  | cont => obtain ⟨σ', H', I, q⟩ := h; exact ⟨σ', H', I.unwish, q⟩
  | ret u => obtain ⟨v, σ', H', I, r, q⟩ := h; exact ⟨v, σ', H', I.unwish, r, q⟩
theorem PSs.nox {st : List Stmt} {t : TS} (h : PSs X.nox st t) : PSs X st t := fun pins s σ H D I hw =>
  wpAny_mono (h pins s σ H D (I.wish _) hw) (fun _ _ q => q.unwish) fun _ _ z => False.elim z
end

section
variable {X : Cx} {st : Stmt} {rest : List Stmt} {t u : TS} {e : Expr} {te : TE} {pos : Pos}
def zpN : TS := fun D σ H => D.nx σ H
def zhF (t u : TS) : TS := fun D σ H => t { D with nx := u D } σ H
theorem zro : PSs X [] zpN := fun _ _ σ H _ I h => wpAny_execs_nil ⟨σ, H, I, h⟩
theorem znV (h1 : PS X st t) (h2 : PSs X rest u) : PSs X (st :: rest) (zhF t u) := by
  intro pins s σ H D I h
  refine wpAny_execs_cons (thn (h1 pins s σ H { D with nx := u D } I h) fun f s1 q => ?_)
  cases f with
  | next =>
    obtain ⟨σ', H', I', q⟩ := q
    exact h2 pins s1 σ' H' D I' q
  | ret v => exact q
  | brk => exact q
  | cont => exact q
theorem zqA (h1 : PS X st t) : PSs X [st] t := by
  intro pins s σ H D I h
  refine wpAny_execs_cons (thn (h1 pins s σ H D I h) fun f s1 q => ?_)
  cases f with
  | next => exact wpAny_execs_nil q
  | ret v => exact q
  | brk => exact q
  | cont => exact q
theorem Inv.quiet {pins : List (Addr × Obj)} {σ : St} {H : Hp} {s : Shared} (I : Inv X pins σ H s) : interactive X.env = false := by simp [interactive, I.ok.kind]
def zo8 (te : TE) : TS := fun D σ H => te σ H fun _ H1 => D.nx σ H1
theorem zqx (he : PE X e te) (hs : swapsWith e none pos.line X.env = pure false := by rfl) : PS X (.Expr e pos) (zo8 te) := by
  intro pins s σ H D I h
  exact wpAny_Expr_any (thn (he pins s σ H _ I h) fun v s1 ⟨x, H1, I1, r1, q1⟩ => ⟨σ, H1, I1, q1⟩) I.quiet hs
def zlT (te : TE) : TS := fun D σ H => te σ H D.rt
theorem zt9 (he : PE X e te) : PS X (.Return (some e) pos) (zlT te) := by
  intro pins s σ H D I h
  exact wpAny_Return_some (thn (he pins s σ H _ I h) fun v s1 ⟨x, H1, I1, r1, q1⟩ => ⟨x, σ, H1, I1, r1, q1⟩)
def zqG (c : TT) (t u : TS) : TS := fun D σ H => c σ H fun b H1 => if b = true then t D σ H1 else u D σ H1
theorem zux {c : Expr} {a b : List Stmt} {tc : TT} (hc : PT X c tc) (ha : PSs X a t) (hb : PSs X b u) : PS X (.If c a b pos) (zqG tc t u) := by
  intro pins s σ H D I h
  refine wpAny_If (thn (hc pins s σ H _ I h) fun d s1 ⟨H1, I1, q1⟩ => ?_)
  cases d with
  | true => exact ha pins s1 σ H1 D I1 q1
  | false => exact hb pins s1 σ H1 D I1 q1
def zlM : TS := fun _ _ _ => False
theorem zoE : PS X st zlM := fun _ _ _ _ _ _ h => h.elim
end

abbrev TG := V -> St -> Hp -> (St -> Hp -> Prop) -> Prop
abbrev TGs := List V -> St -> Hp -> (St -> Hp -> Prop) -> Prop
def PG (X : Cx) (target : Expr) (t : TG) : Prop :=
  ∀ (pins : List (Addr × Obj)) (s : Shared) (σ : St) (H : Hp) (v : V) (u : Value) (Q : St -> Hp -> Prop), Inv X pins σ H s -> RelV v u -> t v σ H Q ->
    wpAny (model X.prog X.w) X.A (assign target X.env u) (fun _ s' => ∃ σ' H', Inv X pins σ' H' s' /\ Q σ' H') X.xe s
def PGs (X : Cx) (ts : List Expr) (t : TGs) : Prop :=
  ∀ (pins : List (Addr × Obj)) (s : Shared) (σ : St) (H : Hp) (vs : List V) (us : List Value) (Q : St -> Hp -> Prop), Inv X pins σ H s -> Vals vs us -> t vs σ H Q ->
    wpAny (model X.prog X.w) X.A (assignInOrder ((assignEach ts X.env).map (·.2)) us) (fun _ s' => ∃ σ' H', Inv X pins σ' H' s' /\ Q σ' H') X.xe s
abbrev zrn := V -> V -> V -> Hp -> (Hp -> Prop) -> Prop
def zuh (X : Cx) (t : zrn) : Prop :=
  ∀ (pins : List (Addr × Obj)) (s : Shared) (σ : St) (H : Hp) (o i v : V) (ov iv u : Value) (Q : Hp -> Prop), Inv X pins σ H s -> RelV o ov -> RelV i iv -> RelV v u -> t o i v H Q ->
    wpAny (model X.prog X.w) X.A (setItem ov iv u) (fun _ s' => ∃ H', Inv X pins σ H' s' /\ Q H') X.xe s
section
variable {X : Cx} {pos : Pos}
def zen (i : Nat) : TG := fun v σ H Q => Q (σ.set i (some v)) H
theorem zrN {i : Nat} {x : Str} (hN : X.N.Nodup) (hi : X.N[i]? = some x) (hx : Loc X.env.scope x) (hf : X.fn x = true \/ X.env.scope.names.lookup x = some .local := by first | exact .inl rfl | exact .inr rfl | assumption) : PG X (.Name x pos) (zen i) := by
  intro pins s σ H v u Q I r h
  exact wpAny_assign_Name (zjG I hN hi hx r (fun s' I' => ⟨_, H, I', h⟩) hf)
def ztu : TGs := fun vs σ H Q => vs = [] /\ Q σ H
def zpr (t : TG) (u : TGs) : TGs := fun vs σ H Q => ∃ v r, vs = v :: r /\ t v σ H fun σ' H' => u r σ' H' Q
theorem zqW : PGs X [] ztu := by
  intro pins s σ H vs us Q I r h
  obtain ⟨e, h⟩ := h
  subst e
  cases r
  exact assignInOrder_nil ⟨σ, H, I, h⟩
theorem zpv {e : Expr} {es : List Expr} {t : TG} {u : TGs} (h1 : PG X e t) (h2 : PGs X es u)
    (hs : (assignEach (e :: es) X.env).map (·.2) = assign e X.env :: (assignEach es X.env).map (·.2) := by rfl) : PGs X (e :: es) (zpr t u) := by
  intro pins s σ H vs us Q I r h
  obtain ⟨v, vr, e1, h⟩ := h
  subst e1
  cases r with
  | cons r rr =>
    rw [hs]
    refine assignInOrder_cons (thn (h1 pins s σ H _ _ _ I r h) fun _ s1 ⟨σ1, H1, I1, q1⟩ => ?_)
    exact h2 pins s1 σ1 H1 _ _ Q I1 rr q1
def zqP (K : PySem.W.Frag) (n : Nat) (t : TGs) : TG := fun v σ H Q => ∃ a xs, v = .ref a /\ SqT K H a xs /\ xs.length = n /\ t xs σ H Q
theorem zp7 {es : List Expr} {k : Nat} {t : TGs} {n : Nat} (hc : X.calm = true) (h : PGs X es t)
    (hn : (assignEach es X.env).length = n := by rfl) (hst : (assignEach es X.env).findIdx? (·.1) = none := by rfl) : PG X (.Tuple es k pos) (zqP X.K n t) := by
  intro pins s σ H v u Q I r hw
  obtain ⟨a, xs, e1, hq, hl, hw⟩ := hw
  subst e1
  cases r
  obtain ⟨its, rv, ht, hz⟩ := I.tuple hq
  refine assign_Tuple_tuple (I.ok.hd hc) ht (by simp [hn, <- hl, rv.length]) hst fun h' hx => ?_
  have I1 : Inv X pins σ H { s with heap := h' } := I.kept (t' := s.toks) fun b o e => hx b o (Nat.ne_of_lt (Heap.lt_size e)) e
  exact h pins _ σ H xs _ Q I1 (by simpa using rv) hw
def zkw (to ti : TE) (t : zrn) : TG := fun v σ H Q => to σ H fun o H1 => ti σ H1 fun i H2 => t o i v H2 fun H3 => Q σ H3
theorem ztf {o i : Expr} {to ti : TE} {t : zrn} (ho : PE X o to) (hi : PE X i ti) (hs : zuh X t)
    (ha : ∀ v, assign (.Subscript o i pos) X.env v = (do
      let ov <- holding [v] (eval o X.env)
      let iv <- holding [v, ov] (eval i X.env)
      standAt pos
      holding [v, ov, iv] (setItem ov iv v)
      release [v, ov, iv] []) := by intro _; rfl) : PG X (.Subscript o i pos) (zkw to ti t) := by
  intro pins s σ H v u Q I r h
  rw [ha]
  refine wpAny_bind (wpAny_holding (thn (ho pins s σ H _ I h) fun ov s1 ⟨x, H1, I1, r1, q1⟩ => ?_))
  refine wpAny_bind (wpAny_holding (thn (hi pins s1 σ H1 _ I1 q1) fun iv s2 ⟨y, H2, I2, r2, q2⟩ => ?_))
  refine wpAny_bind (wpAny_standAt (wpAny_bind (wpAny_holding (thn (hs pins s2 σ H2 x y v ov iv u _ I2 r1 r2 r q2) fun _ s3 ⟨H3, I3, q3⟩ => ?_))))
  exact wpAny_release ⟨σ, H3, I3, q3⟩
def zdN (te : TE) (g : TG) : TS := fun D σ H => te σ H fun x H1 => g x σ H1 D.nx
theorem zs3 {tg e : Expr} {te : TE} {g : TG} (he : PE X e te) (hg : PG X tg g) (hs : swapsWithSole [tg] e pos.line X.env = pure false := by rfl) (hw : swappedStores [tg] e X.env = pure none := by rfl)
    (h1 : (assignEach [tg] X.env).map (·.2) = [assign tg X.env] := by rfl) : PS X (.Assign [tg] e pos) (zdN te g) := by
  intro pins s σ H D I h
  refine wpAny_Assign_stores (thn (he pins s σ H _ I h) fun v s1 ⟨x, H1, I1, r1, q1⟩ => ?_) hs hw
  rw [h1]
  exact thn (hg pins s1 σ H1 x v _ I1 r1 q1) fun _ s2 q => q
theorem zst {i : Nat} {x : Str} {e : Expr} {te : TE} {pos' : Pos} (hN : X.N.Nodup) (hi : X.N[i]? = some x) (hx : Loc X.env.scope x) (he : PE X e te) (hs : swapsWith e (some (.Name x pos')) pos.line X.env = pure false := by rfl) (hf : X.fn x = true \/ X.env.scope.names.lookup x = some .local := by first | exact .inl rfl | exact .inr rfl | assumption) :
    PS X (.Assign [.Name x pos'] e pos) (zdN te (zen i)) := by
  intro pins s σ H D I h
  refine wpAny_Assign_Name (thn (he pins s σ H _ I h) fun v s1 ⟨y, H1, I1, r1, q1⟩ => ?_) hs
  exact zjG I1 hN hi hx r1 (fun s2 I2 => ⟨_, H1, I2, q1⟩) hf
end

section
variable {X : Cx} {pos : Pos}
end

structure It where
  go : Nat -> Hp -> Prop
  yld : Nat -> Hp -> V -> Hp -> Prop
  stop : Nat -> Hp -> Prop
def zhE (X : Cx) (pins : List (Addr × Obj)) (H : Hp) (b : Addr) : Prop :=
  H b = none /\ b ≠ X.env.locals /\ b ∉ X.fs /\ (b ∈ X.ex \/ X.s₀.heap.objs.size <= b) /\ (∀ x c, X.env.cells.lookup x = some c -> c ≠ b) /\ ∀ p ∈ X.pn ++ pins, p.1 ≠ b
theorem Inv.fpOk {X : Cx} {pins : List (Addr × Obj)} {σ : St} {H H' : Hp} {s : Shared} {b : Addr} (I : Inv X pins σ H s) (hb : s.heap.objs.size <= b) (hn : H' b = none) : zhE X pins H' b := by
  refine ⟨hn, Nat.ne_of_gt (Nat.lt_of_lt_of_le I.lt hb), I.nofs hb, .inr (Nat.le_trans I.sz hb), fun x c e z => ?_, fun p hp z => ?_⟩
  . obtain ⟨v, q⟩ := I.cell x c e
    exact absurd (Nat.lt_of_lt_of_le q.lt (by rw [z]; exact hb)) (Nat.lt_irrefl _)
  . exact absurd (Nat.lt_of_lt_of_le (Heap.lt_size (I.pin p hp).1) (by rw [z]; exact hb)) (Nat.lt_irrefl _)
structure Turn (P : Program) (w : World) (K : PySem.W.Frag) (tg : Expr) (J : It) (fp : List Addr) (it : Addr) (tn : Nat -> Heap -> Prop) : Prop where
  mem : it ∈ fp
  obj : ∀ i h, tn i h -> ∀ b ∈ fp, ∃ o, h.get? b = some o /\ ∀ v, o.data ≠ .cell v
  keep : ∀ i h h', tn i h -> (∀ b ∈ fp, ∀ o, h.get? b = some o -> h'.get? b = some o) -> tn i h'
  item : ∀ (X : Cx), X.prog = P -> X.w = w -> X.K = K -> X.calm = true -> ∀ (i : Nat) (pins : List (Addr × Obj)) (s : Shared) (σ : St) (H : Hp) (E : Value -> Shared -> Prop), Inv X pins σ H s -> (∀ b ∈ fp, zhE X pins H b) -> tn i s.heap -> J.go i H ->
    wpAny (model P w) X.A (pyNext (.ref it)) (fun r s1 => ∃ u, r = some u /\
      wpAny (model P w) X.A (letOwnedTupleGo tg (.ref it) u) (fun _ s2 => ∃ x H', Inv X pins σ H' s2 /\ RelV x u /\ J.yld i H x H' /\ tn (i + 1) s2.heap /\ ∀ b ∈ fp, H' b = none) E s1) E s
  done : ∀ (X : Cx), X.prog = P -> X.w = w -> X.K = K -> X.calm = true -> ∀ (i : Nat) (pins : List (Addr × Obj)) (s : Shared) (σ : St) (H : Hp) (E : Value -> Shared -> Prop), Inv X pins σ H s -> (∀ b ∈ fp, zhE X pins H b) -> tn i s.heap -> J.stop i H ->
    wpAny (model P w) X.A (pyNext (.ref it)) (fun r s1 => r = none /\ Inv X pins σ H s1) E s
  self : ∀ (A : Around) (i : Nat) (s : Shared) (Q : Value -> Shared -> Prop) (E : Value -> Shared -> Prop), tn i s.heap -> Q (.ref it) s -> wpAny (model P w) A (pyIter (.ref it)) Q E s
abbrev TI := St -> Hp -> (It -> Hp -> Prop) -> Prop
def PIE (X : Cx) (pins : List (Addr × Obj)) (σ : St) (tg : Expr) (R : It -> Hp -> Prop) (itv : Value) (s2 : Shared) : Prop :=
  ∃ (it : Addr) (fp : List Addr) (tn : Nat -> Heap -> Prop) (J : It) (H' : Hp), itv = .ref it /\ Inv X pins σ H' s2 /\ Turn X.prog X.w X.K tg J fp it tn /\ tn 0 s2.heap /\ (∀ b ∈ fp, zhE X pins H' b) /\ R J H'
def PI (X : Cx) (tg iter : Expr) (wi : TI) : Prop :=
  ∀ (pins : List (Addr × Obj)) (s : Shared) (σ : St) (H : Hp) (R : It -> Hp -> Prop), Inv X pins σ H s -> wi σ H R ->
    wpAny (model X.prog X.w) X.A (eval iter X.env) (fun v s1 => wpAny (model X.prog X.w) X.A (pyIter v) (PIE X pins σ tg R) X.xe s1) X.xe s

theorem zmc {M : Model} {A : Around} {E : Value -> Shared -> Prop} {s : Shared} {tg : Expr} {it : Addr} {u : Value} {o : Obj} {n : String} {vs : Array Value} {Q : Unit -> Shared -> Prop} (ho : s.heap.get? it = some o) (hc : o.cls = .type n) (hd : o.data = .fields vs)
    (hn : ["enumerate", "zip", "dict_itemiterator", "dict_reverseitemiterator", "odict_iterator", "itertools.zip_longest", "itertools.pairwise"].contains n = false) (hQ : Q () s) : wpAny M A (letOwnedTupleGo tg (.ref it) u) Q E s := by
  unfold letOwnedTupleGo
  cases tg <;> first
    | exact wpAny_pure hQ
    | (cases u <;> first
        | exact wpAny_pure hQ
        | (refine wpAny_bind (wpAny_load ho ?_)
           rw [hc, hd]
           show wpAny M A (if (["enumerate", "zip", "dict_itemiterator", "dict_reverseitemiterator", "odict_iterator", "itertools.zip_longest", "itertools.pairwise"].contains n && vs[0]? == some (rawInt _)) = true then _ else _) Q E s
           rw [if_neg (by intro h; rw [hn, Bool.false_and] at h; cases h)]
           exact wpAny_pure hQ))

def Itl (K : PySem.W.Frag) (a : Addr) : It :=
  ⟨fun i H => ∃ xs x, SqL K H a xs /\ xs[i]? = some x, fun i H x H' => H' = H /\ ∀ xs, SqL K H a xs -> xs[i]? = some x, fun i H => ∃ xs, SqL K H a xs /\ xs.length <= i⟩
def Itt (K : PySem.W.Frag) (a : Addr) : It :=
  ⟨fun i H => ∃ xs x, SqT K H a xs /\ xs[i]? = some x, fun i H x H' => H' = H /\ ∀ xs, SqT K H a xs -> xs[i]? = some x, fun i H => ∃ xs, SqT K H a xs /\ xs.length <= i⟩
def Itr (lo : Int) (n : Nat) : It := ⟨fun i _ => i < n, fun i H x H' => H' = H /\ x = .int (lo + i), fun i _ => n <= i⟩
theorem znQ {P : Program} {w : World} {K : PySem.W.Frag} {tg : Expr} (a it : Addr) : Turn P w K tg (Itl K a) [it] it (fun i h => h.IsListIter it a i) where
  mem := by simp
  obj := fun i h st b hb => by
    have e : b = it := by simpa using hb
    subst e
    obtain ⟨o, e, c, d⟩ := st
    exact ⟨o, e, fun v z => by rw [d] at z; cases z⟩
  keep := fun i h h' st k => st.at fun o e => k it (by simp) o e
  item := by
    intro X hP hw hK hc i pins s σ H E I hf st hg
    subst hP hw hK
    obtain ⟨xs, x, hq, hx⟩ := hg
    obtain ⟨its, rv, p, hz⟩ := I.list hq
    obtain ⟨u, hu, ru⟩ := rv.get hx
    obtain ⟨f0, f1, f2, f3, f4, f5⟩ := hf it (by simp)
    refine wpAny_pyNext_list_item st p.isList (x := u) (by simpa using hu) fun h' st' sb => ?_
    have I1 : Inv X pins σ H { s with heap := h' } := I.turned (t' := s.toks) (fun b o hb e => (sb.2 b hb).trans e) f0 f1 f3 f4 f5
    obtain ⟨o, e, c, d⟩ := id st'
    exact ⟨u, rfl, zmc (s := { s with heap := h' }) e c d (by decide) ⟨x, H, I1, ru, ⟨rfl, fun ys hy => by rw [I.list_inj hy hq]; exact hx⟩, st', fun b hb => (hf b hb).1⟩⟩
  done := by
    intro X hP hw hK hc i pins s σ H E I hf st hg
    subst hP hw hK
    obtain ⟨xs, hq, hx⟩ := hg
    obtain ⟨its, rv, p, hz⟩ := I.list hq
    obtain ⟨f0, f1, f2, f3, f4, f5⟩ := hf it (by simp)
    have hl := rv.length
    exact wpAny_pyNext_list_end (I.ok.hd hc) st p.isList (by simp; omega) fun h' eb => ⟨rfl, I.turned (t' := s.toks) (fun b o hb e => eb b o hb e) f0 f1 f3 f4 f5⟩
  self := fun _ _ _ _ _ st h => wpAny_pyIter_listiter st h
theorem zlw {P : Program} {w : World} {K : PySem.W.Frag} {tg : Expr} (a it : Addr) : Turn P w K tg (Itt K a) [it] it (fun i h => h.IsTupleIter it a i) where
  mem := by simp
  obj := fun i h st b hb => by
    have e : b = it := by simpa using hb
    subst e
    obtain ⟨o, e, c, d⟩ := st
    exact ⟨o, e, fun v z => by rw [d] at z; cases z⟩
  keep := fun i h h' st k => st.at fun o e => k it (by simp) o e
  item := by
    intro X hP hw hK hc i pins s σ H E I hf st hg
    subst hP hw hK
    obtain ⟨xs, x, hq, hx⟩ := hg
    obtain ⟨its, rv, p, hz⟩ := I.tuple hq
    obtain ⟨u, hu, ru⟩ := rv.get hx
    obtain ⟨f0, f1, f2, f3, f4, f5⟩ := hf it (by simp)
    refine wpAny_pyNext_tuple_item st (show s.heap.IsTuple a its.toArray from p) (x := u) (by simpa using hu) fun h' st' sb => ?_
    have I1 : Inv X pins σ H { s with heap := h' } := I.turned (t' := s.toks) (fun b o hb e => (sb.2 b hb).trans e) f0 f1 f3 f4 f5
    obtain ⟨o, e, c, d⟩ := id st'
    exact ⟨u, rfl, zmc (s := { s with heap := h' }) e c d (by decide) ⟨x, H, I1, ru, ⟨rfl, fun ys hy => by rw [I.tuple_inj hy hq]; exact hx⟩, st', fun b hb => (hf b hb).1⟩⟩
  done := by
    intro X hP hw hK hc i pins s σ H E I hf st hg
    subst hP hw hK
    obtain ⟨xs, hq, hx⟩ := hg
    obtain ⟨its, rv, p, hz⟩ := I.tuple hq
    obtain ⟨f0, f1, f2, f3, f4, f5⟩ := hf it (by simp)
    have hl := rv.length
    exact wpAny_pyNext_tuple_end (I.ok.hd hc) st (show s.heap.IsTuple a its.toArray from p) (by simp; omega) fun h' eb => ⟨rfl, I.turned (t' := s.toks) (fun b o hb e => eb b o hb e) f0 f1 f3 f4 f5⟩
  self := fun _ _ _ _ _ st h => wpAny_pyIter_tupleiter st h
theorem zlN {P : Program} {w : World} {K : PySem.W.Frag} {tg : Expr} (it : Addr) (lo : Int) (n : Nat) : Turn P w K tg (Itr lo n) [it] it (fun i h => IsRangeIter h it (lo + (i : Nat) * 1) ((n : Int) - (i : Nat)) 1) where
  mem := by simp
  obj := fun i h st b hb => by
    have e : b = it := by simpa using hb
    subst e
    exact ⟨_, st, fun v z => by
      have z' : Data.fields _ = Data.cell v := z
      cases z'⟩
  keep := fun i h h' st k => k it (by simp) _ st
  item := by
    intro X hP hw hK hc i pins s σ H E I hf st hg
    subst hP hw hK
    obtain ⟨f0, f1, f2, f3, f4, f5⟩ := hf it (by simp)
    have W := Walks.range (prog := X.prog) (w := X.w) (I.ok.hd hc) it lo 1 n
    refine W.item i s _ _ hg st fun v h' tk hv st' kk => ?_
    obtain ⟨t, rfl⟩ := hv
    have I1 : Inv X pins σ H { s with heap := h', toks := tk } := I.turned (fun b o hb e => kk b o (by simpa using hb) e) f0 f1 f3 f4 f5
    refine ⟨_, rfl, zmc (s := { s with heap := h', toks := tk }) (n := "range_iterator") st' rfl rfl (by decide) ⟨.int (lo + i), H, I1, ⟨t, ?_⟩, ⟨rfl, rfl⟩, st', fun b hb => (hf b hb).1⟩⟩
    rw [Int.mul_one]
  done := by
    intro X hP hw hK hc i pins s σ H E I hf st hg
    subst hP hw hK
    obtain ⟨f0, f1, f2, f3, f4, f5⟩ := hf it (by simp)
    exact wpAny_pyNext_range_end (I.ok.hd hc) st (by have : n <= i := hg; omega) fun h' eb => ⟨rfl, I.turned (t' := s.toks) (fun b o hb e => eb b o hb e) f0 f1 f3 f4 f5⟩
  self := fun _ _ _ _ _ st h => wpAny_pyIter_rangeiter st h
end L2

namespace L2
open PySem PySem.Spec PyProof.Rows
section
variable {X : Cx} {tg : Expr}
theorem zox {pins : List (Addr × Obj)} {σ : St} {H : Hp} {s : Shared} {R : It -> Hp -> Prop} {E : Value -> Shared -> Prop} {lo hi : Int} {t u v : Tok} {tk : Nat} (I : Inv X pins σ H s) (h1 : -(2 ^ 62) <= lo) (h2 : lo < 2 ^ 62) (h3 : -(2 ^ 62) <= hi) (h4 : hi < 2 ^ 62)
    (q : R (Itr lo (hi - lo).toNat) H) : wpAny (model X.prog X.w) X.A (pyIter (.ref s.heap.objs.size)) (PIE X pins σ tg R) E { s with heap := s.heap.push { cls := .type "range", data := .fields #[.int lo t, .int hi u, .int 1 v] }, toks := tk } := by
  refine wpAny_pyIter_range (IsRange.new ..) (small_one h1 h2 h3 h4) ?_
  have I1 : Inv X pins σ H { s with heap := s.heap.push { cls := .type "range", data := .fields #[.int lo t, .int hi u, .int 1 v] }, toks := tk } := I.kept fun b o e => Heap.get?_push_of_some _ e
  refine ⟨(s.heap.push { cls := .type "range", data := .fields #[.int lo t, .int hi u, .int 1 v] }).objs.size, [(s.heap.push { cls := .type "range", data := .fields #[.int lo t, .int hi u, .int 1 v] }).objs.size], _, _, H, rfl,
    I1.kept (t' := tk) fun b o e => Heap.get?_push_of_some _ e, zlN _ lo (hi - lo).toNat, ?_, fun b hb => ?_, q⟩
  . have e1 : lo + ((0 : Nat) : Int) * 1 = lo := by simp
    have e2 : (((hi - lo).toNat : Nat) : Int) - ((0 : Nat) : Int) = Builtin.Range.rangeSize lo hi 1 := by rw [rangeSize_one]; split <;> omega
    show IsRangeIter _ _ (lo + ((0 : Nat) : Int) * 1) ((((hi - lo).toNat : Nat) : Int) - ((0 : Nat) : Int)) 1
    rw [e1, e2]
    exact Heap.get?_push_size _ rfl
  . have e : b = (s.heap.push { cls := .type "range", data := .fields #[.int lo t, .int hi u, .int 1 v] }).objs.size := by simpa using hb
    subst e
    exact I1.fpOk (Nat.le_refl _) (I1.hok.fresh (Nat.le_refl _))
def zp4 (ta : TA) : TI := fun σ H R => ta σ H fun vs H1 => ∃ j : Int, vs = [.int j] /\ -(2 ^ 62) <= j /\ j < 2 ^ 62 /\ R (Itr 0 j.toNat) H1
theorem znD {a : Expr} {ta : TA} {p pos : Pos} (hg : Gl X "range") (hm : X.mg "range" = none) (ha : PA X [a] ta) (hs : starEach [a] X.env = [(false, eval a X.env)] := by rfl) : PI X tg (.Call (.Name "range" p) [a] [] pos) (zp4 ta) := by
  intro pins s σ H R I h
  refine Call_ (ziH I hg hm boot_range (PyProof.Rows.callWith_type1 (thn (ha pos pins s σ H _ I h) fun us s1 ⟨vs, H1, I1, r1, q1⟩ => ?_) hs rfl))
  obtain ⟨j, e, q1, q2, q⟩ := q1
  subst e
  cases r1 with
  | cons r rr =>
    cases rr
    obtain ⟨t, rfl⟩ := r
    exact call_range_1 (zox I1 (by omega) (by omega) q1 q2 (by simpa using q))
def zti (wi : TI) (g : TG) (tb : TS) : TS := fun D σ H => wi σ H fun J H1 => ∃ W : Nat -> Nat -> St -> Hp -> Prop, (∃ m, W 0 m σ H1) /\ ∀ i m σ H, W i m σ H ->
  (J.stop i H /\ D.nx σ H) \/ (J.go i H /\ ∃ N : St -> Hp -> Prop, (∀ σ' H', N σ' H' -> ∃ m', m' < m /\ W (i + 1) m' σ' H') /\ ∀ x H', J.yld i H x H' -> g x σ H' fun σ2 H2 => tb { D with nx := N, ct := N, bk := D.nx } σ2 H2)
def zdy (fp : List Addr) (h : Heap) : List (Addr × Obj) := fp.filterMap fun b => (h.get? b).map fun o => (b, o)
theorem zdw {fp : List Addr} {h : Heap} {b : Addr} {o : Obj} (hb : b ∈ fp) (e : h.get? b = some o) : (b, o) ∈ zdy fp h := List.mem_filterMap.mpr ⟨b, hb, by rw [e]; rfl⟩
theorem zib {fp : List Addr} {h : Heap} {p : Addr × Obj} (hp : p ∈ zdy fp h) : p.1 ∈ fp /\ h.get? p.1 = some p.2 := by
  obtain ⟨b, hb, e⟩ := List.mem_filterMap.mp hp
  cases q : h.get? b with
  | none => rw [q] at e; cases e
  | some o =>
    rw [q] at e
    have e' : (b, o) = p := Option.some.inj e
    subst e'
    exact ⟨hb, q⟩
theorem Inv.pinned {pins : List (Addr × Obj)} {σ : St} {H : Hp} {s : Shared} {fp : List Addr} (I : Inv X pins σ H s) (hf : ∀ b ∈ fp, zhE X pins H b) (ho : ∀ b ∈ fp, ∃ o, s.heap.get? b = some o /\ ∀ v, o.data ≠ .cell v) : Inv X (pins ++ zdy fp s.heap) σ H s :=
  I.pins_of fun p hp => (List.mem_append.mp hp).elim (fun z => I.pin p (List.mem_append_right _ z)) fun z => by
    obtain ⟨hb, e⟩ := zib z
    obtain ⟨f0, f1, f2, _⟩ := hf p.1 hb
    obtain ⟨o, e', d⟩ := ho p.1 hb
    rw [e] at e'; cases e'
    exact ⟨e, f0, f1, f2, d⟩
theorem Inv.unpinned {pins pl : List (Addr × Obj)} {σ : St} {H : Hp} {s : Shared} (I : Inv X (pins ++ pl) σ H s) : Inv X pins σ H s := I.pins_of fun p hp => I.pin p (List.mem_append_right _ (List.mem_append_left _ hp))
theorem zt5 {iter : Expr} {body : List Stmt} {wi : TI} {g : TG} {tb : TS} {pos : Pos} (hp : PassesOwn (model X.prog X.w) X.A X.env X.xe) (hc : X.calm = true) (hi : PI X tg iter wi) (hg : PG X tg g) (hb : PSs X body tb)
    (hs : ∀ x, foldedSetIterable iter X.env x = pure x := by intro _; rfl) : PS X (.For tg iter body [] pos) (zti wi g tb) := by
  intro pins s σ H D I h
  refine wpAny_For (thn (hi pins s σ H _ I h) fun v s1 h1 => thn h1 fun itv s2 h2 => ?_) hs
  obtain ⟨it, fp, tn, J, H2, e, I2, T, st2, f2, W, ⟨m0, w0⟩, turn⟩ := h2
  subst e
  -- what stays true of the iterator's objects through the loop
  have stat : ∀ {H' : Hp}, (∀ b ∈ fp, H' b = none) -> ∀ b ∈ fp, zhE X pins H' b := fun hn b hb => ⟨hn b hb, (f2 b hb).2⟩
  refine codeAny_forLoop_any (fun n s' => ∃ i σ' H', Inv X pins σ' H' s' /\ tn i s'.heap /\ (∀ b ∈ fp, H' b = none) /\ W i n σ' H') ?_ m0 ⟨0, σ, H2, I2, st2, fun b hb => (f2 b hb).1, w0⟩
  rintro n s3 ⟨i, σ3, H3, I3, st3, fr3, w3⟩
  rcases turn i n σ3 H3 w3 with ⟨stop, qn⟩ | ⟨go, N, hN, step⟩
  . refine wpAny_passesOwn hp (thn (T.done X rfl rfl rfl hc i pins s3 σ3 H3 X.xe I3 (stat fr3) st3 stop) fun r s4 ⟨hr, I4⟩ => ?_)
    subst hr
    exact wpAny_execs_nil ⟨σ3, H3, I4, qn⟩
  . refine wpAny_passesOwn hp (thn (T.item X rfl rfl rfl hc i pins s3 σ3 H3 X.xe I3 (stat fr3) st3 go) fun r s4 ⟨u, hr, h4⟩ => ?_)
    subst hr
    refine wpAny_passesOwn hp (thn h4 fun _ s5 ⟨x, H5, I5, r5, y5, st5, fr5⟩ => ?_)
    have I5' := I5.pinned (stat fr5) (T.obj _ _ st5)
    refine wpAny_passesOwn hp (thn (hg _ s5 σ3 H5 x u _ I5' r5 (step x H5 y5)) fun _ s6 ⟨σ6, H6, I6, q6⟩ => ?_)
    refine wpAny_passesOwn hp (thn (hb _ s6 σ6 H6 _ I6 q6) fun f s7 q7 => ?_)
    have again : ∀ {σ7 : St} {H7 : Hp}, Inv X (pins ++ zdy fp s5.heap) σ7 H7 s7 -> N σ7 H7 -> ∃ m, m < n /\ ∃ i σ' H', Inv X pins σ' H' s7 /\ tn i s7.heap /\ (∀ b ∈ fp, H' b = none) /\ W i m σ' H' := fun {σ7 H7} I7 n7 => by
      obtain ⟨m', hm, w7⟩ := hN σ7 H7 n7
      refine ⟨m', hm, i + 1, σ7, H7, I7.unpinned, T.keep _ _ _ st5 fun b hb o e => (I7.pin (b, o) (List.mem_append_right _ (List.mem_append_right _ (zdw hb e)))).1, fun b hb => ?_, w7⟩
      obtain ⟨o, e, d⟩ := T.obj _ _ st5 b hb
      exact (I7.pin (b, o) (List.mem_append_right _ (List.mem_append_right _ (zdw hb e)))).2.1
    cases f with
    | next => obtain ⟨σ7, H7, I7, n7⟩ := q7; exact again I7 n7
    | cont => obtain ⟨σ7, H7, I7, n7⟩ := q7; exact again I7 n7
    | brk => obtain ⟨σ7, H7, I7, q7⟩ := q7; exact ⟨σ7, H7, I7.unpinned, q7⟩
    | ret v => obtain ⟨x7, σ7, H7, I7, r7, q7⟩ := q7; exact ⟨x7, σ7, H7, I7.unpinned, r7, q7⟩
end

end L2

namespace L2
open PySem PySem.Spec PyProof.Rows

abbrev R2 := V -> V -> Hp -> VK -> Prop
def OpR (X : Cx) (f : Value -> Value -> Sem Value) (r : R2) : Prop :=
  ∀ (pins : List (Addr × Obj)) (s : Shared) (σ : St) (H : Hp) (x y : V) (v u : Value) (Q : VK), Inv X pins σ H s -> RelV x v -> RelV y u -> r x y H Q ->
    wpAny (model X.prog X.w) X.A (f v u) (EP X pins σ Q) X.xe s
def UnR (X : Cx) (f : Value -> Sem Value) (r : V -> Hp -> VK -> Prop) : Prop :=
  ∀ (pins : List (Addr × Obj)) (s : Shared) (σ : St) (H : Hp) (x : V) (v : Value) (Q : VK), Inv X pins σ H s -> RelV x v -> r x H Q ->
    wpAny (model X.prog X.w) X.A (f v) (EP X pins σ Q) X.xe s
def zZ (X : Cx) (f : Value) (r : List V -> Hp -> VK -> Prop) : Prop :=
  ∀ (pins : List (Addr × Obj)) (s : Shared) (σ : St) (H : Hp) (xs : List V) (us : List Value) (Q : VK), Inv X pins σ H s -> Vals xs us -> r xs H Q ->
    wpAny (model X.prog X.w) X.A (call f us) (EP X pins σ Q) X.xe s
def tOp (r : R2) (ta tb : TE) : TE := fun σ H Q => ta σ H fun x H1 => tb σ H1 fun y H2 => r x y H2 Q
def tUn (r : V -> Hp -> VK -> Prop) (ta : TE) : TE := fun σ H Q => ta σ H fun x H1 => r x H1 Q
def rI (C : Int -> Int -> Prop) (g : Int -> Int -> V) : R2 := fun x y H Q => ∃ i j, x = .int i /\ y = .int j /\ C i j /\ Q (g i j) H
def rI0 (g : Int -> Int -> V) : R2 := fun x y H Q => ∃ i j, x = .int i /\ y = .int j /\ Q (g i j) H
def rU (g : Int -> V) : V -> Hp -> VK -> Prop := fun x H Q => ∃ i, x = .int i /\ Q (g i) H

section
variable {X : Cx} {a b c : Expr} {ta tb tc : TE} {pos : Pos}

theorem zt6 (ha : PE X a ta) (hb : PE X b tb) {pins : List (Addr × Obj)} {s : Shared} {σ : St} {H : Hp} {R : V -> V -> Hp -> Prop} (I : Inv X pins σ H s)
    (h : ta σ H fun x H1 => tb σ H1 fun y H2 => R x y H2) {Q : Value -> Shared -> Prop} {f : Value -> Value -> Sem Value}
    (hf : ∀ v u s2 x y H2, Inv X pins σ H2 s2 -> RelV x v -> RelV y u -> R x y H2 -> wpAny (model X.prog X.w) X.A (f v u) Q X.xe s2) :
    wpAny (model X.prog X.w) X.A (eval a X.env) (fun v s₁ => wpAny (model X.prog X.w) X.A (eval b X.env) (fun u s₂ => wpAny (model X.prog X.w) X.A (f v u) Q X.xe s₂) X.xe s₁) X.xe s := by
  refine thn (ha pins s σ H _ I h) fun v s1 ⟨x, H1, I1, r1, q1⟩ => ?_
  refine thn (hb pins s1 σ H1 _ I1 q1) fun u s2 ⟨y, H2, I2, r2, q2⟩ => ?_
  exact hf v u s2 x y H2 I2 r1 r2 q2

theorem zvs {op : Operator} {r : R2} (ho : OpR X (binaryOp op) r) (ha : PE X a ta) (hb : PE X b tb) : PE X (.BinOp a op b pos) (tOp r ta tb) := by
  intro pins s σ H Q I h
  exact wpAny_BinOp (zt6 ha hb I h fun v u s2 x y H2 I2 rx ry q => ho pins s2 σ H2 x y v u Q I2 rx ry q)
theorem zuI {op : UnaryOp} {r : V -> Hp -> VK -> Prop} (ho : UnR X (unaryOp op) r) (ha : PE X a ta) : PE X (.UnaryOp op a pos) (tUn r ta) := by
  intro pins s σ H Q I h
  exact UnaryOp_ (thn (ha pins s σ H _ I h) fun v s1 ⟨x, H1, I1, r1, q1⟩ => ho pins s1 σ H1 x v Q I1 r1 q1)
theorem opI {f : Value -> Value -> Sem Value} {C : Int -> Int -> Prop} {g : Int -> Int -> Int}
    (rule : ∀ (i j : Int) (t u : Tok) (s : Shared) (Q : Value -> Shared -> Prop) (E : Value -> Shared -> Prop), C i j -> Q (.int (g i j) s.toks) { s with toks := s.toks + 1 } -> wpAny (model X.prog X.w) X.A (f (.int i t) (.int j u)) Q E s) :
    OpR X f (rI C fun i j => .int (g i j)) := by
  intro pins s σ H x y v u Q I rx ry h
  obtain ⟨i, j, rfl, rfl, hc, q⟩ := h
  obtain ⟨t, rfl⟩ := rx
  obtain ⟨t', rfl⟩ := ry
  exact rule i j t t' s _ _ hc ⟨.int (g i j), H, I.tok _, ⟨_, rfl⟩, q⟩
theorem zuA {f : Value -> Value -> Sem Value} {g : Int -> Int -> Int}
    (rule : ∀ (i j : Int) (t u : Tok) (s : Shared) (Q : Value -> Shared -> Prop) (E : Value -> Shared -> Prop), Q (.int (g i j) s.toks) { s with toks := s.toks + 1 } -> wpAny (model X.prog X.w) X.A (f (.int i t) (.int j u)) Q E s) :
    OpR X f (rI0 fun i j => .int (g i j)) := by
  intro pins s σ H x y v u Q I rx ry h
  obtain ⟨i, j, rfl, rfl, q⟩ := h
  obtain ⟨t, rfl⟩ := rx
  obtain ⟨t', rfl⟩ := ry
  exact rule i j t t' s _ _ ⟨.int (g i j), H, I.tok _, ⟨_, rfl⟩, q⟩
theorem zui {f : Value -> Value -> Sem Value} {g : Int -> Int -> Bool}
    (rule : ∀ (i j : Int) (t u : Tok) (s : Shared) (Q : Value -> Shared -> Prop) (E : Value -> Shared -> Prop), Q (.bool (g i j)) s -> wpAny (model X.prog X.w) X.A (f (.int i t) (.int j u)) Q E s) :
    OpR X f (rI0 fun i j => .bl (g i j)) := by
  intro pins s σ H x y v u Q I rx ry h
  obtain ⟨i, j, rfl, rfl, q⟩ := h
  obtain ⟨t, rfl⟩ := rx
  obtain ⟨t', rfl⟩ := ry
  exact rule i j t t' s _ _ ⟨.bl (g i j), H, I, rfl, q⟩

def zqJ (i j : Int) : Prop := 0 <= j /\ j <= 1000000 /\ i.natAbs < 2 ^ 64
def zi6 (i j : Int) : Prop := (-(2 ^ 64) < i /\ i < 2 ^ 64) \/ (-(2 ^ 64) < j /\ j < 2 ^ 64)
theorem zi6.ok {i j : Int} (h : zi6 i j) : IntMulOk i j := by
  rcases h with ⟨h1, h2⟩ | ⟨h1, h2⟩
  . exact .of_left (intBits_le_64 h1 h2)
  . exact .of_right (intBits_le_64 h1 h2)
theorem ziV : OpR X (binaryOp .Add) (rI0 fun i j => .int (i + j)) := zuA fun _ _ _ _ _ _ _ q => add_int q
theorem zji : OpR X (binaryOp .Sub) (rI0 fun i j => .int (i - j)) := zuA fun _ _ _ _ _ _ _ q => sub_int q
theorem zos : OpR X (binaryOp .Mult) (rI zi6 fun i j => .int (i * j)) := opI fun _ _ _ _ _ _ _ hc q => mul_int q hc.ok
theorem zfv : OpR X (binaryOp .Mod) (rI (fun _ j => 0 < j) fun i j => .int (i % j)) := opI fun i j _ _ _ _ _ hc q => by
  have h1 : (0 : Int) < j := hc
  exact mod_int' (by omega) (by rw [Int.fmod_eq_emod_of_nonneg i (by omega)]; exact q)
theorem zqe : OpR X (binaryOp .Pow) (rI zqJ fun i j => .int (i ^ j.toNat)) := opI fun _ _ _ _ _ _ _ hc q => pow_int_small hc.1 hc.2.1 hc.2.2 q
theorem unI {f : Value -> Sem Value} {g : Int -> Int}
    (rule : ∀ (i : Int) (t : Tok) (s : Shared) (Q : Value -> Shared -> Prop) (E : Value -> Shared -> Prop), Q (.int (g i) s.toks) { s with toks := s.toks + 1 } -> wpAny (model X.prog X.w) X.A (f (.int i t)) Q E s) :
    UnR X f (rU fun i => .int (g i)) := by
  intro pins s σ H x v Q I rx h
  obtain ⟨i, rfl, q⟩ := h
  obtain ⟨t, rfl⟩ := rx
  exact rule i t s _ _ ⟨.int (g i), H, I.tok _, ⟨_, rfl⟩, q⟩
theorem zdK : UnR X (unaryOp .USub) (rU fun i => .int (-i)) := unI fun _ _ _ _ _ q => neg_int q
end

def zuX : V -> V -> Bool
  | .non, .non => true | .non, .int _ => true | .int _, .non => true | .non, .bl _ => true | .bl _, .non => true | .non, .str _ => true | .str _, .non => true
  | .int _, .int _ => true | .bl _, .bl _ => true | .str _, .str _ => true | .byt _, .byt _ => true
  | .int _, .str _ => true | .str _, .int _ => true | .bl _, .str _ => true | .str _, .bl _ => true
  | _, _ => false
def rEq : R2 := fun x y H Q => zuX x y = true /\ Q (.bl (decide (x = y))) H
def rNe : R2 := fun x y H Q => zuX x y = true /\ Q (.bl (!decide (x = y))) H

theorem zmC {i j : Int} : decide (V.int i = V.int j) = (i == j) := by
  rw [Bool.eq_iff_iff]
  simp
theorem zoR {i j : Bool} : decide (V.bl i = V.bl j) = (i == j) := by
  rw [Bool.eq_iff_iff]
  simp
theorem zl4 {i j : Str} : decide (V.str i = V.str j) = (i == j) := by
  rw [Bool.eq_iff_iff]
  simp
theorem zmp {i j : Array UInt8} : decide (V.byt i = V.byt j) = (i.toList == j.toList) := by
  rw [Bool.eq_iff_iff]
  cases i
  cases j
  simp

section
variable {X : Cx} {a b c : Expr} {ta tb tc : TE} {pos : Pos}
theorem zae {pins : List (Addr × Obj)} {σ : St} {H : Hp} {s : Shared} {Q : VK} {k k' : Bool} (I : Inv X pins σ H s) (q : Q (.bl k) H) (e : k = k') : EP X pins σ Q (.bool k') s := by
  subst e
  exact ⟨.bl k, H, I, rfl, q⟩
theorem zsh : OpR X (compareOp .Eq) rEq := by
  intro pins s σ H x y v u Q I rx ry h
  obtain ⟨hs, q⟩ := h
  cases x with
  | non =>
    cases rx
    cases y with
    | non => cases ry; exact PySem.EqNone.eq_none_none (zae I q (by simp))
    | bl j => cases ry; exact PySem.EqNone.eq_none_bool (zae I q (by simp))
    | int j => obtain ⟨t', rfl⟩ := ry; exact PySem.EqNone.eq_none_int (zae I q (by simp))
    | str j => obtain ⟨t', rfl⟩ := ry; exact PySem.EqNone.eq_none_str (zae I q (by simp))
    | _ => exact absurd (show false = true from hs) Bool.false_ne_true
  | bl i =>
    cases rx
    cases y with
    | non => cases ry; exact PySem.EqNone.eq_bool_none (zae I q (by simp))
    | bl j => cases ry; exact eq_bool (zae I q zoR)
    | str j => obtain ⟨t', rfl⟩ := ry; exact PySem.EqMixed.eq_bool_str (zae I q (by simp))
    | _ => exact absurd (show false = true from hs) Bool.false_ne_true
  | int i =>
    obtain ⟨t, rfl⟩ := rx
    cases y with
    | non => cases ry; exact PySem.EqNone.eq_int_none (zae I q (by simp))
    | int j => obtain ⟨t', rfl⟩ := ry; exact eq_int (zae I q zmC)
    | str j => obtain ⟨t', rfl⟩ := ry; exact PySem.EqMixed.eq_int_str (zae I q (by simp))
    | _ => exact absurd (show false = true from hs) Bool.false_ne_true
  | str i =>
    obtain ⟨t, rfl⟩ := rx
    cases y with
    | non => cases ry; exact PySem.EqNone.eq_str_none (zae I q (by simp))
    | bl j => cases ry; exact PySem.EqMixed.eq_str_bool (zae I q (by simp))
    | int j => obtain ⟨t', rfl⟩ := ry; exact PySem.EqMixed.eq_str_int (zae I q (by simp))
    | str j => obtain ⟨t', rfl⟩ := ry; exact eq_str (zae I q zl4)
    | _ => exact absurd (show false = true from hs) Bool.false_ne_true
  | byt i =>
    obtain ⟨t, rfl⟩ := rx
    cases y with
    | byt j => obtain ⟨t', rfl⟩ := ry; exact PySem.W.eq_bytes (zae I q zmp)
    | _ => exact absurd (show false = true from hs) Bool.false_ne_true
  | _ => cases y <;> exact absurd (show false = true from hs) Bool.false_ne_true
theorem zvC : OpR X (compareOp .NotEq) rNe := by
  intro pins s σ H x y v u Q I rx ry h
  obtain ⟨hs, q⟩ := h
  cases x with
  | non =>
    cases rx
    cases y with
    | non => cases ry; exact PySem.EqNone.ne_none_none (zae I q (by simp))
    | bl j => cases ry; exact PySem.EqNone.ne_none_bool (zae I q (by simp))
    | int j => obtain ⟨t', rfl⟩ := ry; exact PySem.EqNone.ne_none_int (zae I q (by simp))
    | str j => obtain ⟨t', rfl⟩ := ry; exact PySem.EqNone.ne_none_str (zae I q (by simp))
    | _ => exact absurd (show false = true from hs) Bool.false_ne_true
  | bl i =>
    cases rx
    cases y with
    | non => cases ry; exact PySem.EqNone.ne_bool_none (zae I q (by simp))
    | bl j => cases ry; exact ne_bool (zae I q (congrArg not zoR))
    | str j => obtain ⟨t', rfl⟩ := ry; exact PySem.EqMixed.ne_bool_str (zae I q (by simp))
    | _ => exact absurd (show false = true from hs) Bool.false_ne_true
  | int i =>
    obtain ⟨t, rfl⟩ := rx
    cases y with
    | non => cases ry; exact PySem.EqNone.ne_int_none (zae I q (by simp))
    | int j => obtain ⟨t', rfl⟩ := ry; exact ne_int (zae I q (congrArg not zmC))
    | str j => obtain ⟨t', rfl⟩ := ry; exact PySem.EqMixed.ne_int_str (zae I q (by simp))
    | _ => exact absurd (show false = true from hs) Bool.false_ne_true
  | str i =>
    obtain ⟨t, rfl⟩ := rx
    cases y with
    | non => cases ry; exact PySem.EqNone.ne_str_none (zae I q (by simp))
    | bl j => cases ry; exact PySem.EqMixed.ne_str_bool (zae I q (by simp))
    | int j => obtain ⟨t', rfl⟩ := ry; exact PySem.EqMixed.ne_str_int (zae I q (by simp))
    | str j => obtain ⟨t', rfl⟩ := ry; exact ne_str (zae I q (congrArg not zl4))
    | _ => exact absurd (show false = true from hs) Bool.false_ne_true
  | byt i =>
    obtain ⟨t, rfl⟩ := rx
    cases y with
    | byt j => obtain ⟨t', rfl⟩ := ry; exact PySem.W.ne_bytes (zae I q (congrArg not zmp))
    | _ => exact absurd (show false = true from hs) Bool.false_ne_true
  | _ => cases y <;> exact absurd (show false = true from hs) Bool.false_ne_true

theorem zkn : OpR X (compareOp .Lt) (rI0 fun i j => .bl (decide (i < j))) := zui fun _ _ _ _ _ _ _ q => lt_int q
theorem zgw : OpR X (compareOp .LtE) (rI0 fun i j => .bl (decide (i <= j))) := zui fun _ _ _ _ _ _ _ q => le_int q
theorem zp9 : OpR X (compareOp .GtE) (rI0 fun i j => .bl (decide (j <= i))) := zui fun _ _ _ _ _ _ _ q => ge_int q
theorem znI : OpR X (compareOp .In) (fun x y H Q => ∃ i j, x = .str i /\ y = .str j /\ Q (.bl (!(Builtin.Str.occurrences j i 0 j.length 1).isEmpty)) H) := by
  intro pins s σ H x y v u Q I rx ry h
  obtain ⟨i, j, rfl, rfl, q⟩ := h
  obtain ⟨t, rfl⟩ := rx
  obtain ⟨t', rfl⟩ := ry
  exact in_str (zae I q rfl)

theorem OpR.or {f : Value -> Value -> Sem Value} {r r' : R2} (h : OpR X f r) (h' : OpR X f r') : OpR X f (fun x y H Q => r x y H Q \/ r' x y H Q) := by
  intro pins s σ H x y v u Q I rx ry q
  rcases q with q | q
  . exact h pins s σ H x y v u Q I rx ry q
  . exact h' pins s σ H x y v u Q I rx ry q

theorem zT (b : Expr) {op : CmpOp} (h : op ≠ .In := by decide) (h2 : op ≠ .NotIn := by decide) : behindInMarks op b = false := by
  have e1 : (op == CmpOp.In) = false := by cases op <;> first | rfl | exact absurd rfl h
  have e2 : (op == CmpOp.NotIn) = false := by cases op <;> first | rfl | exact absurd rfl h2
  cases b <;> simp [behindInMarks, e1, e2]
theorem zrm {op : CmpOp} {r : R2} (ho : OpR X (compareOp op) r) (ha : PE X a ta) (hb : PE X b tb) (hm : behindInMarks op b = false) : PE X (.Compare a [op] [b] pos) (tOp r ta tb) := by
  intro pins s σ H Q I h
  exact wpAny_Compare1 (zt6 ha hb I h fun v u s2 x y H2 I2 rx ry q => ho pins s2 σ H2 x y v u Q I2 rx ry q) hm
def zhl (t : TE) : TT := fun σ H Q => t σ H fun x H' => ∃ k, x = .bl k /\ Q k H'
theorem zra {op : CmpOp} {r : R2} (ho : OpR X (compareOp op) r) (ha : PE X a ta) (hb : PE X b tb) (hm : behindInMarks op b = false) : PT X (.Compare a [op] [b] pos) (zhl (tOp r ta tb)) := by
  intro pins s σ H Q I h
  refine wpAny_isTrue_Compare1 (thn (ha pins s σ H _ I h) fun v s1 ⟨x, H1, I1, r1, q1⟩ => thn (hb pins s1 σ H1 _ I1 q1) fun u s2 ⟨y, H2, I2, r2, q2⟩ =>
    thn (ho pins s2 σ H2 x y v u _ I2 r1 r2 q2) fun c s3 ⟨z, H3, I3, r3, k, e, q3⟩ => ?_) hm
  subst e
  cases r3
  exact wpAny_truthy_bool ⟨H3, I3, q3⟩
def zg4 (r r' : R2) (ta tb tc : TE) : TE := fun σ H Q => ta σ H fun x H1 => tb σ H1 fun y H2 => r x y H2 fun z H3 => ∃ k, z = .bl k /\
  (if k = true then tc σ H3 fun w' H4 => r' y w' H4 Q else Q (.bl false) H3)
theorem zoZ {op op' : CmpOp} {r r' : R2} (ho : OpR X (compareOp op) r) (ho' : OpR X (compareOp op') r') (ha : PE X a ta) (hb : PE X b tb) (hc : PE X c tc)
    (hm : lastMarks [op, op'] [b, c] = false := by with_unfolding_all rfl) : PE X (.Compare a [op, op'] [b, c] pos) (zg4 r r' ta tb tc) := by
  intro pins s σ H Q I h
  refine Compare_chain (thn (ha pins s σ H _ I h) fun v s1 ⟨x, H1, I1, r1, q1⟩ => chain_link (thn (hb pins s1 σ H1 _ I1 q1) fun u s2 ⟨y, H2, I2, r2, q2⟩ =>
    thn (ho pins s2 σ H2 x y v u _ I2 r1 r2 q2) fun d s3 ⟨z, H3, I3, r3, k, e, q3⟩ => ?_)) hm
  subst e
  cases r3
  refine wpAny_truthy_bool ?_
  cases k with
  | false => exact ite_ff ⟨.bl false, H3, I3, rfl, q3⟩
  | true => exact ite_tt (chain_last (thn (hc pins s3 σ H3 _ I3 q3) fun w' s4 ⟨z', H4, I4, r4, q4⟩ => ho' pins s4 σ H4 y z' u w' Q I4 r2 r4 q4))
theorem zon {op op' : CmpOp} {r r' : R2} (ho : OpR X (compareOp op) r) (ho' : OpR X (compareOp op') r') (ha : PE X a ta) (hb : PE X b tb) (hc : PE X c tc)
    (hm : lastMarks [op, op'] [b, c] = false := by with_unfolding_all rfl) : PT X (.Compare a [op, op'] [b, c] pos) (zhl (zg4 r r' ta tb tc)) := by
  intro pins s σ H Q I h
  refine isTrue_chain (thn (ha pins s σ H _ I h) fun v s1 ⟨x, H1, I1, r1, q1⟩ => test_link (thn (hb pins s1 σ H1 _ I1 q1) fun u s2 ⟨y, H2, I2, r2, q2⟩ =>
    thn (ho pins s2 σ H2 x y v u _ I2 r1 r2 q2) fun d s3 ⟨z, H3, I3, r3, k, e, q3⟩ => ?_)) hm
  subst e
  cases r3
  refine wpAny_truthy_bool ?_
  cases k with
  | false =>
    obtain ⟨k', e', q'⟩ := q3
    cases e'
    exact ite_ff ⟨H3, I3, q'⟩
  | true =>
    refine ite_tt (test_last (thn (hc pins s3 σ H3 _ I3 q3) fun w' s4 ⟨z', H4, I4, r4, q4⟩ => thn (ho' pins s4 σ H4 y z' u w' _ I4 r2 r4 q4) fun d' s5 ⟨z2, H5, I5, r5, k2, e2, q5⟩ => ?_))
    subst e2
    cases r5
    exact wpAny_truthy_bool ⟨H5, I5, q5⟩

theorem zfD : (sizeLine : Nat) < 2 ^ 63 := by rw [sizeLine_eq]; decide
theorem zlE : OpR X (binaryOp .Add) (fun x y H Q => ∃ i j, x = .str i /\ y = .str j /\ i.length + j.length <= sizeLine /\ Q (.str (i ++ j)) H) := by
  intro pins s σ H x y v u Q I rx ry h
  obtain ⟨i, j, rfl, rfl, hz, q⟩ := h
  obtain ⟨t, rfl⟩ := rx
  obtain ⟨t', rfl⟩ := ry
  exact add_str (fun t' tk => ⟨.str (i ++ j), H, I.tok _, ⟨_, rfl⟩, q⟩) hz
theorem vals1 {x : V} {us : List Value} (r : Vals [x] us) : ∃ u, us = [u] /\ RelV x u := by
  cases r with
  | cons r1 r2 => cases r2; exact ⟨_, rfl, r1⟩
theorem vals2 {x y : V} {us : List Value} (r : Vals [x, y] us) : ∃ u w', us = [u, w'] /\ RelV x u /\ RelV y w' := by
  cases r with
  | cons r1 r2 =>
    cases r2 with
    | cons r3 r4 => cases r4; exact ⟨_, _, rfl, r1, r3⟩
theorem zoW : zZ X (.builtin "abs") (fun xs H Q => ∃ i, xs = [.int i] /\ Q (.int (if i < 0 then -i else i)) H) := by
  intro pins s σ H xs us Q I r h
  obtain ⟨i, rfl, q⟩ := h
  obtain ⟨u, rfl, t, rfl⟩ := vals1 r
  exact call_abs_int fun u tk => ⟨.int (if i < 0 then -i else i), H, I.tok _, ⟨_, rfl⟩, q⟩
theorem znj (hc : X.calm = true) : zZ X (.builtin "max") (fun xs H Q => ∃ i j, xs = [.int i, .int j] /\ Q (.int (if j > i then j else i)) H) := by
  intro pins s σ H xs us Q I r h
  obtain ⟨i, j, rfl, q⟩ := h
  obtain ⟨u, w', rfl, ⟨t, rfl⟩, ⟨t', rfl⟩⟩ := vals2 r
  refine max_two_ints (I.ok.hd hc) fun h' tk k => ⟨_, H, I.kept k, ?_, q⟩
  by_cases hj : j > i
  . rw [if_pos hj, if_pos hj]; exact ⟨_, rfl⟩
  . rw [if_neg hj, if_neg hj]; exact ⟨_, rfl⟩
theorem znJ (hc : X.calm = true) : zZ X (.builtin "min") (fun xs H Q => ∃ i j, xs = [.int i, .int j] /\ Q (.int (if j < i then j else i)) H) := by
  intro pins s σ H xs us Q I r h
  obtain ⟨i, j, rfl, q⟩ := h
  obtain ⟨u, w', rfl, ⟨t, rfl⟩, ⟨t', rfl⟩⟩ := vals2 r
  refine min_two_ints (I.ok.hd hc) fun h' tk k => ⟨_, H, I.kept k, ?_, q⟩
  by_cases hj : j < i
  . rw [if_pos hj, if_pos hj]; exact ⟨_, rfl⟩
  . rw [if_neg hj, if_neg hj]; exact ⟨_, rfl⟩
end
end L2

namespace L2
open PySem PySem.Spec PyProof.Rows

structure zlR (h : Heap) (x dx C : Addr) (mA : Str -> Option Value) : Prop where
  obj : h.get? x = some (PySem.W.instObj C dx)
  ns : h.Ns1 dx mA
  ne : dx ≠ x

theorem znf {h : Heap} {dx : Addr} {mA : Str -> Option Value} (n : h.Ns1 dx mA) : ∃ od, h.get? dx = some od /\ ∀ name, PySem.W.lookIn name od = some (mA name) := by
  obtain ⟨o, es, ep, ho, hd, hk, _, hm⟩ := n
  refine ⟨o, ho, fun name => ?_⟩
  have e := hm name
  unfold nsFind findBy at e
  rw [<- Array.find?_toList] at e
  unfold PySem.W.lookIn
  rw [hd]
  dsimp only
  split
  . rename_i y q
    rw [q] at e
    exact congrArg some e
  . rename_i q
    rw [q] at e
    have a : es.toList.any (·.refKey) = false := by
      rw [List.any_eq_false]
      intro y hy
      obtain ⟨z, t, hkey⟩ := hk y (Array.mem_toList_iff.mp hy)
      simp [DictEntry.refKey, hkey]
    have a' : ¬ es.toList.any (·.refKey) = true := by rw [a]; exact Bool.false_ne_true
    rw [if_neg a']
    exact congrArg some e

theorem zlR.look {h : Heap} {x dx C : Addr} {mA : Str -> Option Value} (I : zlR h x dx C mA) : ∃ od, PySem.W.InstAt h x (PySem.W.instObj C dx) C (some od) /\ ∀ name, PySem.W.lookIn name od = some (mA name) :=
  let ⟨od, ho, hl⟩ := znf I.ns
  ⟨od, ⟨I.obj, rfl, rfl, ho⟩, hl⟩

section
variable {prog : Program} {w : World} {A : Around} {E : Value -> Shared -> Prop} {s : Shared} {K : PySem.W.Frag} {x dx C f : Addr} {mA : Str -> Option Value} {name : Str} {v : Value}

theorem zq1 {expr : Bool} {Q : Value -> Shared -> Prop} (X : K.In s.heap) (I : zlR s.heap x dx C mA) (hg : PySem.W.plainGet K C name = true) (hh : PySem.W.hasDictIn K C = true)
    (ha : PySem.W.findIn K (.ref C) name = some none) (hv : mA name = some v) (hv' : PySem.W.handedIn v = true) (h : Q v { s with toks := s.toks + 1 }) :
    wpAny (model prog w) A (getAttr (.ref x) name expr) Q E s := by
  obtain ⟨od, J, hl⟩ := I.look
  exact PySem.W.get_value X J (PySem.W.plainGet_of hg).1 (PySem.W.findObj_own hh ha rfl (by rw [hl, hv])) hv' h

theorem zps {pl : Sem Bool} {Q : Value × List Value -> Shared -> Prop} (X : K.In s.heap) (I : zlR s.heap x dx C mA) (hg : PySem.W.plainGet K C name = true)
    (hf : PySem.W.findIn K (.ref C) name = some (some (.ref f))) (ht : PySem.W.isFn K (.ref f) = true) (hv : mA name = none) (h : Q (.ref f, [.ref x]) s) :
    wpAny (model prog w) A (getMethod (.ref x) name pl) Q E s := by
  obtain ⟨od, J, hl⟩ := I.look
  exact PySem.W.method_fn X J (PySem.W.plainGet_of hg).1 (PySem.W.plainGet_of hg).2 hf (beq_iff_eq.mp ht) (by show (PySem.W.lookIn name od).map (·.isSome) = some false; rw [hl, hv]; rfl) h

theorem ziC {ns : List Str} {Q : Unit -> Shared -> Prop} (X : K.In s.heap) (I : zlR s.heap x dx C mA)
    (hs : PySem.W.findIn K (.ref C) "__setattr__" = some (some (.builtin "object.__setattr__"))) (hp : PySem.W.plainOver K C = true) (ht : PySem.W.takerIn K C name = some none) (hh : PySem.W.hasDictIn K C = true)
    (hw : PySem.Within mA ns) (hsz : ns.length <= sizeLine)
    (h : ∀ h', zlR h' x dx C (fun y => if y = name then some v else mA y) -> Heap.SameBut dx s.heap h' -> Q () { s with heap := h', toks := s.toks + 2 }) :
    wpAny (model prog w) A (setAttr (.ref x) name v) Q E s := by
  obtain ⟨od, J, hl⟩ := I.look
  refine PySem.W.set_plain X J hs (PySem.W.osa_open (s := { s with toks := s.toks + 1 }) (r := none) X J hp ht fun b => ?_)
  obtain ⟨cd, hc, hd'⟩ := PySem.W.any_some hh
  have hx : s.heap.get? x = some ⟨.ref C, some dx, .plain, #[]⟩ := I.obj
  refine wpAny_bind (wpAny_pure (wpAny_bind (wpAny_bind (wpAny_loadPart hx (wpAny_bind (PySem.W.Looks.here (s := { s with toks := s.toks + 1 }) (PySem.W.looks_clsIn X hc) ?_))))))
  rw [hd']
  refine wpAny_pure (a := some dx) (wpAny_bind (wpAny_pure (wpAny_bind ?_)))
  refine wpAny_nsSet1 (s := { s with toks := s.toks + 1 }) I.ns fun h' hn2 hs2 => ?_
  obtain ⟨oD, esD, epD, hoD, hdD, hcD⟩ := hn2.count (PySem.Within.cons name v hw)
  refine wpAny_bind (wpAny_lookBehind hoD (by rw [hdD]; exact pastItsLine_dict (Nat.le_trans hcD (by rw [List.length_cons]; omega))) ?_)
  exact wpAny_pure (h _ ⟨(hs2.2 _ (Ne.symm I.ne)).trans I.obj, hn2, I.ne⟩ hs2)

theorem zod {R : Result -> Shared -> Prop} {vs : List Value} {kw : List (Str × Value)} (X : K.In s.heap) (hm : PySem.W.makesIn K C = true)
    (hi : PySem.W.findIn K (.ref C) "__init__" = some (some (.ref f))) (hf : PySem.W.typeIn K (.ref f) = some (.type "function"))
    (h : codeAny (model prog w) (A.under (.builtin "type.__call__" ⟨.ref C :: vs, kw⟩)) (.call (.ref f) ⟨.ref (s.heap.objs.size + 1) :: vs, kw⟩) (PySem.W.InitBack (s.heap.objs.size + 1) R)
      { s with heap := (s.heap.push PySem.W.emptyDict).push (PySem.W.instObj C s.heap.objs.size) }) :
    codeAny (model prog w) A (.call (.ref C) ⟨vs, kw⟩) R s := by
  obtain ⟨hh, g, d, t, os⟩ := s
  exact PySem.W.make_core (PySem.W.makes_of X hm) (PySem.W.looks_findIn X hi) (fun self => PySem.W.bind_fn X self hf) (.inl rfl) h
end

def zdv (f : Str) (v : V) : List (Str × V) -> List (Str × V)
  | [] => [(f, v)]
  | (g, x) :: r => if g = f then (g, v) :: r else (g, x) :: zdv f v r
theorem zfT (f g : Str) (v : V) : ∀ fs : List (Str × V), (zdv f v fs).lookup g = if g = f then some v else fs.lookup g
  | [] => by
    show List.lookup g [(f, v)] = _
    by_cases h : g = f
    . have hb : (g == f) = true := beq_iff_eq.mpr h
      simp only [List.lookup, hb, if_pos h]
    . have hb : (g == f) = false := beq_eq_false_iff_ne.mpr h
      simp only [List.lookup, hb, if_neg h]
  | (k, x) :: r => by
    have ih := zfT f g v r
    rw [show zdv f v ((k, x) :: r) = (if k = f then (k, v) :: r else (k, x) :: zdv f v r) from rfl]
    by_cases hk : k = f
    . rw [if_pos hk]
      by_cases h : g = k
      . have hb : (g == k) = true := beq_iff_eq.mpr h
        simp only [List.lookup, hb, if_pos (h.trans hk)]
      . have hb : (g == k) = false := beq_eq_false_iff_ne.mpr h
        simp only [List.lookup, hb, if_neg (fun e : g = f => h (e.trans hk.symm))]
    . rw [if_neg hk]
      by_cases h : g = k
      . have hb : (g == k) = true := beq_iff_eq.mpr h
        simp only [List.lookup, hb, if_neg (fun e : g = f => hk (h.symm.trans e))]
      . have hb : (g == k) = false := beq_eq_false_iff_ne.mpr h
        simp only [List.lookup, hb]
        exact ih
theorem zfC (f : Str) (v : V) : ∀ fs : List (Str × V), f ∈ (zdv f v fs).map (·.1) /\ ∀ g, g ∈ fs.map (·.1) -> g ∈ (zdv f v fs).map (·.1)
  | [] => ⟨by simp [zdv], fun g h => by simp at h⟩
  | (k, x) :: r => by
    obtain ⟨i1, i2⟩ := zfC f v r
    rw [show zdv f v ((k, x) :: r) = (if k = f then (k, v) :: r else (k, x) :: zdv f v r) from rfl]
    by_cases hk : k = f
    . rw [if_pos hk]
      subst hk
      exact ⟨by simp, fun g h => by simpa using h⟩
    . rw [if_neg hk]
      refine ⟨?_, fun g h => ?_⟩
      . rw [List.map_cons]
        exact List.mem_cons_of_mem _ i1
      . rw [List.map_cons] at h ⊢
        rcases List.mem_cons.mp h with e | e
        . exact List.mem_cons.mpr (.inl e)
        . exact List.mem_cons_of_mem _ (i2 g e)
theorem zfR (f : Str) (v : V) : ∀ fs : List (Str × V), (zdv f v fs).length <= fs.length + 1
  | [] => by simp [zdv]
  | (k, x) :: r => by
    have ih := zfR f v r
    rw [show zdv f v ((k, x) :: r) = (if k = f then (k, v) :: r else (k, x) :: zdv f v r) from rfl]
    by_cases hk : k = f
    . rw [if_pos hk, List.length_cons, List.length_cons]; omega
    . rw [if_neg hk, List.length_cons, List.length_cons]; omega

theorem zeh.some_of {v : V} {o : Option Value} (r : zeh (some v) o) : ∃ u, o = some u /\ RelV v u := by
  cases o with
  | none => exact (show False from r).elim
  | some u => exact ⟨u, rfl, r⟩
theorem zeh.none_of {o : Option Value} (r : zeh none o) : o = none := by
  cases o with
  | none => rfl
  | some u => exact (show False from r).elim
theorem znL {v : V} {u : Value} (r : RelV v u) : PySem.W.handedIn u = true := by
  cases v with
  | non => cases (show u = Value.none from r); rfl
  | bl b => cases (show u = Value.bool b from r); rfl
  | int i => obtain ⟨t, e⟩ := (show ∃ t, u = Value.int i t from r); cases e; rfl
  | str x => obtain ⟨t, e⟩ := (show ∃ t, u = Value.str x t from r); cases e; rfl
  | byt b => obtain ⟨t, e⟩ := (show ∃ t, u = Value.bytes b t from r); cases e; rfl
  | flt b => obtain ⟨t, e⟩ := (show ∃ t, u = Value.float b t from r); cases e; rfl
  | ref a => cases (show u = Value.ref a from r); rfl
  | ty n => cases (show u = Value.type n from r); rfl

section
variable {P : Program} {w : World} {H H' : Hp} {h h' : Heap} {a C dx : Addr} {fs fs' : List (Str × V)}
theorem zdD (hok : HOk P w H h) (e : H a = some (.ins C dx fs)) : ∃ mA, zlR h a dx C mA /\ (∀ f, zeh (fs.lookup f) (mA f)) /\ PySem.Within mA (fs.map (·.1)) /\ fs.length <= 1000 /\ H dx = some (.own a) := by
  obtain ⟨d, z, ne, ob, mA, n, r, q⟩ := (show zaV P w H h a (.ins C dx fs) from hok a _ e)
  exact ⟨mA, ⟨ob, n, ne⟩, r, q, z, d⟩
end

structure Cls (K : PySem.W.Frag) (C : Addr) : Prop where
  pg : PySem.W.plainGet K C Str.empty = true
  hd : PySem.W.hasDictIn K C = true
  po : PySem.W.plainOver K C = true
  sa : PySem.W.findIn K (.ref C) "__setattr__" = some (some (.builtin "object.__setattr__"))
theorem Cls.get {K : PySem.W.Frag} {C : Addr} (c : Cls K C) (f : Str) : PySem.W.plainGet K C f = true := c.pg
def zd1 (K : PySem.W.Frag) (C : Addr) (f : Str) : Prop := PySem.W.findIn K (.ref C) f = some none
theorem zd1.taker {K : PySem.W.Frag} {C : Addr} {f : Str} (n : zd1 K C f) : PySem.W.takerIn K C f = some none := by
  unfold PySem.W.takerIn
  rw [show PySem.W.findIn K (.ref C) f = some none from n]
  rfl
structure Meth (K : PySem.W.Frag) (C : Addr) (m : Str) (f : Addr) : Prop where
  at_ : PySem.W.findIn K (.ref C) m = some (some (.ref f))
  fn : PySem.W.isFn K (.ref f) = true
  kp : PySem.W.keepIn K (.ref f) = true

section
variable {X : Cx} {pins : List (Addr × Obj)} {σ : St} {H : Hp} {s : Shared} {a C dx : Addr} {fs : List (Str × V)} {f : Str} {v : V} {A : Around} {E : Value -> Shared -> Prop}

theorem zlb {b : Bool} {Q : Value -> Shared -> Prop} (I : Inv X pins σ H s) (e : H a = some (.ins C dx fs)) (c : Cls X.K C) (n : zd1 X.K C f) (l : fs.lookup f = some v)
    (h : ∀ u s', Inv X pins σ H s' -> RelV v u -> Q u s') : wpAny (model X.prog X.w) A (getAttr (.ref a) f b) Q E s := by
  obtain ⟨mA, O, r, _, _, _⟩ := zdD I.hok e
  obtain ⟨u, hu, ru⟩ := zeh.some_of (v := v) (o := mA f) (by rw [<- l]; exact r f)
  exact zq1 I.kIn O (c.get f) c.hd n hu (znL ru) (h u _ (I.tok _) ru)

theorem zg9 {m : Str} {g : Addr} {pl : Sem Bool} {Q : Value × List Value -> Shared -> Prop} (I : Inv X pins σ H s) (e : H a = some (.ins C dx fs)) (c : Cls X.K C) (k : Meth X.K C m g) (l : fs.lookup m = none)
    (h : Q (.ref g, [.ref a]) s) : wpAny (model X.prog X.w) A (getMethod (.ref a) m pl) Q E s := by
  obtain ⟨mA, O, r, _, _, _⟩ := zdD I.hok e
  have hn : mA m = none := zeh.none_of (by rw [<- l]; exact r m)
  exact zps I.kIn O (c.get m) k.at_ k.fn hn h

theorem zls {y : V} {u : Value} {Q : Unit -> Shared -> Prop} (I : Inv X pins σ H s) (e : H a = some (.ins C dx fs)) (c : Cls X.K C) (n : zd1 X.K C f) (hl : fs.length < 1000) (ry : RelV y u)
    (h : ∀ s', Inv X pins σ (upd H a (.ins C dx (zdv f y fs))) s' -> Q () s') : wpAny (model X.prog X.w) A (setAttr (.ref a) f u) Q E s := by
  obtain ⟨mA, O, r, wi, _, ho⟩ := zdD I.hok e
  have hz : (fs.map (·.1)).length <= sizeLine := by rw [List.length_map, sizeLine_eq]; omega
  refine ziC I.kIn O c.sa c.po n.taker c.hd wi hz fun h' O' sb => h _ ?_
  have hd : ∃ o, h'.get? dx = some o := let ⟨o, _, _, e', _⟩ := O'.ns; ⟨o, e'⟩
  refine I.write (x := a) (e := dx) (by rw [e]; exact True.intro) (.inr ho) (fun b q hb z => (sb.2 b hb).trans z) hd ?_
  refine ⟨by rw [zJ O.ne]; exact ho, ?_, O.ne, O'.obj, _, O'.ns, fun g => ?_, fun g hg => ?_⟩
  . have := zfR f y fs; omega
  . show zeh ((zdv f y fs).lookup g) (if g = f then some u else mA g)
    rw [zfT]
    by_cases q : g = f
    . rw [if_pos q, if_pos q]; exact ry
    . rw [if_neg q, if_neg q]; exact r g
  . by_cases q : g = f
    . rw [q]; exact (zfC f y fs).1
    . refine (zfC f y fs).2 g (wi g fun z => hg ?_)
      show (if g = f then some u else mA g) = none
      rw [if_neg q]; exact z

theorem Inv.made (I : Inv X pins σ H s) : Inv X pins σ (upd (upd H s.heap.objs.size (.own (s.heap.objs.size + 1))) (s.heap.objs.size + 1) (.ins C s.heap.objs.size []))
    { s with heap := (s.heap.push PySem.W.emptyDict).push (PySem.W.instObj C s.heap.objs.size) } := by
  have e1 : (s.heap.push PySem.W.emptyDict).get? s.heap.objs.size = some PySem.W.emptyDict := Heap.get?_push_size s.heap rfl
  have e2 : ((s.heap.push PySem.W.emptyDict).push (PySem.W.instObj C s.heap.objs.size)).get? (s.heap.objs.size + 1) = some (PySem.W.instObj C s.heap.objs.size) := by
    have := Heap.get?_push_size (s.heap.push PySem.W.emptyDict) (o := PySem.W.instObj C s.heap.objs.size) rfl
    rwa [Heap.size_push] at this
  have e3 : (s.heap.push PySem.W.emptyDict).Ns s.heap.objs.size (fun _ => none) := ⟨PySem.W.emptyDict, #[], _, e1, rfl, (fun e he => absurd he (by simp)), fun _ => rfl⟩
  have I1 := I.laid (a := s.heap.objs.size) (o := .own (s.heap.objs.size + 1)) (h' := s.heap.push PySem.W.emptyDict) (t' := s.toks) (fun b u q => Heap.get?_push_of_some _ q) (Nat.le_refl _) ⟨_, e1⟩
  refine I1.laid (a := s.heap.objs.size + 1) (o := .ins C s.heap.objs.size []) (t' := s.toks) (fun b u q => Heap.get?_push_of_some _ q) (Nat.le_of_eq (Heap.size_push _ _)) ?_
  have ne : s.heap.objs.size ≠ s.heap.objs.size + 1 := Nat.ne_of_lt (Nat.lt_succ_self _)
  refine ⟨by rw [zJ ne, zF], Nat.zero_le _, ne, e2, fun _ => none, (Heap.Ns1.of_empty e3).at fun o q => Heap.get?_push_of_some _ q, fun _ => True.intro, fun y hy => absurd rfl hy⟩

theorem zq2 {prog : Program} {w : World} {env : Env} {e : Expr} {f : Str} {pos : Pos} {s : Shared} {Q : Value -> Shared -> Prop} (hb : attributeBase e f env (eval e env) = eval e env)
    (h : wpAny (model prog w) A (eval e env) (fun o s₁ => wpAny (model prog w) A (getAttr o f true) Q E s₁) E s) : wpAny (model prog w) A (eval (.Attribute e f pos) env) Q E s :=
  Attribute_any_ h (by rw [arm_eval_Attribute, hb])
end

def zrA (K : PySem.W.Frag) (ta : TE) (f : Str) : TE := fun σ H Q => ta σ H fun x H1 => ∃ a C dx fs v, x = .ref a /\ H1 a = some (.ins C dx fs) /\ Cls K C /\ zd1 K C f /\ fs.lookup f = some v /\ Q v H1
def zrs (K : PySem.W.Frag) (ta tv : TE) (f : Str) : TS := fun D σ H => tv σ H fun y H1 => ta σ H1 fun x H2 => ∃ a C dx fs, x = .ref a /\ H2 a = some (.ins C dx fs) /\ Cls K C /\ zd1 K C f /\ fs.length < 1000 /\
  D.nx σ (upd H2 a (.ins C dx (zdv f y fs)))
section
variable {X : Cx} {o e value : Expr} {f : Str} {pos pos' tpos : Pos} {ta tv : TE}
theorem ztk (he : PE X e ta) (hb : attributeBase e f X.env (eval e X.env) = eval e X.env) : PE X (.Attribute e f pos) (zrA X.K ta f) := by
  intro pins s σ H Q I h
  refine zq2 hb (thn (he pins s σ H _ I h) fun u s1 ⟨x, H1, I1, rx, a, C, dx, fs, v, ex, ea, c, n, l, q⟩ => ?_)
  subst ex
  obtain rfl : u = Value.ref a := rx
  exact zlb I1 ea c n l fun u' s2 I2 ru => ⟨v, H1, I2, ru, q⟩
theorem zsl (ha : PE X o ta) (hv : PE X value tv) (hs : swapsWith value (some (.Attribute o f pos')) pos.line X.env = pure false) : PS X (.Assign [.Attribute o f pos'] value pos) (zrs X.K ta tv f) := by
  intro pins s σ H D I h
  refine plainObj_wpAny_Assign_Attribute (thn (hv pins s σ H _ I h) fun u s1 ⟨y, H1, I1, ry, q⟩ => thn (ha pins s1 σ H1 _ I1 q) fun ov s2 ⟨x, H2, I2, rx, a, C, dx, fs, ex, ea, c, n, l, q2⟩ => ?_) hs
  subst ex
  obtain rfl : ov = Value.ref a := rx
  exact zls I2 ea c n l ry fun s3 I3 => ⟨σ, _, I3, q2⟩
end

section
variable {X : Cx} {pins : List (Addr × Obj)} {σ : St} {H : Hp} {s : Shared} {A : Around} {E : Value -> Shared -> Prop} {Q : Value -> Shared -> Prop} {c : Value} {b : Bool}
inductive zeg (K : PySem.W.Frag) (H : Hp) : V -> Value -> Prop where
  | non : zeg K H .non (.type "NoneType")
  | bl (x : Bool) : zeg K H (.bl x) (.type "bool")
  | int (i : Int) : zeg K H (.int i) (.type "int")
  | str (x : Str) : zeg K H (.str x) (.type "str")
  | flt (x : UInt64) : zeg K H (.flt x) (.type "float")
  | lst {a : Addr} {xs : List V} (e : H a = some (.lst xs)) : zeg K H (.ref a) (.type "list")
  | frz {a : Addr} {o : Obj} {xs : List V} (e : H a = some (.frz o (.lst xs))) : zeg K H (.ref a) (.type "list")
  | tup {a : Addr} {xs : List V} (e : H a = some (.tup xs)) : zeg K H (.ref a) (.type "tuple")
  | dK {a : Addr} {kvs : List (Key × V)} (e : H a = some (.dK kvs)) : zeg K H (.ref a) (.type "dict")
  | dT {a : Addr} {kvs : List (List Key × V)} (e : H a = some (.dT kvs)) : zeg K H (.ref a) (.type "dict")
  | ins {a C dx : Addr} {fs : List (Str × V)} (e : H a = some (.ins C dx fs)) (cl : Cls K C) (ha : PySem.W.findIn K (.ref C) "__class__" = some (some (.builtin "object.__class__")))
      (hn : PySem.W.specialIn K (.builtin "object.__class__") "__get__" = some (some (.builtin "getset_descriptor.__get__"))) (htk : PySem.W.takesIn K (.builtin "object.__class__") = some true)
      (hm : PySem.W.mroIn K C (.type "object") = some true) : zeg K H (.ref a) (.ref C)
theorem zna {x : V} {u t : Value} (I : Inv X pins σ H s) (rx : RelV x u) (ty : zeg X.K H x t) (e : PySem.W.kitOne X.K t c = some b) (h : ∀ tk, Q (.bool b) { s with toks := tk }) :
    wpAny (model X.prog X.w) A (call (.builtin "isinstance") [u, c]) Q E s := by
  cases ty with
  | non => cases (show u = Value.none from rx); exact PySem.W.kia_one PySem.W.kitx_none I.kIn True.intro e (fun z => nomatch z) h
  | bl y => cases (show u = Value.bool y from rx); exact PySem.W.kia_one PySem.W.kitx_bool I.kIn True.intro e (fun z => nomatch z) h
  | int i => obtain ⟨t, q⟩ := (show ∃ t, u = Value.int i t from rx); cases q; exact PySem.W.kia_one PySem.W.kitx_int I.kIn True.intro e (fun z => nomatch z) h
  | str y => obtain ⟨t, q⟩ := (show ∃ t, u = Value.str y t from rx); cases q; exact PySem.W.kia_one PySem.W.kitx_str I.kIn True.intro e (fun z => nomatch z) h
  | flt y => obtain ⟨t, q⟩ := (show ∃ t, u = Value.float y t from rx); cases q; exact PySem.W.kia_one PySem.W.kitx_float I.kIn True.intro e (fun z => nomatch z) h
  | @lst a xs ea =>
    cases (show u = Value.ref a from rx)
    obtain ⟨_, _, n, _, h1⟩ := (show zaV X.prog X.w H s.heap a (.lst xs) from I.hok a _ ea)
    exact PySem.W.kia_one PySem.W.kitx_list I.kIn ⟨_, h1, rfl⟩ e (fun z => nomatch z) h
  | @frz a ob xs ea =>
    cases (show u = Value.ref a from rx)
    obtain ⟨_, _, _, n, _, h1⟩ := (show zaV X.prog X.w H s.heap a (.frz ob (.lst xs)) from I.hok a _ ea)
    exact PySem.W.kia_one PySem.W.kitx_list I.kIn ⟨_, h1, rfl⟩ e (fun z => nomatch z) h
  | @tup a xs ea =>
    cases (show u = Value.ref a from rx)
    obtain ⟨_, _, _, p⟩ := (show zaV X.prog X.w H s.heap a (.tup xs) from I.hok a _ ea)
    obtain ⟨o, h1, h2, _⟩ := p
    exact PySem.W.kia_one PySem.W.kitx_tuple I.kIn ⟨o, h1, h2⟩ e (fun z => nomatch z) h
  | @dK a kvs ea =>
    cases (show u = Value.ref a from rx)
    obtain ⟨_, _, vs, _, p⟩ := (show zaV X.prog X.w H s.heap a (.dK kvs) from I.hok a _ ea)
    obtain ⟨o, es, ep, h1, h2, _⟩ := p
    exact PySem.W.kia_one PySem.W.kitx_dict I.kIn ⟨o, h1, h2.1⟩ e (fun z => nomatch z) h
  | @dT a kvs ea =>
    cases (show u = Value.ref a from rx)
    obtain ⟨_, _, xs, _, o, es, ep, h1, h2, _⟩ := (show zaV X.prog X.w H s.heap a (.dT kvs) from I.hok a _ ea)
    exact PySem.W.kia_one PySem.W.kitx_dict I.kIn ⟨o, h1, h2.1⟩ e (fun z => nomatch z) h
  | @ins a C dx fs ea cl ha hn htk hm =>
    cases (show u = Value.ref a from rx)
    obtain ⟨mA, O, _⟩ := zdD I.hok ea
    obtain ⟨od, J, _⟩ := O.look
    exact PySem.W.kia_one (PySem.W.kitx_own (cl.get _) cl.hd ha hn htk hm) I.kIn J e (fun z => nomatch z) h
end
end L2

namespace L2
open PySem PySem.Spec PyProof.Rows

structure zaM (k : Nat) (A : Around) : Prop where
  hd : A.handled = none
  dp : A.depth + 3 * k + 5 < recursionLimit
  un : A.units + 16 * k + 200 < cLine
  gd : A.guards = some []
theorem zaM.mono {j k : Nat} {A : Around} (r : zaM k A) (h : j <= k) : zaM j A := ⟨r.hd, by have := r.dp; omega, by have := r.un; omega, r.gd⟩
theorem zaM.deeper {k : Nat} {A : Around} (r : zaM (k + 1) A) (env : Env) : zaM k (A.deeper env) :=
  ⟨r.hd, by have := r.dp; show A.depth + 1 + 3 * k + 5 < _; omega, by have := r.un; show A.units + 3 + 16 * k + 200 < _; omega, r.gd⟩
theorem zaM.in1 {k : Nat} {A : Around} (r : zaM (k + 1) A) : zaM k A.in1 :=
  ⟨r.hd, by have := r.dp; show A.depth + 3 * k + 5 < _; omega, by have := r.un; show A.units + 1 + 16 * k + 200 < _; omega, r.gd⟩
theorem zk1 {A : Around} {C : Addr} {us : List Value} {kw : List (Str × Value)} : (A.under (.builtin "type.__call__" ⟨.ref C :: us, kw⟩)).depth = A.depth + 1 := by
  first | rfl | simp [Around.under, Code.weight, Code.isCreation, Code.isGuard, Code.isCaller, Code.frames, Code.isFrame, guardIds]
theorem zk3 {A : Around} {C : Addr} {us : List Value} {kw : List (Str × Value)} : (A.under (.builtin "type.__call__" ⟨.ref C :: us, kw⟩)).units = A.units + 1 := by
  first | rfl | simp [Around.under, Code.cUnits, Code.frames, Code.isFrame]
theorem zjV {A : Around} {C : Addr} {us : List Value} {kw : List (Str × Value)} : (A.under (.builtin "type.__call__" ⟨.ref C :: us, kw⟩)).guards = A.guards := by
  first | rfl | simp [Around.under, Code.guards, Code.isGuard, guardIds, pushGuards]
theorem zaM.make {k : Nat} {A : Around} (r : zaM (k + 1) A) (C : Addr) (us : List Value) (kw : List (Str × Value)) : zaM k (A.under (.builtin "type.__call__" ⟨.ref C :: us, kw⟩)) :=
  ⟨r.hd, by have := r.dp; rw [zk1]; omega, by have := r.un; rw [zk3]; omega, by rw [zjV]; exact r.gd⟩
theorem zaM.depth {k : Nat} {A : Around} (r : zaM k A) : A.depth < recursionLimit := by have := r.dp; omega
theorem zaM.units {k : Nat} {A : Around} (r : zaM k A) : A.units + 64 < cLine := by have := r.un; omega
def zfr : TA := fun _ H Q => Q [] H
def ze6 (ta : TE) (tr : TA) : TA := fun σ H Q => ta σ H fun x H1 => tr σ H1 fun xs H2 => Q (x :: xs) H2
section
variable {X : Cx} {e : Expr} {es : List Expr} {te : TE} {t : TA} {pos : Pos}
theorem zpE : PA X [] zfr := fun _ _ _ _ H Q I h => Calls.spliced_nil ⟨[], H, I, .nil, h⟩
theorem zmf (ha : PE X e te) (hr : PA X es t) (hs : starEach (e :: es) X.env = (false, eval e X.env) :: starEach es X.env := by rfl) : PA X (e :: es) (ze6 te t) := by
  intro pos pins s σ H Q I h
  rw [hs]
  show wpAny _ _ (spliced ((false, eval e X.env) :: backTo pos (starEach es X.env))) _ _ s
  refine Calls.spliced_cons (thn (ha pins s σ H _ I h) fun u s1 ⟨x, H1, I1, r1, q1⟩ => ?_)
  exact thn (hr pos pins s1 σ H1 _ I1 q1) fun us s2 ⟨xs, H2, I2, r2, q2⟩ => ⟨x :: xs, H2, I2, .cons r1 r2, q2⟩

def zt8 (t : TA) : TE := fun σ H Q => t σ H fun xs H1 => xs.length <= sizeLine /\ ∀ p, H1 p = none -> Q (.ref p) (upd H1 p (.tup xs))
def zrl (t : TA) : TE := fun σ H Q => t σ H fun xs H1 => xs.length <= sizeLine /\ ∀ p, H1 p = none -> Q (.ref p) (upd H1 p (.lst xs))
theorem ztm {x1} (h : PA X es t) : PE X (.Tuple es x1 pos) (zt8 t) := by
  intro pins s σ H Q I hq
  refine wpAny_Tuple_spliced (thn (h pos pins s σ H _ I hq) fun us s1 ⟨xs, H1, I1, r, z, q⟩ => ⟨by rw [<- r.length]; exact z, ?_⟩)
  have hf : H1 s1.heap.objs.size = none := I1.hok.fresh (Nat.le_refl _)
  refine ⟨.ref s1.heap.objs.size, upd H1 s1.heap.objs.size (.tup xs), I1.laid (t' := s1.toks) (fun b u e => Heap.get?_push_of_some _ e) (Nat.le_refl _) ?_, rfl, q _ hf⟩
  exact ⟨z, us, r, ⟨_, Heap.get?_push_size _ rfl, rfl, _, rfl⟩⟩
theorem zsS (h : PA X es t) : PE X (.List es pos) (zrl t) := by
  intro pins s σ H Q I hq
  refine wpAny_List_spliced (thn (h pos pins s σ H _ I hq) fun us s1 ⟨xs, H1, I1, r, z, q⟩ => ⟨by rw [<- r.length]; exact z, ?_⟩)
  have hf : H1 s1.heap.objs.size = none := I1.hok.fresh (Nat.le_refl _)
  refine ⟨.ref s1.heap.objs.size, upd H1 s1.heap.objs.size (.lst xs), I1.laid (t' := s1.toks) (fun b u e => Heap.get?_push_of_some _ e) (Nat.le_refl _) ?_, rfl, q _ hf⟩
  exact ⟨z, us, 0, r, Heap.get?_push_size _ rfl⟩
end

abbrev Sp := List V -> Hp -> VK -> XK -> Prop
abbrev CXT := List Env -> Hp -> Shared -> XK -> Value -> Shared -> Prop

structure zhv (P : Program) (w : World) (K : PySem.W.Frag) (mg : Str -> Option Value) (base : Heap) (A : Around) (outer : List Env) (s : Shared) (H : Hp) : Prop where
  frames : A.frames = some outer
  mod : Mod K mg base
  bs : ∀ b o, base.get? b = some o -> s.heap.get? b = some o /\ H b = none
  bsz : base.objs.size <= s.heap.objs.size
  funs : s.heap.FunFrames base outer
  frf : ∀ b ∈ frs outer, H b = none
  hok : HOk P w H s.heap
  bare : AllBare s.gens
def CE (outer : List Env) (P : Program) (w : World) (H : Hp) (s : Shared) (Q : VK) (u : Value) (s' : Shared) : Prop :=
  ∃ v H', s'.os = s.os /\ AllBare s'.gens /\ Un (frs outer) [] H H' s.heap s'.heap /\ HOk P w H' s'.heap /\ RelV v u /\ Q v H'
def CR (CX : CXT) (outer : List Env) (P : Program) (w : World) (H : Hp) (s : Shared) (Q : VK) (E : XK) (r : Result) (s' : Shared) : Prop :=
  match r with
  | .ok (.ret u) => CE outer P w H s Q u s'
  | .ok _ => False
  | .error e => CX outer H s E e s'
structure zas (P : Program) (w : World) (K : PySem.W.Frag) (mg : Str -> Option Value) (base : Heap) (CX : CXT) (k : Nat) (f : Addr) (fd : FuncData) (ps : List Str) (sp : Sp) : Prop where
  len : ∀ vs H Q E, sp vs H Q E -> vs.length = ps.length
  run : ∀ (A : Around) (outer : List Env) (s : Shared) (H : Hp) (args : Args) (us : List Value) (vs : List V) (Q : VK) (E : XK), zaM k A -> zhv P w K mg base A outer s H -> BindsTo s fd args (ps.zip us) -> Vals vs us -> sp vs H Q E ->
    codeAny (model P w) A (.call (.ref f) args) (CR CX outer P w H s Q E) s
theorem zas.mono {P : Program} {w : World} {K : PySem.W.Frag} {mg : Str -> Option Value} {base : Heap} {CX : CXT} {j k : Nat} {f : Addr} {fd : FuncData} {ps : List Str} {sp : Sp} (F : zas P w K mg base CX j f fd ps sp) (h : j <= k) :
    zas P w K mg base CX k f fd ps sp := ⟨F.len, fun A outer s H args us vs Q E hr => F.run A outer s H args us vs Q E (hr.mono h)⟩
theorem zas.imp {P : Program} {w : World} {K : PySem.W.Frag} {mg : Str -> Option Value} {base : Heap} {CX : CXT} {k : Nat} {f : Addr} {fd : FuncData} {ps : List Str} {sp sp' : Sp} (F : zas P w K mg base CX k f fd ps sp)
    (h : ∀ vs H Q E, sp' vs H Q E -> sp vs H Q E) : zas P w K mg base CX k f fd ps sp' :=
  ⟨fun vs H Q E q => F.len vs H Q E (h _ _ _ _ q), fun A outer s H args us vs Q E hr he hb hv hs => F.run A outer s H args us vs Q E hr he hb hv (h _ _ _ _ hs)⟩

theorem zhv.make {P : Program} {w : World} {K : PySem.W.Frag} {mg : Str -> Option Value} {base : Heap} {A : Around} {outer : List Env} {s : Shared} {H : Hp} (e : zhv P w K mg base A outer s H) (C : Addr) (us : List Value) (kw : List (Str × Value)) :
    zhv P w K mg base (A.under (.builtin "type.__call__" ⟨.ref C :: us, kw⟩)) outer s H := ⟨by first | exact e.frames | (simpa [Around.under, Code.envs, Code.isFrame, pushEnvs] using e.frames), e.mod, e.bs, e.bsz, e.funs, e.frf, e.hok, e.bare⟩
theorem zhv.in1 {P : Program} {w : World} {K : PySem.W.Frag} {mg : Str -> Option Value} {base : Heap} {A : Around} {outer : List Env} {s : Shared} {H : Hp} (e : zhv P w K mg base A outer s H) :
    zhv P w K mg base A.in1 outer s H := ⟨e.frames, e.mod, e.bs, e.bsz, e.funs, e.frf, e.hok, e.bare⟩

section
variable {X : Cx} {pins : List (Addr × Obj)} {σ : St} {H : Hp} {s s' : Shared}
theorem Inv.env0 (I : Inv X pins σ H s) : zhv X.prog X.w X.K X.mg X.base X.A X.stack s H :=
  ⟨I.ok.frames, I.ok.mod, I.bs, Nat.le_trans I.ok.bsz I.sz, I.stack, I.stkFree, I.hok, I.bare⟩
theorem Inv.after {Q : VK} {u : Value} (I : Inv X pins σ H s) (h : CE X.stack X.prog X.w H s Q u s') : EP X pins σ Q u s' := by
  obtain ⟨v, H', os, bare, un, hok, r, q⟩ := h
  obtain ⟨hh, g, d, t, os'⟩ := s'
  obtain rfl : os' = s.os := os
  exact ⟨v, H', I.call (h' := hh) (g' := g) (d' := d) (t' := t) (ch := []) un hok bare (fun b z => absurd z (by simp)), r, q⟩
end

def zkT (sp : Sp) (dvs : List V) (E : XK) (t : TA) : TE := fun σ H Q => t σ H fun vs H1 => sp (vs ++ dvs) H1 Q E
def Binds (K : PySem.W.Frag) (fd : FuncData) (ps : List Str) (ds : List Value) : Prop :=
  ∀ (s : Shared) (us : List Value), K.In s.heap -> (us ++ ds).length = ps.length -> BindsTo s fd ⟨us, []⟩ (ps.zip (us ++ ds))
theorem Binds.all {K : PySem.W.Frag} {fd : FuncData} {ps : List Str} (h : ∀ us : List Value, us.length = ps.length -> bindArgs fd ⟨us, []⟩ = pure (ps.zip us)) : Binds K fd ps [] := fun s us _ hl => by
  rw [List.append_nil] at hl ⊢
  exact .of_eq (h us hl)

def zb8 (CX : CXT) (X : Cx) (E : XK) : Prop := ∀ (pins : List (Addr × Obj)) (σ : St) (H : Hp) (s : Shared) (e : Value) (s' : Shared), Inv X pins σ H s -> CX X.stack H s E e s' -> X.xe e s'

section
variable {X : Cx} {CX : CXT} {k : Nat} {f C : Addr} {fd : FuncData} {ps : List Str} {sp : Sp} {dvs : List V} {ds : List Value} {E : XK} {x m : Str} {p pos apos : Pos} {e o : Expr} {es : List Expr} {ta : TE} {t : TA}

theorem zoq {pins : List (Addr × Obj)} {σ : St} {H : Hp} {s : Shared} {Q : VK} {us : List Value} {vs : List V} (F : zas X.prog X.w X.K X.mg X.base CX k f fd ps sp) (hr : zaM k X.A) (hb : Binds X.K fd ps ds) (hd : Vals dvs ds) (hx : zb8 CX X E)
    (I : Inv X pins σ H s) (r : Vals vs us) (h : sp (vs ++ dvs) H Q E) : wpAny (model X.prog X.w) X.A (call (.ref f) us) (EP X pins σ Q) X.xe s := by
  have r2 : Vals (vs ++ dvs) (us ++ ds) := r.append hd
  have hl : (us ++ ds).length = ps.length := by rw [<- r2.length]; exact F.len _ _ _ _ h
  refine wpAny_call (codeAny_mono (F.run X.A X.stack s H ⟨us, []⟩ (us ++ ds) (vs ++ dvs) Q E hr I.env0 (hb s us I.kIn hl) r2 h) fun r s' hq => ?_)
  cases r with
  | error e => exact hx pins σ H s e s' I hq
  | ok fl =>
    cases fl with
    | ret u => exact I.after hq
    | next => exact False.elim hq
    | brk => exact False.elim hq
    | cont => exact False.elim hq

theorem zqz (F : zas X.prog X.w X.K X.mg X.base CX k f fd ps sp) (hr : zaM k X.A) (hg : Gl X x) (hm : X.mg x = some (.ref f)) (hk : PySem.W.keepIn X.K (.ref f) = true) (hb : Binds X.K fd ps ds) (hd : Vals dvs ds) (hx : zb8 CX X E)
    (ha : PA X (e :: es) t) (hdb : (x == ("__debug__" : Str)) = false := by decide) (he : starEach (e :: es) X.env = (false, eval e X.env) :: starEach es X.env := by rfl) (hpl : (backTo pos (starEach es X.env)).any (·.1) = false := by rfl) :
    PE X (.Call (.Name x p) (e :: es) [] pos) (zkT sp dvs E t) := by
  intro pins s σ H Q I h
  refine wpAny_Call_Name_kw (zi0 I hg hm ?_ hdb)
  refine PySem.W.callWith_K (h₀ := X.base) I.ok.mod.kin hk (thn (ha pos pins s σ H _ I h) fun us s1 ⟨vs, H1, I1, r, q⟩ => ⟨I1.kIn, ?_⟩) he hpl
  exact zoq F hr hb hd hx I1 r q
structure Mk (K : PySem.W.Frag) (C f : Addr) : Prop where
  makes : PySem.W.makesIn K C = true
  init : PySem.W.findIn K (.ref C) "__init__" = some (some (.ref f))
  fn : PySem.W.isFn K (.ref f) = true
  kp : PySem.W.keepIn K (.ref C) = true

end

def PK (X : Cx) (kws : List Keyword) (t : TA) : Prop :=
  ∀ (pos : Pos) (pins : List (Addr × Obj)) (s : Shared) (σ : St) (H : Hp) (Q : List V -> Hp -> Prop), Inv X pins σ H s -> t σ H Q -> wpAny (model X.prog X.w) X.A (evalAll ((backToKw pos (keywordEach kws X.env)).map (·.2))) (AP X pins σ Q) X.xe s
section
variable {X : Cx} {CX : CXT} {k : Nat} {f C : Addr} {fd : FuncData} {ps ks : List Str} {sp : Sp} {E : XK} {x m : Str} {p pos apos kpos : Pos} {e o : Expr} {es : List Expr} {kws : List Keyword} {te ta : TE} {t tk : TA} {nm : Option Str}
theorem zsu : PK X [] zfr := fun _ _ _ _ H Q I h => wpAny_evalAll_nil ⟨[], H, I, .nil, h⟩
theorem zrL (ha : PE X e te) (hr : PK X kws t) : PK X (⟨nm, e, kpos⟩ :: kws) (ze6 te t) := by
  intro pos pins s σ H Q I h
  show wpAny _ _ (evalAll ((do let v <- eval e X.env; standAt pos; pure v) :: (backToKw pos (keywordEach kws X.env)).map (·.2))) _ _ s
  refine wpAny_evalAll_cons (wpAny_bind (thn (ha pins s σ H _ I h) fun u s1 ⟨x, H1, I1, r1, q1⟩ => wpAny_bind (wpAny_standAt (wpAny_pure ?_))))
  exact thn (hr pos pins s1 σ H1 _ I1 q1) fun us s2 ⟨xs, H2, I2, r2, q2⟩ => ⟨x :: xs, H2, I2, .cons r1 r2, q2⟩

structure zhq (K : PySem.W.Frag) (fd : FuncData) (ps ks : List Str) (g : List Value -> List Value -> List Value) (gV : List V -> List V -> List V) : Prop where
  to : ∀ (s : Shared) (us ws : List Value), K.In s.heap -> (g us ws).length = ps.length -> BindsTo s fd ⟨us, ks.zip ws⟩ (ps.zip (g us ws))
  rel : ∀ {vs : List V} {us : List Value} {zs : List V} {ws : List Value}, Vals vs us -> Vals zs ws -> Vals (gV vs zs) (g us ws)
variable {g : List Value -> List Value -> List Value} {gV : List V -> List V -> List V}
theorem zme {pins : List (Addr × Obj)} {σ : St} {H : Hp} {s : Shared} {Q : VK} {us ws : List Value} {vs zs : List V} (F : zas X.prog X.w X.K X.mg X.base CX k f fd ps sp) (hr : zaM k X.A) (hb : zhq X.K fd ps ks g gV) (hx : zb8 CX X E)
    (I : Inv X pins σ H s) (r : Vals vs us) (rz : Vals zs ws) (h : sp (gV vs zs) H Q E) : wpAny (model X.prog X.w) X.A (call (.ref f) us (ks.zip ws)) (EP X pins σ Q) X.xe s := by
  have r2 := hb.rel r rz
  have hl : (g us ws).length = ps.length := by rw [<- r2.length]; exact F.len _ _ _ _ h
  refine wpAny_call (codeAny_mono (F.run X.A X.stack s H ⟨us, ks.zip ws⟩ (g us ws) (gV vs zs) Q E hr I.env0 (hb.to s us ws I.kIn hl) r2 h) fun r s' hq => ?_)
  cases r with
  | error e => exact hx pins σ H s e s' I hq
  | ok fl =>
    cases fl with
    | ret u => exact I.after hq
    | next => exact False.elim hq
    | brk => exact False.elim hq
    | cont => exact False.elim hq
end

structure zK (N P : List Str) (sc : Scope) : Prop where
  kind : sc.kind = .function
  co : sc.isCoroutine = false
  gen : sc.isGenerator = false
  nd : N.Nodup
  pre : N.take P.length = P
  par : ∀ x ∈ P, sc.names.lookup x = some .local \/ sc.names.lookup x = some .cell
  nofree : ∀ y ∈ sc.names, y.2 ≠ .free

theorem zih {kindOf : Str -> Option NameKind} {x : Str} : ∀ {binds : List (Str × Value)} {m : Str -> Option Value}, (∀ v, (x, v) ∉ binds) -> bindL kindOf binds m x = m x
  | [], _, _ => rfl
  | (n, v) :: r, m, h => by
    unfold bindL
    rw [zih fun w hw => h w (List.mem_cons_of_mem _ hw)]
    split
    . have : x ≠ n := by rintro rfl; exact h v List.mem_cons_self
      simp [this]
    . rfl
theorem ziq {kindOf : Str -> Option NameKind} {x : Str} : ∀ {binds : List (Str × Value)} {m : Str -> Option Value}, (∀ v, (x, v) ∉ binds) -> bindC kindOf binds m x = m x
  | [], _, _ => rfl
  | (n, v) :: r, m, h => by
    unfold bindC
    rw [ziq fun w hw => h w (List.mem_cons_of_mem _ hw)]
    split
    . rfl
    . have : x ≠ n := by rintro rfl; exact h v List.mem_cons_self
      simp [this]
theorem zhR {kindOf : Str -> Option NameKind} {x : Str} {v : Value} : ∀ {P : List Str} {vs : List Value} {i : Nat} {m : Str -> Option Value}, P.Nodup -> P[i]? = some x -> vs[i]? = some v -> kindOf x = some .local ->
    bindL kindOf (P.zip vs) m x = some v
  | [], _, _, _, _, h, _, _ => by simp at h
  | _ :: _, [], _, _, _, _, h, _ => by simp at h
  | p :: P, w :: vs, 0, m, nd, h1, h2, hk => by
    simp at h1 h2; subst h1; subst h2
    show bindL kindOf ((p, w) :: P.zip vs) m p = _
    unfold bindL
    rw [zih fun v hv => (List.nodup_cons.mp nd).1 (List.of_mem_zip hv).1, if_pos hk]
    simp
  | p :: P, w :: vs, i + 1, m, nd, h1, h2, hk => by
    show bindL kindOf ((p, w) :: P.zip vs) m x = _
    unfold bindL
    exact zhR (i := i) (List.nodup_cons.mp nd).2 (by simpa using h1) (by simpa using h2) hk
theorem zio {kindOf : Str -> Option NameKind} {x : Str} {v : Value} : ∀ {P : List Str} {vs : List Value} {i : Nat} {m : Str -> Option Value}, P.Nodup -> P[i]? = some x -> vs[i]? = some v -> kindOf x ≠ some .local ->
    bindC kindOf (P.zip vs) m x = some v
  | [], _, _, _, _, h, _, _ => by simp at h
  | _ :: _, [], _, _, _, _, h, _ => by simp at h
  | p :: P, w :: vs, 0, m, nd, h1, h2, hk => by
    simp at h1 h2; subst h1; subst h2
    show bindC kindOf ((p, w) :: P.zip vs) m p = _
    unfold bindC
    rw [ziq fun v hv => (List.nodup_cons.mp nd).1 (List.of_mem_zip hv).1, if_neg hk]
    simp
  | p :: P, w :: vs, i + 1, m, nd, h1, h2, hk => by
    show bindC kindOf ((p, w) :: P.zip vs) m x = _
    unfold bindC
    exact zio (i := i) (List.nodup_cons.mp nd).2 (by simpa using h1) (by simpa using h2) hk

def start (N : List Str) (vs : List V) : St := vs.map some ++ List.replicate (N.length - vs.length) none

def zkh (CX : CXT) (P : Program) (w : World) (K : PySem.W.Frag) (mg : Str -> Option Value) (base : Heap) (N : List Str) (qual : Str) (scope : Scope) (f : Addr) (cd : Value) (A : Around) (outer : List Env) (s : Shared) (H : Hp) (E : XK) : Cx where
  prog := P
  w := w
  K := K
  mg := mg
  base := base
  A := A.deeper (envOfC qual scope s.heap.objs.size f cd)
  N := N
  s₀ := s
  H₀ := H
  env := envOfC qual scope s.heap.objs.size f cd
  outer := outer
  stack := envOfC qual scope s.heap.objs.size f cd :: outer
  ex := []
  calm := true
  fn := fun _ => true
  pn := []
  xe := fun e s' => wpAny (model P w) (A.deeper (envOfC qual scope s.heap.objs.size f cd)) (leaving (envOfC qual scope s.heap.objs.size f cd) e) (fun _ s'' => CX outer H s E e s'') (fun e' s'' => CX outer H s E e' s'') s'

theorem zkM {sc : Scope} {n : Nat} {x : Str} (h : sc.names.lookup x = some .cell) : ∃ c, (cellsFrom n sc.names []).lookup x = some c := by
  have q := PySem.W.cellsFrom_some sc.names n [] (.inl h)
  exact Option.isSome_iff_exists.mp q

theorem zmR {CX : CXT} {P : Program} {w : World} {K : PySem.W.Frag} {mg : Str -> Option Value} {base : Heap} {N ps : List Str} {qual : Str} {scope : Scope} {f : Addr} {cd : Value} {A : Around} {outer : List Env} {s s1 : Shared} {H : Hp} {E : XK} {us : List Value} {vs : List V}
    (S : zK N ps scope) (hd : A.handled = none) (e0 : zhv P w K mg base A outer s H) (hl : vs.length = ps.length) (r : Vals vs us)
    (x : InCallC s s.heap.objs.size (bindL (envOfC qual scope s.heap.objs.size f cd).kindOf (ps.zip us) fun _ => none) (cellsFrom (s.heap.objs.size + 1) scope.names []) (bindC (envOfC qual scope s.heap.objs.size f cd).kindOf (ps.zip us) fun _ => none) s1) :
    Inv (zkh CX P w K mg base N qual scope f cd A outer s H E) [] (start N vs) H s1 := by
  have hpl : ps.length <= N.length := by have := congrArg List.length S.pre; rw [List.length_take] at this; omega
  obtain ⟨h1, tk, rfl, hk⟩ := x.done
  have noA : ∀ b : Addr, b ∉ (zkh CX P w K mg base N qual scope f cd A outer s H E).ex := fun b z => absurd (show b ∈ ([] : List Addr) from z) (by simp)
  refine ⟨⟨e0.mod, S.kind, rfl, rfl, Nat.le_refl _, fun y z c h1 h2 => ?_, fun y hy => ?_, fun y c _ h => ?_, fun _ => hd, Around.frames_deeper e0.frames, .inr ⟨rfl, rfl⟩, fun b z => absurd z (noA b), e0.bs, e0.bsz, fun b _ _ => noA b, fun b z => absurd z (noA b), e0.funs, e0.frf⟩,
    rfl, e0.bare, Un.kept hk, ⟨_, x.toInCall.ns, fun i y v h1 h2 h3 => ?_⟩, fun y c h => ⟨_, x.cell y c h⟩, e0.hok.fresh (Nat.le_refl _), fun y c h => ?_, fun p hp => absurd (show p ∈ ([] : List (Addr × Obj)) from hp) (by simp), e0.hok.kept hk, ?_⟩
  . exact name_of_addr x.apart (PySem.mem_of_lookup h1) (PySem.mem_of_lookup h2)
  . have hy : scope.names.lookup y = some .cell \/ scope.names.lookup y = some .free := hy
    rcases hy with hy | hy
    . exact zkM hy
    . exact absurd rfl (S.nofree _ (PySem.mem_of_lookup hy))
  . exact Nat.le_of_lt (x.above y c (PySem.mem_of_lookup h))
  . have hi : i < vs.length := by
      unfold start at h2
      by_cases hi : i < vs.length
      . exact hi
      . rw [List.getElem?_append_right (by simpa using hi)] at h2
        rw [List.getElem?_replicate] at h2
        split at h2 <;> cases h2
    have ha : vs[i]? = some v := by
      unfold start at h2
      rw [List.getElem?_append_left (by simpa using hi), List.getElem?_map] at h2
      cases e : vs[i]? with
      | none => rw [e] at h2; cases h2
      | some a => rw [e] at h2; cases h2; rfl
    obtain ⟨u, hu, rv⟩ := r.get ha
    have hp : ps[i]? = some y := by
      rw [<- S.pre, List.getElem?_take_of_lt (by omega)]; exact h1
    have ndP : ps.Nodup := by rw [<- S.pre]; exact S.nd.sublist (List.take_sublist _ _)
    refine ⟨u, rv, ?_⟩
    rcases S.par y (List.mem_of_getElem? hp) with k | k
    . exact .inl ⟨k, zhR ndP hp hu k⟩
    . obtain ⟨c, e⟩ := zkM (n := s.heap.objs.size + 1) k
      refine .inr ⟨.inl k, c, e, ?_⟩
      have q := x.cell y c e
      rw [zio ndP hp hu (by show scope.names.lookup y ≠ _; rw [k]; decide)] at q
      exact q
  . exact e0.hok.fresh (Nat.le_of_lt (x.above y c (PySem.mem_of_lookup h)))
  . unfold start
    show _ = N.length
    rw [List.length_append, List.length_map, List.length_replicate]
    omega

theorem zvt {CX : CXT} {P : Program} {w : World} {K : PySem.W.Frag} {mg : Str -> Option Value} {base : Heap} {k : Nat} {f : Addr} {name qual : Str} {params : Arguments} {body : List Stmt} {scope : Scope} {dV kV doc pm cdv ct oc : Value} {an od : Option Addr}
    {osl : Array (Option Value)} {N ps : List Str} {sp : Sp} (lk : K.lookup f = some ⟨oc, od, .func (PySem.W.fnOf name qual params body scope dV kV doc pm an cdv ct), osl⟩) (hcd : PySem.W.codeIn K cdv qual = true) (S : zK N ps scope)
    (len : ∀ vs H Q E, sp vs H Q E -> vs.length = ps.length)
    (hbody : ∀ (A : Around) (outer : List Env) (s : Shared) (H : Hp) (vs : List V) (Q : VK) (E : XK), zaM k (A.deeper (envOfC qual scope s.heap.objs.size f cdv)) -> sp vs H Q E ->
      ∃ t, PSs (zkh CX P w K mg base N qual scope f cdv A outer s H E) body t /\ t { nx := fun _ H' => Q .non H', rt := Q } (start N vs) H) :
    zas P w K mg base CX (k + 1) f (PySem.W.fnOf name qual params body scope dV kV doc pm an cdv ct) ps sp := by
  refine ⟨len, fun A outer s H args us vs Q E hr e0 hb r hsp => ?_⟩
  have hl := len _ _ _ _ hsp
  have KX : K.In s.heap := e0.mod.kin.keeps fun b o e => (e0.bs b o e).1
  have lim : s.heap.NoLimit := e0.mod.nolimit.keeps fun b o e => (e0.bs b o e).1
  have hkind : ∀ y ∈ ps.zip us, scope.names.lookup y.1 = some .local \/ (scope.names.lookup y.1 = some .cell /\ ((cellsFrom (s.heap.objs.size + 1) scope.names []).lookup y.1).isSome = true) := fun ⟨n, v⟩ hy => by
    rcases S.par n (List.of_mem_zip hy).1 with q | q
    . exact .inl q
    . exact .inr ⟨q, PySem.W.cellsFrom_some _ _ _ (.inl q)⟩
  refine codeAny_call_function hr.depth (KX _ _ lk) rfl S.co S.gen rfl (PySem.W.codeRec_of KX hcd) (hb _ _ _ _ ?_)
  refine wpAny_newFunctionEnv_cells S.kind hkind fun env he s1 x => ?_
  subst he
  refine ⟨lim.keeps x.toInCall.keep, codeAny_func ?_⟩
  obtain ⟨t, ht, hq⟩ := hbody A outer s H vs Q E (hr.deeper _) hsp
  have I : Inv (zkh CX P w K mg base N qual scope f cdv A outer s H E) [] (start N vs) H s1 := zmR S hr.hd e0 hl r x
  refine wpAny_mono (ht [] s1 (start N vs) H _ I hq) (fun fl s' hs => ?_) fun e s' hs => hs
  have fin : ∀ {σ' : St} {H' : Hp} {v : V} {u : Value}, Inv (zkh CX P w K mg base N qual scope f cdv A outer s H E) [] σ' H' s' -> RelV v u -> Q v H' -> CE outer P w H s Q u s' :=
    fun {σ' H' v u} J rv q => ⟨v, H', J.os, J.bare, J.base, J.hok, rv, q⟩
  cases fl with
  | ret u =>
    obtain ⟨v, σ', H', J, rv, q⟩ := hs
    exact fin J rv q
  | next =>
    obtain ⟨σ', H', J, q⟩ := hs
    exact fin (v := V.non) (u := Value.none) J rfl q
  | brk =>
    obtain ⟨_, _, _, q⟩ := hs
    exact False.elim q
  | cont =>
    obtain ⟨_, _, _, q⟩ := hs
    exact False.elim q
end L2

namespace L2
open PySem PySem.Spec PyProof.Rows
section
variable {X : Cx} {x : Str} {p pos : Pos} {e : Expr} {es : List Expr} {t : TA} {id T : String} {r : List V -> Hp -> VK -> Prop}

def tCB (r : List V -> Hp -> VK -> Prop) (t : TA) : TE := fun σ H Q => t σ H fun vs H1 => r vs H1 Q
theorem zoO (hc : zZ X (.builtin id) r) (hg : Gl X x) (hm : X.mg x = none) (hv : bootBuiltins x = some (.builtin id)) (ha : PA X (e :: es) t) (hn : x ≠ "__name__" := by decide) (hdb : (x == ("__debug__" : Str)) = false := by decide)
    (he : starEach (e :: es) X.env = (false, eval e X.env) :: starEach es X.env := by rfl) (hpl : (backTo pos (starEach es X.env)).any (·.1) = false := by rfl) : PE X (.Call (.Name x p) (e :: es) [] pos) (tCB r t) := by
  intro pins s σ H Q I h
  refine wpAny_Call_Name_kw (ziH I hg hm hv ?_ hn hdb)
  exact PyProof.Rows.callWith_builtin1 (thn (ha pos pins s σ H _ I h) fun us s1 ⟨vs, H1, I1, r1, q1⟩ => hc pins s1 σ H1 vs us Q I1 r1 q1) he hpl
theorem zmN (hc : zZ X (.type T) r) (hg : Gl X x) (hm : X.mg x = none) (hv : bootBuiltins x = some (.type T)) (ha : PA X (e :: es) t) (hn : x ≠ "__name__" := by decide) (hdb : (x == ("__debug__" : Str)) = false := by decide)
    (he : starEach (e :: es) X.env = (false, eval e X.env) :: starEach es X.env := by rfl) (hpl : (backTo pos (starEach es X.env)).any (·.1) = false := by rfl) : PE X (.Call (.Name x p) (e :: es) [] pos) (tCB r t) := by
  intro pins s σ H Q I h
  refine wpAny_Call_Name_kw (ziH I hg hm hv ?_ hn hdb)
  exact PyProof.Rows.callWith_type1 (thn (ha pos pins s σ H _ I h) fun us s1 ⟨vs, H1, I1, r1, q1⟩ => hc pins s1 σ H1 vs us Q I1 r1 q1) he hpl
end
end L2

namespace HT
open PySem PyProof.Rows

section
open PySem.SeqAt
open PySem.AutoSeq1 (wpAny_loadPart')
open PySem.MeetsSeq PySem.MeetsSeq2 PySem.MeetsSeq3

end

section
variable {prog : Program} {w : World} {A : Around} {E : Value -> Shared -> Prop} {s : Shared}

theorem zrc {t b : Addr} {vs ws : List Value} {Q : Value -> Shared -> Prop} (ht : IsTup s.heap t vs.toArray) (hb : IsTup s.heap b ws.toArray) (hv : vs ≠ [])
    (h1 : ws = [] -> Q (.ref t) s) (h2 : ws ≠ [] -> Q (.ref s.heap.objs.size) { s with heap := s.heap.push { cls := .type "tuple", data := .seq (vs ++ ws).toArray } })
    (hsz : vs.length + ws.length <= sizeLine) : wpAny (model prog w) A (binaryOp .Add (.ref t) (.ref b)) Q E s := by
  obtain ⟨⟨cls, dd, data, sl⟩, ho, hc, n, hd⟩ := id ht
  obtain ⟨⟨cls2, dd2, data2, sl2⟩, ho2, hc2, n2, hd2⟩ := id hb
  simp only at hc hd hc2 hd2
  subst hc hd hc2 hd2
  have e : vs.toArray ++ ws.toArray = (vs ++ ws).toArray := by simp
  by_cases hw : ws = []
  . exact concat_meets ⟨_, ho, rfl⟩ ⟨_, ho2, rfl⟩ noFill_tuple_add seq_tuple_add PySem.F.slot_tuple_add PySem.F.entry_tuple_add (PySem.F.args_tuple_add_2 _ _)
      (tuple_addW1 t b vs.toArray ws.toArray n n2 dd dd2 sl sl2 (by simpa using hv) (by simp [hw])) ⟨ho, ho2, h1 hw⟩
  . refine concat_meets ⟨_, ho, rfl⟩ ⟨_, ho2, rfl⟩ noFill_tuple_add seq_tuple_add PySem.F.slot_tuple_add PySem.F.entry_tuple_add (PySem.F.args_tuple_add_2 _ _)
      (tuple_addW2 t b vs.toArray ws.toArray n n2 dd dd2 sl sl2 (by simpa using hv) (by simpa using hw) (by rw [List.size_toArray, List.size_toArray]; exact hsz)) ⟨ho, ho2, ?_⟩
    rw [e]
    exact h2 hw

def sIx (n d : Nat) : Option Int -> Nat
  | none => d
  | some v => if v < 0 then (v + (n : Int)).toNat else min v.toNat n
theorem zj2 (n d : Nat) : sIx n d none = d := rfl
theorem zbp (n d k : Nat) : sIx n d (some (k : Int)) = min k n := by
  show (if (k : Int) < 0 then ((k : Int) + (n : Int)).toNat else min (k : Int).toNat n) = min k n
  rw [if_neg (by omega), Int.toNat_natCast]
theorem zsV (n d : Nat) (hd : d <= n) (o : Option Int) : sIx n d o <= n := by
  cases o with
  | none => exact hd
  | some v =>
    show (if v < 0 then (v + (n : Int)).toNat else min v.toNat n) <= n
    by_cases hv : v < 0
    . rw [if_pos hv]; omega
    . rw [if_neg hv]; exact Nat.min_le_right _ _
theorem zl0 (v : Int) (n d : Nat) : (if v < 0 then max (v + (n : Int)) 0 else min v (n : Int)) = ((sIx n d (some v) : Nat) : Int) := by
  show (if v < 0 then max (v + (n : Int)) 0 else min v (n : Int)) = (((if v < 0 then (v + (n : Int)).toNat else min v.toNat n) : Nat) : Int)
  by_cases hv : v < 0
  . simp only [if_pos hv]; omega
  . simp only [if_neg hv]; omega
theorem zlU (lo hi : Option Int) (n : Nat) : Builtin.Slice.sliceAdjust lo hi 1 (n : Int) = (((sIx n 0 lo : Nat) : Int), ((sIx n n hi : Nat) : Int)) := by
  have h1 : ¬ ((1 : Int) < 0) := by omega
  unfold Builtin.Slice.sliceAdjust
  simp only [h1, if_false]
  refine Prod.ext ?_ ?_
  . cases lo with
    | none => rfl
    | some v => exact zl0 v n 0
  . cases hi with
    | none => rfl
    | some v => exact zl0 v n n
theorem zlq (i j : Nat) : Builtin.Slice.slicePlaces (i : Int) (j : Int) 1 = j - i := by
  unfold Builtin.Slice.slicePlaces
  have h1 : (1 : Int) > 0 := by omega
  simp only [h1, if_true, Int.ediv_one]
  split <;> omega
theorem zda {v : Value} {o : Option Int} {Q : Option Int -> Shared -> Prop} (p : IsPart v o) (h : Q o s) : wpAny (model prog w) A (Builtin.Slice.slicePartIndex v) Q E s := by
  cases p with
  | none => exact slicePart_none h
  | int i t => exact slicePart_int h
theorem zfn {sl : Addr} {vl vu : Value} {lo hi : Option Int} {n : Nat} {Q : Int × Int × Nat -> Shared -> Prop} (hs : s.heap.IsSliceOf sl vl vu .none) (pl : IsPart vl lo) (pu : IsPart vu hi)
    (h : Q (((sIx n 0 lo : Nat) : Int), 1, sIx n n hi - sIx n 0 lo) s) : wpAny (model prog w) A (Builtin.Slice.sliceApplied (.ref sl) (pure (n : Int))) Q E s := by
  obtain ⟨os, hos, hcs, hds⟩ := id hs
  unfold Builtin.Slice.sliceApplied Builtin.Slice.sliceFields
  refine wpAny_bind (wpAny_bind (wpAny_field hos hds (x := vl) rfl (wpAny_bind (wpAny_field hos hds (x := vu) rfl (wpAny_bind (wpAny_field hos hds (x := .none) rfl (wpAny_pure ?_)))))))
  refine wpAny_bind (slicePart_none ?_)
  show wpAny _ _ (if ((1 : Int) == 0) = true then _ else _) _ _ s
  rw [if_neg (by decide)]
  refine wpAny_bind (zda pl (wpAny_bind (zda pu (wpAny_bind (wpAny_pure ?_)))))
  show wpAny _ _ (match Builtin.Slice.sliceAdjust lo hi 1 (n : Int) with | (lo, hi) => pure (lo, (1 : Int), Builtin.Slice.slicePlaces lo hi 1)) _ _ s
  rw [zlU lo hi n]
  show wpAny _ _ (pure (((sIx n 0 lo : Nat) : Int), (1 : Int), Builtin.Slice.slicePlaces ((sIx n 0 lo : Nat) : Int) ((sIx n n hi : Nat) : Int) 1)) _ _ s
  rw [zlq]
  exact wpAny_pure h
theorem zoT (xs : Array Value) (i k : Nat) : ((List.range k).filterMap fun (m : Nat) => xs[((i : Int) + (m : Int) * 1).toNat]?).toArray = ((xs.toList.drop i).take k).toArray := by
  have e : (fun (m : Nat) => xs[((i : Int) + (m : Int) * 1).toNat]?) = fun m => xs[i + m]? := by
    funext m
    have : ((i : Int) + (m : Int) * 1).toNat = i + m := by omega
    rw [this]
  rw [e]
  have := pick_run xs i k
  rw [List.filterMap_map] at this
  have e2 : ((fun x => xs[x]?) ∘ fun x => i + x) = fun m => xs[i + m]? := rfl
  rw [e2] at this
  rw [this]

theorem zfh {t sl : Addr} {items : Array Value} {vl vu : Value} {lo hi : Option Int} {Q : Value -> Shared -> Prop} (ht : IsTup s.heap t items) (hs : s.heap.IsSliceOf sl vl vu .none) (pl : IsPart vl lo) (pu : IsPart vu hi)
    (hw : ¬ (sIx items.size 0 lo = 0 /\ sIx items.size items.size hi = items.size))
    (h : Q (.ref s.heap.objs.size) { s with heap := s.heap.push { cls := .type "tuple", data := .seq ((items.toList.drop (sIx items.size 0 lo)).take (sIx items.size items.size hi - sIx items.size 0 lo)).toArray } })
    (hsz : items.size <= sizeLine) : wpAny (model prog w) A (getItem (.ref t) (.ref sl)) Q E s := by
  have htake : sizeOk (.seq ((items.toList.drop (sIx items.size 0 lo)).take (sIx items.size items.size hi - sIx items.size 0 lo)).toArray) := by
    show ((items.toList.drop (sIx items.size 0 lo)).take (sIx items.size items.size hi - sIx items.size 0 lo)).toArray.size <= sizeLine
    rw [List.size_toArray, List.length_take, List.length_drop, Array.length_toList]
    omega
  have hj : sIx items.size items.size hi <= items.size := zsV _ _ (Nat.le_refl _) hi
  obtain ⟨os, hos, hcs, hds⟩ := id hs
  have hTs : s.TypeIs (.ref sl) "slice" := ⟨os, hos, hcs⟩
  unfold getItem
  try with_reducible refine wpAny_holding ?_
  first | refine wpAny_bind (wpAny_pure ?_) | skip
  refine wpAny_bind (wpAny_sequenceKey ht.typeIs (by decide) ?_)
  refine wpAny_bind (wpAny_callSpecial?_slot (name := Str.ofString "__getitem__") ht.typeIs PyProof.Rows.slot_tuple_getitem
    (wpAny_call_entry PyProof.Rows.slot_tuple_getitem ht.typeIs entry_tuple_getitem ?_ (args_tuple_getitem _ _)))
  show wpAny _ _ (Builtin.Tuple.tupleItemsOf (.ref t) >>= _) _ _ s
  refine wpAny_bind (tupleItemsOf_ ht ?_)
  refine wpAny_bind (wpAny_typeOf hTs ?_)
  rw [if_pos (by decide)]
  refine wpAny_bind (zfn hs pl pu ?_)
  have hno : ¬ ((((sIx items.size 0 lo : Nat) : Int) == 0 && (1 : Int) == 1 && (sIx items.size items.size hi - sIx items.size 0 lo) == items.size) = true) := by
    intro q
    rw [Bool.and_eq_true, Bool.and_eq_true] at q
    have q1 : ((sIx items.size 0 lo : Nat) : Int) = 0 := eq_of_beq q.1.1
    have q2 : sIx items.size items.size hi - sIx items.size 0 lo = items.size := eq_of_beq q.2
    exact hw ⟨by omega, by omega⟩
  show wpAny _ _ (if (((sIx items.size 0 lo : Nat) : Int) == 0 && (1 : Int) == 1 && (sIx items.size items.size hi - sIx items.size 0 lo) == items.size) = true then _ else _) _ _ s
  rw [if_neg hno, zoT]
  first
    | exact wpAny_bind (m := Builtin.Tuple.tupleExact _) (wpAny_newObj_type (wpAny_pure ⟨_, rfl, wpAny_pure h⟩) htake)
    | exact wpAny_bind (m := Builtin.Tuple.tupleExact _) (wpAny_newObj_type (wpAny_bind (wpAny_pure (wpAny_pure ⟨_, rfl, wpAny_pure h⟩))) htake)
    | exact wpAny_bind (wpAny_bind (m := Builtin.Tuple.tupleExact _) (wpAny_newObj_type (wpAny_pure (wpAny_pure ⟨_, rfl, wpAny_pure h⟩)) htake))
    | exact wpAny_bind (wpAny_bind (m := Builtin.Tuple.tupleExact _) (wpAny_newObj_type (wpAny_pure ⟨_, rfl, wpAny_pure h⟩) htake))
end
end HT

namespace L2
open PySem PySem.Spec PyProof.Rows

abbrev TO := St -> Hp -> (Option Int -> Hp -> Prop) -> Prop
def PO (X : Cx) (e : Option Expr) (t : TO) : Prop :=
  ∀ (pins : List (Addr × Obj)) (s : Shared) (σ : St) (H : Hp) (Q : Option Int -> Hp -> Prop), Inv X pins σ H s -> t σ H Q ->
    wpAny (model X.prog X.w) X.A (evalPart e X.env) (fun u s' => ∃ o H', Inv X pins σ H' s' /\ IsPart u o /\ Q o H') X.xe s
def zi3 : TO := fun _ H Q => Q none H
def zow (t : TE) : TO := fun σ H Q => t σ H fun x H1 => ∃ i, x = .int i /\ Q (some i) H1

section
variable {X : Cx} {e : Expr} {te : TE} {lo hi : Option Expr} {tl th : TO} {pos p2 : Pos}

theorem zrz : PO X none zi3 := by
  intro pins s σ H Q I h
  rw [evalPart_none]
  exact wpAny_pure ⟨none, H, I, .none, h⟩
theorem zqE (h : PE X e te) : PO X (some e) (zow te) := by
  intro pins s σ H Q I hw
  rw [evalPart_some]
  refine thn (h pins s σ H _ I hw) fun u s1 ⟨x, H1, I1, r1, q1⟩ => ?_
  obtain ⟨i, rfl, q⟩ := q1
  obtain ⟨t, rfl⟩ := r1
  exact ⟨some i, H1, I1, .int i t, q⟩

def SlR (X : Cx) (r : V -> Option Int -> Option Int -> Hp -> VK -> Prop) : Prop :=
  ∀ (pins : List (Addr × Obj)) (s : Shared) (σ : St) (H : Hp) (x : V) (v vl vu : Value) (lo hi : Option Int) (sl : Addr) (Q : VK), Inv X pins σ H s -> RelV x v -> s.heap.IsSliceOf sl vl vu .none -> IsPart vl lo -> IsPart vu hi -> r x lo hi H Q ->
    ∃ T id, typeLookup (.type T) "__getitem__" = pure (some (.builtin id)) /\ s.TypeIs v T /\ wpAny (model X.prog X.w) X.A (getItem v (.ref sl)) (EP X pins σ Q) X.xe s
theorem SlR.or {r r' : V -> Option Int -> Option Int -> Hp -> VK -> Prop} (h : SlR X r) (h' : SlR X r') : SlR X (fun x lo hi H Q => r x lo hi H Q \/ r' x lo hi H Q) := by
  intro pins s σ H x v vl vu lo hi sl Q I rx hs pl pu q
  rcases q with q | q
  . exact h pins s σ H x v vl vu lo hi sl Q I rx hs pl pu q
  . exact h' pins s σ H x v vl vu lo hi sl Q I rx hs pl pu q
def tSl (r : V -> Option Int -> Option Int -> Hp -> VK -> Prop) (te : TE) (tl th : TO) : TE := fun σ H Q => te σ H fun x H1 => tl σ H1 fun l H2 => th σ H2 fun u H3 => r x l u H3 Q
theorem znY {r : V -> Option Int -> Option Int -> Hp -> VK -> Prop} (hr : SlR X r) (he : PE X e te) (hl : PO X lo tl) (hu : PO X hi th) : PE X (.Subscript e (.Slice lo hi none p2) pos) (tSl r te tl th) := by
  intro pins s σ H Q I h
  refine Subscript_ (thn (he pins s σ H _ I h) fun v s1 ⟨x, H1, I1, r1, q1⟩ => ?_)
  refine wpAny_Slice (thn (hl pins s1 σ H1 _ I1 q1) fun vl s2 ⟨l, H2, I2, pl, q2⟩ => thn (hu pins s2 σ H2 _ I2 q2) fun vu s3 ⟨u, H3, I3, pu, q3⟩ => ?_)
  rw [evalPart_none]
  refine wpAny_pure ?_
  have I4 : Inv X pins σ H3 { s3 with heap := s3.heap.push { cls := .type "slice", data := .fields #[vl, vu, .none] } } := I3.kept (t' := s3.toks) fun b ob q => Heap.get?_push_of_some _ q
  obtain ⟨T, id, hT, ht, hg⟩ := hr pins { s3 with heap := s3.heap.push { cls := .type "slice", data := .fields #[vl, vu, .none] } } σ H3 x v vl vu l u s3.heap.objs.size Q I4 r1 (Heap.IsSliceOf.new ..) pl pu q3
  show wpAny (model X.prog X.w) X.A (subscriptTail e (.Slice lo hi none p2) v (.ref s3.heap.objs.size)) (EP X pins σ Q) X.xe { s3 with heap := s3.heap.push { cls := .type "slice", data := .fields #[vl, vu, .none] } }
  exact tail_any (ops := [.ref s3.heap.objs.size, v]) ht hT hg (by with_unfolding_all rfl)

def zga (xs : List V) (lo hi : Option Int) : List V := (xs.drop (HT.sIx xs.length 0 lo)).take (HT.sIx xs.length xs.length hi - HT.sIx xs.length 0 lo)
theorem zfQ (xs : List V) (lo hi : Option Int) : (zga xs lo hi).length <= xs.length := by
  unfold zga
  rw [List.length_take, List.length_drop]
  omega
def zvg (K : PySem.W.Frag) : V -> Option Int -> Option Int -> Hp -> VK -> Prop := fun x lo hi H Q => ∃ a xs, x = .ref a /\ SqT K H a xs /\
  ¬ (HT.sIx xs.length 0 lo = 0 /\ HT.sIx xs.length xs.length hi = xs.length) /\ ∀ p, H p = none -> Q (.ref p) (upd H p (.tup (zga xs lo hi)))
theorem ztr : SlR X (zvg X.K) := by
  intro pins s σ H x v vl vu lo hi sl Q I rx hs pl pu h
  obtain ⟨a, xs, rfl, hx, hw, q⟩ := h
  cases rx
  obtain ⟨its, r, ht, hz⟩ := I.tuple hx
  have hlen : its.toArray.size = xs.length := by rw [List.size_toArray]; exact r.length.symm
  refine ⟨"tuple", _, PyProof.Rows.slot_tuple_getitem.lookup, ht.typeIs, ?_⟩
  refine HT.zfh ht hs pl pu (by rw [hlen]; exact hw) ?_ (by rw [hlen]; exact hz)
  rw [hlen]
  refine ⟨.ref s.heap.objs.size, _, I.laid (t' := s.toks) (o := .tup (zga xs lo hi)) (fun b ob q => Heap.get?_push_of_some _ q) (Nat.le_refl _) ?_, rfl, q _ (I.hok.fresh (Nat.le_refl _))⟩
  exact ⟨Nat.le_trans (zfQ xs lo hi) hz, _, (r.drop (HT.sIx xs.length 0 lo)).take (HT.sIx xs.length xs.length hi - HT.sIx xs.length 0 lo), IsTup.new _ _⟩

def zrR (K : PySem.W.Frag) : R2 := fun x y H Q => ∃ a b xs ys, x = .ref a /\ y = .ref b /\ SqT K H a xs /\ SqT K H b ys /\ xs ≠ [] /\ xs.length + ys.length <= sizeLine /\
  (ys = [] -> Q (.ref a) H) /\ (ys ≠ [] -> ∀ p, H p = none -> Q (.ref p) (upd H p (.tup (xs ++ ys))))
theorem Vals.nil_iff {xs : List V} {us : List Value} (r : Vals xs us) : us = [] ↔ xs = [] := by
  cases r with
  | nil => simp
  | cons _ _ => simp
theorem zqX : OpR X (binaryOp .Add) (zrR X.K) := by
  intro pins s σ H x y v u Q I rx ry h
  obtain ⟨a, b, xs, ys, rfl, rfl, ha, hb, hx, hz, q1, q2⟩ := h
  cases rx
  cases ry
  obtain ⟨its, r1, p1, _⟩ := I.tuple ha
  obtain ⟨its2, r2, p2, _⟩ := I.tuple hb
  refine HT.zrc p1 p2 (fun z => hx (r1.nil_iff.mp z)) (fun z => ⟨.ref a, H, I, rfl, q1 (r2.nil_iff.mp z)⟩) (fun z => ?_) (by rw [<- r1.length, <- r2.length]; exact hz)
  refine ⟨.ref s.heap.objs.size, _, I.laid (t' := s.toks) (o := .tup (xs ++ ys)) (fun b ob q => Heap.get?_push_of_some _ q) (Nat.le_refl _) ?_, rfl, q2 (fun w => z (r2.nil_iff.mpr w)) _ (I.hok.fresh (Nat.le_refl _))⟩
  exact ⟨by rw [List.length_append]; exact hz, _, r1.append r2, IsTup.new _ _⟩
end
end L2

namespace L2
open PySem PySem.Spec PyProof.Rows

def ixN (n : Nat) (i : Int) : Option Nat := if 0 <= i then (if i < n then some i.toNat else none) else if -(n : Int) <= i then some (i + n).toNat else none
def atI {α : Type} (xs : List α) (i : Int) : Option α := (ixN xs.length i).bind fun j => xs[j]?
theorem zlV {n : Nat} {i : Int} {j : Nat} (h : ixN n i = some j) : seqIndex? i n = some j /\ j < n /\ -(n : Int) <= i /\ i < n := by
  unfold ixN at h
  by_cases h0 : 0 <= i
  . rw [if_pos h0] at h
    by_cases h1 : i < n
    . rw [if_pos h1] at h
      have e : i.toNat = j := Option.some.inj h
      exact ⟨by rw [seqIndex_of h0 h1, e], by omega, by omega, h1⟩
    . rw [if_neg h1] at h; cases h
  . rw [if_neg h0] at h
    by_cases h1 : -(n : Int) <= i
    . rw [if_pos h1] at h
      have e : (i + n).toNat = j := Option.some.inj h
      exact ⟨by rw [seqIndex_neg (by omega) h1, e], by omega, h1, by omega⟩
    . rw [if_neg h1] at h; cases h
theorem zjv {α : Type} {xs : List α} {i : Int} {v : α} (h : atI xs i = some v) : ∃ j, seqIndex? i xs.length = some j /\ xs[j]? = some v /\ j < xs.length /\ -(xs.length : Int) <= i /\ i < xs.length := by
  unfold atI at h
  cases e : ixN xs.length i with
  | none => rw [e] at h; cases h
  | some j =>
    rw [e] at h
    obtain ⟨h1, h2, h3, h4⟩ := zlV e
    exact ⟨j, h1, h, h2, h3, h4⟩
theorem zcR {α : Type} {xs : List α} {j : Nat} {v : α} (h : xs[j]? = some v) : atI xs (j : Int) = some v := by
  have hj : j < xs.length := (List.getElem?_eq_some_iff.mp h).1
  have e : ixN xs.length (j : Int) = some j := by
    unfold ixN
    rw [if_pos (by omega), if_pos (by omega)]; simp
  unfold atI; rw [e]; exact h
theorem zki {α : Type} (xs : List α) (v : α) : atI (xs ++ [v]) (-1) = some v := by
  have hl : (xs ++ [v]).length = xs.length + 1 := by simp
  have e : ixN (xs ++ [v]).length (-1) = some xs.length := by
    unfold ixN
    rw [hl, if_neg (by decide), if_pos (by omega)]
    congr 1
    omega
  unfold atI
  rw [e]
  show (xs ++ [v])[xs.length]? = some v
  simp

def zmt (b : Expr) : Prop := ∀ o i, subscripted b false o i = operate [o, i] (getItem o i)
def IxR (X : Cx) (r : R2) : Prop :=
  ∀ (value slice : Expr) (pins : List (Addr × Obj)) (s : Shared) (σ : St) (H : Hp) (x y : V) (v u : Value) (Q : VK), Inv X pins σ H s -> RelV x v -> RelV y u -> r x y H Q ->
    subscripted slice false v u = operate [v, u] (getItem v u) -> wpAny (model X.prog X.w) X.A (subscriptTail value slice v u) (EP X pins σ Q) X.xe s
def MtR (X : Cx) (id : String) (r : V -> List V -> Hp -> VK -> Prop) : Prop :=
  ∀ (pins : List (Addr × Obj)) (s : Shared) (σ : St) (H : Hp) (x : V) (xs : List V) (v : Value) (us : List Value) (Q : VK), Inv X pins σ H s -> RelV x v -> Vals xs us -> r x xs H Q ->
    wpAny (model X.prog X.w) X.A (call (.builtin id) (v :: us)) (EP X pins σ Q) X.xe s
section
variable {X : Cx} {a b : Expr} {ta tb : TE} {pos : Pos}
theorem IxR.or {r r' : R2} (h : IxR X r) (h' : IxR X r') : IxR X (fun x y H Q => r x y H Q \/ r' x y H Q) := by
  intro value slice pins s σ H x y v u Q I rx ry q hs
  rcases q with q | q
  . exact h value slice pins s σ H x y v u Q I rx ry q hs
  . exact h' value slice pins s σ H x y v u Q I rx ry q hs
theorem zuL {r : R2} (hr : IxR X r) (ha : PE X a ta) (hb : PE X b tb) (hs : zmt b) : PE X (.Subscript a b pos) (tOp r ta tb) := by
  intro pins s σ H Q I h
  exact Subscript_ (zt6 ha hb I h fun v u s2 x y H2 I2 rx ry q => hr a b pins s2 σ H2 x y v u Q I2 rx ry q (hs _ _))

def zgx (K : PySem.W.Frag) : R2 := fun x y H Q => ∃ p xs i v, x = .ref p /\ y = .int i /\ SqL K H p xs /\ atI xs i = some v /\ Q v H
def zu6 (K : PySem.W.Frag) : R2 := fun x y H Q => ∃ p xs i v, x = .ref p /\ y = .int i /\ SqT K H p xs /\ atI xs i = some v /\ Q v H
def zvn : R2 := fun x y H Q => ∃ z i c, x = .str z /\ y = .int i /\ z.length <= sizeLine /\ atI z.cps.toList i = some c /\ Q (.str ⟨#[c]⟩) H
theorem zmA : IxR X (zgx X.K) := by
  intro value slice pins s σ H x y v u Q I rx ry h hs
  obtain ⟨p, xs, i, z, rfl, rfl, hq, he, q⟩ := h
  cases rx
  obtain ⟨t, rfl⟩ := ry
  obtain ⟨its, r, pl, hz⟩ := I.list hq
  obtain ⟨j, h1, h2, h3, h4, h5⟩ := zjv he
  obtain ⟨w, ew, rw'⟩ := r.get h2
  have hl := r.length
  have hn := zfD
  have fin : EP X pins σ Q w s := ⟨z, H, I, rw', q⟩
  by_cases h0 : 0 <= i
  . have hj : i.toNat = j := by
      rw [seqIndex_of h0 h5] at h1
      exact Option.some.inj h1
    exact item_listR pl.isList h0 (by omega) (by rw [hj]; simpa using ew) fin hs
  . have hj : (i + (its.toArray.size : Int)).toNat = j := by
      rw [seqIndex_neg (by omega) h4] at h1
      rw [List.size_toArray, <- hl]
      exact Option.some.inj h1
    exact subscriptTail_builtinR (x := w) pl.isList.typeIs slot_list_getitem.lookup
      (wpAny_getItem_list_neg (Q := fun r s' => r = w /\ EP X pins σ Q r s') pl.isList (by omega) (by rw [List.size_toArray] <;> omega) (by omega) (by rw [hj]; simpa using ew) ⟨rfl, fin⟩) hs
theorem zs7 : IxR X (zu6 X.K) := by
  intro value slice pins s σ H x y v u Q I rx ry h hs
  obtain ⟨p, xs, i, z, rfl, rfl, hq, he, q⟩ := h
  cases rx
  obtain ⟨t, rfl⟩ := ry
  obtain ⟨its, r, pl, hz⟩ := I.tuple hq
  obtain ⟨j, h1, h2, h3, h4, h5⟩ := zjv he
  obtain ⟨w, ew, rw'⟩ := r.get h2
  have hl := r.length
  have hn := zfD
  have fin : EP X pins σ Q w s := ⟨z, H, I, rw', q⟩
  exact subscriptTail_builtinR (x := w) pl.typeIs slot_tuple_getitem.lookup
    (getItem_tuple (j := j) (Q := fun r s' => r = w /\ EP X pins σ Q r s') pl (by omega) (by omega) (by rw [List.size_toArray, <- hl]; exact h1) (by simpa using ew) ⟨rfl, fin⟩) hs
theorem zth : IxR X zvn := by
  intro value slice pins s σ H x y v u Q I rx ry h hs
  obtain ⟨z, i, c, rfl, rfl, hz, he, q⟩ := h
  obtain ⟨t, rfl⟩ := rx
  obtain ⟨t', rfl⟩ := ry
  obtain ⟨j, h1, h2, h3, h4, h5⟩ := zjv he
  have hl : z.cps.toList.length = z.length := by simp [Str.length]
  rw [hl] at h1 h4 h5
  have hn := zfD
  exact tail_any (typeIs_str s z t) slot_str_getitem.lookup (getItem_str (c := c) (by
    have e1 : decide (i < -(2 ^ 63 : Int)) = false := decide_eq_false (by omega)
    have e2 : decide (i ≥ 2 ^ 63) = false := decide_eq_false (by omega)
    rw [e1, e2, Bool.or_false]) (by rw [h1]; simpa using h2) ⟨.str ⟨#[c]⟩, H, I.tok _, ⟨_, rfl⟩, q⟩) hs
def rIx (K : PySem.W.Frag) : R2 := fun x y H Q => zgx K x y H Q \/ zu6 K x y H Q \/ zvn x y H Q
theorem zs5 : IxR X (rIx X.K) := zmA.or (zs7.or zth)

theorem zlO (its : List Value) (n j : Nat) (u : Value) : Obj.mapSeq (·.setIfInBounds j u) { cls := .type "list", data := .seq its.toArray n } = { cls := .type "list", data := .seq (its.set j u).toArray n } := by
  simp [Obj.mapSeq]
theorem Inv.lst {pins : List (Addr × Obj)} {σ : St} {H : Hp} {s : Shared} {p : Addr} {xs : List V} (I : Inv X pins σ H s) (h : H p = some (.lst xs)) :
    ∃ (its : List Value) (n : Nat), Vals xs its /\ s.heap.get? p = some { cls := .type "list", data := .seq its.toArray n } /\ xs.length <= sizeLine := by
  obtain ⟨z, its, n, r, e⟩ := I.hok p _ h
  exact ⟨its, n, r, e, z⟩
theorem Inv.lstUpd {pins : List (Addr × Obj)} {σ : St} {H : Hp} {s : Shared} {p : Addr} {xs ys : List V} {its its' : List Value} {n n' : Nat} {f : Obj -> Obj} (I : Inv X pins σ H s) (h : H p = some (.lst xs))
    (ho : s.heap.get? p = some { cls := .type "list", data := .seq its.toArray n }) (hf : f { cls := .type "list", data := .seq its.toArray n } = { cls := .type "list", data := .seq its'.toArray n' }) (r : Vals ys its') (hz : ys.length <= sizeLine) (t : Nat) :
    Inv X pins σ (upd H p (.lst ys)) { s with heap := s.heap.update p f, toks := t } := by
  have e : (s.heap.update p f).get? p = some { cls := .type "list", data := .seq its'.toArray n' } := by
    rw [Heap.get?_update_self f ho (by rw [hf] <;> rfl), hf]
  refine I.write (x := p) (e := p) (by rw [h]; trivial) (.inl rfl) (fun b u hb q => (Heap.get?_update_other _ _ (Ne.symm hb)).trans q) ⟨_, e⟩ ?_
  exact ⟨hz, its', n', r, e⟩
def zhs : V -> V -> V -> Hp -> (Hp -> Prop) -> Prop := fun o i v H Q => ∃ p xs k j, o = .ref p /\ i = .int k /\ H p = some (.lst xs) /\ ixN xs.length k = some j /\ Q (upd H p (.lst (xs.set j v)))
theorem set_list : zuh X zhs := by
  intro pins s σ H o i v ov iv u Q I ro ri rv h
  obtain ⟨p, xs, k, j, rfl, rfl, hp, hj, q⟩ := h
  cases ro
  obtain ⟨t, rfl⟩ := ri
  obtain ⟨its, n, r, ho, hz⟩ := I.lst hp
  obtain ⟨h1, h2, h3, h4⟩ := zlV hj
  have hl := r.length
  have hn := zfD
  have I' : Inv X pins σ (upd H p (.lst (xs.set j v))) { s with heap := s.heap.update p (Obj.mapSeq (·.setIfInBounds j u)) } :=
    I.lstUpd hp ho (zlO its n j u) (r.set rv j) (by rw [List.length_set]; exact hz) s.toks
  by_cases h0 : 0 <= k
  . have hk : k.toNat = j := by
      rw [seqIndex_of h0 h4] at h1
      exact Option.some.inj h1
    exact PySem.W.ki_setAt ho h0 (by omega) (by rw [List.size_toArray, <- hl]; exact h4) (by rw [hk]; exact ⟨_, I', q⟩)
  . have hk : (k + (its.toArray.size : Int)).toNat = j := by
      rw [seqIndex_neg (by omega) h3] at h1
      rw [List.size_toArray, <- hl]
      exact Option.some.inj h1
    exact PySem.W.ki_setBack ho (by omega) (by rw [List.size_toArray, <- hl]; exact h3) (by omega) (by rw [hk]; exact ⟨_, I', q⟩)

theorem zit (lo hi : Option Int) (n : Nat) : (sliceBounds lo hi none n).1 = ((HT.sIx n 0 lo : Nat) : Int) /\ (sliceBounds lo hi none n).2.1 = ((HT.sIx n n hi : Nat) : Int) /\ (sliceBounds lo hi none n).2.2 = 1 := by
  refine ⟨?_, ?_, rfl⟩
  . cases lo with
    | none => simp [sliceBounds, HT.sIx]
    | some i =>
      simp only [sliceBounds, HT.sIx, Option.getD_none, show (1 : Int) > 0 by decide, if_true]
      by_cases h : i < 0
      . simp only [h, if_true] <;> omega
      . simp only [h, if_false] <;> omega
  . cases hi with
    | none => simp [sliceBounds, HT.sIx]
    | some i =>
      simp only [sliceBounds, HT.sIx, Option.getD_none, show (1 : Int) > 0 by decide, if_true]
      by_cases h : i < 0
      . simp only [h, if_true] <;> omega
      . simp only [h, if_false] <;> omega
theorem zhN (its : List Value) (lo hi : Option Int) : slicePick its.toArray lo hi none = ((its.drop (HT.sIx its.length 0 lo)).take (HT.sIx its.length its.length hi - HT.sIx its.length 0 lo)).toArray := by
  obtain ⟨h1, h2, h3⟩ := zit lo hi its.toArray.size
  unfold slicePick
  rw [h1, h2, h3]
  simp only [sliceRange_one, pick_run, List.size_toArray] <;> rfl
def ztW (K : PySem.W.Frag) : V -> Option Int -> Option Int -> Hp -> VK -> Prop := fun x lo hi H Q => ∃ a xs, x = .ref a /\ SqL K H a xs /\ ∀ p, H p = none -> Q (.ref p) (upd H p (.lst (zga xs lo hi)))
theorem zmr : SlR X (ztW X.K) := by
  intro pins s σ H x v vl vu lo hi sl Q I rx hs pl pu h
  obtain ⟨a, xs, rfl, hx, q⟩ := h
  cases rx
  obtain ⟨its, r, ht, hz⟩ := I.list hx
  have hlen := r.length
  refine ⟨"list", _, slot_list_getitem.lookup, ht.isList.typeIs, ?_⟩
  refine wpAny_getItem_list_slice ht.isList hs pl pu .none (by simp) ?_ (by rw [List.size_toArray] <;> omega)
  rw [zhN, <- hlen]
  refine ⟨.ref s.heap.objs.size, _, I.laid (t' := s.toks) (o := .lst (zga xs lo hi)) (fun b ob q => Heap.get?_push_of_some _ q) (Nat.le_refl _) ?_, rfl, q _ (I.hok.fresh (Nat.le_refl _))⟩
  exact ⟨Nat.le_trans (zfQ xs lo hi) hz, _, 0, (r.drop (HT.sIx xs.length 0 lo)).take (HT.sIx xs.length xs.length hi - HT.sIx xs.length 0 lo), Heap.get?_push_size _ rfl⟩

def zer : V -> Bool
  | .non => true
  | .bl _ => true
  | .int _ => true
  | .str _ => true
  | _ => false
def eqV : V -> V -> Bool
  | .non, .non => true
  | .bl a, .bl b => a == b
  | .bl a, .int b => (if a then 1 else 0) == b
  | .int a, .bl b => a == (if b then 1 else 0)
  | .int a, .int b => a == b
  | .str a, .str b => a == b
  | _, _ => false
theorem ztl {A : Around} {s : Shared} {y x : V} {u v : Value} (ry : RelV y u) (rx : RelV x v) (fy : zer y = true) (fx : zer x = true) : SeqAt.EqAt A s u v (eqV y x) := by
  cases y with
  | non =>
    cases ry
    cases x with
    | non => cases rx; exact SeqAt.EqAt.same _
    | bl b => cases rx; exact SeqAt.EqAt.none_bool b
    | int b => obtain ⟨t, rfl⟩ := rx; exact SeqAt.EqAt.none_int b t
    | str b => obtain ⟨t, rfl⟩ := rx; exact SeqAt.EqAt.none_str b t
    | _ => exact absurd (show false = true from fx) Bool.false_ne_true
  | bl a =>
    cases ry
    cases x with
    | non => cases rx; exact SeqAt.EqAt.bool_none a
    | bl b => cases rx; exact SeqAt.EqAt.bool_bool a b
    | int b => obtain ⟨t, rfl⟩ := rx; exact SeqAt.EqAt.bool_int a b t
    | str b => obtain ⟨t, rfl⟩ := rx; exact SeqAt.EqAt.bool_str a b t
    | _ => exact absurd (show false = true from fx) Bool.false_ne_true
  | int a =>
    obtain ⟨t', rfl⟩ := ry
    cases x with
    | non => cases rx; exact SeqAt.EqAt.int_none a t'
    | bl b => cases rx; exact SeqAt.EqAt.int_bool a t' b
    | int b => obtain ⟨t, rfl⟩ := rx; exact SeqAt.EqAt.int_int a t' b t
    | str b => obtain ⟨t, rfl⟩ := rx; exact SeqAt.EqAt.int_str a t' b t
    | _ => exact absurd (show false = true from fx) Bool.false_ne_true
  | str a =>
    obtain ⟨t', rfl⟩ := ry
    cases x with
    | non => cases rx; exact SeqAt.EqAt.str_none a t'
    | bl b => cases rx; exact SeqAt.EqAt.str_bool a t' b
    | int b => obtain ⟨t, rfl⟩ := rx; exact SeqAt.EqAt.str_int a t' b t
    | str b => obtain ⟨t, rfl⟩ := rx; exact SeqAt.EqAt.str_str a t' b t
    | _ => exact absurd (show false = true from fx) Bool.false_ne_true
  | _ => exact absurd (show false = true from fy) Bool.false_ne_true
def eqU (x : V) (u : Value) : Bool := match u with
  | .none => eqV .non x
  | .bool b => eqV (.bl b) x
  | .int i _ => eqV (.int i) x
  | .str z _ => eqV (.str z) x
  | _ => false
theorem zpM {x y : V} {u : Value} (r : RelV y u) (f : zer y = true) : eqU x u = eqV y x := by
  cases y with
  | non => cases r; rfl
  | bl b => cases r; rfl
  | int i => obtain ⟨t, rfl⟩ := r; rfl
  | str z => obtain ⟨t, rfl⟩ := r; rfl
  | _ => exact absurd (show false = true from f) Bool.false_ne_true
theorem zfd {x : V} : ∀ {xs : List V} {us : List Value}, Vals xs us -> xs.all zer = true -> us.any (eqU x) = xs.any fun y => eqV y x
  | _, _, .nil, _ => rfl
  | y :: xs, u :: us, .cons r t, f => by
    rw [List.all_cons, Bool.and_eq_true] at f
    rw [List.any_cons, List.any_cons, zpM r f.1, zfd t f.2]
theorem zdY {A : Around} {s : Shared} {x : V} {v : Value} (rx : RelV x v) (fx : zer x = true) : ∀ {xs : List V} {us : List Value}, Vals xs us -> xs.all zer = true -> ∀ u ∈ us, SeqAt.EqAt A s u v (eqU x u)
  | _, _, .nil, _ => fun u hu => by cases hu
  | y :: xs, u :: us, .cons r t, f => fun u' hu => by
    rw [List.all_cons, Bool.and_eq_true] at f
    rcases List.mem_cons.mp hu with rfl | hu
    . rw [zpM r f.1]; exact ztl r rx f.1 fx
    . exact zdY rx fx t f.2 u' hu
def inV (x : V) (xs : List V) : Bool := xs.any fun y => eqV y x
def rIn (K : PySem.W.Frag) (neg : Bool) : R2 := fun x y H Q => ∃ p xs, y = .ref p /\ (SqL K H p xs \/ SqT K H p xs) /\ zer x = true /\ xs.all zer = true /\ Q (.bl (if neg then !inV x xs else inV x xs)) H
theorem znH : OpR X (compareOp .In) (rIn X.K false) := by
  intro pins s σ H x y v u Q I rx ry h
  obtain ⟨p, xs, rfl, hq, fx, fs, q⟩ := h
  cases ry
  rcases hq with hq | hq
  . obtain ⟨its, r, pl, hz⟩ := I.list hq
    refine SeqAt.in_listAt (eqU x) pl.isList (fun w hw => zdY rx fx r fs w (by simpa using hw)) ⟨.bl _, H, I, rfl, ?_⟩
    rw [show its.toArray.any (eqU x) = its.any (eqU x) by simp, zfd r fs]
    exact q
  . obtain ⟨its, r, pl, hz⟩ := I.tuple hq
    refine SeqAt.in_tupleAt (eqU x) pl (fun w hw => zdY rx fx r fs w (by simpa using hw)) ⟨.bl _, H, I, rfl, ?_⟩
    rw [show its.toArray.any (eqU x) = its.any (eqU x) by simp, zfd r fs]
    exact q
theorem zjE : OpR X (compareOp .NotIn) (rIn X.K true) := by
  intro pins s σ H x y v u Q I rx ry h
  obtain ⟨p, xs, rfl, hq, fx, fs, q⟩ := h
  cases ry
  rcases hq with hq | hq
  . obtain ⟨its, r, pl, hz⟩ := I.list hq
    refine SeqAt.notIn_listAt (eqU x) pl.isList (fun w hw => zdY rx fx r fs w (by simpa using hw)) ⟨.bl _, H, I, rfl, ?_⟩
    rw [show its.toArray.any (eqU x) = its.any (eqU x) by simp, zfd r fs]
    exact q
  . obtain ⟨its, r, pl, hz⟩ := I.tuple hq
    refine SeqAt.notIn_tupleAt (eqU x) pl (fun w hw => zdY rx fx r fs w (by simpa using hw)) ⟨.bl _, H, I, rfl, ?_⟩
    rw [show its.toArray.any (eqU x) = its.any (eqU x) by simp, zfd r fs]
    exact q
theorem zeZ : zZ X (.builtin "len") (fun xs H Q => ∃ p ys, xs = [.ref p] /\ (SqL X.K H p ys \/ SqT X.K H p ys) /\ Q (.int ys.length) H) := by
  intro pins s σ H xs us Q I r h
  obtain ⟨p, ys, rfl, hq, q⟩ := h
  obtain ⟨u, rfl, rx⟩ := vals1 r
  cases rx
  have hn := zfD
  rcases hq with hq | hq
  . obtain ⟨its, r', pl, hz⟩ := I.list hq
    have hlen := r'.length
    exact Calls.call_len_list pl.isList (by simp only [List.size_toArray] <;> omega) ⟨.int ys.length, H, I.tok _, ⟨s.toks + 1, by rw [List.size_toArray, hlen]⟩, q⟩
  . obtain ⟨its, r', pl, hz⟩ := I.tuple hq
    have hlen := r'.length
    exact len_tuple pl (by simp only [List.size_toArray] <;> omega) ⟨.int ys.length, H, I.tok _, ⟨s.toks + 1, by rw [List.size_toArray, hlen]⟩, q⟩
theorem ziN : zZ X (.builtin "len") (fun xs H Q => ∃ z, xs = [.str z] /\ z.length <= sizeLine /\ Q (.int z.length) H) := by
  intro pins s σ H xs us Q I r h
  obtain ⟨z, rfl, hz, q⟩ := h
  obtain ⟨u, rfl, t, rfl⟩ := vals1 r
  have hn := zfD
  exact len_str (by omega) ⟨.int z.length, H, I.tok _, ⟨_, rfl⟩, q⟩
theorem zZ.or {f : Value} {r r' : List V -> Hp -> VK -> Prop} (h : zZ X f r) (h' : zZ X f r') : zZ X f (fun xs H Q => r xs H Q \/ r' xs H Q) := by
  intro pins s σ H xs us Q I rs q
  rcases q with q | q
  . exact h pins s σ H xs us Q I rs q
  . exact h' pins s σ H xs us Q I rs q
theorem zjD : zZ X (.type "list") (fun xs H Q => ∃ p ys, xs = [.ref p] /\ (SqL X.K H p ys \/ SqT X.K H p ys) /\ ∀ l, H l = none -> Q (.ref l) (upd H l (.lst ys))) := by
  intro pins s σ H xs us Q I r h
  obtain ⟨p, ys, rfl, hq, q⟩ := h
  obtain ⟨u, rfl, rx⟩ := vals1 r
  cases rx
  have fin : ∀ (its : List Value), Vals ys its -> ys.length <= sizeLine -> ∀ (h' : Heap) (c' : Nat), (∀ b o', s.heap.get? b = some o' -> h'.get? b = some o') ->
      h'.get? s.heap.objs.size = some { cls := .type "list", dict := none, data := .seq its.toArray c', slots := #[] } -> EP X pins σ Q (.ref s.heap.objs.size) { s with heap := h' } := fun its r' hz h' c' kp e =>
    ⟨.ref s.heap.objs.size, _, I.laid (t' := s.toks) kp (Nat.le_refl _) (show zaV X.prog X.w _ h' _ (.lst ys) from ⟨hz, its, c', r', e⟩), rfl, q _ (I.hok.fresh (Nat.le_refl _))⟩
  rcases hq with hq | hq
  . obtain ⟨its, r', pl, hz⟩ := I.list hq
    have hlen := r'.length
    obtain ⟨o, ho, hc, n, hd⟩ := pl.isList
    exact call_list_seq p (.inl rfl) ho hc hd (fun h' c' kp e => fin its r' hz h' c' kp e) (by simp only [List.size_toArray] <;> omega)
  . obtain ⟨its, r', pl, hz⟩ := I.tuple hq
    have hlen := r'.length
    obtain ⟨o, ho, hc, n, hd⟩ := pl
    exact call_list_seq p (.inr rfl) ho hc hd (fun h' c' kp e => fin its r' hz h' c' kp e) (by simp only [List.size_toArray] <;> omega)
theorem zhI : zZ X (.type "tuple") (fun xs H Q => ∃ p ys, xs = [.ref p] /\ ((SqL X.K H p ys /\ ∀ l, H l = none -> Q (.ref l) (upd H l (.tup ys))) \/ (SqT X.K H p ys /\ Q (.ref p) H))) := by
  intro pins s σ H xs us Q I r h
  obtain ⟨p, ys, rfl, h⟩ := h
  obtain ⟨u, rfl, rx⟩ := vals1 r
  cases rx
  rcases h with ⟨hq, q⟩ | ⟨hq, q⟩
  . obtain ⟨its, r', pl, hz⟩ := I.list hq
    have hlen := r'.length
    refine call_tuple_list pl.isList (fun h' kp => ?_) (by simp only [List.size_toArray] <;> omega)
    have I1 : Inv X pins σ H { s with heap := h' } := I.kept (t' := s.toks) kp
    have I2 : Inv X pins σ (upd H h'.objs.size (.tup ys)) { s with heap := h'.push { cls := .type "tuple", data := .seq its.toArray } } :=
      I1.laid (t' := s.toks) (fun b o e => Heap.get?_push_of_some _ e) (Nat.le_refl _) (show zaV X.prog X.w _ _ _ (.tup ys) from ⟨hz, its, r', IsTup.new _ _⟩)
    exact ⟨.ref h'.objs.size, _, I2, rfl, q _ (I1.hok.fresh (Nat.le_refl _))⟩
  . obtain ⟨its, r', pl, hz⟩ := I.tuple hq
    exact call_tuple_same pl ⟨.ref p, H, I, rfl, q⟩

def tyV (K : PySem.W.Frag) (T : String) (x : V) (H : Hp) : Prop := match x with
  | .str _ => T = "str"
  | .int _ => T = "int"
  | .ref p => (T = "list" /\ ∃ xs, SqL K H p xs) \/ (T = "tuple" /\ ∃ o, K.lookup p = some o /\ o.cls = .type "tuple" /\ o.dict = none) \/
      (T = "dict" /\ ((∃ kvs, H p = some (.dK kvs)) \/ ∃ kvs, H p = some (.dT kvs))) \/ (T = "set" /\ ∃ S n, H p = some (.set S n))
  | _ => False
theorem zsL {pins : List (Addr × Obj)} {σ : St} {H : Hp} {s : Shared} {T : String} {x : V} {v : Value} (I : Inv X pins σ H s) (r : RelV x v) (ty : tyV X.K T x H) :
    s.TypeIs v T /\ ∀ a, v = .ref a -> ∃ ob, s.heap.get? a = some ob /\ ob.dict = none := by
  cases x with
  | str z =>
    obtain ⟨t, rfl⟩ := r
    cases (show T = "str" from ty)
    exact ⟨typeIs_str s z t, fun _ e => nomatch e⟩
  | int i =>
    obtain ⟨t, rfl⟩ := r
    cases (show T = "int" from ty)
    exact ⟨typeIs_int s i t, fun _ e => nomatch e⟩
  | ref p =>
    cases r
    rcases ty with ⟨rfl, xs, hq⟩ | ⟨rfl, o, hk, hc, hd⟩ | ⟨rfl, hk⟩ | ⟨rfl, S, n, hk⟩
    . obtain ⟨its, _, pl, _⟩ := I.list hq
      refine ⟨pl.isList.typeIs, fun a e => ?_⟩
      cases e
      obtain ⟨o, n, e, c, hd, _⟩ := pl
      exact ⟨o, e, hd⟩
    . refine ⟨⟨o, I.kIn p o hk, hc⟩, fun a e => ?_⟩
      cases e
      exact ⟨o, I.kIn _ o hk, hd⟩
    . have z : ∃ o, s.heap.get? p = some o /\ o.ExactDict := by
        rcases hk with ⟨kvs, hk⟩ | ⟨kvs, hk⟩
        . obtain ⟨_, _, _, _, o, _, _, e, ex, _⟩ := I.hok p _ hk
          exact ⟨o, e, ex⟩
        . obtain ⟨_, _, _, _, o, _, _, e, ex, _⟩ := I.hok p _ hk
          exact ⟨o, e, ex⟩
      obtain ⟨o, e, ex⟩ := z
      refine ⟨⟨o, e, ex.1⟩, fun a e2 => ?_⟩
      cases e2
      exact ⟨o, e, ex.2.1⟩
    . obtain ⟨o, _, _, _, e, ex, _⟩ := I.hok p _ hk
      refine ⟨⟨o, e, ex.1⟩, fun a e2 => ?_⟩
      cases e2
      exact ⟨o, e, ex.2.1⟩
  | _ => exact False.elim ty
def tBM (K : PySem.W.Frag) (T : String) (r : V -> List V -> Hp -> VK -> Prop) (to : TE) (t : TA) : TE := fun σ H Q => to σ H fun x H1 => tyV K T x H1 /\ t σ H1 fun xs H2 => r x xs H2 Q
variable {o e : Expr} {es : List Expr} {to : TE} {t : TA} {name : Str} {apos cpos : Pos} {T id : String} {r : V -> List V -> Hp -> VK -> Prop}
theorem zvi (pa : PlainAttrs T) (slot : Slot T name id) (hty : typeOf (.builtin id) = pure (.type "method_descriptor")) (hm : MtR X id r) (ho : PE X o to) (ha : PA X (e :: es) t)
    (hbase : attributeBase o name X.env (eval o X.env) = eval o X.env := by rfl)
    (hfew : ((backTo cpos (starEach (e :: es) X.env)).all (fun x => !x.1) && (backToKw cpos (keywordEach [] X.env)).all (fun x => x.1.isSome)
      && decide ((e :: es).length + ([] : List Keyword).length + (if ([] : List Keyword).isEmpty then 0 else 1) < 30)) = true := by rfl)
    (hline : (apos.endLine == cpos.line) = true := by rfl) (hs : starEach (e :: es) X.env = (false, eval e X.env) :: starEach es X.env := by rfl) (hplain : (backTo cpos (starEach es X.env)).any (·.1) = false := by rfl) :
    PE X (.Call (.Attribute o name apos) (e :: es) [] cpos) (tBM X.K T r to t) := by
  intro pins s σ H Q I h
  refine wpAny_Call_method_late hbase hfew hline rfl (thn (ho pins s σ H _ I h) fun v s1 ⟨x, H1, I1, r1, ty, q1⟩ => ?_)
  obtain ⟨h1, h2⟩ := zsL I1 r1 ty
  refine ⟨T, id, pa, slot, hty, h1, h2, ?_⟩
  have hA := ha cpos pins s1 σ H1 _ I1 q1
  rw [hs] at hA ⊢
  refine Calls.callWith_builtin (by show (false || (backTo cpos (starEach es X.env)).any (·.1)) = false; rw [hplain] <;> rfl) (Calls.evalArgs_plain ?_)
  exact thn hA fun us s2 ⟨vs, H2, I2, r2, q2⟩ => hm pins s2 σ H2 x vs v us Q I2 r1 r2 q2
end
end L2

namespace L2
open PySem PySem.Spec PyProof.Rows

def MtM (X : Cx) (id : String) (r : V -> List V -> Hp -> VK -> Prop) : Prop :=
  ∀ (pins : List (Addr × Obj)) (s : Shared) (σ : St) (H : Hp) (x : V) (xs : List V) (v : Value) (us : List Value) (Q : VK), Inv X pins σ H s -> RelV x v -> Vals xs us -> r x xs H Q ->
    wpAny (model X.prog X.w) X.A (call (.builtin id) (v :: us)) (EP X pins σ Q) X.xe s

theorem Vals.one : ∀ {x : V} {us : List Value}, Vals [x] us -> ∃ u, us = [u] /\ RelV x u
  | _, _, .cons r .nil => ⟨_, rfl, r⟩
theorem Vals.rep {xs : List V} {us : List Value} (h : Vals xs us) : ∀ k : Nat, Vals (List.replicate k xs).flatten (List.replicate k us).flatten
  | 0 => .nil
  | k + 1 => by
    rw [List.replicate_succ, List.replicate_succ, List.flatten_cons, List.flatten_cons]
    exact Vals.append h (Vals.rep h k)
theorem foldl_rep (its : List Value) : ∀ (k : Nat) (acc : List Value),
    List.foldl (fun x1 x2 => x1 ++ x2) acc.toArray (List.replicate k its.toArray) = (acc ++ (List.replicate k its).flatten).toArray
  | 0, acc => by simp
  | k + 1, acc => by
    have e : acc.toArray ++ its.toArray = (acc ++ its).toArray := by simp
    have e2 : (acc ++ its) ++ (List.replicate k its).flatten = acc ++ (List.replicate (k + 1) its).flatten := by
      rw [List.replicate_succ, List.flatten_cons, List.append_assoc]
    rw [<- e2, <- foldl_rep its k (acc ++ its), <- e, List.replicate_succ, List.foldl_cons]

section
variable {X : Cx} {pins : List (Addr × Obj)} {σ : St} {H : Hp} {s : Shared} {l b : Addr} {xs ys zs : List V}

theorem Inv.lset {its its' : List Value} {n : Nat} {f : Array Value -> Array Value} {t' : Nat} (I : Inv X pins σ H s) (hH : H l = some (.lst xs))
    (e : s.heap.get? l = some { cls := .type "list", data := .seq its.toArray n }) (hf : f its.toArray = its'.toArray) (hv : Vals ys its') (hz : ys.length <= sizeLine) :
    Inv X pins σ (upd H l (.lst ys)) { s with heap := s.heap.update l (Obj.mapSeq f), toks := t' } := by
  have q := PySem.IsL.update e f
  rw [hf] at q
  refine I.write (x := l) (e := l) (by rw [hH]; exact trivial) (.inl rfl) (fun b' u hb hu => (Heap.get?_update_other s.heap (Obj.mapSeq f) (Ne.symm hb)).trans hu) ⟨_, q⟩ ?_
  exact ⟨hz, its', _, hv, q⟩
theorem Inv.lnew {its : List Value} {t' : Nat} (I : Inv X pins σ H s) (hv : Vals ys its) (hz : ys.length <= sizeLine) :
    Inv X pins σ (upd H s.heap.objs.size (.lst ys)) { s with heap := s.heap.push { cls := .type "list", data := .seq its.toArray }, toks := t' } :=
  I.laid (fun _ _ q => Heap.get?_push_of_some _ q) (Nat.le_refl _) ⟨hz, its, 0, hv, Heap.get?_push_size _ rfl⟩
theorem Inv.fresh (I : Inv X pins σ H s) : H s.heap.objs.size = none := I.hok.fresh (Nat.le_refl _)
theorem Inv.lstM (I : Inv X pins σ H s) (hH : H l = some (.lst xs)) : xs.length <= sizeLine /\ ∃ (its : List Value) (n : Nat), Vals xs its /\ xs.length = its.length /\ s.heap.get? l = some { cls := .type "list", data := .seq its.toArray n } := by
  obtain ⟨z, its, n, r, e⟩ := I.hok l _ hH
  exact ⟨z, its, n, r, r.length, e⟩

theorem zor {n : Nat} (h : n <= sizeLine) : Builtin.List.listTooLong n = false := by
  unfold Builtin.List.listTooLong
  exact decide_eq_false (by omega)
end

section
variable {X : Cx}

def zmg : V -> List V -> Hp -> VK -> Prop := fun x vs H Q => ∃ l xs y, x = .ref l /\ vs = [y] /\ H l = some (.lst xs) /\ xs.length < sizeLine /\ Q .non (upd H l (.lst (xs ++ [y])))
theorem zbm : MtM X "list.append" zmg := by
  intro pins s σ H x vs v us Q I rx rv h
  obtain ⟨l, xs, y, rfl, rfl, hH, hz, q⟩ := h
  cases rx
  obtain ⟨u, rfl, ru⟩ := rv.one
  obtain ⟨z, its, n, r, hl, e⟩ := I.lstM hH
  refine call_meets F.slot_list_append ⟨_, e, rfl⟩ F.entry_list_append (F.args_list_append_2 _ _) (PySem.list_append l its.toArray n u (by rw [List.size_toArray]; omega)) ⟨e, ?_⟩
  refine ⟨.non, _, I.lset (its' := its ++ [u]) hH e (by simp) (r.append (.cons ru .nil)) ?_, rfl, q⟩
  rw [List.length_append, List.length_singleton]
  omega

def zuz : R2 := fun x y H Q => ∃ l b xs zs, x = .ref l /\ y = .ref b /\ H l = some (.lst xs) /\ H b = some (.lst zs) /\ xs.length + zs.length <= sizeLine /\ ∀ p, H p = none -> Q (.ref p) (upd H p (.lst (xs ++ zs)))
theorem zuo : OpR X (binaryOp .Add) zuz := by
  intro pins s σ H x y v u Q I rx ry h
  obtain ⟨l, b, xs, zs, rfl, rfl, hH, hB, hz, q⟩ := h
  cases rx
  cases ry
  obtain ⟨z, its, n, r, hl, e⟩ := I.lstM hH
  obtain ⟨z2, its2, n2, r2, hl2, e2⟩ := I.lstM hB
  refine PySem.P.add_list e e2 ?_ (by rw [List.size_toArray, List.size_toArray]; omega)
  have ea : its.toArray ++ its2.toArray = (its ++ its2).toArray := by simp
  rw [ea]
  exact ⟨.ref _, _, I.lnew (t' := s.toks) (r.append r2) (by rw [List.length_append]; omega), rfl, q _ I.fresh⟩
def zvm : R2 := fun x y H Q => ∃ l k xs, x = .ref l /\ y = .int k /\ H l = some (.lst xs) /\ -(2 ^ 63) <= k /\ k < 2 ^ 63 /\ xs.length * k.toNat <= sizeLine /\
  ∀ p, H p = none -> Q (.ref p) (upd H p (.lst (List.replicate k.toNat xs).flatten))
theorem len_rep {α : Type} (xs : List α) (k : Nat) : (List.replicate k xs).flatten.length = k * xs.length := by
  induction k with
  | zero => simp
  | succ k ih => rw [List.replicate_succ, List.flatten_cons, List.length_append, ih, Nat.succ_mul, Nat.add_comm]
theorem zta : OpR X (binaryOp .Mult) zvm := by
  intro pins s σ H x y v u Q I rx ry h
  obtain ⟨l, k, xs, rfl, rfl, hH, h1, h2, hz, q⟩ := h
  cases rx
  obtain ⟨t, rfl⟩ := ry
  obtain ⟨z, its, n, r, hl, e⟩ := I.lstM hH
  have hlen : its.toArray.size * k.toNat <= sizeLine := by rw [List.size_toArray, <- hl]; exact hz
  have hcap : ¬ its.toArray.size * k.toNat > (2 ^ 63 - 1) / 8 := by
    have : (sizeLine : Nat) <= (2 ^ 63 - 1) / 8 := by decide
    omega
  have hfit : ¬ (!Builtin.List.listFitsIndex k) = true := by
    rw [fitsIndex_both h1 h2]
    exact Bool.false_ne_true
  have hlong : ¬ Builtin.List.listTooLong (its.toArray.size * k.toNat) = true := by
    rw [zor hlen]
    exact Bool.false_ne_true
  have hnew : List.foldl (fun x1 x2 => x1 ++ x2) #[] (List.replicate (if its.toArray.isEmpty = true then 0 else k.toNat) its.toArray) = (List.replicate k.toNat its).flatten.toArray := by
    have f0 : ∀ m : Nat, List.foldl (fun x1 x2 => x1 ++ x2) #[] (List.replicate m its.toArray) = (List.replicate m its).flatten.toArray := fun m => by
      have := foldl_rep its m []
      rw [List.nil_append] at this
      exact this
    rw [f0]
    cases its with
    | nil => simp
    | cons a r' => rw [if_neg (by simp)]
  refine wpAny_binaryOp_repeat_ref (T := "list") (U := "int") (by decide) ⟨_, e, rfl⟩ (fun s' => typeIs_int s' k t) noFill_list_mul F.fills_int_mul F.slot_int_rmul repeat_list F.slot_int_index.lookup
    (call_meets F.slot_int_rmul (typeIs_int s k t) F.entry_int_rmul (F.args_int_rmul_2 _ _) (int___rmul___int_list k t l its.toArray n)
      ⟨e, rfl, ⟨_, e, rfl⟩, call_meets F.slot_list_mul ⟨_, e, rfl⟩ F.entry_list_mul (F.args_list_mul_2 _ _) (AutoListH.list___mul___list_int_3 l its.toArray n k t hfit hcap hlong) ⟨e, ?_⟩⟩)
  rw [hnew]
  exact ⟨.ref _, _, I.lnew (t' := s.toks) (r.rep k.toNat) (by rw [len_rep, Nat.mul_comm]; exact hz), rfl, q _ I.fresh⟩

end

section
variable {prog : Program} {w : World} {A : Around} {E : Value -> Shared -> Prop} {s : Shared}
end

section
variable {X : Cx}
end
end L2


namespace L2
open PySem PySem.Spec PyProof.Rows

section
variable {κ : Type} [DecidableEq κ]
def zdJ (kvs : List (κ × V)) (k : κ) : Option V := (kvs.find? fun kv => decide (kv.1 = k)).map (·.2)
def putK (kvs : List (κ × V)) (k : κ) (v : V) : List (κ × V) :=
  if (kvs.any fun kv => decide (kv.1 = k)) = true then kvs.map (fun kv => if kv.1 = k then (kv.1, v) else kv) else kvs ++ [(k, v)]
def zgH (kvs : List (κ × V)) (k : κ) : List (κ × V) := kvs.filter fun kv => decide (kv.1 ≠ k)

theorem zfk {p : κ × V} {r : List (κ × V)} {k : κ} (e : p.1 = k) : zdJ (p :: r) k = some p.2 := by simp [zdJ, List.find?_cons, e]
theorem zeO {p : κ × V} {r : List (κ × V)} {k : κ} (e : ¬ p.1 = k) : zdJ (p :: r) k = zdJ r k := by simp [zdJ, List.find?_cons, e]
theorem zkE (k : κ) : ∀ kvs : List (κ × V), (kvs.any fun kv => decide (kv.1 = k)) = (zdJ kvs k).isSome
  | [] => rfl
  | p :: r => by
    rw [List.any_cons]
    by_cases e : p.1 = k
    . simp only [zfk e, decide_eq_true e, Bool.true_or, Option.isSome_some]
    . rw [zeO e, decide_eq_false e, Bool.false_or]; exact zkE k r
theorem zfL (kvs : List (κ × V)) (k : κ) (v : V) : (putK kvs k v).length <= kvs.length + 1 := by
  unfold putK
  split
  . rw [List.length_map]; omega
  . rw [List.length_append, List.length_cons, List.length_nil]; omega
theorem zeh.isSome_eq {o : Option V} {u : Option Value} (r : zeh o u) : o.isSome = u.isSome := by
  cases o with
  | none => cases u with
    | none => rfl
    | some _ => exact (show False from r).elim
  | some _ => cases u with
    | none => exact (show False from r).elim
    | some _ => rfl
theorem KV.val {kvs : List (κ × V)} {vs : List (κ × Value)} (r : KV kvs vs) (k : κ) : zeh (zdJ kvs k) (valueAt vs k) := by
  unfold KV at r
  induction r with
  | nil => exact True.intro
  | @cons p q ps qs h t ih =>
    obtain ⟨h1, h2⟩ := h
    by_cases e : p.1 = k
    . have e' : q.1 = k := h1.symm.trans e
      have b : valueAt (q :: qs) k = some q.2 := by simp [valueAt, List.find?_cons, e']
      rw [zfk e, b]; exact h2
    . have e' : ¬ q.1 = k := fun z => e (h1.trans z)
      have b : valueAt (q :: qs) k = valueAt qs k := by simp [valueAt, List.find?_cons, e']
      rw [zeO e, b]; exact ih
theorem KV.any {kvs : List (κ × V)} {vs : List (κ × Value)} (r : KV kvs vs) (k : κ) : (kvs.any fun kv => decide (kv.1 = k)) = vs.any fun kv => decide (kv.1 = k) := by
  unfold KV at r
  induction r with
  | nil => rfl
  | cons h t ih => rw [List.any_cons, List.any_cons, ih, h.1]
theorem KV.repl {kvs : List (κ × V)} {vs : List (κ × Value)} (r : KV kvs vs) (k : κ) {y : V} {u : Value} (ry : RelV y u) :
    KV (kvs.map fun kv => if kv.1 = k then (kv.1, y) else kv) (vs.map fun kv => if kv.1 = k then (kv.1, u) else kv) := by
  unfold KV at r ⊢
  induction r with
  | nil => exact .nil
  | @cons p q ps qs h t ih =>
    rw [List.map_cons, List.map_cons]
    refine .cons ?_ ih
    obtain ⟨h1, h2⟩ := h
    by_cases e : p.1 = k
    . rw [if_pos e, if_pos (h1.symm.trans e)]; exact ⟨h1, ry⟩
    . rw [if_neg e, if_neg (fun z => e (h1.trans z))]; exact ⟨h1, h2⟩
theorem KV.put {kvs : List (κ × V)} {vs : List (κ × Value)} (r : KV kvs vs) (k : κ) {y : V} {u : Value} (ry : RelV y u) : KV (putK kvs k y) (stored vs k u) := by
  unfold putK stored
  rw [r.any k]
  by_cases e : (vs.any fun kv => decide (kv.1 = k)) = true
  . rw [if_pos e, if_pos e]; exact r.repl k ry
  . rw [if_neg e, if_neg e]; exact Paired.snoc r ⟨rfl, ry⟩
theorem KV.drop {kvs : List (κ × V)} {vs : List (κ × Value)} (r : KV kvs vs) (k : κ) : KV (zgH kvs k) (without vs k) := by
  unfold KV at r ⊢
  unfold zgH without
  induction r with
  | nil => exact .nil
  | @cons p q ps qs h t ih =>
    obtain ⟨h1, h2⟩ := h
    rw [List.filter_cons, List.filter_cons]
    by_cases e : p.1 = k
    . have a : ¬ decide (p.1 ≠ k) = true := by simp [e]
      have b : ¬ decide (q.1 ≠ k) = true := by simp [h1.symm.trans e]
      rw [if_neg a, if_neg b]; exact ih
    . have e' : ¬ q.1 = k := fun z => e (h1.trans z)
      have a : decide (p.1 ≠ k) = true := by simp [e]
      have b : decide (q.1 ≠ k) = true := by simp [e']
      rw [if_pos a, if_pos b]; exact .cons ⟨h1, h2⟩ ih
theorem KV.length {kvs : List (κ × V)} {vs : List (κ × Value)} (r : KV kvs vs) : kvs.length = vs.length := Paired.length r
theorem zpB (kvs : List (κ × V)) (k : κ) : (zgH kvs k).length <= kvs.length := List.length_filter_le _ _
end


theorem zhV {P : Program} {w : World} {k : Key} {u : Value} (r : RelV (kV k) u) : (zbe P w).is k u = true := by
  cases k with
  | inl i => obtain ⟨t, e⟩ := (show ∃ t, u = Value.int i t from r); subst e; exact zjW P w i t
  | inr x => obtain ⟨t, e⟩ := (show ∃ t, u = Value.str x t from r); subst e; exact zkN P w x t
theorem zhT {P : Program} {w : World} : ∀ {ks : List Key} {us : List Value}, Vals (ks.map kV) us -> ItemsAre (zbe P w) ks us
  | [], _, r => by rw [List.map_nil] at r; cases r; exact .nil
  | k :: ks, _, r => by
    rw [List.map_cons] at r
    cases r with
    | cons h t => exact .cons (zhV h) (zhT t)

abbrev KT (H : Hp) : List (List Key × V) -> List (List Key × Addr × Value) -> Prop := Paired fun p q => p.1 = q.1 /\ H q.2.1 = some (.tup (p.1.map kV)) /\ RelV p.2 q.2.2
theorem KT.val {H : Hp} {kvs : List (List Key × V)} {xs : List (List Key × Addr × Value)} (r : KT H kvs xs) (k : List Key) : zeh (zdJ kvs k) ((atKey xs k).map (·.2)) := by
  induction r with
  | nil => exact True.intro
  | @cons p q ps qs h t ih =>
    obtain ⟨h1, _, h2⟩ := h
    by_cases e : p.1 = k
    . have e' : q.1 = k := h1.symm.trans e
      have b : atKey (q :: qs) k = some q.2 := by simp [atKey, List.find?_cons, e']
      rw [zfk e, b]; exact h2
    . have e' : ¬ q.1 = k := fun z => e (h1.trans z)
      have b : atKey (q :: qs) k = atKey qs k := by simp [atKey, List.find?_cons, e']
      rw [zeO e, b]; exact ih
theorem KT.repl {H : Hp} {kvs : List (List Key × V)} {xs : List (List Key × Addr × Value)} (r : KT H kvs xs) (k : List Key) {y : V} {u : Value} (ry : RelV y u) :
    KT H (kvs.map fun kv => if kv.1 = k then (kv.1, y) else kv) (xs.map (putAt k u)) := by
  induction r with
  | nil => exact .nil
  | @cons p q ps qs h t ih =>
    rw [List.map_cons, List.map_cons]
    refine .cons ?_ ih
    obtain ⟨h1, h2, h3⟩ := h
    unfold putAt
    by_cases e : p.1 = k
    . rw [if_pos e, if_pos (h1.symm.trans e)]; exact ⟨h1, h2, ry⟩
    . rw [if_neg e, if_neg (fun z => e (h1.trans z))]; exact ⟨h1, h2, h3⟩
theorem KT.put {H : Hp} {kvs : List (List Key × V)} {xs : List (List Key × Addr × Value)} (r : KT H kvs xs) (k : List Key) {b : Addr} {y : V} {u : Value} (hb : H b = some (.tup (k.map kV))) (ry : RelV y u) :
    KT H (putK kvs k y) (storedH xs k b u) := by
  have e : (kvs.any fun kv => decide (kv.1 = k)) = (atKey xs k).isSome := by
    rw [zkE, (r.val k).isSome_eq, Option.isSome_map]
  unfold putK storedH
  rw [e]
  by_cases q : (atKey xs k).isSome = true
  . rw [if_pos q, if_pos q]; exact r.repl k ry
  . rw [if_neg q, if_neg q]; exact Paired.snoc r ⟨rfl, hb, ry⟩
theorem KT.keeps {H H' : Hp} {kvs : List (List Key × V)} {xs : List (List Key × Addr × Value)} (r : KT H kvs xs) (ht : ∀ b ys, H b = some (.tup ys) -> H' b = some (.tup ys)) : KT H' kvs xs :=
  Paired.mapP r fun _ _ z => ⟨z.1, ht _ _ z.2.1, z.2.2⟩

section
variable {P : Program} {w : World} {H : Hp} {h : Heap} {a : Addr}
theorem zsg {u : HO} (ok : HOk P w H h) (e : Rd H a u) : zaV P w H h a u := e.ok ok
theorem zfO {kvs : List (Key × V)} (ok : HOk P w H h) (e : Rd H a (.dK kvs)) : kvs.length <= sizeLine /\ (a == sysModules) = false /\ ∃ vs, KV kvs vs /\ h.DictOf (zbe P w) a vs :=
  show zaV P w H h a (.dK kvs) from zsg ok e
theorem zrY {kvs : List (Key × V)} (ok : HOk P w H h) (e : H a = some (.dK kvs)) : kvs.length <= sizeLine /\ (a == sysModules) = false /\ ∃ vs, KV kvs vs /\ h.DictOf (zbe P w) a vs := zfO ok (.inl e)
theorem zgz {ks : List Key} (ok : HOk P w H h) (e : H a = some (.tup (ks.map kV))) : (tupleKind (zbe P w)).is h ks a := by
  obtain ⟨_, its, r, o, h1, h2, n, h3⟩ := (show zaV P w H h a (.tup (ks.map kV)) from ok a _ e)
  exact ⟨o, its.toArray, n, h1, h2, h3, by simpa using zhT r⟩
theorem zjJ {kvs : List (List Key × V)} (ok : HOk P w H h) (e : Rd H a (.dT kvs)) : kvs.length <= sizeLine /\ (a == sysModules) = false /\
    ∃ xs, KT H kvs xs /\ h.DictOfH (tupleKind (zbe P w)) a xs := by
  obtain ⟨z, y, xs, r, o, es, ep, h1, h2, h3, h4, h5⟩ := (show zaV P w H h a (.dT kvs) from zsg ok e)
  refine ⟨z, y, xs, r, o, es, ep, h1, h2, h3, h4, fun x hx => ?_, h5⟩
  have all : ∀ {l : List (List Key × V)} {m : List (List Key × Addr × Value)}, KT H l m -> ∀ x ∈ m, (tupleKind (zbe P w)).is h x.1 x.2.1 := by
    intro l m q
    induction q with
    | nil => intro x hx; exact nomatch hx
    | @cons p q ps qs hq t ih =>
      intro x hx
      rcases List.mem_cons.mp hx with e | hx
      . subst e
        exact zgz ok (by rw [<- hq.1]; exact hq.2.1)
      . exact ih x hx
  exact all r x hx
theorem zvw {kvs : List (List Key × V)} (ok : HOk P w H h) (e : H a = some (.dT kvs)) : kvs.length <= sizeLine /\ (a == sysModules) = false /\
    ∃ xs, KT H kvs xs /\ h.DictOfH (tupleKind (zbe P w)) a xs := zjJ ok (.inl e)
end

def zgh (H : Hp) (a : Addr) (y : V) (r : Option V) : Prop :=
  (∃ kvs k, Rd H a (.dK kvs) /\ y = kV k /\ r = zdJ kvs k) \/ ∃ kvs k b, Rd H a (.dT kvs) /\ y = .ref b /\ H b = some (.tup (k.map kV)) /\ r = zdJ kvs k
def zn4 (H : Hp) (a : Addr) (y v : V) (H' : Hp) : Prop :=
  (∃ kvs k, H a = some (.dK kvs) /\ y = kV k /\ kvs.length < sizeLine /\ H' = upd H a (.dK (putK kvs k v))) \/
  ∃ kvs k b, H a = some (.dT kvs) /\ y = .ref b /\ H b = some (.tup (k.map kV)) /\ kvs.length < sizeLine /\ H' = upd H a (.dT (putK kvs k v))
theorem zn4.k {H : Hp} {a : Addr} {kvs : List (Key × V)} {k : Key} {v : V} (e : H a = some (.dK kvs)) (hl : kvs.length < sizeLine) : zn4 H a (kV k) v (upd H a (.dK (putK kvs k v))) := .inl ⟨kvs, k, e, rfl, hl, rfl⟩
section
variable {X : Cx} {pins : List (Addr × Obj)} {σ : St} {H : Hp} {s : Shared} {a : Addr} {y v : V} {u r : Value} {o : Option V} {A : Around} {E : Value -> Shared -> Prop}

theorem Inv.big (I : Inv X pins σ H s) : sysModules < s.heap.objs.size := by
  have h : mainGlobals < s.heap.objs.size := (I.mod.glob.keeps I.bk).lt
  exact Nat.lt_trans (by decide) h

theorem zm3 {Q : Value -> Shared -> Prop} (hu : A.units + 1 < cLine) (I : Inv X pins σ H s) (g : zgh H a y (some v)) (ry : RelV y u) (h : ∀ w' s', Inv X pins σ H s' -> RelV v w' -> Q w' s') :
    wpAny (model X.prog X.w) A (getItem (.ref a) u) Q E s := by
  rcases g with ⟨kvs, k, e, ey, l⟩ | ⟨kvs, k, b, e, ey, eb, l⟩
  . subst ey
    obtain ⟨z, hd, vs, rel, dd⟩ := zfO I.hok e
    obtain ⟨w', hw, rw'⟩ := zeh.some_of (v := v) (o := valueAt vs k) (by rw [l]; exact rel.val k)
    exact wpAny_getItem_of (zhV ry) dd.mapOf hw (h w' _ (I.tok _) rw')
  . subst ey
    cases (show u = Value.ref b from ry)
    obtain ⟨z, hd, xs, rel, dd⟩ := zjJ I.hok e
    obtain ⟨w', hw, rw'⟩ := zeh.some_of (v := v) (o := (atKey xs k).map (·.2)) (by rw [l]; exact rel.val k)
    obtain ⟨p, hp, hp2⟩ := Option.map_eq_some_iff.mp hw
    refine wpAny_getItem_heap (tupleKind_room_in1 hu) (zgz I.hok eb) dd hp ?_
    rw [hp2]
    exact h w' _ (I.tok _) rw'
theorem zvF {Q : Value -> Shared -> Prop} (hu : A.units + 1 < cLine) (I : Inv X pins σ H s) (g : zgh H a y o) (ry : RelV y u) (h : ∀ s', Inv X pins σ H s' -> Q (.bool o.isSome) s') :
    wpAny (model X.prog X.w) A (compareOp .In u (.ref a)) Q E s := by
  rcases g with ⟨kvs, k, e, ey, l⟩ | ⟨kvs, k, b, e, ey, eb, l⟩
  . subst ey
    obtain ⟨z, hd, vs, rel, dd⟩ := zfO I.hok e
    refine wpAny_in_of (zhV ry) hd dd.mapOf ?_
    rw [<- (rel.val k).isSome_eq, <- l]
    exact h _ (I.tok _)
  . subst ey
    cases (show u = Value.ref b from ry)
    obtain ⟨z, hd, xs, rel, dd⟩ := zjJ I.hok e
    refine wpAny_in_heap (tupleKind_room_in1 hu) (zgz I.hok eb) hd dd ?_
    have q := (rel.val k).isSome_eq
    rw [Option.isSome_map] at q
    rw [<- q, <- l]
    exact h _ (I.tok _)
theorem zqC {Q : Value -> Shared -> Prop} (hu : A.units + 1 < cLine) (I : Inv X pins σ H s) (g : zgh H a y o) (ry : RelV y u) (h : ∀ s', Inv X pins σ H s' -> Q (.bool (!o.isSome)) s') :
    wpAny (model X.prog X.w) A (compareOp .NotIn u (.ref a)) Q E s := by
  rcases g with ⟨kvs, k, e, ey, l⟩ | ⟨kvs, k, b, e, ey, eb, l⟩
  . subst ey
    obtain ⟨z, hd, vs, rel, dd⟩ := zfO I.hok e
    refine wpAny_notIn_of (zhV ry) hd dd.mapOf ?_
    rw [<- (rel.val k).isSome_eq, <- l]
    exact h _ (I.tok _)
  . subst ey
    cases (show u = Value.ref b from ry)
    obtain ⟨z, hd, xs, rel, dd⟩ := zjJ I.hok e
    refine wpAny_notIn_heap (tupleKind_room_in1 hu) (zgz I.hok eb) hd dd ?_
    have q := (rel.val k).isSome_eq
    rw [Option.isSome_map] at q
    rw [<- q, <- l]
    exact h _ (I.tok _)
theorem zis {h' : Heap} {t' : Nat} {ob : HO} (I : Inv X pins σ H s) (mu : Mut (H a)) (hs : Heap.SameBut a s.heap h') (he : ∃ q, h'.get? a = some q) (new : zaV X.prog X.w (upd H a ob) h' a ob) :
    Inv X pins σ (upd H a ob) { s with heap := h', toks := t' } :=
  I.write (x := a) (e := a) mu (.inl rfl) (fun b q hb z => (hs.2 b hb).trans z) he new
theorem zlv {P : Program} {w : World} {H' : Hp} {h' : Heap} {kvs : List (Key × V)} {vs : List (Key × Value)} (z : kvs.length <= sizeLine) (hd : (a == sysModules) = false) (rel : KV kvs vs) (dd : h'.DictOf (zbe P w) a vs) :
    zaV P w H' h' a (.dK kvs) := ⟨z, hd, vs, rel, dd⟩
theorem zmX {H' : Hp} {Q : Unit -> Shared -> Prop} (hu : A.units + 1 < cLine) (I : Inv X pins σ H s) (g : zn4 H a y v H') (ry : RelV y u) (rv : RelV v r) (h : ∀ s', Inv X pins σ H' s' -> Q () s') :
    wpAny (model X.prog X.w) A (setItem (.ref a) u r) Q E s := by
  rcases g with ⟨kvs, k, e, ey, l, eH⟩ | ⟨kvs, k, b, e, ey, eb, l, eH⟩
  . subst ey eH
    obtain ⟨z, hd, vs, rel, dd⟩ := zrY I.hok e
    have hz : vs.length <= sizeLine := by rw [<- rel.length]; exact z
    have hl : (putK kvs k v).length <= sizeLine := by have := zfL kvs k v; omega
    refine wpAny_setItem_pairs (hsz := hz) (zhV ry) dd fun h' dd' hs => h _ ?_
    have he : ∃ q, h'.get? a = some q := let ⟨q, _, _, hq, _⟩ := dd'; ⟨q, hq⟩
    exact zis I (by rw [e]; exact True.intro) hs he (zlv hl hd (rel.put k rv) dd')
  . subst ey eH
    cases (show u = Value.ref b from ry)
    obtain ⟨z, hd, xs, rel, dd⟩ := zvw I.hok e
    have hz : xs.length <= sizeLine := by rw [<- Paired.length rel]; exact z
    have hl : (putK kvs k v).length <= sizeLine := by have := zfL kvs k v; omega
    refine wpAny_setItem_heap (hsz := hz) (tupleKind_room_in1 hu) (zgz I.hok eb) dd fun h' dd' hs => h _ ?_
    obtain ⟨q, es, ep, hq, h2, h3, h4, _, h5⟩ := dd'
    refine zis I (by rw [e]; exact True.intro) hs ⟨q, hq⟩ ⟨hl, hd, _, (rel.put k eb rv).keeps fun c ys ec => ?_, q, es, ep, hq, h2, h3, h4, h5⟩
    rw [zJ (zuW ec e (fun z => nomatch z))]
    exact ec
end

section
variable {X : Cx} {pins : List (Addr × Obj)} {σ : St} {H : Hp} {s : Shared} {a : Addr} {kvs : List (Key × V)} {k : Key} {u : Value} {A : Around} {E : Value -> Shared -> Prop}
theorem znR {Q : Unit -> Shared -> Prop} (I : Inv X pins σ H s) (e : H a = some (.dK kvs)) (ry : RelV (kV k) u) (l : (zdJ kvs k).isSome = true) (h : ∀ s', Inv X pins σ (upd H a (.dK (zgH kvs k))) s' -> Q () s') :
    wpAny (model X.prog X.w) A (delItem (.ref a) u) Q E s := by
  obtain ⟨z, hd, vs, rel, dd⟩ := zrY I.hok e
  refine wpAny_delItem_slot dd.typeIs (by decide) PySem.F.slot_dict_delitem
    (call_meetsIn PySem.F.slot_dict_delitem dd.typeIs PySem.F.entry_dict_delitem (PySem.F.args_dict_delitem_2 _ _) (meets_dict_delitem_pairs (zbe X.prog X.w) a (zhV ry)) ⟨vs, dd, by rw [<- rel.length]; exact z, by rw [<- (rel.val k).isSome_eq]; exact l, fun h' dd' hs => h _ ?_⟩)
  have he : ∃ q, h'.get? a = some q := let ⟨q, _, _, hq, _⟩ := dd'; ⟨q, hq⟩
  exact zis I (by rw [e]; exact True.intro) hs he (zlv (Nat.le_trans (zpB kvs k) z) hd (rel.drop k) dd')
theorem zuQ {Q : Value -> Shared -> Prop} (I : Inv X pins σ H s) (e : Rd H a (.dK kvs)) (h : ∀ t s', Inv X pins σ H s' -> Q (.int kvs.length t) s') : wpAny (model X.prog X.w) A (call (.builtin "len") [.ref a]) Q E s := by
  obtain ⟨z, hd, vs, rel, dd⟩ := zfO I.hok e
  refine call_len_dict hd dd (by rw [<- rel.length]; rw [sizeLine_eq] at z; omega) ?_
  rw [<- rel.length]
  exact h _ _ (I.tok _)
end


def zun (i : Expr) : Prop := ∀ ov iv, subscripted i false ov iv = operate [ov, iv] (getItem ov iv)
theorem zqI {prog : Program} {w : World} {A : Around} {E : Value -> Shared -> Prop} {s : Shared} {env : Env} {value slice : Expr} {pos : Pos} {T id : String} {Q : Value -> Shared -> Prop}
    (hl : typeLookup (.type T) "__getitem__" = pure (some (.builtin id))) (hs : zun slice)
    (h : wpAny (model prog w) A (eval value env) (fun o s₁ => wpAny (model prog w) A (eval slice env) (fun i s₂ => s₂.TypeIs o T /\ wpAny (model prog w) A (getItem o i) Q E s₂) E s₁) E s) :
    wpAny (model prog w) A (eval (.Subscript value slice pos) env) Q E s := by
  refine Subscript_ (wpAny_mono h (fun o s₁ h₁ => wpAny_mono h₁ (fun i s₂ h₂ => ?_) fun _ _ x => x) fun _ _ x => x)
  obtain ⟨hT, h₂⟩ := h₂
  unfold subscriptTail
  refine wpAny_bind ?_
  rw [getitemInPython_of_ne hT.not_modules]
  refine wpAny_bind (wpAny_specialOf hT hl ?_)
  have fin : wpAny (model prog w) A (subscripted slice false o i) (fun r s₃ => wpAny (model prog w) A (letTemporaryGo value o r >>= fun _ => pure r) Q E s₃) E s₂ := by
    rw [hs o i]
    exact wpAny_operating (wpAny_mono h₂ (fun r s₃ h₃ => wpAny_bind (wpAny_letTemporaryGo (wpAny_pure h₃))) fun _ _ x => x)
  first
    | exact wpAny_pure (wpAny_bind fin)
    | exact wpAny_bind (wpAny_pure (wpAny_bind fin))
    | exact wpAny_bind fin

theorem zkJ {X : Cx} {pins : List (Addr × Obj)} {σ : St} {H : Hp} {s : Shared} {a : Addr} {y : V} {o : Option V} (I : Inv X pins σ H s) (g : zgh H a y o) : s.TypeIs (.ref a) "dict" := by
  rcases g with ⟨kvs, k, e, _, _⟩ | ⟨kvs, k, b, e, _, _, _⟩
  . obtain ⟨_, _, vs, _, dd⟩ := zfO I.hok e
    exact dd.typeIs
  . obtain ⟨_, _, xs, _, dd⟩ := zjJ I.hok e
    exact dd.typeIs
def zo2 (td ty : TE) : TE := fun σ H Q => td σ H fun x H1 => ty σ H1 fun y H2 => ∃ a v, x = .ref a /\ zgh H2 a y (some v) /\ Q v H2
def zp0 (td ty tv : TE) : TS := fun D σ H => tv σ H fun v H1 => td σ H1 fun x H2 => ty σ H2 fun y H3 => ∃ a H4, x = .ref a /\ zn4 H3 a y v H4 /\ D.nx σ H4
def zoY (td ty : TE) : TS := fun D σ H => td σ H fun x H1 => ty σ H1 fun y H2 => ∃ a kvs k, x = .ref a /\ H2 a = some (.dK kvs) /\ y = kV k /\ (zdJ kvs k).isSome = true /\ D.nx σ (upd H2 a (.dK (zgH kvs k)))

section
variable {X : Cx} {o i e value : Expr} {pos pos' tpos : Pos} {td ty tv : TE}
theorem zrD (hu : X.A.units + 1 < cLine) (ho : PE X o td) (hi : PE X i ty) (hs : zun i) : PE X (.Subscript o i pos) (zo2 td ty) := by
  intro pins s σ H Q I h
  refine zqI PySem.F.slot_dict_getitem.lookup hs (thn (ho pins s σ H _ I h) fun u s1 ⟨x, H1, I1, rx, q1⟩ => thn (hi pins s1 σ H1 _ I1 q1) fun iv s2 ⟨y, H2, I2, ry, a, v, ex, g, q2⟩ => ?_)
  subst ex
  obtain rfl : u = Value.ref a := rx
  exact ⟨zkJ I2 g, zm3 hu I2 g ry fun w' s3 I3 rw' => ⟨v, H2, I3, rw', q2⟩⟩
theorem zrC (hu : X.A.units + 1 < cLine) (ho : PE X o td) (hi : PE X i ty) (hv : PE X value tv) (hs : swapsWith value (some (.Subscript o i pos')) pos.line X.env = pure false) :
    PS X (.Assign [.Subscript o i pos'] value pos) (zp0 td ty tv) := by
  intro pins s σ H D I h
  refine wpAny_Assign_Subscript (thn (hv pins s σ H _ I h) fun r s1 ⟨v, H1, I1, rv, q1⟩ => thn (ho pins s1 σ H1 _ I1 q1) fun u s2 ⟨x, H2, I2, rx, q2⟩ => thn (hi pins s2 σ H2 _ I2 q2) fun iv s3 ⟨y, H3, I3, ry, a, H4, ex, g, q3⟩ => ?_) hs
  subst ex
  obtain rfl : u = Value.ref a := rx
  exact zmX hu I3 g ry rv fun s4 I4 => ⟨σ, H4, I4, q3⟩
theorem zrf (ho : PE X o td) (hi : PE X i ty) : PS X (.Delete [.Subscript o i tpos] pos) (zoY td ty) := by
  intro pins s σ H D I h
  refine wpAny_Delete (wpAny_deleteEach_cons (wpAny_delete_Subscript (thn (ho pins s σ H _ I h) fun u s1 ⟨x, H1, I1, rx, q1⟩ => thn (hi pins s1 σ H1 _ I1 q1) fun iv s2 ⟨y, H2, I2, ry, a, kvs, k, ex, e, ey, l, q2⟩ => ?_)))
  subst ex ey
  obtain rfl : u = Value.ref a := rx
  exact znR I2 e ry l fun s3 I3 => wpAny_deleteEach_nil ⟨σ, _, I3, q2⟩
end


theorem zpC {P : Program} {w : World} {H : Hp} (h : Heap) (hb : sysModules < h.objs.size) : zaV P w H (h.push { cls := .type "dict", data := .dict #[] }) h.objs.size (.dK []) :=
  ⟨Nat.zero_le _, beq_eq_false_iff_ne.mpr (Ne.symm (Nat.ne_of_lt hb)), [], .nil, Heap.DictOf.new h⟩
def zlD : TE := fun _ H Q => ∀ p, H p = none -> Q (.ref p) (upd H p (.dK []))
section
variable {X : Cx} {pos : Pos}
theorem zpG : PE X (.Dict [] [] pos) zlD := fun pins s σ H Q I h =>
  wpAny_Dict_empty ⟨.ref s.heap.objs.size, _, I.laid (a := s.heap.objs.size) (o := .dK []) (t' := s.toks) (fun _ _ q => Heap.get?_push_of_some _ q) (Nat.le_refl _) (zpC s.heap I.big), rfl, h _ (I.hok.fresh (Nat.le_refl _))⟩
end

structure M1 (X : Cx) (o : Expr) (m : Str) (apos : Pos) (e : Expr) (cpos : Pos) : Prop where
  base : attributeBase o m X.env (eval o X.env) = eval o X.env
  few : ((backTo cpos (starEach [e] X.env)).all (fun x => !x.1) && (backToKw cpos (keywordEach [] X.env)).all (fun x => x.1.isSome)
    && decide (([e] : List Expr).length + ([] : List Keyword).length + (if ([] : List Keyword).isEmpty then 0 else 1) < 30)) = true
  line : (apos.endLine == cpos.line) = true
  trees : backTo cpos (starEach [e] X.env) = [(false, eval e X.env)]
structure M2 (X : Cx) (o : Expr) (m : Str) (apos : Pos) (e f : Expr) (cpos : Pos) : Prop where
  base : attributeBase o m X.env (eval o X.env) = eval o X.env
  few : ((backTo cpos (starEach [e, f] X.env)).all (fun x => !x.1) && (backToKw cpos (keywordEach [] X.env)).all (fun x => x.1.isSome)
    && decide (([e, f] : List Expr).length + ([] : List Keyword).length + (if ([] : List Keyword).isEmpty then 0 else 1) < 30)) = true
  line : (apos.endLine == cpos.line) = true
  trees : backTo cpos (starEach [e, f] X.env) = [(false, eval e X.env), (false, eval f X.env)]

section
variable {X : Cx} {pins : List (Addr × Obj)} {σ : St} {H : Hp} {s : Shared} {a : Addr} {y d : V} {u r : Value} {o : Option V} {A : Around} {E : Value -> Shared -> Prop}
end

section
variable {X : Cx} {o e f : Expr} {apos cpos : Pos} {td ty tx : TE}
end

section
variable {X : Cx} {pins : List (Addr × Obj)} {σ : St} {H : Hp} {s : Shared} {a : Addr} {kvs : List (Key × V)} {A : Around} {E : Value -> Shared -> Prop}
theorem zoP {Q : Value -> Shared -> Prop} (I : Inv X pins σ H s) (e : Rd H a (.dK kvs)) (h : ∀ p s', H p = none -> Inv X pins σ (upd H p (.dK kvs)) s' -> Q (.ref p) s') : wpAny (model X.prog X.w) A (call (.type "dict") [.ref a]) Q E s := by
  obtain ⟨z, hd, vs, rel, dd⟩ := zfO I.hok e
  refine kt_call_dict hd dd (by rw [<- rel.length]; exact z) fun h' dd' hs => ?_
  refine h _ _ (I.hok.fresh (Nat.le_refl _)) (I.laid (a := s.heap.objs.size) (o := .dK kvs) (t' := s.toks) (fun b q hq => ?_) (Nat.le_refl _) (zlv z (beq_eq_false_iff_ne.mpr (Ne.symm (Nat.ne_of_lt I.big))) rel dd'))
  exact (hs.2 b (Nat.ne_of_lt (Heap.lt_size hq))).trans (Heap.get?_push_of_some _ hq)
end


section
variable {X : Cx} {pins : List (Addr × Obj)} {σ : St} {H : Hp} {s : Shared} {a : Addr} {y : V} {u : Value} {A : Around} {E : Value -> Shared -> Prop}
end
end L2


namespace Att
open PySem PySem.W PySem.Calls PyProof.Rows

theorem zge {P : Params} {h : Heap} : ∀ (ns : List Int) (vs : List Value), WellAll P h vs (ns.map WData.int) -> IntsAre vs ns := by
  intro ns
  induction ns with
  | nil =>
    intro vs w
    rw [List.map_nil] at w
    cases w
    exact .nil
  | cons n ns ih =>
    intro vs w
    rw [List.map_cons] at w
    cases w with
    | cons a b =>
      cases a
      exact .cons _ _ (ih _ b)

theorem zmS {l : OpenLaw} {n : Nat} (hn : l.most = some n) {P : Params} {h : Heap} {args : List WData} {vals : List Value}
    (hpre : l.row.toRowW.claim.pre args = true) (hwl : WellAll P h vals args) :
    ∃ a vs ns, vals = [Value.ref a] /\ args = [WData.list (ns.map WData.int)] /\ h.get? a = some { cls := .type "list", data := .seq vs.toArray } /\ IntsAre vs ns /\ ns.length <= n := by
  have hsh : WShape.hasAll [] args [.list .int] = true := (pre_splitW hpre).1
  have hc : l.pre.holds [] { args := args } = true := (pre_splitW hpre).2
  obtain ⟨d, r, rfl, h1, h2⟩ := hasAllW_cons hsh
  obtain rfl := hasAllW_nil h2
  obtain ⟨xs, rfl, h3⟩ := hasW_list h1
  obtain ⟨ns, rfl⟩ := items_int h3
  have hlen : ns.length <= n := by
    unfold OpenLaw.pre at hc
    have h4 : (WTm.not (.lt (.lit (.int (n : Int))) (.len (.arg 0)))).holds [] { args := [.list (ns.map .int)] } = true := by
      have h4 := (holds_andW hc).1
      rw [hn] at h4
      exact h4
    have h5 := condW_of h4 (w_not (w_lt w_lit (w_len_list (w_arg rfl))))
    rw [List.length_map] at h5
    refine Nat.le_of_not_lt fun q => ?_
    have q' : (n : Int) < ((ns.length : Nat) : Int) := by omega
    first
      | (rw [decide_eq_true q'] at h5; exact absurd h5 (by decide))
      | (simp at h5; omega)
  cases hwl with
  | cons w1 w2 =>
    cases w2
    cases w1 with
    | list ho hall => exact ⟨_, _, ns, rfl, rfl, ho, zge ns _ hall, hlen⟩

theorem znN (l : OpenLaw) (args : List WData) : l.row.toRowW.claim.post args (.bool true) args = true :=
  postW_of (r := l.row.toRowW) (X := (true == true))
    (show WShape.has [] (.bool true) .bool = true by first | rfl | decide | simp [WShape.has, WShape.arms, WShape.armsAll])
    (show (WTm.eq .res (.lit (.bool true))).value [] { args := args, res := some (.bool true), after := args } = some (.bool (true == true)) from w_eq_bool (w_res rfl) w_lit) rfl

theorem zkv {l : OpenLaw} {n : Nat} {q : Program} {loose : List Str} {XP : (Str -> Option Value) -> Heap -> Prop} {YP : World -> Heap -> Prop} {d : DefRec}
    (hn : l.most = some n) (hdf : d.params.defaults = [])
    (call : ∀ (w : World) (s₀ s₁ : Shared) (mg mb : Str -> Option Value) (fa : Addr) (o : Obj) (pm cd doc : Value) (a : Addr) (vs : List Value) (ns : List Int),
      Ground q loose [] XP w s₀ mg mb s₁.heap -> YP w s₁.heap ->
      s₁.heap.get? fa = some o -> o.data = .func (docDef d.name d.params d.body d.scope pm cd doc) -> s₁.heap.CodeRec cd d.name -> mg d.name = some (.ref fa) ->
      s₁.heap.get? a = some { cls := .type "list", data := .seq vs.toArray } -> IntsAre vs ns -> ns.length <= n -> s₁.gens = #[] ->
      codeAny (model l.prog w) callerA (.call (.ref fa) ⟨[.ref a], []⟩) (fun r s' => r = .ok (.ret (.bool true)) /\ OldK s₁.heap s'.heap /\ s'.os = s₁.os /\ AllBare s'.gens) s₁) :
    WalkO q loose XP YP l.row.toRowW d [] (fun f vs => PySem.call f vs) := by
  intro w s₀ s₁ mg mb G Y fa o pm cd doc dV kV ho hd hcd hD hmg hg args vals as hpre hlay hrd hwl hlo
  obtain rfl : dV = .none := Dflts.none hD hdf
  obtain rfl : kV = .none := Dflts.noKw hD
  obtain ⟨a, vs, ns, rfl, rfl, hobj, hints, hlen⟩ := zmS hn hpre hwl
  refine enter_call (codeAny_mono (call w s₀ s₁ mg mb fa o pm cd doc a vs ns G Y ho (fd_plain hd) hcd hmg hobj hints hlen hg) fun r s' hq => ?_)
  obtain ⟨rfl, h2, h3, h4⟩ := hq
  exact ⟨.inl ⟨.bool true, .bool true, [], rfl, fun _ => rfl, .bool true, znN l _, fun _ => ⟨List.Pairwise.nil, fun _ hm => (nomatch hm)⟩⟩, h2, h3, h4⟩

section
variable {prog : Program} {w : World} {A : Around} {E : Value -> Shared -> Prop} {s : Shared} {K : Frag}

end
end Att

namespace L2
open PySem PySem.Spec PyProof.Rows

theorem zh1 : ∀ {vs : List Value} {ns : List Int}, IntsAre vs ns -> Vals (ns.map V.int) vs
  | _, _, .nil => .nil
  | _, _, .cons n t h => .cons ⟨t, rfl⟩ (zh1 h)

def Only (H : Hp) : Prop := ∀ b, H b = none \/ ∃ o xs, H b = some (.frz o (.lst xs))

theorem zo9 {P : Program} {w : World} {K : PySem.W.Frag} {mg mb : Str -> Option Value} {CX : CXT} {k : Nat} {fa a : Addr} {fd : FuncData} {x : Str} {sp : Sp} {s₁ : Shared} {vs : List Value} {ns : List Int}
    (KX : K.In s₁.heap) (hns : s₁.heap.Ns mainGlobals mg) (hb : s₁.heap.Ns builtinsNs mb) (hbb : ∀ x : Str, x ≠ "__name__" -> mb x = bootBuiltins x) (hlim : s₁.heap.NoLimit) (hg : s₁.gens = #[])
    (ha : s₁.heap.get? a = some { cls := .type "list", data := .seq vs.toArray }) (hi : IntsAre vs ns) (hl : ns.length <= sizeLine) (hr : zaM k callerA)
    (F : ∀ base : Heap, K.In base -> base.Ns mainGlobals mg -> zas P w K mg base CX k fa fd [x] sp) (hbind : ∀ (s : Shared) (u : Value), BindsTo s fd ⟨[u], []⟩ [(x, u)])
    (hsp : ∀ H : Hp, Only H -> SqL K H a (ns.map V.int) -> sp [.ref a] H (fun v _ => v = .bl true) fun _ _ _ => False)
    (hCX : ∀ H e s', CX [] H s₁ (fun _ _ _ => False) e s' -> False) :
    codeAny (model P w) callerA (.call (.ref fa) ⟨[.ref a], []⟩) (fun r s' => r = .ok (.ret (.bool true)) /\ OldK s₁.heap s'.heap /\ s'.os = s₁.os /\ AllBare s'.gens) s₁ := by
  have rv := zh1 hi
  have lenV := hi.length
  -- from an abstract heap in which nothing but the script may be tracked
  have core : ∀ H : Hp, Only H -> SqL K H a (ns.map V.int) -> HOk P w H s₁.heap -> (∀ b, H b ≠ none -> b = a) -> (H a ≠ none -> K.lookup a = none) ->
      codeAny (model P w) callerA (.call (.ref fa) ⟨[.ref a], []⟩) (fun r s' => r = .ok (.ret (.bool true)) /\ OldK s₁.heap s'.heap /\ s'.os = s₁.os /\ AllBare s'.gens) s₁ := by
    intro H hO hS hok hA hK
    have base_of : ∀ {b : Addr} {o : Obj}, s₁.heap.get? b = some o -> H b = none -> (zja s₁.heap H).get? b = some o := fun e n => zpQ e n
    have noA : ∀ {b : Addr} {o : Obj} {es : Array DictEntry} {ep : Nat}, s₁.heap.get? b = some o -> o.data = .dict es ep -> H b = none := fun {b o es ep} e d => by
      cases q : H b with
      | none => rfl
      | some u =>
        have e' : b = a := hA b (by rw [q]; simp)
        subst e'
        rw [ha] at e; cases e
        have d' : Data.seq vs.toArray _ = Data.dict es ep := d
        cases d'
    have nsK : ∀ {b : Addr} {m : Str -> Option Value}, s₁.heap.Ns b m -> (zja s₁.heap H).Ns b m := fun {b m} ⟨o, es, ep, e, d, r⟩ => ⟨o, es, ep, base_of e (noA e d), d, r⟩
    have hKb : K.In (zja s₁.heap H) := fun b o e => base_of (KX b o e) (by
      cases q : H b with
      | none => rfl
      | some u =>
        have e' : b = a := hA b (by rw [q]; simp)
        subst e'
        rw [hK (by rw [q]; simp)] at e; cases e)
    have hM : Mod K mg (zja s₁.heap H) := ⟨hKb, nsK hns, ⟨mb, nsK hb, hbb⟩, let ⟨mc, h1, h2⟩ := hlim; ⟨mc, nsK h1, h2⟩⟩
    have e0 : zhv P w K mg (zja s₁.heap H) callerA [] s₁ H := ⟨rfl, hM, fun b o e => zqU e, Nat.le_of_eq (zm4 _ _), trivial, fun b hb => absurd (show b ∈ ([] : List Addr) from hb) (by simp), hok, .of_eq hg⟩
    refine codeAny_mono ((F _ hKb (nsK hns)).run callerA [] s₁ H ⟨[.ref a], []⟩ [.ref a] [.ref a] _ _ hr e0 (hbind s₁ (.ref a)) (.cons rfl .nil) (hsp H hO hS)) fun r s' h => ?_
    cases r with
    | error e => exact (hCX H e s' h).elim
    | ok fl =>
      cases fl with
      | next => exact False.elim h
      | brk => exact False.elim h
      | cont => exact False.elim h
      | ret u =>
        obtain ⟨v, H', os, bare, un, hok', r', q⟩ := h
        have q' : v = .bl true := q
        subst q'
        obtain rfl : u = Value.bool true := r'
        refine ⟨rfl, OldK.of_keep fun b o e => ?_, os, bare⟩
        cases q : H b with
        | none => exact un.keep b o e q (by intro z; exact absurd (show b ∈ ([] : List Addr) from z) (by simp)) (by simp)
        | some u =>
          rcases hO b with z | ⟨ob, xs, z⟩
          . rw [q] at z; cases z
          . have z2 := un.frzs b ob _ z
            obtain ⟨e1, _⟩ := hok b _ z
            obtain ⟨e2, _⟩ := hok' b _ z2
            rw [e] at e1; cases e1
            exact e2
  cases hk : K.lookup a with
  | some o =>
    -- the script is one of the module's own objects
    have e := KX a o hk
    rw [ha] at e
    cases e
    refine core (fun _ => none) (fun _ => .inl rfl) (.inr ⟨_, vs.toArray, _, hk, rfl, rfl, rfl, by rw [List.size_toArray, lenV]; exact hl, by simpa using rv⟩) (fun b u z => by have z' : (none : Option HO) = some u := z; cases z') (fun b z => absurd rfl z) fun z => absurd rfl z
  | none =>
    refine core (fun b => if b = a then some (.frz { cls := .type "list", data := .seq vs.toArray } (.lst (ns.map V.int))) else none) (fun b => ?_) (.inl (.inr ⟨{ cls := .type "list", data := .seq vs.toArray }, if_pos rfl⟩)) (fun b u z => ?_) (fun b z => ?_) fun _ => hk
    . by_cases hb : b = a
      . exact .inr ⟨_, _, if_pos hb⟩
      . exact .inl (if_neg hb)
    . by_cases hb : b = a
      . have z' := (if_pos hb).symm.trans z
        cases z'
        subst hb
        exact ⟨ha, by rw [List.length_map]; exact hl, vs, _, rv, ha⟩
      . have z' := (if_neg hb).symm.trans z
        cases z'
    . by_cases hb : b = a
      . exact hb
      . exact absurd (if_neg hb) z
end L2

namespace L2
open PySem PySem.Spec PyProof.Rows

theorem zrg {l : PySem.W.OpenLaw} {n k : Nat} {q : Program} {loose : List Str} {XP : (Str -> Option Value) -> Heap -> Prop} {YP : World -> Heap -> Prop} {d : DefRec} {K : Params -> PySem.W.Frag} {CX : World -> CXT} {sp : World -> Sp} {x : Str}
    (hn : l.most = some n) (hn2 : n <= sizeLine) (hdf : d.params.defaults = []) (hr : zaM k callerA)
    (hY : ∀ (w : World) (h : Heap), YP w h -> (K w.params).In h)
    (F : ∀ (w : World) (mg : Str -> Option Value) (fa : Addr) (h : Heap), (K w.params).In h -> h.Ns mainGlobals mg -> mg d.name = some (.ref fa) ->
      ∃ fd : FuncData, (∀ (s : Shared) (u : Value), BindsTo s fd ⟨[u], []⟩ [(x, u)]) /\
        ∀ base : Heap, (K w.params).In base -> base.Ns mainGlobals mg -> zas l.prog w (K w.params) mg base (CX w) k fa fd [x] (sp w))
    (hsp : ∀ (w : World) (H : Hp) (a : Addr) (ns : List Int), ns.length <= n -> Only H -> SqL (K w.params) H a (ns.map V.int) -> sp w [.ref a] H (fun v _ => v = .bl true) fun _ _ _ => False)
    (hCX : ∀ (w : World) (H : Hp) (s : Shared) (e : Value) (s' : Shared), CX w [] H s (fun _ _ _ => False) e s' -> False) :
    PySem.W.WalkO q loose XP YP l.row.toRowW d [] (fun f vs => PySem.call f vs) := by
  refine Att.zkv hn hdf fun w s₀ s₁ mg mb fa o pm cd doc a vs ns G Y ho hd hcd hmg hobj hints hlen hg => ?_
  have KX := hY w _ Y
  obtain ⟨fd, hb, hF⟩ := F w mg fa _ KX G.T.g hmg
  exact zo9 KX G.T.g G.T.b G.T.builtins G.T.nolimit hg hobj hints (Nat.le_trans hlen hn2) hr hF hb (fun H hO hS => hsp w H a ns hlen hO hS) fun H e s' => hCX w H s₁ e s'
end L2

namespace L2
open PySem PySem.Spec PyProof.Rows

def inClass (s : Stmt) (j : Nat) : Stmt := match s with
  | .ClassDef _ _ _ body _ _ _ _ _ _ _ => body.getD j (.Pass ⟨0, 0, 0, 0⟩)
  | _ => .Pass ⟨0, 0, 0, 0⟩
def zB (s : Stmt) : Arguments := match s with
  | .FunctionDef _ a _ _ _ _ _ _ _ _ => a
  | _ => { posonlyargs := [], args := [], vararg := none, kwonlyargs := [], kw_defaults := [], kwarg := none, defaults := [] }
def zA (s : Stmt) : List Stmt := match s with
  | .FunctionDef _ _ b _ _ _ _ _ _ _ => b
  | _ => []
def zg (s : Stmt) : Scope := match s with
  | .FunctionDef _ _ _ _ _ _ sc _ _ _ => sc
  | _ => { kind := .function, names := [], isGenerator := false, isCoroutine := false }

abbrev CX0 : CXT := fun _ _ _ _ _ _ => False
abbrev E0 : XK := fun _ _ _ => False
theorem zfJ {X : Cx} : zb8 CX0 X E0 := fun _ _ _ _ _ _ _ h => h.elim

structure Fun (K : PySem.W.Frag) (x qual : Str) (st : Stmt) (f : Addr) (fd : FuncData) : Prop where
  ex : ∃ (oc : Value) (od : Option Addr) (kV doc pm : Value) (an : Option Addr) (cdv ct : Value) (osl : Array (Option Value)),
    fd = PySem.W.fnOf x qual (zB st) (zA st) (zg st) .none kV doc pm an cdv ct /\ K.lookup f = some ⟨oc, od, .func fd, osl⟩ /\ PySem.W.codeIn K cdv qual = true
  kp : PySem.W.keepIn K (.ref f) = true
section
variable {P : Program} {w : World} {K : PySem.W.Frag} {mg : Str -> Option Value} {base : Heap}
theorem Fun.ok {x qual : Str} {st : Stmt} {f : Addr} {fd : FuncData} {N ps : List Str} {k : Nat} {sp : Sp} (F : Fun K x qual st f fd) (S : zK N ps (zg st)) (len : ∀ vs H Q E, sp vs H Q E -> vs.length = ps.length)
    (hbody : ∀ (cdv : Value) (A : Around) (outer : List Env) (s : Shared) (H : Hp) (vs : List V) (Q : VK) (E : XK), zaM k (A.deeper (envOfC qual (zg st) s.heap.objs.size f cdv)) -> sp vs H Q E ->
      ∃ t, PSs (zkh CX0 P w K mg base N qual (zg st) f cdv A outer s H E).nox (zA st) t /\ t { nx := fun _ H' => Q .non H', rt := Q } (start N vs) H) : zas P w K mg base CX0 (k + 1) f fd ps sp := by
  obtain ⟨oc, od, kV, doc, pm, an, cdv, ct, osl, rfl, lk, hcd⟩ := F.ex
  refine zvt lk hcd S len fun A outer s H vs Q E hr hsp => ?_
  obtain ⟨t, h, q⟩ := hbody cdv A outer s H vs Q E hr hsp
  exact ⟨t, h.nox, q⟩
theorem Fun.binds {x qual : Str} {st : Stmt} {f : Addr} {fd : FuncData} {ps : List Str} (F : Fun K x qual st f fd)
    (h : ∀ (kV doc pm : Value) (an : Option Addr) (cdv ct : Value) (us : List Value), us.length = ps.length -> bindArgs (PySem.W.fnOf x qual (zB st) (zA st) (zg st) .none kV doc pm an cdv ct) ⟨us, []⟩ = pure (ps.zip us)) : Binds K fd ps [] := by
  obtain ⟨oc, od, kV, doc, pm, an, cdv, ct, osl, rfl, lk, hcd⟩ := F.ex
  exact .all (h kV doc pm an cdv ct)
theorem z9 {x qual : Str} {st : Stmt} {f : Addr} {oc : Value} {od an : Option Addr} {osl : Array (Option Value)} {kV doc pm cdv ct : Value} (l : K.lookup f = some ⟨oc, od, .func (PySem.W.fnOf x qual (zB st) (zA st) (zg st) .none kV doc pm an cdv ct), osl⟩)
    (c : PySem.W.codeIn K cdv qual = true) (k : PySem.W.keepIn K (.ref f) = true) : Fun K x qual st f (PySem.W.fnOf x qual (zB st) (zA st) (zg st) .none kV doc pm an cdv ct) := ⟨⟨oc, od, kV, doc, pm, an, cdv, ct, osl, rfl, l, c⟩, k⟩
end
theorem zeY {A : Around} {k : Nat} (hr : zaM k A) : A.units + 1 < cLine := Nat.lt_of_le_of_lt (Nat.add_le_add_left (by decide : 1 <= 64) _) hr.units
section
variable {X : Cx}
end

theorem zvL {A B : Prop} (h : A) : if true = true then A else B := by
  rw [if_pos rfl]
  exact h
theorem zqi {c A B : Prop} [Decidable c] (h1 : c -> A) (h2 : ¬ c -> B) : if c then A else B := by
  by_cases h : c
  . rw [if_pos h]
    exact h1 h
  . rw [if_neg h]
    exact h2 h
def zhG (H H' : Hp) : Prop := ∀ b o, H b = some o -> H' b = some o
end L2

namespace L2
open PySem PySem.Spec PyProof.Rows
section
variable {X : Cx}
theorem znE : zZ X (.builtin "len") (fun xs H Q => ∃ a kvs, xs = [V.ref a] /\ H a = some (.dK kvs) /\ Q (.int kvs.length) H) := by
  intro pins s σ H xs us Q I r h
  obtain ⟨a, kvs, rfl, ha, q⟩ := h
  obtain ⟨u, rfl, ru⟩ := vals1 r
  cases ru
  exact zuQ I (.inl ha) fun t s' I' => ⟨.int kvs.length, H, I', ⟨t, rfl⟩, q⟩
end
end L2
namespace L2
open PySem PySem.Spec PyProof.Rows
section
variable {κ : Type} [DecidableEq κ]
end
end L2


namespace L2
open PySem PySem.Spec PyProof.Rows

def za0 (env : Env) : List (Str × NameKind) -> List (Str × Addr) -> List (Str × Addr)
  | [], acc => acc
  | (n, k) :: r, acc => if k == .free then za0 env r ((n, (env.cells.lookup n).getD 0) :: acc) else za0 env r acc

theorem zg2 {env : Env} (f : Str × NameKind -> List (Str × Addr) -> Sem (ForInStep (List (Str × Addr))))
    (hf : ∀ n k cs, f (n, k) cs = if k == .free then (do let a <- cellOf env n; pure (.yield ((n, a) :: cs))) else pure (.yield cs)) :
    ∀ (names : List (Str × NameKind)) (acc : List (Str × Addr)), (∀ x ∈ names, x.2 = .free -> (env.cells.lookup x.1).isSome = true) -> forIn names acc f = (pure (za0 env names acc) : Sem _)
  | [], acc, _ => rfl
  | (n, k) :: r, acc, h => by
    have hr : ∀ x ∈ r, x.2 = .free -> (env.cells.lookup x.1).isSome = true := fun x hx => h x (List.mem_cons_of_mem _ hx)
    rw [List.forIn_cons, hf]
    unfold za0
    cases hk : k == NameKind.free with
    | true =>
      obtain ⟨c, hc⟩ := Option.isSome_iff_exists.mp (h (n, k) List.mem_cons_self (by simpa using hk))
      have e : cellOf env n = pure c := by unfold cellOf; rw [hc]
      simp only [if_true]
      rw [e, pure_bind, pure_bind, hc]
      exact zg2 f hf r _ hr
    | false =>
      simp only [Bool.false_eq_true, if_false]
      rw [pure_bind]
      exact zg2 f hf r _ hr

theorem zep {scope : Scope} {env : Env} (h : ∀ x ∈ scope.names, x.2 = .free -> (env.cells.lookup x.1).isSome = true) : closureFor scope env = pure (za0 env scope.names []) := by
  simp only [closureFor]
  rw [zg2 (env := env) _ (fun n k cs => by
    cases hk : k == NameKind.free <;> simp [hk]) _ _ h]
  rfl

theorem zco {env : Env} : ∀ {names : List (Str × NameKind)} {acc : List (Str × Addr)} {n : Str} {c : Addr}, (n, c) ∈ za0 env names acc -> (n, c) ∈ acc \/ ((n, .free) ∈ names /\ c = (env.cells.lookup n).getD 0)
  | [], _, _, _, h => .inl h
  | (x, k) :: r, acc, n, c, h => by
    unfold za0 at h
    cases hk : k == NameKind.free with
    | true =>
      rw [hk] at h
      simp only [if_true] at h
      have ek : k = .free := by simpa using hk
      subst ek
      rcases zco h with h | h
      . rcases List.mem_cons.mp h with e | h
        . cases e; exact .inr ⟨List.mem_cons_self, rfl⟩
        . exact .inl h
      . exact .inr ⟨List.mem_cons_of_mem _ h.1, h.2⟩
    | false =>
      rw [hk] at h
      simp only [Bool.false_eq_true, if_false] at h
      rcases zco h with h | h
      . exact .inl h
      . exact .inr ⟨List.mem_cons_of_mem _ h.1, h.2⟩
theorem zey {env : Env} : ∀ {names : List (Str × NameKind)} {acc : List (Str × Addr)} {p : Str × Addr}, p ∈ acc -> p ∈ za0 env names acc
  | [], _, _, h => h
  | (x, k) :: r, acc, p, h => by
    unfold za0
    split
    . exact zey (List.mem_cons_of_mem _ h)
    . exact zey h
theorem zeA {env : Env} : ∀ {names : List (Str × NameKind)} {acc : List (Str × Addr)} {n : Str}, (n, .free) ∈ names -> (n, (env.cells.lookup n).getD 0) ∈ za0 env names acc
  | (x, k) :: r, acc, n, h => by
    unfold za0
    rcases List.mem_cons.mp h with e | h
    . cases e
      exact zey List.mem_cons_self
    . split <;> exact zeA h
theorem zdk : ∀ {names : List (Str × NameKind)} {m : Nat} {acc : List (Str × Addr)} {n : Str} {c : Addr}, (n, c) ∈ cellsFrom m names acc -> (n, c) ∈ acc \/ ((n, .cell) ∈ names /\ m <= c)
  | [], _, _, _, _, h => .inl h
  | (x, k) :: r, m, acc, n, c, h => by
    unfold cellsFrom at h
    cases hk : k == NameKind.cell with
    | true =>
      rw [hk] at h
      simp only [if_true] at h
      have ek : k = .cell := by simpa using hk
      subst ek
      rcases zdk h with h | h
      . rcases List.mem_cons.mp h with e | h
        . cases e; exact .inr ⟨List.mem_cons_self, Nat.le_refl _⟩
        . exact .inl h
      . exact .inr ⟨List.mem_cons_of_mem _ h.1, Nat.le_of_succ_le h.2⟩
    | false =>
      rw [hk] at h
      simp only [Bool.false_eq_true, if_false] at h
      rcases zdk h with h | h
      . exact .inl h
      . exact .inr ⟨List.mem_cons_of_mem _ h.1, h.2⟩
theorem zbM : ∀ {names : List (Str × NameKind)} {m : Nat} {acc : List (Str × Addr)} {p : Str × Addr}, p ∈ acc -> p ∈ cellsFrom m names acc
  | [], _, _, _, h => h
  | (x, k) :: r, m, acc, p, h => by
    unfold cellsFrom
    split
    . exact zbM (List.mem_cons_of_mem _ h)
    . exact zbM h
theorem zet : ∀ {names : List (Str × NameKind)} {m : Nat} {acc : List (Str × Addr)} {n : Str}, (n, .cell) ∈ names -> ∃ c, (n, c) ∈ cellsFrom m names acc
  | (x, k) :: r, m, acc, n, h => by
    unfold cellsFrom
    rcases List.mem_cons.mp h with e | h
    . cases e
      exact ⟨m, zbM List.mem_cons_self⟩
    . split <;> exact zet h
theorem zaK {α : Type} : ∀ {l : List (Str × α)} {n : Str} {c : α}, (n, c) ∈ l -> ∃ c', l.lookup n = some c' /\ (n, c') ∈ l
  | (k, v) :: r, n, c, h => by
    rw [List.lookup_cons]
    cases hb : n == k with
    | true => exact ⟨v, rfl, by rw [beq_iff_eq.mp hb]; exact List.mem_cons_self⟩
    | false =>
      rcases List.mem_cons.mp h with e | h
      . cases e; simp at hb
      . obtain ⟨c', e, m⟩ := zaK h
        exact ⟨c', e, List.mem_cons_of_mem _ m⟩
theorem zeL {α : Type} : ∀ {l : List (Str × α)} {n : Str} {a b : α}, (l.map (·.1)).Nodup -> (n, a) ∈ l -> (n, b) ∈ l -> a = b
  | x :: r, n, a, b, nd, h, h' => by
    rw [List.map_cons, List.nodup_cons] at nd
    have no : ∀ c, (n, c) ∈ r -> n ≠ x.1 := fun c hc e => nd.1 (by rw [<- e]; exact List.mem_map_of_mem (f := (·.1)) hc)
    rcases List.mem_cons.mp h with e | h <;> rcases List.mem_cons.mp h' with e' | h'
    . rw [<- e] at e'; cases e'; rfl
    . exact absurd (by rw [<- e]) (no b h')
    . exact absurd (by rw [<- e']) (no a h)
    . exact zeL nd.2 h h'
theorem zfU {α : Type} {l : List (Str × α)} {n : Str} {a : α} (nd : (l.map (·.1)).Nodup) (h : (n, a) ∈ l) : l.lookup n = some a := by
  obtain ⟨c, e, m⟩ := zaK h
  rw [e, zeL nd h m]
theorem zcK : ∀ {names : List (Str × NameKind)} {m : Nat} {acc : List (Str × Addr)}, (∀ p ∈ acc, p.2 < m) -> (∀ n n' c, (n, c) ∈ acc -> (n', c) ∈ acc -> n = n') ->
    ∀ n n' c, (n, c) ∈ cellsFrom m names acc -> (n', c) ∈ cellsFrom m names acc -> n = n'
  | [], _, _, _, h, n, n', c, a, b => h n n' c a b
  | (x, k) :: r, m, acc, lt, h, n, n', c, a, b => by
    unfold cellsFrom at a b
    cases hk : k == NameKind.cell with
    | true =>
      rw [hk] at a b
      simp only [if_true] at a b
      refine zcK (m := m + 1) (acc := (x, m) :: acc) (fun p hp => ?_) (fun n n' c a b => ?_) n n' c a b
      . rcases List.mem_cons.mp hp with rfl | hp
        . exact Nat.lt_succ_self _
        . exact Nat.lt_succ_of_lt (lt p hp)
      . rcases List.mem_cons.mp a with e | a <;> rcases List.mem_cons.mp b with e' | b
        . cases e; cases e'; rfl
        . cases e; exact absurd (lt _ b) (Nat.lt_irrefl _)
        . cases e'; exact absurd (lt _ a) (Nat.lt_irrefl _)
        . exact h n n' c a b
    | false =>
      rw [hk] at a b
      simp only [Bool.false_eq_true, if_false] at a b
      exact zcK lt h n n' c a b

theorem zct : ∀ (names : List (Str × NameKind)) (h : Heap) (acc : List (Str × Addr)) (n : Str) (c : Addr), (n, c) ∈ cellsFrom h.objs.size names acc -> (n, c) ∈ acc \/ (pushCells h names).IsCell c none
  | [], _, _, _, _, h => .inl h
  | (x, k) :: r, h, acc, n, c, hm => by
    unfold cellsFrom at hm
    unfold pushCells
    cases hk : k == NameKind.cell with
    | true =>
      rw [hk] at hm
      simp only [if_true] at hm ⊢
      rw [show h.objs.size + 1 = (h.push { cls := .type "cell", data := .cell none }).objs.size from (Heap.size_push ..).symm] at hm
      rcases zct r _ _ n c hm with h1 | h1
      . rcases List.mem_cons.mp h1 with e | h1
        . cases e
          exact .inr (Heap.IsCell.keeps ⟨_, Heap.get?_push_size _ rfl, rfl⟩ (pushCells_keeps r _))
        . exact .inl h1
      . exact .inr h1
    | false =>
      rw [hk] at hm
      simp only [Bool.false_eq_true, if_false] at hm ⊢
      exact zct r h acc n c hm

def zcE (scope : Scope) (C : Addr) (env : Env) : Env := compEnvC scope (cellsFrom (C + 1) scope.names (za0 env scope.names [])) C env

theorem zlK {M : Model} {A : Around} {E : Value -> Shared -> Prop} {s : Shared} {scope : Scope} {globals : Addr} {cl : List (Str × Addr)} {qual : Str} {env : Env} {Q : Env -> Shared -> Prop}
    (h : Q (newEnv scope s.heap.objs.size globals (cellsFrom (s.heap.objs.size + 1) scope.names cl) qual none .none (some env) builtinsNs) { s with heap := pushCells (s.heap.push { cls := .type "dict", data := .dict #[] }) scope.names }) :
    wpAny M A (newFunctionEnv scope globals cl [] qual none .none (some env)) Q E s := by
  simp only [newFunctionEnv, Option.isSome_some, if_true]
  refine wpAny_bind (wpAny_alloc ?_)
  refine wpAny_bind (wpAny_layCells _ (fun name kind cells => by cases hkc : kind == NameKind.cell <;> simp [hkc]) _ _ _ _ ?_)
  rw [show ({ s with heap := s.heap.push { cls := .type "dict", data := .dict #[] } } : Shared).heap.objs.size = s.heap.objs.size + 1 from Heap.size_push ..]
  rw [List.forIn_nil]
  exact wpAny_bind (wpAny_pure (wpAny_pure h))

def zX (X : Cx) (N : List Str) (scope : Scope) (C : Addr) (s : Shared) (H : Hp) (ex : List Addr) : Cx where
  prog := X.prog
  w := X.w
  K := X.K
  mg := X.mg
  base := X.base
  A := X.A
  N := N
  s₀ := s
  H₀ := H
  env := zcE scope C X.env
  outer := X.stack
  stack := X.stack
  ex := ex
  fn := fun x => scope.names.lookup x == some .cell
  calm := X.calm
  pn := []
  xe := fun _ _ => False

structure zd3 (X : Cx) (scope : Scope) : Prop where
  kind : scope.kind = .function
  nd : (scope.names.map (·.1)).Nodup
  free : ∀ x ∈ scope.names, x.2 = .free -> (X.env.kindOf x.1 = some .cell \/ X.env.kindOf x.1 = some .free)
def freeOk (sc : Scope) (scope : Scope) : Bool := scope.names.all fun x => x.2 != .free || (sc.names.lookup x.1 == some .cell || sc.names.lookup x.1 == some .free)
theorem zd3.of {X : Cx} {scope : Scope} (k : scope.kind = .function) (nd : (scope.names.map (·.1)).Nodup) (f : freeOk X.env.scope scope = true) : zd3 X scope := ⟨k, nd, fun x hx e => by
  have q := List.all_eq_true.mp f x hx
  rw [e] at q
  show X.env.scope.names.lookup x.1 = _ \/ X.env.scope.names.lookup x.1 = _
  simpa using q⟩

theorem zb7 {env : Env} : ∀ {names : List (Str × NameKind)} {x : Str} {k : NameKind},
    (names.map fun (n, k) => if (k == NameKind.free && env.scope.kind == .function && env.kindOf n == some .cell) then (n, NameKind.cell) else (n, k)).lookup x = some k ->
    (∃ k', names.lookup x = some k' /\ (k' = k \/ (k' = .free /\ k = .cell /\ env.kindOf x = some .cell)))
  | [], _, _, h => by simp at h
  | (n, k0) :: r, x, k, h => by
    rw [List.map_cons, List.lookup_cons] at h
    rw [List.lookup_cons]
    have hn : (if (k0 == NameKind.free && env.scope.kind == .function && env.kindOf n == some .cell) = true then (n, NameKind.cell) else (n, k0)).1 = n := by split <;> rfl
    dsimp only at h
    rw [hn] at h
    cases hx : x == n with
    | false =>
      rw [hx] at h
      exact zb7 h
    | true =>
      rw [hx] at h
      simp only [Option.some.injEq] at h
      refine ⟨k0, rfl, ?_⟩
      have ex : x = n := beq_iff_eq.mp hx
      subst ex
      by_cases hc : (k0 == NameKind.free && env.scope.kind == .function && env.kindOf x == some .cell) = true
      . rw [if_pos hc] at h
        simp only [Bool.and_eq_true, beq_iff_eq] at hc
        exact .inr ⟨hc.1.1, h.symm, hc.2⟩
      . rw [if_neg hc] at h
        exact .inl h

def zbu (σ : St) (fr : List Nat) : St := fr.map fun j => (σ[j]?).join

theorem zpn {X : Cx} {pins : List (Addr × Obj)} {σ : St} {H : Hp} {s s3 : Shared} {scope : Scope} {own free : List Str} {fr : List Nat} {ex : List Addr} (S : zd3 X scope)
    (I : Inv X pins σ H s) (hex : ∀ b ∈ ex, zhE X pins H b) (hob : ∀ b ∈ ex, ∃ o, s.heap.get? b = some o) (hfr : fr.map (fun j => X.N[j]?) = free.map some) (hff : ∀ x ∈ free, scope.names.lookup x = some .free)
    (hs3 : ∀ b o, s.heap.get? b = some o -> s3.heap.get? b = some o) (hsz : s.heap.objs.size <= s3.heap.objs.size) (ho : s3.os = s.os) (hg : s3.gens = s.gens) :
    Inv (zX X (own ++ free) scope s3.heap.objs.size s H ex) [] (own.map (fun _ => none) ++ zbu σ fr) H { s3 with heap := pushCells (s3.heap.push { cls := .type "dict", data := .dict #[] }) scope.names } := by
  have hsome : ∀ x ∈ scope.names, x.2 = .free -> ∃ c, X.env.cells.lookup x.1 = some c := fun x hx e => I.ok.has x.1 (S.free x hx e)
  have keep : ∀ b o, s3.heap.get? b = some o -> (pushCells (s3.heap.push { cls := .type "dict", data := .dict #[] }) scope.names).get? b = some o := fun b o e => pushCells_keeps _ _ b o (Heap.get?_push_of_some _ e)
  have hkeep : ∀ b o, s.heap.get? b = some o -> (pushCells (s3.heap.push { cls := .type "dict", data := .dict #[] }) scope.names).get? b = some o := fun b o e => keep b o (hs3 b o e)
  -- the cells
  have cells : ∀ n c, (n, c) ∈ (zcE scope s3.heap.objs.size X.env).cells -> ((n, NameKind.free) ∈ scope.names /\ X.env.cells.lookup n = some c) \/ ((n, NameKind.cell) ∈ scope.names /\ s3.heap.objs.size + 1 <= c /\ (pushCells (s3.heap.push { cls := .type "dict", data := .dict #[] }) scope.names).IsCell c none) := fun n c h => by
    have h' : (n, c) ∈ cellsFrom (s3.heap.objs.size + 1) scope.names (za0 X.env scope.names []) := h
    have hc := zdk h'
    have e := zct scope.names (s3.heap.push { cls := .type "dict", data := .dict #[] }) (za0 X.env scope.names []) n c (by rw [Heap.size_push]; exact h')
    have fromClos : (n, c) ∈ za0 X.env scope.names [] -> (n, NameKind.free) ∈ scope.names /\ X.env.cells.lookup n = some c := fun hm => by
      rcases zco hm with h | ⟨hn, rfl⟩
      . exact absurd h (by simp)
      . obtain ⟨c', ec⟩ := hsome _ hn rfl
        rw [ec]; exact ⟨hn, rfl⟩
    rcases hc with hc | hc
    . exact .inl (fromClos hc)
    . rcases e with e | e
      . exact .inl (fromClos e)
      . exact .inr ⟨hc.1, hc.2, e⟩
  have cell_lt : ∀ n c, X.env.cells.lookup n = some c -> c < s.heap.objs.size := fun n c e => by
    obtain ⟨v, o, ho, _⟩ := I.cell n c e
    exact Heap.lt_size ho
  have apart : ∀ n n' c, (n, c) ∈ (zcE scope s3.heap.objs.size X.env).cells -> (n', c) ∈ (zcE scope s3.heap.objs.size X.env).cells -> n = n' := fun n n' c a b => by
    refine zcK (acc := za0 X.env scope.names []) (m := s3.heap.objs.size + 1) (fun p hp => ?_) (fun n n' c a b => ?_) n n' c a b
    . obtain ⟨n, c⟩ := p
      rcases zco hp with h | ⟨hn, e⟩
      . exact absurd h (by simp)
      . obtain ⟨c', ec⟩ := hsome _ hn rfl
        rw [ec] at e
        cases e
        exact Nat.lt_succ_of_lt (Nat.lt_of_lt_of_le (cell_lt n _ ec) hsz)
    . rcases zco a with h | ⟨hn, e⟩
      . exact absurd h (by simp)
      . rcases zco b with h | ⟨hn', e'⟩
        . exact absurd h (by simp)
        . obtain ⟨c1, e1⟩ := hsome _ hn rfl
          obtain ⟨c2, e2⟩ := hsome _ hn' rfl
          have e1' : X.env.cells.lookup n = some c1 := e1
          have e2' : X.env.cells.lookup n' = some c2 := e2
          rw [e1'] at e
          rw [e2'] at e'
          exact I.ok.inj n n' c (by rw [e1', e]; rfl) (by rw [e2', e']; rfl)
  have vis : ∀ x, ((zcE scope s3.heap.objs.size X.env).kindOf x = some .cell \/ (zcE scope s3.heap.objs.size X.env).kindOf x = some .free) -> (x, NameKind.cell) ∈ scope.names \/ (x, NameKind.free) ∈ scope.names := fun x h => by
    rcases h with h | h
    . obtain ⟨k', e, q⟩ := zb7 h
      rcases q with q | q
      . exact .inl (by rw [<- q]; exact PySem.mem_of_lookup e)
      . exact .inr (by rw [<- q.1]; exact PySem.mem_of_lookup e)
    . obtain ⟨k', e, q⟩ := zb7 h
      rcases q with q | q
      . exact .inr (by rw [<- q]; exact PySem.mem_of_lookup e)
      . exact .inr (by rw [<- q.1]; exact PySem.mem_of_lookup e)
  have fsub : ∀ b ∈ frs X.stack, b = X.env.locals \/ b ∈ X.fs := fun b hb => by
    have := I.stkSub b hb
    simpa using this
  have fresh : ∀ b, s.heap.objs.size <= b -> s.heap.get? b = none := fun b hb => by
    cases e : s.heap.get? b with
    | none => rfl
    | some o => exact absurd (Heap.lt_size e) (Nat.not_lt.mpr hb)
  have exlt : ∀ b ∈ ex, b < s.heap.objs.size := fun b hb => by obtain ⟨o, e⟩ := hob b hb; exact Heap.lt_size e
  refine ⟨⟨I.ok.mod, S.kind, I.ok.glob, I.ok.blt, hsz, fun x y c a b => apart x y c (PySem.mem_of_lookup a) (PySem.mem_of_lookup b), fun x hx => ?_, fun x c hx hc => ?_, I.ok.hd, I.ok.frames, .inl rfl, fun b hb => ?_, I.bs, ?_, fun b o e hb => ?_, fun b hb hf => ?_, I.stack, I.stkFree⟩,
    ho, ?_, Un.kept hkeep, ?_, fun x c hc => ?_, I.hok.fresh hsz, fun x c hc => ?_, fun p hp => absurd hp (by simp [zX]), I.hok.kept hkeep, ?_⟩
  . rcases vis x hx with h | h
    . obtain ⟨c, hc⟩ := zet (m := s3.heap.objs.size + 1) (acc := za0 X.env scope.names []) h
      obtain ⟨c', e, _⟩ := zaK hc
      exact ⟨c', e⟩
    . obtain ⟨c', e, _⟩ := zaK (zbM (names := scope.names) (m := s3.heap.objs.size + 1) (zeA (env := X.env) (acc := []) h))
      exact ⟨c', e⟩
  . have hx' : scope.names.lookup x = some .cell := by simpa [zX] using hx
    rcases cells x c (PySem.mem_of_lookup hc) with h | h
    . have := zeL S.nd h.1 (PySem.mem_of_lookup hx')
      cases this
    . show s.heap.objs.size <= c
      omega
  . refine ⟨Nat.ne_of_lt (Nat.lt_of_lt_of_le (exlt b hb) hsz), fun x c hc => ?_⟩
    rcases cells x c (PySem.mem_of_lookup hc) with h | h
    . exact (hex b hb).2.2.2.2.1 x c h.2
    . have := exlt b hb
      intro e
      have e' : Nat.lt c s.heap.objs.size := by rw [e]; exact this
      exact absurd (Nat.lt_of_lt_of_le e' hsz) (Nat.not_lt.mpr (Nat.le_of_succ_le h.2.1))
  . exact Nat.le_trans I.ok.bsz I.sz
  . have hb' : b ∈ ex := hb
    rcases (hex b hb').2.2.2.1 with h | h
    . exact I.ok.noex b o e h
    . exact absurd (Heap.lt_size (I.ok.bs b o e).1) (Nat.not_lt.mpr h)
  . have hb' : b ∈ ex := hb
    rcases fsub b hf with h | h
    . exact (hex b hb').2.1 h
    . exact (hex b hb').2.2.1 h
  . show AllBare s3.gens
    rw [hg]; exact I.bare
  . -- the names
    refine ⟨_, (Heap.Ns.new s3.heap (.type "dict")).keeps (pushCells_keeps _ _), fun i x v hi hv vx => ?_⟩
    have hN : (own ++ free)[i]? = some x := hi
    have hio : own.length <= i := by
      rcases Nat.lt_or_ge i own.length with h | h
      . rw [List.getElem?_append_left (by simpa using h), List.getElem?_map, List.getElem?_eq_getElem h] at hv
        cases hv
      . exact h
    rw [List.getElem?_append_right hio] at hN
    rw [List.getElem?_append_right (by simpa using hio)] at hv
    simp only [List.length_map] at hv
    unfold zbu at hv
    rw [List.getElem?_map] at hv
    have hx2 := hff x (List.mem_of_getElem? hN)
    have hmem : (x, NameKind.free) ∈ scope.names := PySem.mem_of_lookup hx2
    cases ej : fr[i - own.length]? with
    | none => rw [ej] at hv; cases hv
    | some j =>
      rw [ej] at hv
      simp only [Option.map_some, Option.some.injEq] at hv
      have hj : X.N[j]? = some x := by
        have q := congrArg (fun l => l[i - own.length]?) hfr
        simp only [List.getElem?_map, ej, hN, Option.map_some, Option.some.injEq] at q
        exact q
      have hσ : σ[j]? = some (some v) := by
        cases e : σ[j]? with
        | none => rw [e] at hv; cases hv
        | some w => rw [e] at hv; simp at hv; rw [hv]
      obtain ⟨m, hm, hl⟩ := I.loc
      have kx := S.free _ hmem rfl
      obtain ⟨u, ru, lk⟩ := hl j x v hj hσ (by rcases kx with k | k; exact .inr (.inl k); exact .inr (.inr k))
      refine ⟨u, ru, ?_⟩
      rcases lk with ⟨k, _⟩ | ⟨_, c, hc, hcell⟩
      . rcases kx with q | q <;> (have q' : X.env.kindOf x = _ := q; rw [k] at q'; cases q')
      . obtain ⟨c', e', m'⟩ := zaK (zbM (names := scope.names) (m := s3.heap.objs.size + 1) (zeA (env := X.env) (acc := []) hmem))
        have hcc : c' = c := by
          rcases cells x c' m' with h | h
          . rw [h.2] at hc; cases hc; rfl
          . have := zeL S.nd h.1 hmem; cases this
        subst hcc
        refine .inr ⟨?_, c', e', hcell.keeps hkeep⟩
        rcases vx with q | q | q
        . obtain ⟨k', ek, qq⟩ := zb7 (env := X.env) (names := scope.names) q
          rw [hx2] at ek
          cases ek
          rcases qq with qq | qq
          . cases qq
          . cases qq.2.1
        . exact .inl q
        . exact .inr q
  . rcases cells x c (PySem.mem_of_lookup hc) with h | h
    . obtain ⟨v, hv⟩ := I.cell x c h.2
      exact ⟨v, hv.keeps hkeep⟩
    . exact ⟨_, h.2.2⟩
  . rcases cells x c (PySem.mem_of_lookup hc) with h | h
    . exact I.freeC x c h.2
    . exact I.hok.fresh (by omega)
  . show _ = (own ++ free).length
    have q := congrArg List.length hfr
    simp only [List.length_map] at q
    simp [zbu, q]
end L2

namespace L2
open PySem PySem.Spec PyProof.Rows

def PTs (X : Cx) (ifs : List Expr) (t : TT) : Prop :=
  ∀ (pins : List (Addr × Obj)) (s : Shared) (σ : St) (H : Hp) (Q : Bool -> Hp -> Prop), Inv X pins σ H s -> t σ H Q ->
    wpAny (model X.prog X.w) X.A (forIn ifs true fun c r => if r = true then do let ok <- isTrue c X.env (eval c X.env); pure (ForInStep.yield ok) else pure (ForInStep.yield r)) (TP X pins σ Q) X.xe s
def zsJ : TT := fun _ H Q => Q true H
theorem zrx {X : Cx} : PTs X [] zsJ := fun pins s σ H Q I h => wpAny_tests_nil ⟨H, I, h⟩
theorem zrJ {X : Cx} {c : Expr} {t : TT} (h : PT X c t) : PTs X [c] t := fun pins s σ H Q I q => wpAny_tests_one (h pins s σ H Q I q)

theorem zjj {prog : Program} {w : World} {A : Around} {R : Result -> Shared -> Prop} {s : Shared} {elt target iter : Expr} {ifs : List Expr} {scope : Scope} {pos : Pos} {it acc : Value} {env : Env} (I : Nat -> Shared -> Prop)
    (turn : ∀ n s, I n s -> wpAny (model prog w) A (pyNext it) (fun r s₁ => match r with
      | none => R (.ok .next) s₁
      | some v => wpAny (model prog w) A (letOwnedTupleGo target it v) (fun _ s₁' => wpAny (model prog w) A (assign target env v) (fun _ s₂ =>
          wpAny (model prog w) A (forIn ifs true fun c r => if r = true then do let ok <- isTrue c env (eval c env); pure (ForInStep.yield ok) else pure (ForInStep.yield r)) (fun ok s₃ =>
            if ok = true then wpAny (model prog w) A (eval elt env) (fun x s₄ =>
              wpAny (model prog w) A (call (.builtin "list.append") [acc, x]) (fun _ s₅ => ∃ m, m < n /\ I m s₅) (notedBy (model prog w) A env fun e s' => R (.error e) s') s₄) (notedBy (model prog w) A env fun e s' => R (.error e) s') s₃
            else ∃ m, m < n /\ I m s₃) (notedBy (model prog w) A env fun e s' => R (.error e) s') s₂) (notedBy (model prog w) A env fun e s' => R (.error e) s') s₁') (notedBy (model prog w) A env fun e s' => R (.error e) s') s₁) (notedBy (model prog w) A env fun e s' => R (.error e) s') s)
    (n : Nat) (h : I n s) :
    codeAny (model prog w) A (.compLoop (.ListComp elt [⟨target, iter, ifs, 0⟩] scope pos) 0 it acc env) R s := by
  refine codeAny_loop rfl I (fun n s hI => ?_) n h
  show wpAny _ A ((compTurn (.ListComp elt [⟨target, iter, ifs, 0⟩] scope pos) 0 it acc env).onRaise (fun x => do noteFrame x env; theTreesLotGoes x)) _ _ s
  refine wpAny_noted ?_
  rw [compTurn_list]
  refine wpAny_bind (wpAny_standAt (wpAny_bind (wpAny_mono (turn n s hI) (fun r s₁ h₁ => ?_) fun _ _ h' => h')))
  cases r with
  | none => exact wpAny_pure h₁
  | some v =>
    refine wpAny_bind (wpAny_mono h₁ (fun _ s₁' h₁' => ?_) fun _ _ h' => h')
    refine wpAny_bind (wpAny_mono h₁' (fun _ s₂ h₂ => wpAny_bind (wpAny_mono h₂ (fun ok s₃ h₃ => ?_) fun _ _ h' => h')) fun _ _ h' => h')
    cases ok with
    | false => exact wpAny_pure ⟨rfl, h₃⟩
    | true =>
      exact wpAny_bind (wpAny_bind (wpAny_mono h₃ (fun x s₄ h₄ => wpAny_bind (wpAny_mono h₄ (fun _ s₅ h₅ => wpAny_pure (wpAny_pure ⟨rfl, h₅⟩)) fun _ _ h' => h')) fun _ _ h' => h'))

def Sub (σ σ2 : St) : Prop := σ.length = σ2.length /\ ∀ (i : Nat) v, σ[i]? = some (some v) -> σ2[i]? = some (some v)
abbrev lobj (its : List Value) (n : Nat) : Obj := { cls := .type "list", data := .seq its.toArray n }

section
variable {X : Cx} {tg iter elt : Expr} {ifs : List Expr} {scope : Scope} {pos : Pos} {own free : List Str} {fr : List Nat}

def zfA (J : It) (g : TG) (tc : TT) (te : TE) (σb : St) (Fin : List V -> Hp -> Prop) (W : Nat -> Nat -> List V -> Hp -> Prop) : Prop :=
  ∀ i m ys H, W i m ys H -> (J.stop i H /\ Fin ys H) \/ (J.go i H /\ ys.length < sizeLine /\ ∃ N : List V -> Hp -> Prop, (∀ ys' H', N ys' H' -> ∃ m', m' < m /\ W (i + 1) m' ys' H') /\ ∀ x H', J.yld i H x H' -> g x σb H' fun σ2 H3 => Sub σb σ2 /\ tc σ2 H3 fun b H4 =>
    if b = true then te σ2 H4 fun v H5 => N (ys ++ [v]) H5 else N ys H4)

theorem zkl {pins : List (Addr × Obj)} {σ : St} {H2 : Hp} {s2 : Shared} {J : It} {fp : List Addr} {it : Addr} {tn : Nat -> Heap -> Prop} {g : TG} {tc : TT} {te : TE} {Fin : List V -> Hp -> Prop} {W : Nat -> Nat -> List V -> Hp -> Prop} {m0 : Nat}
    {RR : Value -> Addr -> Result -> Shared -> Prop} {E : Value -> Shared -> Prop}
    (S : zd3 X scope) (hc : X.calm = true) (hfr : fr.map (fun j => X.N[j]?) = free.map some) (hff : ∀ x ∈ free, scope.names.lookup x = some .free)
    (hg : ∀ C s H ex, PG (zX X (own ++ free) scope C s H ex) tg g) (ht : ∀ C s H ex, PTs (zX X (own ++ free) scope C s H ex) ifs tc) (he : ∀ C s H ex, PE (zX X (own ++ free) scope C s H ex) elt te)
    (I2 : Inv X pins σ H2 s2) (T : Turn X.prog X.w X.K tg J fp it tn) (st2 : tn 0 s2.heap) (f2 : ∀ b ∈ fp, zhE X pins H2 b)
    (w0 : W 0 m0 [] H2) (turn : zfA J g tc te (own.map (fun _ => none) ++ zbu σ fr) Fin W)
    (hRR : ∀ D C its n ys H' s', Inv (zX X (own ++ free) scope C s2 H2 fp) [(D, lobj its n)] (own.map (fun _ => none) ++ zbu σ fr) H' s' -> Vals ys its -> ys.length <= sizeLine -> Fin ys H' -> s2.heap.objs.size <= D -> RR (.ref D) C (.ok .next) s') :
    wpAny (model X.prog X.w) X.A (newList []) (fun acc s₃ => wpAny (model X.prog X.w) X.A (newFunctionEnv scope X.env.globals (za0 X.env scope.names []) [] X.env.qual none .none (some X.env)) (fun cenv s₄ =>
      codeAny (model X.prog X.w) X.A (.compStart (.ListComp elt [⟨tg, iter, ifs, 0⟩] scope pos) 0 (.ref it) acc { cenv with scope := relabel scope X.env }) (RR acc cenv.locals) s₄) E s₃) E s2 := by
  refine wpAny_newObj_type (zlK ?_)
  have hob : ∀ b ∈ fp, ∃ o, s2.heap.get? b = some o := fun b hb => by obtain ⟨o, e, _⟩ := T.obj _ _ st2 b hb; exact ⟨o, e⟩
  have fplt : ∀ b ∈ fp, b < s2.heap.objs.size := fun b hb => by obtain ⟨o, e⟩ := hob b hb; exact Heap.lt_size e
  generalize hs3 : ({ s2 with heap := s2.heap.push { cls := .type "list", dict := none, data := .seq ([] : List Value).toArray } } : Shared) = s3
  have hh3 : s3.heap = s2.heap.push (lobj [] 0) := by rw [<- hs3]
  have hC : s3.heap.objs.size = s2.heap.objs.size + 1 := by rw [hh3, Heap.size_push]
  have keep3 : ∀ b o, s2.heap.get? b = some o -> s3.heap.get? b = some o := fun b o e => by rw [hh3]; exact Heap.get?_push_of_some _ e
  have I3 := zpn (own := own) (ex := fp) (s3 := s3) S I2 f2 hob hfr hff keep3 (by rw [hC]; exact Nat.le_succ _) (by rw [<- hs3]) (by rw [<- hs3])
  generalize hs4 : ({ s3 with heap := pushCells (s3.heap.push { cls := .type "dict", data := .dict #[] }) scope.names } : Shared) = s4 at I3
  have keep4 : ∀ b o, s3.heap.get? b = some o -> s4.heap.get? b = some o := fun b o e => by rw [<- hs4]; exact pushCells_keeps _ _ b o (Heap.get?_push_of_some _ e)
  have hD4 : s4.heap.get? s2.heap.objs.size = some (lobj [] 0) := keep4 _ _ (by rw [hh3]; exact Heap.get?_push_size _ rfl)
  have nf : s2.heap.objs.size ∉ frs X.stack := fun hb => by
    obtain ⟨_, o, e, _⟩ := I2.stack.mem hb
    exact absurd (Heap.lt_size e) (Nat.lt_irrefl _)
  have hDC : s2.heap.objs.size ≠ s3.heap.objs.size := by rw [hC]; exact Nat.ne_of_lt (Nat.lt_succ_self _)
  -- the cells of the block are no list
  have cellD : ∀ {P : List (Addr × Obj)} {σ' H' s'} {its : List Value} {n : Nat}, Inv (zX X (own ++ free) scope s3.heap.objs.size s2 H2 fp) P σ' H' s' -> s'.heap.get? s2.heap.objs.size = some (lobj its n) -> ∀ x c, (zcE scope s3.heap.objs.size X.env).cells.lookup x = some c -> c ≠ s2.heap.objs.size := fun I e x c hc z => by
    obtain ⟨v, o, eo, ed⟩ := I.cell x c hc
    rw [z, e] at eo
    cases eo
    cases ed
  have pinD : ∀ {σ' H' s'} {its : List Value} {n : Nat}, Inv (zX X (own ++ free) scope s3.heap.objs.size s2 H2 fp) [] σ' H' s' -> s'.heap.get? s2.heap.objs.size = some (lobj its n) -> H' s2.heap.objs.size = none ->
      Inv (zX X (own ++ free) scope s3.heap.objs.size s2 H2 fp) [(s2.heap.objs.size, lobj its n)] σ' H' s' := fun {σ' H' s' its n} I e hn => I.pins_of fun p hp => by
    have hp' : p = (s2.heap.objs.size, lobj its n) := List.mem_singleton.mp hp
    subst hp'
    exact ⟨e, hn, hDC, nf, fun v => by intro z; cases z⟩
  have I4 := pinD I3 hD4 (I2.hok.fresh (Nat.le_refl _))
  have fpOk : ∀ {σ' H' s'} {its : List Value} {n : Nat}, Inv (zX X (own ++ free) scope s3.heap.objs.size s2 H2 fp) [(s2.heap.objs.size, lobj its n)] σ' H' s' -> (∀ b ∈ fp, H' b = none) -> ∀ b ∈ fp, zhE (zX X (own ++ free) scope s3.heap.objs.size s2 H2 fp) [(s2.heap.objs.size, lobj its n)] H' b := fun {σ' H' s' its n} I hn b hb => by
    refine ⟨hn b hb, (I.ok.exf b hb).1, I.ok.exfs b hb, .inl hb, (I.ok.exf b hb).2, fun p hp => ?_⟩
    have hp' : p = (s2.heap.objs.size, lobj its n) := List.mem_singleton.mp hp
    subst hp'
    exact Ne.symm (Nat.ne_of_lt (fplt b hb))
  have stn4 : tn 0 s4.heap := T.keep _ _ _ st2 fun b hb o e => keep4 b o (keep3 b o e)
  have loop : ∀ s', s' = s4 -> codeAny (model X.prog X.w) X.A (.compLoop (.ListComp elt [⟨tg, iter, ifs, 0⟩] scope pos) 0 (.ref it) (.ref s2.heap.objs.size) (zcE scope s3.heap.objs.size X.env)) (RR (.ref s2.heap.objs.size) s3.heap.objs.size) s' := by
    rintro s' rfl
    refine zjj (fun k s' => ∃ i ys its n H', Inv (zX X (own ++ free) scope s3.heap.objs.size s2 H2 fp) [(s2.heap.objs.size, lobj its n)] (own.map (fun _ => none) ++ zbu σ fr) H' s' /\ tn i s'.heap /\ (∀ b ∈ fp, H' b = none) /\ Vals ys its /\ ys.length <= sizeLine /\ W i k ys H') ?_ m0
      ⟨0, [], [], 0, H2, I4, stn4, fun b hb => (f2 b hb).1, .nil, Nat.zero_le _, w0⟩
    rintro k s5 ⟨i, ys, its, n, H5, I5, st5, fr5, r5, len5, w5⟩
    rcases turn i k ys H5 w5 with ⟨stop, fin⟩ | ⟨go, hlt, N, hN, step⟩
    . refine wpAny_mono (T.done (zX X (own ++ free) scope s3.heap.objs.size s2 H2 fp) rfl rfl rfl hc i _ s5 _ H5 (fun _ _ => False) I5 (fpOk I5 fr5) st5 stop) (fun r s6 ⟨hr, I6⟩ => ?_) fun _ _ f => f.elim
      subst hr
      exact hRR _ _ its n ys H5 s6 I6 r5 len5 fin (Nat.le_refl _)
    . refine wpAny_mono (T.item (zX X (own ++ free) scope s3.heap.objs.size s2 H2 fp) rfl rfl rfl hc i _ s5 _ H5 (fun _ _ => False) I5 (fpOk I5 fr5) st5 go) (fun r s6 ⟨u, hr, h6⟩ => ?_) fun _ _ f => f.elim
      subst hr
      refine wpAny_mono h6 (fun _ s7 ⟨x, H7, I7, r7, y7, st7, fr7⟩ => ?_) fun _ _ f => f.elim
      have I7' := I7.pinned (fpOk I7 fr7) (T.obj _ _ st7)
      refine wpAny_mono (hg _ _ _ _ _ s7 _ H7 x u _ I7' r7 (step x H7 y7)) (fun _ s8 ⟨σ8, H8, I8, sub8, q8⟩ => ?_) fun _ _ f => f.elim
      refine wpAny_mono (ht _ _ _ _ _ s8 σ8 H8 _ I8 q8) (fun b s9 ⟨H9, I9, q9⟩ => ?_) fun _ _ f => f.elim
      have back : ∀ {H' s'}, Inv (zX X (own ++ free) scope s3.heap.objs.size s2 H2 fp) ([(s2.heap.objs.size, lobj its n)] ++ zdy fp s7.heap) σ8 H' s' -> tn (i + 1) s'.heap /\ (∀ b ∈ fp, H' b = none) := fun {H' s'} I => by
        refine ⟨T.keep _ _ _ st7 fun b hb o e => (I.pin (b, o) (List.mem_append_right _ (List.mem_append_right _ (zdw hb e)))).1, fun b hb => ?_⟩
        obtain ⟨o, e, d⟩ := T.obj _ _ st7 b hb
        exact (I.pin (b, o) (List.mem_append_right _ (List.mem_append_right _ (zdw hb e)))).2.1
      cases b with
      | false =>
        obtain ⟨m', hm, w9⟩ := hN _ _ q9
        obtain ⟨st9, fr9⟩ := back I9
        exact ⟨m', hm, i + 1, ys, its, n, H9, I9.unpinned.weak sub8.1 sub8.2, st9, fr9, r5, len5, w9⟩
      | true =>
        refine wpAny_mono (he _ _ _ _ _ s9 σ8 H9 _ I9 q9) (fun v s10 ⟨y, H10, I10, r10, q10⟩ => ?_) fun _ _ f => f.elim
        obtain ⟨m', hm, w10⟩ := hN _ _ q10
        obtain ⟨st10, fr10⟩ := back I10
        have pD := I10.pin (s2.heap.objs.size, lobj its n) (List.mem_append_right _ (List.mem_append_left _ List.mem_cons_self))
        refine append_at (hsz := by rw [List.size_toArray, <- r5.length]; exact len5) pD.1 fun h' hsb hnew => ?_
        have J0 : Inv (zX X (own ++ free) scope s3.heap.objs.size s2 H2 fp) (zdy fp s7.heap) σ8 H10 s10 := I10.pins_of fun p hp => I10.pin p (by
          have hp' : p ∈ zdy fp s7.heap := by simpa [zX] using hp
          exact List.mem_append_right _ (List.mem_append_right _ hp'))
        have J1 : Inv (zX X (own ++ free) scope s3.heap.objs.size s2 H2 fp) (zdy fp s7.heap) σ8 H10 { s10 with heap := h' } := J0.turned (it := s2.heap.objs.size) (t' := s10.toks) (fun b o hb e => hsb.extBut b o hb e) pD.2.1 hDC (.inr (Nat.le_refl _)) (cellD J0 pD.1) (fun p hp => by
          have hp' : p ∈ zdy fp s7.heap := by simpa [zX] using hp
          exact Nat.ne_of_lt (fplt _ (zib hp').1))
        have J2 : Inv (zX X (own ++ free) scope s3.heap.objs.size s2 H2 fp) [] σ8 H10 { s10 with heap := h' } := J1.pins_of fun p hp => absurd hp (by simp [zX])
        have st11 : tn (i + 1) h' := T.keep _ _ _ st10 fun b hb o e => hsb.extBut b o (Nat.ne_of_lt (fplt b hb)) e
        have e11 : h'.get? s2.heap.objs.size = some (lobj (its ++ [v]) (n + 1)) := by rw [hnew, List.push_toArray]
        refine ⟨m', hm, i + 1, ys ++ [y], its ++ [v], n + 1, H10, (pinD J2 e11 pD.2.1).weak sub8.1 sub8.2, st11, fr10, r5.append (.cons r10 .nil), ?_, w10⟩
        rw [List.length_append, List.length_singleton]
        exact hlt
  refine codeAny_compStart_list (loop _ rfl) (T.self X.A 0 _ _ _ stn4 (loop _ rfl))

theorem zkx {pins : List (Addr × Obj)} {σ σ' : St} {H2 H' : Hp} {s2 s' : Shared} {fp : List Addr} {C D : Addr} {its : List Value} {n : Nat} {ys : List V} {N : List Str} {h'' : Heap}
    (I2 : Inv X pins σ H2 s2) (f2 : ∀ b ∈ fp, zhE X pins H2 b) (I : Inv (zX X N scope C s2 H2 fp) [(D, lobj its n)] σ' H' s') (r : Vals ys its) (hz : ys.length <= sizeLine) (hD : s2.heap.objs.size <= D) (hs : Heap.SameBut C s'.heap h'') :
    Inv X pins σ (upd H' D (.lst ys)) { s' with heap := h'' } /\ H' D = none := by
  have pD := I.pin (D, lobj its n) (List.mem_append_right _ List.mem_cons_self)
  have hCs : s2.heap.objs.size <= C := I.ok.above
  have hDC : D ≠ C := pD.2.2.1
  have u : Un (frs X.stack) fp H2 H' s2.heap s'.heap := I.base
  have lt2 : ∀ b o, s2.heap.get? b = some o -> b ≠ C /\ b ≠ D := fun b o e => by
    have := Heap.lt_size e
    exact ⟨Nat.ne_of_lt (Nat.lt_of_lt_of_le this hCs), Nat.ne_of_lt (Nat.lt_of_lt_of_le this hD)⟩
  have tD : ∀ b o, H2 b = some o -> b ≠ D := fun b o e z => by
    have := I2.hok.lt e
    rw [z] at this
    exact absurd this (Nat.not_lt.mpr hD)
  have hC' : ∀ b o, H' b = some o -> b ≠ C := fun b o e z => by
    have := I.free
    rw [show (zX X N scope C s2 H2 fp).env.locals = C from rfl, <- z, e] at this
    cases this
  have hok1 : HOk X.prog X.w H' h'' := fun a o e => (I.hok a o e).stay (fun b ob hb eb => by
      rcases hb with hb | hb
      . rw [hb]; rw [hb] at eb; exact hs.extBut _ _ (hC' a o e) eb
      . exact hs.extBut _ _ (hC' b _ hb) eb) (fun _ h => h) (fun _ _ h => h)
  have oD : h''.get? D = some (lobj its n) := hs.extBut _ _ hDC pD.1
  have hok : HOk X.prog X.w (upd H' D (.lst ys)) h'' := fun a o e => by
    by_cases ha : a = D
    . subst ha
      rw [zF] at e
      cases e
      exact ⟨hz, its, n, r, oD⟩
    . rw [zJ ha] at e
      refine (hok1 a o e).stay (fun b ob _ eb => eb) (fun b h => ?_) (fun b xs h => ?_)
      . rw [zJ (fun z => by rw [z, pD.2.1] at h; cases h)]; exact h
      . rw [zJ (fun z => by rw [z, pD.2.1] at h; cases h)]; exact h
  have u2 : Un (frs X.stack) fp H2 (upd H' D (.lst ys)) s2.heap h'' :=
    { keep := fun b o e hn hf hx => hs.extBut b o (lt2 b o e).1 (u.keep b o e hn hf hx)
      slot := fun b o e hn hf hx => by
        obtain ⟨sl, q⟩ := u.slot b o e hn hf hx
        exact ⟨sl, hs.extBut b _ (lt2 b o e).1 q⟩
      free := fun b o e hn hx => by rw [zJ (lt2 b o e).2]; exact u.free b o e hn hx
      there := fun b o e hx => by
        obtain ⟨o', q⟩ := u.there b o e hx
        exact ⟨o', hs.extBut b _ (lt2 b o e).1 q⟩
      tups := fun b xs e => by rw [zJ (tD b _ e)]; exact u.tups b xs e
      frzs := fun b o v e => by rw [zJ (tD b _ e)]; exact u.frzs b o v e
      tbls := fun b ps e => by rw [zJ (tD b _ e)]; exact u.tbls b ps e }
  refine ⟨I2.call' (s' := { s' with heap := h'' }) (ch := fp) I.os u2 hok I.bare fun b hb => ?_, pD.2.1⟩
  have q := f2 b hb
  exact ⟨q.2.2.2.1, q.2.1, q.2.2.2.2.1, q.2.2.2.2.2⟩

def zkf (own : List Str) (fr : List Nat) (wi : TI) (g : TG) (tc : TT) (te : TE) : TE := fun σ H Q => wi σ H fun J H1 => ∃ W : Nat -> Nat -> List V -> Hp -> Prop, (∃ m, W 0 m [] H1) /\
  zfA J g tc te (own.map (fun _ => none) ++ zbu σ fr) (fun ys H' => ∀ p, H' p = none -> Q (.ref p) (upd H' p (.lst ys))) W

theorem zqn {wi : TI} {g : TG} {tc : TT} {te : TE} (own free : List Str) (fr : List Nat) (S : zd3 X scope) (hc : X.calm = true) (hfr : fr.map (fun j => X.N[j]?) = free.map some) (hff : ∀ x ∈ free, scope.names.lookup x = some .free)
    (hi : PI X tg iter wi)
    (hg : ∀ C s H ex, PG (zX X (own ++ free) scope C s H ex) tg g) (ht : ∀ C s H ex, PTs (zX X (own ++ free) scope C s H ex) ifs tc) (he : ∀ C s H ex, PE (zX X (own ++ free) scope C s H ex) elt te)
    (hs : ∀ x, foldedSetIterable iter X.env x = pure x := by intro _; rfl) :
    PE X (.ListComp elt [⟨tg, iter, ifs, 0⟩] scope pos) (zkf own fr wi g tc te) := by
  intro pins s σ H Q I h
  have hcl : closureFor scope X.env = pure (za0 X.env scope.names []) := zep fun x hx e => by
    obtain ⟨c, hc⟩ := I.ok.has x.1 (S.free x hx e)
    rw [hc]; rfl
  rw [eval_ListComp]
  refine wpAny_comprehension_free (use := none) rfl hs hcl S.kind (fun x hx e => by have := zfU S.nd (show (x.1, x.2) ∈ scope.names from hx); rw [this, e]) (thn (hi pins s σ H _ I h) fun v s1 h1 => thn h1 fun itv s2 h2 => ?_)
  obtain ⟨it, fp, tn, J, H2, e, I2, T, st2, f2, W, ⟨m0, w0⟩, turn⟩ := h2
  subst e
  refine zkl (RR := fun acc C => compPost (model X.prog X.w) X.A X.xe none (EP X pins σ Q) acc C) S hc hfr hff hg ht he I2 T st2 f2 w0 turn ?_
  intro D C its n ys H' s' I' r hz fin hD
  obtain ⟨m, hm, _⟩ := I'.loc
  refine ⟨m, hm, fun h'' hsb => ?_⟩
  obtain ⟨J', hn⟩ := zkx I2 f2 I' r hz hD hsb
  exact ⟨.ref D, _, J', rfl, fin D hn⟩

theorem zrq {wi : TI} {g : TG} {tc : TT} {te : TE} {i : Nat} {x : Str} {pos' spos : Pos} (own free : List Str) (fr : List Nat) (hN : X.N.Nodup) (hx : X.N[i]? = some x) (hl : X.env.scope.names.lookup x = some .local)
    (S : zd3 X scope) (hc : X.calm = true) (hfr : fr.map (fun j => X.N[j]?) = free.map some) (hff : ∀ x ∈ free, scope.names.lookup x = some .free)
    (hi : PI X tg iter wi)
    (hg : ∀ C s H ex, PG (zX X (own ++ free) scope C s H ex) tg g) (ht : ∀ C s H ex, PTs (zX X (own ++ free) scope C s H ex) ifs tc) (he : ∀ C s H ex, PE (zX X (own ++ free) scope C s H ex) elt te)
    (hsw : swapsWith (.ListComp elt [⟨tg, iter, ifs, 0⟩] scope pos) (some (.Name x pos')) spos.line X.env = pure true := by rfl)
    (hs : ∀ x, foldedSetIterable iter X.env x = pure x := by intro _; rfl) :
    PS X (.Assign [.Name x pos'] (.ListComp elt [⟨tg, iter, ifs, 0⟩] scope pos) spos) (zdN (zkf own fr wi g tc te) (zen i)) := by
  intro pins s σ H D0 I h
  have hcl : closureFor scope X.env = pure (za0 X.env scope.names []) := zep fun x hx e => by
    obtain ⟨c, hc⟩ := I.ok.has x.1 (S.free x hx e)
    rw [hc]; rfl
  rw [exec_Assign_Name_used _ _ _ _ hsw]
  refine wpAny_bind (wpAny_standAt (wpAny_bind ?_))
  show wpAny _ X.A (do let _ <- comprehension (.ListComp elt [⟨tg, iter, ifs, 0⟩] scope pos) scope X.env _ (newList []) false (eval iter X.env) (some (assign (.Name x pos') X.env))) _ _ s
  refine wpAny_bind (thn (wpAny_comprehension_free (use := some (assign (.Name x pos') X.env)) (Q := fun _ s' => SP X pins D0 .next s') rfl hs hcl S.kind (fun x hx e => by have := zfU S.nd (show (x.1, x.2) ∈ scope.names from hx); rw [this, e])
    (thn (hi pins s σ H _ I h) fun v s1 h1 => thn h1 fun itv s2 h2 => ?_)) (fun _ s' hq => wpAny_pure (wpAny_pure hq)))
  obtain ⟨it, fp, tn, J, H2, e, I2, T, st2, f2, W, ⟨m0, w0⟩, turn⟩ := h2
  subst e
  refine zkl (RR := fun acc C => compPost (model X.prog X.w) X.A X.xe (some (assign (.Name x pos') X.env)) (fun _ s' => SP X pins D0 .next s') acc C) S hc hfr hff hg ht he I2 T st2 f2 w0 turn ?_
  intro D C its n ys H' s' I' r hz fin hD
  obtain ⟨m, hm, _⟩ := I'.loc
  obtain ⟨J', hn⟩ := zkx I2 f2 I' r hz hD (Heap.SameBut.refl C s'.heap)
  show wpAny _ _ (assign (.Name x pos') X.env (.ref D)) _ _ _
  have hCx : (zX X (own ++ free) scope C s2 H2 fp).env.locals = C := rfl
  have hCl : C ≠ X.env.locals := by
    have := I2.lt
    have h2 : s2.heap.objs.size <= C := I'.ok.above
    exact Ne.symm (Nat.ne_of_lt (Nat.lt_of_lt_of_le this h2))
  refine wpAny_assign_Name (zhP (s := { s' with heap := s'.heap }) J' hN hx (.inl hl) (show RelV (.ref D) (.ref D) from rfl) (fun s3 I3 ⟨a, sb, ha⟩ => ?_) (.inr hl))
  have haC : C ≠ a := by
    rcases ha with rfl | ha
    . exact hCl
    . intro z
      obtain ⟨v, o, eo, _⟩ := I2.cell x a ha
      have h2 : s2.heap.objs.size <= C := I'.ok.above
      have := Heap.lt_size eo
      rw [<- z] at this
      exact absurd this (Nat.not_lt.mpr h2)
  have nsC : s3.heap.Ns C m := hm.sameBut sb haC
  refine ⟨m, nsC, fun h'' hsb => ?_⟩
  refine ⟨_, _, ?_, fin D hn⟩
  have hC2 : s2.heap.objs.size <= C := I'.ok.above
  -- the block's own names are an object that nothing tracks
  have hCn : (upd H' D (.lst ys)) C = none := by
    rw [zJ (fun z => ?_)]
    . exact I'.free
    . exact (I'.pin (D, lobj its n) (List.mem_append_right _ List.mem_cons_self)).2.2.1 z.symm
  have := I3.turned (it := C) (h' := h'') (t' := s3.toks) (fun b o hb e => hsb.extBut b o hb e) hCn hCl (.inr (Nat.le_trans I2.sz hC2)) (fun y c hc z => by
      obtain ⟨v, o, eo, _⟩ := I2.cell y c hc
      have := Heap.lt_size eo
      rw [z] at this
      exact absurd this (Nat.not_lt.mpr hC2)) (fun p hp z => by
      have := Heap.lt_size (I2.pin p hp).1
      rw [z] at this
      exact absurd this (Nat.not_lt.mpr hC2))
  exact this
end
end L2

namespace L2
open PySem PySem.Spec PyProof.Rows

def zcc (lo : Int) (n : Nat) : List Int := (List.range n).map fun (i : Nat) => lo + (i : Int)
theorem zgJ {lo : Int} {n i : Nat} (h : i < n) : (zcc lo n)[i]? = some (lo + i) := by
  unfold zcc; rw [List.getElem?_map, List.getElem?_range h]; rfl
theorem zcv (lo : Int) (n : Nat) : (zcc lo n).length = n := by simp [zcc]
section
variable {X : Cx}
def zg7 (i j : Int) : Prop := 0 < j /\ j < 2 ^ 250
theorem zeT : OpR X (binaryOp .FloorDiv) (rI zg7 fun i j => .int (i / j)) := opI fun i j t u s Q E h q => by
  have e : i.fdiv j = i / j := Int.fdiv_eq_ediv_of_nonneg i (Int.le_of_lt h.1)
  rw [<- e] at q
  refine floordiv_int (by have := h.1; omega) q (Or.inl (PyProof.noPylong_of_log2 ?_))
  have h2 := h.2
  have hn : j.natAbs < 2 ^ 250 := by have := h.1; omega
  exact Nat.lt_trans (Nat.log2_lt (by have := h.1; omega) |>.mpr hn) (by decide)

theorem zdE : ∀ {ns : List Int} {us : List Value}, Vals (ns.map V.int) us -> IntsAre us ns
  | [], _, .nil => .nil
  | _ :: _, _, .cons ⟨t, rfl⟩ r => .cons _ _ (zdE r)
theorem zm8 (hc : X.calm = true) : zZ X (.builtin "max") (fun xs H Q => ∃ p ns, xs = [.ref p] /\ SqL X.K H p (ns.map V.int) /\ ns ≠ [] /\ ∀ M ∈ ns, (∀ a ∈ ns, a <= M) -> Q (.int M) H) := by
  intro pins s σ H xs us Q I r h
  obtain ⟨p, ns, rfl, hl, hne, q⟩ := h
  obtain ⟨u, rfl, rx⟩ := vals1 r
  cases rx
  obtain ⟨its, r', pl, hz⟩ := I.list hl
  have hi := zdE r'
  obtain ⟨ys, e⟩ := hi.allInts.items
  have hns : ns = ys.toList.map (·.1) := by rw [<- hi.numsOf, <- nums_intItems, <- e]
  have hsz : 0 < ys.size := by
    rcases Nat.eq_zero_or_pos ys.size with h0 | h0
    . have : ys.toList = [] := by simpa using h0
      rw [this] at hns; exact absurd hns hne
    . exact h0
  have hl' := pl.isList
  rw [e] at hl'
  refine max_intList (I.ok.hd hc) hl' hsz fun v h' tk hv hk => ?_
  obtain ⟨t, rfl⟩ := intItems_at hv
  obtain ⟨h1, h2⟩ := argBest_gt (numAt ys) (ys.size - 1)
  refine ⟨.int _, H, I.kept hk, ⟨t, rfl⟩, q _ ?_ fun a ha => ?_⟩
  . rw [hns, numAt_eq]; exact getD_mem (by rw [List.length_map, Array.length_toList]; omega)
  . rw [hns] at ha
    obtain ⟨j, hj, rfl⟩ := mem_getD ha
    rw [List.length_map, Array.length_toList] at hj
    rw [<- numAt_eq]; exact h2 j (by omega)
theorem znx (hc : X.calm = true) : zZ X (.builtin "min") (fun xs H Q => ∃ p ns, xs = [.ref p] /\ SqL X.K H p (ns.map V.int) /\ ns ≠ [] /\ ∀ M ∈ ns, (∀ a ∈ ns, M <= a) -> Q (.int M) H) := by
  intro pins s σ H xs us Q I r h
  obtain ⟨p, ns, rfl, hl, hne, q⟩ := h
  obtain ⟨u, rfl, rx⟩ := vals1 r
  cases rx
  obtain ⟨its, r', pl, hz⟩ := I.list hl
  have hi := zdE r'
  obtain ⟨ys, e⟩ := hi.allInts.items
  have hns : ns = ys.toList.map (·.1) := by rw [<- hi.numsOf, <- nums_intItems, <- e]
  have hsz : 0 < ys.size := by
    rcases Nat.eq_zero_or_pos ys.size with h0 | h0
    . have : ys.toList = [] := by simpa using h0
      rw [this] at hns; exact absurd hns hne
    . exact h0
  have hl' := pl.isList
  rw [e] at hl'
  refine min_intList (I.ok.hd hc) hl' hsz fun v h' tk hv hk => ?_
  obtain ⟨t, rfl⟩ := intItems_at hv
  obtain ⟨h1, h2⟩ := argBest_lt (numAt ys) (ys.size - 1)
  refine ⟨.int _, H, I.kept hk, ⟨t, rfl⟩, q _ ?_ fun a ha => ?_⟩
  . rw [hns, numAt_eq]; exact getD_mem (by rw [List.length_map, Array.length_toList]; omega)
  . rw [hns] at ha
    obtain ⟨j, hj, rfl⟩ := mem_getD ha
    rw [List.length_map, Array.length_toList] at hj
    rw [<- numAt_eq]; exact h2 j (by omega)

theorem zj1 : zZ X (.builtin "isinstance") (fun xs H Q => ∃ x c t b, xs = [x, c] /\ zeg X.K H x t /\ (∀ u, RelV c u -> PySem.W.kitOne X.K t u = some b) /\ Q (.bl b) H) := by
  intro pins s σ H xs us Q I r h
  obtain ⟨x, c, t, b, rfl, ty, e, q⟩ := h
  obtain ⟨u, v, rfl, ru, rv⟩ := vals2 r
  exact zna I ru ty (e v rv) fun tk => ⟨.bl b, H, I.tok tk, rfl, q⟩
end

theorem znk {prog : Program} {w : World} {A : Around} {E : Value -> Shared -> Prop} {s : Shared} {l : Addr} {items : Array Value} {Q : Value -> Shared -> Prop} (hl : s.heap.IsList l items)
    (h : ∀ s₂ : Shared, s₂ = { s with heap := s.heap.push { cls := .type "list_iterator", data := .fields #[.ref l, .int 0 0] } } -> (s₂.heap.IsListIter s.heap.objs.size l 0 /\ s₂.heap.IsList l items) -> l ≠ s.heap.objs.size -> Q (.ref s.heap.objs.size) s₂) :
    wpAny (model prog w) A (pyIter (.ref l)) Q E s := by
  have hlt : l < s.heap.objs.size := by obtain ⟨_, e, _⟩ := hl; exact Heap.lt_size e
  exact wpAny_pyIter_list hl (h _ rfl ⟨⟨_, Heap.get?_push_size _ rfl, rfl, rfl⟩, hl.push _⟩ (Nat.ne_of_lt hlt))

structure Has (P : Program) (w : World) (K : PySem.W.Frag) (mg : Str -> Option Value) (base : Heap) (CX : CXT) (x : Str) (k : Nat) (ps : List Str) (sp : Sp) : Prop where
  ex : ∃ f fd, zas P w K mg base CX k f fd ps sp /\ Binds K fd ps [] /\ PySem.W.keepIn K (.ref f) = true /\ mg x = some (.ref f)
section
variable {X : Cx} {CX : CXT} {j k : Nat} {ps : List Str} {sp : Sp} {E : XK} {x : Str} {p pos : Pos} {e : Expr} {es : List Expr} {t : TA}
theorem zo4 (h : Has X.prog X.w X.K X.mg X.base CX x j ps sp) (hr : zaM k X.A) (ha : PA X (e :: es) t) (hj : j <= k := by decide) (hg : Gl X x := by rfl) (hx : zb8 CX X E := by exact zfJ) (hdb : (x == ("__debug__" : Str)) = false := by decide)
    (he : starEach (e :: es) X.env = (false, eval e X.env) :: starEach es X.env := by rfl) (hpl : (backTo pos (starEach es X.env)).any (·.1) = false := by rfl) : PE X (.Call (.Name x p) (e :: es) [] pos) (zkT sp [] E t) := by
  obtain ⟨f, fd, F, b, kp, m⟩ := h.ex
  exact zqz (F.mono hj) hr hg m kp b .nil hx ha hdb he hpl
end
end L2

namespace L2
open PySem PySem.Spec PyProof.Rows

theorem zba : bootBuiltins "len" = some (.builtin "len") := by decide +kernel
theorem zs2 : bootBuiltins "abs" = some (.builtin "abs") := by decide +kernel
theorem zsK : bootBuiltins "max" = some (.builtin "max") := by decide +kernel
theorem zn6 : bootBuiltins "min" = some (.builtin "min") := by decide +kernel
theorem ztt : bootBuiltins "all" = some (.builtin "all") := by decide +kernel
theorem zeb : bootBuiltins "sorted" = some (.builtin "sorted") := by decide +kernel
theorem zdl : bootBuiltins "isinstance" = some (.builtin "isinstance") := by decide +kernel
theorem zlZ : bootBuiltins "list" = some (.type "list") := by decide +kernel
theorem zbj : bootBuiltins "tuple" = some (.type "tuple") := by decide +kernel
theorem ztE : bootBuiltins "int" = some (.type "int") := by decide +kernel
theorem zqQ : bootBuiltins "bool" = some (.type "bool") := by decide +kernel
theorem zuc : bootBuiltins "set" = some (.type "set") := by decide +kernel
theorem zms : bootBuiltins "dict" = some (.type "dict") := by decide +kernel
structure Blt (mg : Str -> Option Value) : Prop where
  len : mg "len" = none
  abs : mg "abs" = none
  max : mg "max" = none
  min : mg "min" = none
  all : mg "all" = none
  any : mg "any" = none
  sum : mg "sum" = none
  sorted : mg "sorted" = none
  isinstance : mg "isinstance" = none
  list : mg "list" = none
  tuple : mg "tuple" = none
  int : mg "int" = none
  bool : mg "bool" = none
  str : mg "str" = none
  set : mg "set" = none
  dict : mg "dict" = none
  zip : mg "zip" = none
  range : mg "range" = none
  enumerate : mg "enumerate" = none
  reversed : mg "reversed" = none
  repr : mg "repr" = none

theorem zn5 {N : List Str} {vs : List V} : start N vs = vs.map some ++ List.replicate (N.length - vs.length) none := rfl
end L2
namespace L2
open PySem PySem.Spec PyProof.Rows
def ziA (a : Addr) (H H' : Hp) : Prop := ∀ b, b ≠ a -> H' b = H b
end L2

namespace L2
open PySem PySem.Spec PyProof.Rows

def intOf : Expr -> Option Int
  | .Constant (.int i) _ _ => some i
  | _ => none
theorem zlx {e : Expr} {i : Int} (h : intOf e = some i) : ∃ k pos, e = .Constant (.int i) k pos := by
  unfold intOf at h
  split at h
  . cases h; exact ⟨_, _, rfl⟩
  . cases h
def zp6 (ks : List Int) : TA := fun _ H Q => Q (ks.map V.int) H
theorem zmn {X : Cx} : ∀ (ks : List Int) {es : List Expr}, es.map intOf = ks.map some -> PA X es (zp6 ks)
  | [], [], _ => zpE
  | k :: ks, e :: es, h => by
    simp only [List.map_cons, List.cons.injEq] at h
    obtain ⟨n, p, rfl⟩ := zlx h.1
    have ih := zmn (X := X) ks h.2
    intro pos pins s σ H Q I q
    exact zmf (X := X) zpx ih rfl pos pins s σ H Q I q
  | [], _ :: _, h => by simp at h
  | _ :: _, [], h => by simp at h
mutual
def Dat (K : PySem.W.Frag) (H : Hp) : PyData -> V -> Prop
  | .none, v => v = .non
  | .bool b, v => v = .bl b
  | .int i, v => v = .int i
  | .str x, v => v = .str x
  | .list ds, v => ∃ a xs, v = .ref a /\ SqL K H a xs /\ zbO K H ds xs
  | .tuple ds, v => ∃ a xs, v = .ref a /\ SqT K H a xs /\ zbO K H ds xs
  | .dict _, _ => False
def zbO (K : PySem.W.Frag) (H : Hp) : List PyData -> List V -> Prop
  | [], xs => xs = []
  | d :: ds, xs => ∃ x r, xs = x :: r /\ Dat K H d x /\ zbO K H ds r
end
theorem zbO.nil {K : PySem.W.Frag} {H : Hp} : zbO K H [] [] := by unfold zbO; rfl
theorem zbO.cons {K : PySem.W.Frag} {H : Hp} {d : PyData} {ds : List PyData} {x : V} {xs : List V} (a : Dat K H d x) (b : zbO K H ds xs) : zbO K H (d :: ds) (x :: xs) := by unfold zbO; exact ⟨x, xs, rfl, a, b⟩
theorem Dat.i {K : PySem.W.Frag} {H : Hp} {i : Int} : Dat K H (.int i) (.int i) := by unfold Dat; rfl
theorem Dat.s {K : PySem.W.Frag} {H : Hp} {x : Str} : Dat K H (.str x) (.str x) := by unfold Dat; rfl
theorem Dat.b {K : PySem.W.Frag} {H : Hp} {x : Bool} : Dat K H (.bool x) (.bl x) := by unfold Dat; rfl
theorem Dat.n {K : PySem.W.Frag} {H : Hp} : Dat K H .none .non := by unfold Dat; rfl
theorem Dat.tup {K : PySem.W.Frag} {H : Hp} {a : Addr} {xs : List V} {ds : List PyData} (h : SqT K H a xs) (b : zbO K H ds xs) : Dat K H (.tuple ds) (.ref a) := by unfold Dat; exact ⟨a, xs, rfl, h, b⟩
theorem Dat.lst {K : PySem.W.Frag} {H : Hp} {a : Addr} {xs : List V} {ds : List PyData} (h : SqL K H a xs) (b : zbO K H ds xs) : Dat K H (.list ds) (.ref a) := by unfold Dat; exact ⟨a, xs, rfl, h, b⟩
section
variable {X : Cx} {pins : List (Addr × Obj)} {σ : St} {H : Hp} {s : Shared}
mutual
theorem Dat.reads (I : Inv X pins σ H s) : ∀ {d : PyData} {v : V} {u : Value}, Dat X.K H d v -> RelV v u -> ∃ as, Reads s.heap u d as
  | .none, v, u, h, r => by unfold Dat at h; subst h; cases r; exact ⟨_, .none⟩
  | .bool b, v, u, h, r => by unfold Dat at h; subst h; cases r; exact ⟨_, .bool b⟩
  | .int i, v, u, h, r => by unfold Dat at h; subst h; obtain ⟨t, rfl⟩ := r; exact ⟨_, .int i t⟩
  | .str x, v, u, h, r => by unfold Dat at h; subst h; obtain ⟨t, rfl⟩ := r; exact ⟨_, .str x t⟩
  | .list ds, v, u, h, r => by
    unfold Dat at h
    obtain ⟨a, xs, rfl, hl, hd⟩ := h
    cases r
    obtain ⟨its, r', pl, hz⟩ := I.list hl
    obtain ⟨as, q⟩ := zbO.reads I hd r'
    obtain ⟨o, ho, hc, n, hdt⟩ := pl.isList
    exact ⟨_, .list ho hc hdt (by simpa using q)⟩
  | .tuple ds, v, u, h, r => by
    unfold Dat at h
    obtain ⟨a, xs, rfl, hl, hd⟩ := h
    cases r
    obtain ⟨its, r', pl, hz⟩ := I.tuple hl
    obtain ⟨as, q⟩ := zbO.reads I hd r'
    obtain ⟨o, ho, hc, n, hdt⟩ := pl
    exact ⟨_, .tuple ho hc hdt (by simpa using q)⟩
  | .dict _, v, u, h, r => by unfold Dat at h; exact h.elim
theorem zbO.reads (I : Inv X pins σ H s) : ∀ {ds : List PyData} {xs : List V} {us : List Value}, zbO X.K H ds xs -> Vals xs us -> ∃ as, ReadsAll s.heap us ds as
  | [], xs, us, h, r => by unfold zbO at h; subst h; cases r; exact ⟨_, .nil⟩
  | d :: ds, xs, us, h, r => by
    unfold zbO at h
    obtain ⟨x, rs, rfl, h1, h2⟩ := h
    cases r with
    | cons ru rr =>
      obtain ⟨as, q⟩ := Dat.reads I h1 ru
      obtain ⟨bs, q2⟩ := zbO.reads I h2 rr
      exact ⟨_, .cons q q2⟩
end
end

structure zdj (d : PyData) : Prop where
  lay : d.canLay0 = true
  deep : d.depth <= 60

section
variable {X : Cx} {k : Nat}
theorem zsW (hr : zaM k X.A) : OpR X (compareOp .Eq) (fun x y H Q => ∃ d d', Dat X.K H d x /\ Dat X.K H d' y /\ zdj d /\ zdj d' /\ Q (.bl (PyData.eqv d d')) H) := by
  intro pins s σ H x y v u Q I rx ry h
  obtain ⟨d, d', h1, h2, o1, o2, q⟩ := h
  obtain ⟨as, r1⟩ := h1.reads I rx
  obtain ⟨bs, r2⟩ := h2.reads I ry
  refine SeqAt.compareEq_reads r1 r2 o1.lay o2.lay ?_ ⟨.bl _, H, I, rfl, q⟩
  have := hr.units
  have := o1.deep
  omega
theorem ztM (hr : zaM k X.A) : OpR X (compareOp .NotEq) (fun x y H Q => ∃ d d', Dat X.K H d x /\ Dat X.K H d' y /\ zdj d /\ zdj d' /\ Q (.bl (!PyData.eqv d d')) H) := by
  intro pins s σ H x y v u Q I rx ry h
  obtain ⟨d, d', h1, h2, o1, o2, q⟩ := h
  obtain ⟨as, r1⟩ := h1.reads I rx
  obtain ⟨bs, r2⟩ := h2.reads I ry
  refine SeqAt.compareNe_reads r1 r2 o1.lay o2.lay ?_ ⟨.bl _, H, I, rfl, q⟩
  have := hr.units
  have := o1.deep
  omega
end

theorem all_range (bs : List Bool) : (List.range bs.length).all (fun i => bs.getD i true) = bs.all id := by
  rw [Bool.eq_iff_iff, List.all_eq_true, List.all_eq_true]
  constructor
  . intro h x hx
    obtain ⟨i, hi, e⟩ := List.mem_iff_getElem.mp hx
    have := h i (List.mem_range.mpr hi)
    rw [List.getD_eq_getElem?_getD, List.getElem?_eq_getElem hi] at this
    rw [<- e]; exact this
  . intro h i hi
    have hi' := List.mem_range.mp hi
    rw [List.getD_eq_getElem?_getD, List.getElem?_eq_getElem hi']
    exact h _ (List.getElem_mem hi')
theorem zkz : ∀ {bs : List Bool} {us : List Value}, Vals (bs.map V.bl) us -> us = bs.map Value.bool
  | [], _, .nil => rfl
  | _ :: _, _, .cons r t => by cases r; rw [zkz t]; rfl
section
variable {X : Cx}
theorem zm9 (hc : X.calm = true) : zZ X (.builtin "all") (fun xs H Q => ∃ (p : Addr) (bs : List Bool), xs = [.ref p] /\ SqL X.K H p (bs.map V.bl) /\ Q (.bl (bs.all id)) H) := by
  intro pins s σ H xs us Q I r h
  obtain ⟨p, bs, rfl, hl, q⟩ := h
  obtain ⟨u, rfl, rx⟩ := vals1 r
  cases rx
  obtain ⟨its, r', pl, hz⟩ := I.list hl
  have e := zkz r'
  subst e
  refine call_all_walk (znk pl.isList fun s₂ e2 st hne => ?_)
  subst e2
  refine ⟨_, _, _, _, _, _, fun i => bs.getD i true, rfl, Walks.list (A := X.A.in1) (I.ok.hd hc) s.heap.objs.size p hne _, st, fun i v s3 Q3 E3 hP hQ => ?_, fun h' tk hk => ?_⟩
  . have hP' : (bs.map Value.bool)[i]? = some v := by simpa using hP
    rw [List.getElem?_map] at hP'
    cases eb : bs[i]? with
    | none => rw [eb] at hP'; cases hP'
    | some b =>
      rw [eb] at hP'
      cases hP'
      refine wpAny_truthy_bool ?_
      dsimp only at hQ
      rw [List.getD_eq_getElem?_getD, eb] at hQ
      exact hQ
  . rw [List.size_toArray, List.length_map, all_range]
    refine ⟨.bl _, H, I.kept (fun b o e => hk b o (fun z => ?_) (Heap.get?_push_of_some _ e)), rfl, q⟩
    rw [List.mem_singleton] at z
    exact absurd (z ▸ Heap.lt_size e) (Nat.lt_irrefl _)
end
end L2

namespace L2
open PySem PySem.Spec PyProof.Rows
structure WE (X : Cx) (e : Expr) (t : TE) : Prop where out : PE X e t
structure WT (X : Cx) (e : Expr) (t : TT) : Prop where out : PT X e t
structure WW (X : Cx) (e : Expr) (t : TT) : Prop where out : PW X e t
structure WA (X : Cx) (es : List Expr) (t : TA) : Prop where out : PA X es t
structure WS (X : Cx) (s : Stmt) (t : TS) : Prop where out : PS X s t
structure WSs (X : Cx) (s : List Stmt) (t : TS) : Prop where out : PSs X s t
structure WG (X : Cx) (e : Expr) (t : TG) : Prop where out : PG X e t
structure WGs (X : Cx) (e : List Expr) (t : TGs) : Prop where out : PGs X e t
structure WI (X : Cx) (tg e : Expr) (t : TI) : Prop where out : PI X tg e t
structure WTs (X : Cx) (e : List Expr) (t : TT) : Prop where out : PTs X e t
structure WK (X : Cx) (e : List Keyword) (t : TA) : Prop where out : PK X e t
structure WO (X : Cx) (e : Option Expr) (t : TO) : Prop where out : PO X e t
section
variable {X : Cx} {a b c e o : Expr} {es rest : List Expr} {ta tb tc te to : TE} {t u : TT} {pos pos' p apos cpos p2 : Pos} {tA : TA} {x : Str}
theorem qv (i : Nat) {x : Str} {pos : Pos} (hN : X.N[i]? = some x := by rfl) (hv : Vis X.env.scope x := by first | exact Or.inl rfl | exact Or.inr (Or.inl rfl) | exact Or.inr (Or.inr rfl)) (hd : (x == ("__debug__" : Str)) = false := by decide)
    (hcd : (x == ("__classdict__" : Str)) = false := by decide) : WE X (.Name x pos) (zbN i) := ⟨zt3 hN hv hd hcd⟩
theorem zp {i j pos} : WE X (.Constant (.int i) j pos) (tC (.int i)) := ⟨zpx⟩
theorem zuC {b j pos} : WE X (.Constant (.bool b) j pos) (tC (.bl b)) := ⟨zut⟩
theorem zdS {x j pos} : WE X (.Constant (.str x) j pos) (tC (.str x)) := ⟨ztS⟩
theorem zdF {x : Str} {v : V} {u : Value} {pos : Pos} (hg : Gl X x) (hm : X.mg x = some u) (r : RelV v u) (hd : (x == ("__debug__" : Str)) = false := by decide) : WE X (.Name x pos) (tC v) := ⟨zqD hg hm r hd⟩
theorem zl5 {x : Str} {v : V} {u : Value} {pos : Pos} (hg : Gl X x) (hm : X.mg x = none) (hv : bootBuiltins x = some u) (r : RelV v u) (hn : x ≠ "__name__" := by decide) (hd : (x == ("__debug__" : Str)) = false := by decide) : WE X (.Name x pos) (tC v) := ⟨zrk hg hm hv r hn hd⟩
theorem zau {op : Operator} {r : R2} (ho : OpR X (binaryOp op) r) (ha : WE X a ta) (hb : WE X b tb) : WE X (.BinOp a op b pos) (tOp r ta tb) := ⟨zvs ho ha.out hb.out⟩
theorem zfb {op : UnaryOp} {r : V -> Hp -> VK -> Prop} (ho : UnR X (unaryOp op) r) (ha : WE X a ta) : WE X (.UnaryOp op a pos) (tUn r ta) := ⟨zuI ho ha.out⟩
theorem zbG {op : CmpOp} {r : R2} (ho : OpR X (compareOp op) r) (ha : WE X a ta) (hb : WE X b tb) (hm : behindInMarks op b = false) : WE X (.Compare a [op] [b] pos) (tOp r ta tb) := ⟨zrm ho ha.out hb.out hm⟩
theorem zG {op : CmpOp} {r : R2} (ho : OpR X (compareOp op) r) (ha : WE X a ta) (hb : WE X b tb) (hm : behindInMarks op b = false) : WT X (.Compare a [op] [b] pos) (zhl (tOp r ta tb)) := ⟨zra ho ha.out hb.out hm⟩
theorem zoU {op op' : CmpOp} {r r' : R2} (ho : OpR X (compareOp op) r) (ho' : OpR X (compareOp op') r') (ha : WE X a ta) (hb : WE X b tb) (hc : WE X c tc) (hm : lastMarks [op, op'] [b, c] = false := by with_unfolding_all rfl) : WE X (.Compare a [op, op'] [b, c] pos) (zg4 r r' ta tb tc) := ⟨zoZ ho ho' ha.out hb.out hc.out hm⟩
theorem zkd {op op' : CmpOp} {r r' : R2} (ho : OpR X (compareOp op) r) (ho' : OpR X (compareOp op') r') (ha : WE X a ta) (hb : WE X b tb) (hc : WE X c tc) (hm : lastMarks [op, op'] [b, c] = false := by with_unfolding_all rfl) : WT X (.Compare a [op, op'] [b, c] pos) (zhl (zg4 r r' ta tb tc)) := ⟨zon ho ho' ha.out hb.out hc.out hm⟩
theorem zok {t : TE} (h : WE X e t) (he : ∀ whole, isTrue e X.env whole = (do let v <- whole; standAt e.pos; holding [v] (truthy v)) := by intro _; rfl) : WT X e (tB t) := ⟨zsA h.out he⟩
theorem zmb (ha : WT X a t) : WW X (.BoolOp .And [a] pos) t := ⟨zrF ha.out⟩
theorem zeC (ha : WT X a t) : WW X (.BoolOp .Or [a] pos) t := ⟨zs8 ha.out⟩
theorem zpq (ha : WT X a t) (hb : WW X (.BoolOp .And (b :: rest) pos) u) : WW X (.BoolOp .And (a :: b :: rest) pos) (zua t u) := ⟨zss ha.out hb.out⟩
theorem zeo (ha : WT X a t) (hb : WW X (.BoolOp .Or (b :: rest) pos) u) : WW X (.BoolOp .Or (a :: b :: rest) pos) (tOr t u) := ⟨zuw ha.out hb.out⟩
theorem WW.qt (h : WW X e t) : WT X e t := ⟨h.out.pt⟩
theorem zeB (ha : WT X a t) : WT X (.UnaryOp .Not a pos) (ztA t) := ⟨zsQ ha.out⟩
theorem zgC {op} {t : TE} (h : WE X a t) : WE X (.BoolOp op [a] pos) t := ⟨zsD h.out⟩
theorem zcL (ha : WE X a ta) (hb : WE X (.BoolOp .And (b :: rest) pos) tb) : WE X (.BoolOp .And (a :: b :: rest) pos) (zoG ta tb) := ⟨ztw ha.out hb.out⟩
theorem zeG (ha : WE X a ta) : WE X (.UnaryOp .Not a pos) (zo5 ta) := ⟨zsT ha.out⟩
theorem zf : WA X [] zfr := ⟨zpE⟩
theorem za (ha : WE X e te) (hr : WA X es tA) (hs : starEach (e :: es) X.env = (false, eval e X.env) :: starEach es X.env := by rfl) : WA X (e :: es) (ze6 te tA) := ⟨zmf ha.out hr.out hs⟩
theorem zmm (ks : List Int) {es : List Expr} (h : es.map intOf = ks.map some) : WA X es (zp6 ks) := ⟨zmn ks h⟩
theorem zjf {x1} (h : WA X es tA) : WE X (.Tuple es x1 pos) (zt8 tA) := ⟨ztm h.out⟩
theorem zcN (h : WA X es tA) : WE X (.List es pos) (zrl tA) := ⟨zsS h.out⟩
theorem zO {r : R2} (hr : IxR X r) (ha : WE X a ta) (hb : WE X b tb) (hs : zmt b) : WE X (.Subscript a b pos) (tOp r ta tb) := ⟨zuL hr ha.out hb.out hs⟩
theorem zcu : WO X none zi3 := ⟨zrz⟩
theorem zdf (h : WE X e te) : WO X (some e) (zow te) := ⟨zqE h.out⟩
theorem zg1 {lo hi : Option Expr} {tl th : TO} {r : V -> Option Int -> Option Int -> Hp -> VK -> Prop} (hr : SlR X r) (he : WE X e te) (hl : WO X lo tl) (hu : WO X hi th) : WE X (.Subscript e (.Slice lo hi none p2) pos) (tSl r te tl th) := ⟨znY hr he.out hl.out hu.out⟩
theorem zL {id : String} {r : List V -> Hp -> VK -> Prop} (hc : zZ X (.builtin id) r) (hg : Gl X x) (hm : X.mg x = none) (hv : bootBuiltins x = some (.builtin id)) (ha : WA X (e :: es) tA) (hn : x ≠ "__name__" := by decide) (hdb : (x == ("__debug__" : Str)) = false := by decide)
    (he : starEach (e :: es) X.env = (false, eval e X.env) :: starEach es X.env := by rfl) (hpl : (backTo pos (starEach es X.env)).any (·.1) = false := by rfl) : WE X (.Call (.Name x p) (e :: es) [] pos) (tCB r tA) := ⟨zoO hc hg hm hv ha.out hn hdb he hpl⟩
theorem zag {T : String} {r : List V -> Hp -> VK -> Prop} (hc : zZ X (.type T) r) (hg : Gl X x) (hm : X.mg x = none) (hv : bootBuiltins x = some (.type T)) (ha : WA X (e :: es) tA) (hn : x ≠ "__name__" := by decide) (hdb : (x == ("__debug__" : Str)) = false := by decide)
    (he : starEach (e :: es) X.env = (false, eval e X.env) :: starEach es X.env := by rfl) (hpl : (backTo pos (starEach es X.env)).any (·.1) = false := by rfl) : WE X (.Call (.Name x p) (e :: es) [] pos) (tCB r tA) := ⟨zmN hc hg hm hv ha.out hn hdb he hpl⟩
theorem zy {CX : CXT} {j k : Nat} {ps : List Str} {sp : Sp} {E : XK} (h : Has X.prog X.w X.K X.mg X.base CX x j ps sp) (hr : zaM k X.A) (ha : WA X (e :: es) tA) (hj : j <= k := by decide) (hg : Gl X x := by rfl) (hx : zb8 CX X E := by exact zfJ) (hdb : (x == ("__debug__" : Str)) = false := by decide)
    (he : starEach (e :: es) X.env = (false, eval e X.env) :: starEach es X.env := by rfl) (hpl : (backTo pos (starEach es X.env)).any (·.1) = false := by rfl) : WE X (.Call (.Name x p) (e :: es) [] pos) (zkT sp [] E tA) := ⟨zo4 h hr ha.out hj hg hx hdb he hpl⟩
theorem za1 : WK X [] zfr := ⟨zsu⟩
theorem zgj {nm : Option Str} {kpos : Pos} {kws : List Keyword} {tk : TA} (ha : WE X e te) (hr : WK X kws tk) : WK X (⟨nm, e, kpos⟩ :: kws) (ze6 te tk) := ⟨zrL ha.out hr.out⟩
theorem ztn {f : Str} (he : WE X e ta) (hb : attributeBase e f X.env (eval e X.env) = eval e X.env) : WE X (.Attribute e f pos) (zrA X.K ta f) := ⟨ztk he.out hb⟩
theorem zu0 {name : Str} {T id : String} {r : V -> List V -> Hp -> VK -> Prop} (pa : PlainAttrs T) (slot : Slot T name id) (hty : typeOf (.builtin id) = pure (.type "method_descriptor")) (hm : MtR X id r) (ho : WE X o to) (ha : WA X (e :: es) tA)
    (hbase : attributeBase o name X.env (eval o X.env) = eval o X.env := by rfl)
    (hfew : ((backTo cpos (starEach (e :: es) X.env)).all (fun x => !x.1) && (backToKw cpos (keywordEach [] X.env)).all (fun x => x.1.isSome) && decide ((e :: es).length + ([] : List Keyword).length + (if ([] : List Keyword).isEmpty then 0 else 1) < 30)) = true := by rfl)
    (hline : (apos.endLine == cpos.line) = true := by rfl) (hs : starEach (e :: es) X.env = (false, eval e X.env) :: starEach es X.env := by rfl) (hplain : (backTo cpos (starEach es X.env)).any (·.1) = false := by rfl) :
    WE X (.Call (.Attribute o name apos) (e :: es) [] cpos) (tBM X.K T r to tA) := ⟨zvi pa slot hty hm ho.out ha.out hbase hfew hline hs hplain⟩
variable {st : Stmt} {sts : List Stmt} {ts us : TS}
theorem zad : WSs X [] zpN := ⟨zro⟩
theorem zj (h1 : WS X st ts) (h2 : WSs X sts us) : WSs X (st :: sts) (zhF ts us) := ⟨znV h1.out h2.out⟩
theorem zq (h1 : WS X st ts) : WSs X [st] ts := ⟨zqA h1.out⟩
theorem zbA : WS X st zlM := ⟨zoE⟩
theorem zM (he : WE X e te) (hs : swapsWith e none pos.line X.env = pure false := by rfl) : WS X (.Expr e pos) (zo8 te) := ⟨zqx he.out hs⟩
theorem zaB (he : WE X e te) : WS X (.Return (some e) pos) (zlT te) := ⟨zt9 he.out⟩
theorem zaL {ba bb : List Stmt} (hc : WT X c t) (ha : WSs X ba ts) (hb : WSs X bb us) : WS X (.If c ba bb pos) (zqG t ts us) := ⟨zux hc.out ha.out hb.out⟩
theorem zcJ {tg iter : Expr} {body : List Stmt} {wi : TI} {g : TG} (hp : PassesOwn (model X.prog X.w) X.A X.env X.xe) (hc : X.calm = true) (hi : WI X tg iter wi) (hg : WG X tg g) (hb : WSs X body ts)
    (hs : ∀ x, foldedSetIterable iter X.env x = pure x := by intro _; rfl) : WS X (.For tg iter body [] pos) (zti wi g ts) := ⟨zt5 hp hc hi.out hg.out hb.out hs⟩
theorem zV {i : Nat} {x : Str} (hN : X.N.Nodup) (hi : X.N[i]? = some x) (hx : Loc X.env.scope x) (hf : X.fn x = true \/ X.env.scope.names.lookup x = some .local := by first | exact .inl rfl | exact .inr rfl | assumption) : WG X (.Name x pos) (zen i) := ⟨zrN hN hi hx hf⟩
theorem zjC : WGs X [] ztu := ⟨zqW⟩
theorem zbw {g : TG} {gs : TGs} (h1 : WG X e g) (h2 : WGs X es gs) (hs : (assignEach (e :: es) X.env).map (·.2) = assign e X.env :: (assignEach es X.env).map (·.2) := by rfl) : WGs X (e :: es) (zpr g gs) := ⟨zpv h1.out h2.out hs⟩
theorem zsU {k : Nat} {gs : TGs} {n : Nat} (hc : X.calm = true) (h : WGs X es gs) (hn : (assignEach es X.env).length = n := by rfl) (hst : (assignEach es X.env).findIdx? (·.1) = none := by rfl) : WG X (.Tuple es k pos) (zqP X.K n gs) := ⟨zp7 hc h.out hn hst⟩
theorem ziM {i : Expr} {ti : TE} {tS : zrn} (ho : WE X o to) (hi : WE X i ti) (hs : zuh X tS)
    (ha : ∀ v, assign (.Subscript o i pos) X.env v = (do
        let ov <- holding [v] (eval o X.env)
        let iv <- holding [v, ov] (eval i X.env)
        standAt pos
        holding [v, ov, iv] (setItem ov iv v)
        release [v, ov, iv] []) := by intro _; rfl) : WG X (.Subscript o i pos) (zkw to ti tS) := ⟨ztf ho.out hi.out hs ha⟩
theorem zgP {tg : Expr} {g : TG} (he : WE X e te) (hg : WG X tg g) (hs : swapsWithSole [tg] e pos.line X.env = pure false := by rfl) (hw : swappedStores [tg] e X.env = pure none := by rfl) (h1 : (assignEach [tg] X.env).map (·.2) = [assign tg X.env] := by rfl) : WS X (.Assign [tg] e pos) (zdN te g) := ⟨zs3 he.out hg.out hs hw h1⟩
theorem zR {i : Nat} {x : Str} (hN : X.N.Nodup) (hi : X.N[i]? = some x) (hx : Loc X.env.scope x) (he : WE X e te) (hs : swapsWith e (some (.Name x pos')) pos.line X.env = pure false := by rfl)
    (hf : X.fn x = true \/ X.env.scope.names.lookup x = some .local := by first | exact .inl rfl | exact .inr rfl | assumption) : WS X (.Assign [.Name x pos'] e pos) (zdN te (zen i)) := ⟨zst hN hi hx he.out hs hf⟩
theorem zsO {value : Expr} {tv : TE} {f : Str} (ha : WE X o ta) (hv : WE X value tv) (hs : swapsWith value (some (.Attribute o f pos')) pos.line X.env = pure false) : WS X (.Assign [.Attribute o f pos'] value pos) (zrs X.K ta tv f) := ⟨zsl ha.out hv.out hs⟩
theorem zch {tg : Expr} (hg : Gl X "range") (hm : X.mg "range" = none) (ha : WA X [a] tA) (hs : starEach [a] X.env = [(false, eval a X.env)] := by rfl) : WI X tg (.Call (.Name "range" p) [a] [] pos) (zp4 tA) := ⟨znD hg hm ha.out hs⟩
theorem zff : WTs X [] zsJ := ⟨zrx⟩
theorem zgu (h : WT X c t) : WTs X [c] t := ⟨zrJ h.out⟩
theorem zgq {tg iter elt : Expr} {ifs : List Expr} {scope : Scope} {wi : TI} {g : TG} {tc : TT} {te : TE} (own free : List Str) (fr : List Nat) (S : zd3 X scope) (hc : X.calm = true) (hfr : fr.map (fun j => X.N[j]?) = free.map some) (hff : ∀ x ∈ free, scope.names.lookup x = some .free)
    (hi : WI X tg iter wi) (hg : ∀ C s H ex, WG (zX X (own ++ free) scope C s H ex) tg g) (ht : ∀ C s H ex, WTs (zX X (own ++ free) scope C s H ex) ifs tc) (he : ∀ C s H ex, WE (zX X (own ++ free) scope C s H ex) elt te)
    (hs : ∀ x, foldedSetIterable iter X.env x = pure x := by intro _; rfl) : WE X (.ListComp elt [⟨tg, iter, ifs, 0⟩] scope pos) (zkf own fr wi g tc te) :=
  ⟨zqn own free fr S hc hfr hff hi.out (fun C s H ex => (hg C s H ex).out) (fun C s H ex => (ht C s H ex).out) (fun C s H ex => (he C s H ex).out) hs⟩
theorem zfi {tg iter elt : Expr} {ifs : List Expr} {scope : Scope} {wi : TI} {g : TG} {tc : TT} {te : TE} {i : Nat} {x : Str} {spos : Pos} (own free : List Str) (fr : List Nat) (hN : X.N.Nodup) (hx : X.N[i]? = some x) (hl : X.env.scope.names.lookup x = some .local)
    (S : zd3 X scope) (hc : X.calm = true) (hfr : fr.map (fun j => X.N[j]?) = free.map some) (hff : ∀ x ∈ free, scope.names.lookup x = some .free)
    (hi : WI X tg iter wi) (hg : ∀ C s H ex, WG (zX X (own ++ free) scope C s H ex) tg g) (ht : ∀ C s H ex, WTs (zX X (own ++ free) scope C s H ex) ifs tc) (he : ∀ C s H ex, WE (zX X (own ++ free) scope C s H ex) elt te)
    (hsw : swapsWith (.ListComp elt [⟨tg, iter, ifs, 0⟩] scope pos) (some (.Name x pos')) spos.line X.env = pure true := by rfl)
    (hs : ∀ x, foldedSetIterable iter X.env x = pure x := by intro _; rfl) : WS X (.Assign [.Name x pos'] (.ListComp elt [⟨tg, iter, ifs, 0⟩] scope pos) spos) (zdN (zkf own fr wi g tc te) (zen i)) :=
  ⟨zrq own free fr hN hx hl S hc hfr hff hi.out (fun C s H ex => (hg C s H ex).out) (fun C s H ex => (ht C s H ex).out) (fun C s H ex => (he C s H ex).out) hsw hs⟩
end
section
variable {X : Cx} (K : PySem.W.Frag)
theorem zbs (h : X.K = K := by rfl) : IxR X (zgx K) := h ▸ zmA
theorem zpI (h : X.K = K := by rfl) : SlR X (ztW K) := h ▸ zmr
theorem zsY (h : X.K = K := by rfl) : OpR X (compareOp .In) (rIn K false) := h ▸ znH
theorem znK (h : X.K = K := by rfl) : OpR X (compareOp .NotIn) (rIn K true) := h ▸ zjE
theorem znr (h : X.K = K := by rfl) : zZ X (.builtin "len") (fun xs H Q => ∃ p ys, xs = [.ref p] /\ (SqL K H p ys \/ SqT K H p ys) /\ Q (.int ys.length) H) := h ▸ zeZ
theorem zhh (h : X.K = K := by rfl) : zZ X (.type "list") (fun xs H Q => ∃ p ys, xs = [.ref p] /\ (SqL K H p ys \/ SqT K H p ys) /\ ∀ l, H l = none -> Q (.ref l) (upd H l (.lst ys))) := h ▸ zjD
theorem zkQ (h : X.K = K := by rfl) : zZ X (.type "tuple") (fun xs H Q => ∃ p ys, xs = [.ref p] /\ ((SqL K H p ys /\ ∀ l, H l = none -> Q (.ref l) (upd H l (.tup ys))) \/ (SqT K H p ys /\ Q (.ref p) H))) := h ▸ zhI
theorem znn (hc : X.calm = true) (h : X.K = K := by rfl) : zZ X (.builtin "max") (fun xs H Q => ∃ p ns, xs = [.ref p] /\ SqL K H p (ns.map V.int) /\ ns ≠ [] /\ ∀ M ∈ ns, (∀ a ∈ ns, a <= M) -> Q (.int M) H) := h ▸ zm8 hc
theorem zmG (hc : X.calm = true) (h : X.K = K := by rfl) : zZ X (.builtin "min") (fun xs H Q => ∃ p ns, xs = [.ref p] /\ SqL K H p (ns.map V.int) /\ ns ≠ [] /\ ∀ M ∈ ns, (∀ a ∈ ns, M <= a) -> Q (.int M) H) := h ▸ znx hc
theorem zmH (hc : X.calm = true) (h : X.K = K := by rfl) : zZ X (.builtin "all") (fun xs H Q => ∃ (p : Addr) (bs : List Bool), xs = [.ref p] /\ SqL K H p (bs.map V.bl) /\ Q (.bl (bs.all id)) H) := h ▸ zm9 hc
theorem zi1 (h : X.K = K := by rfl) : zZ X (.builtin "isinstance") (fun xs H Q => ∃ x c t b, xs = [x, c] /\ zeg K H x t /\ (∀ u, RelV c u -> PySem.W.kitOne K t u = some b) /\ Q (.bl b) H) := h ▸ zj1
theorem ztx {k : Nat} (hr : zaM k X.A) (h : X.K = K := by rfl) : OpR X (compareOp .Eq) (fun x y H Q => ∃ d d', Dat K H d x /\ Dat K H d' y /\ zdj d /\ zdj d' /\ Q (.bl (PyData.eqv d d')) H) := h ▸ zsW hr
theorem ztX {k : Nat} (hr : zaM k X.A) (h : X.K = K := by rfl) : OpR X (compareOp .NotEq) (fun x y H Q => ∃ d d', Dat K H d x /\ Dat K H d' y /\ zdj d /\ zdj d' /\ Q (.bl (!PyData.eqv d d')) H) := h ▸ ztM hr
variable {a e o : Expr} {es : List Expr} {ta te to : TE} {tA : TA} {pos pos' apos cpos : Pos}
theorem zqY {k : Nat} {gs : TGs} {n : Nat} (hc : X.calm = true) (hg : WGs X es gs) (h : X.K = K := by rfl) (hn : (assignEach es X.env).length = n := by rfl) (hst : (assignEach es X.env).findIdx? (·.1) = none := by rfl) : WG X (.Tuple es k pos) (zqP K n gs) := h ▸ zsU hc hg hn hst
theorem zam {f : Str} (he : WE X e ta) (h : X.K = K := by rfl) (hb : attributeBase e f X.env (eval e X.env) = eval e X.env := by rfl) : WE X (.Attribute e f pos) (zrA K ta f) := h ▸ ztn he hb
theorem zgt {value : Expr} {tv : TE} {f : Str} (ha : WE X o ta) (hv : WE X value tv) (h : X.K = K := by rfl) (hs : swapsWith value (some (.Attribute o f pos')) pos.line X.env = pure false := by rfl) : WS X (.Assign [.Attribute o f pos'] value pos) (zrs K ta tv f) := h ▸ zsO ha hv hs
theorem zc3 {name : Str} {T id : String} {r : V -> List V -> Hp -> VK -> Prop} (pa : PlainAttrs T) (slot : Slot T name id) (hty : typeOf (.builtin id) = pure (.type "method_descriptor")) (hm : MtR X id r) (ho : WE X o to) (ha : WA X (e :: es) tA) (h : X.K = K := by rfl)
    (hbase : attributeBase o name X.env (eval o X.env) = eval o X.env := by rfl)
    (hfew : ((backTo cpos (starEach (e :: es) X.env)).all (fun x => !x.1) && (backToKw cpos (keywordEach [] X.env)).all (fun x => x.1.isSome) && decide ((e :: es).length + ([] : List Keyword).length + (if ([] : List Keyword).isEmpty then 0 else 1) < 30)) = true := by rfl)
    (hline : (apos.endLine == cpos.line) = true := by rfl) (hs : starEach (e :: es) X.env = (false, eval e X.env) :: starEach es X.env := by rfl) (hplain : (backTo cpos (starEach es X.env)).any (·.1) = false := by rfl) :
    WE X (.Call (.Attribute o name apos) (e :: es) [] cpos) (tBM K T r to tA) := h ▸ zu0 pa slot hty hm ho ha hbase hfew hline hs hplain
end
def zeJ : Value -> Option Int
  | .int i _ => some i
  | _ => none
theorem zc8 {u : Value} {i : Int} (h : zeJ u = some i) : RelV (.int i) u := by
  cases u <;> simp [zeJ] at h
  subst h; exact ⟨_, rfl⟩
section
variable {P : Program} {w : World} {K : PySem.W.Frag} {mg : Str -> Option Value} {base : Heap}
theorem Fun.okq {x qual : Str} {st : Stmt} {f : Addr} {fd : FuncData} {N ps : List Str} {k : Nat} {sp : Sp} (F : Fun K x qual st f fd) (S : zK N ps (zg st)) (len : ∀ vs H Q E, sp vs H Q E -> vs.length = ps.length)
    (hbody : ∀ (cdv : Value) (A : Around) (outer : List Env) (s : Shared) (H : Hp) (vs : List V) (Q : VK) (E : XK), zaM k (A.deeper (envOfC qual (zg st) s.heap.objs.size f cdv)) -> sp vs H Q E ->
      ∃ t, WSs (zkh CX0 P w K mg base N qual (zg st) f cdv A outer s H E).nox (zA st) t /\ t { nx := fun _ H' => Q .non H', rt := Q } (start N vs) H) : zas P w K mg base CX0 (k + 1) f fd ps sp :=
  F.ok S len fun cdv A outer s H vs Q E hr h => by
    obtain ⟨t, ht, q⟩ := hbody cdv A outer s H vs Q E hr h
    exact ⟨t, ht.out, q⟩
end
end L2

namespace L2
open PySem PySem.Spec PyProof.Rows
section
variable {X : Cx} {tg : Expr}
end
end L2

namespace L2
open PySem PySem.Spec PyProof.Rows
theorem zp5 {x y : Str} (h : x.cps.toList = y.cps.toList) : x = y := by
  cases x; cases y
  simp only [Str.mk.injEq]
  exact Array.toList_inj.mp h
theorem zee : ∀ {ys : List Str} {us : List Value}, Vals (ys.map V.str) us -> StrsAre us ys
  | [], _, .nil => .nil
  | _ :: _, _, .cons ⟨t, rfl⟩ r => .cons _ _ (zee r)
theorem zfW (sep : Str) : ∀ (rest : List Str) (x : Str), (⟨rest.foldl (fun acc p => acc ++ sep.cps ++ p.cps) x.cps⟩ : Str) = Str.join sep (x :: rest)
  | [], x => rfl
  | y :: r, x => by
    have ih := zfW sep r ⟨x.cps ++ sep.cps ++ y.cps⟩
    show (⟨r.foldl (fun acc p => acc ++ sep.cps ++ p.cps) (x.cps ++ sep.cps ++ y.cps)⟩ : Str) = x ++ sep ++ Str.join sep (y :: r)
    rw [ih]
    cases r with
    | nil => rfl
    | cons z r' =>
      show (⟨x.cps ++ sep.cps ++ y.cps⟩ : Str) ++ sep ++ Str.join sep (z :: r') = x ++ sep ++ (y ++ sep ++ Str.join sep (z :: r'))
      apply zp5
      have e : ∀ a b : Str, (a ++ b).cps.toList = a.cps.toList ++ b.cps.toList := fun a b => by
        show (a.cps ++ b.cps).toList = _
        simp
      simp only [e, Array.toList_append, List.append_assoc]
theorem zgG (sep : Str) : ∀ parts, PySem.Builtin.Str.glued sep parts = Str.join sep parts
  | [] => rfl
  | x :: r => zfW sep r x
def ze1 (ys : List Str) : Nat := (ys.map (·.length)).sum + ys.length
section
variable {X : Cx} (K : PySem.W.Frag)
theorem zpJ (h : X.K = K := by rfl) : MtR X "str.join" (fun x xs H Q => ∃ sep p ys, x = .str sep /\ xs = [.ref p] /\ (SqL K H p (ys.map V.str) \/ SqT K H p (ys.map V.str)) /\ sep.length <= 16 /\ ze1 ys <= 1048576 /\ Q (.str (Str.join sep ys)) H) := by
  subst h
  intro pins s σ H x xs v us Q I rx r h
  obtain ⟨sep, p, ys, rfl, rfl, hl, h1, h2, q⟩ := h
  obtain ⟨t, rfl⟩ := rx
  obtain ⟨u, rfl, ru⟩ := vals1 r
  cases ru
  rcases hl with hl | hl
  . obtain ⟨its, r', pl, hz⟩ := I.list hl
    refine join_listW pl.isList (by simpa using zee r') h1 h2 fun t' k => ⟨.str _, H, I.tok k, ⟨t', ?_⟩, q⟩
    show Value.str (PySem.Builtin.Str.glued sep ys) t' = _
    rw [zgG]
  . obtain ⟨its, r', pl, hz⟩ := I.tuple hl
    refine join_tupleW pl (by simpa using zee r') h1 h2 fun t' k => ⟨.str _, H, I.tok k, ⟨t', ?_⟩, q⟩
    show Value.str (PySem.Builtin.Str.glued sep ys) t' = _
    rw [zgG]
end
section
variable {X : Cx}
theorem zlP : OpR X (binaryOp .Mult) (fun x y H Q => ∃ c n, x = .str ⟨#[c]⟩ /\ y = .int n /\ 0 <= n /\ n <= 1000 /\ ∀ z : Str, z.cps.toList = List.replicate n.toNat c -> Q (.str z) H) := by
  intro pins s σ H x y v u Q I rx ry h
  obtain ⟨c, n, rfl, rfl, h0, h1, q⟩ := h
  obtain ⟨t, rfl⟩ := rx
  obtain ⟨t', rfl⟩ := ry
  refine SB.mul ⟨?_, ?_, ?_⟩ fun t' k => ⟨.str _, H, I.tok k, ⟨t', rfl⟩, q _ (mul_one_list c n)⟩
  . rw [decide_eq_false (by omega), decide_eq_false (by omega)]; rfl
  . intro a _
    have e : (⟨#[c]⟩ : Str).length = 1 := rfl
    rw [e]
    have : 1 <= (2 ^ 63 - 1) / n := Int.le_ediv_of_mul_le (by omega) (by omega)
    omega
  . intro a _
    have e : (⟨#[c]⟩ : Str).length = 1 := rfl
    rw [e]
    unfold PySem.Builtin.Str.tooLong
    simp only [Nat.one_mul, decide_eq_false_iff_not]
    have : n.toNat <= 1000 := by omega
    first
      | omega
      | (intro z; have := Nat.lt_of_lt_of_le z this; revert this; decide)
end
theorem zd5 : ∀ ys : List Str, (Str.join Str.empty ys).cps.toList = (ys.map fun y => y.cps.toList).flatten
  | [] => rfl
  | [y] => by simp [Str.join]
  | y :: z :: r => by
    have ih := zd5 (z :: r)
    show ((y ++ Str.empty ++ Str.join Str.empty (z :: r) : Str)).cps.toList = _
    have e : ∀ a b : Str, (a ++ b).cps.toList = a.cps.toList ++ b.cps.toList := fun a b => by
      show (a.cps ++ b.cps).toList = _
      simp
    rw [e, e, ih]
    simp [Str.empty]
theorem zrB {x y : Str} (h : x.cps.toList = y.cps.toList) : x = y := by
  cases x; cases y
  simp only [Str.mk.injEq]
  exact Array.toList_inj.mp h
end L2

namespace L2
open PySem PySem.Spec PyProof.Rows
def zhm (H : Hp) (a l : Addr) : Prop := ∃ (ns : List Int) (i b c : Int), H a = some (.lst [.ref l, .int i, .int b, .int c]) /\ H l = some (.lst (ns.map V.int)) /\ 0 <= i /\ 0 <= b /\ a ≠ l
def zb9 : Sp := fun vs H Q _ => ∃ (a l : Addr) (many : Int), vs = [.ref a, .int many] /\ zhm H a l /\ 0 < many /\ many < 2 ^ 250 /\ ∀ v H', 0 <= v -> v < many -> zhm H' a l -> ziA a H H' -> Q (.int v) H'
def zfa (K : PySem.W.Frag) : Sp := fun vs H Q _ => ∃ (a : Addr) (ns : List Int), vs = [.ref a] /\ SqL K H a (ns.map V.int) /\ ∀ (r l : Addr) (H' : Hp), H r = none -> H l = none -> zhm H' r l -> zhG H H' -> Q (.ref r) H'
theorem zjY (x : Str) : ∀ xs : List Str, inV (.str x) (xs.map V.str) = decide (x ∈ xs)
  | [] => by simp [inV]
  | y :: r => by
    have ih := zjY x r
    unfold inV at ih ⊢
    rw [List.map_cons, List.any_cons, ih]
    show ((y == x) || decide (x ∈ r)) = decide (x ∈ y :: r)
    by_cases h : y = x
    . subst h; simp
    . have h' : ¬ x = y := fun e => h e.symm
      simp [h, h']
structure Nm (x : Str) : Prop where
  l1 : 1 <= x.cps.toList.length
  l8 : x.cps.toList.length <= 8
  az : ∀ c ∈ x.cps.toList, 97 <= c /\ c <= 122
structure LR where
  a : Addr
  sa : Addr
  ea : Addr
  nm : Str
  S : List Str
  E : List Str
  w : Int
section
variable {κ : Addr -> Nat} {H H' : Hp} {s l na la : Addr} {ns ns' : List Str} {ls : List LR}
end
end L2

namespace L2
open PySem PySem.Spec PyProof.Rows
def zdM (one : Str) (bd : List Str) (r : LR) : Bool := !decide (r.nm ∈ bd) && (decide (one ∈ r.S) || decide (r.S.length < 6))
def zel (two : Str) (r : LR) : Bool := decide (two ∈ r.E) || decide (r.E.length < 6)
def za4 (x : Str) (S : List Str) : List Str := if x ∈ S then S else S ++ [x]
inductive zpl (one two : Str) (bd : List Str) (ns : List Str) (ls : List LR) (x : Str) : List Str -> List LR -> Prop
  | new (pa ps pe : Addr) (w : Int) : x ∉ ns -> Nm x -> ls.length < 14 -> 0 <= w -> w < 4 -> zpl one two bd ns ls x (ns ++ [x]) (ls ++ [⟨pa, ps, pe, x, [one], [two], w⟩])
  | old (i : Nat) (r : LR) : ls[i]? = some r -> r.nm = x -> zdM one bd r = true -> zel two r = true -> zpl one two bd ns ls x ns (ls.set i { r with S := za4 one r.S, E := za4 two r.E })
theorem zbZ {x y : Str} {S : List Str} : y ∈ za4 x S ↔ y ∈ S \/ y = x := by
  unfold za4
  split
  . exact ⟨.inl, fun h => h.elim id (fun e => by rw [e]; assumption)⟩
  . rw [List.mem_append, List.mem_singleton]
theorem zfN {x : Str} {S : List Str} (h : S.Nodup) : (za4 x S).Nodup := by
  unfold za4
  split
  . exact h
  . rename_i c
    exact List.nodup_append.mpr ⟨h, by simp, fun a ha b hb e => by rw [List.mem_singleton.mp hb] at e; exact c (e ▸ ha)⟩
theorem zir {x : Str} {S : List Str} : (za4 x S).length <= S.length + 1 := by
  unfold za4; split
  . omega
  . rw [List.length_append]; exact Nat.le_refl _
theorem zil {x : Str} {S : List Str} (h : x ∈ S \/ S.length < 6) (h6 : S.length <= 6) : (za4 x S).length <= 6 := by
  unfold za4; split
  . omega
  . rw [List.length_append]; rcases h with h | h
    . contradiction
    . show S.length + 1 <= 6; omega
def wide (r : LR) : Nat := max r.S.length r.E.length
def zdh (ls : List LR) : Nat := (ls.map wide).sum
structure zvk (ho ga : List Str) (r : LR) : Prop where
  sn : r.S.Nodup
  en : r.E.Nodup
  s0 : r.S ≠ []
  e0 : r.E ≠ []
  s6 : r.S.length <= 6
  e6 : r.E.length <= 6
  ss : ∀ x ∈ r.S, x ∈ ho ++ ga
  es : ∀ x ∈ r.E, x ∈ ho ++ ga
  w0 : 0 <= r.w
  w3 : r.w <= 3
structure zcI (ho ga ns : List Str) (ls : List LR) (h c : Nat) : Prop where
  nd : (ho ++ ga ++ ls.map LR.nm).Nodup
  sub : ∀ x ∈ ho ++ ga ++ ls.map LR.nm, x ∈ ns
  nms : ∀ x ∈ ns, Nm x
  nsd : ns.Nodup
  ends : ∀ r ∈ ls, zvk ho ga r
  len : ls.length <= 14
  hops : zdh ls <= h
  cnt : ns.length <= c + ls.length
def sig (ls : List LR) : List (Str × Int) := ls.map fun r => (r.nm, r.w)
def zdi (ns : List Str) (ls ls' : List LR) : Prop := (∀ r ∈ ls, ∃ r' ∈ ls', r'.nm = r.nm /\ r'.w = r.w /\ (∀ x ∈ r.S, x ∈ r'.S) /\ (∀ x ∈ r.E, x ∈ r'.E)) /\ ∃ ext, sig ls' = sig ls ++ ext /\ ∀ p ∈ ext, p.1 ∉ ns
theorem zdi.refl (ns : List Str) (ls : List LR) : zdi ns ls ls := ⟨fun r h => ⟨r, h, rfl, rfl, fun _ h => h, fun _ h => h⟩, [], by rw [List.append_nil], fun p hp => by cases hp⟩
theorem zdi.trans {ns ns' : List Str} {a b c : List LR} (x : zdi ns a b) (n : ∀ y ∈ ns, y ∈ ns') (y : zdi ns' b c) : zdi ns a c := ⟨fun r h => by
  obtain ⟨r1, h1, e1, e2, e3, e4⟩ := x.1 r h
  obtain ⟨r2, h2, f1, f2, f3, f4⟩ := y.1 r1 h1
  exact ⟨r2, h2, f1.trans e1, f2.trans e2, fun z hz => f3 z (e3 z hz), fun z hz => f4 z (e4 z hz)⟩, by
  obtain ⟨u, hu, hu'⟩ := x.2
  obtain ⟨v, hv, hv'⟩ := y.2
  exact ⟨u ++ v, by rw [hv, hu, List.append_assoc], fun p hp => (List.mem_append.mp hp).elim (hu' p) fun z q => hv' p z (n _ q)⟩⟩
def Joins (ls : List LR) (one x two : Str) : Prop := ∃ r ∈ ls, r.nm = x /\ one ∈ r.S /\ two ∈ r.E
theorem Joins.grow {ls ls' : List LR} {one x two : Str} (h : Joins ls one x two) {ns0 : List Str} (g : zdi ns0 ls ls') : Joins ls' one x two := by
  obtain ⟨r, hr, e, h1, h2⟩ := h
  obtain ⟨r', hr', f1, f2, f3, f4⟩ := g.1 r hr
  exact ⟨r', hr', f1.trans e, f3 _ h1, f4 _ h2⟩
theorem sum_set : ∀ {ls : List LR} {i : Nat} {r r' : LR}, ls[i]? = some r -> wide r' <= wide r + 1 -> zdh (ls.set i r') <= zdh ls + 1
  | [], _, _, _, h, _ => by simp at h
  | a :: t, 0, r, r', h, hw => by
    cases h
    unfold zdh
    rw [List.set_cons_zero, List.map_cons, List.map_cons, List.sum_cons, List.sum_cons]
    omega
  | a :: t, i + 1, r, r', h, hw => by
    have ih := sum_set (ls := t) (i := i) (by simpa using h) hw
    unfold zdh at ih ⊢
    rw [List.set_cons_succ, List.map_cons, List.map_cons, List.sum_cons, List.sum_cons]
    omega
theorem zhd {ls : List LR} {i : Nat} {q r' : LR} (h : q ∈ ls.set i r') : q ∈ ls \/ q = r' := List.mem_or_eq_of_mem_set h
theorem zqo {ho ga ns ns' : List Str} {ls ls' : List LR} {h c : Nat} {one two x : Str} {bd : List Str} (N : zcI ho ga ns ls h c) (h1 : one ∈ ho ++ ga) (h2 : two ∈ ho ++ ga) (hb : ∀ y ∈ bd, y ∈ ns) (R : zpl one two bd ns ls x ns' ls') :
    zcI ho ga ns' ls' (h + 1) c /\ zdi ns ls ls' /\ Joins ls' one x two /\ x ∉ bd /\ (∀ y ∈ ns, y ∈ ns') /\ x ∉ ho ++ ga /\ x ∈ ns' := by
  cases R with
  | new pa ps pe w hx nm hl w0 w4 =>
    refine ⟨⟨?_, ?_, ?_, ?_, ?_, ?_, ?_, ?_⟩, ?_, ?_, fun z => hx (hb x z), fun y hy => List.mem_append_left _ hy, fun z => hx (N.sub x (List.mem_append_left _ z)), by simp⟩
    . rw [List.map_append, <- List.append_assoc]
      refine List.nodup_append.mpr ⟨N.nd, by simp, fun a ha b hb e => ?_⟩
      rw [show b = x by simpa using hb] at e
      exact hx (e ▸ N.sub a ha)
    . intro y hy
      rw [List.map_append, <- List.append_assoc] at hy
      rcases List.mem_append.mp hy with hy | hy
      . exact List.mem_append_left _ (N.sub y hy)
      . exact List.mem_append_right _ (by simpa using hy)
    . intro y hy
      rcases List.mem_append.mp hy with hy | hy
      . exact N.nms y hy
      . rw [List.mem_singleton.mp hy]; exact nm
    . exact List.nodup_append.mpr ⟨N.nsd, by simp, fun a ha b hb e => by rw [List.mem_singleton.mp hb] at e; exact hx (e ▸ ha)⟩
    . intro r hr
      rcases List.mem_append.mp hr with hr | hr
      . exact N.ends r hr
      . rw [List.mem_singleton.mp hr]
        exact ⟨by simp, by simp, by simp, by simp, by simp, by simp, fun y hy => by rw [List.mem_singleton.mp hy]; exact h1, fun y hy => by rw [List.mem_singleton.mp hy]; exact h2, w0, by show w <= 3; omega⟩
    . rw [List.length_append]; exact hl
    . unfold zdh
      rw [List.map_append, List.sum_append]
      have := N.hops
      unfold zdh at this
      show _ + (1 + 0) <= h + 1
      omega
    . rw [List.length_append, List.length_append]
      have := N.cnt
      show ns.length + 1 <= c + (ls.length + 1)
      omega
    . exact ⟨fun r hr => ⟨r, List.mem_append_left _ hr, rfl, rfl, fun _ h => h, fun _ h => h⟩, [(x, w)], by unfold sig; rw [List.map_append]; rfl, fun p hp => by rw [List.mem_singleton.mp hp]; exact hx⟩
    . exact ⟨_, List.mem_append_right _ (List.mem_singleton.mpr rfl), rfl, by simp, by simp⟩
  | old i r hi hn f1 f2 =>
    have hm : r ∈ ls := List.mem_of_getElem? hi
    have hlt : i < ls.length := by
      by_cases h : i < ls.length
      . exact h
      . rw [List.getElem?_eq_none (by omega)] at hi; cases hi
    have em : (ls.set i { r with S := za4 one r.S, E := za4 two r.E }).map LR.nm = ls.map LR.nm := by
      rw [List.map_set]
      apply List.ext_getElem?
      intro j
      rw [List.getElem?_set]
      split
      . rename_i e; subst e; rw [List.length_map, if_pos hlt, List.getElem?_map, hi]; rfl
      . rfl
    have E := N.ends r hm
    unfold zdM at f1
    unfold zel at f2
    simp only [Bool.and_eq_true, Bool.or_eq_true, decide_eq_true_eq, Bool.not_eq_true', decide_eq_false_iff_not] at f1 f2
    have hnew : { r with S := za4 one r.S, E := za4 two r.E } ∈ ls.set i { r with S := za4 one r.S, E := za4 two r.E } := List.mem_of_getElem? (i := i) (by rw [List.getElem?_set, if_pos rfl, if_pos hlt])
    have hx : x ∈ ls.map LR.nm := by rw [<- hn]; exact List.mem_map.mpr ⟨r, hm, rfl⟩
    refine ⟨⟨by rw [em]; exact N.nd, by rw [em]; exact N.sub, N.nms, N.nsd, fun q hq => ?_, by rw [List.length_set]; exact N.len, ?_, by rw [List.length_set]; exact N.cnt⟩, ?_, ?_, by rw [<- hn]; exact f1.1, fun y hy => hy, fun z => ?_, N.sub x (List.mem_append_right _ hx)⟩
    . rcases zhd hq with hq | rfl
      . exact N.ends q hq
      . exact ⟨zfN E.sn, zfN E.en, List.ne_nil_of_mem (zbZ.mpr (.inr rfl)), List.ne_nil_of_mem (zbZ.mpr (.inr rfl)), zil f1.2 E.s6, zil f2 E.e6,
          fun y hy => (zbZ.mp hy).elim (E.ss y) (fun e => e ▸ h1), fun y hy => (zbZ.mp hy).elim (E.es y) (fun e => e ▸ h2), E.w0, E.w3⟩
    . have := sum_set (r' := { r with S := za4 one r.S, E := za4 two r.E }) hi (by
        unfold wide
        have a := zir (x := one) (S := r.S)
        have b := zir (x := two) (S := r.E)
        show max (za4 one r.S).length (za4 two r.E).length <= _
        omega)
      have := N.hops
      omega
    . refine ⟨fun q hq => ?_, [], ?_, fun p hp => by cases hp⟩
      rotate_left
      . rw [List.append_nil]
        unfold sig
        rw [List.map_set]
        apply List.ext_getElem?
        intro j
        rw [List.getElem?_set]
        split
        . rename_i e; subst e; rw [List.length_map, if_pos hlt, List.getElem?_map, hi]; rfl
        . rfl
      by_cases e : q = r
      . subst e
        exact ⟨_, hnew, rfl, rfl, fun y hy => zbZ.mpr (.inl hy), fun y hy => zbZ.mpr (.inl hy)⟩
      . obtain ⟨j, hj⟩ := List.mem_iff_getElem?.mp hq
        have hji : i ≠ j := fun z => by subst z; rw [hi] at hj; cases hj; exact e rfl
        exact ⟨q, List.mem_of_getElem? (i := j) (by rw [List.getElem?_set, if_neg hji]; exact hj), rfl, rfl, fun _ h => h, fun _ h => h⟩
    . exact ⟨_, hnew, hn, zbZ.mpr (.inr rfl), zbZ.mpr (.inr rfl)⟩
    . exact (List.nodup_append.mp N.nd).2.2 x z x hx rfl
def beside (ho ga bd : List Str) : Nat := (bd.filter fun x => !decide (x ∈ ho ++ ga)).length
theorem zem (ho ga a b : List Str) : beside ho ga (a ++ b) = beside ho ga a + beside ho ga b := by unfold beside; rw [List.filter_append, List.length_append]
theorem zjU : ∀ {ls : List LR}, (∀ r ∈ ls, 1 <= wide r) -> ls.length + 5 * (ls.filter fun r => decide (6 <= wide r)).length <= zdh ls
  | [], _ => by simp [zdh]
  | r :: t, h => by
    have ih := zjU (ls := t) fun q hq => h q (List.mem_cons_of_mem _ hq)
    have h1 := h r List.mem_cons_self
    unfold zdh at ih ⊢
    rw [List.map_cons, List.sum_cons, List.filter_cons, List.length_cons]
    split
    . rename_i c
      have := of_decide_eq_true c
      rw [List.length_cons]; omega
    . omega
theorem split_len {α : Type} (p q : α -> Bool) : ∀ {ls : List α}, (∀ r ∈ ls, p r = true \/ q r = true) -> ls.length <= (ls.filter p).length + (ls.filter q).length
  | [], _ => by simp
  | r :: t, h => by
    have ih := split_len p q (ls := t) fun x hx => h x (List.mem_cons_of_mem _ hx)
    have h1 := h r List.mem_cons_self
    rw [List.filter_cons, List.filter_cons, List.length_cons]
    split <;> split
    . rw [List.length_cons, List.length_cons]; omega
    . rw [List.length_cons]; omega
    . rw [List.length_cons]; omega
    . rename_i a b; rcases h1 with h1 | h1
      . exact absurd h1 a
      . exact absurd h1 b
theorem ztD {ho ga ns : List Str} {ls : List LR} {h c : Nat} (N : zcI ho ga ns ls h c) (hh : h <= 47) (one two : Str) {bd : List Str} (hb : beside ho ga bd <= 5) (hl : ls.length = 14) : ∃ r ∈ ls, zdM one bd r = true /\ zel two r = true := by
  apply Classical.byContradiction
  intro no
  have all : ∀ r ∈ ls, decide (r.nm ∈ bd) = true \/ decide (6 <= wide r) = true := fun r hr => by
    apply Classical.byContradiction
    intro z
    apply no
    have z1 : ¬ r.nm ∈ bd := fun y => z (.inl (decide_eq_true y))
    have z2 : ¬ 6 <= wide r := fun y => z (.inr (decide_eq_true y))
    unfold wide at z2
    refine ⟨r, hr, ?_, ?_⟩
    . unfold zdM; simp only [Bool.and_eq_true, Bool.or_eq_true, decide_eq_true_eq, Bool.not_eq_true', decide_eq_false_iff_not]; exact ⟨z1, .inr (by omega)⟩
    . unfold zel; simp only [Bool.or_eq_true, decide_eq_true_eq]; exact .inr (by omega)
  have a := split_len _ _ all
  have b := zjU (ls := ls) fun r hr => by
    have E := (N.ends r hr).s0
    have := List.length_pos_iff.mpr E
    unfold wide; omega
  have hs := N.hops
  have nd2 : (ls.map LR.nm).Nodup := (List.nodup_append.mp N.nd).2.1
  have d : (ls.filter fun r => decide (r.nm ∈ bd)).length <= beside ho ga bd := by
    have nd3 : ((ls.filter fun r => decide (r.nm ∈ bd)).map LR.nm).Nodup := nd2.sublist (List.Sublist.map _ List.filter_sublist)
    have := List.Nodup.length_le_of_subset (l₂ := bd.filter fun x => !decide (x ∈ ho ++ ga)) nd3 (fun x hx => by
      obtain ⟨r, hr, rfl⟩ := List.mem_map.mp hx
      obtain ⟨m1, m2⟩ := List.mem_filter.mp hr
      refine List.mem_filter.mpr ⟨of_decide_eq_true m2, ?_⟩
      rw [decide_eq_false]
      . rfl
      . exact fun z => (List.nodup_append.mp N.nd).2.2 _ z _ (List.mem_map.mpr ⟨r, m1, rfl⟩) rfl)
    rw [List.length_map] at this
    exact this
  omega
structure Way (ho ga ns : List Str) (ls : List LR) (bd : List Str) (first : Str) (k m : Nat) (wh : List Str) : Prop where
  len : wh.length = 2 * k + 1
  hd : wh[0]? = some first
  nd : wh.Nodup
  jn : ∀ i x y z, wh[2 * i]? = some x -> wh[2 * i + 1]? = some y -> wh[2 * i + 2]? = some z -> Joins ls x y z
  ln : ∀ i y, wh[2 * i + 1]? = some y -> y ∉ ho ++ ga /\ y ∉ bd
  gt : ∀ i x, 2 * i + 2 < m -> wh[2 * i + 2]? = some x -> x ∈ ga /\ x ∉ bd
  nn : ∀ i x, wh[2 * i]? = some x -> x ∈ ho ++ ga
  sub : ∀ y ∈ wh, y ∈ ns
  bs : beside ho ga wh <= k
theorem Way.one {ho ga ns : List Str} {ls : List LR} {bd : List Str} {first : Str} (h : first ∈ ho ++ ga) (hn : first ∈ ns) : Way ho ga ns ls bd first 0 1 [first] where
  len := rfl
  hd := rfl
  nd := by simp
  jn := fun i x y z _ e _ => by rw [List.getElem?_eq_none (by show 1 <= _; omega)] at e; cases e
  ln := fun i y e => by rw [List.getElem?_eq_none (by show 1 <= _; omega)] at e; cases e
  gt := fun i y hm e => by omega
  nn := fun i x e => by
    have : i = 0 := Classical.byContradiction fun z => by rw [List.getElem?_eq_none (by show 1 <= _; omega)] at e; cases e
    subst this
    cases e
    exact h
  sub := fun y hy => by rw [List.mem_singleton.mp hy]; exact hn
  bs := by unfold beside; rw [List.filter_cons, if_neg (by rw [decide_eq_true h]; decide)]; exact Nat.le_refl _
theorem Way.grow {ho ga ns ns' : List Str} {ls ls' : List LR} {bd : List Str} {first : Str} {k m : Nat} {wh : List Str} (W : Way ho ga ns ls bd first k m wh) {ns0 : List Str} (g : zdi ns0 ls ls') (n : ∀ y ∈ ns, y ∈ ns') : Way ho ga ns' ls' bd first k m wh :=
  ⟨W.len, W.hd, W.nd, fun i x y z a b c => (W.jn i x y z a b c).grow g, W.ln, W.gt, W.nn, fun y hy => n y (W.sub y hy), W.bs⟩
theorem Way.step {ho ga ns : List Str} {ls : List LR} {bd : List Str} {first : Str} {k : Nat} {wh : List Str} (W : Way ho ga ns ls bd first k (2 * k + 1) wh) {one x two : Str} (h1 : wh[2 * k]? = some one) (j : Joins ls one x two) (xg : x ∉ ho ++ ga) (xb : x ∉ bd) (xw : x ∉ wh) (xn : x ∈ ns)
    (tw : two ∉ wh) (tg : two ∈ ho ++ ga) (tn : two ∈ ns) : Way ho ga ns ls bd first (k + 1) (2 * k + 2) (wh ++ [x, two]) /\ (two ∈ ga -> two ∉ bd -> Way ho ga ns ls bd first (k + 1) (2 * k + 3) (wh ++ [x, two])) := by
  have hl := W.len
  have L : ∀ i, i < 2 * k + 1 -> (wh ++ [x, two])[i]? = wh[i]? := fun i hi => List.getElem?_append_left (by omega)
  have X : (wh ++ [x, two])[2 * k + 1]? = some x := by rw [List.getElem?_append_right (by omega), hl, Nat.sub_self]; rfl
  have T : (wh ++ [x, two])[2 * k + 2]? = some two := by rw [List.getElem?_append_right (by omega), hl, show 2 * k + 2 - (2 * k + 1) = 1 by omega]; rfl
  have O : ∀ i, 2 * k + 3 <= i -> (wh ++ [x, two])[i]? = none := fun i hi => List.getElem?_eq_none (by rw [List.length_append, hl]; exact hi)
  have xt : x ≠ two := fun e => xg (e ▸ tg)
  have base : ∀ m, (∀ i y, 2 * i + 2 < m -> (wh ++ [x, two])[2 * i + 2]? = some y -> y ∈ ga /\ y ∉ bd) -> Way ho ga ns ls bd first (k + 1) m (wh ++ [x, two]) := fun m hm => by
    refine ⟨by rw [List.length_append, hl]; show 2 * k + 1 + 2 = _; omega, by rw [L 0 (by omega)]; exact W.hd, List.nodup_append.mpr ⟨W.nd, by simp [xt], fun a ha b hb e => ?_⟩, fun i a b c ea eb ec => ?_, fun i y e => ?_, hm, fun i y e => ?_, fun y hy => ?_, ?_⟩
    . subst e
      rcases List.mem_cons.mp hb with e | hb
      . exact xw (e ▸ ha)
      . exact tw (List.mem_singleton.mp hb ▸ ha)
    . rcases Nat.lt_trichotomy i k with hi | hi | hi
      . rw [L _ (by omega)] at ea eb ec
        exact W.jn i a b c ea eb ec
      . subst hi
        rw [L _ (by omega), h1] at ea
        rw [X] at eb
        rw [T] at ec
        cases ea; cases eb; cases ec
        exact j
      . rw [O _ (by omega)] at eb; cases eb
    . rcases Nat.lt_trichotomy i k with hi | hi | hi
      . rw [L _ (by omega)] at e
        exact W.ln i y e
      . subst hi
        rw [X] at e; cases e
        exact ⟨xg, xb⟩
      . rw [O _ (by omega)] at e; cases e
    . rcases Nat.lt_trichotomy i (k + 1) with hi | hi | hi
      . rw [L _ (by omega)] at e
        exact W.nn i y e
      . subst hi
        rw [show 2 * (k + 1) = 2 * k + 2 by omega, T] at e; cases e
        exact tg
      . rw [O _ (by omega)] at e; cases e
    . rcases List.mem_append.mp hy with hy | hy
      . exact W.sub y hy
      . rcases List.mem_cons.mp hy with e | hy
        . exact e ▸ xn
        . exact List.mem_singleton.mp hy ▸ tn
    . rw [zem]
      have := W.bs
      have e : beside ho ga [x, two] = 1 := by
        unfold beside
        rw [List.filter_cons, if_pos (by rw [decide_eq_false xg]; rfl), List.filter_cons, if_neg (by rw [decide_eq_true tg]; decide)]; rfl
      omega
  refine ⟨base _ fun i y hi e => ?_, fun g b => base _ fun i y hi e => ?_⟩
  . rw [L _ (by omega)] at e
    exact W.gt i y (by omega) e
  . by_cases c : i = k
    . subst c; rw [T] at e; cases e; exact ⟨g, b⟩
    . rw [L _ (by omega)] at e
      exact W.gt i y (by omega) e
theorem Way.mem {ho ga ns : List Str} {ls : List LR} {bd : List Str} {first : Str} {k m : Nat} {wh : List Str} (W : Way ho ga ns ls bd first k m wh) {y : Str} (hy : y ∈ wh) (hm : 2 * k + 1 <= m) : y = first \/ y ∉ ho ++ ga \/ y ∈ ga := by
  obtain ⟨j, hj⟩ := List.mem_iff_getElem?.mp hy
  have hlt : j < 2 * k + 1 := by
    by_cases h : j < 2 * k + 1
    . exact h
    . rw [List.getElem?_eq_none (by rw [W.len]; omega)] at hj; cases hj
  rcases Nat.mod_two_eq_zero_or_one j with e | e
  . by_cases z : j = 0
    . subst z; rw [W.hd] at hj; cases hj; exact .inl rfl
    . obtain ⟨i, rfl⟩ : ∃ i, j = 2 * i + 2 := ⟨j / 2 - 1, by omega⟩
      exact .inr (.inr (W.gt i y (by omega) hj).1)
  . obtain ⟨i, rfl⟩ : ∃ i, j = 2 * i + 1 := ⟨j / 2, by omega⟩
    exact .inr (.inl (W.ln i y hj).1)
theorem zeq {x : Str} : ∀ {l : List Str}, l.Nodup -> l.length <= (l.filter fun y => !decide (y = x)).length + 1
  | [], _ => by simp
  | y :: t, h => by
    obtain ⟨h1, h2⟩ := List.nodup_cons.mp h
    rw [List.filter_cons, List.length_cons]
    by_cases e : y = x
    . subst e
      rw [if_neg (by simp), List.filter_eq_self.mpr (fun z hz => by
        rw [decide_eq_false]
        . rfl
        . exact fun q => h1 (q ▸ hz))]
      exact Nat.le_refl _
    . rw [if_pos (by rw [decide_eq_false e]; rfl), List.length_cons]
      have := zeq (x := x) h2
      omega
theorem zcI.nd2 {ho ga ns : List Str} {ls : List LR} {h c : Nat} (N : zcI ho ga ns ls h c) {x : Str} (a : x ∈ ho) (b : x ∈ ga) : False :=
  (List.nodup_append.mp (List.nodup_append.mp N.nd).1).2.2 x a x b rfl
theorem zcI.more {ho ga ns : List Str} {ls : List LR} {h h' c : Nat} (N : zcI ho ga ns ls h c) (l : h <= h') : zcI ho ga ns ls h' c := ⟨N.nd, N.sub, N.nms, N.nsd, N.ends, N.len, Nat.le_trans N.hops l, N.cnt⟩
def zcx (ls : List LR) (way : List Str) (lo sl : Int) : Int := ls.foldl (fun m r => if r.nm ∈ way then m + lo + r.w + sl else m) 0
def zh9 (ls : List LR) (ways : List (List Str)) (lo sl : Int) : Int := ways.foldl (fun m way => if zcx ls way lo sl > m then zcx ls way lo sl else m) 0
structure RW where
  nm : Str
  ways : List (List Str)
  e : Int
  lo : Int
  re : Int
  lst : Int
def inner (w : List Str) : List Str := (w.drop 1).take (w.length - 2)
theorem znO {w : List Str} {x : Str} (h : x ∈ inner w) : x ∈ w := List.mem_of_mem_drop (List.mem_of_mem_take h)
theorem zm2 (w : List Str) : (inner w).length <= w.length := by unfold inner; rw [List.length_take, List.length_drop]; omega
theorem zi5 (ho ga w : List Str) : beside ho ga (inner w) <= beside ho ga w := by
  unfold beside inner
  exact (((List.take_sublist _ _).trans (List.drop_sublist _ _)).filter _).length_le
theorem zcI.named {ho ga ns : List Str} {ls : List LR} {h c : Nat} {x : Str} (N : zcI ho ga ns ls h c) (hx : x ∉ ns) (nm : Nm x) : zcI ho ga (ns ++ [x]) ls h (c + 1) where
  nd := N.nd
  sub := fun y hy => List.mem_append_left _ (N.sub y hy)
  nms := fun y hy => (List.mem_append.mp hy).elim (N.nms y) fun z => List.mem_singleton.mp z ▸ nm
  nsd := List.nodup_append.mpr ⟨N.nsd, by simp, fun a ha b hb e => by rw [List.mem_singleton.mp hb] at e; exact hx (e ▸ ha)⟩
  ends := N.ends
  len := N.len
  hops := N.hops
  cnt := by rw [List.length_append]; have := N.cnt; show ns.length + 1 <= _; omega
def zje : List Int := [12, 8, 20, 24, 10, 30, 15, 40, 60, 12, 120]
structure zfY (ho ga ns : List Str) (ls : List LR) (sl : Int) (r : RW) : Prop where
  nmn : r.nm ∈ ns
  nmo : r.nm ∉ ho ++ ga ++ ls.map LR.nm
  way : ∃ first last w1 k1, first ∈ ho /\ last ∈ ho /\ first ≠ last /\ 1 <= k1 /\ k1 <= 3 /\ Way ho ga ns ls [] first k1 (2 * k1) w1 /\ w1[2 * k1]? = some last /\ (r.ways = [w1] \/ ∃ w2 k2, r.ways = [w1, w2] /\ 1 <= k2 /\ k2 <= 3 /\ Way ho ga ns ls (inner w1) first k2 (2 * k2) w2 /\ w2[2 * k2]? = some last)
  ev : r.e ∈ zje
  l1 : 1 <= r.lo
  l4 : r.lo <= 4
  le : r.lo + sl <= r.e
  r0 : 0 <= r.re
  re : r.re < r.e
  lst : ∃ spare, r.lst = zh9 ls r.ways r.lo sl + spare /\ spare ∈ [0, 1, 2, r.e / 2, 3, r.e - 1, 6]
theorem zhS (ls : List LR) : ls.map LR.nm = (sig ls).map Prod.fst := by unfold sig; rw [List.map_map]; rfl
theorem zfP (ls : List LR) (way : List Str) (lo sl : Int) : zcx ls way lo sl = (sig ls).foldl (fun m r => if r.1 ∈ way then m + lo + r.2 + sl else m) 0 := by
  unfold zcx sig; rw [List.foldl_map]
theorem zgI {way : List Str} {lo sl : Int} : ∀ {ext : List (Str × Int)} (m : Int), (∀ p ∈ ext, p.1 ∉ way) -> ext.foldl (fun m r => if r.1 ∈ way then m + lo + r.2 + sl else m) m = m
  | [], _, _ => rfl
  | p :: t, m, h => by
    rw [List.foldl_cons, if_neg (h p List.mem_cons_self)]
    exact zgI m fun q hq => h q (List.mem_cons_of_mem _ hq)
theorem zjd {ns : List Str} {ls ls' : List LR} {way : List Str} {lo sl : Int} (g : zdi ns ls ls') (h : ∀ y ∈ way, y ∈ ns) : zcx ls' way lo sl = zcx ls way lo sl := by
  obtain ⟨_, ext, e, hn⟩ := g
  rw [zfP, zfP, e, List.foldl_append]
  exact zgI _ fun p hp z => hn p hp (h _ z)
theorem zlg {ns : List Str} {ls ls' : List LR} {lo sl : Int} (g : zdi ns ls ls') : ∀ {ways : List (List Str)}, (∀ way ∈ ways, ∀ y ∈ way, y ∈ ns) -> zh9 ls' ways lo sl = zh9 ls ways lo sl := by
  intro ways
  unfold zh9
  generalize (0 : Int) = m
  induction ways generalizing m with
  | nil => intro _; rfl
  | cons w t ih =>
    intro h
    rw [List.foldl_cons, List.foldl_cons, zjd g (h w List.mem_cons_self)]
    exact ih _ fun v hv => h v (List.mem_cons_of_mem _ hv)
theorem zfY.sub {ho ga ns : List Str} {ls : List LR} {sl : Int} {r : RW} (R : zfY ho ga ns ls sl r) : ∀ way ∈ r.ways, ∀ y ∈ way, y ∈ ns := by
  obtain ⟨first, last, w1, k1, _, _, _, _, _, Y, _, h⟩ := R.way
  intro way hw
  rcases h with e | ⟨w2, k2, e, _, _, Y2, _⟩
  . rw [e] at hw; rw [List.mem_singleton.mp hw]; exact Y.sub
  . rw [e] at hw
    rcases List.mem_cons.mp hw with rfl | hw
    . exact Y.sub
    . rw [List.mem_singleton.mp hw]; exact Y2.sub
theorem zfY.grow {ho ga ns ns' : List Str} {ls ls' : List LR} {sl : Int} {r : RW} (R : zfY ho ga ns ls sl r) (g : zdi ns ls ls') (n : ∀ y ∈ ns, y ∈ ns') : zfY ho ga ns' ls' sl r where
  nmn := n _ R.nmn
  nmo := fun z => by
    obtain ⟨_, ext, e, hn⟩ := g
    rw [zhS, e, List.map_append, <- zhS, <- List.append_assoc] at z
    rcases List.mem_append.mp z with z | z
    . exact R.nmo z
    . obtain ⟨p, hp, ep⟩ := List.mem_map.mp z
      exact hn p hp (ep ▸ R.nmn)
  way := by
    obtain ⟨first, last, w1, k1, a1, a2, a3, a4, a5, Y, a6, h⟩ := R.way
    refine ⟨first, last, w1, k1, a1, a2, a3, a4, a5, Y.grow g n, a6, ?_⟩
    rcases h with e | ⟨w2, k2, e, b1, b2, Y2, b3⟩
    . exact .inl e
    . exact .inr ⟨w2, k2, e, b1, b2, Y2.grow g n, b3⟩
  ev := R.ev
  l1 := R.l1
  l4 := R.l4
  le := R.le
  r0 := R.r0
  re := R.re
  lst := by
    obtain ⟨sp, e, h⟩ := R.lst
    exact ⟨sp, by rw [zlg g R.sub]; exact e, h⟩
theorem zo1 {xs : List Str} {i j : Nat} {x : Str} (nd : xs.Nodup) (h1 : xs[i]? = some x) (h2 : xs[j]? = some x) : i = j := by
  have hi : i < xs.length := by
    by_cases h : i < xs.length
    . exact h
    . rw [List.getElem?_eq_none (by omega)] at h1; cases h1
  exact (List.getElem?_inj hi nd).mp (h1.trans h2.symm)
end L2

namespace L2
open PySem PySem.Spec PyProof.Rows
def zdd (σ : List Str) (v : Str) : List Str := if σ.any (· == v) = true then σ else σ ++ [v]
def zdm (val : Nat -> Str) (i : Nat) : List Str := ((List.range i).map val).foldl zdd []
theorem znl (val : Nat -> Str) : zdm val 0 = [] := rfl
theorem zfB (val : Nat -> Str) (i : Nat) : zdm val (i + 1) = zdd (zdm val i) (val i) := by
  unfold zdm; rw [List.range_succ, List.map_append, List.foldl_append]; rfl
theorem zim (σ : List Str) (v : Str) : (zdd σ v).length = if σ.any (· == v) = true then σ.length else σ.length + 1 := by
  unfold zdd; split <;> simp
theorem zf0 (val : Nat -> Str) : ∀ i, (zdm val i).length <= i
  | 0 => by rw [znl]; exact Nat.le_refl _
  | i + 1 => by
    rw [zfB, zim]
    have ih := zf0 val i
    split <;> omega
theorem zmJ (σ : List Str) (v k : Str) : (zdd σ v).any (· == k) = (σ.any (· == k) || decide (k = v)) := by
  unfold zdd
  by_cases h : σ.any (· == v) = true
  . rw [if_pos h]
    by_cases e : k = v
    . subst e; rw [h]; simp
    . simp [e]
  . rw [if_neg h, List.any_append]
    by_cases e : k = v
    . subst e; simp
    . have hb : (v == k) = false := by simpa [beq_iff_eq] using (fun h' : v = k => e h'.symm)
      simp [hb, e]
theorem zmw {σ : List Str} {v : Str} : σ.any (· == v) = true ↔ v ∈ σ := by
  rw [List.any_eq_true]
  exact ⟨fun ⟨x, hx, e⟩ => by rw [beq_iff_eq] at e; exact e ▸ hx, fun h => ⟨v, h, by simp⟩⟩
theorem zho : ∀ (ys acc : List Str), acc.Nodup -> ((ys.foldl zdd acc).length = acc.length + ys.length ↔ (acc ++ ys).Nodup) /\ (ys.foldl zdd acc).length <= acc.length + ys.length
  | [], acc, h => by simp [h]
  | y :: t, acc, h => by
    rw [List.foldl_cons]
    by_cases c : y ∈ acc
    . have e : zdd acc y = acc := by unfold zdd; rw [if_pos (zmw.mpr c)]
      rw [e]
      obtain ⟨_, ih⟩ := zho t acc h
      refine ⟨⟨fun z => ?_, fun z => ?_⟩, ?_⟩
      . rw [List.length_cons] at z; omega
      . exact absurd rfl ((List.nodup_append.mp z).2.2 y c y List.mem_cons_self)
      . rw [List.length_cons]; omega
    . have e : zdd acc y = acc ++ [y] := by unfold zdd; rw [if_neg (fun z => c (zmw.mp z))]
      have h' : (acc ++ [y]).Nodup := List.nodup_append.mpr ⟨h, by simp, fun a ha b hb q => by rw [List.mem_singleton.mp hb] at q; exact c (q ▸ ha)⟩
      obtain ⟨ih1, ih2⟩ := zho t (acc ++ [y]) h'
      rw [e]
      rw [List.length_append, List.append_assoc] at ih1
      rw [List.length_append] at ih2
      rw [List.length_cons]
      have l1 : ([y] : List Str).length = 1 := rfl
      rw [l1] at ih1 ih2
      refine ⟨⟨fun z => ih1.mp (by omega), fun z => ?_⟩, by omega⟩
      have := ih1.mpr z
      omega
def zhZ (ys : List Str) : Nat := (ys.foldl zdd []).length
theorem zkt {ys : List Str} (h : ys.Nodup) : zhZ ys = ys.length := by
  have := (zho ys [] (by simp)).1.mpr (by simpa using h)
  unfold zhZ
  simpa using this
theorem zpg (ys : List Str) : zdm (fun i => ys.getD i Str.empty) ys.length = ys.foldl zdd [] := by
  unfold zdm
  congr 1
  apply List.ext_getElem?
  intro i
  rw [List.getElem?_map]
  by_cases h : i < ys.length
  . rw [List.getElem?_range h, List.getElem?_eq_getElem h]
    show some (ys.getD i Str.empty) = _
    rw [List.getD_eq_getElem?_getD, List.getElem?_eq_getElem h]; rfl
  . rw [List.getElem?_eq_none (by rw [List.length_range]; omega), List.getElem?_eq_none (by omega)]; rfl
theorem StrsAre.str_at : ∀ {vs : List Value} {ns : List Str}, StrsAre vs ns -> ∀ (i : Nat) (v : Value), vs[i]? = some v -> ∃ t, v = .str (ns.getD i Str.empty) t
  | _, _, .nil, i, v, h => by simp at h
  | _, _, .cons n t hr, 0, v, h => by simp at h; exact ⟨t, by rw [<- h]; rfl⟩
  | _, _, .cons n t hr, i + 1, v, h => by
    simp only [List.getElem?_cons_succ] at h
    obtain ⟨t', e⟩ := StrsAre.str_at hr i v h
    exact ⟨t', by rw [e]; rfl⟩
section
variable {prog : Program} {w : World} {A : Around} {R : Result -> Shared -> Prop} {I : Addr} {fp wr : List Addr} {G : Array GenState -> Array GenState -> Prop} {n : Nat} {P : Nat -> Value -> Prop} {St : Nat -> Shared -> Prop}
theorem znC (W : WalksS prog w A.in1 I fp wr G n P St) (S : Addr) (hSf : S ∉ fp)
    (val : Nat -> Str) (hval : ∀ i v, P i v -> ∃ t, v = .str (val i) t) (hb : n + 1 < scanBound) :
    ∀ (k i : Nat) (s : Shared), n - i = k -> i <= n -> St i s ->
      s.heap.SetOf (strKind prog w) S (fun k' => (zdm val i).any (· == k')) (zdm val i).length ->
      (∀ s', Moved (S :: wr) G s s' -> s'.heap.SetOf (strKind prog w) S (fun k' => (zdm val n).any (· == k')) (zdm val n).length -> R (.ok (.ret .none)) s') ->
      codeAny (model prog w) A (.builtin "set.update.loop" ⟨[.ref S, .ref I], []⟩) R s := by
  have hSw : S ∉ wr := fun h => hSf (W.sub _ h)
  have hsub : ∀ b ∈ wr, b ∈ S :: wr := fun b hb => List.mem_cons_of_mem _ hb
  intro k
  induction k with
  | zero =>
    intro i s hk hi hst hS hR
    have hin : i = n := by omega
    subst hin
    refine codeAny_builtin PyProof.Rows.F.entry_set_update_loop ?_
    rw [Around.under_plainId PyProof.Rows.F.plain_set_update_loop _]
    show wpAny _ A.in1 (pyNext (.ref I) >>= _) _ _ s
    refine wpAny_bind (W.done s _ _ hst fun s' hm => ?_)
    show wpAny _ A.in1 (ret Value.none) _ _ s'
    exact wpAny_pure (hR s' (hm.mono hsub) (by
      obtain ⟨o, es, ep, t, ho, rest⟩ := hS
      exact ⟨o, es, ep, t, hm.heap S _ hSw ho, rest⟩))
  | succ k ih =>
    intro i s hk hi hst hS hR
    have hlt : i < n := by omega
    refine codeAny_builtin PyProof.Rows.F.entry_set_update_loop ?_
    rw [Around.under_plainId PyProof.Rows.F.plain_set_update_loop _]
    show wpAny _ A.in1 (pyNext (.ref I) >>= _) _ _ s
    refine wpAny_bind (W.item i s _ _ hlt hst fun v s' hP hst' hm => ?_)
    obtain ⟨t, rfl⟩ := hval i v hP
    have hS' : s'.heap.SetOf (strKind prog w) S (fun k' => (zdm val i).any (· == k')) (zdm val i).length := by
      obtain ⟨o, es, ep, tb, ho, rest⟩ := hS
      exact ⟨o, es, ep, tb, hm.heap S _ hSw ho, rest⟩
    show wpAny _ A.in1 (holding [Value.str (val i) t] (setAdd S (.str (val i) t)) >>= _) _ _ s'
    refine wpAny_bind (wpAny_holding ?_)
    unfold setAdd
    refine wpAny_holding ?_
    refine wpAny_bind ((strKind prog w).pyHash (k := val i) (strKind_is _ _ _ _) ?_)
    have hroom : (zdm val i).length + 1 < scanBound := by have := zf0 val i; omega
    refine wpAny_setAddHashed_of (knd := strKind prog w) (s := { s' with toks := s'.toks + 1 }) (strKind_is _ _ _ _) rfl hS' hroom fun h' hsb hS2 => ?_
    have hSi : h'.SetOf (strKind prog w) S (fun k' => (zdm val (i + 1)).any (· == k')) (zdm val (i + 1)).length :=
      SetOf_congr hS2 (fun k' => by rw [zfB, zmJ]) (by rw [zfB, zim])
    refine wpAny_pure ⟨plainId_quiet PyProof.Rows.F.plain_set_update_loop _, ih (i + 1) _ (by omega) hlt (W.frame _ s' _ _ hst' (Nat.le_succ _) fun b hb o e => ?_) hSi fun s'' hm'' hS'' => ?_⟩
    . rw [hsb.2 b (fun h : b = S => hSf (by rw [<- h]; exact hb))]; exact e
    . refine hR s'' (Moved.trans W.gtrans ((hm.mono hsub).then_heap (Nat.le_succ _) fun b o hb e => ?_) hm'') hS''
      rw [hsb.2 b (fun h : b = S => hb (by rw [h]; exact List.mem_cons_self))]; exact e
end
end L2
namespace PySem
open PyProof.Rows
theorem zhj : isSubtype (.type "tuple") (.type "set") = pure false := by rw [isSubtype_type]; kernel_rfl
theorem zdX : isSubtype (.type "tuple") (.type "frozenset") = pure false := by rw [isSubtype_type]; kernel_rfl
section
variable {prog : Program} {w : World} {A : Around} {E : Value -> Shared -> Prop} {s : Shared}
set_option maxHeartbeats 3200000 in
theorem zgi {l : Addr} {items : Array Value} {ns : List Str} {Q : Value -> Shared -> Prop}
    (hh : A.handled = none) (hl : s.heap.IsTuple l items) (hi : PyProof.Rows.StrsAre items.toList ns) (hb : items.size + 1 < scanBound)
    (h : ∀ (h' : Heap) (tk : Nat), h'.SetOf (strKind prog w) s.heap.objs.size (fun k' => (L2.zdm (fun i => ns.getD i Str.empty) items.size).any (· == k')) (L2.zdm (fun i => ns.getD i Str.empty) items.size).length ->
      (∀ b o, b < s.heap.objs.size -> s.heap.get? b = some o -> h'.get? b = some o) -> Q (.ref s.heap.objs.size) { s with heap := h', toks := tk }) :
    wpAny (model prog w) A (call (.type "set") [.ref l]) Q E s := by
  obtain ⟨c, tl, hmro⟩ := F.called_set.mro
  have hmade := F.called_set.made
  have hsub := F.called_set.sub
  refine wpAny_call (codeAny_of_tree ?_)
  show wpAny _ _ (callAny (.type "set") _) _ _ _
  refine wpAny_pure ⟨Code.quiet_builtin _ (by decide +kernel), codeAny_builtin F.entry_type_call ?_⟩
  rw [Around.under_plain (weight_type_call_type "set" [.ref l] []) rfl]
  have h1 := F.called_set.notType
  have h2 := F.called_set.canCreate
  have hct := F.typeCall_set_1 (.ref l)
  repeat (any_goals (first | assumption | wp_step))
  refine codeAny_mono (code_set_new_1 (.ref l) (E := E) (Q₁ := fun obj s₁ => ∃ led : Bool, obj = .ref s.heap.objs.size /\ s₁ = { s with heap := s.heap.push { cls := .type "set", dict := none, data := .set #[] 0 (.fresh 0 0 led) } }) fun led => ⟨led, rfl, rfl⟩) fun r s₁ hr => ?_
  cases r with
  | error e => exact hr
  | ok fl =>
    cases fl with
    | ret obj =>
      obtain ⟨led, rfl, rfl⟩ := hr
      have hS : (s.heap.push { cls := .type "set", dict := none, data := .set #[] 0 (.fresh 0 0 led) }).get? s.heap.objs.size = some { cls := .type "set", dict := none, data := .set #[] 0 (.fresh 0 0 led) } := Heap.get?_push_size _ rfl
      have hT : Shared.TypeIs { s with heap := s.heap.push { cls := .type "set", dict := none, data := .set #[] 0 (.fresh 0 0 led) } } (.ref s.heap.objs.size) "set" := ⟨_, hS, rfl⟩
      have hli := F.called_set.init.lookup
      have hbi := F.called_set.init.bind (.ref s.heap.objs.size)
      repeat (any_goals (first | assumption | wp_step))
      refine codeAny_mono (codeAny_call_builtin (R := wants (fun r s₂ => r = .none /\ ∃ h' tk, s₂ = { s with heap := h', toks := tk } /\
          h'.SetOf (strKind prog w) s.heap.objs.size (fun k' => (L2.zdm (fun i => ns.getD i Str.empty) items.size).any (· == k')) (L2.zdm (fun i => ns.getD i Str.empty) items.size).length /\
          (∀ b o, b < s.heap.objs.size -> s.heap.get? b = some o -> h'.get? b = some o)) E) F.called_set.init.plain F.entry_set_init (check_set_init_1 hT ?_)) fun r₂ s₂ hr₂ => ?_
      . have hl1 : (s.heap.push { cls := .type "set", dict := none, data := .set #[] 0 (.fresh 0 0 led) }).IsTuple l items := hl.push _
        obtain ⟨ol, hol, hcl, nl, hdl⟩ := id hl
        obtain ⟨ocls, odict, odata, oslots⟩ := ol
        simp only at hcl hdl
        subst hcl; subst hdl
        have hol' : (s.heap.push { cls := .type "set", dict := none, data := .set #[] 0 (.fresh 0 0 led) }).get? l = some { cls := .type "tuple", dict := odict, data := .seq items nl, slots := oslots } := Heap.get?_push_of_some _ hol
        have hsls := zhj
        have hslf := zdX
        have hne : (Value.type "tuple" == Value.type "dict") = false := by decide
        unfold Builtin.«set.__init__» noKeywords Builtin.Frozenset.updateFrom
        generalize hPI : pyIter = PI
        wp_walk
        subst hPI
        refine wpAny_pyIter_tuple hl1 ?_
        refine wpAny_bind (wpAny_runValue ?_)
        have hlS : l < s.heap.objs.size := Heap.lt_size hol
        have hh3 : A.in1.in1.in1.handled = none := by simp [hh]
        have hneI : l ≠ (s.heap.push { cls := .type "set", dict := none, data := .set #[] 0 (.fresh 0 0 led) }).objs.size := by
          rw [Heap.size_push]; exact Nat.ne_of_lt (Nat.lt_succ_of_lt hlS)
        have hSf : s.heap.objs.size ∉ [(s.heap.push { cls := .type "set", dict := none, data := .set #[] 0 (.fresh 0 0 led) }).objs.size, l] := by
          rw [Heap.size_push]; simp only [List.mem_cons, List.mem_singleton, List.not_mem_nil, or_false, not_or]
          exact ⟨Nat.ne_of_lt (Nat.lt_succ_self _), Nat.ne_of_gt hlS⟩
        have hval : ∀ (i : Nat) (v : Value), items[i]? = some v -> ∃ t, v = .str ((fun i => ns.getD i Str.empty) i) t := fun i v hv =>
          L2.StrsAre.str_at hi i v (by rw [Array.getElem?_toList]; exact hv)
        refine L2.znC ((Walks.tuple hh3 _ l hneI items).toS) s.heap.objs.size
          hSf (fun i => ns.getD i Str.empty) hval hb (items.size - 0) 0 _ (by omega) (Nat.zero_le _)
          ⟨⟨_, Heap.get?_push_size _ rfl, rfl, rfl⟩, (hl1.push _)⟩ ?hS0 ?hR
        case hS0 =>
          have hget : ((s.heap.push { cls := .type "set", dict := none, data := .set #[] 0 (.fresh 0 0 led) }).push { cls := .type "tuple_iterator", data := .fields #[.ref l, .int 0 0] }).get? s.heap.objs.size
              = some { cls := .type "set", dict := none, data := .set #[] 0 (.fresh 0 0 led) } := Heap.get?_push_of_some _ hS
          exact PyProof.Rows.SetOf_congr ((PyProof.Rows.setObjOf_fresh (knd := strKind prog w) led).setOf hget (by unfold scanBound; omega)) (fun _ => rfl) rfl
        case hR =>
          intro s' hm hS'
          obtain ⟨h', g', d', tk', os'⟩ := s'
          have eg : g' = s.gens := hm.gens
          have ed : d' = s.drawn := hm.drawn
          have eo : os' = s.os := hm.os
          subst eg; subst ed; subst eo
          show wpAny _ _ _ _ _ _
          refine wpAny_pure ?_
          show wpAny _ _ (ret Value.none) _ _ _
          refine wpAny_pure ⟨rfl, h', tk', rfl, hS', fun b o hb e => ?_⟩
          have hb1 : b ≠ s.heap.objs.size := Nat.ne_of_lt hb
          have hb2 : b ≠ (s.heap.push { cls := .type "set", dict := none, data := .set #[] 0 (.fresh 0 0 led) }).objs.size := by
            rw [Heap.size_push]; exact Nat.ne_of_lt (Nat.lt_succ_of_lt hb)
          exact hm.heap b o (by simp only [List.mem_cons, List.mem_singleton, List.not_mem_nil, or_false, not_or]; exact ⟨hb1, hb2⟩) (Heap.get?_push_of_some _ (Heap.get?_push_of_some _ e))
      . cases r₂ with
        | error e => exact hr₂
        | ok fl₂ =>
          cases fl₂ with
          | ret r =>
            obtain ⟨rfl, h', tk, rfl, hS', hk'⟩ := hr₂
            repeat (any_goals (first | assumption | wp_step))
            exact h _ _ hS' hk'
          | _ => exact hr₂.elim
    | _ => exact hr.elim
end
end PySem

namespace L2
open PySem PySem.Spec PyProof.Rows
def zmQ (P : Program) (w : World) (a : Addr) (ys : List Str) : HO := .ext fun h => ∃ S, h.SetOf (strKind P w) a S (zhZ ys)
section
variable {X : Cx} (K : PySem.W.Frag)
theorem zm0 (hc : X.calm = true) (h : X.K = K := by rfl) : zZ X (.type "set") (fun xs H Q => ∃ p ys, xs = [.ref p] /\ SqT K H p (ys.map V.str) /\ ys.length <= 100 /\ ∀ a, H a = none -> Q (.ref a) (upd H a (zmQ X.prog X.w a ys))) := by
  subst h
  intro pins s σ H xs us Q I r h
  obtain ⟨p, ys, rfl, hl, hz, q⟩ := h
  obtain ⟨u, rfl, rx⟩ := vals1 r
  cases rx
  obtain ⟨its, r', pl, _⟩ := I.tuple hl
  have hlen : its.toArray.size = ys.length := by rw [List.size_toArray, <- r'.length, List.length_map]
  refine zgi (I.ok.hd hc) (show s.heap.IsTuple p its.toArray from pl) (by simpa using zee r') (by rw [hlen]; unfold scanBound; omega) fun h' tk hS hk => ?_
  rw [hlen, zpg] at hS
  have hk' : ∀ b u, s.heap.get? b = some u -> h'.get? b = some u := fun b u e => hk b u (Heap.lt_size e) e
  refine ⟨.ref s.heap.objs.size, _, I.laid (o := zmQ X.prog X.w s.heap.objs.size ys) hk' (Nat.le_refl _) ?_, rfl, q _ (I.hok.fresh (Nat.le_refl _))⟩
  refine ⟨⟨_, hS⟩, ?_, fun h1 h2 ⟨S, o, es, ep, t, e, r⟩ k => ⟨S, o, es, ep, t, k o e, r⟩⟩
  obtain ⟨o, _, _, _, e, _⟩ := hS
  exact ⟨o, e⟩
theorem zne : zZ X (.builtin "len") (fun xs H Q => ∃ a ys, xs = [.ref a] /\ H a = some (zmQ X.prog X.w a ys) /\ Q (.int (zhZ ys : Nat)) H) := by
  intro pins s σ H xs us Q I r h
  obtain ⟨a, ys, rfl, ha, q⟩ := h
  obtain ⟨u, rfl, rx⟩ := vals1 r
  cases rx
  obtain ⟨⟨S, o, es, ep, t, ho, hex, hd, _, _, hsb, hf, hn⟩, _, _⟩ := (show zaV X.prog X.w H s.heap a (zmQ X.prog X.w a ys) from I.hok a _ ha)
  have hb : (es.size : Int) < 2 ^ 63 := by unfold scanBound at hsb; omega
  refine call_len_set ho hex hd hf hb ⟨.int _, H, I.tok _, ⟨_, rfl⟩, ?_⟩
  rw [hn]; exact q
end
def Its (x : Str) : It := ⟨fun i _ => i < x.cps.size, fun i H v H' => H' = H /\ ∃ c, x.cps.toList[i]? = some c /\ v = .str ⟨#[c]⟩, fun i _ => x.cps.size <= i⟩
theorem zom {P : Program} {w : World} {K : PySem.W.Frag} {tg : Expr} (it : Addr) (x : Str) (t : Tok) : Turn P w K tg (Its x) [it] it (fun i h => h.IsStrIter it "str_ascii_iterator" x t i) where
  mem := by simp
  obj := fun i h st b hb => by
    have e : b = it := by simpa using hb
    subst e
    obtain ⟨o, e, c, d⟩ := st
    exact ⟨o, e, fun v z => by rw [d] at z; cases z⟩
  keep := fun i h h' st k => let ⟨o, ho, r⟩ := st; ⟨o, k it (by simp) o ho, r⟩
  item := by
    intro X hP hw hK hc i pins s σ H E I hf st hg
    subst hP hw hK
    obtain ⟨f0, f1, f2, f3, f4, f5⟩ := hf it (by simp)
    have W := Walks.strAscii (prog := X.prog) (w := X.w) (I.ok.hd hc) it x t
    refine W.item i s _ _ hg st fun v h' tk hv st' kk => ?_
    obtain ⟨c, u, hcu, rfl⟩ := hv
    have I1 : Inv X pins σ H { s with heap := h', toks := tk } := I.turned (fun b o hb e => kk b o (by simpa using hb) e) f0 f1 f3 f4 f5
    obtain ⟨o, e, c', d⟩ := id st'
    exact ⟨_, rfl, zmc (s := { s with heap := h', toks := tk }) e c' d (by decide) ⟨.str ⟨#[c]⟩, H, I1, ⟨u, rfl⟩, ⟨rfl, c, by rw [Array.getElem?_toList]; exact hcu, rfl⟩, st', fun b hb => (hf b hb).1⟩⟩
  done := by
    intro X hP hw hK hc i pins s σ H E I hf st hg
    subst hP hw hK
    obtain ⟨f0, f1, f2, f3, f4, f5⟩ := hf it (by simp)
    exact wpAny_pyNext_ascii_end (I.ok.hd hc) st (Array.getElem?_eq_none hg) fun h' eb => ⟨rfl, I.turned (t' := s.toks) (fun b o hb e => eb b o hb e) f0 f1 f3 f4 f5⟩
  self := fun _ _ _ _ _ st h => wpAny_pyIter_striter_ascii st h
section
variable {X : Cx} {tg : Expr}
end
section
variable {X : Cx} {CX : CXT} {k : Nat} {f C : Addr} {fd : FuncData} {ps ks : List Str} {sp : Sp} {E : XK} {x : Str} {p pos : Pos} {e : Expr} {es : List Expr} {kws : List Keyword} {t tk : TA} {g : List Value -> List Value -> List Value} {gV : List V -> List V -> List V}
theorem zmO {pins : List (Addr × Obj)} {σ : St} {H : Hp} {s : Shared} {Q : VK} {us ws : List Value} {vs zs : List V} (M : Mk X.K C f) (F : zas X.prog X.w X.K X.mg X.base CX k f fd ps sp) (hr : zaM (k + 1) X.A) (hb : zhq X.K fd ps ks g gV)
    (hx : zb8 CX X E) (I : Inv X pins σ H s) (r : Vals vs us) (rz : Vals zs ws)
    (h : ∀ x dx, H x = none -> H dx = none -> dx ≠ x -> sp (gV (.ref x :: vs) zs) (upd (upd H dx (.own x)) x (.ins C dx [])) (fun v H2 => v = .non /\ Q (.ref x) H2) E) :
    wpAny (model X.prog X.w) X.A (call (.ref C) us (ks.zip ws)) (EP X pins σ Q) X.xe s := by
  have hq := h (s.heap.objs.size + 1) s.heap.objs.size (I.hok.fresh (Nat.le_succ _)) (I.hok.fresh (Nat.le_refl _)) (Nat.ne_of_lt (Nat.lt_succ_self _))
  have I2 := Inv.made (C := C) I
  have r2 : Vals (gV (V.ref (s.heap.objs.size + 1) :: vs) zs) (g (Value.ref (s.heap.objs.size + 1) :: us) ws) := hb.rel (.cons rfl r) rz
  have hl : (g (Value.ref (s.heap.objs.size + 1) :: us) ws).length = ps.length := by rw [<- r2.length]; exact F.len _ _ _ _ hq
  refine wpAny_call (zod (f := f) I.kIn M.makes M.init (beq_iff_eq.mp M.fn) (codeAny_mono (F.run _ X.stack _ _ ⟨Value.ref (s.heap.objs.size + 1) :: us, ks.zip ws⟩ _ _ _ E (hr.make C us (ks.zip ws))
    (I2.env0.make C us (ks.zip ws)) (hb.to _ (Value.ref (s.heap.objs.size + 1) :: us) ws I2.kIn hl) r2 hq) fun r s' hq' => ?_))
  cases r with
  | error e => exact hx pins σ _ _ e s' I2 hq'
  | ok fl =>
    cases fl with
    | ret u =>
      obtain ⟨v, H', I3, rv, ev, q3⟩ := I2.after hq'
      subst ev
      exact ⟨rv, ⟨V.ref (s.heap.objs.size + 1), H', I3, rfl, q3⟩⟩
    | next => exact False.elim hq'
    | brk => exact False.elim hq'
    | cont => exact False.elim hq'
end
section
variable {X : Cx} {CX : CXT}
theorem zs0 {prog : Program} {w : World} {A : Around} {E : Value -> Shared -> Prop} {s : Shared} {K : PySem.W.Frag} {x C f : Addr} {ox : Obj} {od : Option Obj} {b tb : Value} {Q : Value -> Shared -> Prop} (hu : A.units < cLine) (KI : K.In s.heap) (I : PySem.W.InstAt s.heap x ox C od)
    (hb : PySem.W.Looks (model prog w) s.heap (typeOf b) tb) (hn : PySem.W.notFirst K C tb = true)
    (hs : PySem.W.findIn K (.ref C) "__eq__" = some (some (.ref f))) (hf : PySem.W.isFn K (.ref f) = true)
    (h : wpAny (model prog w) A (call (.ref f) [.ref x, b]) (PySem.W.CmpBack Q) E s) : wpAny (model prog w) A (richCompare .Eq (.ref x) b) Q E s := by
  have one : wpAny (model prog w) A (tryCompare (.ref x) (cmpInfo .Eq).2.1 b) (fun r s' => ∃ v, r = some v /\ Q v s') E s := by
    unfold tryCompare
    refine wpAny_bind (PySem.W.ifBound_K KI I hs hf (wpAny_mono h (fun v s' hv => ?_) fun _ _ e => e))
    cases v <;> first | exact hv.elim | exact wpAny_pure ⟨_, rfl, hv⟩
  unfold richCompare
  simp only [oneThing_ref]
  refine wpAny_holding (wpAny_bind (wpAny_cRoomFor hu ?_))
  refine wpAny_bind (I.type.here (wpAny_bind (hb.here ?_)))
  split
  . rename_i q
    have e : PySem.W.subIn K tb (.ref C) = some false := by
      rcases Bool.or_eq_true_iff.mp hn with e | e
      . rw [beq_iff_eq.mp e] at q; simp at q
      . exact beq_iff_eq.mp e
    refine wpAny_bind ((PySem.W.looks_subIn KI e).here ?_)
    simp only [Bool.false_eq_true, if_false]
    refine wpAny_bind (wpAny_mono one (fun r s' z => ?_) fun _ _ e => e)
    obtain ⟨v, rfl, hq⟩ := z
    exact wpAny_pure hq
  . refine wpAny_bind (wpAny_pure ?_)
    simp only [Bool.false_eq_true, if_false]
    refine wpAny_bind (wpAny_mono one (fun r s' z => ?_) fun _ _ e => e)
    obtain ⟨v, rfl, hq⟩ := z
    exact wpAny_pure hq
structure zrQ (P : Program) (w : World) (K : PySem.W.Frag) (mg : Str -> Option Value) (base : Heap) (CX : CXT) (C : Addr) (k : Nat) (ps : List Str) (sp : Sp) : Prop where
  ex : ∃ f fd, zas P w K mg base CX k f fd ps sp /\ Binds K fd ps [] /\ PySem.W.findIn K (.ref C) "__eq__" = some (some (.ref f)) /\ PySem.W.isFn K (.ref f) = true
def zqk (K : PySem.W.Frag) (C : Addr) (H : Hp) (y : V) : Prop := (∃ b dx fs, y = .ref b /\ H b = some (.ins C dx fs)) \/ ((∃ z, y = .str z) /\ PySem.W.notFirst K C (.type "str") = true) \/ ((∃ z, y = .int z) /\ PySem.W.notFirst K C (.type "int") = true)
theorem zt1 {C : Addr} {j k : Nat} {ps : List Str} {sp : Sp} {E : XK} (h : zrQ X.prog X.w X.K X.mg X.base CX C j ps sp) (hr : zaM k X.A) (hj : j <= k := by decide) (hx : zb8 CX X E := by exact zfJ) :
    OpR X (compareOp .Eq) (fun x y H Q => ∃ a dx fs, x = .ref a /\ H a = some (.ins C dx fs) /\ zqk X.K C H y /\ sp [x, y] H Q E) := by
  obtain ⟨f, fd, F, b, hs, hf⟩ := h.ex
  intro pins s σ H x y v u Q I rx ry h
  obtain ⟨a, dx, fs, rfl, ha, ho, q⟩ := h
  cases rx
  obtain ⟨mA, O, _, _, _, _⟩ := zdD I.hok ha
  obtain ⟨od, ia, _⟩ := O.look
  have call := zoq (us := [.ref a, u]) (vs := [.ref a, y]) (ds := []) (dvs := []) (F.mono hj) hr b .nil hx I (.cons rfl (.cons ry .nil)) q
  have back : ∀ v s', EP X pins σ Q v s' -> PySem.W.CmpBack (EP X pins σ Q) v s' := fun v s' h => by
    cases v with
    | notImplemented =>
      obtain ⟨z, H', I', rz, _⟩ := h
      cases z with
      | non => cases rz
      | bl _ => cases rz
      | int _ => obtain ⟨_, rz⟩ := rz; cases rz
      | str _ => obtain ⟨_, rz⟩ := rz; cases rz
      | byt _ => obtain ⟨_, rz⟩ := rz; cases rz
      | flt _ => obtain ⟨_, rz⟩ := rz; cases rz
      | ref _ => cases rz
      | ty _ => cases rz
    | _ => exact h
  show wpAny _ _ (richCompare .Eq (.ref a) u) _ _ _
  have fin : ∀ tb, PySem.W.Looks (model X.prog X.w) s.heap (typeOf u) tb -> PySem.W.notFirst X.K C tb = true -> wpAny (model X.prog X.w) X.A (richCompare .Eq (.ref a) u) (EP X pins σ Q) X.xe s := fun tb h1 h2 =>
    zs0 (by have := hr.units; omega) I.kIn ia h1 h2 hs hf (wpAny_mono call back fun _ _ e => e)
  rcases ho with ⟨b', dx', fs', rfl, hb'⟩ | ⟨⟨z, rfl⟩, hn⟩ | ⟨⟨z, rfl⟩, hn⟩
  . cases ry
    obtain ⟨mB, O', _⟩ := zdD I.hok hb'
    obtain ⟨od', ib, _⟩ := O'.look
    exact fin (.ref C) ib.type (by unfold PySem.W.notFirst; simp)
  . obtain ⟨t, rfl⟩ := ry
    exact fin _ (.of_pure rfl) hn
  . obtain ⟨t, rfl⟩ := ry
    exact fin _ (.of_pure rfl) hn
end
end L2

namespace L2
open PySem PySem.Spec PyProof.Rows
inductive D where
  | non | bl (b : Bool) | int (i : Int) | str (x : Str) | ty (n : String)
  | cls (c : Str) | scr (ns : List Int) | cell (k : Nat)
  | tup (ds : List D) | lst (ds : List D)
  | dct (ks : List Key) (vs : List D) | dtt (ks : List (List Key)) (vs : List D)
  | obj (c : Str) (ns : List Str) (vs : List D)
inductive Ct where
  | lst (ds : List D) | dct (ks : List Key) (vs : List D) | dtt (ks : List (List Key)) (vs : List D)
  | ins (c : Str) (ns : List Str) (vs : List D) | draw
  | fdct (o : Obj) (ks : List Key) (vs : List D) | fdtt (o : Obj) (ks : List (List Key)) (vs : List D)
def clsOf (K : PySem.W.Frag) (c : Str) : Option Addr := match PySem.W.nsIn K mainGlobals c with
  | some (some (.ref C)) => some C
  | _ => none
structure Wd where
  b : Nat -> Option Addr
  F : Hp
structure Wd.le (W W' : Wd) : Prop where
  b : ∀ k a, W.b k = some a -> W'.b k = some a
  F : zhG W.F W'.F
theorem Wd.le.refl (W : Wd) : W.le W := ⟨fun _ _ h => h, fun _ _ h => h⟩
theorem Wd.le.trans {W W' W'' : Wd} (a : W.le W') (b : W'.le W'') : W.le W'' := ⟨fun k x h => b.b k x (a.b k x h), fun k x h => b.F k x (a.F k x h)⟩
abbrev Mu := Nat -> Option Ct
abbrev zav := List (Option D)
def zQ (μ : Mu) (k : Nat) (c : Ct) : Mu := fun j => if j = k then some c else μ j
def zqO (μ : Mu) (k : Nat) : Mu := fun j => if j = k then none else μ j
theorem zu {μ : Mu} {k : Nat} {c : Ct} : zQ μ k c k = some c := if_pos rfl
theorem zm {μ : Mu} {k j : Nat} {c : Ct} (h : j ≠ k) : zQ μ k c j = μ j := if_neg h
theorem zdq {μ : Mu} {k : Nat} {c c' : Ct} : zQ (zQ μ k c) k c' = zQ μ k c' := by funext j; unfold zQ; split <;> rfl
def MLe (μ μ' : Mu) : Prop := ∀ k c, μ k = some c -> μ' k = some c
theorem MLe.refl (μ : Mu) : MLe μ μ := fun _ _ h => h
theorem zfc {H : Hp} {p : Addr} {o : HO} (h : H p = none) : zhG H (upd H p o) := fun b u q => by rw [zJ (zaD q h)]; exact q
theorem Rd.sm {F F' : Hp} {a : Addr} {o : HO} (s : zhG F F') (h : Rd F a o) : Rd F' a o := by
  rcases h with h | ⟨u, h⟩
  . exact .inl (s _ _ h)
  . exact .inr ⟨u, s _ _ h⟩
theorem SqL.sm {K : PySem.W.Frag} {F F' : Hp} {a : Addr} {xs : List V} (s : zhG F F') (h : SqL K F a xs) : SqL K F' a xs := h.imp (Rd.sm s) id
theorem SqT.sm {K : PySem.W.Frag} {F F' : Hp} {a : Addr} {xs : List V} (s : zhG F F') (h : SqT K F a xs) : SqT K F' a xs := h.imp (Rd.sm s) id
mutual
def Rep (K : PySem.W.Frag) (W : Wd) : D -> V -> Prop
  | .non, v => v = .non
  | .bl b, v => v = .bl b
  | .int i, v => v = .int i
  | .str x, v => v = .str x
  | .ty n, v => v = .ty n
  | .cls c, v => ∃ C, clsOf K c = some C /\ v = .ref C
  | .scr ns, v => ∃ a, v = .ref a /\ SqL K W.F a (ns.map V.int)
  | .cell k, v => ∃ a, v = .ref a /\ W.b k = some a
  | .tup ds, v => ∃ a xs, v = .ref a /\ SqT K W.F a xs /\ zz K W ds xs
  | .lst ds, v => ∃ a xs, v = .ref a /\ W.F a = some (.lst xs) /\ zz K W ds xs
  | .dct ks vs, v => ∃ a xs, v = .ref a /\ W.F a = some (.dK (ks.zip xs)) /\ ks.length = xs.length /\ zz K W vs xs
  | .dtt ks vs, v => ∃ a xs, v = .ref a /\ W.F a = some (.dT (ks.zip xs)) /\ ks.length = xs.length /\ zz K W vs xs
  | .obj c ns vs, v => ∃ C a dx xs, clsOf K c = some C /\ v = .ref a /\ W.F a = some (.ins C dx (ns.zip xs)) /\ ns.length = xs.length /\ zz K W vs xs
def zz (K : PySem.W.Frag) (W : Wd) : List D -> List V -> Prop
  | [], xs => xs = []
  | d :: ds, xs => ∃ x r, xs = x :: r /\ Rep K W d x /\ zz K W ds r
end
section
variable {K : PySem.W.Frag} {W W' : Wd}
mutual
theorem Rep.mono (h : W.le W') : ∀ {d : D} {x : V}, Rep K W d x -> Rep K W' d x
  | .non, _, r => by unfold Rep at *; exact r
  | .bl _, _, r => by unfold Rep at *; exact r
  | .int _, _, r => by unfold Rep at *; exact r
  | .str _, _, r => by unfold Rep at *; exact r
  | .ty _, _, r => by unfold Rep at *; exact r
  | .cls _, _, r => by unfold Rep at *; exact r
  | .scr _, _, r => by unfold Rep at *; obtain ⟨a, e, q⟩ := r; exact ⟨a, e, q.sm h.F⟩
  | .cell _, _, r => by unfold Rep at *; obtain ⟨a, e, q⟩ := r; exact ⟨a, e, h.b _ _ q⟩
  | .tup _, _, r => by unfold Rep at *; obtain ⟨a, xs, e, q, z⟩ := r; exact ⟨a, xs, e, q.sm h.F, zz.mono h z⟩
  | .lst _, _, r => by unfold Rep at *; obtain ⟨a, xs, e, q, z⟩ := r; exact ⟨a, xs, e, h.F _ _ q, zz.mono h z⟩
  | .dct _ _, _, r => by unfold Rep at *; obtain ⟨a, xs, e, q, l, z⟩ := r; exact ⟨a, xs, e, h.F _ _ q, l, zz.mono h z⟩
  | .dtt _ _, _, r => by unfold Rep at *; obtain ⟨a, xs, e, q, l, z⟩ := r; exact ⟨a, xs, e, h.F _ _ q, l, zz.mono h z⟩
  | .obj _ _ _, _, r => by unfold Rep at *; obtain ⟨C, a, dx, xs, hc, e, q, l, z⟩ := r; exact ⟨C, a, dx, xs, hc, e, h.F _ _ q, l, zz.mono h z⟩
theorem zz.mono (h : W.le W') : ∀ {ds : List D} {xs : List V}, zz K W ds xs -> zz K W' ds xs
  | [], _, r => by unfold zz at *; exact r
  | _ :: _, _, r => by unfold zz at *; obtain ⟨x, t, e, q, z⟩ := r; exact ⟨x, t, e, Rep.mono h q, zz.mono h z⟩
end
theorem zz.nil : zz K W [] [] := by unfold zz; rfl
theorem zz.cons {d : D} {ds : List D} {x : V} {xs : List V} (a : Rep K W d x) (b : zz K W ds xs) : zz K W (d :: ds) (x :: xs) := by unfold zz; exact ⟨x, xs, rfl, a, b⟩
theorem zz.nil' {xs : List V} (h : zz K W [] xs) : xs = [] := by unfold zz at h; exact h
theorem zz.uncons {d : D} {ds : List D} {xs : List V} (h : zz K W (d :: ds) xs) : ∃ x r, xs = x :: r /\ Rep K W d x /\ zz K W ds r := by unfold zz at h; exact h
theorem zz.length : ∀ {ds : List D} {xs : List V}, zz K W ds xs -> xs.length = ds.length
  | [], _, h => by rw [h.nil']; rfl
  | _ :: _, _, h => by obtain ⟨x, r, rfl, _, q⟩ := h.uncons; rw [List.length_cons, List.length_cons, q.length]
theorem zz.get : ∀ {ds : List D} {xs : List V} {i : Nat} {d : D}, zz K W ds xs -> ds[i]? = some d -> ∃ x, xs[i]? = some x /\ Rep K W d x
  | [], _, _, _, _, e => by simp at e
  | _ :: _, _, 0, _, h, e => by obtain ⟨x, r, rfl, q, _⟩ := h.uncons; simp at e; subst e; exact ⟨x, rfl, q⟩
  | _ :: _, _, i + 1, d, h, e => by obtain ⟨x, r, rfl, _, q⟩ := h.uncons; simpa using q.get (i := i) (d := d) (by simpa using e)
theorem zz.append : ∀ {ds es : List D} {xs ys : List V}, zz K W ds xs -> zz K W es ys -> zz K W (ds ++ es) (xs ++ ys)
  | [], _, _, _, h, g => by rw [h.nil']; exact g
  | _ :: _, _, _, _, h, g => by obtain ⟨x, r, rfl, q, z⟩ := h.uncons; exact .cons q (z.append g)
theorem zz.take : ∀ {ds : List D} {xs : List V} (n : Nat), zz K W ds xs -> zz K W (ds.take n) (xs.take n)
  | _, _, 0, _ => by simp [zz.nil]
  | [], _, _ + 1, h => by rw [h.nil']; exact .nil
  | _ :: _, _, n + 1, h => by obtain ⟨x, r, rfl, q, z⟩ := h.uncons; exact .cons q (z.take n)
theorem zz.drop : ∀ {ds : List D} {xs : List V} (n : Nat), zz K W ds xs -> zz K W (ds.drop n) (xs.drop n)
  | _, _, 0, h => h
  | [], _, _ + 1, h => by rw [h.nil']; exact .nil
  | _ :: _, _, n + 1, h => by obtain ⟨x, r, rfl, q, z⟩ := h.uncons; exact z.drop n
theorem zz.ints : ∀ {ns : List Int} {xs : List V}, zz K W (ns.map D.int) xs -> xs = ns.map V.int
  | [], _, h => h.nil'
  | _ :: _, _, h => by obtain ⟨x, r, rfl, q, z⟩ := h.uncons; unfold Rep at q; rw [q, z.ints]; rfl
theorem zz.strs : ∀ {ns : List Str} {xs : List V}, zz K W (ns.map D.str) xs -> xs = ns.map V.str
  | [], _, h => h.nil'
  | _ :: _, _, h => by obtain ⟨x, r, rfl, q, z⟩ := h.uncons; unfold Rep at q; rw [q, z.strs]; rfl
theorem zz.bls : ∀ {ns : List Bool} {xs : List V}, zz K W (ns.map D.bl) xs -> xs = ns.map V.bl
  | [], _, h => h.nil'
  | _ :: _, _, h => by obtain ⟨x, r, rfl, q, z⟩ := h.uncons; unfold Rep at q; rw [q, z.bls]; rfl
theorem Rep.i {i : Int} : Rep K W (.int i) (.int i) := by unfold Rep; rfl
theorem Rep.s {x : Str} : Rep K W (.str x) (.str x) := by unfold Rep; rfl
theorem Rep.b {x : Bool} : Rep K W (.bl x) (.bl x) := by unfold Rep; rfl
theorem Rep.n : Rep K W .non .non := by unfold Rep; rfl
theorem Rep.g {c : Str} {C : Addr} (h : clsOf K c = some C) : Rep K W (.cls c) (.ref C) := by unfold Rep; exact ⟨C, h, rfl⟩
theorem Rep.t {x : String} : Rep K W (.ty x) (.ty x) := by unfold Rep; rfl
theorem Rep.i' {i : Int} {x : V} (h : Rep K W (.int i) x) : x = .int i := by unfold Rep at h; exact h
theorem Rep.s' {i : Str} {x : V} (h : Rep K W (.str i) x) : x = .str i := by unfold Rep at h; exact h
theorem Rep.b' {i : Bool} {x : V} (h : Rep K W (.bl i) x) : x = .bl i := by unfold Rep at h; exact h
theorem Rep.n' {x : V} (h : Rep K W .non x) : x = .non := by unfold Rep at h; exact h
theorem Rep.cell' {k : Nat} {x : V} (h : Rep K W (.cell k) x) : ∃ a, x = .ref a /\ W.b k = some a := by unfold Rep at h; exact h
theorem Rep.lst' {ds : List D} {x : V} (h : Rep K W (.lst ds) x) : ∃ a xs, x = .ref a /\ W.F a = some (.lst xs) /\ zz K W ds xs := by unfold Rep at h; exact h
theorem Rep.tup' {ds : List D} {x : V} (h : Rep K W (.tup ds) x) : ∃ a xs, x = .ref a /\ SqT K W.F a xs /\ zz K W ds xs := by unfold Rep at h; exact h
theorem Rep.lst {ds : List D} {a : Addr} {xs : List V} (h : W.F a = some (.lst xs)) (r : zz K W ds xs) : Rep K W (.lst ds) (.ref a) := by unfold Rep; exact ⟨a, xs, rfl, h, r⟩
theorem Rep.tup {ds : List D} {a : Addr} {xs : List V} (h : SqT K W.F a xs) (r : zz K W ds xs) : Rep K W (.tup ds) (.ref a) := by unfold Rep; exact ⟨a, xs, rfl, h, r⟩
end
def Ctn (K : PySem.W.Frag) (W : Wd) (c : Ct) (o : Option HO) : Prop := match c with
  | .lst ds => ∃ xs, o = some (.lst xs) /\ zz K W ds xs
  | .dct ks vs => ∃ xs, o = some (.dK (ks.zip xs)) /\ ks.length = xs.length /\ zz K W vs xs
  | .dtt ks vs => ∃ xs, o = some (.dT (ks.zip xs)) /\ ks.length = xs.length /\ zz K W vs xs
  | .fdct ob ks vs => ∃ xs, o = some (.frz ob (.dK (ks.zip xs))) /\ ks.length = xs.length /\ zz K W vs xs
  | .fdtt ob ks vs => ∃ xs, o = some (.frz ob (.dT (ks.zip xs))) /\ ks.length = xs.length /\ zz K W vs xs
  | .ins c ns vs => ∃ C dx xs, clsOf K c = some C /\ o = some (.ins C dx (ns.zip xs)) /\ ns.length = xs.length /\ zz K W vs xs
  | .draw => ∃ (l : Addr) (ns : List Int) (i b c : Int), o = some (.lst [.ref l, .int i, .int b, .int c]) /\ W.F l = some (.lst (ns.map V.int)) /\ 0 <= i /\ 0 <= b
theorem Ctn.mono {K : PySem.W.Frag} {W W' : Wd} {c : Ct} {o : Option HO} (h : W.le W') (r : Ctn K W c o) : Ctn K W' c o := by
  cases c with
  | lst ds => obtain ⟨xs, e, q⟩ := r; exact ⟨xs, e, q.mono h⟩
  | dct ks vs => obtain ⟨xs, e, l, q⟩ := r; exact ⟨xs, e, l, q.mono h⟩
  | dtt ks vs => obtain ⟨xs, e, l, q⟩ := r; exact ⟨xs, e, l, q.mono h⟩
  | fdct ob ks vs => obtain ⟨xs, e, l, q⟩ := r; exact ⟨xs, e, l, q.mono h⟩
  | fdtt ob ks vs => obtain ⟨xs, e, l, q⟩ := r; exact ⟨xs, e, l, q.mono h⟩
  | ins C ns vs => obtain ⟨C', dx, xs, hc, e, l, q⟩ := r; exact ⟨C', dx, xs, hc, e, l, q.mono h⟩
  | draw => obtain ⟨l, ns, i, b, c, e, q, z⟩ := r; exact ⟨l, ns, i, b, c, e, h.F _ _ q, z⟩
theorem Ctn.some {K : PySem.W.Frag} {W : Wd} {c : Ct} {o : Option HO} (r : Ctn K W c o) : ∃ u, o = some u := by
  cases c with
  | lst ds => obtain ⟨xs, e, q⟩ := r; exact ⟨_, e⟩
  | dct ks vs => obtain ⟨xs, e, l, q⟩ := r; exact ⟨_, e⟩
  | dtt ks vs => obtain ⟨xs, e, l, q⟩ := r; exact ⟨_, e⟩
  | fdct ob ks vs => obtain ⟨xs, e, l, q⟩ := r; exact ⟨_, e⟩
  | fdtt ob ks vs => obtain ⟨xs, e, l, q⟩ := r; exact ⟨_, e⟩
  | ins C ns vs => obtain ⟨C', dx, xs, hc, e, l, q⟩ := r; exact ⟨_, e⟩
  | draw => obtain ⟨l, ns, i, b, c, e, q, z⟩ := r; exact ⟨_, e⟩
structure Rel (K : PySem.W.Frag) (W : Wd) (μ : Mu) (H : Hp) : Prop where
  sub : zhG W.F H
  fin : ∃ n, ∀ k, n <= k -> W.b k = none
  cel : ∀ k c, μ k = some c -> ∃ a, W.b k = some a /\ W.F a = none /\ Ctn K W c (H a)
  inj : ∀ k k' c c' a, μ k = some c -> μ k' = some c' -> W.b k = some a -> W.b k' = some a -> k = k'
def zce (K : PySem.W.Frag) (W : Wd) (ρ : zav) (σ : St) : Prop := ρ.length = σ.length /\ ∀ (i : Nat) d, ρ[i]? = some (some d) -> ∃ x, σ[i]? = some (some x) /\ Rep K W d x
section
variable {K : PySem.W.Frag} {W W' : Wd} {μ μ' : Mu} {H : Hp} {ρ : zav} {σ : St}
theorem zce.mono (h : W.le W') (r : zce K W ρ σ) : zce K W' ρ σ := ⟨r.1, fun i d e => by obtain ⟨x, e', q⟩ := r.2 i d e; exact ⟨x, e', q.mono h⟩⟩
theorem zce.set {i : Nat} {d : D} {x : V} (r : zce K W ρ σ) (q : Rep K W d x) : zce K W (ρ.set i (some d)) (σ.set i (some x)) := ⟨by simp [r.1], fun j d' e => by
  by_cases hj : i = j
  . subst hj
    by_cases hl : i < ρ.length
    . rw [List.getElem?_set_self hl] at e
      cases e
      exact ⟨x, List.getElem?_set_self (r.1 ▸ hl), q⟩
    . rw [List.getElem?_eq_none (by simp; omega)] at e; cases e
  . rw [List.getElem?_set_ne hj] at e
    rw [List.getElem?_set_ne hj]
    exact r.2 j d' e⟩
theorem Rel.less (r : Rel K W μ' H) (h : MLe μ μ') : Rel K W μ H := ⟨r.sub, r.fin, fun k c e => r.cel k c (h k c e), fun k k' c c' a e e' => r.inj k k' c c' a (h _ _ e) (h _ _ e')⟩
theorem Rel.newF {p : Addr} {o : HO} (r : Rel K W μ H) (hp : H p = none) : Rel K ⟨W.b, upd W.F p o⟩ μ (upd H p o) /\ W.le ⟨W.b, upd W.F p o⟩ := by
  have hF : W.F p = none := by
    cases e : W.F p with
    | none => rfl
    | some u => rw [r.sub _ _ e] at hp; cases hp
  have le : W.le ⟨W.b, upd W.F p o⟩ := ⟨fun _ _ h => h, zfc hF⟩
  refine ⟨⟨fun b u e => ?_, r.fin, fun k c e => ?_, r.inj⟩, le⟩
  . by_cases hb : b = p
    . subst hb; have e' : (upd W.F b o) b = some u := e; rw [zF] at e' ⊢; exact e'
    . have e' : (upd W.F p o) b = some u := e
      rw [zJ hb] at e' ⊢; exact r.sub _ _ e'
  . obtain ⟨a, e1, e2, q⟩ := r.cel k c e
    obtain ⟨u, eu⟩ := q.some
    have ha : a ≠ p := zaD eu hp
    exact ⟨a, e1, by show upd W.F p o a = none; rw [zJ ha]; exact e2, by rw [zJ ha]; exact q.mono le⟩
theorem Rel.newC {p : Addr} {o : HO} {c : Ct} (r : Rel K W μ H) (hp : H p = none) (hc : Ctn K W c (some o)) : ∃ (k : Nat) (W' : Wd), μ k = none /\ W.le W' /\ Rel K W' (zQ μ k c) (upd H p o) /\ W'.b k = some p := by
  obtain ⟨n, hn⟩ := r.fin
  have hF : W.F p = none := by
    cases e : W.F p with
    | none => rfl
    | some u => rw [r.sub _ _ e] at hp; cases hp
  have hk : μ n = none := by
    cases e : μ n with
    | none => rfl
    | some c => obtain ⟨a, e1, _⟩ := r.cel n c e; rw [hn n (Nat.le_refl _)] at e1; cases e1
  have le : W.le ⟨fun j => if j = n then some p else W.b j, W.F⟩ := ⟨fun k a e => by
    show (if k = n then some p else W.b k) = some a
    rw [if_neg (fun z => by rw [z, hn n (Nat.le_refl _)] at e; cases e)]; exact e, fun _ _ h => h⟩
  refine ⟨n, ⟨fun j => if j = n then some p else W.b j, W.F⟩, hk, le, ⟨fun b u e => ?_, ⟨n + 1, fun k hk => ?_⟩, fun k c' e => ?_, fun k k' c1 c2 a e e' q q' => ?_⟩, if_pos rfl⟩
  . have : b ≠ p := fun z => by
      have e' : W.F b = some u := e
      rw [z, hF] at e'; cases e'
    rw [zJ this]; exact r.sub _ _ e
  . show (if k = n then some p else W.b k) = none
    rw [if_neg (by omega)]; exact hn k (by omega)
  . by_cases ek : k = n
    . subst ek
      rw [zu] at e; cases e
      exact ⟨p, if_pos rfl, hF, by rw [zF]; exact hc.mono le⟩
    . rw [zm ek] at e
      obtain ⟨a, e1, e2, q⟩ := r.cel k c' e
      obtain ⟨u, eu⟩ := q.some
      have ha : a ≠ p := zaD eu hp
      exact ⟨a, by show (if k = n then some p else W.b k) = some a; rw [if_neg ek]; exact e1, e2, by rw [zJ ha]; exact q.mono le⟩
  . have key : ∀ k c, zQ μ n c k = some c -> True := fun _ _ _ => trivial
    have at' : ∀ {j : Nat} {cj : Ct}, zQ μ n c j = some cj -> j ≠ n -> (∃ a', W.b j = some a' /\ a' ≠ p) := fun {j cj} ej hj => by
      rw [zm hj] at ej
      obtain ⟨a', e1, e2, q⟩ := r.cel j cj ej
      obtain ⟨u, eu⟩ := q.some
      exact ⟨a', e1, zaD eu hp⟩
    have q1 : (if k = n then some p else W.b k) = some a := q
    have q2 : (if k' = n then some p else W.b k') = some a := q'
    by_cases ek : k = n
    . by_cases ek' : k' = n
      . rw [ek, ek']
      . rw [if_pos ek] at q1; rw [if_neg ek'] at q2
        obtain ⟨a', f1, f2⟩ := at' e' ek'
        rw [f1] at q2; cases q1; cases q2; exact absurd rfl f2
    . by_cases ek' : k' = n
      . rw [if_neg ek] at q1; rw [if_pos ek'] at q2
        obtain ⟨a', f1, f2⟩ := at' e ek
        rw [f1] at q1; cases q2; cases q1; exact absurd rfl f2
      . rw [if_neg ek] at q1; rw [if_neg ek'] at q2
        rw [zm ek] at e; rw [zm ek'] at e'
        exact r.inj k k' _ _ a e e' q1 q2
theorem Rel.setC {k : Nat} {a : Addr} {c c' : Ct} {o : HO} (r : Rel K W μ H) (hk : μ k = some c) (ha : W.b k = some a) (hc : Ctn K W c' (some o)) : Rel K W (zQ μ k c') (upd H a o) := by
  obtain ⟨a', e1, e2, _⟩ := r.cel k c hk
  rw [ha] at e1; cases e1
  refine ⟨fun b u e => ?_, r.fin, fun j d e => ?_, fun j j' d d' x e e' => ?_⟩
  . rw [zJ (fun z => by rw [z, e2] at e; cases e)]; exact r.sub _ _ e
  . by_cases ek : j = k
    . subst ek; rw [zu] at e; cases e
      exact ⟨a, ha, e2, by rw [zF]; exact hc⟩
    . rw [zm ek] at e
      obtain ⟨x, f1, f2, q⟩ := r.cel j d e
      have hx : x ≠ a := fun z => ek (r.inj j k _ _ a e hk (z ▸ f1) ha)
      exact ⟨x, f1, f2, by rw [zJ hx]; exact q⟩
  . have g : ∀ {j d}, zQ μ k c' j = some d -> ∃ d, μ j = some d := fun {j d} e => by
      by_cases ek : j = k
      . subst ek; exact ⟨_, hk⟩
      . rw [zm ek] at e; exact ⟨_, e⟩
    obtain ⟨d1, f1⟩ := g e
    obtain ⟨d2, f2⟩ := g e'
    exact r.inj j j' _ _ x f1 f2
end
end L2

namespace L2
open PySem PySem.Spec PyProof.Rows
abbrev DK := D -> Mu -> Prop
abbrev DE := zav -> Mu -> DK -> Prop
abbrev DT := zav -> Mu -> (Bool -> Mu -> Prop) -> Prop
abbrev DA := zav -> Mu -> (List D -> Mu -> Prop) -> Prop
structure zcH where
  nx : zav -> Mu -> Prop
  rt : DK
  bk : zav -> Mu -> Prop := fun _ _ => False
  ct : zav -> Mu -> Prop := fun _ _ => False
abbrev DS := zcH -> zav -> Mu -> Prop
abbrev DG := D -> zav -> Mu -> (zav -> Mu -> Prop) -> Prop
abbrev DGs := List D -> zav -> Mu -> (zav -> Mu -> Prop) -> Prop
abbrev DR2 := D -> D -> Mu -> DK -> Prop
abbrev DR1 := D -> Mu -> DK -> Prop
abbrev DRs := List D -> Mu -> DK -> Prop
abbrev DO := zav -> Mu -> (Option Int -> Mu -> Prop) -> Prop
abbrev DI := zav -> Mu -> (List D -> (Mu -> Prop) -> Mu -> Prop) -> Prop
abbrev DSp := List D -> Mu -> DK -> Prop

section
variable (K : PySem.W.Frag)
abbrev KV' (W : Wd) (Q : DK) (Q' : VK) : Prop := ∀ W' d μ' x H', W.le W' -> Rel K W' μ' H' -> Rep K W' d x -> Q d μ' -> Q' x H'
class zab (t : TE) (w : DE) : Prop where
  run : ∀ {W ρ μ σ H Q Q'}, Rel K W μ H -> zce K W ρ σ -> w ρ μ Q -> KV' K W Q Q' -> t σ H Q'
class ze2 (t : TT) (w : DT) : Prop where
  run : ∀ {W ρ μ σ H} {Q : Bool -> Mu -> Prop} {Q' : Bool -> Hp -> Prop}, Rel K W μ H -> zce K W ρ σ -> w ρ μ Q -> (∀ W' b μ' H', W.le W' -> Rel K W' μ' H' -> Q b μ' -> Q' b H') -> t σ H Q'
class zdO (t : TA) (w : DA) : Prop where
  run : ∀ {W ρ μ σ H} {Q : List D -> Mu -> Prop} {Q' : List V -> Hp -> Prop}, Rel K W μ H -> zce K W ρ σ -> w ρ μ Q -> (∀ W' ds μ' xs H', W.le W' -> Rel K W' μ' H' -> zz K W' ds xs -> Q ds μ' -> Q' xs H') -> t σ H Q'
structure zml (W : Wd) (D' : zcH) (D : Ends) : Prop where
  nx : ∀ W' ρ μ σ H, W.le W' -> Rel K W' μ H -> zce K W' ρ σ -> D'.nx ρ μ -> D.nx σ H
  bk : ∀ W' ρ μ σ H, W.le W' -> Rel K W' μ H -> zce K W' ρ σ -> D'.bk ρ μ -> D.bk σ H
  ct : ∀ W' ρ μ σ H, W.le W' -> Rel K W' μ H -> zce K W' ρ σ -> D'.ct ρ μ -> D.ct σ H
  rt : ∀ W' d μ x H, W.le W' -> Rel K W' μ H -> Rep K W' d x -> D'.rt d μ -> D.rt x H
class zdW (t : TS) (w : DS) : Prop where
  run : ∀ {W ρ μ σ H D' D}, Rel K W μ H -> zce K W ρ σ -> w D' ρ μ -> zml K W D' D -> t D σ H
class zj7 (g : TG) (dg : DG) (S : outParam (List Nat)) : Prop where
  run : ∀ {W ρ μ σ H d x} {Q : zav -> Mu -> Prop} {Q' : St -> Hp -> Prop}, Rel K W μ H -> zce K W ρ σ -> Rep K W d x -> dg d ρ μ Q ->
    (∀ W' ρ' μ' σ' H', W.le W' -> Rel K W' μ' H' -> zce K W' ρ' σ' -> σ'.length = σ.length -> (∀ i, i ∉ S -> σ'[i]? = σ[i]?) -> Q ρ' μ' -> Q' σ' H') -> g x σ H Q'
class zjF (g : TGs) (dg : DGs) (S : outParam (List Nat)) : Prop where
  run : ∀ {W ρ μ σ H ds xs} {Q : zav -> Mu -> Prop} {Q' : St -> Hp -> Prop}, Rel K W μ H -> zce K W ρ σ -> zz K W ds xs -> dg ds ρ μ Q ->
    (∀ W' ρ' μ' σ' H', W.le W' -> Rel K W' μ' H' -> zce K W' ρ' σ' -> σ'.length = σ.length -> (∀ i, i ∉ S -> σ'[i]? = σ[i]?) -> Q ρ' μ' -> Q' σ' H') -> g xs σ H Q'
class zbq (r : R2) (q : DR2) : Prop where
  run : ∀ {W μ H d e x y Q Q'}, Rel K W μ H -> Rep K W d x -> Rep K W e y -> q d e μ Q -> KV' K W Q Q' -> r x y H Q'
class zr0 (r : V -> Hp -> VK -> Prop) (q : DR1) : Prop where
  run : ∀ {W μ H d x Q Q'}, Rel K W μ H -> Rep K W d x -> q d μ Q -> KV' K W Q Q' -> r x H Q'
class zcz (r : List V -> Hp -> VK -> Prop) (q : DRs) : Prop where
  run : ∀ {W μ H ds xs Q Q'}, Rel K W μ H -> zz K W ds xs -> q ds μ Q -> KV' K W Q Q' -> r xs H Q'
class zlz (t : TO) (w : DO) : Prop where
  run : ∀ {W ρ μ σ H} {Q : Option Int -> Mu -> Prop} {Q' : Option Int -> Hp -> Prop}, Rel K W μ H -> zce K W ρ σ -> w ρ μ Q -> (∀ W' b μ' H', W.le W' -> Rel K W' μ' H' -> Q b μ' -> Q' b H') -> t σ H Q'
def ItR (W : Wd) (J : It) (ds : List D) (Pm : Mu -> Prop) : Prop := ∀ W1 μ H, W.le W1 -> Rel K W1 μ H -> Pm μ -> ∀ i : Nat, (∀ d, ds[i]? = some d -> J.go i H /\ ∀ x H', J.yld i H x H' -> ∃ W2, W1.le W2 /\ Rel K W2 μ H' /\ Rep K W2 d x) /\ (ds.length <= i -> J.stop i H)
class zrh (t : TI) (w : DI) : Prop where
  run : ∀ {W ρ μ σ H} {Q : List D -> (Mu -> Prop) -> Mu -> Prop} {Q' : It -> Hp -> Prop}, Rel K W μ H -> zce K W ρ σ -> w ρ μ Q -> (∀ W' J ds Pm μ' H', W.le W' -> Rel K W' μ' H' -> ItR K W' J ds Pm -> Q ds Pm μ' -> Q' J H') -> t σ H Q'
end
def zc (i : Nat) : DE := fun ρ μ Q => match ρ[i]? with
  | some (some d) => Q d μ
  | _ => False
def dC (d : D) : DE := fun _ μ Q => Q d μ
section
variable {K : PySem.W.Frag}
instance {i : Nat} : zab K (zbN i) (zc i) := ⟨fun {W ρ μ σ H Q Q'} r e h k => by
  unfold zc at h
  split at h
  . rename_i d hd
    obtain ⟨x, ex, q⟩ := e.2 i d hd
    exact ⟨x, ex, k W d μ x H (.refl W) r q h⟩
  . exact h.elim⟩
instance {i : Int} : zab K (tC (.int i)) (dC (.int i)) := ⟨fun {W ρ μ σ H Q Q'} r e h k => k W _ μ _ H (.refl W) r .i h⟩
instance {i : Str} : zab K (tC (.str i)) (dC (.str i)) := ⟨fun {W ρ μ σ H Q Q'} r e h k => k W _ μ _ H (.refl W) r .s h⟩
instance {i : Bool} : zab K (tC (.bl i)) (dC (.bl i)) := ⟨fun {W ρ μ σ H Q Q'} r e h k => k W _ μ _ H (.refl W) r .b h⟩
instance {i : String} : zab K (tC (.ty i)) (dC (.ty i)) := ⟨fun {W ρ μ σ H Q Q'} r e h k => k W _ μ _ H (.refl W) r .t h⟩
class zoc (K : PySem.W.Frag) (c : Str) (C : Addr) : Prop where
  at_ : clsOf K c = some C
instance {c : Str} {C : Addr} [i : zoc K c C] : zab K (tC (.ref C)) (dC (.cls c)) := ⟨fun {W ρ μ σ H Q Q'} r e h k => k W _ μ _ H (.refl W) r (.g i.at_) h⟩
end
def dOp (q : DR2) (wa wb : DE) : DE := fun ρ μ Q => wa ρ μ fun d μ1 => wb ρ μ1 fun e μ2 => q d e μ2 Q
def dUn (q : DR1) (wa : DE) : DE := fun ρ μ Q => wa ρ μ fun d μ1 => q d μ1 Q
def zW (w : DE) : DT := fun ρ μ Q => w ρ μ fun d μ1 => match d with
  | .bl b => Q b μ1
  | _ => False
def zq8 (t u : DT) : DT := fun ρ μ Q => t ρ μ fun c μ1 => if c = true then u ρ μ1 Q else Q false μ1
def dOr (t u : DT) : DT := fun ρ μ Q => t ρ μ fun c μ1 => if c = true then Q true μ1 else u ρ μ1 Q
def zjz (t : DT) : DT := fun ρ μ Q => t ρ μ fun c μ1 => Q (!c) μ1
def zdg (ta tb : DE) : DE := fun ρ μ Q => zW ta ρ μ fun c μ1 => if c = true then tb ρ μ1 Q else Q (.bl false) μ1
def zvM (ta tb : DE) : DE := fun ρ μ Q => zW ta ρ μ fun c μ1 => if c = true then Q (.bl true) μ1 else tb ρ μ1 Q
def zeX (ta : DE) : DE := fun ρ μ Q => zW ta ρ μ fun c μ1 => Q (.bl (!c)) μ1
def dIf (t : DT) (ta tb : DE) : DE := fun ρ μ Q => t ρ μ fun c μ1 => if c = true then ta ρ μ1 Q else tb ρ μ1 Q
def zgV (q q' : DR2) (wa wb wc : DE) : DE := fun ρ μ Q => wa ρ μ fun d μ1 => wb ρ μ1 fun e μ2 => q d e μ2 fun z μ3 => match z with
  | .bl k => if k = true then wc ρ μ3 fun f μ4 => q' e f μ4 Q else Q (.bl false) μ3
  | _ => False
section
variable {K : PySem.W.Frag} {r r' : R2} {q q' : DR2} {ta tb tc : TE} {wa wb wc : DE} {t u : TT} {v w : DT}
instance [a : zab K ta wa] [b : zab K tb wb] [o : zbq K r q] : zab K (tOp r ta tb) (dOp q wa wb) := ⟨fun r e h k =>
  a.run r e h fun W1 d μ1 x H1 le1 r1 q1 h1 => b.run r1 (e.mono le1) h1 fun W2 d' μ2 y H2 le2 r2 q2 h2 => o.run r2 (q1.mono le2) q2 h2 fun W3 d3 μ3 z H3 le3 r3 q3 h3 => k W3 d3 μ3 z H3 (le1.trans (le2.trans le3)) r3 q3 h3⟩
instance {r : V -> Hp -> VK -> Prop} {q : DR1} [a : zab K ta wa] [o : zr0 K r q] : zab K (tUn r ta) (dUn q wa) := ⟨fun r e h k =>
  a.run r e h fun W1 d μ1 x H1 le1 r1 q1 h1 => o.run r1 q1 h1 fun W3 d3 μ3 z H3 le3 r3 q3 h3 => k W3 d3 μ3 z H3 (le1.trans le3) r3 q3 h3⟩
theorem zgl [a : zab K ta wa] {W ρ μ σ H} {Q : Bool -> Mu -> Prop} {Q' : Bool -> Hp -> Prop} (r : Rel K W μ H) (e : zce K W ρ σ) (h : zW wa ρ μ Q) (k : ∀ W' b μ' H', W.le W' -> Rel K W' μ' H' -> Q b μ' -> Q' b H') : ta σ H fun x H' => ∃ k, x = .bl k /\ Q' k H' :=
  a.run r e h fun W1 d μ1 x H1 le1 r1 q1 h1 => by
    cases d <;> first | exact h1.elim | skip
    rename_i b
    exact ⟨b, q1.b', k W1 b μ1 H1 le1 r1 h1⟩
instance [a : zab K ta wa] : ze2 K (zhl ta) (zW wa) := ⟨fun r e h k => zgl r e h k⟩
instance [a : zab K ta wa] : ze2 K (tB ta) (zW wa) := ⟨fun r e h k => zgl r e h k⟩
instance [a : ze2 K t v] [b : ze2 K u w] : ze2 K (zua t u) (zq8 v w) := ⟨fun r e h k => a.run r e h fun W1 c μ1 H1 le1 r1 h1 => by
  cases c with
  | true => exact b.run r1 (e.mono le1) h1 fun W2 c2 μ2 H2 le2 r2 h2 => k W2 c2 μ2 H2 (le1.trans le2) r2 h2
  | false => exact k W1 false μ1 H1 le1 r1 h1⟩
instance [a : ze2 K t v] [b : ze2 K u w] : ze2 K (tOr t u) (dOr v w) := ⟨fun r e h k => a.run r e h fun W1 c μ1 H1 le1 r1 h1 => by
  cases c with
  | false => exact b.run r1 (e.mono le1) h1 fun W2 c2 μ2 H2 le2 r2 h2 => k W2 c2 μ2 H2 (le1.trans le2) r2 h2
  | true => exact k W1 true μ1 H1 le1 r1 h1⟩
instance [a : ze2 K t v] : ze2 K (ztA t) (zjz v) := ⟨fun r e h k => a.run r e h fun W1 c μ1 H1 le1 r1 h1 => k W1 (!c) μ1 H1 le1 r1 h1⟩
instance [a : zab K ta wa] [b : zab K tb wb] : zab K (zoG ta tb) (zdg wa wb) := ⟨fun r e h k => zgl r e h fun W1 c μ1 H1 le1 r1 h1 => by
  cases c with
  | true => exact b.run r1 (e.mono le1) h1 fun W2 c2 μ2 x H2 le2 r2 q2 h2 => k W2 c2 μ2 x H2 (le1.trans le2) r2 q2 h2
  | false => exact k W1 (.bl false) μ1 _ H1 le1 r1 .b h1⟩
instance [a : zab K ta wa] : zab K (zo5 ta) (zeX wa) := ⟨fun r e h k => zgl r e h fun W1 c μ1 H1 le1 r1 h1 => k W1 (.bl (!c)) μ1 _ H1 le1 r1 .b h1⟩
instance [a : zab K ta wa] [b : zab K tb wb] [c : zab K tc wc] [o : zbq K r q] [o' : zbq K r' q'] : zab K (zg4 r r' ta tb tc) (zgV q q' wa wb wc) := ⟨fun r e h k =>
  a.run r e h fun W1 d μ1 x H1 le1 r1 q1 h1 => b.run r1 (e.mono le1) h1 fun W2 d' μ2 y H2 le2 r2 q2 h2 => o.run r2 (q1.mono le2) q2 h2 fun W3 d3 μ3 z H3 le3 r3 q3 h3 => by
    cases d3 <;> first | exact h3.elim | skip
    rename_i kk
    refine ⟨kk, q3.b', ?_⟩
    cases kk with
    | false => exact k W3 (.bl false) μ3 _ H3 (le1.trans (le2.trans le3)) r3 .b h3
    | true => exact c.run r3 (e.mono (le1.trans (le2.trans le3))) h3 fun W4 d4 μ4 x4 H4 le4 r4 q4 h4 => o'.run r4 (q2.mono (le3.trans le4)) q4 h4 fun W5 d5 μ5 x5 H5 le5 r5 q5 h5 => k W5 d5 μ5 x5 H5 (le1.trans (le2.trans (le3.trans (le4.trans le5)))) r5 q5 h5⟩
end
def zr : DA := fun _ μ Q => Q [] μ
def zb (wa : DE) (wr : DA) : DA := fun ρ μ Q => wa ρ μ fun d μ1 => wr ρ μ1 fun ds μ2 => Q (d :: ds) μ2
def dTup (w : DA) : DE := fun ρ μ Q => w ρ μ fun ds μ1 => ds.length <= sizeLine /\ Q (.tup ds) μ1
def zjt (w : DA) : DE := fun ρ μ Q => w ρ μ fun ds μ1 => ds.length <= sizeLine /\ Q (.lst ds) μ1
def zeu (w : DA) : DE := fun ρ μ Q => w ρ μ fun ds μ1 => ds.length <= sizeLine /\ ∀ k, μ1 k = none -> Q (.cell k) (zQ μ1 k (.lst ds))
def zl8 (ks : List Int) : DA := fun _ μ Q => Q (ks.map D.int) μ
def zn2 (t : TE) : TE := t
section
variable {K : PySem.W.Frag} {ta : TE} {wa : DE} {t : TA} {w : DA}
instance : zdO K zfr zr := ⟨fun {W ρ μ σ H Q Q'} r e h k => k W [] μ [] H (.refl W) r .nil h⟩
instance [a : zab K ta wa] [b : zdO K t w] : zdO K (ze6 ta t) (zb wa w) := ⟨fun r e h k =>
  a.run r e h fun W1 d μ1 x H1 le1 r1 q1 h1 => b.run r1 (e.mono le1) h1 fun W2 ds μ2 xs H2 le2 r2 q2 h2 => k W2 (d :: ds) μ2 (x :: xs) H2 (le1.trans le2) r2 (.cons (q1.mono le2) q2) h2⟩
theorem zz.of_ints {W : Wd} : ∀ ns : List Int, zz K W (ns.map D.int) (ns.map V.int)
  | [] => .nil
  | _ :: r => .cons .i (zz.of_ints r)
theorem zz.of_strs {W : Wd} : ∀ ns : List Str, zz K W (ns.map D.str) (ns.map V.str)
  | [] => .nil
  | _ :: r => .cons .s (zz.of_strs r)
instance {ks : List Int} : zdO K (zp6 ks) (zl8 ks) := ⟨fun {W ρ μ σ H Q Q'} r e h k => k W _ μ _ H (.refl W) r (.of_ints ks) h⟩
instance [a : zdO K t w] : zab K (zt8 t) (dTup w) := ⟨fun r e h k => a.run r e h fun W1 ds μ1 xs H1 le1 r1 q1 h1 => ⟨by rw [q1.length]; exact h1.1, fun p hp => by
  obtain ⟨r2, le2⟩ := r1.newF (o := .tup xs) hp
  exact k _ _ _ _ _ (le1.trans le2) r2 (.tup (SqT.of zF) (q1.mono le2)) h1.2⟩⟩
instance [a : zdO K t w] : zab K (zrl t) (zjt w) := ⟨fun r e h k => a.run r e h fun W1 ds μ1 xs H1 le1 r1 q1 h1 => ⟨by rw [q1.length]; exact h1.1, fun p hp => by
  obtain ⟨r2, le2⟩ := r1.newF (o := .lst xs) hp
  exact k _ _ _ _ _ (le1.trans le2) r2 (.lst zF (q1.mono le2)) h1.2⟩⟩
theorem zp8 {W W1 : Wd} {μ1 : Mu} {H1 : Hp} {p : Addr} {xs : List V} {ds : List D} {Q : DK} {Q' : VK} (le1 : W.le W1) (r1 : Rel K W1 μ1 H1) (q1 : zz K W1 ds xs) (hp : H1 p = none) (k : KV' K W Q Q') (h : ∀ k, μ1 k = none -> Q (.cell k) (zQ μ1 k (.lst ds))) : Q' (.ref p) (upd H1 p (.lst xs)) := by
  obtain ⟨c, W2, hk, le2, r2, e2⟩ := r1.newC (o := .lst xs) (c := .lst ds) hp ⟨xs, rfl, q1⟩
  exact k W2 (.cell c) _ _ _ (le1.trans le2) r2 (by unfold Rep; exact ⟨p, rfl, e2⟩) (h c hk)
instance [a : zdO K t w] : zab K (zn2 (zrl t)) (zeu w) := ⟨fun r e h k => a.run r e h fun W1 ds μ1 xs H1 le1 r1 q1 h1 => ⟨by rw [q1.length]; exact h1.1, fun p hp => zp8 le1 r1 q1 hp k h1.2⟩⟩
end
def zbh : DS := fun D ρ μ => D.nx ρ μ
def zN (t u : DS) : DS := fun D ρ μ => t { D with nx := u D } ρ μ
def zty : DS := fun D ρ μ => D.bk ρ μ
def zuT : DS := fun D ρ μ => D.ct ρ μ
def zap (w : DE) : DS := fun D ρ μ => w ρ μ fun _ μ1 => D.nx ρ μ1
def zcF (w : DE) : DS := fun D ρ μ => w ρ μ D.rt
def zu3 : DS := fun D _ μ => D.rt .non μ
def zbT (c : DT) (t u : DS) : DS := fun D ρ μ => c ρ μ fun b μ1 => if b = true then t D ρ μ1 else u D ρ μ1
def zcj : DS := fun _ _ _ => False
def zx (i : Nat) : DG := fun d ρ μ Q => Q (ρ.set i (some d)) μ
def zjT : DGs := fun ds ρ μ Q => ds = [] /\ Q ρ μ
def zck (g : DG) (gs : DGs) : DGs := fun ds ρ μ Q => match ds with
  | d :: r => g d ρ μ fun ρ' μ' => gs r ρ' μ' Q
  | [] => False
def zn1 (n : Nat) (gs : DGs) : DG := fun d ρ μ Q => match d with
  | .tup ds => ds.length = n /\ gs ds ρ μ Q
  | _ => False
def zaT (w : DE) (g : DG) : DS := fun D ρ μ => w ρ μ fun d μ1 => g d ρ μ1 D.nx
def dPar (i j : Nat) (w : DA) : DS := fun D ρ μ => w ρ μ fun ds μ1 => match ds with
  | [d, e] => D.nx ((ρ.set i (some d)).set j (some e)) μ1
  | _ => False
def zvS (i : Nat) (w : DE) (q : DR2) : DS := fun D ρ μ => zc i ρ μ fun x _ => w ρ μ fun y μ1 => q x y μ1 fun z μ2 => D.nx (ρ.set i (some z)) μ2
theorem zmu {X : Cx} {e : Expr} {t : TE} (h : WE X e t) : WE X e (zn2 t) := h
def zsr (μ : Mu) (d : D) (Q : DK) : Prop := match d with
  | .cell k => match μ k with
    | some (.lst ds) => Q (.lst ds) (zqO μ k)
    | some (.dct ks vs) => Q (.dct ks vs) (zqO μ k)
    | some (.dtt ks vs) => Q (.dtt ks vs) (zqO μ k)
    | some (.ins C ns vs) => Q (.obj C ns vs) (zqO μ k)
    | _ => False
  | _ => False
def zrv (i : Nat) (w : DS) : DS := fun D ρ μ => match ρ[i]? with
  | some (some d) => zsr μ d fun d' μ' => w D (ρ.set i (some d')) μ'
  | _ => False
section
variable {K : PySem.W.Frag} {ta : TE} {wa : DE} {t u : TS} {v w : DS}
theorem zml.mono {W W' : Wd} {D' : zcH} {D : Ends} (le : W.le W') (h : zml K W D' D) : zml K W' D' D :=
  ⟨fun W2 ρ μ σ H l => h.nx W2 ρ μ σ H (le.trans l), fun W2 ρ μ σ H l => h.bk W2 ρ μ σ H (le.trans l), fun W2 ρ μ σ H l => h.ct W2 ρ μ σ H (le.trans l), fun W2 ρ μ σ H l => h.rt W2 ρ μ σ H (le.trans l)⟩
instance : zdW K zpN zbh := ⟨fun {W ρ μ σ H D' D} r e h k => k.nx W ρ μ σ H (.refl W) r e h⟩
instance : zdW K zlM zcj := ⟨fun r e h k => h.elim⟩
instance [a : zdW K t v] [b : zdW K u w] : zdW K (zhF t u) (zN v w) := ⟨fun r e h k => a.run r e h ⟨fun W1 ρ1 μ1 σ1 H1 le1 r1 e1 h1 => b.run r1 e1 h1 (k.mono le1), k.bk, k.ct, k.rt⟩⟩
instance [a : zab K ta wa] : zdW K (zo8 ta) (zap wa) := ⟨fun r e h k => a.run r e h fun W1 d μ1 x H1 le1 r1 q1 h1 => k.nx W1 _ μ1 _ H1 le1 r1 (e.mono le1) h1⟩
instance [a : zab K ta wa] : zdW K (zlT ta) (zcF wa) := ⟨fun r e h k => a.run r e h fun W1 d μ1 x H1 le1 r1 q1 h1 => k.rt W1 d μ1 x H1 le1 r1 q1 h1⟩
instance {c : TT} {wc : DT} [a : ze2 K c wc] [x : zdW K t v] [y : zdW K u w] : zdW K (zqG c t u) (zbT wc v w) := ⟨fun r e h k => a.run r e h fun W1 b μ1 H1 le1 r1 h1 => by
  cases b with
  | true => exact x.run r1 (e.mono le1) h1 (k.mono le1)
  | false => exact y.run r1 (e.mono le1) h1 (k.mono le1)⟩
instance {i : Nat} : zj7 K (zen i) (zx i) [i] := ⟨fun {W ρ μ σ H d x Q Q'} r e q h k => k W _ μ _ H (.refl W) r (e.set q) (by simp) (fun j hj => by rw [List.getElem?_set_ne (fun z => hj (by simp [z]))]) h⟩
instance : zjF K ztu zjT [] := ⟨fun {W ρ μ σ H ds xs Q Q'} r e q h k => by obtain ⟨rfl, h⟩ := h; exact ⟨q.nil', k W _ μ _ H (.refl W) r e rfl (fun _ _ => rfl) h⟩⟩
instance {g : TG} {dg : DG} {S S' : List Nat} {gs : TGs} {dgs : DGs} [a : zj7 K g dg S] [b : zjF K gs dgs S'] : zjF K (zpr g gs) (zck dg dgs) (S ++ S') := ⟨fun {W ρ μ σ H ds xs Q Q'} r e q h k => by
  cases ds with
  | nil => exact h.elim
  | cons d ds =>
    obtain ⟨x, xs, rfl, q1, q2⟩ := q.uncons
    exact ⟨x, xs, rfl, a.run r e q1 h fun W1 ρ1 μ1 σ1 H1 le1 r1 e1 l1 s1 h1 => b.run r1 e1 (q2.mono le1) h1 fun W2 ρ2 μ2 σ2 H2 le2 r2 e2 l2 s2 h2 => k W2 ρ2 μ2 σ2 H2 (le1.trans le2) r2 e2 (l2.trans l1) (fun i hi => by rw [s2 i (fun z => hi (List.mem_append_right _ z)), s1 i (fun z => hi (List.mem_append_left _ z))]) h2⟩⟩
instance {n : Nat} {gs : TGs} {dgs : DGs} {S : List Nat} [b : zjF K gs dgs S] : zj7 K (zqP K n gs) (zn1 n dgs) S := ⟨fun {W ρ μ σ H d x Q Q'} r e q h k => by
  cases d <;> first | exact h.elim | skip
  obtain ⟨a, xs, rfl, hs, q1⟩ := q.tup'
  exact ⟨a, xs, rfl, hs.sm r.sub, by rw [q1.length]; exact h.1, b.run r e q1 h.2 k⟩⟩
instance {g : TG} {dg : DG} {S : List Nat} [a : zab K ta wa] [b : zj7 K g dg S] : zdW K (zdN ta g) (zaT wa dg) := ⟨fun r e h k => a.run r e h fun W1 d μ1 x H1 le1 r1 q1 h1 => b.run r1 (e.mono le1) q1 h1 fun W2 ρ2 μ2 σ2 H2 le2 r2 e2 _ _ h2 => k.nx W2 ρ2 μ2 σ2 H2 (le1.trans le2) r2 e2 h2⟩
end
def zhp (g : DG) (wb : DS) (D : zcH) (Pm : Mu -> Prop) : List L2.D -> zav -> Mu -> Prop
  | [], ρ, μ => Pm μ /\ D.nx ρ μ
  | d :: r, ρ, μ => Pm μ /\ g d ρ μ fun ρ2 μ2 => wb { D with nx := zhp g wb D Pm r, ct := zhp g wb D Pm r, bk := D.nx } ρ2 μ2
def zfe (wi : DI) (g : DG) (wb : DS) : DS := fun D ρ μ => wi ρ μ fun ds Pm μ1 => zhp g wb D Pm ds ρ μ1
section
variable {K : PySem.W.Frag} {tb : TS} {wb : DS}
instance {wi : TI} {di : DI} {g : TG} {dg : DG} {S : List Nat} [a : zrh K wi di] [b : zj7 K g dg S] [c : zdW K tb wb] : zdW K (zti wi g tb) (zfe di dg wb) := ⟨fun {W ρ μ σ H D' D} r e h k =>
  a.run r e h fun W1 J ds Pm μ1 H1 le1 r1 it1 h1 => by
    refine ⟨fun i m σ H => ∃ W2 ρ2 μ2, W1.le W2 /\ Rel K W2 μ2 H /\ zce K W2 ρ2 σ /\ m = ds.length - i /\ zhp dg wb D' Pm (ds.drop i) ρ2 μ2, ⟨_, W1, ρ, μ1, .refl _, r1, e.mono le1, rfl, h1⟩, ?_⟩
    rintro i m σ2 H2 ⟨W2, ρ2, μ2, le2, r2, e2, rfl, h2⟩
    have hPm : Pm μ2 := by
      cases hdr : ds.drop i with
      | nil => rw [hdr] at h2; exact h2.1
      | cons _ _ => rw [hdr] at h2; exact h2.1
    obtain ⟨go, stop⟩ := it1 W2 μ2 H2 le2 r2 hPm i
    by_cases hi : i < ds.length
    . refine .inr ?_
      have hd : ds[i]? = some ds[i] := List.getElem?_eq_getElem hi
      obtain ⟨g1, g2⟩ := go _ hd
      rw [List.drop_eq_getElem_cons hi] at h2
      obtain ⟨_, h2⟩ := h2
      refine ⟨g1, fun σ' H' => ∃ W3 ρ3 μ3, W1.le W3 /\ Rel K W3 μ3 H' /\ zce K W3 ρ3 σ' /\ zhp dg wb D' Pm (ds.drop (i + 1)) ρ3 μ3, fun σ' H' ⟨W3, ρ3, μ3, l3, r3, e3, h3⟩ => ⟨ds.length - (i + 1), by omega, W3, ρ3, μ3, l3, r3, e3, rfl, h3⟩, fun x H' y => ?_⟩
      obtain ⟨W3, le3, r3, q3⟩ := g2 x H' y
      refine b.run r3 (e2.mono le3) q3 h2 fun W4 ρ4 μ4 σ4 H4 le4 r4 e4 _ _ h4 => c.run r4 e4 h4 ⟨fun W5 ρ5 μ5 σ5 H5 le5 r5 e5 h5 => ?_, fun W5 ρ5 μ5 σ5 H5 le5 r5 e5 h5 => ?_, fun W5 ρ5 μ5 σ5 H5 le5 r5 e5 h5 => ?_, fun W5 d5 μ5 x5 H5 le5 r5 e5 h5 => ?_⟩
      . exact ⟨W5, ρ5, μ5, le2.trans (le3.trans (le4.trans le5)), r5, e5, h5⟩
      . exact k.nx W5 ρ5 μ5 σ5 H5 (le1.trans (le2.trans (le3.trans (le4.trans le5)))) r5 e5 h5
      . exact ⟨W5, ρ5, μ5, le2.trans (le3.trans (le4.trans le5)), r5, e5, h5⟩
      . exact k.rt W5 d5 μ5 x5 H5 (le1.trans (le2.trans (le3.trans (le4.trans le5)))) r5 e5 h5
    . rw [List.drop_eq_nil_of_le (by omega)] at h2
      exact .inl ⟨stop (by omega), k.nx W2 ρ2 μ2 σ2 H2 (le1.trans le2) r2 e2 h2.2⟩⟩
end
def zfj (ρ : zav) (fr : List Nat) : zav := fr.map fun j => (ρ[j]?).join
def zca (g : DG) (wc : DT) (we : DE) (ρb : zav) (Pm : Mu -> Prop) (Fin : List D -> Mu -> Prop) : List D -> List D -> Mu -> Prop
  | [], ys, μ => Pm μ /\ Fin ys μ
  | d :: r, ys, μ => Pm μ /\ ys.length < sizeLine /\ g d ρb μ fun ρ2 μ2 => wc ρ2 μ2 fun b μ3 => if b = true then we ρ2 μ3 fun v μ4 => zca g wc we ρb Pm Fin r (ys ++ [v]) μ4 else zca g wc we ρb Pm Fin r ys μ3
def zhx : DT := fun _ μ Q => Q true μ
instance {K : PySem.W.Frag} : ze2 K zsJ zhx := ⟨fun {W ρ μ σ H Q Q'} r e h k => k W _ μ H (.refl W) r h⟩
def zdZ (own : List Str) (fr : List Nat) (S : List Nat) (wi : DI) (g : DG) (wc : DT) (we : DE) : DE := fun ρ μ Q => (S.all fun i => decide (i < own.length)) = true /\ wi ρ μ fun ds Pm μ1 =>
  zca g wc we (List.replicate own.length none ++ zfj ρ fr) Pm (fun ys μ2 => Q (.lst ys) μ2) ds [] μ1
def zs6 (own : List Str) (fr : List Nat) (S : List Nat) (wi : DI) (g : DG) (wc : DT) (we : DE) : DE := fun ρ μ Q => (S.all fun i => decide (i < own.length)) = true /\ wi ρ μ fun ds Pm μ1 =>
  zca g wc we (List.replicate own.length none ++ zfj ρ fr) Pm (fun ys μ2 => ∀ k, μ2 k = none -> Q (.cell k) (zQ μ2 k (.lst ys))) ds [] μ1
section
variable {K : PySem.W.Frag} {te : TE} {we : DE} {tc : TT} {wc : DT} {wi : TI} {di : DI} {g : TG} {dg : DG} {S : List Nat}
theorem zce.comp {W : Wd} {ρ : zav} {σ : St} (e : zce K W ρ σ) (own : List Str) (fr : List Nat) : zce K W (List.replicate own.length none ++ zfj ρ fr) (own.map (fun _ => none) ++ zbu σ fr) := by
  refine ⟨by simp [zfj, zbu], fun i d h => ?_⟩
  by_cases hi : i < own.length
  . rw [List.getElem?_append_left (by simp; exact hi), List.getElem?_replicate] at h
    rw [if_pos hi] at h; cases h
  . rw [List.getElem?_append_right (by simp; omega)] at h
    rw [List.getElem?_append_right (by simp; omega)]
    simp only [List.length_replicate, zfj, List.getElem?_map] at h
    simp only [List.length_map, zbu, List.getElem?_map]
    cases hj : fr[i - own.length]? with
    | none => rw [hj] at h; cases h
    | some j =>
      rw [hj] at h
      simp only [Option.map_some, Option.some.injEq] at h ⊢
      cases hd : ρ[j]? with
      | none => rw [hd] at h; cases h
      | some o =>
        rw [hd] at h
        obtain ⟨x, hx, q⟩ := e.2 j d (by rw [hd]; simpa using h)
        exact ⟨x, by rw [hx]; rfl, q⟩
theorem zp2 (own : List Str) (fr : List Nat) [b : zj7 K g dg S] [c : ze2 K tc wc] [v : zab K te we] {W1 : Wd} {ρ : zav} {μ1 : Mu} {σ : St} {H1 : Hp} {J : It} {ds : List D} {Pm : Mu -> Prop} {Fin : List D -> Mu -> Prop} {Fin' : List V -> Hp -> Prop} (e : zce K W1 ρ σ) (r1 : Rel K W1 μ1 H1) (it1 : ItR K W1 J ds Pm)
    (hS : (S.all fun i => decide (i < own.length)) = true) (h : zca dg wc we (List.replicate own.length none ++ zfj ρ fr) Pm Fin ds [] μ1)
    (hF : ∀ W2 ys μ2 xs H2, W1.le W2 -> Rel K W2 μ2 H2 -> zz K W2 ys xs -> Fin ys μ2 -> Fin' xs H2) :
    ∃ W : Nat -> Nat -> List V -> Hp -> Prop, (∃ m, W 0 m [] H1) /\ zfA J g tc te (own.map (fun _ => none) ++ zbu σ fr) Fin' W := by
  refine ⟨fun i m xs H => ∃ W2 ys μ2, W1.le W2 /\ Rel K W2 μ2 H /\ zz K W2 ys xs /\ m = ds.length - i /\ zca dg wc we (List.replicate own.length none ++ zfj ρ fr) Pm Fin (ds.drop i) ys μ2, ⟨_, W1, [], μ1, .refl _, r1, .nil, rfl, h⟩, ?_⟩
  rintro i m xs H2 ⟨W2, ys, μ2, le2, r2, q2, rfl, h2⟩
  have hPm : Pm μ2 := by
    cases hdr : ds.drop i with
    | nil => rw [hdr] at h2; exact h2.1
    | cons _ _ => rw [hdr] at h2; exact h2.1
  obtain ⟨go, stop⟩ := it1 W2 μ2 H2 le2 r2 hPm i
  by_cases hi : i < ds.length
  . refine .inr ?_
    have hd : ds[i]? = some ds[i] := List.getElem?_eq_getElem hi
    obtain ⟨g1, g2⟩ := go _ hd
    rw [List.drop_eq_getElem_cons hi] at h2
    obtain ⟨_, hz, h2⟩ := h2
    refine ⟨g1, by rw [q2.length]; exact hz, fun xs' H' => ∃ W3 ys3 μ3, W1.le W3 /\ Rel K W3 μ3 H' /\ zz K W3 ys3 xs' /\ zca dg wc we (List.replicate own.length none ++ zfj ρ fr) Pm Fin (ds.drop (i + 1)) ys3 μ3, fun xs' H' ⟨W3, ρ3, μ3, l3, r3, e3, h3⟩ => ⟨ds.length - (i + 1), by omega, W3, ρ3, μ3, l3, r3, e3, rfl, h3⟩, fun x H' y => ?_⟩
    obtain ⟨W3, le3, r3, q3⟩ := g2 x H' y
    refine b.run r3 (((e.comp own fr).mono le2).mono le3) q3 h2 fun W4 ρ4 μ4 σ4 H4 le4 r4 e4 l4 s4 h4 => ⟨⟨l4.symm, fun j v hj => ?_⟩, ?_⟩
    . by_cases hjS : j ∈ S
      . have : j < own.length := of_decide_eq_true (List.all_eq_true.mp hS j hjS)
        rw [List.getElem?_append_left (by simp; exact this), List.getElem?_map, List.getElem?_eq_getElem this] at hj
        cases hj
      . rw [s4 j hjS]; exact hj
    . refine c.run r4 e4 h4 fun W5 bb μ5 H5 le5 r5 h5 => ?_
      cases bb with
      | true => exact v.run r5 (e4.mono le5) h5 fun W6 d6 μ6 x6 H6 le6 r6 q6 h6 => ⟨W6, _, μ6, le2.trans (le3.trans (le4.trans (le5.trans le6))), r6, (q2.mono (le3.trans (le4.trans (le5.trans le6)))).append (.cons q6 .nil), h6⟩
      | false => exact ⟨W5, ys, μ5, le2.trans (le3.trans (le4.trans le5)), r5, q2.mono (le3.trans (le4.trans le5)), h5⟩
  . rw [List.drop_eq_nil_of_le (by omega)] at h2
    exact .inl ⟨stop (by omega), hF W2 ys μ2 xs H2 le2 r2 q2 h2.2⟩
instance {own : List Str} {fr : List Nat} [a : zrh K wi di] [b : zj7 K g dg S] [c : ze2 K tc wc] [v : zab K te we] : zab K (zkf own fr wi g tc te) (zdZ own fr S di dg wc we) := ⟨fun {W ρ μ σ H Q Q'} r e h k =>
  a.run r e h.2 fun W1 J ds Pm μ1 H1 le1 r1 it1 h1 => zp2 own fr (e.mono le1) r1 it1 h.1 h1 fun W2 ys μ2 xs H2 le2 r2 q2 h2 p hp => by
    obtain ⟨r3, le3⟩ := r2.newF (o := .lst xs) hp
    exact k _ _ _ _ _ (le1.trans (le2.trans le3)) r3 (.lst zF (q2.mono le3)) h2⟩
end
def lift (K : PySem.W.Frag) (dsp : DSp) : Sp := fun vs H Q _ => ∃ W μ ds Q0, Rel K W μ H /\ zz K W ds vs /\ dsp ds μ Q0 /\ KV' K W Q0 Q
def dCall (dsp : DSp) (w : DA) : DE := fun ρ μ Q => w ρ μ fun ds μ1 => dsp ds μ1 Q
instance {K : PySem.W.Frag} {dsp : DSp} {E : XK} {t : TA} {w : DA} [a : zdO K t w] : zab K (zkT (lift K dsp) [] E t) (dCall dsp w) := ⟨fun {W ρ μ σ H Q Q'} r e h k =>
  a.run r e h fun W1 ds μ1 xs H1 le1 r1 q1 h1 => ⟨W1, μ1, ds, Q, r1, by rw [List.append_nil]; exact q1, h1, fun W2 d μ2 x H2 le2 => k W2 d μ2 x H2 (le1.trans le2)⟩⟩
def zgN (N : List Str) (ds : List D) : zav := ds.map some ++ List.replicate (N.length - ds.length) none
theorem zce.start {K : PySem.W.Frag} {W : Wd} {N : List Str} {ds : List D} {vs : List V} (h : zz K W ds vs) : zce K W (zgN N ds) (start N vs) := by
  refine ⟨by simp [zgN, zn5, h.length], fun i d e => ?_⟩
  unfold zgN at e
  rw [zn5]
  by_cases hi : i < ds.length
  . rw [List.getElem?_append_left (by simp; exact hi), List.getElem?_map, List.getElem?_eq_getElem hi] at e
    simp only [Option.map_some, Option.some.injEq] at e
    obtain ⟨x, hx, q⟩ := h.get (i := i) (d := d) (by rw [List.getElem?_eq_getElem hi, e])
    exact ⟨x, by rw [List.getElem?_append_left (by simp [h.length]; exact hi), List.getElem?_map, hx]; rfl, q⟩
  . rw [List.getElem?_append_right (by simp; omega), List.getElem?_replicate] at e
    split at e <;> cases e
section
variable {P : Program} {w : World} {K : PySem.W.Frag} {mg : Str -> Option Value} {base : Heap}
end
end L2

namespace L2
open PySem PySem.Spec PyProof.Rows
section
variable {X : Cx}
end
def zaC (μ : Mu) : D -> Option (List D)
  | .lst ds => some ds
  | .cell k => match μ k with
    | some (.lst ds) => some ds
    | _ => none
  | _ => none
def zbU (μ : Mu) : D -> Option (List D)
  | .tup ds => some ds
  | d => zaC μ d
section
variable {K : PySem.W.Frag} {W : Wd} {μ : Mu} {H : Hp} {d : D} {x : V} {ds : List D}
theorem za3 (r : Rel K W μ H) (q : Rep K W d x) (h : zaC μ d = some ds) : ∃ a xs, x = .ref a /\ H a = some (.lst xs) /\ zz K W ds xs := by
  unfold zaC at h
  split at h
  . cases h
    obtain ⟨a, xs, rfl, e, z⟩ := q.lst'
    exact ⟨a, xs, rfl, r.sub _ _ e, z⟩
  . rename_i k
    obtain ⟨a, rfl, hb⟩ := q.cell'
    split at h
    . rename_i ds' hk
      cases h
      obtain ⟨a', e1, e2, xs, e3, q3⟩ := r.cel k _ hk
      rw [hb] at e1; cases e1
      exact ⟨a, xs, rfl, e3, q3⟩
    . cases h
  . cases h
theorem zcW (r : Rel K W μ H) (q : Rep K W d x) (h : zbU μ d = some ds) : ∃ a xs, x = .ref a /\ (SqL K H a xs \/ SqT K H a xs) /\ zz K W ds xs := by
  unfold zbU at h
  split at h
  . cases h
    obtain ⟨a, xs, rfl, e, z⟩ := q.tup'
    exact ⟨a, xs, rfl, .inr (e.sm r.sub), z⟩
  . obtain ⟨a, xs, rfl, e, z⟩ := za3 r q h
    exact ⟨a, xs, rfl, .inl (SqL.of e), z⟩
end
section
variable {X : Cx}
end
def zu5 : R2 := fun x y H Q => ∃ i j, x = .str i /\ y = .str j /\ i.length + j.length <= sizeLine /\ Q (.str (i ++ j)) H
def zuv : R2 := rI0 fun i j => .int (i + j)
def zrT (K : PySem.W.Frag) : R2 := fun x y H Q => zuv x y H Q \/ zu5 x y H Q \/ zuz x y H Q \/ zrR K x y H Q
theorem zaO {X : Cx} (K : PySem.W.Frag) (h : X.K = K := by rfl) : OpR X (binaryOp .Add) (zrT K) := h ▸ ziV.or (zlE.or (zuo.or zqX))
def zcG : DR2 := fun d e μ Q => match d, e with
  | .int i, .int j => Q (.int (i + j)) μ
  | .str a, .str b => a.length + b.length <= sizeLine /\ Q (.str (a ++ b)) μ
  | .tup a, .tup b => a ≠ [] /\ a.length + b.length <= sizeLine /\ Q (.tup (a ++ b)) μ
  | d, e => ∃ a b, zaC μ d = some a /\ zaC μ e = some b /\ a.length + b.length <= sizeLine /\ Q (.lst (a ++ b)) μ
instance {K : PySem.W.Frag} : zbq K (zrT K) zcG := ⟨fun {W μ H d e x y Q Q'} r q1 q2 h k => by
  unfold zcG at h
  split at h
  . rw [q1.i', q2.i']; exact .inl ⟨_, _, rfl, rfl, k _ _ _ _ _ (.refl _) r .i h⟩
  . rw [q1.s', q2.s']; exact .inr (.inl ⟨_, _, rfl, rfl, h.1, k _ _ _ _ _ (.refl _) r .s h.2⟩)
  . rename_i a b
    obtain ⟨p, xs, rfl, s1, z1⟩ := q1.tup'
    obtain ⟨p', ys, rfl, s2, z2⟩ := q2.tup'
    obtain ⟨hn, hz, h⟩ := h
    refine .inr (.inr (.inr ⟨p, p', xs, ys, rfl, rfl, s1.sm r.sub, s2.sm r.sub, fun z => ?_, by rw [z1.length, z2.length]; exact hz, fun z => ?_, fun _ q hq => ?_⟩))
    . have := z1.length
      rw [z] at this
      exact hn (List.length_eq_zero_iff.mp this.symm)
    . have := z2.length
      rw [z] at this
      have e : b = [] := List.length_eq_zero_iff.mp this.symm
      subst e
      rw [List.append_nil] at h
      exact k _ _ _ _ _ (.refl _) r q1 h
    . obtain ⟨r2, le2⟩ := r.newF (o := .tup (xs ++ ys)) hq
      exact k _ _ _ _ _ le2 r2 (.tup (SqT.of zF) ((z1.mono le2).append (z2.mono le2))) h
  . obtain ⟨a, b, e1, e2, hz, h⟩ := h
    obtain ⟨p, xs, rfl, s1, z1⟩ := za3 r q1 e1
    obtain ⟨p', ys, rfl, s2, z2⟩ := za3 r q2 e2
    refine .inr (.inr (.inl ⟨p, p', xs, ys, rfl, rfl, s1, s2, by rw [z1.length, z2.length]; exact hz, fun q hq => ?_⟩))
    obtain ⟨r2, le2⟩ := r.newF (o := .lst (xs ++ ys)) hq
    exact k _ _ _ _ _ le2 r2 (.lst zF ((z1.mono le2).append (z2.mono le2))) h⟩
def dI (C : Int -> Int -> Prop) (g : Int -> Int -> D) : DR2 := fun d e μ Q => match d, e with
  | .int i, .int j => C i j /\ Q (g i j) μ
  | _, _ => False
def dI0 (g : Int -> Int -> D) : DR2 := fun d e μ Q => match d, e with
  | .int i, .int j => Q (g i j) μ
  | _, _ => False
section
variable {K : PySem.W.Frag}
theorem zoS {C : Int -> Int -> Prop} {g : Int -> Int -> V} {g' : Int -> Int -> D} (hg : ∀ W i j, Rep K W (g' i j) (g i j)) : zbq K (rI C g) (dI C g') := ⟨fun {W μ H d e x y Q Q'} r q1 q2 h k => by
  unfold dI at h
  split at h
  . rw [q1.i', q2.i']; exact ⟨_, _, rfl, rfl, h.1, k _ _ _ _ _ (.refl _) r (hg _ _ _) h.2⟩
  . exact h.elim⟩
theorem zgp {g : Int -> Int -> V} {g' : Int -> Int -> D} (hg : ∀ W i j, Rep K W (g' i j) (g i j)) : zbq K (rI0 g) (dI0 g') := ⟨fun {W μ H d e x y Q Q'} r q1 q2 h k => by
  unfold dI0 at h
  split at h
  . rw [q1.i', q2.i']; exact ⟨_, _, rfl, rfl, k _ _ _ _ _ (.refl _) r (hg _ _ _) h⟩
  . exact h.elim⟩
end
def zmK : DR2 := dI0 fun i j => .int (i - j)
def zlW : DR2 := dI zg7 fun i j => .int (i / j)
def zrw : DR2 := dI (fun _ j => 0 < j) fun i j => .int (i % j)
def zvJ : DR2 := dI zqJ fun i j => .int (i ^ j.toNat)
def dLt : DR2 := dI0 fun i j => .bl (decide (i < j))
def dLe : DR2 := dI0 fun i j => .bl (decide (i <= j))
def dGt : DR2 := dI0 fun i j => .bl (decide (j < i))
def dGe : DR2 := dI0 fun i j => .bl (decide (j <= i))
def zf9 : DR1 := fun d μ Q => match d with
  | .int i => Q (.int (-i)) μ
  | _ => False
section
variable {K : PySem.W.Frag}
instance : zbq K (rI0 fun i j => .int (i - j)) zmK := zgp fun _ _ _ => .i
instance : zbq K (rI zg7 fun i j => .int (i / j)) zlW := zoS fun _ _ _ => .i
instance : zbq K (rI (fun _ j => 0 < j) fun i j => .int (i % j)) zrw := zoS fun _ _ _ => .i
instance : zbq K (rI0 fun i j => .bl (decide (i < j))) dLt := zgp fun _ _ _ => .b
instance : zbq K (rI0 fun i j => .bl (decide (i <= j))) dLe := zgp fun _ _ _ => .b
instance : zbq K (rI0 fun i j => .bl (decide (j <= i))) dGe := zgp fun _ _ _ => .b
instance : zr0 K (rU fun i => .int (-i)) zf9 := ⟨fun {W μ H d x Q Q'} r q h k => by
  unfold zf9 at h
  split at h
  . rw [q.i']; exact ⟨_, rfl, k _ _ _ _ _ (.refl _) r .i h⟩
  . exact h.elim⟩
end
def zvx : R2 := rI zi6 fun i j => .int (i * j)
def zmx : R2 := fun x y H Q => zvx x y H Q \/ zvm x y H Q
theorem zq0 {X : Cx} : OpR X (binaryOp .Mult) zmx := zos.or zta
def zpK : DR2 := fun d e μ Q => match d, e with
  | .int i, .int j => zi6 i j /\ Q (.int (i * j)) μ
  | d, .int j => ∃ a, zaC μ d = some a /\ -(2 ^ 63) <= j /\ j < 2 ^ 63 /\ a.length * j.toNat <= sizeLine /\ Q (.lst (List.replicate j.toNat a).flatten) μ
  | _, _ => False
theorem zz.rep {K : PySem.W.Frag} {W : Wd} {ds : List D} {xs : List V} (h : zz K W ds xs) : ∀ n : Nat, zz K W (List.replicate n ds).flatten (List.replicate n xs).flatten
  | 0 => .nil
  | n + 1 => by rw [List.replicate_succ, List.replicate_succ, List.flatten_cons, List.flatten_cons]; exact h.append (zz.rep h n)
instance {K : PySem.W.Frag} : zbq K zmx zpK := ⟨fun {W μ H d e x y Q Q'} r q1 q2 h k => by
  unfold zpK at h
  split at h
  . rw [q1.i', q2.i']; exact .inl ⟨_, _, rfl, rfl, h.1, k _ _ _ _ _ (.refl _) r .i h.2⟩
  . rename_i j _
    obtain ⟨a, e1, h1, h2, hz, h⟩ := h
    obtain ⟨p, xs, rfl, s1, z1⟩ := za3 r q1 e1
    rw [q2.i']
    refine .inr ⟨p, _, xs, rfl, rfl, s1, h1, h2, by rw [z1.length]; exact hz, fun q hq => ?_⟩
    obtain ⟨r2, le2⟩ := r.newF (o := .lst (List.replicate j.toNat xs).flatten) hq
    exact k _ _ _ _ _ le2 r2 (.lst zF ((z1.mono le2).rep _)) h
  . exact h.elim⟩
def zuO : DR2 := fun d e μ Q => match d, e with
  | .int i, .int j => Q (.int (i + j)) μ
  | .cell k, e => ∃ a b, μ k = some (.lst a) /\ zaC μ e = some b /\ a.length + b.length <= sizeLine /\ Q (.cell k) (zQ μ k (.lst (a ++ b)))
  | _, _ => False
def zuM : DR2 := dI0 fun i j => .int (i - j)
def zu4 : DR2 := dI zi6 fun i j => .int (i * j)
theorem zz.atI {K : PySem.W.Frag} {W : Wd} {ds : List D} {xs : List V} {i : Int} {d : D} (h : zz K W ds xs) (e : L2.atI ds i = some d) : ∃ x, L2.atI xs i = some x /\ Rep K W d x := by
  unfold L2.atI at *
  rw [h.length]
  cases hn : ixN ds.length i with
  | none => rw [hn] at e; cases e
  | some j =>
    rw [hn] at e
    exact h.get e
def dIx : DR2 := fun d e μ Q => match d, e with
  | .str z, .int i => z.length <= sizeLine /\ (match L2.atI z.cps.toList i with
    | some c => Q (.str ⟨#[c]⟩) μ
    | none => False)
  | d, .int i => match zbU μ d with
    | some ds => match L2.atI ds i with
      | some v => Q v μ
      | none => False
    | none => False
  | _, _ => False
instance {K : PySem.W.Frag} : zbq K (rIx K) dIx := ⟨fun {W μ H d e x y Q Q'} r q1 q2 h k => by
  unfold dIx at h
  split at h
  . rename_i z i
    obtain ⟨hz, h⟩ := h
    split at h
    . rename_i c hc
      rw [q1.s', q2.i']
      exact .inr (.inr ⟨z, i, c, rfl, rfl, hz, hc, k _ _ _ _ _ (.refl _) r .s h⟩)
    . exact h.elim
  . rename_i i _
    split at h
    . rename_i ds hds
      obtain ⟨p, xs, rfl, s1, z1⟩ := zcW r q1 hds
      split at h
      . rename_i v hv
        obtain ⟨w, ew, qw⟩ := z1.atI hv
        rw [q2.i']
        rcases s1 with s1 | s1
        . exact .inl ⟨p, xs, i, w, rfl, rfl, s1, ew, k _ _ _ _ _ (.refl _) r qw h⟩
        . exact .inr (.inl ⟨p, xs, i, w, rfl, rfl, s1, ew, k _ _ _ _ _ (.refl _) r qw h⟩)
      . exact h.elim
    . exact h.elim
  . exact h.elim⟩
theorem zE {X : Cx} (K : PySem.W.Frag) (h : X.K = K := by rfl) : IxR X (rIx K) := h ▸ zs5
def zao : DO := fun _ μ Q => Q none μ
def zbI (w : DE) : DO := fun ρ μ Q => w ρ μ fun d μ1 => match d with
  | .int i => Q (some i) μ1
  | _ => False
abbrev DSl := D -> Option Int -> Option Int -> Mu -> DK -> Prop
class zr1 (K : PySem.W.Frag) (r : V -> Option Int -> Option Int -> Hp -> VK -> Prop) (q : DSl) : Prop where
  run : ∀ {W μ H d x lo hi Q Q'}, Rel K W μ H -> Rep K W d x -> q d lo hi μ Q -> KV' K W Q Q' -> r x lo hi H Q'
def dSl (q : DSl) (we : DE) (wl wh : DO) : DE := fun ρ μ Q => we ρ μ fun d μ1 => wl ρ μ1 fun l μ2 => wh ρ μ2 fun u μ3 => q d l u μ3 Q
section
variable {K : PySem.W.Frag} {te : TE} {we : DE} {tl th : TO} {wl wh : DO}
instance : zlz K zi3 zao := ⟨fun {W ρ μ σ H Q Q'} r e h k => k W _ μ H (.refl W) r h⟩
instance [a : zab K te we] : zlz K (zow te) (zbI we) := ⟨fun r e h k => a.run r e h fun W1 d μ1 x H1 le1 r1 q1 h1 => by
  cases d <;> first | exact h1.elim | skip
  exact ⟨_, q1.i', k W1 _ μ1 H1 le1 r1 h1⟩⟩
instance {r : V -> Option Int -> Option Int -> Hp -> VK -> Prop} {q : DSl} [a : zab K te we] [b : zlz K tl wl] [c : zlz K th wh] [o : zr1 K r q] : zab K (tSl r te tl th) (dSl q we wl wh) := ⟨fun r e h k =>
  a.run r e h fun W1 d μ1 x H1 le1 r1 q1 h1 => b.run r1 (e.mono le1) h1 fun W2 l μ2 H2 le2 r2 h2 => c.run r2 (e.mono (le1.trans le2)) h2 fun W3 u μ3 H3 le3 r3 h3 => o.run r3 (q1.mono (le2.trans le3)) h3 fun W4 d4 μ4 x4 H4 le4 r4 q4 h4 => k W4 d4 μ4 x4 H4 (le1.trans (le2.trans (le3.trans le4))) r4 q4 h4⟩
end
def cutD {α : Type} (xs : List α) (lo hi : Option Int) : List α := (xs.drop (HT.sIx xs.length 0 lo)).take (HT.sIx xs.length xs.length hi - HT.sIx xs.length 0 lo)
theorem zz.cut {K : PySem.W.Frag} {W : Wd} {ds : List D} {xs : List V} (h : zz K W ds xs) (lo hi : Option Int) : zz K W (cutD ds lo hi) (zga xs lo hi) := by
  unfold cutD zga
  rw [h.length]
  exact (h.drop _).take _
def zuG (K : PySem.W.Frag) : V -> Option Int -> Option Int -> Hp -> VK -> Prop := fun x lo hi H Q => ztW K x lo hi H Q \/ zvg K x lo hi H Q
theorem zlY {X : Cx} (K : PySem.W.Frag) (h : X.K = K := by rfl) : SlR X (zuG K) := h ▸ zmr.or ztr
def zcd : DSl := fun d lo hi μ Q => match d with
  | .tup ds => ¬ (HT.sIx ds.length 0 lo = 0 /\ HT.sIx ds.length ds.length hi = ds.length) /\ Q (.tup (cutD ds lo hi)) μ
  | d => match zaC μ d with
    | some ds => Q (.lst (cutD ds lo hi)) μ
    | none => False
instance {K : PySem.W.Frag} : zr1 K (zuG K) zcd := ⟨fun {W μ H d x lo hi Q Q'} r q1 h k => by
  unfold zcd at h
  split at h
  . obtain ⟨p, xs, rfl, s1, z1⟩ := q1.tup'
    refine .inr ⟨p, xs, rfl, s1.sm r.sub, by rw [z1.length]; exact h.1, fun q hq => ?_⟩
    obtain ⟨r2, le2⟩ := r.newF (o := .tup (zga xs lo hi)) hq
    exact k _ _ _ _ _ le2 r2 (.tup (SqT.of zF) ((z1.mono le2).cut _ _)) h.2
  . split at h
    . rename_i ds hds
      obtain ⟨p, xs, rfl, s1, z1⟩ := za3 r q1 hds
      refine .inl ⟨p, xs, rfl, SqL.of s1, fun q hq => ?_⟩
      obtain ⟨r2, le2⟩ := r.newF (o := .lst (zga xs lo hi)) hq
      exact k _ _ _ _ _ le2 r2 (.lst zF ((z1.mono le2).cut _ _)) h
    . exact h.elim⟩
mutual
def toPy : D -> Option PyData
  | .non => some .none
  | .bl b => some (.bool b)
  | .int i => some (.int i)
  | .str x => some (.str x)
  | .tup ds => (zaP ds).map .tuple
  | .lst ds => (zaP ds).map .list
  | _ => none
def zaP : List D -> Option (List PyData)
  | [] => some []
  | d :: ds => match toPy d, zaP ds with
    | some p, some ps => some (p :: ps)
    | _, _ => none
end
def zkY (μ : Mu) : D -> Option PyData
  | .cell k => match μ k with
    | some (.lst ds) => (zaP ds).map .list
    | _ => none
  | d => toPy d
section
variable {K : PySem.W.Frag} {W : Wd} {H : Hp}
mutual
theorem zjH (s : zhG W.F H) : ∀ {d : D} {p : PyData} {x : V}, toPy d = some p -> Rep K W d x -> Dat K H p x
  | .non, _, _, e, q => by unfold toPy at e; cases e; rw [q.n']; exact .n
  | .bl _, _, _, e, q => by unfold toPy at e; cases e; rw [q.b']; exact .b
  | .int _, _, _, e, q => by unfold toPy at e; cases e; rw [q.i']; exact .i
  | .str _, _, _, e, q => by unfold toPy at e; cases e; rw [q.s']; exact .s
  | .tup ds, _, _, e, q => by
    unfold toPy at e
    obtain ⟨a, xs, rfl, h, z⟩ := q.tup'
    cases e1 : zaP ds with
    | none => rw [e1] at e; cases e
    | some ps => rw [e1] at e; cases e; exact .tup (h.sm s) (zcZ s e1 z)
  | .lst ds, _, _, e, q => by
    unfold toPy at e
    obtain ⟨a, xs, rfl, h, z⟩ := q.lst'
    cases e1 : zaP ds with
    | none => rw [e1] at e; cases e
    | some ps => rw [e1] at e; cases e; exact .lst (SqL.of (s _ _ h)) (zcZ s e1 z)
  | .ty _, _, _, e, _ => by unfold toPy at e; cases e
  | .cls _, _, _, e, _ => by unfold toPy at e; cases e
  | .scr _, _, _, e, _ => by unfold toPy at e; cases e
  | .cell _, _, _, e, _ => by unfold toPy at e; cases e
  | .dct _ _, _, _, e, _ => by unfold toPy at e; cases e
  | .dtt _ _, _, _, e, _ => by unfold toPy at e; cases e
  | .obj _ _ _, _, _, e, _ => by unfold toPy at e; cases e
theorem zcZ (s : zhG W.F H) : ∀ {ds : List D} {ps : List PyData} {xs : List V}, zaP ds = some ps -> zz K W ds xs -> zbO K H ps xs
  | [], _, _, e, q => by unfold zaP at e; cases e; rw [q.nil']; exact .nil
  | d :: ds, _, _, e, q => by
    unfold zaP at e
    obtain ⟨x, r, rfl, q1, q2⟩ := q.uncons
    cases e1 : toPy d with
    | none => rw [e1] at e; cases e
    | some p =>
      cases e2 : zaP ds with
      | none => rw [e1, e2] at e; cases e
      | some ps => rw [e1, e2] at e; cases e; exact .cons (zjH s e1 q1) (zcZ s e2 q2)
end
theorem zec {μ : Mu} {d : D} {p : PyData} {x : V} (r : Rel K W μ H) (e : zkY μ d = some p) (q : Rep K W d x) : Dat K H p x := by
  unfold zkY at e
  split at e
  . rename_i k
    obtain ⟨a, rfl, hb⟩ := q.cell'
    split at e
    . rename_i ds hk
      obtain ⟨a', e1, e2, xs, e3, q3⟩ := r.cel k _ hk
      rw [hb] at e1; cases e1
      cases e4 : zaP ds with
      | none => rw [e4] at e; cases e
      | some ps => rw [e4] at e; cases e; exact .lst (SqL.of e3) (zcZ r.sub e4 q3)
    . cases e
  . exact zjH r.sub e q
end
def zvD (K : PySem.W.Frag) (neg : Bool) : R2 := fun x y H Q => ∃ d d', Dat K H d x /\ Dat K H d' y /\ zdj d /\ zdj d' /\ Q (.bl (if neg then !PyData.eqv d d' else PyData.eqv d d')) H
def zuR (K : PySem.W.Frag) : R2 := fun x y H Q => rEq x y H Q \/ zvD K false x y H Q
def zus (K : PySem.W.Frag) : R2 := fun x y H Q => rNe x y H Q \/ zvD K true x y H Q
theorem zcm {X : Cx} (K : PySem.W.Frag) {k : Nat} (hr : zaM k X.A) (h : X.K = K := by rfl) : OpR X (compareOp .Eq) (zuR K) := zsh.or (ztx K hr h)
theorem zuk {X : Cx} (K : PySem.W.Frag) {k : Nat} (hr : zaM k X.A) (h : X.K = K := by rfl) : OpR X (compareOp .NotEq) (zus K) := zvC.or (ztX K hr h)
def ziw (neg : Bool) : DR2 := fun d e μ Q => match d, e with
  | .int i, .int j => Q (.bl (neg ^^ decide (i = j))) μ
  | .str i, .str j => Q (.bl (neg ^^ decide (i = j))) μ
  | .bl i, .bl j => Q (.bl (neg ^^ decide (i = j))) μ
  | d, e => match zkY μ d, zkY μ e with
    | some p, some q => zdj p /\ zdj q /\ Q (.bl (neg ^^ PyData.eqv p q)) μ
    | _, _ => False
def dEq : DR2 := ziw false
def dNe : DR2 := ziw true
theorem zqa (i j : Int) : decide (V.int i = V.int j) = decide (i = j) := by by_cases h : i = j <;> simp [h]
theorem zpz (i j : Str) : decide (V.str i = V.str j) = decide (i = j) := by by_cases h : i = j <;> simp [h]
theorem zrZ (i j : Bool) : decide (V.bl i = V.bl j) = decide (i = j) := by by_cases h : i = j <;> simp [h]
instance {K : PySem.W.Frag} : zbq K (zuR K) dEq := ⟨fun {W μ H d e x y Q Q'} r q1 q2 h k => by
  unfold dEq ziw at h
  simp only [Bool.false_xor] at h
  split at h
  . rw [q1.i', q2.i']; exact .inl ⟨rfl, k _ _ _ _ _ (.refl _) r (by rw [zqa]; exact .b) h⟩
  . rw [q1.s', q2.s']; exact .inl ⟨rfl, k _ _ _ _ _ (.refl _) r (by rw [zpz]; exact .b) h⟩
  . rw [q1.b', q2.b']; exact .inl ⟨rfl, k _ _ _ _ _ (.refl _) r (by rw [zrZ]; exact .b) h⟩
  . split at h
    . rename_i p q e1 e2
      exact .inr ⟨p, q, zec r e1 q1, zec r e2 q2, h.1, h.2.1, k _ _ _ _ _ (.refl _) r .b h.2.2⟩
    . exact h.elim⟩
instance {K : PySem.W.Frag} : zbq K (zus K) dNe := ⟨fun {W μ H d e x y Q Q'} r q1 q2 h k => by
  unfold dNe ziw at h
  simp only [Bool.true_xor] at h
  split at h
  . rw [q1.i', q2.i']; exact .inl ⟨rfl, k _ _ _ _ _ (.refl _) r (by rw [zqa]; exact .b) h⟩
  . rw [q1.s', q2.s']; exact .inl ⟨rfl, k _ _ _ _ _ (.refl _) r (by rw [zpz]; exact .b) h⟩
  . rw [q1.b', q2.b']; exact .inl ⟨rfl, k _ _ _ _ _ (.refl _) r (by rw [zrZ]; exact .b) h⟩
  . split at h
    . rename_i p q e1 e2
      exact .inr ⟨p, q, zec r e1 q1, zec r e2 q2, h.1, h.2.1, k _ _ _ _ _ (.refl _) r .b h.2.2⟩
    . exact h.elim⟩
def zd7 : D -> Bool
  | .non => true
  | _ => false
def dIs : DR2 := fun d e μ Q => match e with
  | .non => Q (.bl (zd7 d)) μ
  | _ => False
def zsv : DR2 := fun d e μ Q => match e with
  | .non => Q (.bl (!zd7 d)) μ
  | _ => False
def zij : D -> Option V
  | .non => some .non
  | .bl b => some (.bl b)
  | .int i => some (.int i)
  | .str x => some (.str x)
  | _ => none
def zdV : List D -> Option (List V)
  | [] => some []
  | d :: ds => match zij d, zdV ds with
    | some x, some xs => some (x :: xs)
    | _, _ => none
theorem zh4 {K : PySem.W.Frag} {W : Wd} {d : D} {x v : V} (e : zij d = some v) (q : Rep K W d x) : x = v /\ zer v = true := by
  cases d <;> simp only [zij, Option.some.injEq, reduceCtorEq] at e
  . rw [<- e]; exact ⟨q.n', rfl⟩
  . rw [<- e]; exact ⟨q.b', rfl⟩
  . rw [<- e]; exact ⟨q.i', rfl⟩
  . rw [<- e]; exact ⟨q.s', rfl⟩
theorem zhk {K : PySem.W.Frag} {W : Wd} : ∀ {ds : List D} {xs vs : List V}, zdV ds = some vs -> zz K W ds xs -> xs = vs /\ vs.all zer = true
  | [], _, _, e, q => by unfold zdV at e; cases e; exact ⟨q.nil', rfl⟩
  | d :: ds, _, _, e, q => by
    unfold zdV at e
    obtain ⟨x, r, rfl, q1, q2⟩ := q.uncons
    cases e1 : zij d with
    | none => rw [e1] at e; cases e
    | some v =>
      cases e2 : zdV ds with
      | none => rw [e1, e2] at e; cases e
      | some vs =>
        rw [e1, e2] at e; cases e
        obtain ⟨a, b⟩ := zh4 e1 q1
        obtain ⟨c, f⟩ := zhk e2 q2
        exact ⟨by rw [a, c], by rw [List.all_cons, b, f]; rfl⟩
def zdz (neg : Bool) : DR2 := fun d e μ Q => match zbU μ e with
  | some ds => match zij d, zdV ds with
    | some v, some vs => Q (.bl (if neg then !inV v vs else inV v vs)) μ
    | _, _ => False
  | none => False
instance {K : PySem.W.Frag} {neg : Bool} : zbq K (rIn K neg) (zdz neg) := ⟨fun {W μ H d e x y Q Q'} r q1 q2 h k => by
  unfold zdz at h
  split at h
  . rename_i ds hds
    obtain ⟨p, xs, rfl, s1, z1⟩ := zcW r q2 hds
    split at h
    . rename_i v vs e1 e2
      obtain ⟨a, b⟩ := zh4 e1 q1
      obtain ⟨c, f⟩ := zhk e2 z1
      subst a c
      exact ⟨p, _, rfl, s1, b, f, k _ _ _ _ _ (.refl _) r .b h⟩
    . exact h.elim
  . exact h.elim⟩
end L2

namespace L2
open PySem PySem.Spec PyProof.Rows
def dCB (q : DRs) (w : DA) : DE := fun ρ μ Q => w ρ μ fun ds μ1 => q ds μ1 Q
instance {K : PySem.W.Frag} {r : List V -> Hp -> VK -> Prop} {q : DRs} {t : TA} {w : DA} [a : zdO K t w] [o : zcz K r q] : zab K (tCB r t) (dCB q w) := ⟨fun r e h k =>
  a.run r e h fun W1 ds μ1 xs H1 le1 r1 q1 h1 => o.run r1 q1 h1 fun W2 d μ2 x H2 le2 => k W2 d μ2 x H2 (le1.trans le2)⟩
section
variable {X : Cx} (K : PySem.W.Frag)
def zvb : List V -> Hp -> VK -> Prop := fun xs H Q => ∃ p ys, xs = [.ref p] /\ (SqL K H p ys \/ SqT K H p ys) /\ Q (.int ys.length) H
def zuu : List V -> Hp -> VK -> Prop := fun xs H Q => ∃ z, xs = [.str z] /\ z.length <= sizeLine /\ Q (.int z.length) H
def zr2 : List V -> Hp -> VK -> Prop := fun xs H Q => zvb K xs H Q \/ zuu xs H Q
theorem zaN (h : X.K = K := by rfl) : zZ X (.builtin "len") (zr2 K) := h ▸ zeZ.or ziN
def zvq : List V -> Hp -> VK -> Prop := fun xs H Q => ∃ i j, xs = [.int i, .int j] /\ Q (.int (if j > i then j else i)) H
def zvB : List V -> Hp -> VK -> Prop := fun xs H Q => ∃ p ns, xs = [.ref p] /\ SqL K H p (ns.map V.int) /\ ns ≠ [] /\ ∀ M ∈ ns, (∀ a ∈ ns, a <= M) -> Q (.int M) H
def zrX : List V -> Hp -> VK -> Prop := fun xs H Q => zvq xs H Q \/ zvB K xs H Q
def zuU : List V -> Hp -> VK -> Prop := fun xs H Q => ∃ i j, xs = [.int i, .int j] /\ Q (.int (if j < i then j else i)) H
def zuD : List V -> Hp -> VK -> Prop := fun xs H Q => ∃ p ns, xs = [.ref p] /\ SqL K H p (ns.map V.int) /\ ns ≠ [] /\ ∀ M ∈ ns, (∀ a ∈ ns, M <= a) -> Q (.int M) H
def zse : List V -> Hp -> VK -> Prop := fun xs H Q => zuU xs H Q \/ zuD K xs H Q
theorem zmW (hc : X.calm = true := by rfl) (h : X.K = K := by rfl) : zZ X (.builtin "max") (zrX K) := (znj hc).or (znn K hc h)
theorem zh7 (hc : X.calm = true := by rfl) (h : X.K = K := by rfl) : zZ X (.builtin "min") (zse K) := (znJ hc).or (zmG K hc h)
def zvA : List V -> Hp -> VK -> Prop := fun xs H Q => ∃ (p : Addr) (bs : List Bool), xs = [.ref p] /\ SqL K H p (bs.map V.bl) /\ Q (.bl (bs.all id)) H
def zqu : List V -> Hp -> VK -> Prop := fun xs H Q => ∃ x c t b, xs = [x, c] /\ zeg K H x t /\ (∀ u, RelV c u -> PySem.W.kitOne K t u = some b) /\ Q (.bl b) H
def zsb : List V -> Hp -> VK -> Prop := fun xs H Q => ∃ p ys, xs = [.ref p] /\ (SqL K H p ys \/ SqT K H p ys) /\ ∀ l, H l = none -> Q (.ref l) (upd H l (.lst ys))
def zn7 : List V -> Hp -> VK -> Prop := fun xs H Q => ∃ p ys, xs = [.ref p] /\ ((SqL K H p ys /\ ∀ l, H l = none -> Q (.ref l) (upd H l (.tup ys))) \/ (SqT K H p ys /\ Q (.ref p) H))
theorem zmL (hc : X.calm = true := by rfl) (h : X.K = K := by rfl) : zZ X (.builtin "all") (zvA K) := zmH K hc h
theorem zic (h : X.K = K := by rfl) : zZ X (.builtin "isinstance") (zqu K) := zi1 K h
theorem zlL (h : X.K = K := by rfl) : zZ X (.type "list") (zsb K) := zhh K h
theorem zat (h : X.K = K := by rfl) : zZ X (.type "tuple") (zn7 K) := zkQ K h
end
def zdP : DRs := fun ds μ Q => match ds with
  | [.str z] => z.length <= sizeLine /\ Q (.int z.length) μ
  | [d] => match zbU μ d with
    | some es => Q (.int es.length) μ
    | none => False
  | _ => False
def zvR : DRs := fun ds μ Q => match ds with
  | [.int i] => Q (.int (if i < 0 then -i else i)) μ
  | _ => False
def intsOf : List D -> Option (List Int)
  | [] => some []
  | .int i :: r => match intsOf r with
    | some l => some (i :: l)
    | none => none
  | _ => none
def zcg : List D -> Option (List Bool)
  | [] => some []
  | .bl i :: r => match zcg r with
    | some l => some (i :: l)
    | none => none
  | _ => none
theorem zin : ∀ {ds : List D} {ns : List Int}, intsOf ds = some ns -> ds = ns.map D.int
  | [], _, h => by cases h; rfl
  | d :: r, ns, h => by
    cases d <;> simp only [intsOf, reduceCtorEq] at h
    cases e : intsOf r with
    | none => rw [e] at h; cases h
    | some l => rw [e] at h; cases h; rw [zin e]; rfl
theorem zkr : ∀ {ds : List D} {ns : List Bool}, zcg ds = some ns -> ds = ns.map D.bl
  | [], _, h => by cases h; rfl
  | d :: r, ns, h => by
    cases d <;> simp only [zcg, reduceCtorEq] at h
    cases e : zcg r with
    | none => rw [e] at h; cases h
    | some l => rw [e] at h; cases h; rw [zkr e]; rfl
theorem zie : ∀ ns : List Bool, zcg (ns.map D.bl) = some ns
  | [] => rfl
  | _ :: r => by rw [List.map_cons, zcg, zie r]
def zmE : DRs := fun ds μ Q => match ds with
  | [.int i, .int j] => Q (.int (if j > i then j else i)) μ
  | [d] => match (zaC μ d).bind intsOf with
    | some ns => ns ≠ [] /\ ∀ M ∈ ns, (∀ a ∈ ns, a <= M) -> Q (.int M) μ
    | none => False
  | _ => False
def zlt : DRs := fun ds μ Q => match ds with
  | [.int i, .int j] => Q (.int (if j < i then j else i)) μ
  | [d] => match (zaC μ d).bind intsOf with
    | some ns => ns ≠ [] /\ ∀ M ∈ ns, (∀ a ∈ ns, M <= a) -> Q (.int M) μ
    | none => False
  | _ => False
def zur : DRs := fun ds μ Q => match ds with
  | [d] => match (zaC μ d).bind intsOf with
    | some ns => Q (.int ns.sum) μ
    | none => False
  | _ => False
def zpD : DRs := fun ds μ Q => match ds with
  | [d] => match (zaC μ d).bind zcg with
    | some bs => Q (.bl (bs.all id)) μ
    | none => False
  | _ => False
def zvr : DRs := fun ds μ Q => match ds with
  | [d] => match (zaC μ d).bind zcg with
    | some bs => Q (.bl (bs.any id)) μ
    | none => False
  | _ => False
def zkp : DRs := fun ds μ Q => match ds with
  | [d] => match zbU μ d with
    | some es => Q (.lst es) μ
    | none => False
  | _ => False
def zpR : DRs := fun ds μ Q => match ds with
  | [d] => match zbU μ d with
    | some es => ∀ k, μ k = none -> Q (.cell k) (zQ μ k (.lst es))
    | none => False
  | _ => False
def zbn : DRs := fun ds μ Q => match ds with
  | [d] => match zbU μ d with
    | some es => Q (.tup es) μ
    | none => False
  | _ => False
def tyD (μ : Mu) : D -> Option String
  | .non => some "NoneType"
  | .bl _ => some "bool"
  | .int _ => some "int"
  | .str _ => some "str"
  | .lst _ => some "list"
  | .cell k => match μ k with
    | some (.lst _) => some "list"
    | some (.dct _ _) => some "dict"
    | some (.dtt _ _) => some "dict"
    | _ => none
  | .dct _ _ => some "dict"
  | .dtt _ _ => some "dict"
  | _ => none
def zaw : List String := ["int", "bool", "str", "list", "tuple", "dict"]
def zeK (t T : String) : Bool := t == T || (t == "bool" && T == "int")
def zoX : DRs := fun ds μ Q => match ds with
  | [d, .ty T] => match tyD μ d with
    | some t => T ∈ zaw /\ Q (.bl (zeK t T)) μ
    | none => False
  | _ => False
section
variable {K : PySem.W.Frag} {W : Wd} {μ : Mu} {H : Hp}
theorem zz.one {d : D} {xs : List V} (h : zz K W [d] xs) : ∃ x, xs = [x] /\ Rep K W d x := by
  obtain ⟨x, r, rfl, q, z⟩ := h.uncons
  rw [z.nil']; exact ⟨x, rfl, q⟩
theorem zz.two {d e : D} {xs : List V} (h : zz K W [d, e] xs) : ∃ x y, xs = [x, y] /\ Rep K W d x /\ Rep K W e y := by
  obtain ⟨x, r, rfl, q, z⟩ := h.uncons
  obtain ⟨y, rfl, q2⟩ := z.one
  exact ⟨x, y, rfl, q, q2⟩
instance : zcz K (zr2 K) zdP := ⟨fun {W μ H ds xs Q Q'} r z h k => by
  unfold zdP at h
  split at h
  . obtain ⟨x, rfl, q⟩ := z.one
    rw [q.s']; exact .inr ⟨_, rfl, h.1, k _ _ _ _ _ (.refl _) r .i h.2⟩
  . obtain ⟨x, rfl, q⟩ := z.one
    split at h
    . rename_i es he
      obtain ⟨p, ys, rfl, s1, z1⟩ := zcW r q he
      exact .inl ⟨p, ys, rfl, s1, k _ _ _ _ _ (.refl _) r (by rw [z1.length]; exact .i) h⟩
    . exact h.elim
  . exact h.elim⟩
theorem zh2 {d : D} {x : V} {ns : List Int} (r : Rel K W μ H) (q : Rep K W d x) (h : (zaC μ d).bind intsOf = some ns) : ∃ a, x = .ref a /\ SqL K H a (ns.map V.int) := by
  cases e : zaC μ d with
  | none => rw [e] at h; cases h
  | some ds =>
    rw [e] at h
    obtain ⟨a, xs, rfl, e1, z⟩ := za3 r q e
    have := zin h
    subst this
    rw [z.ints] at e1
    exact ⟨a, rfl, SqL.of e1⟩
theorem zo7 {d : D} {x : V} {ns : List Bool} (r : Rel K W μ H) (q : Rep K W d x) (h : (zaC μ d).bind zcg = some ns) : ∃ a, x = .ref a /\ SqL K H a (ns.map V.bl) := by
  cases e : zaC μ d with
  | none => rw [e] at h; cases h
  | some ds =>
    rw [e] at h
    obtain ⟨a, xs, rfl, e1, z⟩ := za3 r q e
    have := zkr h
    subst this
    rw [z.bls] at e1
    exact ⟨a, rfl, SqL.of e1⟩
instance : zcz K (zrX K) zmE := ⟨fun {W μ H ds xs Q Q'} r z h k => by
  unfold zmE at h
  split at h
  . obtain ⟨x, y, rfl, q1, q2⟩ := z.two
    rw [q1.i', q2.i']; exact .inl ⟨_, _, rfl, k _ _ _ _ _ (.refl _) r .i h⟩
  . obtain ⟨x, rfl, q⟩ := z.one
    split at h
    . rename_i ns hn
      obtain ⟨a, rfl, s⟩ := zh2 r q hn
      exact .inr ⟨a, ns, rfl, s, h.1, fun M hM hb => k _ _ _ _ _ (.refl _) r .i (h.2 M hM hb)⟩
    . exact h.elim
  . exact h.elim⟩
instance : zcz K (zse K) zlt := ⟨fun {W μ H ds xs Q Q'} r z h k => by
  unfold zlt at h
  split at h
  . obtain ⟨x, y, rfl, q1, q2⟩ := z.two
    rw [q1.i', q2.i']; exact .inl ⟨_, _, rfl, k _ _ _ _ _ (.refl _) r .i h⟩
  . obtain ⟨x, rfl, q⟩ := z.one
    split at h
    . rename_i ns hn
      obtain ⟨a, rfl, s⟩ := zh2 r q hn
      exact .inr ⟨a, ns, rfl, s, h.1, fun M hM hb => k _ _ _ _ _ (.refl _) r .i (h.2 M hM hb)⟩
    . exact h.elim
  . exact h.elim⟩
instance : zcz K (zvA K) zpD := ⟨fun {W μ H ds xs Q Q'} r z h k => by
  unfold zpD at h
  split at h
  . obtain ⟨x, rfl, q⟩ := z.one
    split at h
    . rename_i ns hn
      obtain ⟨a, rfl, s⟩ := zo7 r q hn
      exact ⟨a, ns, rfl, s, k _ _ _ _ _ (.refl _) r .b h⟩
    . exact h.elim
  . exact h.elim⟩
instance : zcz K (zsb K) zkp := ⟨fun {W μ H ds xs Q Q'} r z h k => by
  unfold zkp at h
  split at h
  . obtain ⟨x, rfl, q⟩ := z.one
    split at h
    . rename_i es he
      obtain ⟨p, ys, rfl, s1, z1⟩ := zcW r q he
      refine ⟨p, ys, rfl, s1, fun l hl => ?_⟩
      obtain ⟨r2, le2⟩ := r.newF (o := .lst ys) hl
      exact k _ _ _ _ _ le2 r2 (.lst zF (z1.mono le2)) h
    . exact h.elim
  . exact h.elim⟩
instance : zcz K (zn7 K) zbn := ⟨fun {W μ H ds xs Q Q'} r z h k => by
  unfold zbn at h
  split at h
  . obtain ⟨x, rfl, q⟩ := z.one
    split at h
    . rename_i es he
      unfold zbU at he
      split at he
      . cases he
        obtain ⟨p, ys, rfl, t, z2⟩ := q.tup'
        exact ⟨p, ys, rfl, .inr ⟨t.sm r.sub, k _ _ _ _ _ (.refl _) r q h⟩⟩
      . obtain ⟨p, ys, rfl, t, z2⟩ := za3 r q he
        refine ⟨p, ys, rfl, .inl ⟨SqL.of t, fun l hl => ?_⟩⟩
        obtain ⟨r2, le2⟩ := r.newF (o := .tup ys) hl
        exact k _ _ _ _ _ le2 r2 (.tup (SqT.of zF) (z2.mono le2)) h
    . exact h.elim
  . exact h.elim⟩
theorem zpp {d : D} {x : V} {t : String} (r : Rel K W μ H) (q : Rep K W d x) (h : tyD μ d = some t) : zeg K H x (.type t) := by
  unfold tyD at h
  split at h <;> try cases h
  . rw [q.n']; exact .non
  . rw [q.b']; exact .bl _
  . rw [q.i']; exact .int _
  . rw [q.s']; exact .str _
  . obtain ⟨a, xs, rfl, e, z⟩ := q.lst'; exact .lst (r.sub _ _ e)
  . rename_i k
    obtain ⟨a, rfl, hb⟩ := q.cell'
    split at h <;> try cases h
    . rename_i ds hk
      obtain ⟨a', e1, e2, xs, e3, q3⟩ := r.cel k _ hk
      rw [hb] at e1; cases e1
      exact .lst e3
    . rename_i ks vs hk
      obtain ⟨a', e1, e2, xs, e3, l3, q3⟩ := r.cel k _ hk
      rw [hb] at e1; cases e1
      exact .dK e3
    . rename_i ks vs hk
      obtain ⟨a', e1, e2, xs, e3, l3, q3⟩ := r.cel k _ hk
      rw [hb] at e1; cases e1
      exact .dT e3
  . unfold Rep at q; obtain ⟨a, xs, rfl, e, _⟩ := q; exact .dK (r.sub _ _ e)
  . unfold Rep at q; obtain ⟨a, xs, rfl, e, _⟩ := q; exact .dT (r.sub _ _ e)
theorem zpU {d : D} {t : String} (h : tyD μ d = some t) : t ∈ ["NoneType", "bool", "int", "str", "list", "dict"] := by
  unfold tyD at h
  split at h <;> (try cases h) <;> (try decide)
  split at h <;> (try cases h) <;> decide
theorem ztv {t T : String} (h : t ∈ ["NoneType", "bool", "int", "str", "list", "dict"]) (h' : T ∈ zaw) : PySem.W.kitOne K (.type t) (.type T) = some (zeK t T) := by
  simp only [zaw, List.mem_cons, List.not_mem_nil, or_false] at h h'
  rcases h with rfl | rfl | rfl | rfl | rfl | rfl <;> rcases h' with rfl | rfl | rfl | rfl | rfl | rfl <;> rfl
instance : zcz K (zqu K) zoX := ⟨fun {W μ H ds xs Q Q'} r z h k => by
  unfold zoX at h
  split at h
  . rename_i d T
    obtain ⟨x, y, rfl, q1, q2⟩ := z.two
    split at h
    . rename_i t ht
      unfold Rep at q2
      subst q2
      exact ⟨x, .ty T, .type t, zeK t T, rfl, zpp r q1 ht, fun u hu => by cases hu; exact ztv (zpU ht) h.1, k _ _ _ _ _ (.refl _) r .b h.2⟩
    . exact h.elim
  . exact h.elim⟩
end
def zvo (K : PySem.W.Frag) (tl : TE) : TI := fun σ H R => tl σ H fun x H1 => (∃ a, x = .ref a /\ (∃ xs, SqL K H1 a xs) /\ R (Itl K a) H1) \/ (∃ a, x = .ref a /\ (∃ xs, SqT K H1 a xs) /\ R (Itt K a) H1) \/ ∃ y, x = .str y /\ y.cps.all (· < 128) = true /\ R (Its y) H1
theorem zbr {X : Cx} {tg l : Expr} {tl : TE} (K : PySem.W.Frag) (hl : WE X l tl) (h : X.K = K := by rfl) : WI X tg l (zvo K tl) := ⟨by
  subst h
  intro pins s σ H R I h
  refine thn (hl.out pins s σ H _ I h) fun v s1 ⟨x, H1, I1, r1, q1⟩ => ?_
  rcases q1 with ⟨a, e, ⟨xs, hq⟩, q⟩ | ⟨a, e, ⟨xs, hq⟩, q⟩ | ⟨y, e, ha, q⟩
  . subst e
    cases r1
    obtain ⟨its, rv, p, hz⟩ := I1.list hq
    refine wpAny_pyIter_list p.isList ?_
    refine ⟨s1.heap.objs.size, [s1.heap.objs.size], _, _, H1, rfl, I1.kept (t' := s1.toks) fun b o e => Heap.get?_push_of_some _ e, znQ a _, ⟨_, Heap.get?_push_size _ rfl, rfl, rfl⟩, fun b hb => ?_, q⟩
    have e : b = s1.heap.objs.size := by simpa using hb
    subst e
    exact I1.fpOk (Nat.le_refl _) (I1.hok.fresh (Nat.le_refl _))
  . subst e
    cases r1
    obtain ⟨its, rv, p, hz⟩ := I1.tuple hq
    refine wpAny_pyIter_tuple (show s1.heap.IsTuple a its.toArray from p) ?_
    refine ⟨s1.heap.objs.size, [s1.heap.objs.size], _, _, H1, rfl, I1.kept (t' := s1.toks) fun b o e => Heap.get?_push_of_some _ e, zlw a _, ⟨_, Heap.get?_push_size _ rfl, rfl, rfl⟩, fun b hb => ?_, q⟩
    have e : b = s1.heap.objs.size := by simpa using hb
    subst e
    exact I1.fpOk (Nat.le_refl _) (I1.hok.fresh (Nat.le_refl _))
  . subst e
    obtain ⟨t, rfl⟩ := r1
    refine wpAny_pyIter_ascii ha ?_
    refine ⟨s1.heap.objs.size, [s1.heap.objs.size], _, _, H1, rfl, I1.kept (t' := s1.toks) fun b o e => Heap.get?_push_of_some _ e, zom _ y t, ⟨_, Heap.get?_push_size _ rfl, rfl, rfl⟩, fun b hb => ?_, q⟩
    have e : b = s1.heap.objs.size := by simpa using hb
    subst e
    exact I1.fpOk (Nat.le_refl _) (I1.hok.fresh (Nat.le_refl _))⟩
def zqw : D -> Option (List D)
  | .lst ds => some ds
  | .tup ds => some ds
  | .str y => if y.cps.all (· < 128) = true then some (y.cps.toList.map fun c => .str ⟨#[c]⟩) else none
  | _ => none
def zkg (μ : Mu) (d : D) (Q : List D -> (Mu -> Prop) -> Prop) : Prop := match d with
  | .cell k => match μ k with
    | some (.lst ds) => Q ds fun μ' => μ' k = some (.lst ds)
    | _ => False
  | d => match zqw d with
    | some ds => Q ds fun _ => True
    | none => False
def zcP (w : DE) : DI := fun ρ μ Q => w ρ μ fun d μ1 => zkg μ1 d fun ds Pm => Q ds Pm μ1
def zdx (w : DA) : DI := fun ρ μ Q => w ρ μ fun ds μ1 => match ds with
  | [.int j] => -(2 ^ 62) <= j /\ j < 2 ^ 62 /\ Q ((zcc 0 j.toNat).map D.int) (fun _ => True) μ1
  | _ => False
def zuq (w : DA) : DI := fun ρ μ Q => w ρ μ fun ds μ1 => match ds with
  | [.int i, .int j] => (-(2 ^ 62) <= i /\ i < 2 ^ 62 /\ -(2 ^ 62) <= j /\ j < 2 ^ 62) /\ Q ((zcc i (j - i).toNat).map D.int) (fun _ => True) μ1
  | _ => False
section
variable {K : PySem.W.Frag} {te : TE} {we : DE} {ta : TA} {wa : DA}
theorem zpt (W : Wd) (lo : Int) (n : Nat) (Pm : Mu -> Prop) : ItR K W (Itr lo n) ((zcc lo n).map D.int) Pm := fun W1 μ H le r _ i => by
  constructor
  . intro d hd
    rw [List.getElem?_map] at hd
    by_cases hi : i < n
    . rw [zgJ hi] at hd
      cases hd
      refine ⟨hi, fun x H' y => ?_⟩
      obtain ⟨e, y⟩ := y
      subst e y
      exact ⟨W1, .refl _, r, .i⟩
    . rw [List.getElem?_eq_none (by rw [zcv]; omega)] at hd
      cases hd
  . intro h
    rw [List.length_map, zcv] at h
    exact h
theorem zqj {W : Wd} {p : Addr} {xs : List V} {ds : List D} {Pm : Mu -> Prop} (z1 : zz K W ds xs) (hp : ∀ W1 μ H, W.le W1 -> Rel K W1 μ H -> Pm μ -> H p = some (.lst xs)) : ItR K W (Itl K p) ds Pm := fun W2 μ2 H2 le2 r2 pm i => by
  have s2 := hp W2 μ2 H2 le2 r2 pm
  constructor
  . intro d hd
    obtain ⟨x, ex, qx⟩ := z1.get hd
    refine ⟨⟨xs, x, SqL.of s2, ex⟩, fun y H' hy => ?_⟩
    obtain ⟨e', y'⟩ := hy
    have ey := y' xs (SqL.of s2)
    rw [ex] at ey; cases ey
    exact ⟨W2, .refl _, e' ▸ r2, qx.mono le2⟩
  . intro hl
    exact ⟨xs, SqL.of s2, by rw [z1.length]; exact hl⟩
theorem zik {W : Wd} {μ : Mu} {H : Hp} {k : Nat} {a : Addr} {ds : List D} (r : Rel K W μ H) (hb : W.b k = some a) (hk : μ k = some (.lst ds)) : ∃ xs, H a = some (.lst xs) /\ zz K W ds xs := by
  obtain ⟨a', e1, e2, xs, e3, q3⟩ := r.cel k _ hk
  rw [hb] at e1; cases e1
  exact ⟨xs, e3, q3⟩
theorem zqh {W : Wd} {k : Nat} {a : Addr} {ds : List D} (hb : W.b k = some a) : ItR K W (Itl K a) ds (fun μ' => μ' k = some (.lst ds)) := fun W2 μ2 H2 le2 r2 pm i => by
  obtain ⟨xs, s2, z1⟩ := zik r2 (le2.b _ _ hb) pm
  constructor
  . intro d hd
    obtain ⟨x, ex, qx⟩ := z1.get hd
    refine ⟨⟨xs, x, SqL.of s2, ex⟩, fun y H' hy => ?_⟩
    obtain ⟨e', y'⟩ := hy
    have ey := y' xs (SqL.of s2)
    rw [ex] at ey; cases ey
    exact ⟨W2, .refl _, e' ▸ r2, qx⟩
  . intro hl
    exact ⟨xs, SqL.of s2, by rw [z1.length]; exact hl⟩
instance [a : zab K te we] : zrh K (zvo K te) (zcP we) := ⟨fun {W ρ μ σ H Q Q'} r e h k => a.run r e h fun W1 d μ1 x H1 le1 r1 q1 h1 => by
  unfold zkg at h1
  split at h1
  . rename_i c
    obtain ⟨p, rfl, hb⟩ := q1.cell'
    split at h1
    . rename_i ds hk
      obtain ⟨xs, s1, z1⟩ := zik r1 hb hk
      exact .inl ⟨p, rfl, ⟨xs, SqL.of s1⟩, k W1 _ ds _ μ1 H1 le1 r1 (zqh hb) h1⟩
    . exact h1.elim
  . cases hd : zqw d with
    | none => rw [hd] at h1; exact h1.elim
    | some ds =>
      rw [hd] at h1
      have h1 : Q ds (fun _ => True) μ1 := h1
      unfold zqw at hd
      split at hd
      . cases hd
        obtain ⟨p, xs, rfl, s1, z1⟩ := q1.lst'
        exact .inl ⟨p, rfl, ⟨xs, SqL.of (r1.sub _ _ s1)⟩, k W1 _ ds _ μ1 H1 le1 r1 (zqj z1 fun W2 μ2 H2 le2 r2 _ => r2.sub _ _ (le2.F _ _ s1)) h1⟩
      . cases hd
        obtain ⟨p, xs, rfl, s1, z1⟩ := q1.tup'
        refine .inr (.inl ⟨p, rfl, ⟨xs, s1.sm r1.sub⟩, k W1 _ ds _ μ1 H1 le1 r1 (fun W2 μ2 H2 le2 r2 _ i => ?_) h1⟩)
        have s2 : SqT K H2 p xs := (s1.sm le2.F).sm r2.sub
        constructor
        . intro d hd
          obtain ⟨x, ex, qx⟩ := z1.get hd
          refine ⟨⟨xs, x, s2, ex⟩, fun y H' hy => ?_⟩
          obtain ⟨e', y'⟩ := hy
          have ey := y' xs s2
          rw [ex] at ey; cases ey
          exact ⟨W2, .refl _, e' ▸ r2, qx.mono le2⟩
        . intro hl
          exact ⟨xs, s2, by rw [z1.length]; exact hl⟩
      . rename_i y _
        split at hd
        . rename_i ha
          cases hd
          rw [q1.s']
          refine .inr (.inr ⟨y, rfl, ha, k W1 _ _ _ μ1 H1 le1 r1 (fun W2 μ2 H2 le2 r2 _ i => ?_) h1⟩)
          constructor
          . intro d hd
            rw [List.getElem?_map] at hd
            cases hc : y.cps.toList[i]? with
            | none => rw [hc] at hd; cases hd
            | some c =>
              rw [hc] at hd
              cases hd
              have hi : i < y.cps.size := by have := (List.getElem?_eq_some_iff.mp hc).1; rwa [Array.length_toList] at this
              refine ⟨hi, fun x H' hy => ?_⟩
              obtain ⟨e', c', hc', rfl⟩ := hy
              rw [hc] at hc'; cases hc'
              exact ⟨W2, .refl _, e' ▸ r2, .s⟩
          . intro hl
            rw [List.length_map, Array.length_toList] at hl
            exact hl
        . cases hd
      . cases hd⟩
instance [a : zdO K ta wa] : zrh K (zp4 ta) (zdx wa) := ⟨fun {W ρ μ σ H Q Q'} r e h k => a.run r e h fun W1 ds μ1 xs H1 le1 r1 q1 h1 => by
  split at h1
  . obtain ⟨x, rfl, q⟩ := q1.one
    rw [q.i']
    exact ⟨_, rfl, h1.1, h1.2.1, k W1 _ _ _ μ1 H1 le1 r1 (zpt _ _ _ _) h1.2.2⟩
  . exact h1.elim⟩
end
abbrev DM := D -> List D -> Mu -> DK -> Prop
class zqb (K : PySem.W.Frag) (T : String) (r : V -> List V -> Hp -> VK -> Prop) (q : DM) : Prop where
  run : ∀ {W μ H d x ds xs Q Q'}, Rel K W μ H -> Rep K W d x -> zz K W ds xs -> q d ds μ Q -> KV' K W Q Q' -> r x xs H Q'
def tyM (T : String) (μ : Mu) (d : D) : Prop := tyD μ d = some T
def dBM (T : String) (q : DM) (wo : DE) (w : DA) : DE := fun ρ μ Q => wo ρ μ fun d μ1 => tyM T μ1 d /\ w ρ μ1 fun ds μ2 => q d ds μ2 Q
def zvK (T : String) (q : DM) (wo : DE) : DE := fun ρ μ Q => wo ρ μ fun d μ1 => tyM T μ1 d /\ q d [] μ1 Q
theorem zqL {K : PySem.W.Frag} {W : Wd} {μ : Mu} {H : Hp} {d : D} {x : V} {T : String} (hT : T = "list" \/ T = "str" \/ T = "dict") (r : Rel K W μ H) (q : Rep K W d x) (h : tyM T μ d) : tyV K T x H := by
  have ty := zpp r q h
  cases ty with
  | non => rcases hT with h | h | h <;> exact absurd h (by decide)
  | bl => rcases hT with h | h | h <;> exact absurd h (by decide)
  | int => rcases hT with h | h | h <;> exact absurd h (by decide)
  | str => rfl
  | flt => rcases hT with h | h | h <;> exact absurd h (by decide)
  | lst e => exact .inl ⟨rfl, _, SqL.of e⟩
  | frz e => exact .inl ⟨rfl, _, .inl (.inr ⟨_, e⟩)⟩
  | tup => rcases hT with h | h | h <;> exact absurd h (by decide)
  | dK e => exact .inr (.inr (.inl ⟨rfl, .inl ⟨_, e⟩⟩))
  | dT e => exact .inr (.inr (.inl ⟨rfl, .inr ⟨_, e⟩⟩))
section
variable {K : PySem.W.Frag} {to : TE} {wo : DE} {t : TA} {w : DA} {r : V -> List V -> Hp -> VK -> Prop} {q : DM}
theorem zpH {T : String} (hT : T = "list" \/ T = "str" \/ T = "dict") [a : zab K to wo] [b : zdO K t w] [o : zqb K T r q] : zab K (tBM K T r to t) (dBM T q wo w) := ⟨fun r e h k => a.run r e h fun W1 d μ1 x H1 le1 r1 q1 h1 =>
  ⟨zqL hT r1 q1 h1.1, b.run r1 (e.mono le1) h1.2 fun W2 ds μ2 xs H2 le2 r2 q2 h2 => o.run r2 (q1.mono le2) q2 h2 fun W3 d3 μ3 x3 H3 le3 => k W3 d3 μ3 x3 H3 (le1.trans (le2.trans le3))⟩⟩
instance [a : zab K to wo] [b : zdO K t w] [o : zqb K "list" r q] : zab K (tBM K "list" r to t) (dBM "list" q wo w) := zpH (.inl rfl)
instance [a : zab K to wo] [b : zdO K t w] [o : zqb K "str" r q] : zab K (tBM K "str" r to t) (dBM "str" q wo w) := zpH (.inr (.inl rfl))
end
def zc9 (μ : Mu) (d : D) (Q : Nat -> List D -> Prop) : Prop := match d with
  | .cell k => match μ k with
    | some (.lst ds) => Q k ds
    | _ => False
  | _ => False
theorem zmD {K : PySem.W.Frag} {W : Wd} {μ : Mu} {H : Hp} {d : D} {x : V} {Q : Nat -> List D -> Prop} (r : Rel K W μ H) (q : Rep K W d x) (h : zc9 μ d Q) : ∃ k ds a xs, x = .ref a /\ W.b k = some a /\ μ k = some (.lst ds) /\ H a = some (.lst xs) /\ zz K W ds xs /\ Q k ds := by
  unfold zc9 at h
  split at h
  . rename_i k
    obtain ⟨a, rfl, hb⟩ := q.cell'
    split at h
    . rename_i ds hk
      obtain ⟨a', e1, e2, xs, e3, q3⟩ := r.cel k _ hk
      rw [hb] at e1; cases e1
      exact ⟨k, ds, a, xs, rfl, hb, hk, e3, q3, h⟩
    . exact h.elim
  . exact h.elim
def zbo : DM := fun d es μ Q => match es with
  | [e] => zc9 μ d fun k ds => ds.length < sizeLine /\ Q .non (zQ μ k (.lst (ds ++ [e])))
  | _ => False
def zsc : DM := fun d es μ Q => match es with
  | [] => zc9 μ d fun k ds => match ds[ds.length - 1]? with
    | some y => Q y (zQ μ k (.lst ds.dropLast))
    | none => False
  | [.int i] => zc9 μ d fun k ds => -(2 ^ 63) <= i /\ i < 2 ^ 63 /\ match ixN ds.length i with
    | some j => match ds[j]? with
      | some y => Q y (zQ μ k (.lst (ds.eraseIdx j)))
      | none => False
    | none => False
  | _ => False
def zsy : D -> D -> D -> Mu -> (Mu -> Prop) -> Prop := fun d i v μ Q => match i with
  | .int i => zc9 μ d fun k ds => match ixN ds.length i with
    | some j => Q (zQ μ k (.lst (ds.set j v)))
    | none => False
  | _ => False
def zva (wo wi : DE) (q : D -> D -> D -> Mu -> (Mu -> Prop) -> Prop) : DG := fun v ρ μ Q => wo ρ μ fun d μ1 => wi ρ μ1 fun i μ2 => q d i v μ2 fun μ3 => Q ρ μ3
section
variable {K : PySem.W.Frag}
instance : zqb K "list" zmg zbo := ⟨fun {W μ H d x ds xs Q Q'} r q z h k => by
  unfold zbo at h
  split at h
  . obtain ⟨y, rfl, qy⟩ := z.one
    obtain ⟨c, es, a, ys, rfl, hb, hk, ha, z2, hz, h⟩ := zmD r q h
    exact ⟨a, ys, y, rfl, rfl, ha, by rw [z2.length]; exact hz, k _ _ _ _ _ (.refl _) (r.setC (c' := .lst _) hk hb ⟨_, rfl, z2.append (.cons qy .nil)⟩) .n h⟩
  . exact h.elim⟩
end
theorem znw {K : PySem.W.Frag} {W : Wd} {μ : Mu} {H : Hp} {k : Nat} {a : Addr} (r : Rel K W μ H) (hk : μ k = some .draw) (ha : W.b k = some a) : ∃ l, zhm H a l /\ W.F a = none /\ (∃ ns : List Int, W.F l = some (.lst (ns.map V.int))) /\
    ∀ H', zhm H' a l -> ziA a H H' -> Rel K W μ H' := by
  obtain ⟨a', e1, e2, l, ns, i, b, c, e3, e4, hi, hb⟩ := r.cel k _ hk
  rw [ha] at e1; cases e1
  have hal : a ≠ l := fun z => by rw [<- z, e2] at e4; cases e4
  refine ⟨l, ⟨ns, i, b, c, e3, r.sub _ _ e4, hi, hb, hal⟩, e2, ⟨ns, e4⟩, fun H' d o => ⟨fun x u e => ?_, r.fin, fun j ct e => ?_, r.inj⟩⟩
  . rw [o x (fun z => by rw [z, e2] at e; cases e)]; exact r.sub _ _ e
  . by_cases hj : j = k
    . subst hj
      rw [hk] at e; cases e
      obtain ⟨ns', i', b', c', f1, f2, f3, f4, f5⟩ := d
      exact ⟨a, ha, e2, l, ns, i', b', c', f1, e4, f3, f4⟩
    . obtain ⟨x, f1, f2, q⟩ := r.cel j ct e
      have hx : x ≠ a := fun z => hj (r.inj j k _ _ a e hk (z ▸ f1) ha)
      exact ⟨x, f1, f2, by rw [o x hx]; exact q⟩
class zoD (K : PySem.W.Frag) (sp : Sp) (dsp : DSp) : Prop where
  run : ∀ {W μ H ds vs Q Q'} (E : XK), Rel K W μ H -> zz K W ds vs -> dsp ds μ Q -> KV' K W Q Q' -> sp vs H Q' E
instance {K : PySem.W.Frag} {sp : Sp} {dsp : DSp} {E : XK} {t : TA} {w : DA} [a : zdO K t w] [o : zoD K sp dsp] : zab K (zkT sp [] E t) (dCall dsp w) := ⟨fun {W ρ μ σ H Q Q'} r e h k =>
  a.run r e h fun W1 ds μ1 xs H1 le1 r1 q1 h1 => o.run E r1 (by rw [List.append_nil]; exact q1) h1 fun W2 d μ2 x H2 le2 => k W2 d μ2 x H2 (le1.trans le2)⟩
def zai : DSp := fun ds μ Q => match ds with
  | [.cell k, .int many] => μ k = some .draw /\ 0 < many /\ many < 2 ^ 250 /\ ∀ v, 0 <= v -> v < many -> Q (.int v) μ
  | _ => False
instance {K : PySem.W.Frag} : zoD K zb9 zai := ⟨fun {W μ H ds vs Q Q'} E r z h k => by
  unfold zai at h
  split at h
  . rename_i c many
    obtain ⟨x, y, rfl, q1, q2⟩ := z.two
    obtain ⟨a, rfl, hb⟩ := q1.cell'
    rw [q2.i']
    obtain ⟨hk, h1, h2, h⟩ := h
    obtain ⟨l, d, _, _, fin⟩ := znw r hk hb
    exact ⟨a, l, many, rfl, d, h1, h2, fun v H' l1 l2 d' o => k W _ μ _ H' (.refl _) (fin H' d' o) .i (h v l1 l2)⟩
  . exact h.elim⟩
def ze0 : DSp := fun ds μ Q => match ds with
  | [.scr _] => ∀ k, μ k = none -> Q (.cell k) (zQ μ k .draw)
  | _ => False
end L2

namespace L2
open PySem PySem.Spec PyProof.Rows
section
variable {K : PySem.W.Frag} {W W' : Wd} {μ μ' : Mu} {H H' : Hp}
theorem Rel.same (r : Rel K W μ H) (s : zhG H H') : Rel K W μ H' := ⟨fun b o e => s _ _ (r.sub _ _ e), r.fin, fun k c e => by
  obtain ⟨a, e1, e2, q⟩ := r.cel k c e
  obtain ⟨u, eu⟩ := q.some
  exact ⟨a, e1, e2, by rw [s _ _ eu, <- eu]; exact q⟩, r.inj⟩
theorem Rel.newAt {p : Addr} (r : Rel K W μ H) (hp : H p = none) : W.F p = none /\ ∀ k c, μ k = some c -> W.b k ≠ some p := by
  constructor
  . cases e : W.F p with
    | none => rfl
    | some u => rw [r.sub _ _ e] at hp; cases hp
  . intro k c e h
    obtain ⟨a, e1, _, q⟩ := r.cel k c e
    obtain ⟨u, eu⟩ := q.some
    rw [h] at e1; cases e1
    rw [hp] at eu; cases eu
theorem Rel.adoptF {p : Addr} {o : HO} (r : Rel K W μ H) (hp : H p = some o) (hF : W.F p = none) (hc : ∀ k c, μ k = some c -> W.b k ≠ some p) : Rel K ⟨W.b, upd W.F p o⟩ μ H /\ W.le ⟨W.b, upd W.F p o⟩ := by
  have le : W.le ⟨W.b, upd W.F p o⟩ := ⟨fun _ _ h => h, zfc hF⟩
  refine ⟨⟨fun b u e => ?_, r.fin, fun k c e => ?_, r.inj⟩, le⟩
  . have e' : (upd W.F p o) b = some u := e
    by_cases hb : b = p
    . subst hb; rw [zF] at e'; cases e'; exact hp
    . rw [zJ hb] at e'; exact r.sub _ _ e'
  . obtain ⟨a, e1, e2, q⟩ := r.cel k c e
    have ha : a ≠ p := fun z => hc k c e (z ▸ e1)
    exact ⟨a, e1, by show upd W.F p o a = none; rw [zJ ha]; exact e2, q.mono le⟩
theorem Rel.adoptC {p : Addr} {c : Ct} (r : Rel K W μ H) (hF : W.F p = none) (hc : ∀ k c, μ k = some c -> W.b k ≠ some p) (hq : Ctn K W c (H p)) : ∃ (k : Nat) (W' : Wd), μ k = none /\ W.le W' /\ Rel K W' (zQ μ k c) H /\ W'.b k = some p := by
  obtain ⟨n, hn⟩ := r.fin
  have hk : μ n = none := by
    cases e : μ n with
    | none => rfl
    | some c => obtain ⟨a, e1, _⟩ := r.cel n c e; rw [hn n (Nat.le_refl _)] at e1; cases e1
  have le : W.le ⟨fun j => if j = n then some p else W.b j, W.F⟩ := ⟨fun k a e => by
    show (if k = n then some p else W.b k) = some a
    rw [if_neg (fun z => by rw [z, hn n (Nat.le_refl _)] at e; cases e)]; exact e, fun _ _ h => h⟩
  refine ⟨n, ⟨fun j => if j = n then some p else W.b j, W.F⟩, hk, le, ⟨r.sub, ⟨n + 1, fun k hk => ?_⟩, fun k c' e => ?_, fun k k' c1 c2 a e e' q q' => ?_⟩, if_pos rfl⟩
  . show (if k = n then some p else W.b k) = none
    rw [if_neg (by omega)]; exact hn k (by omega)
  . by_cases ek : k = n
    . subst ek
      rw [zu] at e; cases e
      exact ⟨p, if_pos rfl, hF, hq.mono le⟩
    . rw [zm ek] at e
      obtain ⟨a, e1, e2, q⟩ := r.cel k c' e
      exact ⟨a, by show (if k = n then some p else W.b k) = some a; rw [if_neg ek]; exact e1, e2, q.mono le⟩
  . have q1 : (if k = n then some p else W.b k) = some a := q
    have q2 : (if k' = n then some p else W.b k') = some a := q'
    by_cases ek : k = n
    . by_cases ek' : k' = n
      . rw [ek, ek']
      . rw [if_pos ek] at q1; rw [if_neg ek'] at q2
        rw [zm ek'] at e'
        cases q1
        exact absurd q2 (hc _ _ e')
    . by_cases ek' : k' = n
      . rw [if_neg ek] at q1; rw [if_pos ek'] at q2
        rw [zm ek] at e
        cases q2
        exact absurd q1 (hc _ _ e)
      . rw [if_neg ek] at q1; rw [if_neg ek'] at q2
        rw [zm ek] at e; rw [zm ek'] at e'
        exact r.inj k k' _ _ a e e' q1 q2
end
instance {K : PySem.W.Frag} : zoD K (zfa K) ze0 := ⟨fun {W μ H ds vs Q Q'} E r z h k => by
  unfold ze0 at h
  split at h
  . rename_i ns
    obtain ⟨x, rfl, q⟩ := z.one
    unfold Rep at q
    obtain ⟨a, rfl, hs⟩ := q
    refine ⟨a, ns, rfl, hs.sm r.sub, fun p l H' hp hl d sm => ?_⟩
    obtain ⟨ns', i, b, c, e1, e2, hi, hb, hne⟩ := d
    have r1 := r.same sm
    obtain ⟨f1, g1⟩ := r.newAt hl
    obtain ⟨r2, le2⟩ := r1.adoptF e2 f1 g1
    obtain ⟨f2, g2⟩ := r.newAt hp
    have f2' : (upd W.F l (.lst (ns'.map V.int))) p = none := by rw [zJ hne]; exact f2
    obtain ⟨j, W3, hj, le3, r3, e3⟩ := r2.adoptC (c := .draw) (p := p) f2' g2 ⟨l, ns', i, b, c, e1, zF, hi, hb⟩
    exact k W3 _ _ _ _ (le2.trans le3) r3 (by unfold Rep; exact ⟨p, rfl, e3⟩) (h j hj)
  . exact h.elim⟩
def zoA : DSp := fun ds μ Q => ∃ ns, ds = [.scr ns] /\ ns.length <= 63 /\ ∀ μ', Q (.bl true) μ'
def zl3 (K : PySem.W.Frag) : Sp := fun vs H Q _ => ∃ (a : Addr) (ns : List Int), vs = [.ref a] /\ SqL K H a (ns.map V.int) /\ ns.length <= 63 /\ ∀ H', Q (.bl true) H'
theorem zn8 {K : PySem.W.Frag} (vs : List V) (H : Hp) (Q : VK) (E : XK) (h : zl3 K vs H Q E) : lift K zoA vs H Q E := by
  obtain ⟨a, ns, rfl, hs, hl, q⟩ := h
  refine ⟨⟨fun _ => none, fun b => if b = a then H a else none⟩, fun _ => none, [.scr ns], fun d _ => d = .bl true, ⟨fun b o e => ?_, ⟨0, fun _ _ => rfl⟩, fun k c e => (by cases e), fun k k' c c' x e => (by cases e)⟩, .cons ?_ .nil, ⟨ns, rfl, hl, fun _ => rfl⟩, fun W' d μ' x H' _ _ r e => ?_⟩
  . have e' : (if b = a then H a else none) = some o := e
    by_cases hb : b = a
    . rw [if_pos hb] at e'; rw [hb]; exact e'
    . rw [if_neg hb] at e'; cases e'
  . unfold Rep
    refine ⟨a, rfl, ?_⟩
    rcases hs with h | h
    . refine .inl ?_
      rcases h with h | ⟨o, h⟩
      . exact .inl (by show (if a = a then H a else none) = _; rw [if_pos rfl]; exact h)
      . exact .inr ⟨o, by show (if a = a then H a else none) = _; rw [if_pos rfl]; exact h⟩
    . exact .inr h
  . subst e
    rw [r.b']
    exact q H'
theorem zdA {X : Cx} {s : Stmt} {t : TE} {g : TG} (h : WS X s (zdN t g)) : WS X s (zdN (zn2 t) g) := h
theorem zfq {X : Cx} (K : PySem.W.Frag) {k : Nat} (hr : zaM k X.A) (h : X.K = K := by rfl) : OpR X (compareOp .In) (rIn K false) := zsY K h
theorem zcV {X : Cx} (K : PySem.W.Frag) {k : Nat} (hr : zaM k X.A) (h : X.K = K := by rfl) : OpR X (compareOp .NotIn) (rIn K true) := znK K h
end L2
namespace L2
open PySem PySem.Spec PyProof.Rows
def ends (Q : DK) : zcH := { nx := fun _ μ' => ∃ μ'', MLe μ'' μ' /\ Q .non μ'', rt := fun d μ' => ∃ μ'', MLe μ'' μ' /\ Q d μ'' }
def zaa (w : DS) (N : List Str) (n : Nat) : DSp := fun ds μ Q => ds.length = n /\ w (ends Q) (zgN N ds) μ
section
variable {P : Program} {w : World} {K : PySem.W.Frag} {mg : Str -> Option Value} {base : Heap}
theorem Fun.okB {x qual : Str} {st : Stmt} {f : Addr} {fd : FuncData} {N ps : List Str} {k n : Nat} (dw : DS) (F : Fun K x qual st f fd) (S : zK N ps (zg st)) (len : ps.length = n)
    (hbody : ∀ (cdv : Value) (A : Around) (outer : List Env) (s : Shared) (H : Hp) (E : XK), zaM k (A.deeper (envOfC qual (zg st) s.heap.objs.size f cdv)) ->
      ∃ t, WSs (zkh CX0 P w K mg base N qual (zg st) f cdv A outer s H E).nox (zA st) t /\ zdW K t dw) : zas P w K mg base CX0 (k + 1) f fd ps (lift K (zaa dw N n)) := by
  refine F.okq S (fun vs H Q E h => ?_) (fun cdv A outer s H vs Q E hr h => ?_)
  . obtain ⟨W, μ, ds, Q0, _, r, h, _⟩ := h
    rw [r.length, h.1, len]
  . obtain ⟨W, μ, ds, Q0, rel, r, h, k⟩ := h
    obtain ⟨t, ht, sm⟩ := hbody cdv A outer s H E hr
    refine ⟨t, ht, sm.run rel (.start r) h.2 ⟨fun W' ρ μ σ H le rr ee hh => ?_, fun _ _ _ _ _ _ _ _ hh => hh.elim, fun _ _ _ _ _ _ _ _ hh => hh.elim, fun W' d μ x H le rr ee hh => ?_⟩⟩
    . obtain ⟨μ'', l, hh⟩ := hh
      exact k W' .non μ'' _ H le (rr.less l) .n hh
    . obtain ⟨μ'', l, hh⟩ := hh
      exact k W' d μ'' x H le (rr.less l) ee hh
end
theorem zp1 {K : PySem.W.Frag} {dsp dsp' : DSp} (h : ∀ ds μ Q, dsp ds μ Q -> dsp' ds μ Q) {vs : List V} {H : Hp} {Q : VK} {E : XK} (q : lift K dsp vs H Q E) : lift K dsp' vs H Q E := by
  obtain ⟨W, μ, ds, Q0, a, b, c, d⟩ := q
  exact ⟨W, μ, ds, Q0, a, b, h _ _ _ c, d⟩
end L2

namespace L2
open PySem PySem.Spec PyProof.Rows
section
variable {Pm : Mu -> Prop} {g : DG} {wb : DS} {D' : zcH} {ds : List D} {ρ : zav} {μ : Mu} {wc : DT} {we : DE} {ρb : zav} {Fin : List D -> Mu -> Prop} {ys : List D}
theorem zbx (I : Nat -> zav -> Mu -> Prop) (h0 : I 0 ρ μ)
    (step : ∀ i d ρ μ, ds[i]? = some d -> I i ρ μ -> ∀ N : zav -> Mu -> Prop, (∀ ρ' μ', I (i + 1) ρ' μ' -> N ρ' μ') -> g d ρ μ fun ρ2 μ2 => wb { D' with nx := N, ct := N, bk := D'.nx } ρ2 μ2)
    (fin : ∀ ρ μ, I ds.length ρ μ -> D'.nx ρ μ) (hP : ∀ i ρ μ, I i ρ μ -> Pm μ := by exact fun _ _ _ _ => trivial) : zhp g wb D' Pm ds ρ μ := by
  have key : ∀ (n i : Nat) ρ μ, i + n = ds.length -> I i ρ μ -> zhp g wb D' Pm (ds.drop i) ρ μ := by
    intro n
    induction n with
    | zero =>
      intro i ρ μ hi hI
      rw [List.drop_eq_nil_of_le (by omega)]
      have : i = ds.length := by omega
      subst this
      exact ⟨hP _ _ _ hI, fin ρ μ hI⟩
    | succ n ih =>
      intro i ρ μ hi hI
      rw [List.drop_eq_getElem_cons (by omega)]
      exact ⟨hP _ _ _ hI, step i _ ρ μ (List.getElem?_eq_getElem (by omega)) hI _ fun ρ' μ' h => ih (i + 1) ρ' μ' (by omega) h⟩
  exact key ds.length 0 ρ μ (by omega) h0
theorem zh6 (I : Nat -> List D -> Mu -> Prop) (h0 : I 0 ys μ)
    (step : ∀ i d ys μ, ds[i]? = some d -> I i ys μ -> ys.length < sizeLine /\ ∀ N : List D -> Mu -> Prop, (∀ ys' μ', I (i + 1) ys' μ' -> N ys' μ') -> g d ρb μ fun ρ2 μ2 => wc ρ2 μ2 fun b μ3 => if b = true then we ρ2 μ3 fun v μ4 => N (ys ++ [v]) μ4 else N ys μ3)
    (fin : ∀ ys μ, I ds.length ys μ -> Fin ys μ) (hP : ∀ i ys μ, I i ys μ -> Pm μ := by exact fun _ _ _ _ => trivial) : zca g wc we ρb Pm Fin ds ys μ := by
  have key : ∀ (n i : Nat) ys μ, i + n = ds.length -> I i ys μ -> zca g wc we ρb Pm Fin (ds.drop i) ys μ := by
    intro n
    induction n with
    | zero =>
      intro i ys μ hi hI
      rw [List.drop_eq_nil_of_le (by omega)]
      have : i = ds.length := by omega
      subst this
      exact ⟨hP _ _ _ hI, fin ys μ hI⟩
    | succ n ih =>
      intro i ys μ hi hI
      rw [List.drop_eq_getElem_cons (by omega)]
      obtain ⟨hz, st⟩ := step i _ ys μ (List.getElem?_eq_getElem (by omega)) hI
      exact ⟨hP _ _ _ hI, hz, st (fun ys' μ' => zca g wc we ρb Pm Fin (ds.drop (i + 1)) ys' μ') fun ys' μ' h => ih (i + 1) ys' μ' (by omega) h⟩
  exact key ds.length 0 ys μ (by omega) h0
end
theorem zcB {lo : Int} {n i : Nat} {d : D} (h : ((zcc lo n).map D.int)[i]? = some d) : i < n /\ d = .int (lo + i) := by
  rw [List.getElem?_map] at h
  by_cases hi : i < n
  . rw [zgJ hi] at h; cases h; exact ⟨hi, rfl⟩
  . rw [List.getElem?_eq_none (by rw [zcv]; omega)] at h; cases h
theorem zbJ (lo : Int) (n : Nat) : ((zcc lo n).map D.int).length = n := by rw [List.length_map, zcv]
theorem zmj {i j : Int} {μ : Mu} {Q : DK} : dEq (.int i) (.int j) μ Q = Q (.bl (decide (i = j))) μ := by simp [dEq, ziw]
theorem zqt {i j : Str} {μ : Mu} {Q : DK} : dEq (.str i) (.str j) μ Q = Q (.bl (decide (i = j))) μ := by simp [dEq, ziw]
theorem zqH {i j : Str} {μ : Mu} {Q : DK} : dNe (.str i) (.str j) μ Q = Q (.bl (!decide (i = j))) μ := by simp [dNe, ziw]
theorem zcS {μ : Mu} {ds : List D} : zaC μ (.lst ds) = some ds := rfl
theorem zlm {μ : Mu} {k : Nat} {ds : List D} (h : μ k = some (.lst ds)) : zbU μ (.cell k) = some ds := by simp [zbU, zaC, h]
end L2
namespace L2
open PySem PySem.Spec PyProof.Rows
def Pl : Nat -> D -> Prop
  | _, .non => True
  | _, .bl _ => True
  | _, .int _ => True
  | _, .str x => PyData.strOk x = true
  | n + 1, .tup ds => ∀ d ∈ ds, Pl n d
  | n + 1, .lst ds => ∀ d ∈ ds, Pl n d
  | _, _ => False
theorem Pl.pys {n : Nat} (ih : ∀ d, Pl n d -> ∃ p, toPy d = some p /\ p.canLay0 = true /\ p.depth <= n) : ∀ ds : List D, (∀ d ∈ ds, Pl n d) -> ∃ ps, zaP ds = some ps /\ PyData.canLayAll0 ps = true /\ PyData.depthAll ps <= n
  | [], _ => ⟨[], by unfold zaP; rfl, by unfold PyData.canLayAll0; rfl, by unfold PyData.depthAll; omega⟩
  | d :: ds, h => by
    obtain ⟨p, e, c, b⟩ := ih d (h d List.mem_cons_self)
    obtain ⟨ps, e', c', b'⟩ := Pl.pys ih ds fun x hx => h x (List.mem_cons_of_mem _ hx)
    refine ⟨p :: ps, by unfold zaP; rw [e, e'], by unfold PyData.canLayAll0; rw [c, c']; rfl, ?_⟩
    unfold PyData.depthAll
    omega
theorem Pl.py : ∀ (n : Nat) (d : D), Pl n d -> ∃ p, toPy d = some p /\ p.canLay0 = true /\ p.depth <= n := by
  intro n
  induction n with
  | zero =>
    intro d h
    cases d <;> first | exact h.elim | skip
    . exact ⟨_, by unfold toPy; rfl, by simp [PyData.canLay0], by simp [PyData.depth]⟩
    . exact ⟨_, by unfold toPy; rfl, by simp [PyData.canLay0], by simp [PyData.depth]⟩
    . exact ⟨_, by unfold toPy; rfl, by simp [PyData.canLay0], by simp [PyData.depth]⟩
    . exact ⟨_, by unfold toPy; rfl, by rw [PyData.canLay0]; exact h, by simp [PyData.depth]⟩
  | succ n ih =>
    intro d h
    cases d <;> first | exact h.elim | skip
    . exact ⟨_, by unfold toPy; rfl, by simp [PyData.canLay0], by simp [PyData.depth]⟩
    . exact ⟨_, by unfold toPy; rfl, by simp [PyData.canLay0], by simp [PyData.depth]⟩
    . exact ⟨_, by unfold toPy; rfl, by simp [PyData.canLay0], by simp [PyData.depth]⟩
    . exact ⟨_, by unfold toPy; rfl, by rw [PyData.canLay0]; exact h, by simp [PyData.depth]⟩
    . rename_i ds
      obtain ⟨ps, e, c, b⟩ := Pl.pys ih ds h
      exact ⟨.tuple ps, by unfold toPy; rw [e]; rfl, by rw [PyData.canLay0]; exact c, by rw [PyData.depth]; omega⟩
    . rename_i ds
      obtain ⟨ps, e, c, b⟩ := Pl.pys ih ds h
      exact ⟨.list ps, by unfold toPy; rw [e]; rfl, by rw [PyData.canLay0]; exact c, by rw [PyData.depth]; omega⟩
theorem zka {μ : Mu} {d : D} {p : PyData} (h : toPy d = some p) : zkY μ d = some p := by
  cases d <;> first | exact h | (unfold toPy at h; cases h)
end L2
namespace L2
open PySem PySem.Spec PyProof.Rows
section
variable {D' : zcH} {ρ : zav} {μ : Mu}
end
theorem ze3 {α : Type} (xs : List α) (n : Nat) : cutD xs none (some (n : Int)) = xs.take n := by
  unfold cutD
  rw [HT.zj2, HT.zbp, List.drop_zero, Nat.sub_zero]
  rcases Nat.le_total n xs.length with h | h
  . rw [Nat.min_eq_left h]
  . rw [Nat.min_eq_right h, List.take_length, List.take_of_length_le h]
theorem zeU {α : Type} (xs : List α) (n : Nat) : cutD xs (some (n : Int)) none = xs.drop n := by
  unfold cutD
  rw [HT.zj2, HT.zbp]
  rcases Nat.le_total n xs.length with h | h
  . rw [Nat.min_eq_left h, List.take_of_length_le (by rw [List.length_drop]; omega)]
  . rw [Nat.min_eq_right h, Nat.sub_self, List.take_zero, List.drop_eq_nil_of_le h]
end L2

namespace L2
open PySem PySem.Spec PyProof.Rows
section
variable {X : Cx} {pins : List (Addr × Obj)} {σ : St} {H : Hp} {s : Shared} {h' : Heap}
end
def lsM (μ : Mu) (d : D) (Q : List D -> (Mu -> Prop) -> Prop) : Prop := match d with
  | .cell k => match μ k with
    | some (.lst ds) => Q ds fun μ' => μ' k = some (.lst ds)
    | _ => False
  | .lst ds => Q ds fun _ => True
  | _ => False
def pairD (p : D × D) : D := .tup [p.1, p.2]
def zu1 (w : DA) : DI := fun ρ μ Q => w ρ μ fun es μ1 => match es with
  | [d, e] => lsM μ1 d fun ds P1 => lsM μ1 e fun es P2 => Q ((ds.zip es).map pairD) (fun μ' => P1 μ' /\ P2 μ') μ1
  | _ => False
end L2

namespace L2
open PySem PySem.Spec PyProof.Rows
section
variable {μ : Mu} {Q : DK} {α : Type}
theorem zqs {ds : List D} {i : Int} : dIx (.tup ds) (.int i) μ Q = match atI ds i with
    | some v => Q v μ
    | none => False := rfl
theorem zqB {ds : List D} {i : Int} : dIx (.lst ds) (.int i) μ Q = match atI ds i with
    | some v => Q v μ
    | none => False := rfl
theorem zoo {a : α} {r : List α} : atI (a :: r) 0 = some a := zcR (j := 0) rfl
theorem zn3 {a b : α} {r : List α} : atI (a :: b :: r) 1 = some b := zcR (j := 1) rfl
theorem zrV {a b c : α} {r : List α} : atI (a :: b :: c :: r) 2 = some c := zcR (j := 2) rfl
theorem zrU {a b c d : α} {r : List α} : atI (a :: b :: c :: d :: r) 3 = some d := zcR (j := 3) rfl
theorem zsf {a b c d e : α} {r : List α} : atI (a :: b :: c :: d :: e :: r) 4 = some e := zcR (j := 4) rfl
theorem zsH {a : α} : atI [a] (-1) = some a := rfl
theorem zt4 {a b : α} : atI [a, b] (-1) = some b := rfl
theorem zs9 {a b c : α} : atI [a, b, c] (-1) = some c := rfl
theorem ztY {a b c d : α} : atI [a, b, c, d] (-1) = some d := rfl
theorem zsn {a b c d e : α} : atI [a, b, c, d, e] (-1) = some e := rfl
theorem zlX {β : Type} {f : α -> β} {xs : List α} {i : Int} : atI (xs.map f) i = (atI xs i).map f := by
  unfold atI
  rw [List.length_map]
  cases ixN xs.length i with
  | none => rfl
  | some j => simp [List.getElem?_map]
theorem zsG {xs : List α} {i : Int} {j : Nat} {v : α} (hi : i = j) (h : xs[j]? = some v) : atI xs i = some v := by subst hi; exact zcR h
theorem ziI {xs : List α} {i : Int} (h0 : 0 <= i) (h1 : i < xs.length) : ∃ v, atI xs i = some v /\ xs[i.toNat]? = some v := by
  have hi : i.toNat < xs.length := by omega
  exact ⟨xs[i.toNat], zsG (by omega) (List.getElem?_eq_getElem hi), List.getElem?_eq_getElem hi⟩
theorem znW {xs : List α} : atI xs (-1) = xs.getLast? := by
  rcases List.eq_nil_or_concat xs with rfl | ⟨ys, v, rfl⟩
  . rfl
  . rw [List.concat_eq_append, zki]; simp
end
theorem zjc {s1 u : DS} {D' : zcH} {ρ : zav} {μ : Mu} (R : zav -> Mu -> Prop) (h1 : ∀ N : zav -> Mu -> Prop, (∀ ρ' μ', R ρ' μ' -> N ρ' μ') -> s1 { D' with nx := N } ρ μ) (h2 : ∀ ρ' μ', R ρ' μ' -> u D' ρ' μ') : zN s1 u D' ρ μ := h1 _ h2
end L2

namespace L2
open PySem PySem.Spec PyProof.Rows
def blK (Q : Bool -> Mu -> Prop) : DK := fun d μ => match d with
  | .bl b => Q b μ
  | _ => False
def zvy (Q : Int -> Mu -> Prop) : DK := fun d μ => match d with
  | .int b => Q b μ
  | _ => False
def chK (q' : DR2) (e : D) (wc : DE) (ρ : zav) (Q : DK) : DK := fun z μ3 => match z with
  | .bl k => if k = true then wc ρ μ3 fun f μ4 => q' e f μ4 Q else Q (.bl false) μ3
  | _ => False
def cellK (c : Option Ct) (Q : List D -> Prop) : Prop := match c with
  | some (.lst ds) => Q ds
  | _ => False
def zbd {α : Type} (o : Option α) (Q : α -> Prop) : Prop := match o with
  | some a => Q a
  | none => False
def zpO {α β : Type} (o : Option α) (f : α -> β) : Option β := match o with
  | some a => some (f a)
  | none => none
theorem zni {α β : Type} {a : α} {f : α -> β} : zpO (some a) f = some (f a) := rfl
def zq3 (c : Option Ct) (Q : DK) (μ : Mu) : Prop := match c with
  | some (.lst ds) => Q (.lst ds) μ
  | some (.dct ks vs) => Q (.dct ks vs) μ
  | some (.dtt ks vs) => Q (.dtt ks vs) μ
  | some (.ins C ns vs) => Q (.obj C ns vs) μ
  | _ => False
def tyC (T : String) (c : Option Ct) : Prop := match c with
  | some (.lst _) => "list" = T
  | some (.dct _ _) => "dict" = T
  | some (.dtt _ _) => "dict" = T
  | _ => False
section
variable {μ μ' : Mu} {Q : DK} {ρ : zav} {w wa wb wc : DE} {k : Nat} {d e : D} {ds es : List D} {i j : Int} {q q' : DR2} {α : Type} {D' : zcH}
theorem ztP {b : Bool} {R : Bool -> Mu -> Prop} : blK R (.bl b) μ = R b μ := rfl
theorem zoC {R : Int -> Mu -> Prop} : zvy R (.int i) μ = R i μ := rfl
theorem zsz {b : Bool} : chK q' e wc ρ Q (.bl b) μ = if b = true then wc ρ μ fun f μ4 => q' e f μ4 Q else Q (.bl false) μ := rfl
theorem zmU {R : List D -> Prop} : cellK (some (.lst ds)) R = R ds := rfl
theorem zfE {a : α} {R : α -> Prop} : zbd (some a) R = R a := rfl
theorem zqd : zq3 (some (.lst ds)) Q μ = Q (.lst ds) μ := rfl
theorem zpa {ks : List Key} : zq3 (some (.dct ks ds)) Q μ = Q (.dct ks ds) μ := rfl
theorem zoN {ks : List (List Key)} : zq3 (some (.dtt ks ds)) Q μ = Q (.dtt ks ds) μ := rfl
theorem znU {C : Str} {ns : List Str} : zq3 (some (.ins C ns ds)) Q μ = Q (.obj C ns ds) μ := rfl
theorem zqZ : tyC "list" (some (.lst ds)) = True := eq_true rfl
theorem ztC {R : Bool -> Mu -> Prop} : zW w ρ μ R = w ρ μ (blK R) := rfl
theorem zru : zgV q q' wa wb wc ρ μ Q = wa ρ μ fun d μ1 => wb ρ μ1 fun e μ2 => q d e μ2 (chK q' e wc ρ Q) := rfl
theorem zsR {R : Option Int -> Mu -> Prop} : zbI w ρ μ R = w ρ μ (zvy fun i => R (some i)) := rfl
theorem zqv {g : DG} {gs : DGs} {R : zav -> Mu -> Prop} : zck g gs (d :: ds) ρ μ R = g d ρ μ fun ρ' μ' => gs ds ρ' μ' R := rfl
theorem zto {n : Nat} {gs : DGs} {R : zav -> Mu -> Prop} : zn1 n gs (.tup ds) ρ μ R = (ds.length = n /\ gs ds ρ μ R) := rfl
def zuH (i j : Nat) (D0 : zcH) (ρ : zav) : List D -> Mu -> Prop := fun ds μ1 => match ds with
  | [d, e] => D0.nx ((ρ.set i (some d)).set j (some e)) μ1
  | _ => False
theorem zuJ {i j : Nat} {wA : DA} : dPar i j wA D' ρ μ = wA ρ μ (zuH i j D' ρ) := rfl
theorem zob {i j : Nat} : zuH i j D' ρ [d, e] μ = D'.nx ((ρ.set i (some d)).set j (some e)) μ := rfl
theorem zvG {g : Int -> Int -> D} : dI0 g (.int i) (.int j) μ Q = Q (g i j) μ := rfl
theorem e_i {C : Int -> Int -> Prop} {g : Int -> Int -> D} : dI C g (.int i) (.int j) μ Q = (C i j /\ Q (g i j) μ) := rfl
theorem zvh : zf9 (.int i) μ Q = Q (.int (-i)) μ := rfl
theorem zr8 : zcG (.int i) (.int j) μ Q = Q (.int (i + j)) μ := rfl
theorem ztH {a b : Str} : zcG (.str a) (.str b) μ Q = (a.length + b.length <= sizeLine /\ Q (.str (a ++ b)) μ) := rfl
theorem zpy : zcG (.tup ds) (.tup es) μ Q = (ds ≠ [] /\ ds.length + es.length <= sizeLine /\ Q (.tup (ds ++ es)) μ) := rfl
theorem ztL : zcG (.lst ds) (.lst es) μ Q = (ds.length + es.length <= sizeLine /\ Q (.lst (ds ++ es)) μ) := by
  show (∃ a b, zaC μ (.lst ds) = some a /\ zaC μ (.lst es) = some b /\ a.length + b.length <= sizeLine /\ Q (.lst (a ++ b)) μ) = _
  simp only [zcS, Option.some.injEq]
  refine propext ⟨fun ⟨a, b, e1, e2, h⟩ => by subst e1 e2; exact h, fun h => ⟨_, _, rfl, rfl, h⟩⟩
theorem zvc (μ : Mu) (k : Nat) (R : List D -> Prop) : (∃ a, zaC μ (.cell k) = some a /\ R a) = cellK (μ k) R := by
  unfold zaC cellK
  cases h : μ k with
  | none => simp [h]
  | some c => cases c <;> simp [h]
theorem zq5 : zcG (.lst ds) (.cell k) μ Q = cellK (μ k) fun es => ds.length + es.length <= sizeLine /\ Q (.lst (ds ++ es)) μ := by
  rw [<- zvc]
  show (∃ a b, zaC μ (.lst ds) = some a /\ zaC μ (.cell k) = some b /\ a.length + b.length <= sizeLine /\ Q (.lst (a ++ b)) μ) = _
  refine propext ⟨fun ⟨a, b, e1, e2, h⟩ => by cases e1; exact ⟨_, e2, h⟩, fun ⟨b, e2, h⟩ => ⟨_, _, rfl, e2, h⟩⟩
theorem zvd : zpK (.int i) (.int j) μ Q = (zi6 i j /\ Q (.int (i * j)) μ) := rfl
theorem zsI : zuO (.int i) (.int j) μ Q = Q (.int (i + j)) μ := rfl
theorem zr6 : dIx (.tup ds) (.int i) μ Q = zbd (atI ds i) fun v => Q v μ := by
  rw [zqs]; cases atI ds i <;> rfl
theorem zsa : dIx (.lst ds) (.int i) μ Q = zbd (atI ds i) fun v => Q v μ := by
  rw [zqB]; cases atI ds i <;> rfl
theorem zuF : dIx (.cell k) (.int i) μ Q = cellK (μ k) fun ds => zbd (atI ds i) fun v => Q v μ := by
  show (match zbU μ (.cell k) with | some ds => (match L2.atI ds i with | some v => Q v μ | none => False) | none => False) = _
  unfold cellK zbU zaC zbd
  cases h : μ k with
  | none => simp [h]
  | some c =>
    cases c <;> simp [h]
    rename_i ds
    cases atI ds i <;> simp
theorem zu2 {z : Str} : dIx (.str z) (.int i) μ Q = (z.length <= sizeLine /\ zbd (L2.atI z.cps.toList i) fun c => Q (.str ⟨#[c]⟩) μ) := by
  show (z.length <= sizeLine /\ (match L2.atI z.cps.toList i with | some c => Q (.str ⟨#[c]⟩) μ | none => False)) = _
  cases L2.atI z.cps.toList i <;> rfl
theorem zdQ {lo hi : Option Int} : zcd (.tup ds) lo hi μ Q = (¬ (HT.sIx ds.length 0 lo = 0 /\ HT.sIx ds.length ds.length hi = ds.length) /\ Q (.tup (cutD ds lo hi)) μ) := rfl
theorem zuB {lo hi : Option Int} : zcd (.lst ds) lo hi μ Q = Q (.lst (cutD ds lo hi)) μ := rfl
theorem ztB {z : Str} : zdP [.str z] μ Q = (z.length <= sizeLine /\ Q (.int z.length) μ) := rfl
theorem ztR : zdP [.lst ds] μ Q = Q (.int ds.length) μ := rfl
theorem zsm : zdP [.tup ds] μ Q = Q (.int ds.length) μ := rfl
theorem ztc : zdP [.cell k] μ Q = cellK (μ k) fun ds => Q (.int ds.length) μ := by
  show (match zbU μ (.cell k) with | some es => Q (.int es.length) μ | none => False) = _
  unfold cellK zbU zaC
  cases h : μ k with
  | none => simp [h]
  | some c => cases c <;> simp [h]
theorem zq4 : zkp [.lst ds] μ Q = Q (.lst ds) μ := rfl
theorem zrM : zkp [.tup ds] μ Q = Q (.lst ds) μ := rfl
theorem zoh : zpR [.lst ds] μ Q = ∀ k, μ k = none -> Q (.cell k) (zQ μ k (.lst ds)) := rfl
theorem zpP : zpR [.tup ds] μ Q = ∀ k, μ k = none -> Q (.cell k) (zQ μ k (.lst ds)) := rfl
theorem zjO : zbn [.lst ds] μ Q = Q (.tup ds) μ := rfl
theorem zpb : zbn [.tup ds] μ Q = Q (.tup ds) μ := rfl
theorem zoJ : zbn [.cell k] μ Q = cellK (μ k) fun ds => Q (.tup ds) μ := by
  show (match zbU μ (.cell k) with | some es => Q (.tup es) μ | none => False) = _
  unfold cellK zbU zaC
  cases h : μ k with
  | none => simp [h]
  | some c => cases c <;> simp [h]
theorem zvf : zvR [.int i] μ Q = Q (.int (if i < 0 then -i else i)) μ := rfl
theorem ztV : zmE [.int i, .int j] μ Q = Q (.int (if j > i then j else i)) μ := rfl
theorem zup : zlt [.int i, .int j] μ Q = Q (.int (if j < i then j else i)) μ := rfl
theorem zsM : zmE [.lst ds] μ Q = zbd (intsOf ds) fun ns => ns ≠ [] /\ ∀ M ∈ ns, (∀ a ∈ ns, a <= M) -> Q (.int M) μ := by
  unfold zmE zbd
  simp only [zcS, Option.bind_some]
  cases intsOf ds <;> rfl
theorem zt0 : zlt [.lst ds] μ Q = zbd (intsOf ds) fun ns => ns ≠ [] /\ ∀ M ∈ ns, (∀ a ∈ ns, M <= a) -> Q (.int M) μ := by
  unfold zlt zbd
  simp only [zcS, Option.bind_some]
  cases intsOf ds <;> rfl
theorem ztO : zur [.lst ds] μ Q = zbd (intsOf ds) fun ns => Q (.int ns.sum) μ := by
  unfold zur zbd
  simp only [zcS, Option.bind_some]
  cases intsOf ds <;> rfl
theorem zug : zpD [.lst ds] μ Q = zbd (zcg ds) fun ns => Q (.bl (ns.all id)) μ := by
  unfold zpD zbd
  simp only [zcS, Option.bind_some]
  cases zcg ds <;> rfl
theorem zsp : zvr [.lst ds] μ Q = zbd (zcg ds) fun ns => Q (.bl (ns.any id)) μ := by
  unfold zvr zbd
  simp only [zcS, Option.bind_some]
  cases zcg ds <;> rfl
theorem zlS : intsOf [] = some [] := rfl
theorem zkO : intsOf (.int i :: ds) = zpO (intsOf ds) (fun l => i :: l) := by
  unfold zpO
  simp only [intsOf]
  cases intsOf ds <;> rfl
theorem znh : zcg [] = some [] := rfl
theorem zlI {b : Bool} : zcg (.bl b :: ds) = zpO (zcg ds) (fun l => b :: l) := by
  unfold zpO
  simp only [zcg]
  cases zcg ds <;> rfl
theorem ztd {R : List D -> (Mu -> Prop) -> Prop} : zkg μ (.lst ds) R = R ds fun _ => True := rfl
theorem ztU {R : List D -> (Mu -> Prop) -> Prop} : zkg μ (.tup ds) R = R ds fun _ => True := rfl
theorem zsF {R : List D -> (Mu -> Prop) -> Prop} : zkg μ (.cell k) R = cellK (μ k) fun ds => R ds fun μ' => μ' k = some (.lst ds) := by
  first
    | (unfold zkg cellK
       cases h : μ k with
       | none => simp [h]
       | some c => cases c <;> simp [h])
    | (unfold lsM cellK
       cases h : μ k with
       | none => simp [h]
       | some c => cases c <;> simp [h])
theorem zvl {R : List D -> (Mu -> Prop) -> Prop} : lsM μ (.lst ds) R = R ds fun _ => True := rfl
def zsi (R : List D -> (Mu -> Prop) -> Mu -> Prop) : List D -> Mu -> Prop := fun ds μ1 => match ds with
  | [.int j] => -(2 ^ 62) <= j /\ j < 2 ^ 62 /\ R ((zcc 0 j.toNat).map D.int) (fun _ => True) μ1
  | _ => False
def zrW (R : List D -> (Mu -> Prop) -> Mu -> Prop) : List D -> Mu -> Prop := fun ds μ1 => match ds with
  | [.int i, .int j] => (-(2 ^ 62) <= i /\ i < 2 ^ 62 /\ -(2 ^ 62) <= j /\ j < 2 ^ 62) /\ R ((zcc i (j - i).toNat).map D.int) (fun _ => True) μ1
  | _ => False
theorem ztb {wA : DA} {R : List D -> (Mu -> Prop) -> Mu -> Prop} : zdx wA ρ μ R = wA ρ μ (zsi R) := rfl
theorem zq6 {R : List D -> (Mu -> Prop) -> Mu -> Prop} : zsi R [.int j] μ = (-(2 ^ 62) <= j /\ j < 2 ^ 62 /\ R ((zcc 0 j.toNat).map D.int) (fun _ => True) μ) := rfl
theorem ztK {wA : DA} {R : List D -> (Mu -> Prop) -> Mu -> Prop} : zuq wA ρ μ R = wA ρ μ (zrW R) := rfl
theorem zqM {R : List D -> (Mu -> Prop) -> Mu -> Prop} : zrW R [.int i, .int j] μ = ((-(2 ^ 62) <= i /\ i < 2 ^ 62 /\ -(2 ^ 62) <= j /\ j < 2 ^ 62) /\ R ((zcc i (j - i).toNat).map D.int) (fun _ => True) μ) := rfl
def zvz (R : List D -> (Mu -> Prop) -> Mu -> Prop) : List D -> Mu -> Prop := fun es μ1 => match es with
  | [d, e] => lsM μ1 d fun ds P1 => lsM μ1 e fun es P2 => R ((ds.zip es).map pairD) (fun μ' => P1 μ' /\ P2 μ') μ1
  | _ => False
theorem zuK {wA : DA} {R : List D -> (Mu -> Prop) -> Mu -> Prop} : zu1 wA ρ μ R = wA ρ μ (zvz R) := rfl
theorem zsZ {R : List D -> (Mu -> Prop) -> Mu -> Prop} : zvz R [d, e] μ = lsM μ d fun ds P1 => lsM μ e fun es P2 => R ((ds.zip es).map pairD) (fun μ' => P1 μ' /\ P2 μ') μ := rfl
theorem zub {many : Int} : zai [.cell k, .int many] μ Q = (μ k = some .draw /\ 0 < many /\ many < 2 ^ 250 /\ ∀ v, 0 <= v -> v < many -> Q (.int v) μ) := rfl
theorem zqm {ns : List Int} : ze0 [.scr ns] μ Q = ∀ k, μ k = none -> Q (.cell k) (zQ μ k .draw) := rfl
theorem zuE {T : String} : tyM T μ (.cell k) = tyC T (μ k) := by
  unfold tyM tyD tyC
  cases h : μ k with
  | none => simp [h]
  | some c => cases c <;> simp [h]
theorem zuS : tyM "list" μ (.lst ds) = True := eq_true rfl
theorem zuY {z : Str} : tyM "str" μ (.str z) = True := eq_true rfl
theorem zq9 {R : Nat -> List D -> Prop} : zc9 μ (.cell k) R = cellK (μ k) (R k) := by
  unfold zc9 cellK
  cases h : μ k with
  | none => simp [h]
  | some c => cases c <;> simp [h]
theorem zov : zbo d [e] μ Q = zc9 μ d fun k ds => ds.length < sizeLine /\ Q .non (zQ μ k (.lst (ds ++ [e]))) := rfl
theorem ztI : zsc d [] μ Q = zc9 μ d fun k ds => zbd ds[ds.length - 1]? fun y => Q y (zQ μ k (.lst ds.dropLast)) := by
  refine congrArg (zc9 μ d) (funext fun k => funext fun ds => ?_)
  cases ds[ds.length - 1]? <;> rfl
theorem zt7 : zsc d [.int i] μ Q = zc9 μ d fun k ds => -(2 ^ 63) <= i /\ i < 2 ^ 63 /\ zbd (ixN ds.length i) fun j => zbd ds[j]? fun y => Q y (zQ μ k (.lst (ds.eraseIdx j))) := by
  refine congrArg (zc9 μ d) (funext fun k => funext fun ds => ?_)
  refine congrArg (And _) (congrArg (And _) ?_)
  unfold zbd
  cases ixN ds.length i with
  | none => rfl
  | some j =>
    generalize ds.eraseIdx j = ee
    simp only
    cases ds[j]? <;> rfl
theorem zq7 {R : Mu -> Prop} : zsy d (.int i) e μ R = zc9 μ d fun k ds => zbd (ixN ds.length i) fun j => R (zQ μ k (.lst (ds.set j e))) := by
  refine congrArg (zc9 μ d) (funext fun k => funext fun ds => ?_)
  cases ixN ds.length i <;> rfl
theorem zvQ : dIs d .non μ Q = Q (.bl (zd7 d)) μ := rfl
theorem zre : zsv d .non μ Q = Q (.bl (!zd7 d)) μ := rfl
theorem zkH {x : Int} : zoX [(.int x), .ty "int"] μ Q = Q (.bl true) μ := by show ("int" ∈ zaw /\ Q (.bl (zeK "int" "int")) μ) = _; rw [show ("int" ∈ zaw) = True from eq_true (by decide), true_and]; rfl
theorem ziJ {x : Int} : zoX [(.int x), .ty "bool"] μ Q = Q (.bl false) μ := by show ("bool" ∈ zaw /\ Q (.bl (zeK "int" "bool")) μ) = _; rw [show ("bool" ∈ zaw) = True from eq_true (by decide), true_and]; rfl
end
end L2

namespace L2
open PySem PySem.Spec PyProof.Rows
def zsd (ds : List D) : List D := ((List.range ds.length).zip ds).map fun p => .tup [.int p.1, p.2]
def zsj (R : List D -> (Mu -> Prop) -> Mu -> Prop) : List D -> Mu -> Prop := fun es μ1 => match es with
  | [d] => lsM μ1 d fun ds P1 => R (zsd ds) P1 μ1
  | _ => False
def zsq (w : DA) : DI := fun ρ μ Q => w ρ μ (zsj Q)
theorem zry {d : D} {μ : Mu} {R : List D -> (Mu -> Prop) -> Mu -> Prop} : zsj R [d] μ = lsM μ d fun ds P1 => R (zsd ds) P1 μ := rfl
section
variable {X : Cx} (K : PySem.W.Frag)
def zuP : List V -> Hp -> VK -> Prop := fun xs H Q => ∃ a ys c b, xs = [.ref a, c] /\ SqT K H a ys /\ (∀ u, RelV c u -> PySem.W.kitOne K (.type "tuple") u = some b) /\ Q (.bl b) H
def zuy : List V -> Hp -> VK -> Prop := fun xs H Q => zqu K xs H Q \/ zuP K xs H Q
theorem znp (h : X.K = K := by rfl) : zZ X (.builtin "isinstance") (zuP K) := by
  subst h
  intro pins s σ H xs us Q I r h
  obtain ⟨a, ys, c, b, rfl, hq, hk, q⟩ := h
  obtain ⟨u, w, rfl, ra, rc⟩ := vals2 r
  cases ra
  obtain ⟨its, rv, p, hz⟩ := I.tuple hq
  obtain ⟨o, h1, h2, _⟩ := p
  exact PySem.W.kia_one PySem.W.kitx_tuple I.kIn ⟨o, h1, h2⟩ (hk w rc) (fun z => nomatch z) fun tk => ⟨.bl b, H, I.tok _, rfl, q⟩
theorem zhe (h : X.K = K := by rfl) : zZ X (.builtin "isinstance") (zuy K) := (zic K h).or (znp K h)
end
def zgc : DRs := fun ds μ Q => match ds with
  | [.tup _, .ty T] => T ∈ zaw /\ Q (.bl (zeK "tuple" T)) μ
  | ds => zoX ds μ Q
theorem zqS {K : PySem.W.Frag} {T : String} (h' : T ∈ zaw) : PySem.W.kitOne K (.type "tuple") (.type T) = some (zeK "tuple" T) := by
  simp only [zaw, List.mem_cons, List.not_mem_nil, or_false] at h'
  rcases h' with rfl | rfl | rfl | rfl | rfl | rfl <;> rfl
instance {K : PySem.W.Frag} : zcz K (zuy K) zgc := ⟨fun {W μ H ds xs Q Q'} r z h k => by
  unfold zgc at h
  split at h
  . rename_i es T
    obtain ⟨x, y, rfl, q1, q2⟩ := z.two
    obtain ⟨a, ys, rfl, hs, _⟩ := q1.tup'
    unfold Rep at q2
    subst q2
    exact .inr ⟨a, ys, .ty T, zeK "tuple" T, rfl, hs.sm r.sub, fun u hu => by cases hu; exact zqS h.1, k _ _ _ _ _ (.refl _) r .b h.2⟩
  . exact .inl (zcz.run (K := K) r z h k)⟩
inductive Src where
  | p (i : Nat) | k (i : Nat) | c (i : Nat)
def pick {α : Type} (d : α) (cs us ws : List α) : Src -> α
  | .p i => us.getD i d
  | .k i => ws.getD i d
  | .c i => cs.getD i d
def sel {α : Type} (n m : Nat) (pat : List Src) (d : α) (cs us ws : List α) : List α := bif (us.length == n && ws.length == m) then pat.map (pick d cs us ws) else []
theorem Vals.getD {vs : List V} {us : List Value} (h : Vals vs us) (i : Nat) : RelV (vs.getD i .non) (us.getD i .none) := by
  rw [List.getD_eq_getElem?_getD, List.getD_eq_getElem?_getD]
  cases e : vs[i]? with
  | none =>
    have : us[i]? = none := by
      rw [List.getElem?_eq_none_iff] at e ⊢
      rw [<- h.length]; exact e
    rw [this]; rfl
  | some v =>
    obtain ⟨u, hu, rv⟩ := h.get e
    rw [hu]; exact rv
theorem Vals.mapS {f : Src -> V} {g : Src -> Value} (h : ∀ x, RelV (f x) (g x)) : ∀ pat : List Src, Vals (pat.map f) (pat.map g)
  | [] => .nil
  | x :: r => .cons (h x) (Vals.mapS h r)
theorem zpk {n m : Nat} {pat : List Src} {csV vs zs : List V} {csU us ws : List Value} (hc : Vals csV csU) (h1 : Vals vs us) (h2 : Vals zs ws) : Vals (sel n m pat .non csV vs zs) (sel n m pat .none csU us ws) := by
  unfold sel
  rw [h1.length, h2.length]
  cases (us.length == n && ws.length == m) with
  | false => exact .nil
  | true =>
    refine Vals.mapS (fun x => ?_) pat
    cases x with
    | p i => exact h1.getD i
    | k i => exact h2.getD i
    | c i => exact hc.getD i
section
variable {K : PySem.W.Frag} {W : Wd}
theorem zz.getD {ds : List D} {xs : List V} (h : zz K W ds xs) (i : Nat) : Rep K W (ds.getD i .non) (xs.getD i .non) := by
  rw [List.getD_eq_getElem?_getD, List.getD_eq_getElem?_getD]
  cases e : ds[i]? with
  | none =>
    have : xs[i]? = none := by
      rw [List.getElem?_eq_none_iff] at e ⊢
      rw [h.length]; exact e
    rw [this]; exact .n
  | some v =>
    obtain ⟨u, hu, rv⟩ := h.get e
    rw [hu]; exact rv
theorem zz.mapS {f : Src -> D} {g : Src -> V} (h : ∀ x, Rep K W (f x) (g x)) : ∀ pat : List Src, zz K W (pat.map f) (pat.map g)
  | [] => .nil
  | x :: r => .cons (h x) (zz.mapS h r)
theorem zkD {n m : Nat} {pat : List Src} {csV vs zs : List V} {csD ds es : List D} (hc : zz K W csD csV) (h1 : zz K W ds vs) (h2 : zz K W es zs) : zz K W (sel n m pat .non csD ds es) (sel n m pat .non csV vs zs) := by
  unfold sel
  rw [h1.length, h2.length]
  cases (ds.length == n && es.length == m) with
  | false => exact .nil
  | true =>
    refine zz.mapS (fun x => ?_) pat
    cases x with
    | p i => exact h1.getD i
    | k i => exact h2.getD i
    | c i => exact hc.getD i
end
theorem zcO {K : PySem.W.Frag} {fd : FuncData} {ps ks : List Str} {n m : Nat} {pat : List Src} {csV : List V} {csU : List Value} (hc : Vals csV csU) (hp : ps.length ≠ 0)
    (h : ∀ (S : Setting) (us ws : List Value), us.length = n -> ws.length = m -> PySem.W.peek K S (bindArgs fd ⟨us, ks.zip ws⟩) = some (ps.zip (sel n m pat .none csU us ws))) : zhq K fd ps ks (sel n m pat .none csU) (sel n m pat .non csV) where
  to := fun s us ws hK hl => by
    by_cases c : us.length = n /\ ws.length = m
    . exact PySem.W.kp_binds hK fun S => h S us ws c.1 c.2
    . have : (us.length == n && ws.length == m) = false := by
        rw [Bool.and_eq_false_iff]
        by_cases c1 : us.length = n
        . exact .inr (by rw [beq_eq_false_iff_ne]; exact fun z => c ⟨c1, z⟩)
        . exact .inl (by rw [beq_eq_false_iff_ne]; exact c1)
      unfold sel at hl
      rw [this] at hl
      exact absurd hl.symm hp
  rel := fun r rz => zpk hc r rz
class zsC (K : PySem.W.Frag) (ds : List D) (xs : List V) : Prop where
  run : ∀ W, zz K W ds xs
instance {K : PySem.W.Frag} : zsC K [] [] := ⟨fun _ => .nil⟩
def ztF (dsp : DSp) (n m : Nat) (pat : List Src) (cs : List D) (w wk : DA) : DE := fun ρ μ Q => w ρ μ fun ds μ1 => wk ρ μ1 fun es μ2 => dsp (sel n m pat .non cs ds es) μ2 Q
end L2

namespace L2
open PySem PySem.Spec PyProof.Rows
theorem zew : ∀ {us : List Value} {ns : List Str}, StrsAre us ns -> Vals (ns.map V.str) us
  | _, _, .nil => .nil
  | _, _, .cons n t h => .cons ⟨t, rfl⟩ (zew h)
theorem zhi : ∀ {us : List Value} {ns : List Int}, IntsAre us ns -> Vals (ns.map V.int) us
  | _, _, .nil => .nil
  | _, _, .cons n t h => .cons ⟨t, rfl⟩ (zhi h)
theorem zeE : ∀ {ns : List Str} {us : List Value}, Vals (ns.map V.str) us -> StrsAre us ns
  | [], _, h => by cases h; exact .nil
  | y :: r, _, h => by
    cases h with
    | cons a b => obtain ⟨t, rfl⟩ := a; exact .cons y t (zeE b)
section
variable {X : Cx} (K : PySem.W.Frag)
def zpm : List V -> Hp -> VK -> Prop := fun xs H Q => ∃ p ns, xs = [.ref p] /\ SqL K H p (ns.map V.int) /\ ns.length < 64 /\ ∀ ns' l, List.Perm ns' ns -> List.Pairwise (· <= ·) ns' -> H l = none -> Q (.ref l) (upd H l (.lst (ns'.map V.int)))
def znT : List V -> Hp -> VK -> Prop := fun xs H Q => ∃ p ns, xs = [.ref p] /\ SqL K H p (ns.map V.str) /\ ns.length < 64 /\ ∀ ns' l, List.Perm ns' ns -> sortedS ns' = true -> H l = none -> Q (.ref l) (upd H l (.lst (ns'.map V.str)))
theorem zlH (h : X.K = K := by rfl) : zZ X (.builtin "sorted") (zpm K) := by
  subst h
  intro pins s σ H xs us Q I r h
  obtain ⟨p, ns, rfl, hl, hz, q⟩ := h
  obtain ⟨u, rfl, rx⟩ := vals1 r
  cases rx
  obtain ⟨its, r', pl, hz'⟩ := I.list hl
  have hi := zdE r'
  refine sorted_ints pl.isList hi (by rw [<- r'.length, List.length_map]; exact hz) fun out ns' h1 h2 h3 => ?_
  obtain ⟨e, he⟩ := sortedAll_at s.heap its out
  have hf : H (s.heap.objs.size + 1) = none := I.hok.fresh (Nat.le_succ _)
  refine ⟨.ref (s.heap.objs.size + 1), _, I.laid (a := s.heap.objs.size + 1) (o := .lst (ns'.map V.int)) (t' := s.toks) (fun b o e => sortedAll_old e) (Nat.le_succ _) ?_, rfl, q ns' _ h2 h3 hf⟩
  refine ⟨by rw [List.length_map, h2.length_eq]; exact Nat.le_trans (Nat.le_of_lt hz) (by decide), out.toList, e, zhi h1, ?_⟩
  rw [he]
theorem zlB (h : X.K = K := by rfl) : zZ X (.builtin "sorted") (znT K) := by
  subst h
  intro pins s σ H xs us Q I r h
  obtain ⟨p, ns, rfl, hl, hz, q⟩ := h
  obtain ⟨u, rfl, rx⟩ := vals1 r
  cases rx
  obtain ⟨its, r', pl, hz'⟩ := I.list hl
  have hi := zeE r'
  refine sorted_strs pl.isList hi (by rw [<- r'.length, List.length_map]; exact hz) fun out ns' h1 h2 h3 => ?_
  obtain ⟨e, he⟩ := sortedAll_at s.heap its out
  have hf : H (s.heap.objs.size + 1) = none := I.hok.fresh (Nat.le_succ _)
  refine ⟨.ref (s.heap.objs.size + 1), _, I.laid (a := s.heap.objs.size + 1) (o := .lst (ns'.map V.str)) (t' := s.toks) (fun b o e => sortedAll_old e) (Nat.le_succ _) ?_, rfl, q ns' _ h2 h3 hf⟩
  refine ⟨by rw [List.length_map, h2.length_eq]; exact Nat.le_trans (Nat.le_of_lt hz) (by decide), out.toList, e, zew h1, ?_⟩
  rw [he]
def ziu : List V -> Hp -> VK -> Prop := fun xs H Q => zpm K xs H Q \/ znT K xs H Q
theorem ziQ (h : X.K = K := by rfl) : zZ X (.builtin "sorted") (ziu K) := (zlH K h).or (zlB K h)
end
def zgn : DRs := fun ds μ Q => match ds with
  | [d] => (∃ ns, zaC μ d = some (ns.map D.int) /\ ns.length < 64 /\ ∀ ns', List.Perm ns' ns -> List.Pairwise (· <= ·) ns' -> Q (.lst (ns'.map D.int)) μ) \/
      (∃ ns, zaC μ d = some (ns.map D.str) /\ ns.length < 64 /\ ∀ ns', List.Perm ns' ns -> sortedS ns' = true -> Q (.lst (ns'.map D.str)) μ)
  | _ => False
instance {K : PySem.W.Frag} : zcz K (ziu K) zgn := ⟨fun {W μ H ds xs Q Q'} r z h k => by
  unfold zgn at h
  split at h
  . obtain ⟨x, rfl, q⟩ := z.one
    rcases h with ⟨ns, hl, hz, h⟩ | ⟨ns, hl, hz, h⟩
    . obtain ⟨a, xs, rfl, e1, z1⟩ := za3 r q hl
      rw [z1.ints] at e1
      refine .inl ⟨a, ns, rfl, SqL.of e1, hz, fun ns' l h1 h2 hl => ?_⟩
      obtain ⟨r2, le2⟩ := r.newF (o := .lst (ns'.map V.int)) hl
      exact k _ _ _ _ _ le2 r2 (.lst zF (.of_ints ns')) (h ns' h1 h2)
    . obtain ⟨a, xs, rfl, e1, z1⟩ := za3 r q hl
      rw [z1.strs] at e1
      refine .inr ⟨a, ns, rfl, SqL.of e1, hz, fun ns' l h1 h2 hl => ?_⟩
      obtain ⟨r2, le2⟩ := r.newF (o := .lst (ns'.map V.str)) hl
      exact k _ _ _ _ _ le2 r2 (.lst zF (.of_strs ns')) (h ns' h1 h2)
  . exact h.elim⟩
theorem zmF : zd7 .non = true := rfl
theorem zns {i : Int} : zd7 (.int i) = false := rfl
theorem znc {i : Str} : zd7 (.str i) = false := rfl
theorem zpY {i : Bool} : zd7 (.bl i) = false := rfl
theorem zng {i : List D} : zd7 (.lst i) = false := rfl
theorem znz {i : List D} : zd7 (.tup i) = false := rfl
theorem zlJ {i : Nat} : zd7 (.cell i) = false := rfl
section
variable {μ : Mu} {Q : DK}
theorem zj9 {x : Int} : zgc [(.int x), .ty "int"] μ Q = Q (.bl true) μ := zkH (x := x)
theorem zjb {x : Int} : zgc [(.int x), .ty "bool"] μ Q = Q (.bl false) μ := ziJ (x := x)
theorem zkj {x : List D} : zgc [.tup x, .ty "int"] μ Q = Q (.bl false) μ := by show ("int" ∈ zaw /\ Q (.bl (zeK "tuple" "int")) μ) = _; rw [show ("int" ∈ zaw) = True from eq_true (by decide), true_and]; rfl
theorem ziz {x : List D} : zgc [.tup x, .ty "bool"] μ Q = Q (.bl false) μ := by show ("bool" ∈ zaw /\ Q (.bl (zeK "tuple" "bool")) μ) = _; rw [show ("bool" ∈ zaw) = True from eq_true (by decide), true_and]; rfl
theorem zkW {x : List D} : zgc [.tup x, .ty "str"] μ Q = Q (.bl false) μ := by show ("str" ∈ zaw /\ Q (.bl (zeK "tuple" "str")) μ) = _; rw [show ("str" ∈ zaw) = True from eq_true (by decide), true_and]; rfl
theorem zjq {x : List D} : zgc [.tup x, .ty "list"] μ Q = Q (.bl false) μ := by show ("list" ∈ zaw /\ Q (.bl (zeK "tuple" "list")) μ) = _; rw [show ("list" ∈ zaw) = True from eq_true (by decide), true_and]; rfl
theorem zhw {x : List D} : zgc [.tup x, .ty "tuple"] μ Q = Q (.bl true) μ := by show ("tuple" ∈ zaw /\ Q (.bl (zeK "tuple" "tuple")) μ) = _; rw [show ("tuple" ∈ zaw) = True from eq_true (by decide), true_and]; rfl
theorem ziR {x : List D} : zgc [.tup x, .ty "dict"] μ Q = Q (.bl false) μ := by show ("dict" ∈ zaw /\ Q (.bl (zeK "tuple" "dict")) μ) = _; rw [show ("dict" ∈ zaw) = True from eq_true (by decide), true_and]; rfl
end
end L2

namespace L2
open PySem PySem.Spec PyProof.Rows
theorem stp {s u : DS} {D' : zcH} {ρ : zav} {μ : Mu} (h : ∀ N : zav -> Mu -> Prop, (∀ ρ' μ', u D' ρ' μ' -> N ρ' μ') -> s { D' with nx := N } ρ μ) : zN s u D' ρ μ := h _ fun _ _ z => z
section
variable {Pm : Mu -> Prop} {g : DG} {we : DE} {ρb : zav} {Fin : List D -> Mu -> Prop} {d : D} {r ys : List D} {μ : Mu}
end
end L2

namespace L2
open PySem PySem.Spec PyProof.Rows
abbrev Tab := List (Str × List Str)
def zhn (tab : Tab) (c f : Str) : Bool := tab.any fun p => p.1 == c && p.2.contains f
class TabOk (K : PySem.W.Frag) (tab : Tab) : Prop where
  run : ∀ c f C, zhn tab c f = true -> clsOf K c = some C -> Cls K C /\ zd1 K C f
def zoM (tab : Tab) (f c : Str) (ns : List Str) (vs : List D) (R : D -> Prop) : Prop := zhn tab c f = true /\ zbd ((ns.zip vs).lookup f) R
def zjn (c : Option Ct) (R : Str -> List Str -> List D -> Prop) : Prop := match c with
  | some (.ins c ns vs) => R c ns vs
  | _ => False
def zfw (μ : Mu) (d : D) (R : Str -> List Str -> List D -> Prop) : Prop := match d with
  | .obj c ns vs => R c ns vs
  | .cell k => zjn (μ k) R
  | _ => False
theorem zc7 {c : Str} {ns : List Str} {vs : List D} {R : Str -> List Str -> List D -> Prop} : zjn (some (.ins c ns vs)) R = R c ns vs := rfl
theorem zn0 {o : Option Ct} {R : Str -> List Str -> List D -> Prop} (h : zjn o R) : ∃ c ns vs, o = some (.ins c ns vs) /\ R c ns vs := by
  unfold zjn at h
  split at h
  . exact ⟨_, _, _, rfl, h⟩
  . exact h.elim
theorem znZ {μ : Mu} {c : Str} {ns : List Str} {vs : List D} {R : Str -> List Str -> List D -> Prop} : zfw μ (.obj c ns vs) R = R c ns vs := rfl
theorem zc2 {μ : Mu} {k : Nat} {R : Str -> List Str -> List D -> Prop} : zfw μ (.cell k) R = zjn (μ k) R := rfl
def zuN (tab : Tab) (f : Str) (Q : DK) : DK := fun d μ => zfw μ d fun c ns vs => zoM tab f c ns vs fun v => Q v μ
def zcM (tab : Tab) (w : DE) (f : Str) : DE := fun ρ μ Q => w ρ μ (zuN tab f Q)
section
variable {K : PySem.W.Frag} {W : Wd} {μ : Mu} {H : Hp}
theorem zdr {d : D} {x : V} {R : Str -> List Str -> List D -> Prop} (r : Rel K W μ H) (q : Rep K W d x) (h : zfw μ d R) : ∃ c C a dx ns vs xs, clsOf K c = some C /\ x = .ref a /\ H a = some (.ins C dx (ns.zip xs)) /\ ns.length = xs.length /\ zz K W vs xs /\ R c ns vs := by
  unfold zfw at h
  split at h
  . rename_i c ns vs
    unfold Rep at q
    obtain ⟨C, a, dx, xs, hc, rfl, e, l, z⟩ := q
    exact ⟨c, C, a, dx, ns, vs, xs, hc, rfl, r.sub _ _ e, l, z, h⟩
  . rename_i k
    obtain ⟨a, rfl, hb⟩ := q.cell'
    unfold zjn at h
    split at h
    . rename_i c ns vs hk
      obtain ⟨a', e1, e2, C, dx, xs, hc, e3, l3, q3⟩ := r.cel k _ hk
      rw [hb] at e1; cases e1
      exact ⟨c, C, a, dx, ns, vs, xs, hc, rfl, e3, l3, q3, h⟩
    . exact h.elim
  . exact h.elim
theorem zz.lookup {f : Str} : ∀ {ns : List Str} {vs : List D} {xs : List V} {v : D}, zz K W vs xs -> (ns.zip vs).lookup f = some v -> ∃ x, (ns.zip xs).lookup f = some x /\ Rep K W v x
  | [], _, _, _, _, h => by simp at h
  | _ :: _, [], _, _, _, h => by simp at h
  | n :: ns, d :: vs, xs, v, r, h => by
    obtain ⟨x, xs, rfl, q, z⟩ := r.uncons
    simp only [List.zip_cons_cons, List.lookup_cons] at h ⊢
    cases e : (f == n) with
    | true => rw [e] at h; cases h; exact ⟨x, rfl, q⟩
    | false => rw [e] at h; exact zz.lookup z h
theorem zz.lookup_none {f : Str} : ∀ {ns : List Str} {vs : List D} {xs : List V}, zz K W vs xs -> (ns.zip vs).lookup f = none -> (ns.zip xs).lookup f = none
  | [], _, _, _, _ => by simp
  | _ :: _, [], _, r, _ => by rw [r.nil']; simp
  | n :: ns, d :: vs, xs, r, h => by
    obtain ⟨x, xs, rfl, q, z⟩ := r.uncons
    simp only [List.zip_cons_cons, List.lookup_cons] at h ⊢
    cases e : (f == n) with
    | true => rw [e] at h; cases h
    | false => rw [e] at h; exact zz.lookup_none z h
instance {tab : Tab} {ta : TE} {wa : DE} {f : Str} [t : TabOk K tab] [a : zab K ta wa] : zab K (zrA K ta f) (zcM tab wa f) := ⟨fun {W ρ μ σ H Q Q'} r e h k => a.run r e h fun W1 d μ1 x H1 le1 r1 q1 h1 => by
  obtain ⟨c, C, a, dx, ns, vs, xs, hc, rfl, ea, l, z, hi, hl⟩ := zdr r1 q1 h1
  unfold zbd at hl
  split at hl
  . rename_i v hv
    obtain ⟨x, hx, q⟩ := z.lookup hv
    obtain ⟨c1, c2⟩ := t.run c f C hi hc
    exact ⟨a, C, dx, _, x, rfl, ea, c1, c2, hx, k _ _ _ _ _ le1 r1 q hl⟩
  . exact hl.elim⟩
end
def putN (f : Str) : List Str -> List Str
  | [] => [f]
  | g :: r => if g = f then g :: r else g :: putN f r
def putD (f : Str) (v : D) : List Str -> List D -> List D
  | g :: r, x :: xs => if g = f then v :: xs else x :: putD f v r xs
  | _, _ => [v]
def zg5 (tab : Tab) (f : Str) (v : D) (c : Str) (ns : List Str) (vs : List D) (R : List Str -> List D -> Prop) : Prop := zhn tab c f = true /\ ns.length < 1000 /\ R (putN f ns) (putD f v ns vs)
def zhX (tab : Tab) (wo w : DE) (f : Str) : DS := fun D ρ μ => w ρ μ fun v μ1 => wo ρ μ1 fun d μ2 => match d with
  | .cell k => zjn (μ2 k) fun c ns vs => zg5 tab f v c ns vs fun ns' vs' => D.nx ρ (zQ μ2 k (.ins c ns' vs'))
  | _ => False
def zuZ (tab : Tab) (f : Str) (v : D) (D0 : zcH) (ρ : zav) : DK := fun d μ2 => match d with
  | .cell k => zjn (μ2 k) fun c ns vs => zg5 tab f v c ns vs fun ns' vs' => D0.nx ρ (zQ μ2 k (.ins c ns' vs'))
  | _ => False
theorem zsX {tab : Tab} {wo w : DE} {f : Str} {D0 : zcH} {ρ : zav} {μ : Mu} : zhX tab wo w f D0 ρ μ = w ρ μ fun v μ1 => wo ρ μ1 (zuZ tab f v D0 ρ) := rfl
theorem znd {tab : Tab} {f : Str} {v : D} {D0 : zcH} {ρ : zav} {k : Nat} {μ : Mu} : zuZ tab f v D0 ρ (.cell k) μ = zjn (μ k) fun c ns vs => zg5 tab f v c ns vs fun ns' vs' => D0.nx ρ (zQ μ k (.ins c ns' vs')) := rfl
section
variable {K : PySem.W.Frag} {W : Wd}
theorem zl2 {f : Str} {y : V} : ∀ {ns : List Str} {xs : List V}, ns.length = xs.length -> ∃ xs', zdv f y (ns.zip xs) = (putN f ns).zip xs' /\ (putN f ns).length = xs'.length /\ ∀ {vs : List D} {v : D}, zz K W vs xs -> Rep K W v y -> zz K W (putD f v ns vs) xs'
  | [], [], _ => ⟨[y], rfl, rfl, fun {vs v} r q => by
      cases vs with
      | nil => exact .cons q .nil
      | cons d vs => obtain ⟨x, r', e, _⟩ := r.uncons; cases e⟩
  | [], _ :: _, h => by simp at h
  | _ :: _, [], h => by simp at h
  | n :: ns, x :: xs, h => by
    obtain ⟨xs', e1, e2, e3⟩ := zl2 (f := f) (y := y) (ns := ns) (xs := xs) (by simpa using h)
    by_cases hn : n = f
    . refine ⟨y :: xs, ?_, ?_, fun {vs v} r q => ?_⟩
      . simp [zdv, putN, hn]
      . simp only [putN, if_pos hn]; simpa using h
      . cases vs with
        | nil => have := r.nil'; cases this
        | cons d vs =>
          obtain ⟨x', r', e, q1, z⟩ := r.uncons
          cases e
          simp only [putD, if_pos hn]
          exact .cons q z
    . refine ⟨x :: xs', ?_, ?_, fun {vs v} r q => ?_⟩
      . simp only [List.zip_cons_cons, zdv, putN, if_neg hn, e1]
      . simp only [putN, if_neg hn, List.length_cons, e2]
      . cases vs with
        | nil => have := r.nil'; cases this
        | cons d vs =>
          obtain ⟨x', r', e, q1, z⟩ := r.uncons
          cases e
          simp only [putD, if_neg hn]
          exact .cons q1 (e3 z q)
instance {tab : Tab} {ta tv : TE} {wa wv : DE} {f : Str} [t : TabOk K tab] [a : zab K ta wa] [b : zab K tv wv] : zdW K (zrs K ta tv f) (zhX tab wa wv f) := ⟨fun {W ρ μ σ H D' D} r e h k => b.run r e h fun W1 v μ1 y H1 le1 r1 qv h1 => a.run r1 (e.mono le1) h1 fun W2 d μ2 x H2 le2 r2 q2 h2 => by
  cases d <;> first | exact h2.elim | skip
  rename_i kk
  obtain ⟨a, rfl, hb⟩ := q2.cell'
  obtain ⟨c, ns, vs, hk, h2⟩ := zn0 (o := μ2 kk) h2
  obtain ⟨a', e1, e2, C, dx, xs, hc, e3, l3, q3⟩ := r2.cel kk _ hk
  rw [hb] at e1; cases e1
  obtain ⟨hi, hz, h2⟩ := h2
  obtain ⟨c1, c2⟩ := t.run c f C hi hc
  obtain ⟨xs', p1, p2, p3⟩ := zl2 (K := K) (W := W2) (f := f) (y := y) l3
  refine ⟨a, C, dx, _, rfl, e3, c1, c2, by rw [List.length_zip, <- l3, Nat.min_self]; exact hz, ?_⟩
  rw [p1]
  exact k.nx W2 ρ _ σ _ (le1.trans le2) (r2.setC (c' := .ins c (putN f ns) (putD f v ns vs)) hk hb ⟨C, dx, xs', hc, rfl, p2, p3 q3 (qv.mono le2)⟩) (e.mono (le1.trans le2)) h2⟩
end
structure zaJ (P : Program) (w : World) (K : PySem.W.Frag) (mg : Str -> Option Value) (base : Heap) (CX : CXT) (c m : Str) (k : Nat) (ps : List Str) (sp : Sp) (ks : List Str) (gV : List V -> List V -> List V) : Prop where
  ex : ∃ C f fd g, clsOf K c = some C /\ Cls K C /\ Meth K C m f /\ zas P w K mg base CX k f fd ps sp /\ zhq K fd ps ks g gV
def zly (K : PySem.W.Frag) (c m : Str) (sp : Sp) (gV : List V -> List V -> List V) (E : XK) (ta : TE) (t tk : TA) : TE := fun σ H Q => ta σ H fun x H1 => ∃ C a dx fs, clsOf K c = some C /\ x = .ref a /\ H1 a = some (.ins C dx fs) /\ fs.lookup m = none /\
  t σ H1 fun vs H2 => tk σ H2 fun zs H3 => sp (gV (x :: vs) zs) H3 Q E
section
variable {X : Cx} {CX : CXT} {j k : Nat} {ps ks : List Str} {sp : Sp} {E : XK} {c m : Str} {pos apos : Pos} {e o : Expr} {es : List Expr} {ta : TE} {t tk : TA} {kws : List Keyword} {gV : List V -> List V -> List V}
theorem zah {pl : Sem Bool} (K : PySem.W.Frag) (hh : zaJ X.prog X.w X.K X.mg X.base CX c m j ps sp ks gV) (hr : zaM k X.A) (he : WE X o ta) (ha : WA X (e :: es) t) (hkw : WK X kws tk) (hK : X.K = K := by rfl) (hj : j <= k := by decide) (hx : zb8 CX X E := by exact zfJ)
    (hall : (backToKw pos (keywordEach kws X.env)).all (·.1.isSome) = true := by rfl) (hks : (backToKw pos (keywordEach kws X.env)).filterMap (·.1) = ks := by rfl)
    (hst : starEach (e :: es) X.env = (false, eval e X.env) :: starEach es X.env := by rfl)
    (hpl : ((backTo pos (starEach (e :: es) X.env)).any (·.1) || (backToKw pos (keywordEach kws X.env)).any (·.1.isNone)) = false := by rfl)
    (ht : eval (.Call (.Attribute o m apos) (e :: es) kws pos) X.env = (do
      let ov <- eval o X.env
      standAt apos.atName
      let (f, first) <- holding [ov] (getMethod ov m pl)
      callWith pos f first (backTo pos (starEach (e :: es) X.env)) (backToKw pos (keywordEach kws X.env))) := by rfl) :
    WE X (.Call (.Attribute o m apos) (e :: es) kws pos) (zly K c m sp gV E ta t tk) := ⟨by
  subst hK
  obtain ⟨C0, f, fd, g, hc0, hcl, hm, F, hb⟩ := hh.ex
  intro pins s σ H Q I h
  refine PySem.W.methodCall_KW (pl := pl) (thn (he.out pins s σ H _ I h) fun u s1 ⟨x, H1, I1, rx, C, a, dx, fs, hc, ex, ea, l, q⟩ => ?_) ht
  rw [hc0] at hc; cases hc
  subst ex
  obtain rfl : u = Value.ref a := rx
  refine zg9 I1 ea hcl hm l ?_
  refine PySem.W.callWith_KW (first := [.ref a]) (h₀ := X.base) I.ok.mod.kin hm.kp hall (thn (ha.out pos pins s1 σ H1 _ I1 q) fun us s2 ⟨vs, H2, I2, r, q2⟩ => ?_) hpl hst
  refine thn (hkw.out pos pins s2 σ H2 _ I2 q2) fun ws s3 ⟨zs, H3, I3, rz, q3⟩ => ⟨I3.kIn, ?_⟩
  rw [hks]
  exact zme (us := .ref a :: us) (vs := .ref a :: vs) (F.mono hj) hr hb hx I3 (.cons rfl r) rz q3⟩
theorem zdn {pl : Sem Bool} (K : PySem.W.Frag) (hh : zaJ X.prog X.w X.K X.mg X.base CX c m j ps sp [] gV) (hr : zaM k X.A) (he : WE X o ta) (hK : X.K = K := by rfl) (hj : j <= k := by decide) (hx : zb8 CX X E := by exact zfJ)
    (ht : eval (.Call (.Attribute o m apos) [] [] pos) X.env = (do
      let ov <- eval o X.env
      standAt apos.atName
      let (f, first) <- holding [ov] (getMethod ov m pl)
      callWith pos f first (backTo pos (starEach [] X.env)) (backToKw pos (keywordEach [] X.env))) := by rfl) :
    WE X (.Call (.Attribute o m apos) [] [] pos) (zly K c m sp gV E ta zfr zfr) := ⟨by
  subst hK
  obtain ⟨C0, f, fd, g, hc0, hcl, hm, F, hb⟩ := hh.ex
  intro pins s σ H Q I h
  refine PySem.W.methodCall_KW (pl := pl) (thn (he.out pins s σ H _ I h) fun u s1 ⟨x, H1, I1, rx, C, a, dx, fs, hc, ex, ea, l, q⟩ => ?_) ht
  rw [hc0] at hc; cases hc
  subst ex
  obtain rfl : u = Value.ref a := rx
  refine zg9 I1 ea hcl hm l ?_
  exact PySem.W.callWith_K0 (first := [.ref a]) I1.kIn hm.kp (zme (us := [.ref a]) (vs := [.ref a]) (ws := []) (zs := []) (F.mono hj) hr hb hx I1 (.cons rfl .nil) .nil q)⟩
end
def zaZ (c m : Str) (dsp : DSp) (n j : Nat) (pat : List Src) (cs : List D) (wo : DE) (w wk : DA) : DE := fun ρ μ Q => wo ρ μ fun d μ1 => (zfw μ1 d fun c' ns vs => c' = c /\ (ns.zip vs).lookup m = none) /\ w ρ μ1 fun ds μ2 => wk ρ μ2 fun es μ3 => dsp (sel n j pat .non cs (d :: ds) es) μ3 Q
instance {K : PySem.W.Frag} {c m : Str} {dsp : DSp} {n j : Nat} {pat : List Src} {csD : List D} {csV : List V} {E : XK} {ta : TE} {wa : DE} {t tk : TA} {w wk : DA} [o : zab K ta wa] [a : zdO K t w] [b : zdO K tk wk] [cr : zsC K csD csV] : zab K (zly K c m (lift K dsp) (sel n j pat .non csV) E ta t tk) (zaZ c m dsp n j pat csD wa w wk) := ⟨fun {W ρ μ σ H Q Q'} r e h k =>
  o.run r e h fun W1 d μ1 x H1 le1 r1 q1 h1 => by
    obtain ⟨c', C, p, dx, ns, vs, xs, hc, rfl, ea, l, z, rfl, hl⟩ := zdr r1 q1 h1.1
    refine ⟨C, p, dx, _, hc, rfl, ea, z.lookup_none hl, a.run r1 (e.mono le1) h1.2 fun W2 ds μ2 xs H2 le2 r2 q2 h2 => b.run r2 (e.mono (le1.trans le2)) h2 fun W3 es μ3 ys H3 le3 r3 q3 h3 => ?_⟩
    exact ⟨W3, μ3, _, Q, r3, zkD (cr.run W3) (.cons (q1.mono (le2.trans le3)) (q2.mono le3)) q3, h3, fun W4 d4 μ4 x4 H4 le4 => k W4 d4 μ4 x4 H4 (le1.trans (le2.trans (le3.trans le4)))⟩⟩
structure zke (P : Program) (w : World) (K : PySem.W.Frag) (mg : Str -> Option Value) (base : Heap) (CX : CXT) (c : Str) (k : Nat) (ps : List Str) (sp : Sp) (ks : List Str) (gV : List V -> List V -> List V) : Prop where
  ex : ∃ C f fd g, clsOf K c = some C /\ Mk K C f /\ zas P w K mg base CX k f fd ps sp /\ zhq K fd ps ks g gV /\ mg c = some (.ref C)
def zou (K : PySem.W.Frag) (c : Str) (sp : Sp) (gV : List V -> List V -> List V) (E : XK) (t tk : TA) : TE := fun σ H Q => t σ H fun vs H1 => tk σ H1 fun zs H2 => ∀ C x dx, clsOf K c = some C -> H2 x = none -> H2 dx = none -> dx ≠ x ->
  sp (gV (.ref x :: vs) zs) (upd (upd H2 dx (.own x)) x (.ins C dx [])) (fun v H3 => v = .non /\ Q (.ref x) H3) E
section
variable {X : Cx} {CX : CXT} {j k : Nat} {ps ks : List Str} {sp : Sp} {E : XK} {c : Str} {p pos : Pos} {e : Expr} {es : List Expr} {t tk : TA} {kws : List Keyword} {gV : List V -> List V -> List V}
theorem zfs (K : PySem.W.Frag) (h : zke X.prog X.w X.K X.mg X.base CX c j ps sp [] gV) (hr : zaM k X.A) (hK : X.K = K := by rfl) (hj : j + 1 <= k := by decide) (hg : Gl X c := by rfl) (hx : zb8 CX X E := by exact zfJ)
    (hdb : (c == ("__debug__" : Str)) = false := by decide) : WE X (.Call (.Name c p) [] [] pos) (zou K c sp gV E zfr zfr) := ⟨by
  subst hK
  obtain ⟨C, f, fd, g, hc, M, F, b, m⟩ := h.ex
  intro pins s σ H Q I h
  refine wpAny_Call_Name_kw (zi0 I hg m ?_ hdb)
  exact PySem.W.callWith_K0 I.kIn M.kp (zmO (us := []) (vs := []) (ws := []) (zs := []) M F (hr.mono hj) b hx I .nil .nil fun x dx h1 h2 h3 => h C x dx hc h1 h2 h3)⟩
end
def zkG (c : Str) (dsp : DSp) (n j : Nat) (pat : List Src) (cs : List D) (w wk : DA) : DE := fun ρ μ Q => w ρ μ fun ds μ1 => wk ρ μ1 fun es μ2 => ∀ k, μ2 k = none -> dsp (sel n j pat .non cs (.cell k :: ds) es) (zQ μ2 k (.ins c [] [])) fun d μ3 => d = .non /\ Q (.cell k) μ3
def ztZ (c : Str) (dsp : DSp) (n j : Nat) (pat : List Src) (cs : List D) (w wk : DA) : DE := fun ρ μ Q => w ρ μ fun ds μ1 => wk ρ μ1 fun es μ2 => ∀ k, μ2 k = none -> dsp (sel n j pat .non cs (.cell k :: ds) es) (zQ μ2 k (.ins c [] [])) fun d μ3 => d = .non /\ zsr μ3 (.cell k) Q
section
variable {K : PySem.W.Frag} {c : Str} {dsp : DSp} {n j : Nat} {pat : List Src} {csD : List D} {csV : List V} {E : XK} {t tk : TA} {w wk : DA}
theorem zqy {W : Wd} {μ : Mu} {H : Hp} {C x dx : Addr} (r : Rel K W μ H) (hc : clsOf K c = some C) (h1 : H x = none) (h2 : H dx = none) (h3 : dx ≠ x) : ∃ (k : Nat) (W' : Wd), μ k = none /\ W.le W' /\ Rel K W' (zQ μ k (.ins c [] [])) (upd (upd H dx (.own x)) x (.ins C dx [])) /\ W'.b k = some x := by
  have r1 : Rel K W μ (upd H dx (.own x)) := r.same (zfc h2)
  have hx : upd H dx (.own x) x = none := by rw [zJ (Ne.symm h3)]; exact h1
  exact r1.newC (o := .ins C dx []) (c := .ins c [] []) hx ⟨C, dx, [], hc, rfl, rfl, .nil⟩
instance [a : zdO K t w] [b : zdO K tk wk] [cr : zsC K csD csV] : zab K (zou K c (lift K dsp) (sel n j pat .non csV) E t tk) (zkG c dsp n j pat csD w wk) := ⟨fun {W ρ μ σ H Q Q'} r e h k =>
  a.run r e h fun W1 ds μ1 xs H1 le1 r1 q1 h1 => b.run r1 (e.mono le1) h1 fun W2 es μ2 ys H2 le2 r2 q2 h2 C x dx hc g1 g2 g3 => by
    obtain ⟨kk, W3, hk, le3, r3, e3⟩ := zqy r2 hc g1 g2 g3
    refine ⟨W3, _, _, _, r3, zkD (cr.run W3) (.cons (by unfold Rep; exact ⟨x, rfl, e3⟩) (q1.mono (le2.trans le3))) (q2.mono le3), h2 kk hk, fun W4 d4 μ4 x4 H4 le4 r4 q4 h4 => ?_⟩
    obtain ⟨rfl, h4⟩ := h4
    exact ⟨q4.n', k W4 (.cell kk) μ4 _ H4 (le1.trans (le2.trans (le3.trans le4))) r4 (by unfold Rep; exact ⟨x, rfl, le4.b _ _ e3⟩) h4⟩⟩
end
theorem zaA {K : PySem.W.Frag} {c : Str} {C : Addr} (h : PySem.W.nsIn K mainGlobals c = some (some (.ref C))) : clsOf K c = some C := by unfold clsOf; rw [h]
theorem zno {K : PySem.W.Frag} : TabOk K [] := ⟨fun _ _ _ h => by simp [zhn] at h⟩
theorem zlQ {K : PySem.W.Frag} {c : Str} {fs : List Str} {tab : Tab} {C : Addr} (hc : clsOf K c = some C) (cl : Cls K C) (hf : ∀ f ∈ fs, zd1 K C f) (t : TabOk K tab) : TabOk K ((c, fs) :: tab) := ⟨fun c' f C' hi h => by
  simp only [zhn, List.any_cons, Bool.or_eq_true, Bool.and_eq_true] at hi
  rcases hi with ⟨h1, h2⟩ | h1
  . have e := eq_of_beq h1
    subst e
    rw [hc] at h; cases h
    exact ⟨cl, hf f (List.contains_iff_mem.mp h2)⟩
  . exact t.run c' f C' h1 h⟩
end L2

namespace L2
open PySem PySem.Spec PyProof.Rows
def zpo (K : PySem.W.Frag) : V -> List V -> Hp -> VK -> Prop := fun x xs H Q => ∃ sep p ys, x = .str sep /\ xs = [.ref p] /\ (SqL K H p (ys.map V.str) \/ SqT K H p (ys.map V.str)) /\ sep.length <= 16 /\ ze1 ys <= 1048576 /\ Q (.str (Str.join sep ys)) H
theorem zoI {X : Cx} (K : PySem.W.Frag) (h : X.K = K := by rfl) : MtR X "str.join" (zpo K) := zpJ K h
def zoV : DM := fun d es μ Q => match d, es with
  | .str sep, [e] => ∃ ys, zbU μ e = some (ys.map D.str) /\ sep.length <= 16 /\ ze1 ys <= 1048576 /\ Q (.str (Str.join sep ys)) μ
  | _, _ => False
instance {K : PySem.W.Frag} : zqb K "str" (zpo K) zoV := ⟨fun {W μ H d x ds xs Q Q'} r q z h k => by
  unfold zoV at h
  split at h
  . obtain ⟨y, rfl, qy⟩ := z.one
    obtain ⟨ys, hl, h1, h2, h⟩ := h
    obtain ⟨a, vs, rfl, e1, z1⟩ := zcW r qy hl
    rw [z1.strs] at e1
    rw [q.s']
    exact ⟨_, a, ys, rfl, rfl, e1, h1, h2, k _ _ _ _ _ (.refl _) r .s h⟩
  . exact h.elim⟩
def zu7 : R2 := fun x y H Q => ∃ c n, x = .str ⟨#[c]⟩ /\ y = .int n /\ 0 <= n /\ n <= 1000 /\ ∀ z : Str, z.cps.toList = List.replicate n.toNat c -> Q (.str z) H
def zoB : R2 := fun x y H Q => zmx x y H Q \/ zu7 x y H Q
theorem zqc {X : Cx} : OpR X (binaryOp .Mult) zoB := zq0.or zlP
def zkK : DR2 := fun d e μ Q => match d, e with
  | .str z, .int n => ∃ c, z = ⟨#[c]⟩ /\ 0 <= n /\ n <= 1000 /\ ∀ y : Str, y.cps.toList = List.replicate n.toNat c -> Q (.str y) μ
  | d, e => zpK d e μ Q
instance {K : PySem.W.Frag} : zbq K zoB zkK := ⟨fun {W μ H d e x y Q Q'} r q1 q2 h k => by
  unfold zkK at h
  split at h
  . obtain ⟨c, rfl, h1, h2, h⟩ := h
    rw [q1.s', q2.i']
    exact .inr ⟨c, _, rfl, rfl, h1, h2, fun z hz => k _ _ _ _ _ (.refl _) r .s (h z hz)⟩
  . exact .inl (zbq.run (K := K) (r := zmx) (q := zpK) r q1 q2 h k)⟩
section
variable {μ : Mu} {Q : DK} {i j : Int} {ds : List D}
theorem zsN : zkK (.int i) (.int j) μ Q = (zi6 i j /\ Q (.int (i * j)) μ) := rfl
theorem zqV {c : Nat} : zkK (.str ⟨#[c]⟩) (.int j) μ Q = (0 <= j /\ j <= 1000 /\ ∀ y : Str, y.cps.toList = List.replicate j.toNat c -> Q (.str y) μ) := by
  show (∃ c', (⟨#[c]⟩ : Str) = ⟨#[c']⟩ /\ 0 <= j /\ j <= 1000 /\ ∀ y : Str, y.cps.toList = List.replicate j.toNat c' -> Q (.str y) μ) = _
  refine propext ⟨fun ⟨c', e, h⟩ => ?_, fun h => ⟨c, rfl, h⟩⟩
  have : c = c' := by
    have := congrArg (fun s : Str => s.cps.toList) e
    simpa using this
  subst this; exact h
end
theorem zdI {Pm : Mu -> Prop} {g : DG} {ds : List D} {μ : Mu} {we : DE} {ρb : zav} {Fin : List D -> Mu -> Prop} {ys : List D} (I : Nat -> List D -> Mu -> Prop) (h0 : I 0 ys μ)
    (step : ∀ i d ys μ, ds[i]? = some d -> I i ys μ -> ys.length < sizeLine /\ ∀ N : List D -> Mu -> Prop, (∀ ys' μ', I (i + 1) ys' μ' -> N ys' μ') -> g d ρb μ fun ρ2 μ2 => we ρ2 μ2 fun v μ4 => N (ys ++ [v]) μ4)
    (fin : ∀ ys μ, I ds.length ys μ -> Fin ys μ) (hP : ∀ i ys μ, I i ys μ -> Pm μ := by exact fun _ _ _ _ => trivial) : zca g zhx we ρb Pm Fin ds ys μ :=
  zh6 I h0 (fun i d ys μ hd hI => ⟨(step i d ys μ hd hI).1, fun N hN => (step i d ys μ hd hI).2 N hN⟩) fin hP
theorem zcQ {α : Type} {Pm : Mu -> Prop} {g : DG} {μ : Mu} {wc : DT} {we : DE} {ρb : zav} {Fin : List D -> Mu -> Prop} (xs : List α) (f : α -> D) (p : α -> Bool) (f' : α -> D) (hl : xs.length <= sizeLine)
    (step : ∀ x ∈ xs, ∀ (Y : DK) (Z : Mu -> Prop), (p x = true -> Y (f' x) μ) -> (p x = false -> Z μ) -> g (f x) ρb μ fun ρ2 μ2 => wc ρ2 μ2 fun b μ3 => if b = true then we ρ2 μ3 Y else Z μ3)
    (fin : Fin ((xs.filter p).map f') μ) (hP : Pm μ := by exact trivial) : zca g wc we ρb Pm Fin (xs.map f) [] μ := by
  refine zh6 (fun i ys μ' => μ' = μ /\ ys = ((xs.take i).filter p).map f') ⟨rfl, by simp⟩ (fun i d ys μ' hd hI => ?_) (fun ys μ' hI => ?_) (fun i ys μ' h => h.1 ▸ hP)
  . obtain ⟨rfl, rfl⟩ := hI
    rw [List.getElem?_map] at hd
    cases hx : xs[i]? with
    | none => rw [hx] at hd; cases hd
    | some x =>
      rw [hx] at hd
      cases hd
      have hi := (List.getElem?_eq_some_iff.mp hx).1
      refine ⟨?_, fun N hN => ?_⟩
      . have := List.length_filter_le p (xs.take i)
        rw [List.length_map]
        rw [List.length_take] at this
        omega
      . refine step x (List.mem_of_getElem? hx) (fun v μ4 => N (((xs.take i).filter p).map f' ++ [v]) μ4) (fun μ3 => N (((xs.take i).filter p).map f') μ3) (fun hp => hN _ _ ⟨rfl, ?_⟩) (fun hp => hN _ _ ⟨rfl, ?_⟩)
        . rw [List.take_add_one, hx]; simp [hp]
        . rw [List.take_add_one, hx]; simp [hp]
  . obtain ⟨rfl, rfl⟩ := hI
    rw [List.length_map, List.take_length]; exact fin
theorem zfI : ∀ xs : List Str, zdV (xs.map D.str) = some (xs.map V.str)
  | [] => rfl
  | x :: r => by rw [List.map_cons, zdV, zfI r]; rfl
theorem ziy {x : Str} {xs : List Str} {μ : Mu} {Q : DK} {neg : Bool} {e : D} (h : zbU μ e = some (xs.map D.str)) : zdz neg (.str x) e μ Q = Q (.bl (neg ^^ decide (x ∈ xs))) μ := by
  have h2 : zij (.str x) = some (.str x) := rfl
  unfold zdz
  simp only [h, h2, zfI, zjY]
  cases neg <;> simp
theorem zcT {x : Str} {xs : List Str} {μ : Mu} {Q : DK} {neg : Bool} {k : Nat} (h : μ k = some (.lst (xs.map D.str))) : zdz neg (.str x) (.cell k) μ Q = Q (.bl (neg ^^ decide (x ∈ xs))) μ := ziy (zlm h)
theorem zfy {x : Str} {xs : List Str} {μ : Mu} {Q : DK} {neg : Bool} : zdz neg (.str x) (.lst (xs.map D.str)) μ Q = Q (.bl (neg ^^ decide (x ∈ xs))) μ := ziy rfl
theorem znP {x : Str} {xs : List Str} {μ : Mu} {Q : DK} {neg : Bool} : zdz neg (.str x) (.tup (xs.map D.str)) μ Q = Q (.bl (neg ^^ decide (x ∈ xs))) μ := ziy rfl
end L2

namespace L2
open PySem PySem.Spec PyProof.Rows
def zuV : R2 := fun x y H Q => ∃ i j, x = .str i /\ y = .str j /\ Q (.bl (!(Builtin.Str.occurrences j i 0 j.length 1).isEmpty)) H
theorem zqK {X : Cx} : OpR X (compareOp .In) zuV := znI
def zkm (signs x : Str) : Bool := !(Builtin.Str.occurrences signs x 0 signs.length 1).isEmpty
def zrb : DR2 := fun d e μ Q => match d, e with
  | .str i, .str j => Q (.bl (zkm j i)) μ
  | _, _ => False
instance {K : PySem.W.Frag} : zbq K zuV zrb := ⟨fun {W μ H d e x y Q Q'} r q1 q2 h k => by
  unfold zrb at h
  split at h
  . rw [q1.s', q2.s']; exact ⟨_, _, rfl, rfl, k _ _ _ _ _ (.refl _) r .b h⟩
  . exact h.elim⟩
theorem zvE {i j : Str} {μ : Mu} {Q : DK} : zrb (.str i) (.str j) μ Q = Q (.bl (zkm j i)) μ := rfl
def zr5 (P : Program) (w : World) (K : PySem.W.Frag) : List V -> Hp -> VK -> Prop := fun xs H Q => ∃ p ys, xs = [.ref p] /\ SqT K H p (ys.map V.str) /\ ys.length <= 100 /\ ∀ a, H a = none -> Q (.ref a) (upd H a (zmQ P w a ys))
def zmy (P : Program) (w : World) : List V -> Hp -> VK -> Prop := fun xs H Q => ∃ a ys, xs = [.ref a] /\ H a = some (zmQ P w a ys) /\ Q (.int (zhZ ys : Nat)) H
theorem znM {X : Cx} {P : Program} {w : World} (K : PySem.W.Frag) (h : X.K = K := by rfl) (hP : X.prog = P := by rfl) (hw : X.w = w := by rfl) (hc : X.calm = true := by rfl) : zZ X (.type "set") (zr5 P w K) := by subst hP hw; exact zm0 K hc h
theorem ziO {X : Cx} {P : Program} {w : World} (hP : X.prog = P := by rfl) (hw : X.w = w := by rfl) : zZ X (.builtin "len") (zmy P w) := by subst hP hw; exact zne
def zjw (w : DE) : DE := fun ρ μ Q => w ρ μ fun d μ1 => match d with
  | .tup ds => ∃ ys, ds = ys.map D.str /\ ys.length <= 100 /\ Q (.int (zhZ ys : Nat)) μ1
  | _ => False
instance {P : Program} {w : World} {K : PySem.W.Frag} {te : TE} {we : DE} [a : zab K te we] : zab K (tCB (zmy P w) (ze6 (tCB (zr5 P w K) (ze6 te zfr)) zfr)) (zjw we) := ⟨fun {W ρ μ σ H Q Q'} r e h k => a.run r e h fun W1 d μ1 x H1 le1 r1 q1 h1 => by
  cases d <;> first | exact h1.elim | skip
  obtain ⟨ys, rfl, hl, h1⟩ := h1
  obtain ⟨p, xs, rfl, s1, z1⟩ := q1.tup'
  rw [z1.strs] at s1
  refine ⟨p, ys, rfl, s1.sm r1.sub, hl, fun b hb => ⟨b, ys, rfl, zF, ?_⟩⟩
  exact k W1 _ μ1 _ _ le1 (r1.same (zfc hb)) .i h1⟩
structure zvH (K : PySem.W.Frag) (C : Addr) : Prop where
  cl : Cls K C
  ha : PySem.W.findIn K (.ref C) "__class__" = some (some (.builtin "object.__class__"))
  hn : PySem.W.specialIn K (.builtin "object.__class__") "__get__" = some (some (.builtin "getset_descriptor.__get__"))
  htk : PySem.W.takesIn K (.builtin "object.__class__") = some true
  hm : PySem.W.mroIn K C (.type "object") = some true
  self : PySem.W.kitOne K (.ref C) (.ref C) = some true
  str : PySem.W.kitOne K (.type "str") (.ref C) = some false
  int : PySem.W.kitOne K (.type "int") (.ref C) = some false
class IsI (K : PySem.W.Frag) (c : Str) : Prop where
  ex : ∃ C, clsOf K c = some C /\ zvH K C
def zmZ (c : Str) : DRs := fun ds μ Q => match ds with
  | [.str _, .cls c'] => c' = c /\ Q (.bl false) μ
  | [.int _, .cls c'] => c' = c /\ Q (.bl false) μ
  | [d, .cls c'] => c' = c /\ zfw μ d fun c2 _ _ => c2 = c /\ Q (.bl true) μ
  | _ => False
instance {K : PySem.W.Frag} {c : Str} [i : IsI K c] : zcz K (zqu K) (zmZ c) := ⟨fun {W μ H ds xs Q Q'} r z h k => by
  obtain ⟨C, hC, ci⟩ := i.ex
  have cls : ∀ {y : V}, Rep K W (.cls c) y -> y = .ref C := fun {y} q => by
    unfold Rep at q
    obtain ⟨C', e, rfl⟩ := q
    rw [hC] at e; cases e; rfl
  unfold zmZ at h
  split at h
  . obtain ⟨x, y, rfl, q1, q2⟩ := z.two
    obtain ⟨rfl, h⟩ := h
    rw [q1.s', cls q2]
    exact ⟨_, _, _, false, rfl, .str _, fun u hu => by cases hu; exact ci.str, k _ _ _ _ _ (.refl _) r .b h⟩
  . obtain ⟨x, y, rfl, q1, q2⟩ := z.two
    obtain ⟨rfl, h⟩ := h
    rw [q1.i', cls q2]
    exact ⟨_, _, _, false, rfl, .int _, fun u hu => by cases hu; exact ci.int, k _ _ _ _ _ (.refl _) r .b h⟩
  . obtain ⟨x, y, rfl, q1, q2⟩ := z.two
    obtain ⟨rfl, h⟩ := h
    obtain ⟨c2, C2, a, dx, ns, vs, xs, hc2, rfl, ea, l, z1, e5, h5⟩ := zdr r q1 h
    subst e5
    rw [hC] at hc2; cases hc2
    rw [cls q2]
    exact ⟨_, _, _, true, rfl, .ins ea ci.cl ci.ha ci.hn ci.htk ci.hm, fun u hu => by cases hu; exact ci.self, k _ _ _ _ _ (.refl _) r .b h5⟩
  . exact h.elim⟩
section
variable {μ : Mu} {Q : DK} {c : Str}
theorem zif {x : Str} : zmZ c [.str x, .cls c] μ Q = Q (.bl false) μ := by show (c = c /\ _) = _; simp
end
structure zk8 (P : Program) (w : World) (K : PySem.W.Frag) (mg : Str -> Option Value) (base : Heap) (CX : CXT) (c : Str) (k : Nat) (ps : List Str) (sp : Sp) : Prop where
  ex : ∃ C, clsOf K c = some C /\ zrQ P w K mg base CX C k ps sp /\ PySem.W.notFirst K C (.type "str") = true /\ PySem.W.notFirst K C (.type "int") = true
def zvp (K : PySem.W.Frag) (c : Str) (sp : Sp) (E : XK) : R2 := fun x y H Q => ∃ C a dx fs, clsOf K c = some C /\ x = .ref a /\ H a = some (.ins C dx fs) /\ ((∃ b dx fs, y = .ref b /\ H b = some (.ins C dx fs)) \/ (∃ z, y = .str z) \/ (∃ z, y = .int z)) /\ sp [x, y] H Q E
theorem zcr {X : Cx} {CX : CXT} (K : PySem.W.Frag) {c : Str} {j k : Nat} {ps : List Str} {sp : Sp} {E : XK} (h : zk8 X.prog X.w X.K X.mg X.base CX c j ps sp) (hr : zaM k X.A) (hK : X.K = K := by rfl) (hj : j <= k := by decide) (hx : zb8 CX X E := by exact zfJ) : OpR X (compareOp .Eq) (zvp K c sp E) := by
  subst hK
  obtain ⟨C, hC, hE, n1, n2⟩ := h.ex
  intro pins s σ H x y v u Q I rx ry q
  obtain ⟨C', a, dx, fs, hC', rfl, ea, ho, q⟩ := q
  rw [hC] at hC'; cases hC'
  exact zt1 hE hr hj hx pins s σ H _ y v u Q I rx ry ⟨a, dx, fs, rfl, ea, ho.imp id (Or.imp (fun z => ⟨z, n1⟩) fun z => ⟨z, n2⟩), q⟩
def zd8 (c : Str) (dsp : DSp) : DR2 := fun d e μ Q => (zfw μ d fun c' _ _ => c' = c) /\ (match e with
  | .str _ => True
  | .int _ => True
  | e => zfw μ e fun c' _ _ => c' = c) /\ dsp [d, e] μ Q
instance {K : PySem.W.Frag} {c : Str} {dsp : DSp} {E : XK} : zbq K (zvp K c (lift K dsp) E) (zd8 c dsp) := ⟨fun {W μ H d e x y Q Q'} r q1 q2 h k => by
  obtain ⟨h1, h2, h3⟩ := h
  obtain ⟨c2, C, a, dx, ns, vs, xs, hC, rfl, ea, l, z, rfl⟩ := zdr r q1 h1
  refine ⟨C, a, dx, _, hC, rfl, ea, ?_, W, μ, [d, e], Q, r, .cons q1 (.cons q2 .nil), h3, fun W2 d2 μ2 x2 H2 le2 => k W2 d2 μ2 x2 H2 le2⟩
  split at h2
  . exact .inr (.inl ⟨_, q2.s'⟩)
  . exact .inr (.inr ⟨_, q2.i'⟩)
  . obtain ⟨c3, C3, a3, dx3, ns3, vs3, xs3, hC3, rfl, ea3, l3, z3, rfl⟩ := zdr r q2 h2
    rw [hC] at hC3; cases hC3
    exact .inl ⟨a3, dx3, _, rfl, ea3⟩⟩
end L2

namespace L2
open PySem PySem.Spec PyProof.Rows
def SI : Nat -> D -> Prop
  | _, .int _ => True
  | _, .str x => PyData.strOk x = true
  | n + 1, .tup ds => ∀ d ∈ ds, SI n d
  | n + 1, .lst ds => ∀ d ∈ ds, SI n d
  | _, _ => False
theorem SI.pl : ∀ {n : Nat} {d : D}, SI n d -> Pl n d := by
  intro n
  induction n with
  | zero => intro d h; cases d <;> first | exact h.elim | exact h
  | succ n ih => intro d h; cases d <;> first | exact h.elim | exact h | exact fun x hx => ih (h x hx)
theorem SI.eqvs {n : Nat} (ih : ∀ d e p q, SI n d -> SI n e -> toPy d = some p -> toPy e = some q -> (PyData.eqv p q = true ↔ d = e)) : ∀ (ds es : List D) (ps qs : List PyData), (∀ d ∈ ds, SI n d) -> (∀ d ∈ es, SI n d) -> zaP ds = some ps -> zaP es = some qs -> (PyData.eqvAll ps qs = true ↔ ds = es)
  | [], [], ps, qs, _, _, h1, h2 => by
    unfold zaP at h1 h2; cases h1; cases h2; simp [PyData.eqvAll]
  | [], e :: es, ps, qs, _, _, h1, h2 => by
    unfold zaP at h1 h2
    split at h2
    . cases h1; cases h2; simp [PyData.eqvAll]
    . cases h2
  | d :: ds, [], ps, qs, _, _, h1, h2 => by
    unfold zaP at h1 h2
    split at h1
    . cases h1; cases h2; simp [PyData.eqvAll]
    . cases h1
  | d :: ds, e :: es, ps, qs, s1, s2, h1, h2 => by
    unfold zaP at h1 h2
    split at h1
    . rename_i p ps' e1 e2
      split at h2
      . rename_i q qs' e3 e4
        cases h1; cases h2
        have a := ih d e p q (s1 d List.mem_cons_self) (s2 e List.mem_cons_self) e1 e3
        have b := SI.eqvs ih ds es ps' qs' (fun x hx => s1 x (List.mem_cons_of_mem _ hx)) (fun x hx => s2 x (List.mem_cons_of_mem _ hx)) e2 e4
        unfold PyData.eqvAll
        rw [Bool.and_eq_true, a, b, List.cons.injEq]
      . cases h2
    . cases h1
theorem SI.eqv : ∀ (n : Nat) (d e : D) (p q : PyData), SI n d -> SI n e -> toPy d = some p -> toPy e = some q -> (PyData.eqv p q = true ↔ d = e) := by
  intro n
  induction n with
  | zero =>
    intro d e p q h1 h2 t1 t2
    cases d <;> first | exact h1.elim | skip
    all_goals cases e <;> first | exact h2.elim | skip
    all_goals (unfold toPy at t1 t2; cases t1; cases t2; simp [PyData.eqv])
  | succ n ih =>
    intro d e p q h1 h2 t1 t2
    cases d <;> first | exact h1.elim | skip
    all_goals cases e <;> first | exact h2.elim | skip
    all_goals unfold toPy at t1 t2
    all_goals first
      | (cases t1; cases t2; simp [PyData.eqv]; done)
      | (cases t1
         obtain ⟨qs, e2, rfl⟩ := Option.map_eq_some_iff.mp t2
         simp [PyData.eqv]; done)
      | (cases t2
         obtain ⟨ps, e1, rfl⟩ := Option.map_eq_some_iff.mp t1
         simp [PyData.eqv]; done)
      | (obtain ⟨ps, e1, rfl⟩ := Option.map_eq_some_iff.mp t1
         obtain ⟨qs, e2, rfl⟩ := Option.map_eq_some_iff.mp t2
         first
           | (simp [PyData.eqv]; done)
           | (unfold PyData.eqv
              rw [SI.eqvs ih _ _ ps qs h1 h2 e1 e2]
              simp))
theorem zrG {neg : Bool} {d e : D} {μ : Mu} {Q : DK} {n : Nat} (h1 : SI n d) (h2 : SI n e) (hn : n <= 60) (q : ∀ b : Bool, (b = true ↔ d = e) -> Q (.bl (neg ^^ b)) μ) : ziw neg d e μ Q := by
  obtain ⟨p, t1, c1, b1⟩ := Pl.py n d h1.pl
  obtain ⟨p', t2, c2, b2⟩ := Pl.py n e h2.pl
  unfold ziw
  split
  . exact q _ (by simp)
  . exact q _ (by simp)
  . exact q _ (by simp)
  . rw [zka t1, zka t2]
    exact ⟨⟨c1, by omega⟩, ⟨c2, by omega⟩, q _ (SI.eqv n d e p p' h1 h2 t1 t2)⟩
theorem ztN {d e : D} {μ : Mu} {Q : DK} {n : Nat} (h1 : SI n d) (h2 : SI n e) (hn : n <= 60) (q : ∀ b : Bool, (b = true ↔ d = e) -> Q (.bl b) μ) : dEq d e μ Q := zrG h1 h2 hn fun b hb => by rw [Bool.false_xor]; exact q b hb
theorem zku {d : D} {μ : Mu} {Q : DK} {n : Nat} (h1 : SI n d) (hn : n <= 60) (q : Q (.bl true) μ) : dEq d d μ Q := ztN h1 h1 hn fun b hb => by rw [hb.mpr rfl]; exact q
def zvI (c : Str) (dsp : DSp) (n j : Nat) (pat : List Src) (cs ds es : List D) (μ : Mu) (Q : DK) : Prop := ∀ k, μ k = none -> dsp (sel n j pat .non cs (.cell k :: ds) es) (zQ μ k (.ins c [] [])) fun d μ3 => d = .non /\ zsr μ3 (.cell k) Q
theorem zqp {c : Str} {dsp : DSp} {n j : Nat} {pat : List Src} {cs : List D} {w wk : DA} {ρ : zav} {μ : Mu} {Q : DK} : ztZ c dsp n j pat cs w wk ρ μ Q = w ρ μ fun ds μ1 => wk ρ μ1 fun es μ2 => zvI c dsp n j pat cs ds es μ2 Q := rfl
theorem zqq {a b c d e f : D} {μ : Mu} {Q : DK} : zcd (.tup [a, b, c, d, e, f]) none (some 2) μ Q = Q (.tup [a, b]) μ := by
  rw [zdQ]
  simp only [show cutD [a, b, c, d, e, f] none (some 2) = [a, b] from ze3 _ 2, eq_iff_iff, and_iff_right_iff_imp]
  intro _ ⟨_, h⟩
  have h3 : HT.sIx 6 6 (some 2) = 2 := HT.zbp 6 6 2
  have h2 : HT.sIx 6 6 (some 2) = 6 := h
  rw [h3] at h2; omega
theorem zrr {a b c d e f : D} {μ : Mu} {Q : DK} : zcd (.tup [a, b, c, d, e, f]) none (some 3) μ Q = Q (.tup [a, b, c]) μ := by
  rw [zdQ]
  simp only [show cutD [a, b, c, d, e, f] none (some 3) = [a, b, c] from ze3 _ 3, eq_iff_iff, and_iff_right_iff_imp]
  intro _ ⟨_, h⟩
  have h3 : HT.sIx 6 6 (some 3) = 3 := HT.zbp 6 6 3
  have h2 : HT.sIx 6 6 (some 3) = 6 := h
  rw [h3] at h2; omega
theorem zqN {a b c d e f : D} {μ : Mu} {Q : DK} : zcd (.tup [a, b, c, d, e, f]) none (some 4) μ Q = Q (.tup [a, b, c, d]) μ := by
  rw [zdQ]
  simp only [show cutD [a, b, c, d, e, f] none (some 4) = [a, b, c, d] from ze3 _ 4, eq_iff_iff, and_iff_right_iff_imp]
  intro _ ⟨_, h⟩
  have h3 : HT.sIx 6 6 (some 4) = 4 := HT.zbp 6 6 4
  have h2 : HT.sIx 6 6 (some 4) = 6 := h
  rw [h3] at h2; omega
theorem zrO {a b c d e f : D} {μ : Mu} {Q : DK} : zcd (.tup [a, b, c, d, e, f]) none (some 5) μ Q = Q (.tup [a, b, c, d, e]) μ := by
  rw [zdQ]
  simp only [show cutD [a, b, c, d, e, f] none (some 5) = [a, b, c, d, e] from ze3 _ 5, eq_iff_iff, and_iff_right_iff_imp]
  intro _ ⟨_, h⟩
  have h3 : HT.sIx 6 6 (some 5) = 5 := HT.zbp 6 6 5
  have h2 : HT.sIx 6 6 (some 5) = 6 := h
  rw [h3] at h2; omega
theorem znF {a b c d e f : D} {μ : Mu} {Q : DK} : zcd (.tup [a, b, c, d, e, f]) (some 1) none μ Q = Q (.tup [b, c, d, e, f]) μ := by
  rw [zdQ]
  simp only [show cutD [a, b, c, d, e, f] (some 1) none = [b, c, d, e, f] from zeU _ 1, eq_iff_iff, and_iff_right_iff_imp]
  intro _ ⟨h, _⟩
  have h3 : HT.sIx 6 0 (some 1) = 1 := HT.zbp 6 0 1
  have h2 : HT.sIx 6 0 (some 1) = 0 := h
  rw [h3] at h2; omega
theorem zny {a b c d e f : D} {μ : Mu} {Q : DK} : zcd (.tup [a, b, c, d, e, f]) (some 2) none μ Q = Q (.tup [c, d, e, f]) μ := by
  rw [zdQ]
  simp only [show cutD [a, b, c, d, e, f] (some 2) none = [c, d, e, f] from zeU _ 2, eq_iff_iff, and_iff_right_iff_imp]
  intro _ ⟨h, _⟩
  have h3 : HT.sIx 6 0 (some 2) = 2 := HT.zbp 6 0 2
  have h2 : HT.sIx 6 0 (some 2) = 0 := h
  rw [h3] at h2; omega
theorem znu {a b c d e f : D} {μ : Mu} {Q : DK} : zcd (.tup [a, b, c, d, e, f]) (some 4) none μ Q = Q (.tup [e, f]) μ := by
  rw [zdQ]
  simp only [show cutD [a, b, c, d, e, f] (some 4) none = [e, f] from zeU _ 4, eq_iff_iff, and_iff_right_iff_imp]
  intro _ ⟨h, _⟩
  have h3 : HT.sIx 6 0 (some 4) = 4 := HT.zbp 6 0 4
  have h2 : HT.sIx 6 0 (some 4) = 0 := h
  rw [h3] at h2; omega
theorem zm6 {a b c d e f : D} {μ : Mu} {Q : DK} : zcd (.tup [a, b, c, d, e, f]) (some 5) none μ Q = Q (.tup [f]) μ := by
  rw [zdQ]
  simp only [show cutD [a, b, c, d, e, f] (some 5) none = [f] from zeU _ 5, eq_iff_iff, and_iff_right_iff_imp]
  intro _ ⟨h, _⟩
  have h3 : HT.sIx 6 0 (some 5) = 5 := HT.zbp 6 0 5
  have h2 : HT.sIx 6 0 (some 5) = 0 := h
  rw [h3] at h2; omega
theorem zr9 {α : Type} {a b c d e f : α} {r : List α} : atI (a :: b :: c :: d :: e :: f :: r) 5 = some f := zcR (j := 5) rfl
end L2

namespace L2
open PySem PySem.Spec PyProof.Rows
def Ev (w : DE) (ρ : zav) (μ : Mu) (d : D) : Prop := ∀ Q : DK, Q d μ -> w ρ μ Q
def Evs (w : DA) (ρ : zav) (μ : Mu) (ds : List D) : Prop := ∀ Q : List D -> Mu -> Prop, Q ds μ -> w ρ μ Q
def EvO (q : DR2) (d e : D) (μ : Mu) (v : D) : Prop := ∀ Q : DK, Q v μ -> q d e μ Q
def EvB (q : DRs) (ds : List D) (μ : Mu) (v : D) : Prop := ∀ Q : DK, Q v μ -> q ds μ Q
section
variable {w wa wb : DE} {wr : DA} {ρ : zav} {μ : Mu} {d e v : D} {ds es : List D} {i : Nat} {q : DR2} {D' : zcH}
theorem zts (h : ρ[i]? = some (some d)) : Ev (zc i) ρ μ d := fun Q z => by unfold zc; rw [h]; exact z
theorem zvN : Ev (dC d) ρ μ d := fun Q z => z
theorem zu8 (h1 : Ev wa ρ μ d) (h2 : Ev wb ρ μ e) (h3 : EvO q d e μ v) : Ev (dOp q wa wb) ρ μ v := fun Q z => h1 _ (h2 _ (h3 _ z))
theorem zql : Evs zr ρ μ [] := fun Q z => z
theorem zpw (h1 : Ev wa ρ μ d) (h2 : Evs wr ρ μ ds) : Evs (zb wa wr) ρ μ (d :: ds) := fun Q z => h1 _ (h2 _ z)
theorem zsx (h : Evs wr ρ μ ds) (hl : ds.length <= 1000) : Ev (dTup wr) ρ μ (.tup ds) := fun Q z => h _ ⟨Nat.le_trans hl (by decide), z⟩
theorem zsE (h : Evs wr ρ μ ds) (hl : ds.length <= 1000) : Ev (zjt wr) ρ μ (.lst ds) := fun Q z => h _ ⟨Nat.le_trans hl (by decide), z⟩
theorem zvj {q : DRs} (h : Evs wr ρ μ ds) (h3 : EvB q ds μ v) : Ev (dCB q wr) ρ μ v := fun Q z => h _ (h3 _ z)
theorem zfu {j : Int} (h : atI ds j = some v) : EvO dIx (.tup ds) (.int j) μ v := fun Q z => by rw [zr6, h]; exact z
theorem zo3 {j : Int} (h : atI ds j = some v) : EvO dIx (.lst ds) (.int j) μ v := fun Q z => by rw [zsa, h]; exact z
theorem zrK (h1 : ds ≠ []) (hl : ds.length + es.length <= 1000) : EvO zcG (.tup ds) (.tup es) μ (.tup (ds ++ es)) := fun Q z => by
  rw [zpy]; exact ⟨h1, Nat.le_trans hl (by decide), z⟩
theorem zt2 {a b : Int} : EvO zcG (.int a) (.int b) μ (.int (a + b)) := fun Q z => by rw [zr8]; exact z
theorem zuj {a b : Int} : EvO dEq (.int a) (.int b) μ (.bl (decide (a = b))) := fun Q z => by rw [zmj]; exact z
theorem znA : EvB zbn [.lst ds] μ (.tup ds) := fun Q z => by rw [zjO]; exact z
theorem ze4 {n : Nat} {m : Int} (h : Ev w ρ μ (.tup ds)) (hm : m = n) (hl : n < ds.length) : Ev (dSl zcd w zao (zbI (dC (.int m)))) ρ μ (.tup (ds.take n)) := fun Q z => h _ (by
  subst hm
  show zcd (.tup ds) none (some (n : Int)) μ Q
  rw [zdQ, ze3]
  refine ⟨fun ⟨_, h2⟩ => ?_, z⟩
  rw [HT.zbp] at h2
  omega)
theorem zds {n : Nat} {m : Int} (h : Ev w ρ μ (.tup ds)) (hm : m = n) (h0 : 0 < n) (hl : n < ds.length) : Ev (dSl zcd w (zbI (dC (.int m))) zao) ρ μ (.tup (ds.drop n)) := fun Q z => h _ (by
  subst hm
  show zcd (.tup ds) (some (n : Int)) none μ Q
  rw [zdQ, zeU]
  refine ⟨fun ⟨h2, _⟩ => ?_, z⟩
  rw [HT.zbp] at h2
  omega)
theorem zsP (h : Ev w ρ μ (.tup ds)) (hl : 1 < ds.length) : Ev (dSl zcd w zao (zbI (dC (.int 1)))) ρ μ (.tup (ds.take 1)) := ze4 h rfl hl
theorem zuf (h : Ev w ρ μ (.tup ds)) (hl : 2 < ds.length) : Ev (dSl zcd w zao (zbI (dC (.int 2)))) ρ μ (.tup (ds.take 2)) := ze4 h rfl hl
theorem ztJ (h : Ev w ρ μ (.tup ds)) (hl : 3 < ds.length) : Ev (dSl zcd w zao (zbI (dC (.int 3)))) ρ μ (.tup (ds.take 3)) := ze4 h rfl hl
theorem zue (h : Ev w ρ μ (.tup ds)) (hl : 4 < ds.length) : Ev (dSl zcd w zao (zbI (dC (.int 4)))) ρ μ (.tup (ds.take 4)) := ze4 h rfl hl
theorem zsw (h : Ev w ρ μ (.tup ds)) (hl : 5 < ds.length) : Ev (dSl zcd w zao (zbI (dC (.int 5)))) ρ μ (.tup (ds.take 5)) := ze4 h rfl hl
theorem zpe (h : Ev w ρ μ (.tup ds)) (hl : 1 < ds.length) : Ev (dSl zcd w (zbI (dC (.int 1))) zao) ρ μ (.tup (ds.drop 1)) := zds h rfl (by decide) hl
theorem zpu (h : Ev w ρ μ (.tup ds)) (hl : 2 < ds.length) : Ev (dSl zcd w (zbI (dC (.int 2))) zao) ρ μ (.tup (ds.drop 2)) := zds h rfl (by decide) hl
theorem zoi (h : Ev w ρ μ (.tup ds)) (hl : 3 < ds.length) : Ev (dSl zcd w (zbI (dC (.int 3))) zao) ρ μ (.tup (ds.drop 3)) := zds h rfl (by decide) hl
theorem zpT (h : Ev w ρ μ (.tup ds)) (hl : 4 < ds.length) : Ev (dSl zcd w (zbI (dC (.int 4))) zao) ρ μ (.tup (ds.drop 4)) := zds h rfl (by decide) hl
theorem zpZ (h : Ev w ρ μ (.tup ds)) (hl : 5 < ds.length) : Ev (dSl zcd w (zbI (dC (.int 5))) zao) ρ μ (.tup (ds.drop 5)) := zds h rfl (by decide) hl
end
end L2

namespace L2
open PySem PySem.Spec PyProof.Rows
def zle : Value -> Option Str
  | .str x _ => some x
  | _ => none
theorem zlf {u : Value} {x : Str} (h : zle u = some x) : RelV (.str x) u := by
  cases u <;> simp [zle] at h
  subst h; exact ⟨_, rfl⟩
end L2

namespace L2
open PySem PySem.Spec PyProof.Rows
instance decKey (k : Key) (ks : List Key) : Decidable (k ∈ ks) := @List.instDecidableMemOfLawfulBEq Key instBEqOfDecidableEq inferInstance k ks
def zhy : D -> Option Key
  | .int i => some (.inl i)
  | .str x => some (.inr x)
  | _ => none
def zcf : List Key -> List D -> Key -> Option D
  | k :: ks, v :: vs, q => if k = q then some v else zcf ks vs q
  | _, _, _ => none
def zgM (ks : List Key) (k : Key) : List Key := if k ∈ ks then ks else ks ++ [k]
def zh3 (ks : List Key) (vs : List D) (k : Key) (v : D) : List D := if k ∈ ks then List.zipWith (fun k' v' => if k' = k then v else v') ks vs else vs ++ [v]
def zjy (c : Option Ct) (R : List Key -> List D -> Prop) : Prop := match c with
  | some (.dct ks vs) => R ks vs
  | _ => False
def zjh (μ : Mu) (d : D) (R : List Key -> List D -> Prop) : Prop := match d with
  | .cell k => zjy (μ k) R
  | .dct ks vs => R ks vs
  | _ => False
def zl1 (c : Option Ct) (R : List Key -> List D -> Prop) : Prop := match c with
  | some (.dct ks vs) => R ks vs
  | some (.fdct _ ks vs) => R ks vs
  | _ => False
def zg6 (μ : Mu) (d : D) (R : List Key -> List D -> Prop) : Prop := match d with
  | .cell k => zl1 (μ k) R
  | .dct ks vs => R ks vs
  | _ => False
theorem zeW {ks : List Key} {vs : List D} {R : List Key -> List D -> Prop} : zl1 (some (.dct ks vs)) R = R ks vs := rfl
theorem zgQ {μ : Mu} {k : Nat} {R : List Key -> List D -> Prop} : zg6 μ (.cell k) R = zl1 (μ k) R := rfl
theorem zgh.kr {H : Hp} {a : Addr} {kvs : List (Key × V)} {k : Key} (e : Rd H a (.dK kvs)) : zgh H a (kV k) (zdJ kvs k) := .inl ⟨kvs, k, e, rfl, rfl⟩
theorem zc5 {ks : List Key} {vs : List D} {R : List Key -> List D -> Prop} : zjy (some (.dct ks vs)) R = R ks vs := rfl
theorem zft {μ : Mu} {k : Nat} {R : List Key -> List D -> Prop} : zjh μ (.cell k) R = zjy (μ k) R := rfl
theorem zdR {x : Str} : zhy (.str x) = some (.inr x) := rfl
def zjQ : DE := fun _ μ Q => ∀ k, μ k = none -> Q (.cell k) (zQ μ k (.dct [] []))
def zmq (wo wi : DE) : DE := fun ρ μ Q => wo ρ μ fun d μ1 => wi ρ μ1 fun e μ2 => zg6 μ2 d fun ks vs => zbd (zhy e) fun k => zbd (zcf ks vs k) fun v => Q v μ2
def zk5 (wo wi wv : DE) : DS := fun D' ρ μ => wv ρ μ fun v μ1 => wo ρ μ1 fun d μ2 => wi ρ μ2 fun e μ3 => zbd (match d with | .cell c => some c | _ => none) fun c => zjy (μ3 c) fun ks vs => zbd (zhy e) fun k => ks.length <= 1000 /\ D'.nx ρ (zQ μ3 c (.dct (zgM ks k) (zh3 ks vs k v)))
def zhb : DRs := fun ds μ Q => match ds with
  | [d] => zjh μ d fun ks _ => Q (.int ks.length) μ
  | _ => False
def zgy : DRs := fun ds μ Q => match ds with
  | [d] => zjh μ d fun ks vs => ∀ k, μ k = none -> Q (.cell k) (zQ μ k (.dct ks vs))
  | _ => False
section
variable {K : PySem.W.Frag} {W : Wd}
theorem ze7 {k : Key} : ∀ {ks : List Key} {vs : List D} {xs : List V}, ks.length = xs.length -> zz K W vs xs -> (∀ v, zcf ks vs k = some v -> ∃ y, zdJ (ks.zip xs) k = some y /\ Rep K W v y) /\ (zcf ks vs k = none -> zdJ (ks.zip xs) k = none)
  | [], vs, xs, _, _ => ⟨fun v h => by cases vs <;> simp [zcf] at h, fun _ => rfl⟩
  | q :: ks, [], xs, h, r => by rw [r.nil'] at h; simp at h
  | q :: ks, d :: vs, xs, h, r => by
    obtain ⟨x, t, rfl, q1, q2⟩ := r.uncons
    have ih := ze7 (k := k) (ks := ks) (vs := vs) (xs := t) (by simpa using h) q2
    by_cases e : q = k
    . have hv : zdJ ((q :: ks).zip (x :: t)) k = some x := by rw [List.zip_cons_cons]; exact zfk (p := (q, x)) e
      rw [hv]
      exact ⟨fun v hl => by rw [zcf, if_pos e] at hl; cases hl; exact ⟨x, rfl, q1⟩, fun hl => by rw [zcf, if_pos e] at hl; cases hl⟩
    . have hv : zdJ ((q :: ks).zip (x :: t)) k = zdJ (ks.zip t) k := by rw [List.zip_cons_cons]; exact zeO (p := (q, x)) e
      rw [hv, zcf, if_neg e]
      exact ih
theorem zii {k : Key} : ∀ {ks : List Key} {vs : List D}, ks.length = vs.length -> (zcf ks vs k).isSome = decide (k ∈ ks)
  | [], vs, _ => by simp [zcf]
  | q :: ks, [], h => by simp at h
  | q :: ks, d :: vs, h => by
    have ih := zii (k := k) (ks := ks) (vs := vs) (by simpa using h)
    by_cases e : q = k
    . simp [zcf, e]
    . have e' : ¬ k = q := fun z => e z.symm
      simp [zcf, e, e', ih]
theorem zoH {k : Key} {ks : List Key} {vs : List D} {xs : List V} (h : ks.length = xs.length) (r : zz K W vs xs) : (zdJ (ks.zip xs) k).isSome = decide (k ∈ ks) := by
  have hl : ks.length = vs.length := by rw [h, r.length]
  rw [<- zii hl]
  obtain ⟨a, b⟩ := ze7 (k := k) h r
  cases e : zcf ks vs k with
  | none => rw [b e]; rfl
  | some v => obtain ⟨y, ey, _⟩ := a v e; rw [ey]; rfl
theorem zl9 {k : Key} : ∀ {ks : List Key} {xs : List V}, ks.length = xs.length -> ((ks.zip xs).any fun kv => decide (kv.1 = k)) = decide (k ∈ ks)
  | [], _, _ => by simp
  | q :: ks, [], h => by simp at h
  | q :: ks, x :: xs, h => by
    have ih := zl9 (k := k) (ks := ks) (xs := xs) (by simpa using h)
    rw [List.zip_cons_cons, List.any_cons, ih]
    by_cases e : q = k
    . simp [e]
    . have e' : ¬ k = q := fun z => e z.symm
      simp [e, e']
theorem zrE {k : Key} {y : V} {v : D} {ks : List Key} {vs : List D} {xs : List V} (h : ks.length = xs.length) (r : zz K W vs xs) (q : Rep K W v y) : ∃ xs', putK (ks.zip xs) k y = (zgM ks k).zip xs' /\ (zgM ks k).length = xs'.length /\ zz K W (zh3 ks vs k v) xs' := by
  unfold putK zgM zh3
  rw [zl9 h]
  by_cases m : k ∈ ks
  . rw [if_pos (decide_eq_true m), if_pos m, if_pos m]
    clear m
    induction ks generalizing vs xs with
    | nil => exact ⟨[], rfl, rfl, by simp [zz.nil]⟩
    | cons a ks ih =>
      cases xs with
      | nil => simp at h
      | cons x xs =>
        cases vs with
        | nil => rw [r.nil'] at h; simp at h
        | cons d vs =>
          obtain ⟨x', t, e, q1, q2⟩ := r.uncons
          cases e
          obtain ⟨xs', e1, e2, e3⟩ := ih (by simpa using h) q2
          refine ⟨(if a = k then y else x) :: xs', ?_, by simp [e2], ?_⟩
          . rw [List.zip_cons_cons, List.map_cons, e1]
            by_cases e : a = k
            . simp [e]
            . simp [e]
          . rw [List.zipWith_cons_cons]
            refine .cons ?_ e3
            by_cases e : a = k
            . simp only [if_pos e]; exact q
            . simp only [if_neg e]; exact q1
  . rw [if_neg (by simpa using m), if_neg m, if_neg m]
    refine ⟨xs ++ [y], ?_, by simp [h], r.append (.cons q .nil)⟩
    rw [List.zip_append h]; rfl
theorem zi9 {μ : Mu} {H : Hp} {d : D} {x : V} {R : List Key -> List D -> Prop} (r : Rel K W μ H) (q : Rep K W d x) (h : zjh μ d R) : ∃ a ks vs xs, x = .ref a /\ H a = some (.dK (ks.zip xs)) /\ ks.length = xs.length /\ zz K W vs xs /\ R ks vs := by
  unfold zjh at h
  split at h
  . rename_i k
    obtain ⟨a, rfl, hb⟩ := q.cell'
    unfold zjy at h
    split at h
    . rename_i ks vs hk
      obtain ⟨a', e1, e2, xs, e3, l, z⟩ := r.cel k _ hk
      rw [hb] at e1; cases e1
      exact ⟨a, ks, vs, xs, rfl, e3, l, z, h⟩
    . exact h.elim
  . unfold Rep at q
    obtain ⟨a, xs, rfl, e, l, z⟩ := q
    exact ⟨a, _, _, xs, rfl, r.sub _ _ e, l, z, h⟩
  . exact h.elim
theorem zd0 {μ : Mu} {H : Hp} {d : D} {x : V} {R : List Key -> List D -> Prop} (r : Rel K W μ H) (q : Rep K W d x) (h : zg6 μ d R) : ∃ a ks vs xs, x = .ref a /\ Rd H a (.dK (ks.zip xs)) /\ ks.length = xs.length /\ zz K W vs xs /\ R ks vs := by
  unfold zg6 at h
  split at h
  . rename_i k
    obtain ⟨a, rfl, hb⟩ := q.cell'
    unfold zl1 at h
    split at h
    . rename_i ks vs hk
      obtain ⟨a', e1, e2, xs, e3, l, z⟩ := r.cel k _ hk
      rw [hb] at e1; cases e1
      exact ⟨a, ks, vs, xs, rfl, .inl e3, l, z, h⟩
    . rename_i ob ks vs hk
      obtain ⟨a', e1, e2, xs, e3, l, z⟩ := r.cel k _ hk
      rw [hb] at e1; cases e1
      exact ⟨a, ks, vs, xs, rfl, .inr ⟨ob, e3⟩, l, z, h⟩
    . exact h.elim
  . unfold Rep at q
    obtain ⟨a, xs, rfl, e, l, z⟩ := q
    exact ⟨a, _, _, xs, rfl, .inl (r.sub _ _ e), l, z, h⟩
  . exact h.elim
theorem zeM {e : D} {y : V} {k : Key} (q : Rep K W e y) (h : zhy e = some k) : y = kV k := by
  unfold zhy at h
  split at h <;> cases h
  . rw [q.i']; rfl
  . rw [q.s']; rfl
theorem zbK {α : Type} {o : Option α} {R : α -> Prop} (h : zbd o R) : ∃ a, o = some a /\ R a := by
  cases o with
  | none => exact h.elim
  | some a => exact ⟨a, rfl, h⟩
instance : zab K zlD zjQ := ⟨fun {W ρ μ σ H Q Q'} r e h k p hp => by
  obtain ⟨c, W', hc, le, r', eb⟩ := r.newC (o := .dK []) (c := .dct [] []) hp ⟨[], rfl, rfl, .nil⟩
  exact k W' (.cell c) _ _ _ le r' (by unfold Rep; exact ⟨p, rfl, eb⟩) (h c hc)⟩
instance {ta tb : TE} {wa wb : DE} [a : zab K ta wa] [b : zab K tb wb] : zab K (zo2 ta tb) (zmq wa wb) := ⟨fun {W ρ μ σ H Q Q'} r e h k => a.run r e h fun W1 d μ1 x H1 le1 r1 q1 h1 => b.run r1 (e.mono le1) h1 fun W2 d2 μ2 y H2 le2 r2 q2 h2 => by
  obtain ⟨p, ks, vs, xs, rfl, ea, l, z, h3⟩ := zd0 r2 (q1.mono le2) h2
  obtain ⟨kk, ek, h3⟩ := zbK h3
  obtain ⟨v, ev, h3⟩ := zbK h3
  obtain ⟨y', ey, qy⟩ := (ze7 (k := kk) l z).1 v ev
  rw [zeM q2 ek]
  exact ⟨p, y', rfl, ey ▸ zgh.kr ea, k W2 v μ2 y' H2 (le1.trans le2) r2 qy h3⟩⟩
instance {ta tb tv : TE} {wa wb wv : DE} [a : zab K ta wa] [b : zab K tb wb] [c : zab K tv wv] : zdW K (zp0 ta tb tv) (zk5 wa wb wv) := ⟨fun {W ρ μ σ H D' D} r e h k => c.run r e h fun W1 v μ1 x H1 le1 r1 q1 h1 => a.run r1 (e.mono le1) h1 fun W2 d2 μ2 y H2 le2 r2 q2 h2 => b.run r2 (e.mono (le1.trans le2)) h2 fun W3 d3 μ3 z3 H3 le3 r3 q3 h3 => by
  have hz : (1001 : Nat) <= sizeLine := by decide
  obtain ⟨cc, ec, h4⟩ := zbK h3
  have ed : d2 = .cell cc := by
    cases d2 <;> simp at ec
    subst ec; rfl
  subst ed
  obtain ⟨p, rfl, hb⟩ := (q2.mono le3).cell'
  unfold zjy at h4
  split at h4
  . rename_i ks vs hk
    obtain ⟨a', e1, e2, xs, e3, l, z⟩ := r3.cel cc _ hk
    rw [hb] at e1; cases e1
    obtain ⟨kk, ek, hl, h5⟩ := zbK h4
    rw [zeM q3 ek]
    obtain ⟨xs', p1, p2, p3⟩ := zrE (k := kk) l z (q1.mono (le2.trans le3))
    refine ⟨p, _, rfl, zn4.k e3 (by rw [List.length_zip, <- l, Nat.min_self]; omega), ?_⟩
    rw [p1]
    exact k.nx W3 ρ _ σ _ (le1.trans (le2.trans le3)) (r3.setC (c' := .dct (zgM ks kk) (zh3 ks vs kk v)) hk hb ⟨xs', rfl, p2, p3⟩) (e.mono (le1.trans (le2.trans le3))) h5
  . exact h4.elim⟩
end
section
variable {X : Cx} {o i e value : Expr} {pos pos' apos cpos : Pos} {td ty tv : TE}
theorem zmz : WE X (.Dict [] [] pos) zlD := ⟨zpG⟩
theorem zjI (hu : X.A.units + 1 < cLine) (ho : WE X o td) (hi : WE X i ty) (hs : zun i := by exact fun _ _ => rfl) : WE X (.Subscript o i pos) (zo2 td ty) := ⟨zrD hu ho.out hi.out hs⟩
theorem zg0 (hu : X.A.units + 1 < cLine) (ho : WE X o td) (hi : WE X i ty) (hv : WE X value tv) (hs : swapsWith value (some (.Subscript o i pos')) pos.line X.env = pure false := by rfl) : WS X (.Assign [.Subscript o i pos'] value pos) (zp0 td ty tv) := ⟨zrC hu ho.out hi.out hv.out hs⟩
def zvu : R2 := fun y x H Q => ∃ a o, x = .ref a /\ zgh H a y o /\ Q (.bl o.isSome) H
def zl7 : R2 := fun y x H Q => ∃ a o, x = .ref a /\ zgh H a y o /\ Q (.bl (!o.isSome)) H
theorem zoe (hu : X.A.units + 1 < cLine) : OpR X (compareOp .In) zvu := by
  intro pins s σ H x y v u Q I rx ry h
  obtain ⟨a, o, rfl, g, q⟩ := h
  cases ry
  exact zvF hu I g rx fun s3 I3 => ⟨.bl o.isSome, H, I3, rfl, q⟩
theorem zh5 (hu : X.A.units + 1 < cLine) : OpR X (compareOp .NotIn) zl7 := by
  intro pins s σ H x y v u Q I rx ry h
  obtain ⟨a, o, rfl, g, q⟩ := h
  cases ry
  exact zqC hu I g rx fun s3 I3 => ⟨.bl (!o.isSome), H, I3, rfl, q⟩
def zr7 : List V -> Hp -> VK -> Prop := fun xs H Q => ∃ a kvs, xs = [V.ref a] /\ H a = some (.dK kvs) /\ Q (.int kvs.length) H
theorem zdu : zZ X (.builtin "len") zr7 := znE
def zoy : List V -> Hp -> VK -> Prop := fun xs H Q => ∃ a kvs, xs = [V.ref a] /\ H a = some (.dK kvs) /\ ∀ p, H p = none -> Q (.ref p) (upd H p (.dK kvs))
theorem zgU : zZ X (.type "dict") zoy := by
  intro pins s σ H xs us Q I r h
  obtain ⟨a, kvs, rfl, e, q⟩ := h
  obtain ⟨u, rfl, rx⟩ := vals1 r
  cases rx
  exact zoP I (.inl e) fun p s' hp I' => ⟨.ref p, _, I', rfl, q p hp⟩
end
def zhg (neg : Bool) : DR2 := fun e d μ Q => zg6 μ d fun ks vs => zbd (zhy e) fun k => Q (.bl (neg ^^ decide (k ∈ ks))) μ
theorem zoL {neg : Bool} {e d : D} {μ : Mu} {Q : DK} : zhg neg e d μ Q = zg6 μ d fun ks vs => zbd (zhy e) fun k => Q (.bl (neg ^^ decide (k ∈ ks))) μ := rfl
theorem ztp {wo wi : DE} {ρ : zav} {μ : Mu} {Q : DK} : zmq wo wi ρ μ Q = wo ρ μ fun d μ1 => wi ρ μ1 fun e μ2 => zg6 μ2 d fun ks vs => zbd (zhy e) fun k => zbd (zcf ks vs k) fun v => Q v μ2 := rfl
theorem zlr {d : D} {μ : Mu} {Q : DK} : zhb [d] μ Q = zjh μ d fun ks _ => Q (.int ks.length) μ := rfl
theorem zl6 {d : D} {μ : Mu} {Q : DK} : zgy [d] μ Q = zjh μ d fun ks vs => ∀ k, μ k = none -> Q (.cell k) (zQ μ k (.dct ks vs)) := rfl
section
variable {K : PySem.W.Frag}
instance : zbq K zvu (zhg false) := ⟨fun {W μ H d e x y Q Q'} r q1 q2 h k => by
  obtain ⟨p, ks, vs, xs, rfl, ea, l, z, h3⟩ := zd0 r q2 h
  obtain ⟨kk, ek, h3⟩ := zbK h3
  rw [zeM q1 ek]
  refine ⟨p, _, rfl, zgh.kr ea, ?_⟩
  rw [zoH l z]
  exact k W _ μ _ H (.refl _) r .b (by simpa using h3)⟩
instance : zbq K zl7 (zhg true) := ⟨fun {W μ H d e x y Q Q'} r q1 q2 h k => by
  obtain ⟨p, ks, vs, xs, rfl, ea, l, z, h3⟩ := zd0 r q2 h
  obtain ⟨kk, ek, h3⟩ := zbK h3
  rw [zeM q1 ek]
  refine ⟨p, _, rfl, zgh.kr ea, ?_⟩
  rw [zoH l z]
  exact k W _ μ _ H (.refl _) r .b (by simpa using h3)⟩
instance : zcz K zr7 zhb := ⟨fun {W μ H ds xs Q Q'} r z h k => by
  unfold zhb at h
  split at h
  . obtain ⟨y, rfl, qy⟩ := z.one
    obtain ⟨p, ks, vs, xs, rfl, ea, l, z, h3⟩ := zi9 r qy h
    refine ⟨p, _, rfl, ea, ?_⟩
    rw [List.length_zip, <- l, Nat.min_self]
    exact k W _ μ _ H (.refl _) r .i h3
  . exact h.elim⟩
instance : zcz K zoy zgy := ⟨fun {W μ H ds xs Q Q'} r z h k => by
  unfold zgy at h
  split at h
  . obtain ⟨y, rfl, qy⟩ := z.one
    obtain ⟨p, ks, vs, xs, rfl, ea, l, z, h3⟩ := zi9 r qy h
    refine ⟨p, _, rfl, ea, fun q hq => ?_⟩
    obtain ⟨c, W', hc, le, r', eb⟩ := r.newC (o := .dK (ks.zip xs)) (c := .dct ks vs) hq ⟨xs, rfl, l, z⟩
    exact k W' (.cell c) _ _ _ le r' (by unfold Rep; exact ⟨q, rfl, eb⟩) (h3 c hc)
  . exact h.elim⟩
end
end L2

namespace L2
open PySem PySem.Spec PyProof.Rows
section
variable {prog : Program} {w : World} {A : Around} {E : Value -> Shared -> Prop} {s : Shared}
theorem zf2 {v : Value} {ss : List Str} {Q : Value -> Shared -> Prop}
    (hc : ∀ R : List Value -> Shared -> Prop, (∀ (h' : Heap) (tk : Nat) (vs : List Value), (∀ b o, s.heap.get? b = some o -> h'.get? b = some o) -> StrsAre vs ss -> R vs { s with heap := h', toks := tk }) -> wpAny (model prog w) A.in1 (collect v) R E s) (h64 : ss.length < 64)
    (h : ∀ (h1 h2 : Heap) (tk : Nat) (out : Array Value) (ss' : List Str) (e : Nat), (∀ b o, s.heap.get? b = some o -> h1.get? b = some o) -> (∀ b o, h1.get? b = some o -> h2.get? b = some o) -> h2.get? h1.objs.size = some (seqObj "list" out e) -> StrsAre out.toList ss' -> ss'.Perm ss -> sortedS ss' = true -> Q (.ref h1.objs.size) { s with heap := h2, toks := tk }) :
    wpAny (model prog w) A (call (.builtin "sorted") [v]) Q E s := by
  refine Calls.call_function_entry kind_sorted plain_sorted entry_sorted (args_sorted1 _) ?_
  unfold Builtin.«sorted»
  refine wpAny_bind (m := checkCount "sorted" 1 1 _) (wpAny_pure ?_)
  refine wpAny_bind (hc _ fun h' tk vs hk hS => ?_)
  have hl : vs.length = ss.length := by
    clear h hc h64
    induction hS with
    | nil => rfl
    | cons _ _ _ ih => simp [ih]
  refine wpAny_bind (wpAny_newList ?_ (by rw [hl]; exact Nat.le_trans (Nat.le_of_lt h64) (by decide)))
  have hoL : (h'.push (seqObj "list" vs.toArray 0)).get? h'.objs.size = some (seqObj "list" vs.toArray 0) := Heap.get?_push_size _ rfl
  refine wpAny_bind (wpAny_holding (wpAny_call_entry slot_list_sort ⟨_, hoL, rfl⟩ entry_list_sort (list_sort_treeK strKind_oneLt hoL hS.keysOf (fun v₁ v₂ rest e => keyKind_strs (by rw [<- e]; exact hS)) (by rw [hl]; exact h64) fun st' a1 a2 => ⟨_, rfl, ?_⟩) (args_list_sort _)))
  obtain ⟨ss', h1, h2, h3⟩ := sorted_out_str hS a1 a2
  obtain ⟨e, he⟩ := sortedHeap_at (out := (arrOf st').map (·.2)) hoL
  refine wpAny_pure ⟨_, rfl, h h' _ tk _ ss' e hk (fun b o q' => ?_) he h1 h2 h3⟩
  have hlt := Heap.lt_size q'
  rw [sortedHeap_old (Nat.ne_of_lt hlt) (by rw [size_push']; exact Nat.lt_succ_of_lt hlt), Heap.get?_push_ne _ _ _ (Nat.ne_of_lt hlt)]
  exact q'
end
section
variable {X : Cx} (K : PySem.W.Frag)
def zpc : List V -> Hp -> VK -> Prop := fun xs H Q => ∃ p ns, xs = [.ref p] /\ SqT K H p (ns.map V.str) /\ ns.length < 64 /\ ∀ ns' l, List.Perm ns' ns -> sortedS ns' = true -> H l = none -> Q (.ref l) (upd H l (.lst (ns'.map V.str)))
def zpA : List V -> Hp -> VK -> Prop := fun xs H Q => ∃ p kvs ns, xs = [.ref p] /\ H p = some (.dK kvs) /\ kvs.map (·.1) = ns.map Sum.inr /\ ns.length < 64 /\ ∀ ns' l, List.Perm ns' ns -> sortedS ns' = true -> H l = none -> Q (.ref l) (upd H l (.lst (ns'.map V.str)))
theorem zmv {pins : List (Addr × Obj)} {σ : St} {H : Hp} {s : Shared} {h2 : Heap} {tk : Nat} {ns ss' : List Str} {out : Array Value} {e : Nat} {Q : VK} (I : Inv X pins σ H s) (hz : ns.length < 64) (hk : ∀ b o, s.heap.get? b = some o -> h2.get? b = some o) (he : h2.get? s.heap.objs.size = some (seqObj "list" out e)) (g1 : StrsAre out.toList ss') (g2 : ss'.Perm ns) (g3 : sortedS ss' = true) (q : H s.heap.objs.size = none -> Q (.ref s.heap.objs.size) (upd H s.heap.objs.size (.lst (ss'.map V.str)))) : EP X pins σ Q (.ref s.heap.objs.size) { s with heap := h2, toks := tk } := by
  have hf : H s.heap.objs.size = none := I.hok.fresh (Nat.le_refl _)
  refine ⟨.ref s.heap.objs.size, _, I.laid (a := s.heap.objs.size) (o := .lst (ss'.map V.str)) (t' := tk) hk (Nat.le_refl _) ?_, rfl, q hf⟩
  refine ⟨by rw [List.length_map, g2.length_eq]; exact Nat.le_trans (Nat.le_of_lt hz) (by decide), out.toList, e, zew g1, ?_⟩
  rw [he]
theorem zgk {P : Program} {w : World} : ∀ {kvs : List (Key × V)} {vs : List (Key × Value)} {ns : List Str} {acc : Array Value}, ItemsOf (fun i v => ∃ k x, vs[i]? = some (k, x) /\ (zbe P w).is k v = true) acc vs.length -> KV kvs vs -> kvs.map (·.1) = ns.map Sum.inr -> StrsAre acc.toList ns := by
  intro kvs vs ns acc hacc rel hn
  have hk : vs.map (·.1) = ns.map Sum.inr := by
    rw [<- hn]
    clear hn hacc
    induction rel with
    | nil => rfl
    | cons a _ ih => simp only [List.map_cons, ih, a.1]
  have hl : vs.length = ns.length := by
    have := congrArg List.length hk
    simpa using this
  have hat : ∀ (i : Nat) (v : Value), acc.toList[i]? = some v -> ∃ y t, ns[i]? = some y /\ v = .str y t := fun i v hv => by
    obtain ⟨k, x, hx, hi⟩ := hacc.2 i v (by rw [<- Array.getElem?_toList]; exact hv)
    have h1 : (vs.map (·.1))[i]? = some k := by rw [List.getElem?_map, hx]; rfl
    rw [hk, List.getElem?_map] at h1
    obtain ⟨y, hy, rfl⟩ := Option.map_eq_some_iff.mp h1
    have : zhc (.inr y) v = true := hi
    obtain ⟨t, rfl⟩ : ∃ t, v = .str y t := by
      rcases zaI this with ⟨i, t, e, _⟩ | ⟨x', t, e, rfl⟩
      . cases e
      . cases e; exact ⟨t, rfl⟩
    exact ⟨y, t, hy, rfl⟩
  have hsz : acc.toList.length = ns.length := by rw [Array.length_toList, hacc.1, hl]
  clear hacc rel hn hk hl
  generalize acc.toList = l at hat hsz
  induction l generalizing ns with
  | nil => cases ns with
    | nil => exact .nil
    | cons y r => simp at hsz
  | cons v l ih => cases ns with
    | nil => simp at hsz
    | cons y r =>
      obtain ⟨y', t, e1, rfl⟩ := hat 0 v rfl
      cases e1
      exact .cons y t (ih (fun i v hv => hat (i + 1) v (by simpa using hv)) (by simpa using hsz))
theorem zk7 (h : X.K = K := by rfl) : zZ X (.builtin "sorted") (zpc K) := by
  subst h
  intro pins s σ H xs us Q I r h
  obtain ⟨p, ns, rfl, hl, hz, q⟩ := h
  obtain ⟨u, rfl, rx⟩ := vals1 r
  cases rx
  obtain ⟨its, r', ⟨o, ho, hcl, n, hd⟩, hz'⟩ := I.tuple hl
  refine zf2 (ss := ns) (fun R hR => ?_) hz fun h1 h2 tk out ss' e k1 k2 he g1 g2 g3 => ?_
  . refine wpAny_collect_seq p (.inr rfl) ho hcl hd (fun h' hk => ?_) (by rw [List.size_toArray, <- r'.length, List.length_map]; exact Nat.le_trans (Nat.le_of_lt hz) (by decide))
    have := hR h' s.toks its hk (zeE r')
    simpa using this
  . exact zmv (I.kept (t' := tk) k1) hz k2 he g1 g2 g3 (q ss' h1.objs.size g2 g3)
theorem zk4 (hc : X.calm = true := by rfl) : zZ X (.builtin "sorted") zpA := by
  intro pins s σ H xs us Q I r h
  obtain ⟨p, kvs, ns, rfl, hp, hn, hz, q⟩ := h
  obtain ⟨u, rfl, rx⟩ := vals1 r
  cases rx
  obtain ⟨z, hd, vs, rel, dd⟩ := zfO I.hok (.inl hp)
  obtain ⟨ep, dd⟩ := dd.dictAt
  have hlen : vs.length = ns.length := by
    have e1 := Paired.length rel
    have e2 := congrArg List.length hn
    simp only [List.length_map] at e2
    omega
  refine zf2 (ss := ns) (fun R hR => ?_) hz fun h1 h2 tk out ss' e k1 k2 he g1 g2 g3 => ?_
  . refine PySem.W.kdu_collect (PySem.W.kdl_dict hd) (by first | exact I.ok.hd hc | exact (I.ok.hd hc)) dd (by rw [hlen]; exact Nat.le_trans (Nat.le_of_lt hz) (by decide)) fun h' tk acc hk hacc => ?_
    refine hR h' tk acc.toList hk ?_
    exact zgk hacc rel hn
  . exact zmv (I.kept (t' := tk) k1) hz k2 he g1 g2 g3 (q ss' h1.objs.size g2 g3)
def zo0 : List V -> Hp -> VK -> Prop := fun xs H Q => (ziu K xs H Q \/ zpc K xs H Q) \/ zpA xs H Q
theorem zdH (h : X.K = K := by rfl) (hc : X.calm = true := by rfl) : zZ X (.builtin "sorted") (zo0 K) := ((ziQ K h).or (zk7 K h)).or (zk4 hc)
end
def zex : DRs := fun ds μ Q => zgn ds μ Q \/ match ds with
  | [.tup es] => ∃ ns, es = ns.map D.str /\ ns.length < 64 /\ ∀ ns', List.Perm ns' ns -> sortedS ns' = true -> Q (.lst (ns'.map D.str)) μ
  | [d] => zjh μ d fun ks _ => ∃ ns, ks = ns.map Sum.inr /\ ns.length < 64 /\ ∀ ns', List.Perm ns' ns -> sortedS ns' = true -> Q (.lst (ns'.map D.str)) μ
  | _ => False
instance {K : PySem.W.Frag} : zcz K (zo0 K) zex := ⟨fun {W μ H ds xs Q Q'} r z h k => by
  have fin : ∀ ns' : List Str, Q (.lst (ns'.map D.str)) μ -> ∀ l, H l = none -> Q' (.ref l) (upd H l (.lst (ns'.map V.str))) := fun ns' hq l hl => by
    obtain ⟨r2, le⟩ := r.newF (o := .lst (ns'.map V.str)) hl
    exact k _ _ _ _ _ le r2 (.lst zF (zz.of_strs ns')) hq
  rcases h with h | h
  . exact .inl (.inl (zcz.run (K := K) (r := ziu K) (q := zgn) r z h k))
  . split at h
    . obtain ⟨ns, rfl, hz, h⟩ := h
      obtain ⟨y, rfl, qy⟩ := z.one
      obtain ⟨p, xs, rfl, s1, z1⟩ := qy.tup'
      rw [z1.strs] at s1
      exact .inl (.inr ⟨p, ns, rfl, s1.sm r.sub, hz, fun ns' l g1 g2 hl => fin ns' (h ns' g1 g2) l hl⟩)
    . obtain ⟨y, rfl, qy⟩ := z.one
      obtain ⟨p, ks, vs, xs, rfl, ea, l, z1, h3⟩ := zi9 r qy h
      obtain ⟨ns, rfl, hz, h⟩ := h3
      refine .inr ⟨p, _, ns, rfl, ea, ?_, hz, fun ns' l g1 g2 hl => fin ns' (h ns' g1 g2) l hl⟩
      rw [List.map_fst_zip]
      omega
    . exact h.elim⟩
theorem zky {ns : List Str} {μ : Mu} {Q : DK} (hz : ns.length < 64) (h : ∀ ns', List.Perm ns' ns -> sortedS ns' = true -> Q (.lst (ns'.map D.str)) μ) : zex [.tup (ns.map D.str)] μ Q := .inr ⟨ns, rfl, hz, h⟩
theorem zoF {k : Nat} {ns : List Str} {vs : List D} {μ : Mu} {Q : DK} (hk : μ k = some (.dct (ns.map Sum.inr) vs)) (hz : ns.length < 64) (h : ∀ ns', List.Perm ns' ns -> sortedS ns' = true -> Q (.lst (ns'.map D.str)) μ) : zex [.cell k] μ Q := .inr (by
  show zjh μ (.cell k) _
  rw [zft, hk, zc5]
  exact ⟨ns, rfl, hz, h⟩)
end L2

namespace L2
open PySem PySem.Spec PyProof.Rows
section
variable {P : Program} {w : World} {H : Hp} {h : Heap} {a : Addr} {u u' : HO}
end
section
variable {X : Cx} {pins : List (Addr × Obj)} {σ : St} {H : Hp} {s : Shared} {a : Addr} {u u' : HO}
end
section
variable {K : PySem.W.Frag} {tl : TE} {w : DE}
end
end L2

namespace L2
open PySem PySem.Spec PyProof.Rows
def zaU {α : Type} (xs : List α) (lo hi : Option Int) (st : Int) : List α := (sliceRange (sliceBounds lo hi (some st) xs.length).1 (sliceBounds lo hi (some st) xs.length).2.1 (sliceBounds lo hi (some st) xs.length).2.2).filterMap (xs[·]?)
def stepT {α : Type} (xs : List α) (lo hi : Option Int) (st : Int) : List α := (List.range (Builtin.Slice.slicePlaces (Builtin.Slice.sliceAdjust lo hi st xs.length).1 (Builtin.Slice.sliceAdjust lo hi st xs.length).2 st)).filterMap fun (m : Nat) => xs[((Builtin.Slice.sliceAdjust lo hi st xs.length).1 + (m : Int) * st).toNat]?
theorem Vals.pick {xs : List V} {us : List Value} (r : Vals xs us) : ∀ (ix : List Nat), Vals (ix.filterMap (xs[·]?)) (ix.filterMap (us[·]?))
  | [] => .nil
  | i :: ix => by
    have ih := Vals.pick r ix
    rw [List.filterMap_cons, List.filterMap_cons]
    cases e : xs[i]? with
    | some x =>
      obtain ⟨u, eu, ru⟩ := r.get e
      rw [eu]
      exact .cons ru ih
    | none =>
      have hl : us[i]? = none := by
        rw [List.getElem?_eq_none_iff] at e ⊢
        rw [<- r.length]; exact e
      rw [hl]
      exact ih
theorem zz.pick {K : PySem.W.Frag} {W : Wd} {ds : List D} {xs : List V} (r : zz K W ds xs) : ∀ (ix : List Nat), zz K W (ix.filterMap (ds[·]?)) (ix.filterMap (xs[·]?))
  | [] => .nil
  | i :: ix => by
    have ih := zz.pick r ix
    rw [List.filterMap_cons, List.filterMap_cons]
    cases e : ds[i]? with
    | some x =>
      obtain ⟨u, eu, ru⟩ := r.get e
      rw [eu]
      exact .cons ru ih
    | none =>
      have hl : xs[i]? = none := by
        rw [List.getElem?_eq_none_iff] at e ⊢
        rw [r.length]; exact e
      rw [hl]
      exact ih
theorem zz.zaU {K : PySem.W.Frag} {W : Wd} {ds : List D} {xs : List V} (r : zz K W ds xs) (lo hi : Option Int) (st : Int) : zz K W (L2.zaU ds lo hi st) (L2.zaU xs lo hi st) := by
  unfold L2.zaU
  rw [r.length]
  exact r.pick _
theorem zdC {α : Type} (xs : List α) (lo hi : Option Int) (st : Int) : stepT xs lo hi st = ((List.range (Builtin.Slice.slicePlaces (Builtin.Slice.sliceAdjust lo hi st xs.length).1 (Builtin.Slice.sliceAdjust lo hi st xs.length).2 st)).map fun (m : Nat) => ((Builtin.Slice.sliceAdjust lo hi st xs.length).1 + (m : Int) * st).toNat).filterMap (xs[·]?) := by
  unfold stepT
  rw [List.filterMap_map]
  rfl
theorem zz.stepT {K : PySem.W.Frag} {W : Wd} {ds : List D} {xs : List V} (r : zz K W ds xs) (lo hi : Option Int) (st : Int) : zz K W (L2.stepT ds lo hi st) (L2.stepT xs lo hi st) := by
  rw [zdC, zdC, r.length]
  exact r.pick _
theorem Vals.stepT {xs : List V} {us : List Value} (r : Vals xs us) (lo hi : Option Int) (st : Int) : Vals (L2.stepT xs lo hi st) (L2.stepT us lo hi st) := by
  rw [zdC, zdC, r.length]
  exact r.pick _
theorem zla (us : List Value) (lo hi : Option Int) (st : Int) : (slicePick us.toArray lo hi (some st)) = (zaU us lo hi st).toArray := by
  unfold slicePick zaU
  simp only [List.size_toArray, List.getElem?_toArray]
section
variable {prog : Program} {w : World} {A : Around} {E : Value -> Shared -> Prop} {s : Shared}
theorem zf8 {sl : Addr} {vl vu vk : Value} {lo hi : Option Int} {st : Int} {n : Nat} {Q : Int × Int × Nat -> Shared -> Prop} (hs : s.heap.IsSliceOf sl vl vu vk) (pl : IsPart vl lo) (pu : IsPart vu hi) (pk : IsPart vk (some st)) (h0 : st ≠ 0)
    (h : Q ((Builtin.Slice.sliceAdjust lo hi st n).1, st, Builtin.Slice.slicePlaces (Builtin.Slice.sliceAdjust lo hi st n).1 (Builtin.Slice.sliceAdjust lo hi st n).2 st) s) : wpAny (model prog w) A (Builtin.Slice.sliceApplied (.ref sl) (pure (n : Int))) Q E s := by
  obtain ⟨os, hos, hcs, hds⟩ := id hs
  unfold Builtin.Slice.sliceApplied Builtin.Slice.sliceFields
  refine wpAny_bind (wpAny_bind (wpAny_field hos hds (x := vl) rfl (wpAny_bind (wpAny_field hos hds (x := vu) rfl (wpAny_bind (wpAny_field hos hds (x := vk) rfl (wpAny_pure ?_)))))))
  refine wpAny_bind (HT.zda pk ?_)
  show wpAny _ _ (if (st == 0) = true then _ else _) _ _ s
  rw [if_neg (by simpa using h0)]
  refine wpAny_bind (HT.zda pl (wpAny_bind (HT.zda pu (wpAny_bind (wpAny_pure ?_)))))
  exact wpAny_pure h
theorem zfz {t sl : Addr} {items : Array Value} {vl vu vk : Value} {lo hi : Option Int} {st : Int} {Q : Value -> Shared -> Prop} (ht : IsTup s.heap t items) (hs : s.heap.IsSliceOf sl vl vu vk) (pl : IsPart vl lo) (pu : IsPart vu hi) (pk : IsPart vk (some st)) (h0 : st ≠ 0) (h1 : st ≠ 1)
    (h : Q (.ref s.heap.objs.size) { s with heap := s.heap.push { cls := .type "tuple", data := .seq (stepT items.toList lo hi st).toArray } })
    (hsz : (stepT items.toList lo hi st).length <= sizeLine) : wpAny (model prog w) A (getItem (.ref t) (.ref sl)) Q E s := by
  have htake : sizeOk (.seq (stepT items.toList lo hi st).toArray) := by
    show (stepT items.toList lo hi st).toArray.size <= sizeLine
    rw [List.size_toArray]; exact hsz
  obtain ⟨os, hos, hcs, hds⟩ := id hs
  have hTs : s.TypeIs (.ref sl) "slice" := ⟨os, hos, hcs⟩
  unfold getItem
  try with_reducible refine wpAny_holding ?_
  first | refine wpAny_bind (wpAny_pure ?_) | skip
  refine wpAny_bind (wpAny_sequenceKey ht.typeIs (by decide) ?_)
  refine wpAny_bind (wpAny_callSpecial?_slot (name := Str.ofString "__getitem__") ht.typeIs PyProof.Rows.slot_tuple_getitem
    (wpAny_call_entry PyProof.Rows.slot_tuple_getitem ht.typeIs entry_tuple_getitem ?_ (args_tuple_getitem _ _)))
  show wpAny _ _ (Builtin.Tuple.tupleItemsOf (.ref t) >>= _) _ _ s
  refine wpAny_bind (tupleItemsOf_ ht ?_)
  refine wpAny_bind (wpAny_typeOf hTs ?_)
  rw [if_pos (by decide)]
  refine wpAny_bind (zf8 hs pl pu pk h0 ?_)
  have hno : ∀ b c : Bool, ¬ ((b && (st == 1) && c) = true) := by
    intro b c q
    rw [Bool.and_eq_true, Bool.and_eq_true] at q
    exact h1 (eq_of_beq q.1.2)
  show wpAny _ _ (if ((_ == _) && (st == 1) && (_ == _)) = true then _ else _) _ _ s
  rw [if_neg (hno _ _)]
  have e : ((List.range (Builtin.Slice.slicePlaces (Builtin.Slice.sliceAdjust lo hi st items.size).1 (Builtin.Slice.sliceAdjust lo hi st items.size).2 st)).filterMap fun (m : Nat) => items[((Builtin.Slice.sliceAdjust lo hi st items.size).1 + (m : Int) * st).toNat]?).toArray = (stepT items.toList lo hi st).toArray := by
    unfold stepT
    simp only [Array.length_toList, Array.getElem?_toList]
  rw [e]
  first
    | exact wpAny_bind (m := Builtin.Tuple.tupleExact _) (wpAny_newObj_type (wpAny_pure ⟨_, rfl, wpAny_pure h⟩) htake)
    | exact wpAny_bind (m := Builtin.Tuple.tupleExact _) (wpAny_newObj_type (wpAny_bind (wpAny_pure (wpAny_pure ⟨_, rfl, wpAny_pure h⟩))) htake)
    | exact wpAny_bind (wpAny_bind (m := Builtin.Tuple.tupleExact _) (wpAny_newObj_type (wpAny_pure (wpAny_pure ⟨_, rfl, wpAny_pure h⟩)) htake))
    | exact wpAny_bind (wpAny_bind (m := Builtin.Tuple.tupleExact _) (wpAny_newObj_type (wpAny_pure ⟨_, rfl, wpAny_pure h⟩) htake))
end
section
variable {X : Cx} {e ke : Expr} {lo hi : Option Expr} {te : TE} {tl th tk : TO} {p2 pos : Pos}
def Sl3 (X : Cx) (r : V -> Option Int -> Option Int -> Int -> Hp -> VK -> Prop) : Prop :=
  ∀ (pins : List (Addr × Obj)) (s : Shared) (σ : St) (H : Hp) (x : V) (v vl vu vk : Value) (lo hi : Option Int) (st : Int) (sl : Addr) (Q : VK), Inv X pins σ H s -> RelV x v -> s.heap.IsSliceOf sl vl vu vk -> IsPart vl lo -> IsPart vu hi -> IsPart vk (some st) -> r x lo hi st H Q ->
    ∃ T id, typeLookup (.type T) "__getitem__" = pure (some (.builtin id)) /\ s.TypeIs v T /\ wpAny (model X.prog X.w) X.A (getItem v (.ref sl)) (EP X pins σ Q) X.xe s
def ztq (r : V -> Option Int -> Option Int -> Int -> Hp -> VK -> Prop) (te : TE) (tl th tk : TO) : TE := fun σ H Q => te σ H fun x H1 => tl σ H1 fun l H2 => th σ H2 fun u H3 => tk σ H3 fun k H4 => ∃ st, k = some st /\ r x l u st H4 Q
theorem znv {r : V -> Option Int -> Option Int -> Int -> Hp -> VK -> Prop} (hr : Sl3 X r) (he : PE X e te) (hl : PO X lo tl) (hu : PO X hi th) (hk : PO X (some ke) tk) : PE X (.Subscript e (.Slice lo hi (some ke) p2) pos) (ztq r te tl th tk) := by
  intro pins s σ H Q I h
  refine Subscript_ (thn (he pins s σ H _ I h) fun v s1 ⟨x, H1, I1, r1, q1⟩ => ?_)
  refine wpAny_Slice (thn (hl pins s1 σ H1 _ I1 q1) fun vl s2 ⟨l, H2, I2, pl, q2⟩ => thn (hu pins s2 σ H2 _ I2 q2) fun vu s3 ⟨u, H3, I3, pu, q3⟩ => thn (hk pins s3 σ H3 _ I3 q3) fun vk s4 ⟨k, H4, I4, pk, st, ek, q4⟩ => ?_)
  subst ek
  have I5 : Inv X pins σ H4 { s4 with heap := s4.heap.push { cls := .type "slice", data := .fields #[vl, vu, vk] } } := I4.kept (t' := s4.toks) fun b ob q => Heap.get?_push_of_some _ q
  obtain ⟨T, id, hT, ht, hg⟩ := hr pins { s4 with heap := s4.heap.push { cls := .type "slice", data := .fields #[vl, vu, vk] } } σ H4 x v vl vu vk l u st s4.heap.objs.size Q I5 r1 (Heap.IsSliceOf.new ..) pl pu pk q4
  show wpAny (model X.prog X.w) X.A (subscriptTail e (.Slice lo hi (some ke) p2) v (.ref s4.heap.objs.size)) (EP X pins σ Q) X.xe { s4 with heap := s4.heap.push { cls := .type "slice", data := .fields #[vl, vu, vk] } }
  exact tail_any (ops := [v, .ref s4.heap.objs.size]) ht hT hg (by with_unfolding_all rfl)
def rSt (K : PySem.W.Frag) : V -> Option Int -> Option Int -> Int -> Hp -> VK -> Prop := fun x lo hi st H Q => (∃ a xs, x = .ref a /\ SqL K H a xs /\ st ≠ 0 /\ (zaU xs lo hi st).length <= sizeLine /\ ∀ p, H p = none -> Q (.ref p) (upd H p (.lst (zaU xs lo hi st)))) \/
  (∃ a xs, x = .ref a /\ SqT K H a xs /\ st ≠ 0 /\ st ≠ 1 /\ (stepT xs lo hi st).length <= sizeLine /\ ∀ p, H p = none -> Q (.ref p) (upd H p (.tup (stepT xs lo hi st))))
theorem zgs (K : PySem.W.Frag) (hK : X.K = K := by rfl) : Sl3 X (rSt K) := by
  subst hK
  intro pins s σ H x v vl vu vk lo hi st sl Q I rx hs pl pu pk h
  rcases h with ⟨a, xs, rfl, hx, h0, hl, q⟩ | ⟨a, xs, rfl, hx, h0, h1, hl, q⟩
  . cases rx
    obtain ⟨its, r, ht, hz⟩ := I.list hx
    have hlen := r.length
    refine ⟨"list", _, slot_list_getitem.lookup, ht.isList.typeIs, ?_⟩
    refine wpAny_getItem_list_slice ht.isList hs pl pu pk (fun z => h0 (Option.some.inj z)) ?_ (by rw [List.size_toArray] <;> omega)
    rw [zla]
    refine ⟨.ref s.heap.objs.size, _, I.laid (t' := s.toks) (o := .lst (zaU xs lo hi st)) (fun b ob q => Heap.get?_push_of_some _ q) (Nat.le_refl _) ?_, rfl, q _ (I.hok.fresh (Nat.le_refl _))⟩
    have rv : Vals (zaU xs lo hi st) (zaU its lo hi st) := by
      unfold zaU
      rw [r.length]
      exact r.pick _
    exact ⟨hl, _, 0, rv, Heap.get?_push_size _ rfl⟩
  . cases rx
    obtain ⟨its, r, ht, hz⟩ := I.tuple hx
    have rv := r.stepT lo hi st
    refine ⟨"tuple", _, PyProof.Rows.slot_tuple_getitem.lookup, ht.typeIs, ?_⟩
    refine zfz ht hs pl pu pk h0 h1 ?_ (by simpa [<- rv.length] using hl)
    refine ⟨.ref s.heap.objs.size, _, I.laid (t' := s.toks) (o := .tup (stepT xs lo hi st)) (fun b ob q => Heap.get?_push_of_some _ q) (Nat.le_refl _) ?_, rfl, q _ (I.hok.fresh (Nat.le_refl _))⟩
    exact ⟨hl, _, rv, IsTup.new _ _⟩
theorem zd9 {r : V -> Option Int -> Option Int -> Int -> Hp -> VK -> Prop} (hr : Sl3 X r) (he : WE X e te) (hl : WO X lo tl) (hu : WO X hi th) (hk : WO X (some ke) tk) : WE X (.Subscript e (.Slice lo hi (some ke) p2) pos) (ztq r te tl th tk) := ⟨znv hr he.out hl.out hu.out hk.out⟩
end
def dSt : D -> Option Int -> Option Int -> Int -> Mu -> DK -> Prop := fun d lo hi st μ Q => match d with
  | .tup ds => (st ≠ 0 /\ st ≠ 1 /\ (stepT ds lo hi st).length <= sizeLine) /\ Q (.tup (stepT ds lo hi st)) μ
  | d => match zaC μ d with
    | some ds => (st ≠ 0 /\ (zaU ds lo hi st).length <= sizeLine) /\ Q (.lst (zaU ds lo hi st)) μ
    | none => False
def zmT (we : DE) (wl wh wk : DO) : DE := fun ρ μ Q => we ρ μ fun d μ1 => wl ρ μ1 fun l μ2 => wh ρ μ2 fun u μ3 => wk ρ μ3 fun k μ4 => zbd k fun st => dSt d l u st μ4 Q
instance {K : PySem.W.Frag} {te : TE} {we : DE} {tl th tk : TO} {wl wh wk : DO} [a : zab K te we] [b : zlz K tl wl] [c : zlz K th wh] [c2 : zlz K tk wk] : zab K (ztq (rSt K) te tl th tk) (zmT we wl wh wk) := ⟨fun r e h k =>
  a.run r e h fun W1 d μ1 x H1 le1 r1 q1 h1 => b.run r1 (e.mono le1) h1 fun W2 l μ2 H2 le2 r2 h2 => c.run r2 (e.mono (le1.trans le2)) h2 fun W3 u μ3 H3 le3 r3 h3 => c2.run r3 (e.mono (le1.trans (le2.trans le3))) h3 fun W4 kk μ4 H4 le4 r4 h4 => by
    obtain ⟨st, rfl, h4⟩ := zbK h4
    refine ⟨st, rfl, ?_⟩
    have q4 := q1.mono (le2.trans (le3.trans le4))
    have fin : ∀ xs ds, zz K W4 ds xs -> st ≠ 0 /\ (zaU ds l u st).length <= sizeLine -> ∀ Q, (_ : Q (D.lst (zaU ds l u st)) μ4) -> ∀ Q', KV' K _ Q Q' -> ∀ p, H4 p = none -> Q' (.ref p) (upd H4 p (.lst (zaU xs l u st))) := fun xs ds z hz Q hq Q' kk p hp => by
      obtain ⟨r5, le5⟩ := r4.newF (o := .lst (zaU xs l u st)) hp
      exact kk _ _ _ _ _ (le1.trans (le2.trans (le3.trans (le4.trans le5)))) r5 (.lst zF ((z.zaU l u st).mono le5)) hq
    unfold dSt at h4
    split at h4
    . rename_i ds
      obtain ⟨⟨h0, h1', hl⟩, hq⟩ := h4
      obtain ⟨p, xs, rfl, s1, z1⟩ := q4.tup'
      have z2 := z1.stepT l u st
      refine .inr ⟨p, xs, rfl, s1.sm r4.sub, h0, h1', by rw [z2.length]; exact hl, fun p' hp => ?_⟩
      obtain ⟨r5, le5⟩ := r4.newF (o := .tup (stepT xs l u st)) hp
      exact k _ _ _ _ _ (le1.trans (le2.trans (le3.trans (le4.trans le5)))) r5 (.tup (SqT.of zF) (z2.mono le5)) hq
    . cases hd : zaC μ4 d with
      | none => rw [hd] at h4; exact h4.elim
      | some ds =>
        rw [hd] at h4
        obtain ⟨hz, hq⟩ := h4
        obtain ⟨p, xs, rfl, s1, z1⟩ := za3 r4 q4 hd
        refine .inl ⟨p, xs, rfl, SqL.of s1, hz.1, by rw [(z1.zaU l u st).length]; exact hz.2, fun p' hp => fin xs ds z1 hz _ hq _ k p' hp⟩⟩
theorem zfF {α : Type} (xs : List α) : zaU xs none none (-1) = xs.reverse := by
  unfold zaU
  rw [PySem.W.krv_bounds]
  show (sliceRange ((xs.length : Int) - 1) (-1) (-1)).filterMap (xs[·]?) = _
  rw [PySem.W.krv_sliceRange, PySem.W.krv_range, List.filterMap_reverse]
  congr 1
  have := PySem.W.krv_all xs.toArray
  simpa using this
end L2

namespace L2
open PySem PySem.Spec PyProof.Rows
section
variable {X : Cx} {k : Nat} (K : PySem.W.Frag)
end
theorem zoz {α : Type} {g : DG} {we : DE} {ρb : zav} {μ : Mu} {Fin : List D -> Mu -> Prop} {Pm : Mu -> Prop} (xs : List α) (f : α -> D) (hl : xs.length <= 1000) (step : ∀ x ∈ xs, ∀ Q : DK, Q (.bl true) μ -> g (f x) ρb μ fun ρ2 μ2 => we ρ2 μ2 Q) (fin : ∀ bs : List Bool, bs.all id = true -> Fin (bs.map D.bl) μ) (hP : Pm μ) : zca g zhx we ρb Pm Fin (xs.map f) [] μ := by
  have hz : (1000 : Nat) <= sizeLine := by decide
  refine zdI (fun i ys μ' => μ' = μ /\ ys = (List.replicate i true).map D.bl) ⟨rfl, rfl⟩ ?_ ?_ (fun i ys μ' h => h.1 ▸ hP)
  . rintro i d ys μ' hd ⟨rfl, rfl⟩
    rw [List.getElem?_map] at hd
    cases hx : xs[i]? with
    | none => rw [hx] at hd; cases hd
    | some x =>
      rw [hx] at hd; cases hd
      have hi := (List.getElem?_eq_some_iff.mp hx).1
      refine ⟨by rw [List.length_map, List.length_replicate]; omega, fun N hN => step x (List.mem_of_getElem? hx) (fun v μ4 => N _ μ4) (hN _ _ ⟨rfl, ?_⟩)⟩
      rw [List.replicate_succ', List.map_append]; rfl
  . rintro ys μ' ⟨rfl, rfl⟩
    exact fin _ (by simp)
end L2

namespace L2
open PySem PySem.Spec PyProof.Rows
section
variable {X : Cx} {CX : CXT} {k : Nat} {f : Addr} {fd : FuncData} {ps : List Str} {sp : Sp} {ds : List Value} {dvs : List V} {E : XK}
theorem zqg {pins : List (Addr × Obj)} {σ : St} {H : Hp} {s : Shared} {Q : VK} {us : List Value} {vs : List V} (F : zas X.prog X.w X.K X.mg X.base CX k f fd ps sp) (hr : zaM (k + 1) X.A) (hb : Binds X.K fd ps ds) (hd : Vals dvs ds) (hx : zb8 CX X E)
    (I : Inv X pins σ H s) (r : Vals vs us) (h : sp (vs ++ dvs) H Q E) : wpAny (model X.prog X.w) X.A.in1 (call (.ref f) us) (EP X pins σ Q) X.xe s := by
  have r2 : Vals (vs ++ dvs) (us ++ ds) := r.append hd
  have hl : (us ++ ds).length = ps.length := by rw [<- r2.length]; exact F.len _ _ _ _ h
  refine wpAny_call (codeAny_mono (F.run X.A.in1 X.stack s H ⟨us, []⟩ (us ++ ds) (vs ++ dvs) Q E hr.in1 I.env0.in1 (hb s us I.kIn hl) r2 h) fun r s' hq => ?_)
  cases r with
  | error e => exact hx pins σ H s e s' I hq
  | ok fl =>
    cases fl with
    | ret u => exact I.after hq
    | next => exact False.elim hq
    | brk => exact False.elim hq
    | cont => exact False.elim hq
end
structure zol (P : Program) (w : World) (K : PySem.W.Frag) (mg : Str -> Option Value) (base : Heap) (CX : CXT) (c : Str) (k : Nat) (ps : List Str) (sp : Sp) : Prop where
  ex : ∃ C f fd, clsOf K c = some C /\ zas P w K mg base CX k f fd ps sp /\ Binds K fd ps [] /\ PySem.W.findIn K (.ref C) "__len__" = some (some (.ref f)) /\ PySem.W.isFn K (.ref f) = true
def zrS (K : PySem.W.Frag) (c : Str) (sp : Sp) (E : XK) : List V -> Hp -> VK -> Prop := fun xs H Q => ∃ C a dx fs, clsOf K c = some C /\ xs = [.ref a] /\ H a = some (.ins C dx fs) /\ sp [.ref a] H (fun v H' => ∃ n : Int, v = .int n /\ 0 <= n /\ n < 2 ^ 63 /\ Q (.int n) H') E
theorem zmV {X : Cx} {CX : CXT} (K : PySem.W.Frag) {c : Str} {j k : Nat} {ps : List Str} {sp : Sp} {E : XK} (h : zol X.prog X.w X.K X.mg X.base CX c j ps sp) (hr : zaM k X.A) (hK : X.K = K := by rfl) (hj : j + 1 <= k := by decide) (hx : zb8 CX X E := by exact zfJ) : zZ X (.builtin "len") (zrS K c sp E) := by
  subst hK
  obtain ⟨C, f, fd, hC, F, b, hs, hf⟩ := h.ex
  intro pins s σ H xs us Q I r q
  obtain ⟨C', a, dx, fs, hC', rfl, ea, q⟩ := q
  rw [hC] at hC'; cases hC'
  obtain ⟨u, rfl, ru⟩ := vals1 r
  cases ru
  obtain ⟨mA, O, _, _, _, _⟩ := zdD I.hok ea
  obtain ⟨od, ia, _⟩ := O.look
  have call := zqg (us := [.ref a]) (vs := [.ref a]) (ds := []) (dvs := []) F (hr.mono hj) b .nil hx I (.cons rfl .nil) q
  refine Calls.call_function_entry kind_len plain_len entry_len (args_len1 _) ?_
  unfold Builtin.«len»
  refine wpAny_bind (m := oneArg "len" _) (wpAny_pure ?_)
  refine wpAny_bind (m := callSpecial? (.ref a) (Str.ofString "__len__")) (PySem.W.special_fn I.kIn ia hs (beq_iff_eq.mp hf) (wpAny_mono call (fun r s' hr => ?_) fun _ _ y => y))
  obtain ⟨v, H', I', rv, n, rfl, h0, h1, hq⟩ := hr
  obtain ⟨t, rfl⟩ := rv
  refine wpAny_bind (wpAny_holding (wpAny_pure ?_))
  refine wpAny_bind (wpAny_letGo ?_)
  show wpAny _ _ (if n < 0 then _ else _) _ _ _
  rw [if_neg (by omega)]
  show wpAny _ _ (if n ≥ 2 ^ 63 then _ else _) _ _ _
  rw [if_neg (by omega)]
  exact wpAny_bind (wpAny_mkInt (wpAny_pure ⟨_, rfl, ⟨.int n, H', I'.tok _, ⟨_, rfl⟩, hq⟩⟩))
def zmo (c : Str) (dsp : DSp) : DRs := fun ds μ Q => match ds with
  | [d] => (zfw μ d fun c' _ _ => c' = c) /\ dsp [d] μ fun v μ' => ∃ n : Int, v = .int n /\ 0 <= n /\ n < 2 ^ 63 /\ Q (.int n) μ'
  | _ => False
instance {K : PySem.W.Frag} {c : Str} {dsp : DSp} {E : XK} : zcz K (zrS K c (lift K dsp) E) (zmo c dsp) := ⟨fun {W μ H ds xs Q Q'} r z h k => by
  unfold zmo at h
  split at h
  . rename_i d
    obtain ⟨h1, h2⟩ := h
    obtain ⟨y, rfl, qy⟩ := z.one
    obtain ⟨c2, C, a, dx, ns, vs, xs, hC, rfl, ea, l, z1, rfl⟩ := zdr r qy h1
    refine ⟨C, a, dx, _, hC, rfl, ea, W, μ, [d], _, r, .cons qy .nil, h2, fun W2 d2 μ2 x2 H2 le2 r2 q2 hh => ?_⟩
    obtain ⟨n, rfl, h0, h1', hq⟩ := hh
    exact ⟨n, q2.i', h0, h1', k W2 _ μ2 _ H2 le2 r2 .i hq⟩
  . exact h.elim⟩
theorem zso {c : Str} {dsp : DSp} {d : D} {μ : Mu} {Q : DK} : zmo c dsp [d] μ Q = ((zfw μ d fun c' _ _ => c' = c) /\ dsp [d] μ fun v μ' => ∃ n : Int, v = .int n /\ 0 <= n /\ n < 2 ^ 63 /\ Q (.int n) μ') := rfl
end L2

namespace L2
open PySem PySem.Spec PyProof.Rows
section
variable {prog : Program} {w : World} {A : Around} {E : Value -> Shared -> Prop} {s : Shared}
theorem zr4 {it l : Addr} {its : Array Value} (hne : l ≠ it) : ∀ (n i : Nat) (s : Shared) (Q : List Value -> Shared -> Prop), s.heap.IsListIter it l i -> s.heap.IsList l its -> i + n <= its.size ->
    (∀ h', h'.IsListIter it l (i + n) -> Heap.SameBut it s.heap h' -> Q ((its.toList.drop i).take n) { s with heap := h' }) -> wpAny (model prog w) A (draw (.ref it) n) Q E s
  | 0, i, s, Q, hi, _, _, hq => by
    show wpAny _ _ (pure []) Q E s
    exact wpAny_pure (by simpa using hq s.heap hi (Heap.SameBut.refl ..))
  | n + 1, i, s, Q, hi, hl, hle, hq => by
    have hlt : i < its.size := by omega
    show wpAny _ _ (pyNext (.ref it) >>= _) Q E s
    refine wpAny_bind (wpAny_pyNext_list_item hi hl (x := its[i]) (by simp [hlt]) fun h1 hi1 sb1 => wpAny_bind (wpAny_holding (zr4 (its := its) hne n (i + 1) _ _ hi1 ?_ (by omega) fun h2 hi2 sb2 => wpAny_pure ?_)))
    . obtain ⟨o, e, r⟩ := hl
      exact ⟨o, sb1.extBut l o hne e, r⟩
    have hd : its.toList.drop i = its[i] :: its.toList.drop (i + 1) := by simp [List.drop_eq_getElem_cons, hlt]
    have z := hq h2 (by rw [show i + (n + 1) = i + 1 + n by omega]; exact hi2) (sb1.trans sb2)
    rw [hd, List.take_succ_cons] at z; exact z
theorem zmP {l : Addr} {its : Array Value} {Q : List Value -> Shared -> Prop} (hh : A.handled = none) (hl : s.heap.IsList l its)
    (hq : ∀ h', Heap.ExtBut s.heap.objs.size s.heap h' -> Q its.toList { s with heap := h' }) : wpAny (model prog w) A (unpackItems (.ref l) its.size none) Q E s := by
  have hlt : l ≠ s.heap.objs.size := by obtain ⟨o, ho, _⟩ := hl; exact Nat.ne_of_lt (Heap.lt_size ho)
  have hl1 : (s.heap.push { cls := .type "list_iterator", data := .fields #[.ref l, .int 0 0] }).IsList l its := by obtain ⟨o, e, r⟩ := hl; exact ⟨o, Heap.get?_push_of_some _ e, r⟩
  unfold unpackItems
  refine wpAny_bind ?_
  unfold notIterableAtAll
  refine wpAny_bind (wpAny_specialOf hl.typeIs PySem.F.slot_list_iter.lookup (wpAny_pure ?_))
  simp only [Bool.false_eq_true, if_false]
  refine wpAny_bind (wpAny_holding (wpAny_pyIter_list hl (wpAny_bind (wpAny_holding (zr4 hlt its.size 0 _ _ ⟨_, Heap.get?_push_size _ rfl, rfl, rfl⟩ hl1 (by omega) fun h1 hi1 sb1 => ?_)))))
  rw [show List.take its.size (List.drop 0 its.toList) = its.toList by rw [List.drop_zero]; exact List.take_of_length_le (by simp), if_neg (by simp)]
  have hl2 : h1.IsList l its := by obtain ⟨o, e, r⟩ := hl1; exact ⟨o, sb1.extBut l o hlt e, r⟩
  refine wpAny_bind (wpAny_holding (wpAny_pyNext_list_end hh hi1 hl2 (by simp) fun h2 he2 => ?_))
  simp only [Option.isSome_none, Bool.false_eq_true, if_false]
  refine wpAny_pure (hq h2 fun b o hb e => he2 b o hb (sb1.extBut b o hb (Heap.get?_push_of_some _ e)))
theorem zll {env : Env} {es : List Expr} {x1} {pos : Pos} {l : Addr} {its : Array Value} {Q : Unit -> Shared -> Prop} (hh : A.handled = none) (hl : s.heap.IsList l its)
    (hn : (assignEach es env).length = its.size) (hst : (assignEach es env).findIdx? (·.1) = none)
    (h : ∀ h', Heap.ExtBut s.heap.objs.size s.heap h' -> wpAny (model prog w) A (assignInOrder ((assignEach es env).map (·.2)) its.toList) Q E { s with heap := h' }) :
    wpAny (model prog w) A (assign (.Tuple es x1 pos) env (.ref l)) Q E s := by
  rw [assign_Tuple]
  refine wpAny_bind (wpAny_standAt ?_)
  unfold unpack
  rw [hn, hst]
  exact wpAny_bind (wpAny_holding (zmP hh hl h))
end
def gSq (K : PySem.W.Frag) (n : Nat) (t : TGs) : TG := fun v σ H Q => ∃ a xs, v = .ref a /\ (SqT K H a xs \/ SqL K H a xs) /\ xs.length = n /\ t xs σ H Q
theorem zpS {X : Cx} {es : List Expr} {k : Nat} {gs : TGs} {n : Nat} {pos : Pos} {K : PySem.W.Frag} (hc : X.calm = true) (hg : WGs X es gs) (hK : X.K = K := by rfl) (hn : (assignEach es X.env).length = n := by rfl) (hst : (assignEach es X.env).findIdx? (·.1) = none := by rfl) : WG X (.Tuple es k pos) (gSq K n gs) := ⟨by
  subst hK
  intro pins s σ H v u Q I r hw
  obtain ⟨a, xs, e1, hq, hl, hw⟩ := hw
  rcases hq with hq | hq
  . exact zp7 hc hg.out hn hst pins s σ H v u Q I r ⟨a, xs, e1, hq, hl, hw⟩
  . subst e1
    cases r
    obtain ⟨its, rv, ht, hz⟩ := I.list hq
    refine zll (I.ok.hd hc) ht.isList (by simp [hn, <- hl, rv.length]) hst fun h' hx => ?_
    have I1 : Inv X pins σ H { s with heap := h' } := I.kept (t' := s.toks) fun b o e => hx b o (Nat.ne_of_lt (Heap.lt_size e)) e
    exact hg.out pins _ σ H xs _ Q I1 (by simpa using rv) hw⟩
def zri (n : Nat) (gs : DGs) : DG := fun d ρ μ Q => zbd (zbU μ d) fun ds => ds.length = n /\ gs ds ρ μ Q
instance {K : PySem.W.Frag} {n : Nat} {gs : TGs} {dgs : DGs} {S : List Nat} [b : zjF K gs dgs S] : zj7 K (gSq K n gs) (zri n dgs) S := ⟨fun {W ρ μ σ H d x Q Q'} r e q h k => by
  obtain ⟨ds, hd, hl, h⟩ := zbK h
  obtain ⟨a, xs, rfl, hs, z⟩ := zcW r q hd
  exact ⟨a, xs, rfl, hs.symm, by rw [z.length]; exact hl, b.run r e z h k⟩⟩
theorem zmB {n : Nat} {gs : DGs} {ds : List D} {ρ : zav} {μ : Mu} {R : zav -> Mu -> Prop} : zri n gs (.lst ds) ρ μ R = (ds.length = n /\ gs ds ρ μ R) := rfl
end L2

namespace L2
open PySem PySem.Spec PyProof.Rows
end L2

namespace L2
open PySem PySem.Spec PyProof.Rows
section
variable {X : Cx} {pins : List (Addr × Obj)} {σ : St} {H : Hp} {s : Shared} {a : Addr} {y v : V} {u r : Value} {A : Around} {E : Value -> Shared -> Prop}
end
section
variable {X : Cx} {tg iter kx vx : Expr} {ifs : List Expr} {scope : Scope} {pos : Pos} {own free : List Str} {fr : List Nat}
end
section
variable {X : Cx} {tg iter kx vx : Expr} {ifs : List Expr} {scope : Scope} {pos : Pos} {wi : TI} {g : TG} {tc : TT} {tk tv : TE} {o0 : HO}
end
section
variable {K : PySem.W.Frag} {tk tv : TE} {wk wv : DE} {tc : TT} {wc : DT} {wi : TI} {di : DI} {g : TG} {dg : DG} {S : List Nat}
end
end L2

namespace L2
open PySem PySem.Spec PyProof.Rows
def two (a b : Int) : Nat := ((b - a + 1) / 2).toNat
section
variable {X : Cx} {tg : Expr}
end
end L2

namespace L2
open PySem PySem.Spec PyProof.Rows
end L2

namespace L2
open PySem PySem.Spec PyProof.Rows
section
variable {X : Cx} {CX : CXT} {k : Nat} {f : Addr} {fd : FuncData} {ps : List Str} {sp : Sp} {ds : List Value} {dvs : List V} {E : XK}
end
section
open PySem.Builtin PySem.Builtin.Str
end
end L2

namespace L2
open PySem PySem.Spec PyProof.Rows
section
variable {prog : Program} {w : World} {A : Around} {E : Value -> Shared -> Prop} {s : Shared} {b b1 b2 : Bool}
end
section
variable {wA : DA} {ρ : zav} {μ : Mu} {R : List D -> (Mu -> Prop) -> Mu -> Prop} {d e : D} {ds : List D} {Q : List D -> (Mu -> Prop) -> Prop}
end
end L2

namespace L2
open PySem PySem.Spec PyProof.Rows
def zd6 : List Key -> List PyData -> Key -> Option PyData
  | k :: ks, p :: ps, j => if k = j then some p else zd6 ks ps j
  | _, _, _ => none
def zhL (ks' : List Key) (ps' : List PyData) : List Key -> List PyData -> Bool
  | k :: ks, p :: ps => match zd6 ks' ps' k with
    | none => false
    | some q => PyData.eqv p q && zhL ks' ps' ks ps
  | _, _ => true
theorem zbO.uncons {K : PySem.W.Frag} {H : Hp} {d : PyData} {ds : List PyData} {xs : List V} (h : zbO K H (d :: ds) xs) : ∃ x r, xs = x :: r /\ Dat K H d x /\ zbO K H ds r := by unfold zbO at h; exact h
theorem zbO.nil0 {K : PySem.W.Frag} {H : Hp} {xs : List V} (h : zbO K H [] xs) : xs = [] := by unfold zbO at h; exact h
section
variable {X : Cx} {pins : List (Addr × Obj)} {σ : St} {H : Hp} {s : Shared}
theorem zkS (I : Inv X pins σ H s) : ∀ {ks : List Key} {xs : List V} {ps : List PyData} {vs : List (Key × Value)} (j : Key), ks.length = xs.length -> zbO X.K H ps xs -> KV (ks.zip xs) vs ->
    (zd6 ks ps j = none -> valueAt vs j = none) /\ ∀ q, zd6 ks ps j = some q -> q ∈ ps /\ ∃ y as, valueAt vs j = some y /\ Reads s.heap y q as
  | [], xs, ps, vs, j, hl, hd, hv => by
    cases xs with
    | cons _ _ => cases hl
    | nil =>
      cases hv
      exact ⟨fun _ => rfl, fun q e => by cases ps <;> simp [zd6] at e⟩
  | k :: ks, xs, ps, vs, j, hl, hd, hv => by
    cases xs with
    | nil => cases hl
    | cons x xs =>
      cases ps with
      | nil => have := hd.nil0; cases this
      | cons p ps =>
        obtain ⟨x', r', e, d1, d2⟩ := hd.uncons
        cases e
        cases hv with
        | cons f hv =>
          rename_i b l2
          obtain ⟨e1, rv⟩ := f
          obtain ⟨kb, vb⟩ := b
          have e1 : k = kb := e1
          have rv : RelV x vb := rv
          subst e1
          have ih := zkS I (ks := ks) (xs := xs) (ps := ps) (vs := l2) j (by simpa using hl) d2 hv
          unfold valueAt at ih ⊢
          rw [List.find?_cons]
          by_cases h : k = j
          . subst h
            simp only [zd6, if_true, decide_true, Option.map_some]
            refine ⟨fun z => (by cases z), fun q e => ?_⟩
            cases e
            obtain ⟨as, r⟩ := d1.reads I rv
            exact ⟨List.mem_cons_self, vb, as, rfl, r⟩
          . simp only [zd6, if_neg h, decide_false, h]
            exact ⟨ih.1, fun q e => let ⟨m, y⟩ := ih.2 q e; ⟨List.mem_cons_of_mem _ m, y⟩⟩
theorem zmd (I : Inv X pins σ H s) {A : Around} (hu : A.units + 61 < cLine) {ks' : List Key} {xs' : List V} {ps' : List PyData} {vs' : List (Key × Value)} (hl' : ks'.length = xs'.length) (hd' : zbO X.K H ps' xs') (hv' : KV (ks'.zip xs') vs') (ok' : ∀ p ∈ ps', zdj p) :
    ∀ {ks : List Key} {xs : List V} {ps : List PyData} {vs : List (Key × Value)}, ks.length = xs.length -> zbO X.K H ps xs -> KV (ks.zip xs) vs -> (∀ p ∈ ps, zdj p) -> PySem.W.KeqHits A s vs' vs (zhL ks' ps' ks ps)
  | [], xs, ps, vs, hl, hd, hv, ok => by
    cases xs with
    | cons _ _ => cases hl
    | nil =>
      cases hv
      cases ps <;> exact .nil
  | k :: ks, xs, ps, vs, hl, hd, hv, ok => by
    cases xs with
    | nil => cases hl
    | cons x xs =>
      cases ps with
      | nil => have := hd.nil0; cases this
      | cons p ps =>
        obtain ⟨x', r', e, d1, d2⟩ := hd.uncons
        cases e
        cases hv with
        | cons f hv =>
          rename_i b l2
          obtain ⟨e1, rv⟩ := f
          obtain ⟨kb, vb⟩ := b
          have e1 : k = kb := e1
          have rv : RelV x vb := rv
          subst e1
          have ih := zmd I hu hl' hd' hv' ok' (ks := ks) (xs := xs) (ps := ps) (vs := l2) (by simpa using hl) d2 hv (fun p hp => ok p (List.mem_cons_of_mem _ hp))
          obtain ⟨n1, n2⟩ := zkS I k hl' hd' hv'
          unfold zhL
          cases e : zd6 ks' ps' k with
          | none => exact .miss (n1 e)
          | some q =>
            obtain ⟨hm, y, bs, ey, ry⟩ := n2 q e
            obtain ⟨as, rx⟩ := d1.reads I rv
            refine .hit ey (SeqAt.eqAt_reads p q A s vb y as bs rx ry (ok p List.mem_cons_self).lay (ok' q hm).lay ?_) ih
            have := (ok p List.mem_cons_self).deep
            have := Nat.min_le_left p.depth q.depth
            omega
end
def zu9 (K : PySem.W.Frag) : R2 := fun x y H Q => ∃ a b ks xs ks' xs' ps ps', x = .ref a /\ y = .ref b /\ Rd H a (.dK (ks.zip xs)) /\ Rd H b (.dK (ks'.zip xs')) /\ ks.length = xs.length /\ ks'.length = xs'.length /\ zbO K H ps xs /\ zbO K H ps' xs' /\ (∀ p ∈ ps, zdj p) /\ (∀ p ∈ ps', zdj p) /\ Q (.bl (ks.length == ks'.length && zhL ks' ps' ks ps)) H
theorem zpd {X : Cx} (K : PySem.W.Frag) {k : Nat} (hr : zaM k X.A) (h : X.K = K := by rfl) : OpR X (compareOp .Eq) (zu9 K) := by
  subst h
  intro pins s σ H x y v u Q I rx ry h
  obtain ⟨a, b, ks, xs, ks', xs', ps, ps', rfl, rfl, ea, eb, l1, l2, d1, d2, o1, o2, q⟩ := h
  cases rx; cases ry
  obtain ⟨_, sa, va, ra, da⟩ : _ /\ _ /\ ∃ vs, _ /\ _ := ea.ok I.hok
  obtain ⟨_, sb, vb, rb, db⟩ : _ /\ _ /\ ∃ vs, _ /\ _ := eb.ok I.hok
  have hu := hr.units
  have iu : X.A.in1.units + 61 < cLine := by
    have := hr.un
    have e : X.A.in1.units <= X.A.units + 1 := by first | exact Nat.le_refl _ | (simp [Around.in1, Around.units])
    omega
  have len : ∀ {ks : List Key} {xs : List V} {vs : List (Key × Value)}, ks.length = xs.length -> KV (ks.zip xs) vs -> vs.length = ks.length := fun {ks xs vs} hl hv => by
    have := hv.length
    rw [List.length_zip] at this
    omega
  refine PySem.W.keq_eq (r := zhL ks' ps' ks ps) sa sb da db (by omega) (fun _ => zmd I iu l2 d2 rb o2 l1 d1 ra o1) ⟨.bl _, H, I, ?_, q⟩
  rw [len l1 ra, len l2 rb]
  rfl
def znm : DR2 := fun d e μ Q => zg6 μ d fun ks vs => zg6 μ e fun ks' vs' => ∃ ps ps', zaP vs = some ps /\ zaP vs' = some ps' /\ (∀ p ∈ ps, zdj p) /\ (∀ p ∈ ps', zdj p) /\ Q (.bl (ks.length == ks'.length && zhL ks' ps' ks ps)) μ
instance {K : PySem.W.Frag} : zbq K (zu9 K) znm := ⟨fun {W μ H d e x y Q Q'} r q1 q2 h k => by
  unfold znm at h
  obtain ⟨p, ks, vs, xs, rfl, ea, l, z, h⟩ := zd0 r q1 h
  obtain ⟨p', ks', vs', xs', rfl, ea', l', z', h⟩ := zd0 r q2 h
  obtain ⟨ps, ps', e1, e2, o1, o2, hq⟩ := h
  exact ⟨p, p', ks, xs, ks', xs', ps, ps', rfl, rfl, ea, ea', l, l', zcZ r.sub e1 z, zcZ r.sub e2 z', o1, o2, k _ _ _ _ _ (.refl _) r .b hq⟩⟩
theorem zvv {d e : D} {μ : Mu} {Q : DK} : znm d e μ Q = zg6 μ d fun ks vs => zg6 μ e fun ks' vs' => ∃ ps ps', zaP vs = some ps /\ zaP vs' = some ps' /\ (∀ p ∈ ps, zdj p) /\ (∀ p ∈ ps', zdj p) /\ Q (.bl (ks.length == ks'.length && zhL ks' ps' ks ps)) μ := rfl
def zfg {α : Type} : List Key -> List α -> Key -> List α
  | k :: ks, v :: vs, q => if k = q then zfg ks vs q else v :: zfg ks vs q
  | _, _, _ => []
def zkA (ks : List Key) (k : Key) : List Key := ks.filter fun j => decide (j ≠ k)
theorem zma {K : PySem.W.Frag} {W : Wd} {k : Key} : ∀ {ks : List Key} {vs : List D} {xs : List V}, ks.length = xs.length -> zz K W vs xs -> zgH (ks.zip xs) k = (zkA ks k).zip (zfg ks xs k) /\ (zkA ks k).length = (zfg ks xs k).length /\ zz K W (zfg ks vs k) (zfg ks xs k)
  | [], vs, xs, h, r => by
    have : xs = [] := by cases xs with
      | nil => rfl
      | cons _ _ => cases h
    subst this
    refine ⟨rfl, rfl, ?_⟩
    cases vs <;> exact .nil
  | q :: ks, [], xs, h, r => by rw [r.nil'] at h; simp at h
  | q :: ks, d :: vs, xs, h, r => by
    obtain ⟨x, t, rfl, q1, q2⟩ := r.uncons
    obtain ⟨i1, i2, i3⟩ := zma (k := k) (ks := ks) (vs := vs) (xs := t) (by simpa using h) q2
    unfold zgH zkA at *
    rw [List.zip_cons_cons, List.filter_cons, List.filter_cons]
    by_cases e : q = k
    . subst e
      simp only [ne_eq, not_true_eq_false, decide_false, Bool.false_eq_true, if_false, zfg, if_true]
      exact ⟨i1, i2, i3⟩
    . simp only [ne_eq, e, not_false_eq_true, decide_true, if_true, zfg, if_false]
      exact ⟨by rw [i1, List.zip_cons_cons], by rw [List.length_cons, List.length_cons, i2], .cons q1 i3⟩
theorem zj3 {X : Cx} {o i : Expr} {pos tpos : Pos} {td ty : TE} (ho : WE X o td) (hi : WE X i ty) : WS X (.Delete [.Subscript o i tpos] pos) (zoY td ty) := ⟨zrf ho.out hi.out⟩
def zqT (wo wi : DE) : DS := fun D' ρ μ => wo ρ μ fun d μ1 => wi ρ μ1 fun e μ2 => zbd (match d with | .cell c => some c | _ => none) fun c => zjy (μ2 c) fun ks vs => zbd (zhy e) fun k => (zcf ks vs k).isSome = true /\ D'.nx ρ (zQ μ2 c (.dct (zkA ks k) (zfg ks vs k)))
instance {K : PySem.W.Frag} {ta tb : TE} {wa wb : DE} [a : zab K ta wa] [b : zab K tb wb] : zdW K (zoY ta tb) (zqT wa wb) := ⟨fun {W ρ μ σ H D' D} r e h k => a.run r e h fun W2 d2 μ2 y H2 le2 r2 q2 h2 => b.run r2 (e.mono le2) h2 fun W3 d3 μ3 z3 H3 le3 r3 q3 h3 => by
  obtain ⟨c, ec, h4⟩ := zbK h3
  have ed : d2 = .cell c := by
    cases d2 <;> simp at ec
    subst ec; rfl
  subst ed
  obtain ⟨p, rfl, hb⟩ := (q2.mono le3).cell'
  unfold zjy at h4
  split at h4
  . rename_i ks vs hk
    obtain ⟨a', f1, f2, xs, f3, l, z⟩ := r3.cel c _ hk
    rw [hb] at f1; cases f1
    obtain ⟨kk, ek, hs, h8⟩ := zbK h4
    obtain ⟨v, hv⟩ := Option.isSome_iff_exists.mp hs
    obtain ⟨y, ey, qy⟩ := (ze7 (k := kk) l z).1 v hv
    obtain ⟨i1, i2, i3⟩ := zma (k := kk) l z
    refine ⟨p, _, kk, rfl, f3, zeM q3 ek, by rw [ey]; rfl, ?_⟩
    rw [i1]
    exact k.nx _ _ _ _ _ (le2.trans le3) (r3.setC (c' := .dct (zkA ks kk) (zfg ks vs kk)) hk hb ⟨_, rfl, i2, i3⟩) (e.mono (le2.trans le3)) h8
  . exact h4.elim⟩
theorem zr3 {wo wi : DE} {D' : zcH} {ρ : zav} {μ : Mu} : zqT wo wi D' ρ μ = wo ρ μ fun d μ1 => wi ρ μ1 fun e μ2 => zbd (match d with | .cell c => some c | _ => none) fun c => zjy (μ2 c) fun ks vs => zbd (zhy e) fun k => (zcf ks vs k).isSome = true /\ D'.nx ρ (zQ μ2 c (.dct (zkA ks k) (zfg ks vs k))) := rfl
end L2

set_option synthInstance.maxHeartbeats 4000000
set_option synthInstance.maxSize 100000
set_option maxHeartbeats 4000000
namespace M
open PySem L2
def top (i : Nat) : Stmt := PySem.Challenge.pw_slotwright_k08_nets_alike_and_twins.main.body.getD i (.Pass ⟨0, 0, 0, 0⟩)
abbrev zbD : Stmt := top 12
theorem zhO : zK ["text", "signs", "most"] ["text", "signs", "most"] (zg zbD) := ⟨rfl, rfl, rfl, by decide +kernel, rfl, by decide +kernel, by decide +kernel⟩
abbrev zbY : Stmt := top 15
theorem zi4 : zK ["thing"] ["thing"] (zg zbY) := ⟨rfl, rfl, rfl, by decide +kernel, rfl, by decide +kernel, by decide +kernel⟩
abbrev zaF : Stmt := inClass (top 23) 0
theorem zhH : zK ["self"] ["self"] (zg zaF) := ⟨rfl, rfl, rfl, by decide +kernel, rfl, by decide +kernel, by decide +kernel⟩
abbrev zaS : Stmt := inClass (top 23) 5
theorem zjA : zK ["self"] ["self"] (zg zaS) := ⟨rfl, rfl, rfl, by decide +kernel, rfl, by decide +kernel, by decide +kernel⟩
abbrev zbg : Stmt := inClass (top 23) 6
theorem zjN : zK ["self", "name"] ["self", "name"] (zg zbg) := ⟨rfl, rfl, rfl, by decide +kernel, rfl, by decide +kernel, by decide +kernel⟩
abbrev zbV : Stmt := inClass (top 23) 9
theorem ziD : zK ["self"] ["self"] (zg zbV) := ⟨rfl, rfl, rfl, by decide +kernel, rfl, by decide +kernel, by decide +kernel⟩
abbrev zci : Stmt := inClass (top 23) 10
theorem zjR : zK ["self", "other"] ["self", "other"] (zg zci) := ⟨rfl, rfl, rfl, by decide +kernel, rfl, by decide +kernel, by decide +kernel⟩
abbrev z7 : Stmt := inClass (top 23) 13
theorem zc4 : zK ["self", "ends", "text"] ["self", "ends"] (zg z7) := ⟨rfl, rfl, rfl, by decide +kernel, rfl, by decide +kernel, by decide +kernel⟩
abbrev zU : Stmt := inClass (top 23) 14
theorem zaE : zK ["self", "node", "name", "senders", "ears", "wire"] ["self", "node"] (zg zU) := ⟨rfl, rfl, rfl, by decide +kernel, rfl, by decide +kernel, by decide +kernel⟩
abbrev zbE : Stmt := top 24
theorem zhz : zK ["ends"] ["ends"] (zg zbE) := ⟨rfl, rfl, rfl, by decide +kernel, rfl, by decide +kernel, by decide +kernel⟩
abbrev zb1 : Stmt := top 26
theorem ziU : zK ["_law_script"] ["_law_script"] (zg zb1) := ⟨rfl, rfl, rfl, by decide +kernel, rfl, by decide +kernel, by decide +kernel⟩
abbrev zcn : Stmt := top 27
theorem zdc : zK ["_law_s", "_law_many", "_law_cell", "_law_found"] ["_law_s", "_law_many"] (zg zcn) := ⟨rfl, rfl, rfl, by decide +kernel, rfl, by decide +kernel, by decide +kernel⟩
abbrev zcq : Stmt := top 32
theorem zbv : zK ["_law_row_here", "_law_lines", "_law_the_slack", "_law_the_most", "_law_way_here", "_law_sums", "_law_line"] ["_law_row_here", "_law_lines", "_law_the_slack"] (zg zcq) := ⟨rfl, rfl, rfl, by decide +kernel, rfl, by decide +kernel, by decide +kernel⟩
abbrev zcU : Stmt := top 13
theorem zlk : zK ["text"] ["text"] (zg zcU) := ⟨rfl, rfl, rfl, by decide +kernel, rfl, by decide +kernel, by decide +kernel⟩
abbrev zbl : Stmt := top 16
theorem zgT : zK ["thing"] ["thing"] (zg zbl) := ⟨rfl, rfl, rfl, by decide +kernel, rfl, by decide +kernel, by decide +kernel⟩
abbrev za8 : Stmt := inClass (top 23) 4
theorem zkU : zK ["self", "name"] ["self", "name"] (zg za8) := ⟨rfl, rfl, rfl, by decide +kernel, rfl, by decide +kernel, by decide +kernel⟩
abbrev zcs : Stmt := top 28
theorem zko : zK ["_law_s", "_law_row_here"] ["_law_s", "_law_row_here"] (zg zcs) := ⟨rfl, rfl, rfl, by decide +kernel, rfl, by decide +kernel, by decide +kernel⟩
abbrev zcp : Stmt := top 29
theorem za5 : zK ["_law_s", "_law_names", "_law_letters", "_law_turn", "_law_size", "_law_word", "_law_k"] ["_law_s", "_law_names"] (zg zcp) := ⟨rfl, rfl, rfl, by decide +kernel, rfl, by decide +kernel, by decide +kernel⟩
abbrev zbF : Stmt := top 14
theorem zhD : zK ["text"] ["text"] (zg zbF) := ⟨rfl, rfl, rfl, by decide +kernel, rfl, by decide +kernel, by decide +kernel⟩
abbrev za2 : Stmt := top 17
theorem zgf : zK ["number", "least", "most"] ["number", "least", "most"] (zg za2) := ⟨rfl, rfl, rfl, by decide +kernel, rfl, by decide +kernel, by decide +kernel⟩
abbrev zbb : Stmt := inClass (top 23) 8
theorem zfZ : zK ["self", "other"] ["self"] (zg zbb) := ⟨rfl, rfl, rfl, by decide +kernel, rfl, by decide +kernel, by decide +kernel⟩
abbrev zcX : Stmt := top 30
theorem zdt : zK ["_law_s", "_law_names", "_law_lines", "_law_one", "_law_two", "_law_barred", "_law_fit", "_law_line"] ["_law_s", "_law_names", "_law_lines", "_law_one", "_law_two", "_law_barred"] (zg zcX) := ⟨rfl, rfl, rfl, by decide +kernel, rfl, by decide +kernel, by decide +kernel⟩
abbrev zac : Stmt := inClass (top 23) 12
theorem zfl : zK ["self", "name"] ["self", "name"] (zg zac) := ⟨rfl, rfl, rfl, by decide +kernel, rfl, by decide +kernel, by decide +kernel⟩
abbrev zc1 : Stmt := top 31
theorem zcl : zK ["_law_s", "_law_names", "_law_lines", "_law_gates", "_law_first", "_law_the_last", "_law_barred", "_law_free", "_law_way_here", "_law_k", "_law_gate"] ["_law_s", "_law_names", "_law_lines", "_law_gates", "_law_first", "_law_the_last", "_law_barred"] (zg zc1) := ⟨rfl, rfl, rfl, by decide +kernel, rfl, by decide +kernel, by decide +kernel⟩
abbrev za9 : Stmt := inClass (top 23) 3
theorem zkX : zK ["self", "name", "senders", "ears", "wire"] ["self", "name", "senders", "ears", "wire"] (zg za9) := ⟨rfl, rfl, rfl, by decide +kernel, rfl, by decide +kernel, by decide +kernel⟩
abbrev zaq : Stmt := inClass (top 23) 11
theorem zf7 : zK ["self", "name", "kind"] ["self", "name", "kind"] (zg zaq) := ⟨rfl, rfl, rfl, by decide +kernel, rfl, by decide +kernel, by decide +kernel⟩
abbrev zc0 : Stmt := top 33
theorem zbf : zK ["_law_s", "_law_names", "_law_lines", "_law_houses", "_law_gates", "_law_the_slack", "_law_at", "_law_first", "_law_the_last", "_law_ways", "_law_the_every", "_law_the_long", "_law_row_here", "_law_spare"] ["_law_s", "_law_names", "_law_lines", "_law_houses", "_law_gates", "_law_the_slack"] (zg zc0) := ⟨rfl, rfl, rfl, by decide +kernel, rfl, by decide +kernel, by decide +kernel⟩
abbrev zaR : Stmt := inClass (top 23) 1
theorem ziB : zK ["self", "name"] ["self", "name"] (zg zaR) := ⟨rfl, rfl, rfl, by decide +kernel, rfl, by decide +kernel, by decide +kernel⟩
abbrev za6 : Stmt := inClass (top 23) 2
theorem zj4 : zK ["self", "name"] ["self", "name"] (zg za6) := ⟨rfl, rfl, rfl, by decide +kernel, rfl, by decide +kernel, by decide +kernel⟩
abbrev zb0 : Stmt := top 34
theorem zbc : zK ["_law_s", "_law_the_most", "_law_names", "_law_houses", "_law_gates", "_law_the_slack", "_law_lines", "_law_rows"] ["_law_s", "_law_the_most"] (zg zb0) := ⟨rfl, rfl, rfl, by decide +kernel, rfl, by decide +kernel, by decide +kernel⟩
abbrev zcY : Stmt := top 35
theorem zby : zK ["_law_world_here", "_law_net_here", "_law_name_here", "_law_senders", "_law_ears", "_law_the_wire"] ["_law_world_here"] (zg zcY) := ⟨rfl, rfl, rfl, by decide +kernel, rfl, by decide +kernel, by decide +kernel⟩
abbrev zbX : Stmt := top 36
theorem za7 : zK ["_law_world_here", "_law_net_here", "_law_name_here", "_law_senders", "_law_ears", "_law_the_wire"] ["_law_world_here"] (zg zbX) := ⟨rfl, rfl, rfl, by decide +kernel, rfl, by decide +kernel, by decide +kernel⟩
abbrev zbC : Stmt := top 37
theorem zcw : zK ["_law_s", "_law_world_here", "_law_net_here", "_law_way_here", "_law_line", "_law_fresh"] ["_law_s", "_law_world_here", "_law_net_here"] (zg zbC) := ⟨rfl, rfl, rfl, by decide +kernel, rfl, by decide +kernel, by decide +kernel⟩
abbrev ze8 : Stmt := top 38
theorem zfo : zK ["_law_script", "_law_s", "_law_world_here", "_law_one", "_law_two", "_law_twin"] ["_law_script"] (zg ze8) := ⟨rfl, rfl, rfl, by decide +kernel, rfl, by decide +kernel, by decide +kernel⟩
end M

set_option synthInstance.maxHeartbeats 4000000
set_option synthInstance.maxSize 100000
set_option maxHeartbeats 4000000
namespace M
open PySem L2
/-! ### the law's own head: start, draws -/
section
variable {P : Program} {w : World} {K : PySem.W.Frag} {mg : Str -> Option Value} {base : Heap}
theorem zqF {f : Addr} {fd : FuncData} (F : Fun K "_law_draw" "_law_draw" zcn f fd) (B : Blt mg) : zas P w K mg base CX0 1 f fd ["_law_s", "_law_many"] zb9 := by
  refine F.okq zdc (fun vs H Q E h => ?_) (fun cdv A outer s H vs Q E hr h => ?_)
  . obtain ⟨a, l, m, rfl, _⟩ := h
    rfl
  obtain ⟨a, l, many, rfl, ⟨ns, i, b, c, ha, hl, hi, hb, hal⟩, hm, hm2, q⟩ := h
  refine ⟨_, (zj (zaL (zG zsh (zO (zbs K) (qv 0) zp (fun _ _ => rfl)) zp (zT _))
    (zj (zR (i := 2) zdc.nd rfl (Or.inl rfl) zp)
    (zj (zaL (zG zkn (zO (zbs K) (qv 0) zp (fun _ _ => rfl)) (zL (znr K) rfl B.len zba (za (zO (zbs K) (qv 0) zp (fun _ _ => rfl)) zf)) (zT _))
    (zj (zR (i := 2) zdc.nd rfl (Or.inl rfl) (zO (zbs K) (zO (zbs K) (qv 0) zp (fun _ _ => rfl)) (zO (zbs K) (qv 0) zp (fun _ _ => rfl)) (fun _ _ => rfl)))
    (zq (zgP (zau ziV (zO (zbs K) (qv 0) zp (fun _ _ => rfl)) zp) (ziM (qv 0) zp set_list))))
    zad)
    (zq (zaL (WW.qt (zeo (zG zp9 (qv 2) (zau zqe zp zp) (zT _)) (zeC (zG zgw (qv 2) (zfb zdK (zau zqe zp zp)) (zT _)))))
    (zq (zgP (zL zoW rfl B.abs zs2 (za (qv 2) zf)) (ziM (qv 0) zp set_list)))
    (zj (zgP (zau zfv (zau ziV (zau ziV (zau zos (zO (zbs K) (qv 0) zp (fun _ _ => rfl)) zp) (zau zfv (qv 2) zp)) zp) zp) (ziM (qv 0) zp set_list))
    (zq (zaB (zau zfv (zau zeT (zO (zbs K) (qv 0) zp (fun _ _ => rfl)) zp) (qv 1)))))))))
    zad)
    (zj (zR (i := 3) zdc.nd rfl (Or.inl rfl) (zau zfv (zO (zbs K) (qv 0) zp (fun _ _ => rfl)) (qv 1)))
    (zj (zgP (zau zeT (zO (zbs K) (qv 0) zp (fun _ _ => rfl)) (qv 1)) (ziM (qv 0) zp set_list))
    (zq (zaB (qv 3)))))), ?_⟩
  -- the end: from a great number
  have fin : ∀ (H1 : Hp) (i1 b1 c1 : Int) (x : Option V), H1 a = some (.lst [.ref l, .int i1, .int b1, .int c1]) -> 0 <= i1 -> 0 <= b1 -> ziA a H H1 ->
      (zhF (zdN (tOp (rI (fun _ j => 0 < j) fun i j => .int (i % j)) (tOp (zgx K) (zbN 0) (tC (.int 2))) (zbN 1)) (zen 3))
        (zhF (zdN (tOp (rI zg7 fun i j => .int (i / j)) (tOp (zgx K) (zbN 0) (tC (.int 2))) (zbN 1)) (zkw (zbN 0) (tC (.int 2)) zhs)) (zlT (zbN 3)))) { nx := fun _ H' => Q .non H', rt := Q } [some (.ref a), some (.int many), x, none] H1 := by
    intro H1 i1 b1 c1 x h1 hi1 hb1 o1
    refine ⟨_, rfl, _, _, _, _, rfl, rfl, SqL.of h1, rfl, _, rfl, _, _, rfl, rfl, hm, ?_⟩
    refine ⟨_, rfl, _, _, _, _, rfl, rfl, SqL.of h1, rfl, _, rfl, _, _, rfl, rfl, ⟨hm, hm2⟩, ?_⟩
    refine ⟨_, rfl, _, _, _, _, rfl, rfl, h1, rfl, ?_⟩
    refine ⟨_, rfl, ?_⟩
    refine q _ _ (Int.emod_nonneg _ (by omega)) (Int.emod_lt_of_pos _ hm) ⟨ns, i1, b1 / many, c1, zF, ?_, hi1, Int.ediv_nonneg hb1 (by omega), hal⟩ fun z hz => ?_
    . rw [zJ hal.symm, o1 _ hal.symm]; exact hl
    . rw [zJ hz]; exact o1 z hz
  refine ⟨_, rfl, _, _, _, _, rfl, rfl, SqL.of ha, rfl, rfl, _, rfl, ?_⟩
  refine zqi (fun c0 => ?_) (fun c0 => ?_)
  . refine ⟨_, rfl, _, _, _, _, rfl, rfl, SqL.of ha, rfl, _, rfl, _, _, _, _, rfl, rfl, SqL.of ha, rfl, _, _, rfl, .inl (SqL.of hl), _, _, rfl, rfl, _, rfl, ?_⟩
    -- behind the cell
    have cellEnd : ∀ (H1 : Hp) (i1 cell : Int), H1 a = some (.lst [.ref l, .int i1, .int b, .int c]) -> 0 <= i1 -> ziA a H H1 ->
      (zqG (tOr (zhl (tOp (rI0 fun i j => .bl (decide (j <= i))) (zbN 2) (tOp (rI zqJ fun i j => .int (i ^ j.toNat)) (tC (.int 10)) (tC (.int 18)))))
          (zhl (tOp (rI0 fun i j => .bl (decide (i <= j))) (zbN 2) (tUn (rU fun i => .int (-i)) (tOp (rI zqJ fun i j => .int (i ^ j.toNat)) (tC (.int 10)) (tC (.int 18)))))))
        (zdN (tCB (fun xs H Q => ∃ i, xs = [.int i] /\ Q (.int (if i < 0 then -i else i)) H) (ze6 (zbN 2) zfr)) (zkw (zbN 0) (tC (.int 2)) zhs))
        (zhF (zdN (tOp (rI (fun _ j => 0 < j) fun i j => .int (i % j)) (tOp (rI0 fun i j => .int (i + j)) (tOp (rI0 fun i j => .int (i + j)) (tOp (rI zi6 fun i j => .int (i * j)) (tOp (zgx K) (zbN 0) (tC (.int 3))) (tC (.int 48271))) (tOp (rI (fun _ j => 0 < j) fun i j => .int (i % j)) (zbN 2) (tC (.int 2147483647)))) (tC (.int 11))) (tC (.int 2147483647))) (zkw (zbN 0) (tC (.int 3)) zhs))
          (zlT (tOp (rI (fun _ j => 0 < j) fun i j => .int (i % j)) (tOp (rI zg7 fun i j => .int (i / j)) (tOp (zgx K) (zbN 0) (tC (.int 3))) (tC (.int 64))) (zbN 1)))))
        { nx := (zhF (zdN (tOp (rI (fun _ j => 0 < j) fun i j => .int (i % j)) (tOp (zgx K) (zbN 0) (tC (.int 2))) (zbN 1)) (zen 3))
        (zhF (zdN (tOp (rI zg7 fun i j => .int (i / j)) (tOp (zgx K) (zbN 0) (tC (.int 2))) (zbN 1)) (zkw (zbN 0) (tC (.int 2)) zhs)) (zlT (zbN 3)))) { nx := fun _ H' => Q .non H', rt := Q }, rt := Q } [some (.ref a), some (.int many), some (.int cell), none] H1 := by
      intro H1 i1 cell h1 hi1 o1
      have big : (zdN (tCB (fun xs H Q => ∃ i, xs = [.int i] /\ Q (.int (if i < 0 then -i else i)) H) (ze6 (zbN 2) zfr)) (zkw (zbN 0) (tC (.int 2)) zhs))
          { nx := (zhF (zdN (tOp (rI (fun _ j => 0 < j) fun i j => .int (i % j)) (tOp (zgx K) (zbN 0) (tC (.int 2))) (zbN 1)) (zen 3))
        (zhF (zdN (tOp (rI zg7 fun i j => .int (i / j)) (tOp (zgx K) (zbN 0) (tC (.int 2))) (zbN 1)) (zkw (zbN 0) (tC (.int 2)) zhs)) (zlT (zbN 3)))) { nx := fun _ H' => Q .non H', rt := Q }, rt := Q } [some (.ref a), some (.int many), some (.int cell), none] H1 := by
        refine ⟨_, rfl, _, rfl, _, rfl, _, _, _, _, rfl, rfl, h1, rfl, ?_⟩
        exact fin _ i1 (if cell < 0 then -cell else cell) c _ zF hi1 (by split <;> omega) fun z hz => by rw [zJ hz]; exact o1 z hz
      refine ⟨_, rfl, _, _, rfl, rfl, ⟨by decide, by decide, by decide⟩, _, _, rfl, rfl, _, rfl, ?_⟩
      refine zqi (fun c1 => ?_) (fun c1 => ?_)
      . exact zvL big
      . refine ⟨_, rfl, _, _, rfl, rfl, ⟨by decide, by decide, by decide⟩, _, rfl, _, _, rfl, rfl, _, rfl, ?_⟩
        refine zqi (fun c2 => big) (fun c2 => ?_)
        refine ⟨_, rfl, _, _, _, _, rfl, rfl, SqL.of h1, rfl, _, _, rfl, rfl, .inr ⟨by decide, by decide⟩, _, rfl, _, _, rfl, rfl, (show (0 : Int) < 2147483647 by decide), _, _, rfl, rfl, _, _, rfl, rfl, _, _, rfl, rfl, (show (0 : Int) < 2147483647 by decide), ?_⟩
        refine ⟨_, rfl, _, _, _, _, rfl, rfl, h1, rfl, ?_⟩
        refine ⟨_, rfl, _, _, _, _, rfl, rfl, SqL.of zF, rfl, _, _, rfl, rfl, ⟨by decide, by decide⟩, _, rfl, _, _, rfl, rfl, hm, ?_⟩
        refine q _ _ (Int.emod_nonneg _ (by omega)) (Int.emod_lt_of_pos _ hm) ⟨ns, i1, b, _, zF, ?_, hi1, hb, hal⟩ fun z hz => ?_
        . rw [zJ hal.symm, o1 _ hal.symm]; exact hl
        . rw [zJ hz]; exact o1 z hz
    refine zqi (fun c1 => ?_) (fun c1 => ?_)
    . have c1' : i < ((ns.map V.int).length : Int) := of_decide_eq_true c1
      rw [List.length_map] at c1'
      have hget : (ns.map V.int)[i.toNat]? = some (.int (ns[i.toNat]'(by omega))) := by rw [List.getElem?_map, List.getElem?_eq_getElem (by omega)]; rfl
      have hat := zcR hget
      rw [show ((i.toNat : Nat) : Int) = i by omega] at hat
      refine ⟨_, rfl, _, _, _, _, rfl, rfl, SqL.of ha, rfl, _, rfl, _, _, _, _, rfl, rfl, SqL.of ha, rfl, _, _, _, _, rfl, rfl, SqL.of hl, hat, ?_⟩
      refine ⟨_, rfl, _, _, _, _, rfl, rfl, SqL.of ha, rfl, _, _, rfl, rfl, _, rfl, _, _, _, _, rfl, rfl, ha, rfl, ?_⟩
      exact cellEnd _ (i + 1) _ zF (by omega) fun z hz => by rw [zJ hz]
    . exact cellEnd H i 0 ha hi fun z hz => rfl
  . exact fin H i b c none ha hi hb fun z hz => rfl

theorem zpf {f : Addr} {fd : FuncData} (F : Fun K "_law_start" "_law_start" zb1 f fd) (B : Blt mg) : zas P w K mg base CX0 1 f fd ["_law_script"] (zfa K) := by
  refine F.okq ziU (fun vs H Q E h => ?_) (fun cdv A outer s H vs Q E hr h => ?_)
  . obtain ⟨a, m, rfl, _⟩ := h
    rfl
  obtain ⟨a, ns, rfl, hS, q⟩ := h
  refine ⟨_, (zq (zaB (zcN (za (zag (zhh K) rfl B.list zlZ (za (zg1 (zpI K) (qv 0) zcu (zdf zp)) zf)) (za zp (za zp (za zp zf))))))), ?_⟩
  refine ⟨_, rfl, _, rfl, _, _, rfl, hS, fun p1 h1 => ?_⟩
  refine ⟨_, _, rfl, .inl (SqL.of zF), fun p2 h2 => ⟨by show 4 <= sizeLine; decide, fun p3 h3 => ?_⟩⟩
  have n21 : p2 ≠ p1 := fun z => by rw [z, zF] at h2; cases h2
  have n32 : p3 ≠ p2 := fun z => by rw [z, zF] at h3; cases h3
  rw [zJ n32] at h3
  have n31 : p3 ≠ p1 := fun z => by rw [z, zF] at h3; cases h3
  rw [zJ n31] at h3
  rw [zJ n21] at h2
  have cut : zga (ns.map V.int) none (some 63) = ((ns.drop (HT.sIx (ns.map V.int).length 0 none)).take (HT.sIx (ns.map V.int).length (ns.map V.int).length (some 63) - HT.sIx (ns.map V.int).length 0 none)).map V.int := by
    unfold zga; rw [List.map_take, List.map_drop]
  refine q p3 p2 _ h3 h2 ⟨((ns.drop (HT.sIx (ns.map V.int).length 0 none)).take (HT.sIx (ns.map V.int).length (ns.map V.int).length (some 63) - HT.sIx (ns.map V.int).length 0 none)), 0, 0, 90210, zF, ?_, by decide, by decide, n32⟩ fun b o e => ?_
  . rw [zJ n32.symm, zF, cut]
  . rw [zJ (zaD e h3), zJ (zaD e h2), zJ (zaD e h1)]
    exact e

end
end M

set_option synthInstance.maxHeartbeats 4000000
set_option synthInstance.maxSize 100000
set_option maxHeartbeats 4000000
namespace M
open PySem L2
abbrev tab : Tab := [("Net", ["kinds", "lines"])]
abbrev zaf : List Str := ["kinds", "lines"]
theorem zdB : zhn tab "Net" "kinds" = true := by decide +kernel
theorem ziX {v0 v1 : D} {R : D -> Prop} : zoM tab "kinds" "Net" zaf [v0, v1] R = R v0 := by
  simp only [zoM, zdB, true_and, List.zip_cons_cons, List.lookup_cons, beq_self_eq_true, zfE]
theorem zi2 {w v0 v1 : D} {R : List Str -> List D -> Prop} : zg5 tab "kinds" w "Net" zaf [v0, v1] R = R zaf [w, v1] := by
  rw [zg5, zdB, show putN "kinds" zaf = zaf from by simp only [putN, show (("lines" : Str) = "kinds") = False from eq_false (by decide +kernel), if_true, if_false], show putD "kinds" w zaf [v0, v1] = [w, v1] from by simp only [putD, show (("lines" : Str) = "kinds") = False from eq_false (by decide +kernel), if_true, if_false]]
  exact propext ⟨fun h => h.2.2, fun h => ⟨rfl, by show 2 < 1000; decide, h⟩⟩
theorem ziW {w  : D} {R : List Str -> List D -> Prop} : zg5 tab "kinds" w "Net" [] [] R = R ["kinds"] [w] := by
  rw [zg5, zdB, show putN "kinds" [] = (["kinds"] : List Str) from by simp only [putN, if_false], show putD "kinds" w [] [] = [w] from by simp only [putD, if_false]]
  exact propext ⟨fun h => h.2.2, fun h => ⟨rfl, by show 0 < 1000; decide, h⟩⟩
theorem zdG : zhn tab "Net" "lines" = true := by decide +kernel
theorem zjs {v0 v1 : D} {R : D -> Prop} : zoM tab "lines" "Net" zaf [v0, v1] R = R v1 := by
  simp only [zoM, zdG, true_and, List.zip_cons_cons, List.lookup_cons, show (("lines" : Str) == "kinds") = false from by decide +kernel, beq_self_eq_true, zfE]
theorem ziY {w v0 v1 : D} {R : List Str -> List D -> Prop} : zg5 tab "lines" w "Net" zaf [v0, v1] R = R zaf [v0, w] := by
  rw [zg5, zdG, show putN "lines" zaf = zaf from by simp only [putN, show (("kinds" : Str) = "lines") = False from eq_false (by decide +kernel), if_true, if_false], show putD "lines" w zaf [v0, v1] = [v0, w] from by simp only [putD, show (("kinds" : Str) = "lines") = False from eq_false (by decide +kernel), if_true, if_false]]
  exact propext ⟨fun h => h.2.2, fun h => ⟨rfl, by show 2 < 1000; decide, h⟩⟩
theorem ziZ {w v0 : D} {R : List Str -> List D -> Prop} : zg5 tab "lines" w "Net" ["kinds"] [v0] R = R ["kinds", "lines"] [v0, w] := by
  rw [zg5, zdG, show putN "lines" ["kinds"] = (["kinds", "lines"] : List Str) from by simp only [putN, show (("kinds" : Str) = "lines") = False from eq_false (by decide +kernel), if_false], show putD "lines" w ["kinds"] [v0] = [v0, w] from by simp only [putD, show (("kinds" : Str) = "lines") = False from eq_false (by decide +kernel), if_false]]
  exact propext ⟨fun h => h.2.2, fun h => ⟨rfl, by show 1 < 1000; decide, h⟩⟩
theorem zfp {v0 v1 : D} : List.lookup ("check_new" : Str) (zaf.zip [v0, v1]) = none := by
  simp only [List.zip_cons_cons, List.zip_nil_left, List.lookup_cons, List.lookup_nil, show (("check_new" : Str) == "kinds") = false from by decide +kernel, show (("check_new" : Str) == "lines") = false from by decide +kernel]
theorem zeI {v0 v1 : D} : List.lookup ("check_nodes" : Str) (zaf.zip [v0, v1]) = none := by
  simp only [List.zip_cons_cons, List.zip_nil_left, List.lookup_cons, List.lookup_nil, show (("check_nodes" : Str) == "kinds") = false from by decide +kernel, show (("check_nodes" : Str) == "lines") = false from by decide +kernel]
theorem zei {v0 v1 : D} : List.lookup ("check_unused" : Str) (zaf.zip [v0, v1]) = none := by
  simp only [List.zip_cons_cons, List.zip_nil_left, List.lookup_cons, List.lookup_nil, show (("check_unused" : Str) == "kinds") = false from by decide +kernel, show (("check_unused" : Str) == "lines") = false from by decide +kernel]
theorem zks {v0 v1 : D} : List.lookup ("drop" : Str) (zaf.zip [v0, v1]) = none := by
  simp only [List.zip_cons_cons, List.zip_nil_left, List.lookup_cons, List.lookup_nil, show (("drop" : Str) == "kinds") = false from by decide +kernel, show (("drop" : Str) == "lines") = false from by decide +kernel]
theorem zkV {v0 v1 : D} : List.lookup ("gate" : Str) (zaf.zip [v0, v1]) = none := by
  simp only [List.zip_cons_cons, List.zip_nil_left, List.lookup_cons, List.lookup_nil, show (("gate" : Str) == "kinds") = false from by decide +kernel, show (("gate" : Str) == "lines") = false from by decide +kernel]
theorem zi7 {v0 v1 : D} : List.lookup ("house" : Str) (zaf.zip [v0, v1]) = none := by
  simp only [List.zip_cons_cons, List.zip_nil_left, List.lookup_cons, List.lookup_nil, show (("house" : Str) == "kinds") = false from by decide +kernel, show (("house" : Str) == "lines") = false from by decide +kernel]
theorem zj5 {v0 v1 : D} : List.lookup ("kind" : Str) (zaf.zip [v0, v1]) = none := by
  simp only [List.zip_cons_cons, List.zip_nil_left, List.lookup_cons, List.lookup_nil, show (("kind" : Str) == "kinds") = false from by decide +kernel, show (("kind" : Str) == "lines") = false from by decide +kernel]
theorem zjL {v0 v1 : D} : List.lookup ("line" : Str) (zaf.zip [v0, v1]) = none := by
  simp only [List.zip_cons_cons, List.zip_nil_left, List.lookup_cons, List.lookup_nil, show (("line" : Str) == "kinds") = false from by decide +kernel, show (("line" : Str) == "lines") = false from by decide +kernel]
theorem ziP {v0 v1 : D} : List.lookup ("names" : Str) (zaf.zip [v0, v1]) = none := by
  simp only [List.zip_cons_cons, List.zip_nil_left, List.lookup_cons, List.lookup_nil, show (("names" : Str) == "kinds") = false from by decide +kernel, show (("names" : Str) == "lines") = false from by decide +kernel]
theorem zgb {v0 v1 : D} : List.lookup ("put_node" : Str) (zaf.zip [v0, v1]) = none := by
  simp only [List.zip_cons_cons, List.zip_nil_left, List.lookup_cons, List.lookup_nil, show (("put_node" : Str) == "kinds") = false from by decide +kernel, show (("put_node" : Str) == "lines") = false from by decide +kernel]
theorem zjS {v0 v1 : D} : List.lookup ("twin" : Str) (zaf.zip [v0, v1]) = none := by
  simp only [List.zip_cons_cons, List.zip_nil_left, List.lookup_cons, List.lookup_nil, show (("twin" : Str) == "kinds") = false from by decide +kernel, show (("twin" : Str) == "lines") = false from by decide +kernel]
abbrev zju : List Str := ["text", "signs", "most"]
@[reducible] def ze5 : DS := (zcF (zdg (zgV dLe dLe (dC (.int 1)) (dCB zdP (zb (zc 0) zr)) (zc 2)) (dCB zpD (zb (zdZ ["sign"] [1] [0] (zcP (zc 0)) (zx 0) zhx (dOp zrb (zc 0) (zc 1))) zr))))
def zcb : DSp := zaa ze5 zju 3
abbrev zkq : List Str := ["thing"]
@[reducible] def zf3 : DS := (zcF (zdg (dCB zgc (zb (zc 0) (zb (dC (.ty "int")) zr))) (zeX (dCB zgc (zb (zc 0) (zb (dC (.ty "bool")) zr))))))
def zbH : DSp := zaa zf3 zkq 1
abbrev zjx : List Str := ["self"]
@[reducible] def zeR : DS := (zN (zhX tab (zc 0) zjQ "kinds")
    (zhX tab (zc 0) zjQ "lines"))
def zal : DSp := zaa zeR zjx 1
abbrev zkF : List Str := ["self"]
@[reducible] def zfX : DS := (zcF (dCB zex (zb (zcM tab (zc 0) "kinds") zr)))
def zaH : DSp := zaa zfX zkF 1
abbrev zlA : List Str := ["self", "name"]
@[reducible] def zgR : DS := (zN (zbT (zW (dOp (zhg true) (zc 1) (zcM tab (zc 0) "kinds")))
    zcj
    zbh)
    (zcF (zmq (zcM tab (zc 0) "kinds") (zc 1))))
def zb3 : DSp := zaa zgR zlA 2
abbrev zjK : List Str := ["self"]
@[reducible] def zfV : DS := (zcF (dCB zhb (zb (zcM tab (zc 0) "kinds") zr)))
def zbR : DSp := zaa zfV zjK 1
abbrev zlj : List Str := ["self", "other"]
@[reducible] def zha : DS := (zcF (zdg (dCB (zmZ "Net") (zb (zc 1) (zb (dC (.cls "Net")) zr))) (zdg (dOp znm (zcM tab (zc 0) "kinds") (zcM tab (zc 1) "kinds")) (dOp znm (zcM tab (zc 0) "lines") (zcM tab (zc 1) "lines")))))
def zH : DSp := zaa zha zlj 2
abbrev ze9 : List Str := ["self", "ends", "text"]
@[reducible] def zde : DS := (zfe (zcP (zc 1)) (zx 2)
    (zbT (dOr (zW (dOp (zhg true) (zc 2) (zcM tab (zc 0) "kinds"))) (zW (dOp (zhg false) (zc 2) (zcM tab (zc 0) "lines"))))
    zcj
    zbh))
def zar : DSp := zaa zde ze9 2
abbrev zeH : List Str := ["self", "node", "name", "senders", "ears", "wire"]
@[reducible] def zc6 : DS := (zfe (zcP (dCB zex (zb (zcM tab (zc 0) "lines") zr))) (zx 2)
    (zN (zaT (zmq (zcM tab (zc 0) "lines") (zc 2)) (zn1 3 (zck (zx 3) (zck (zx 4) (zck (zx 5) zjT)))))
    (zbT (dOr (zW (dOp (zdz false) (zc 1) (zc 3))) (zW (dOp (zdz false) (zc 1) (zc 4))))
    zcj
    zbh)))
def zaQ : DSp := zaa zc6 zeH 2
abbrev zjm : List Str := ["ends"]
@[reducible] def zeP : DS := (zN (zbT (zjz (zW (zgV dLe dLe (dC (.int 1)) (dCB zdP (zb (zc 0) zr)) (dC (.int 6)))))
    zcj
    zbh)
    (zbT (zW (dOp dLt (zjw (zc 0)) (dCB zdP (zb (zc 0) zr))))
    zcj
    zbh))
def zaX : DSp := zaa zeP zjm 1
abbrev zk9 : List Str := ["_law_row_here", "_law_lines", "_law_the_slack", "_law_the_most", "_law_way_here", "_law_sums", "_law_line"]
@[reducible] def zhf : DS := (zN (zaT (dC (.int 0)) (zx 3))
    (zN (zfe (zcP (dOp dIx (zc 0) (dC (.int 1)))) (zx 4)
    (zN (zaT (dC (.int 0)) (zx 5))
    (zN (zfe (zcP (zc 1)) (zx 6)
    (zbT (zW (dOp (zdz false) (dOp dIx (zc 6) (dC (.int 0))) (zc 4)))
    (zaT (dOp zcG (dOp zcG (dOp zcG (zc 5) (dOp dIx (zc 0) (dC (.int 3)))) (dOp dIx (zc 6) (dC (.int 3)))) (zc 2)) (zx 5))
    zbh))
    (zaT (dCB zmE (zb (zc 3) (zb (zc 5) zr))) (zx 3)))))
    (zcF (zc 3))))
def zb4 : DSp := zaa zhf zk9 3
abbrev znB : List Str := ["text"]
@[reducible] def zid : DS := (zcF (dCall zcb (zb (zc 0) (zb (dC (.str "abcdefghijklmnopqrstuvwxyz")) (zb (dC (.int 8)) zr)))))
def zcA : DSp := zaa zid znB 1
abbrev zhB : List Str := ["thing"]
@[reducible] def zes : DS := (zbT (zjz (zW (dCall zbH (zb (zc 0) zr))))
    zcj
    zbh)
def zbi : DSp := zaa zes zhB 1
abbrev zlG : List Str := ["self", "name"]
@[reducible] def zgW : DS := (zN (zbT (zW (dOp dEq (zaZ "Net" "kind" zb3 2 0 [.p 0, .p 1] [] (zc 0) (zb (zc 1) zr) zr) (dC (.str "line"))))
    (zqT (zcM tab (zc 0) "lines") (zc 1))
    (zap (zaZ "Net" "check_unused" zaQ 2 0 [.p 0, .p 1] [] (zc 0) (zb (zc 1) zr) zr)))
    (zqT (zcM tab (zc 0) "kinds") (zc 1)))
def zb6 : DSp := zaa zgW zlG 2
abbrev zld : List Str := ["_law_s", "_law_row_here"]
@[reducible] def zgL : DS := (zcF (dOp dIx (zc 1) (dCall zai (zb (zc 0) (zb (dCB zdP (zb (zc 1) zr)) zr)))))
def zay : DSp := zaa zgL zld 2
abbrev zk0 : List Str := ["_law_s", "_law_names", "_law_letters", "_law_turn", "_law_size", "_law_word", "_law_k"]
@[reducible] def zhu : DS := (zN (zaT (dC (.str "abcdefghijklmnopqrstuvwxyz")) (zx 2))
    (zN (zfe (zdx (zb (dC (.int 4)) zr)) (zx 3)
    (zN (zaT (dOp zcG (dC (.int 1)) (dCall zai (zb (zc 0) (zb (dC (.int 3)) zr)))) (zx 4))
    (zN (zbT (zW (dOp dEq (zc 4) (dC (.int 3))))
    (zaT (dOp zcG (dC (.int 1)) (dCall zai (zb (zc 0) (zb (dC (.int 8)) zr)))) (zx 4))
    zbh)
    (zN (zaT (dBM "str" zoV (dC (.str "")) (zb (zdZ ["_law_k"] [2, 0] [0] (zdx (zb (zc 4) zr)) (zx 0) zhx (dOp dIx (zc 1) (dCall zai (zb (zc 2) (zb (dC (.int 26)) zr))))) zr)) (zx 5))
    (zbT (zW (dOp (zdz true) (zc 5) (zc 1)))
    (zN (zap (dBM "list" zbo (zc 1) (zb (zc 5) zr)))
    (zcF (zc 5)))
    zbh)))))
    (zN (zfe (zdx (zb (dC (.int 104)) zr)) (zx 6)
    (zN (zaT (dOp zkK (dOp dIx (zc 2) (dOp zrw (zc 6) (dC (.int 26)))) (dOp zcG (dC (.int 1)) (dOp zlW (zc 6) (dC (.int 26))))) (zx 5))
    (zbT (zW (dOp (zdz true) (zc 5) (zc 1)))
    (zN (zap (dBM "list" zbo (zc 1) (zb (zc 5) zr)))
    (zcF (zc 5)))
    zbh)))
    (zcF (dC (.str "zzzzzzzz"))))))
def z6 : DSp := zaa zhu zk0 2
abbrev zjB : List Str := ["text"]
@[reducible] def zeQ : DS := (zbT (zjz (zW (dCall zcA (zb (zc 0) zr))))
    zcj
    zbh)
def zbz : DSp := zaa zeQ zjB 1
abbrev zgB : List Str := ["number", "least", "most"]
@[reducible] def zd2 : DS := (zN (zap (dCall zbi (zb (zc 0) zr)))
    (zbT (zjz (zW (zgV dLe dLe (zc 1) (zc 0) (zc 2))))
    zcj
    zbh))
def zaW : DSp := zaa zd2 zgB 3
abbrev zln : List Str := ["self", "other"]
@[reducible] def zgD : DS := (zN (zaT (zkG "Net" zal 1 0 [.p 0] [] zr zr) (zx 1))
    (zN (zhX tab (zc 1) (dCB zgy (zb (zcM tab (zc 0) "kinds") zr)) "kinds")
    (zN (zhX tab (zc 1) (dCB zgy (zb (zcM tab (zc 0) "lines") zr)) "lines")
    (zcF (zc 1)))))
def zb5 : DSp := zaa zgD zln 1
abbrev zm5 : List Str := ["_law_s", "_law_names", "_law_lines", "_law_one", "_law_two", "_law_barred", "_law_fit", "_law_line"]
@[reducible] def zia : DS := (zN (zaT (zdZ ["_law_line"] [5, 3] [0] (zcP (zc 2)) (zx 0) (zq8 (zW (dOp (zdz true) (dOp dIx (zc 0) (dC (.int 0))) (zc 1))) (dOr (zW (dOp (zdz false) (zc 2) (dOp dIx (zc 0) (dC (.int 1))))) (zW (dOp dLt (dCB zdP (zb (dOp dIx (zc 0) (dC (.int 1))) zr)) (dC (.int 6)))))) (zc 0)) (zx 6))
    (zN (zaT (zdZ ["_law_line"] [4] [0] (zcP (zc 6)) (zx 0) (dOr (zW (dOp (zdz false) (zc 1) (dOp dIx (zc 0) (dC (.int 2))))) (zW (dOp dLt (dCB zdP (zb (dOp dIx (zc 0) (dC (.int 2))) zr)) (dC (.int 6))))) (zc 0)) (zx 6))
    (zN (zbT (zq8 (zW (dOp dLt (dCB zdP (zb (zc 2) zr)) (dC (.int 14)))) (dOr (zW (dOp dEq (dCB zdP (zb (zc 6) zr)) (dC (.int 0)))) (zW (dOp dEq (dCall zai (zb (zc 0) (zb (dC (.int 3)) zr))) (dC (.int 0))))))
    (zN (zap (dBM "list" zbo (zc 2) (zb (zjt (zb (dCall z6 (zb (zc 0) (zb (zc 1) zr))) (zb (zeu (zb (zc 3) zr)) (zb (zeu (zb (zc 4) zr)) (zb (dCall zai (zb (zc 0) (zb (dC (.int 4)) zr))) zr))))) zr)))
    (zcF (dOp dIx (dOp dIx (zc 2) (dUn zf9 (dC (.int 1)))) (dC (.int 0)))))
    zbh)
    (zN (zaT (dCall zay (zb (zc 0) (zb (zc 6) zr))) (zx 7))
    (zN (zbT (zW (dOp (zdz true) (zc 3) (dOp dIx (zc 7) (dC (.int 1)))))
    (zap (dBM "list" zbo (dOp dIx (zc 7) (dC (.int 1))) (zb (zc 3) zr)))
    zbh)
    (zN (zbT (zW (dOp (zdz true) (zc 4) (dOp dIx (zc 7) (dC (.int 2)))))
    (zap (dBM "list" zbo (dOp dIx (zc 7) (dC (.int 2))) (zb (zc 4) zr)))
    zbh)
    (zcF (dOp dIx (zc 7) (dC (.int 0))))))))))
def zb2 : DSp := zaa zia zm5 6
abbrev zf4 : List Str := ["self", "name"]
@[reducible] def zdL : DS := (zN (zap (dCall zbz (zb (zc 1) zr)))
    (zbT (zW (dOp (zhg false) (zc 1) (zcM tab (zc 0) "kinds")))
    zcj
    zbh))
def zan : DSp := zaa zdL zf4 2
abbrev zm1 : List Str := ["_law_s", "_law_names", "_law_lines", "_law_gates", "_law_first", "_law_the_last", "_law_barred", "_law_free", "_law_way_here", "_law_k", "_law_gate"]
@[reducible] def zh0 : DS := (zN (zaT (zdZ ["_law_gate"] [6] [0] (zcP (zc 3)) (zx 0) (zW (dOp (zdz true) (zc 0) (zc 1))) (zc 0)) (zx 7))
    (zN (zaT (zeu (zb (zc 4) zr)) (zx 8))
    (zN (zfe (zdx (zb (dCB zlt (zb (dCall zai (zb (zc 0) (zb (dC (.int 3)) zr))) (zb (dCB zdP (zb (zc 7) zr)) zr))) zr)) (zx 9)
    (zN (zaT (dCall zay (zb (zc 0) (zb (zc 7) zr))) (zx 10))
    (zN (zaT (zdZ ["_law_other_here"] [10] [0] (zcP (zc 7)) (zx 0) (zW (dOp dNe (zc 0) (zc 1))) (zc 0)) (zx 7))
    (zN (zap (dBM "list" zbo (zc 8) (zb (dCall zb2 (zb (zc 0) (zb (zc 1) (zb (zc 2) (zb (dOp dIx (zc 8) (dUn zf9 (dC (.int 1)))) (zb (zc 10) (zb (dOp zcG (zc 6) (zc 8)) zr))))))) zr)))
    (zap (dBM "list" zbo (zc 8) (zb (zc 10) zr)))))))
    (zN (zap (dBM "list" zbo (zc 8) (zb (dCall zb2 (zb (zc 0) (zb (zc 1) (zb (zc 2) (zb (dOp dIx (zc 8) (dUn zf9 (dC (.int 1)))) (zb (zc 5) (zb (dOp zcG (zc 6) (zc 8)) zr))))))) zr)))
    (zN (zap (dBM "list" zbo (zc 8) (zb (zc 5) zr)))
    (zcF (dCB zbn (zb (zc 8) zr))))))))
def zbW : DSp := zaa zh0 zm1 7
abbrev zlu : List Str := ["self", "name", "senders", "ears", "wire"]
@[reducible] def zgv : DS := (zN (zap (zaZ "Net" "check_new" zan 2 0 [.p 0, .p 1] [] (zc 0) (zb (zc 1) zr) zr))
    (zN (zbT (zW (dOp dGe (dCB zhb (zb (zcM tab (zc 0) "lines") zr)) (dC (.int 16))))
    zcj
    zbh)
    (zN (zap (dCall zaX (zb (zc 2) zr)))
    (zN (zap (dCall zaX (zb (zc 3) zr)))
    (zN (zap (zaZ "Net" "check_nodes" zar 2 0 [.p 0, .p 1] [] (zc 0) (zb (zc 2) zr) zr))
    (zN (zap (zaZ "Net" "check_nodes" zar 2 0 [.p 0, .p 1] [] (zc 0) (zb (zc 3) zr) zr))
    (zN (zap (dCall zaW (zb (zc 4) (zb (dC (.int 0)) (zb (dC (.int 30)) zr)))))
    (zN (zk5 (zcM tab (zc 0) "kinds") (zc 1) (dC (.str "line")))
    (zk5 (zcM tab (zc 0) "lines") (zc 1) (dTup (zb (dCB zbn (zb (dCB zex (zb (zc 2) zr)) zr)) (zb (dCB zbn (zb (dCB zex (zb (zc 3) zr)) zr)) (zb (zc 4) zr)))))))))))))
def zaz : DSp := zaa zgv zlu 5
abbrev zgA : List Str := ["self", "name", "kind"]
@[reducible] def zd4 : DS := (zN (zap (zaZ "Net" "check_new" zan 2 0 [.p 0, .p 1] [] (zc 0) (zb (zc 1) zr) zr))
    (zN (zbT (zW (dOp dGe (dOp zmK (dCB zhb (zb (zcM tab (zc 0) "kinds") zr)) (dCB zhb (zb (zcM tab (zc 0) "lines") zr))) (dC (.int 16))))
    zcj
    zbh)
    (zk5 (zcM tab (zc 0) "kinds") (zc 1) (zc 2))))
def zax : DSp := zaa zd4 zgA 3
abbrev znq : List Str := ["_law_s", "_law_names", "_law_lines", "_law_houses", "_law_gates", "_law_the_slack", "_law_at", "_law_first", "_law_the_last", "_law_ways", "_law_the_every", "_law_the_long", "_law_row_here", "_law_spare"]
@[reducible] def zig : DS := (zN (zaT (dCall zai (zb (zc 0) (zb (dCB zdP (zb (zc 3) zr)) zr))) (zx 6))
    (zN (zaT (dOp dIx (zc 3) (zc 6)) (zx 7))
    (zN (zaT (dOp dIx (zc 3) (dOp zrw (dOp zcG (dOp zcG (zc 6) (dC (.int 1))) (dCall zai (zb (zc 0) (zb (dOp zmK (dCB zdP (zb (zc 3) zr)) (dC (.int 1))) zr)))) (dCB zdP (zb (zc 3) zr)))) (zx 8))
    (zN (zaT (zeu (zb (dCall zbW (zb (zc 0) (zb (zc 1) (zb (zc 2) (zb (zc 4) (zb (zc 7) (zb (zc 8) (zb (zjt zr) zr)))))))) zr)) (zx 9))
    (zN (zbT (zW (dOp dEq (dCall zai (zb (zc 0) (zb (dC (.int 4)) zr))) (dC (.int 1))))
    (zap (dBM "list" zbo (zc 9) (zb (dCall zbW (zb (zc 0) (zb (zc 1) (zb (zc 2) (zb (zc 4) (zb (zc 7) (zb (zc 8) (zb (dCB zkp (zb (dSl zcd (dOp dIx (zc 9) (dC (.int 0))) (zbI (dC (.int 1))) (zbI (dUn zf9 (dC (.int 1))))) zr)) zr)))))))) zr)))
    zbh)
    (zN (zaT (dOp dIx (zjt (zl8 [12, 8, 20, 24, 10, 30, 15, 40, 60, 12, 120])) (dCall zai (zb (zc 0) (zb (dC (.int 11)) zr)))) (zx 10))
    (zN (zaT (dOp zcG (dC (.int 1)) (dCall zai (zb (zc 0) (zb (dCB zlt (zb (dC (.int 4)) (zb (dOp zmK (zc 10) (zc 5)) zr))) zr)))) (zx 11))
    (zN (zaT (dTup (zb (dCall z6 (zb (zc 0) (zb (zc 1) zr))) (zb (dCB zbn (zb (zc 9) zr)) (zb (zc 10) (zb (zc 11) (zb (dCall zai (zb (zc 0) (zb (zc 10) zr))) (zb (dC (.int 0)) zr))))))) (zx 12))
    (zN (zaT (dOp dIx (zjt (zb (dC (.int 0)) (zb (dC (.int 1)) (zb (dC (.int 2)) (zb (dOp zlW (zc 10) (dC (.int 2))) (zb (dC (.int 3)) (zb (dOp zmK (zc 10) (dC (.int 1))) (zb (dC (.int 6)) zr)))))))) (dCall zai (zb (zc 0) (zb (dC (.int 7)) zr)))) (zx 13))
    (zcF (dOp zcG (dSl zcd (zc 12) zao (zbI (dC (.int 5)))) (dTup (zb (dOp zcG (dCall zb4 (zb (zc 12) (zb (zc 2) (zb (zc 5) zr)))) (zc 13)) zr)))))))))))))
def zcD : DSp := zaa zig znq 6
abbrev zj6 : List Str := ["self", "name"]
@[reducible] def zfH : DS := (zap (zaZ "Net" "put_node" zax 3 0 [.p 0, .p 1, .p 2] [] (zc 0) (zb (zc 1) (zb (dC (.str "house")) zr)) zr))
def zak : DSp := zaa zfH zj6 2
abbrev zlF : List Str := ["self", "name"]
@[reducible] def zgZ : DS := (zap (zaZ "Net" "put_node" zax 3 0 [.p 0, .p 1, .p 2] [] (zc 0) (zb (zc 1) (zb (dC (.str "gate")) zr)) zr))
def zaG : DSp := zaa zgZ zlF 2
abbrev zkR : List Str := ["_law_s", "_law_the_most", "_law_names", "_law_houses", "_law_gates", "_law_the_slack", "_law_lines", "_law_rows"]
@[reducible] def zfM : DS := (zN (zaT (zeu zr) (zx 2))
    (zN (zaT (zdZ ["_law_k"] [2, 0] [0] (zdx (zb (dOp zcG (dC (.int 2)) (dCall zai (zb (zc 0) (zb (dC (.int 3)) zr)))) zr)) (zx 0) zhx (dCall z6 (zb (zc 2) (zb (zc 1) zr)))) (zx 3))
    (zN (zaT (zdZ ["_law_k"] [2, 0] [0] (zdx (zb (dCall zai (zb (zc 0) (zb (dC (.int 4)) zr))) zr)) (zx 0) zhx (dCall z6 (zb (zc 2) (zb (zc 1) zr)))) (zx 4))
    (zN (zaT (dOp dIx (zjt (zl8 [0, 1, 2, 0, 3, 1, 5, 7])) (dCall zai (zb (zc 0) (zb (dC (.int 8)) zr)))) (zx 5))
    (zN (zaT (zeu zr) (zx 6))
    (zN (zaT (zdZ ["_law_k"] [4, 3, 6, 2, 0, 5] [0] (zdx (zb (dOp zcG (dC (.int 1)) (dCall zai (zb (zc 0) (zb (zc 1) zr)))) zr)) (zx 0) zhx (dCall zcD (zb (zc 5) (zb (zc 4) (zb (zc 3) (zb (zc 2) (zb (zc 1) (zb (zc 6) zr)))))))) (zx 7))
    (zcF (dTup (zb (zc 3) (zb (zc 4) (zb (zc 6) (zb (zc 7) (zb (zc 5) (zb (zc 2) zr))))))))))))))
def zbP : DSp := zaa zfM zkR 2
abbrev zmI : List Str := ["_law_world_here", "_law_net_here", "_law_name_here", "_law_senders", "_law_ears", "_law_the_wire"]
@[reducible] def zhQ : DS := (zN (zaT (zkG "Net" zal 1 0 [.p 0] [] zr zr) (zx 1))
    (zN (zfe (zcP (dOp dIx (zc 0) (dC (.int 0)))) (zx 2)
    (zap (zaZ "Net" "house" zak 2 0 [.p 0, .p 1] [] (zc 1) (zb (zc 2) zr) zr)))
    (zN (zfe (zcP (dOp dIx (zc 0) (dC (.int 1)))) (zx 2)
    (zap (zaZ "Net" "gate" zaG 2 0 [.p 0, .p 1] [] (zc 1) (zb (zc 2) zr) zr)))
    (zN (zfe (zcP (dOp dIx (zc 0) (dC (.int 2)))) (zri 4 (zck (zx 2) (zck (zx 3) (zck (zx 4) (zck (zx 5) zjT)))))
    (zap (zaZ "Net" "line" zaz 4 1 [.p 0, .p 1, .p 2, .p 3, .k 0] [] (zc 1) (zb (zc 2) (zb (dCB zbn (zb (zc 3) zr)) (zb (dCB zbn (zb (zc 4) zr)) zr))) (zb (zc 5) zr))))
    (zcF (zc 1))))))
def zcC : DSp := zaa zhQ zmI 1
abbrev zkI : List Str := ["_law_world_here", "_law_net_here", "_law_name_here", "_law_senders", "_law_ears", "_law_the_wire"]
@[reducible] def zfK : DS := (zN (zaT (zkG "Net" zal 1 0 [.p 0] [] zr zr) (zx 1))
    (zN (zfe (zcP (zmT (dOp zcG (dOp dIx (zc 0) (dC (.int 0))) (dOp dIx (zc 0) (dC (.int 1)))) zao zao (zbI (dUn zf9 (dC (.int 1)))))) (zx 2)
    (zbT (zW (dOp (zdz false) (zc 2) (dOp dIx (zc 0) (dC (.int 0)))))
    (zap (zaZ "Net" "house" zak 2 0 [.p 0, .p 1] [] (zc 1) (zb (zc 2) zr) zr))
    (zap (zaZ "Net" "gate" zaG 2 0 [.p 0, .p 1] [] (zc 1) (zb (zc 2) zr) zr))))
    (zN (zfe (zcP (zmT (dOp dIx (zc 0) (dC (.int 2))) zao zao (zbI (dUn zf9 (dC (.int 1)))))) (zri 4 (zck (zx 2) (zck (zx 3) (zck (zx 4) (zck (zx 5) zjT)))))
    (zap (zaZ "Net" "line" zaz 4 1 [.p 0, .p 1, .p 2, .p 3, .k 0] [] (zc 1) (zb (zc 2) (zb (dCB zbn (zb (zmT (zc 3) zao zao (zbI (dUn zf9 (dC (.int 1))))) zr)) (zb (dCB zbn (zb (zmT (zc 4) zao zao (zbI (dUn zf9 (dC (.int 1))))) zr)) zr))) (zb (zc 5) zr))))
    (zcF (zc 1)))))
def zbS : DSp := zaa zfK zkI 1
abbrev ziK : List Str := ["_law_s", "_law_world_here", "_law_net_here", "_law_way_here", "_law_line", "_law_fresh"]
@[reducible] def zeS : DS := (zN (zaT (dCall zai (zb (zc 0) (zb (dC (.int 6)) zr))) (zx 3))
    (zN (zaT (dCall zay (zb (zc 0) (zb (dOp dIx (zc 1) (dC (.int 2))) zr))) (zx 4))
    (zN (zaT (dCall z6 (zb (zc 0) (zb (dOp dIx (zc 1) (dC (.int 5))) zr))) (zx 5))
    (zN (zbT (zW (dOp dEq (zc 3) (dC (.int 0))))
    (zap (zaZ "Net" "house" zak 2 0 [.p 0, .p 1] [] (zc 2) (zb (zc 5) zr) zr))
    (zbT (zW (dOp dEq (zc 3) (dC (.int 1))))
    (zap (zaZ "Net" "gate" zaG 2 0 [.p 0, .p 1] [] (zc 2) (zb (zc 5) zr) zr))
    (zbT (zW (dOp dEq (zc 3) (dC (.int 2))))
    (zap (zaZ "Net" "line" zaz 4 1 [.p 0, .p 1, .p 2, .p 3, .k 0] [] (zc 2) (zb (zc 5) (zb (dCB zbn (zb (dOp dIx (zc 4) (dC (.int 1))) zr)) (zb (dCB zbn (zb (dOp dIx (zc 4) (dC (.int 2))) zr)) zr))) (zb (dOp dIx (zc 4) (dC (.int 3))) zr)))
    (zap (zaZ "Net" "drop" zb6 2 0 [.p 0, .p 1] [] (zc 2) (zb (dOp dIx (zc 4) (dC (.int 0))) zr) zr)))))
    (zN (zbT (zW (dOp dEq (zc 3) (dC (.int 4))))
    (zap (zaZ "Net" "house" zak 2 0 [.p 0, .p 1] [] (zc 2) (zb (dOp dIx (zc 4) (dC (.int 0))) zr) zr))
    zbh)
    (zbT (zW (dOp dEq (zc 3) (dC (.int 5))))
    (zap (zaZ "Net" "line" zaz 4 1 [.p 0, .p 1, .p 2, .p 3, .k 0] [] (zc 2) (zb (dOp dIx (zc 4) (dC (.int 0))) (zb (dCB zbn (zb (dOp dIx (zc 4) (dC (.int 1))) zr)) (zb (dCB zbn (zb (dOp dIx (zc 4) (dC (.int 2))) zr)) zr))) (zb (dOp zcG (dOp dIx (zc 4) (dC (.int 3))) (dC (.int 1))) zr)))
    zbh))))))
def zaY : DSp := zaa zeS ziK 3
abbrev zsk : List Str := ["_law_script", "_law_s", "_law_world_here", "_law_one", "_law_two", "_law_twin"]
@[reducible] def zpL : DS := (zN (zaT (dCall ze0 (zb (zc 0) zr)) (zx 1))
    (zN (zaT (dCall zbP (zb (zc 1) (zb (dC (.int 4)) zr))) (zx 2))
    (zN (zaT (dCall zcC (zb (zc 2) zr)) (zx 3))
    (zN (zaT (dCall zbS (zb (zc 2) zr)) (zx 4))
    (zN (zaT (zaZ "Net" "twin" zb5 1 0 [.p 0] [] (zc 3) zr zr) (zx 5))
    (zN (zbT (dOr (zjz (zW (dOp (zd8 "Net" zH) (zc 3) (zc 4)))) (dOr (zjz (zW (dOp (zd8 "Net" zH) (zc 4) (zc 3)))) (dOr (zjz (zW (dOp (zd8 "Net" zH) (zc 5) (zc 3)))) (dOr (zW (dOp (zd8 "Net" zH) (zc 3) (dC (.str "net")))) (zW (dOp (zd8 "Net" zH) (zc 3) (dCB (zmo "Net" zbR) (zb (zc 3) zr))))))))
    (zcF (dC (.bl false)))
    zbh)
    (zN (zbT (zW (dOp dEq (dCall zai (zb (zc 1) (zb (dC (.int 2)) zr))) (dC (.int 0))))
    (zN (zap (dCall zaY (zb (zc 1) (zb (zc 2) (zb (zc 3) zr)))))
    (zcF (zdg (dOp (zd8 "Net" zH) (zc 5) (zc 4)) (zdg (zeX (dOp (zd8 "Net" zH) (zc 3) (zc 4))) (zdg (zeX (dOp (zd8 "Net" zH) (zc 4) (zc 3))) (zdg (zeX (dOp (zd8 "Net" zH) (zc 5) (zc 3))) (dOp dEq (zaZ "Net" "names" zaH 1 0 [.p 0] [] (zc 5) zr zr) (zaZ "Net" "names" zaH 1 0 [.p 0] [] (zc 4) zr zr))))))))
    zbh)
    (zN (zap (dCall zaY (zb (zc 1) (zb (zc 2) (zb (zc 5) zr)))))
    (zcF (zdg (dOp (zd8 "Net" zH) (zc 3) (zc 4)) (zdg (zeX (dOp (zd8 "Net" zH) (zc 5) (zc 4))) (zdg (zeX (dOp (zd8 "Net" zH) (zc 4) (zc 5))) (zdg (zeX (dOp (zd8 "Net" zH) (zc 3) (zc 5))) (dOp dEq (zaZ "Net" "names" zaH 1 0 [.p 0] [] (zc 3) zr zr) (zaZ "Net" "names" zaH 1 0 [.p 0] [] (zc 4) zr zr)))))))))))))))
end M

set_option synthInstance.maxHeartbeats 4000000
set_option synthInstance.maxSize 100000
set_option maxHeartbeats 4000000
namespace M
open PySem L2
local macro_rules | `(tactic| rw_mod_cast [$rs,*]) => do
  let ts : Array (Lean.TSyntax `term) := rs.getElems.map fun r => ⟨r.raw[1]⟩
  let ids : Array (Lean.TSyntax `term) := (("zN zaT zc dC dOp dUn ztC zq8 dOr zjz zdg zvM zeX dIf zru zsz ztP zoC zr zb zl8 dTup zjt zeu zbh zty zuT zap zcF zu3 zbT zcj zx zjT zqv zto zuJ zob zvS zrv zqd zpa zoN znU zfe dCall dCB zdZ zs6 ztb zq6 ztK zqM zuK zsZ zcP ztd ztU zsF zvl zmU zfE zni dSl zao zsR zdQ zuB zhx zva zq7 zq9 dBM zvK zov ztI zt7 zuE zqZ zuS zuY zr8 ztH zpy ztL zq5 zmK zlW zrw zvJ dLt dGt dLe dGe zuM zu4 zvG e_i zvh zvd zsI zr6 zsa zuF zu2 ztB ztR zsm ztc zq4 zrM zoh zpP zjO zpb zoJ zvf ztV zup zsM zt0 ztO zug zsp zlS zkO znh zlI zie zvQ zre zmF zns znc zpY zng znz zlJ Nat.reduceAdd Int.cast_ofNat_Int Int.reduceEq decide_true decide_false List.all_cons List.all_nil List.any_cons List.any_nil id_eq Bool.and_true Bool.true_and Bool.or_false zj9 zjb zkj ziz zkW zjq zhw ziR zsq zry ztF zjw zvE zif zsN zqV zcM zuN znZ zc2 zc7 zsX znd zaZ zkG zqp zr9 ziX zi2 ziW zjs ziY ziZ zfp zeI zei zks zkV zi7 zj5 zjL ziP zgb zjS sel pick List.getD_cons_zero List.getD_cons_succ beq_self_eq_true Bool.and_self cond_true zmj zqt zqH zub zqm zgN ends zfj zu zoo zn3 zrV zrU zsf zsH zt4 zs9 ztY zsn List.length_cons List.length_nil List.map_cons List.map_nil List.set_cons_zero List.set_cons_succ List.getElem?_cons_zero List.getElem?_cons_succ List.cons_append List.nil_append List.replicate Option.join_some Option.join_none true_and and_true if_true Bool.true_eq_false Bool.false_eq_true if_false Bool.not_true Bool.not_false".splitOn " ").map fun s => (⟨Lean.mkIdent s.toName⟩ : Lean.TSyntax `term)).toArray
  let all := ids ++ ts
  `(tactic| simp only [↓zqq, ↓zrr, ↓zqN, ↓zrO, ↓znF, ↓zny, ↓znu, ↓zm6, $[$all:term],*])
local macro_rules | `(tactic| walk_at "e") => `(tactic| rw_mod_cast [])
local macro_rules | `(tactic| walk_at "x") => `(tactic| repeat' first | exact zvN | exact zql | exact zts rfl | with_reducible apply zpw | with_reducible apply zu8 | exact zfu zoo | exact zfu zn3 | exact zfu zrV | exact zfu zrU | exact zfu zsf | exact zfu zr9 | exact zo3 zoo | exact zo3 zn3 | exact zuj | exact zt2 | apply zrK | with_reducible apply zsx | with_reducible apply zsE | with_reducible apply zvj | exact znA | with_reducible apply zsP | with_reducible apply zuf | with_reducible apply ztJ | with_reducible apply zue | with_reducible apply zsw | with_reducible apply zpe | with_reducible apply zpu | with_reducible apply zoi | with_reducible apply zpT | with_reducible apply zpZ | (show _ ≠ []; simp; done) | (show _ < List.length _; simp; done) | (show List.length _ <= 1000; simp; done) | (show List.length _ + List.length _ <= 1000; simp; done))
def letters : Str := "abcdefghijklmnopqrstuvwxyz"
theorem zjM : ∀ i : _root_.Fin 26, letters.cps.toList[i.val]? = some (97 + i.val) := by decide +kernel
theorem zg3 {v : Int} (h0 : 0 <= v) (h1 : v < 26) : atI letters.cps.toList v = some (97 + v.toNat) := by
  have h := zcR (zjM ⟨v.toNat, by omega⟩)
  rw [show ((v.toNat : Nat) : Int) = v by omega] at h
  exact h
def zbL (k : Nat) : Str := ⟨(List.replicate (1 + k / 26) (97 + k % 26)).toArray⟩
def zfm : List Str := (List.range 104).map zbL
theorem zf6 : zfm.Nodup := by decide +kernel
theorem zkb : ∀ k : _root_.Fin 104, ((zbL k.val).cps.toList.length <= 8 /\ 1 <= (zbL k.val).cps.toList.length) /\ (zbL k.val).cps.toList.all (fun c => decide (97 <= c /\ c <= 122)) = true := by decide +kernel
theorem znb {ns : List Str} (h : ns.length < 104) (all : ∀ k, k < 104 -> zbL k ∈ ns) : False := by
  have hs : zfm ⊆ ns := fun x hx => by
    obtain ⟨k, hk, rfl⟩ := List.mem_map.mp hx
    exact all k (List.mem_range.mp hk)
  have := List.Nodup.length_le_of_subset zf6 hs
  have e : zfm.length = 104 := by decide +kernel
  omega
/-! ### pick -/
theorem zmi {s : Nat} {ds : List D} {μ : Mu} {Q : DK} (hs : μ s = some .draw) (h0 : ds ≠ []) (hl : ds.length <= 1000) (q : ∀ (i : Nat) d, ds[i]? = some d -> Q d μ) : zay [.cell s, .lst ds] μ Q := by
  have hp : 0 < ds.length := List.length_pos_iff.mpr h0
  refine ⟨rfl, ?_⟩
  walk_at "e"
  refine ⟨hs, by omega, by omega, fun v v0 v1 => ?_⟩
  obtain ⟨d, e1, e2⟩ := ziI v0 v1
  rw_mod_cast [e1]
  exact ⟨_, .refl _, q _ d e2⟩
/-! ### names -/
theorem zfG (cs : List Nat) : (Str.join (Str.ofString "") (cs.map fun c => (⟨#[c]⟩ : Str))).cps.toList = cs := by
  show (Str.join Str.empty (cs.map fun c => (⟨#[c]⟩ : Str))).cps.toList = cs
  rw [zd5, List.map_map]
  induction cs with
  | nil => rfl
  | cons c r ih => rw [List.map_cons, List.flatten_cons, ih]; rfl
theorem zjr (cs : List Nat) : ze1 (cs.map fun c => (⟨#[c]⟩ : Str)) = cs.length + cs.length := by
  unfold ze1
  rw [List.map_map, List.length_map]
  congr 1
  induction cs with
  | nil => rfl
  | cons c r ih => rw [List.map_cons, List.sum_cons, ih, List.length_cons]; show 1 + r.length = _; omega
theorem zgr {s na : Nat} {ns : List Str} {μ : Mu} {Q : DK} (hs : μ s = some .draw) (hn : μ na = some (.lst (ns.map D.str))) (hl : ns.length < 100) (q : ∀ x, Nm x -> x ∉ ns -> Q (.str x) (zQ μ na (.lst ((ns ++ [x]).map D.str)))) : z6 [.cell s, .cell na] μ Q := by
  have hz : (200 : Nat) <= sizeLine := by decide
  have el : (Str.ofString "abcdefghijklmnopqrstuvwxyz") = letters := rfl
  have ll : letters.length <= sizeLine := by decide
  refine ⟨rfl, stp fun N1 h1 => ?_⟩
  walk_at "e"
  refine h1 _ _ (zjc (fun ρ μ' => ∃ x3 x4 x5, ρ = [some (.cell s), some (.cell na), some (.str letters), x3, x4, x5, none] /\ μ' = μ) (fun N hN => ?_) ?_)
  . walk_at "e"
    refine ⟨by decide, by decide, ?_⟩
    refine zbx (fun i ρ μ' => ∃ x3 x4 x5, ρ = [some (.cell s), some (.cell na), some (.str letters), x3, x4, x5, none] /\ μ' = μ) ⟨_, _, _, rfl, rfl⟩ ?_ (fun ρ μ' h => hN _ _ h)
    rintro i d ρ μ' hd ⟨x3, x4, x5, rfl, rfl⟩ M hM
    refine stp fun M1 g1 => ?_
    walk_at "e"
    refine ⟨hs, by decide, by decide, fun v v0 v1 => g1 _ _ (zjc (fun ρ μ2 => ∃ x3 x5 size, ρ = [some (.cell s), some (.cell na), some (.str letters), x3, some (.int size), x5, none] /\ μ2 = μ' /\ 1 <= size /\ size <= 8) (fun N hN => ?_) ?_)⟩
    . walk_at "e"
      split
      . exact ⟨hs, by decide, by decide, fun v v0 v1 => hN _ _ ⟨_, _, _, rfl, rfl, by omega, by omega⟩⟩
      . exact hN _ _ ⟨_, _, _, rfl, rfl, by omega, by omega⟩
    rintro ρ μ2 ⟨y3, y5, size, rfl, rfl, z1, z8⟩
    refine stp fun M2 g2 => ?_
    walk_at "e"
    refine ⟨by decide, by omega, by omega, ?_⟩
    refine zdI (fun i ys μ3 => μ3 = μ2 /\ ∃ cs : List Nat, ys = (cs.map fun c => (⟨#[c]⟩ : Str)).map D.str /\ cs.length = i /\ ∀ c ∈ cs, 97 <= c /\ c <= 122) ⟨rfl, [], rfl, rfl, fun c hc => by cases hc⟩ ?_ ?_
    . rintro i d ys μ3 hd ⟨rfl, cs, rfl, hc, hcs⟩
      obtain ⟨hi, rfl⟩ := zcB hd
      refine ⟨by rw [List.length_map, List.length_map]; omega, fun N hN => ?_⟩
      walk_at "e"
      refine ⟨hs, by decide, by decide, fun v v0 v1 => ?_⟩
      rw_mod_cast [zg3 v0 v1]
      refine ⟨ll, hN _ _ ⟨rfl, cs ++ [97 + v.toNat], by rw [List.map_append, List.map_append]; rfl, by rw [List.length_append, hc]; rfl, fun c h => ?_⟩⟩
      rcases List.mem_append.mp h with h | h
      . exact hcs c h
      . rw [List.mem_singleton.mp h]; omega
    rintro ys μ3 ⟨rfl, cs, rfl, hc, hcs⟩
    rw [zbJ] at hc
    refine ⟨cs.map fun c => (⟨#[c]⟩ : Str), rfl, by decide, by rw [zjr]; omega, g2 _ _ ?_⟩
    have nm : Nm (Str.join (Str.ofString "") (cs.map fun c => (⟨#[c]⟩ : Str))) := ⟨by rw [zfG]; omega, by rw [zfG]; omega, by rw [zfG]; exact hcs⟩
    generalize Str.join (Str.ofString "") (cs.map fun c => (⟨#[c]⟩ : Str)) = x at nm
    rw_mod_cast [zcT hn, Bool.true_xor]
    split
    . rename_i c
      have c' : x ∉ ns := by simpa using c
      rw_mod_cast [hn]
      refine ⟨by rw [List.length_map]; omega, _, .refl _, ?_⟩
      have := q x nm c'
      rw [List.map_append] at this; exact this
    . exact hM _ _ ⟨_, _, _, rfl, rfl⟩
  rintro ρ μ' ⟨x3, x4, x5, rfl, rfl⟩
  refine stp fun M1 g1 => ?_
  walk_at "e"
  refine ⟨by decide, by decide, ?_⟩
  refine zbx (fun i ρ μ2 => ∃ x5 x6, ρ = [some (.cell s), some (.cell na), some (.str letters), x3, x4, x5, x6] /\ μ2 = μ' /\ ∀ k, k < i -> zbL k ∈ ns) ⟨_, _, rfl, rfl, fun k hk => absurd hk (Nat.not_lt_zero k)⟩ ?_ ?_
  . rintro j d ρ μ2 hd ⟨x5, x6, rfl, rfl, hb⟩ M hM
    obtain ⟨hj, rfl⟩ := zcB hd
    have hj' : j < 104 := hj
    refine stp fun M2 g2 => ?_
    have e0 : (0 : Int) + (j : Int) = j := by omega
    rw [e0]
    rw_mod_cast [zg3 (v := (j : Int) % 26) (by omega) (by omega)]
    refine ⟨by decide, ll, ⟨by decide, by decide⟩, by omega, by omega, fun y hy => g2 _ _ ?_⟩
    have ex : y = zbL j := zrB (by
      rw [hy]
      show List.replicate (1 + (j : Int) / 26).toNat (97 + ((j : Int) % 26).toNat) = List.replicate (1 + j / 26) (97 + j % 26)
      congr 1 <;> omega)
    subst ex
    have nm : Nm (zbL j) := by
      obtain ⟨⟨h8, h1⟩, ha⟩ := zkb ⟨j, hj'⟩
      exact ⟨h1, h8, fun c hc => of_decide_eq_true (List.all_eq_true.mp ha c hc)⟩
    rw_mod_cast [zcT hn, Bool.true_xor]
    split
    . rename_i c
      have c' : zbL j ∉ ns := by simpa using c
      rw_mod_cast [hn]
      refine ⟨by rw [List.length_map]; omega, _, .refl _, ?_⟩
      have := q _ nm c'
      rw [List.map_append] at this; exact this
    . rename_i c
      have c' : zbL j ∈ ns := by simpa using c
      refine hM _ _ ⟨_, _, rfl, rfl, fun k hk => ?_⟩
      by_cases e : k = j
      . rw [e]; exact c'
      . exact hb k (by omega)
  . rintro ρ μ2 ⟨x5, x6, rfl, rfl, hb⟩
    rw [zbJ] at hb
    exact (znb (by omega) hb).elim
set_option synthInstance.maxHeartbeats 4000000
set_option synthInstance.maxSize 100000
set_option maxHeartbeats 4000000
/-! ### the world that a law draws, over data -/
def zbt (r : LR) : D := .lst [.str r.nm, .cell r.sa, .cell r.ea, .int r.w]
structure WD (μ : Mu) (s na la : Nat) (ns : List Str) (ls : List LR) : Prop where
  ds : μ s = some .draw
  dn : μ na = some (.lst (ns.map D.str))
  dl : μ la = some (.lst (ls.map zbt))
  nl : na ≠ la
  rs : ∀ r ∈ ls, μ r.sa = some (.lst (r.S.map D.str)) /\ μ r.ea = some (.lst (r.E.map D.str))
  ap : ∀ r ∈ ls, r.sa ≠ na /\ r.sa ≠ la /\ r.ea ≠ na /\ r.ea ≠ la
  nd : ∀ (i j : Nat) (r r' : LR), ls[i]? = some r -> ls[j]? = some r' -> (r.sa = r'.sa -> i = j) /\ (r.ea = r'.ea -> i = j) /\ r.sa ≠ r'.ea
/-- what is none of the world's stays -/
def zbQ (na la : Nat) (μ : Mu) (ls : List LR) (μ' : Mu) (ls' : List LR) : Prop := ∀ k c, μ k = some c -> k ≠ na -> k ≠ la -> (∀ r ∈ ls, k ≠ r.sa /\ k ≠ r.ea) -> μ' k = some c /\ ∀ r ∈ ls', k ≠ r.sa /\ k ≠ r.ea
theorem zbQ.refl {na la : Nat} {μ : Mu} {ls : List LR} : zbQ na la μ ls μ ls := fun _ _ e _ _ h => ⟨e, h⟩
theorem zbQ.trans {na la : Nat} {μ μ1 μ2 : Mu} {ls ls1 ls2 : List LR} (a : zbQ na la μ ls μ1 ls1) (b : zbQ na la μ1 ls1 μ2 ls2) : zbQ na la μ ls μ2 ls2 := fun k c e h1 h2 h3 => by
  obtain ⟨e1, n1⟩ := a k c e h1 h2 h3
  exact b k c e1 h1 h2 n1
theorem WD.sna {μ : Mu} {s na la : Nat} {ns : List Str} {ls : List LR} (W : WD μ s na la ns ls) : s ≠ na := fun z => by have := W.ds; rw [z, W.dn] at this; cases this
theorem WD.sla {μ : Mu} {s na la : Nat} {ns : List Str} {ls : List LR} (W : WD μ s na la ns ls) : s ≠ la := fun z => by have := W.ds; rw [z, W.dl] at this; cases this
/-- the names have grown -/
theorem WD.names {μ : Mu} {s na la : Nat} {ns ns' : List Str} {ls : List LR} (W : WD μ s na la ns ls) : WD (zQ μ na (.lst (ns'.map D.str))) s na la ns' ls where
  ds := by rw [zm W.sna]; exact W.ds
  dn := zu
  dl := by rw [zm (Ne.symm W.nl)]; exact W.dl
  nl := W.nl
  rs := fun r hr => by
    obtain ⟨a1, a2, a3, a4⟩ := W.ap r hr
    rw [zm a1, zm a3]; exact W.rs r hr
  ap := W.ap
  nd := W.nd
theorem zbQ.names {na la : Nat} {μ : Mu} {ls : List LR} {c : Ct} : zbQ na la μ ls (zQ μ na c) ls := fun k c e h1 h2 h3 => ⟨by rw [zm h1]; exact e, h3⟩
/-- a new cell that is none of the world's -/
theorem WD.cell {μ : Mu} {s na la k : Nat} {ns : List Str} {ls : List LR} {c : Ct} (W : WD μ s na la ns ls) (hk : μ k = none) : WD (zQ μ k c) s na la ns ls where
  ds := by rw [zm (fun z => by have := W.ds; rw [z, hk] at this; cases this)]; exact W.ds
  dn := by rw [zm (fun z => by have := W.dn; rw [z, hk] at this; cases this)]; exact W.dn
  dl := by rw [zm (fun z => by have := W.dl; rw [z, hk] at this; cases this)]; exact W.dl
  nl := W.nl
  rs := fun r hr => by
    obtain ⟨a1, a2⟩ := W.rs r hr
    rw [zm (fun z => by rw [z, hk] at a1; cases a1), zm (fun z => by rw [z, hk] at a2; cases a2)]; exact ⟨a1, a2⟩
  ap := W.ap
  nd := W.nd
theorem ziF {ls : List LR} {r : LR} (h : r ∈ ls) : ∃ i : Nat, ls[i]? = some r := List.getElem?_of_mem h
/-- a line more -/
theorem WD.line {μ : Mu} {s na la k1 k2 : Nat} {ns : List Str} {ls : List LR} {x : Str} {S E : List Str} {w : Int} {a0 : Addr} (W : WD μ s na la ns ls) (h1 : μ k1 = some (.lst (S.map D.str))) (h2 : μ k2 = some (.lst (E.map D.str))) (n12 : k1 ≠ k2)
    (f1 : k1 ≠ na /\ k1 ≠ la /\ ∀ r ∈ ls, k1 ≠ r.sa /\ k1 ≠ r.ea) (f2 : k2 ≠ na /\ k2 ≠ la /\ ∀ r ∈ ls, k2 ≠ r.sa /\ k2 ≠ r.ea) : WD (zQ μ la (.lst ((ls ++ [(⟨a0, k1, k2, x, S, E, w⟩ : LR)]).map zbt))) s na la ns (ls ++ [(⟨a0, k1, k2, x, S, E, w⟩ : LR)]) where
  ds := by rw [zm W.sla]; exact W.ds
  dn := by rw [zm W.nl]; exact W.dn
  dl := zu
  nl := W.nl
  rs := fun r hr => by
    rcases List.mem_append.mp hr with hr | hr
    . obtain ⟨a1, a2, a3, a4⟩ := W.ap r hr
      rw [zm a2, zm a4]; exact W.rs r hr
    . rw [List.mem_singleton.mp hr]
      exact ⟨by rw [zm f1.2.1]; exact h1, by rw [zm f2.2.1]; exact h2⟩
  ap := fun r hr => by
    rcases List.mem_append.mp hr with hr | hr
    . exact W.ap r hr
    . rw [List.mem_singleton.mp hr]; exact ⟨f1.1, f1.2.1, f2.1, f2.2.1⟩
  nd := fun i j r r' hi hj => by
    have key : ∀ {i : Nat} {r : LR}, (ls ++ [(⟨a0, k1, k2, x, S, E, w⟩ : LR)])[i]? = some r -> ls[i]? = some r \/ (i = ls.length /\ r = ⟨a0, k1, k2, x, S, E, w⟩) := fun {i r} h => by
      by_cases hl : i < ls.length
      . rw [List.getElem?_append_left hl] at h; exact .inl h
      . rw [List.getElem?_append_right (by omega)] at h
        by_cases e : i - ls.length = 0
        . rw [e] at h; cases h; exact .inr ⟨by omega, rfl⟩
        . rw [List.getElem?_eq_none (by simp; omega)] at h; cases h
    rcases key hi with a | ⟨a, rfl⟩ <;> rcases key hj with b | ⟨b, rfl⟩
    . exact W.nd i j r r' a b
    . obtain ⟨p1, p2⟩ := f1.2.2 r (List.mem_of_getElem? a)
      obtain ⟨p3, p4⟩ := f2.2.2 r (List.mem_of_getElem? a)
      exact ⟨fun z => absurd z.symm p1, fun z => absurd z.symm p4, fun z => p3 z.symm⟩
    . obtain ⟨p1, p2⟩ := f1.2.2 r' (List.mem_of_getElem? b)
      obtain ⟨p3, p4⟩ := f2.2.2 r' (List.mem_of_getElem? b)
      exact ⟨fun z => absurd z p1, fun z => absurd z p4, fun z => p2 z⟩
    . exact ⟨fun _ => by omega, fun _ => by omega, n12⟩
theorem ziC {ls : List LR} {i : Nat} {r r' : LR} (hr : ls[i]? = some r) (h : zbt r' = zbt r) : (ls.set i r').map zbt = ls.map zbt := by
  rw [List.map_set, h]
  apply List.ext_getElem?
  intro j
  by_cases e : i = j
  . subst e
    rw [List.getElem?_set_self (by rw [List.length_map]; exact (List.getElem?_eq_some_iff.mp hr).1), List.getElem?_map, hr]; rfl
  . rw [List.getElem?_set_ne e]
/-- the ends of a line have grown -/
theorem WD.ends {μ μ' : Mu} {s na la i : Nat} {ns : List Str} {ls : List LR} {r : LR} {S E : List Str} (W : WD μ s na la ns ls) (hr : ls[i]? = some r) (h1 : μ' r.sa = some (.lst (S.map D.str))) (h2 : μ' r.ea = some (.lst (E.map D.str))) (ho : ∀ k, k ≠ r.sa -> k ≠ r.ea -> μ' k = μ k) : WD μ' s na la ns (ls.set i { r with S := S, E := E }) := by
  have hm := List.mem_of_getElem? hr
  obtain ⟨a1, a2, a3, a4⟩ := W.ap r hm
  obtain ⟨b1, b2⟩ := W.rs r hm
  have key : ∀ {j : Nat} {q : LR}, (ls.set i { r with S := S, E := E })[j]? = some q -> (j = i /\ q = { r with S := S, E := E }) \/ (j ≠ i /\ ls[j]? = some q) := fun {j q} h => by
    by_cases e : i = j
    . subst e
      rw [List.getElem?_set_self (List.getElem?_eq_some_iff.mp hr).1] at h
      cases h; exact .inl ⟨rfl, rfl⟩
    . rw [List.getElem?_set_ne e] at h; exact .inr ⟨fun z => e z.symm, h⟩
  refine ⟨?_, ?_, ?_, W.nl, ?_, ?_, ?_⟩
  . rw [ho s (fun z => by have := W.ds; rw [z, b1] at this; cases this) (fun z => by have := W.ds; rw [z, b2] at this; cases this)]; exact W.ds
  . rw [ho na (Ne.symm a1) (Ne.symm a3)]; exact W.dn
  . rw [ho la (Ne.symm a2) (Ne.symm a4), ziC (r' := { r with S := S, E := E }) hr rfl]; exact W.dl
  . intro q hq
    obtain ⟨j, hj⟩ := ziF hq
    rcases key hj with ⟨rfl, rfl⟩ | ⟨hne, hj'⟩
    . exact ⟨h1, h2⟩
    . obtain ⟨c1, c2, c3⟩ := W.nd j i q r hj' hr
      obtain ⟨d1, d2, d3⟩ := W.nd i j r q hr hj'
      rw [ho q.sa (fun z => hne (c1 z)) c3, ho q.ea (Ne.symm d3) (fun z => hne (c2 z))]
      exact W.rs q (List.mem_of_getElem? hj')
  . intro q hq
    obtain ⟨j, hj⟩ := ziF hq
    rcases key hj with ⟨rfl, rfl⟩ | ⟨hne, hj'⟩
    . exact ⟨a1, a2, a3, a4⟩
    . exact W.ap q (List.mem_of_getElem? hj')
  . intro j j' q q' hj hj'
    rcases key hj with ⟨rfl, rfl⟩ | ⟨hne, hj1⟩ <;> rcases key hj' with ⟨rfl, rfl⟩ | ⟨hne', hj2⟩
    . exact ⟨fun _ => rfl, fun _ => rfl, (W.nd _ _ r r hr hr).2.2⟩
    . exact W.nd _ j' r q' hr hj2
    . exact W.nd j _ q r hj1 hr
    . exact W.nd j j' q q' hj1 hj2
set_option synthInstance.maxHeartbeats 4000000
set_option synthInstance.maxSize 100000
set_option maxHeartbeats 4000000
theorem zrH {c : DT} {t u : DS} {D0 : zcH} {ρ : zav} {μ : Mu} (P : Bool -> Mu -> Prop) (hc : ∀ R : Bool -> Mu -> Prop, (∀ b μ1, P b μ1 -> R b μ1) -> c ρ μ R) (h : ∀ b μ1, P b μ1 -> if b = true then t D0 ρ μ1 else u D0 ρ μ1) : zbT c t u D0 ρ μ := hc _ h
theorem zpF {s na la : Nat} {ns bd : List Str} {ls : List LR} {one two : Str} {μ : Mu} {Q : DK} (W : WD μ s na la ns ls) (hn : ns.length < 100) (h14 : ls.length <= 14) (hfit : ls.length = 14 -> ∃ r ∈ ls, zdM one bd r = true /\ zel two r = true) (h6 : ∀ r ∈ ls, r.S.length <= 6 /\ r.E.length <= 6)
    (q : ∀ x μ' ns' ls', WD μ' s na la ns' ls' -> zbQ na la μ ls μ' ls' -> zpl one two bd ns ls x ns' ls' -> Q (.str x) μ') : zb2 [.cell s, .cell na, .cell la, .str one, .str two, .lst (bd.map D.str)] μ Q := by
  have hz : (200 : Nat) <= sizeLine := by decide
  refine ⟨rfl, stp fun N1 h1 => ?_⟩
  rw_mod_cast [W.dl]
  refine ⟨by decide, zcQ ls zbt (zdM one bd) zbt (by omega) (fun r hr Y Z hY hZ => ?_) (h1 _ _ (stp fun N2 h2 => ?_)) W.dl⟩
  . obtain ⟨r1, r2⟩ := W.rs r hr
    unfold zbt at hY ⊢
    rw_mod_cast [zfy, zcT r1, r1, List.length_map, Bool.true_xor, Bool.false_xor]
    unfold zdM at hY hZ
    by_cases c1 : r.nm ∈ bd
    . rw_mod_cast [decide_eq_true c1]
      exact hZ (by simp [c1])
    . rw_mod_cast [decide_eq_false c1]
      by_cases c2 : one ∈ r.S
      . rw_mod_cast [decide_eq_true c2]
        exact hY (by simp [c1, c2])
      . rw_mod_cast [decide_eq_false c2]
        by_cases c3 : r.S.length < 6
        . rw_mod_cast [show decide ((r.S.length : Int) < 6) = true from decide_eq_true (by omega)]
          exact hY (by simp [c1, c3])
        . rw_mod_cast [show decide ((r.S.length : Int) < 6) = false from decide_eq_false (by omega)]
          exact hZ (by simp [c2, c3])
  walk_at "e"
  have hl1 : (ls.filter (zdM one bd)).length <= ls.length := List.length_filter_le _ _
  refine ⟨by decide, zcQ (ls.filter (zdM one bd)) zbt (zel two) zbt (by omega) (fun r hr Y Z hY hZ => ?_) (h2 _ _ (stp fun N3 h3 => ?_)) trivial⟩
  . obtain ⟨r1, r2⟩ := W.rs r (List.mem_filter.mp hr).1
    unfold zbt at hY ⊢
    rw_mod_cast [zcT r2, r2, List.length_map, Bool.false_xor]
    unfold zel at hY hZ
    by_cases c2 : two ∈ r.E
    . rw_mod_cast [decide_eq_true c2]
      exact hY (by simp [c2])
    . rw_mod_cast [decide_eq_false c2]
      by_cases c3 : r.E.length < 6
      . rw_mod_cast [show decide ((r.E.length : Int) < 6) = true from decide_eq_true (by omega)]
        exact hY (by simp [c3])
      . rw_mod_cast [show decide ((r.E.length : Int) < 6) = false from decide_eq_false (by omega)]
        exact hZ (by simp [c2, c3])
  generalize hfl : (ls.filter (zdM one bd)).filter (zel two) = fl
  have hfm : ∀ r ∈ fl, r ∈ ls /\ zdM one bd r = true /\ zel two r = true := fun r hr => by
    rw [<- hfl] at hr
    obtain ⟨a, b⟩ := List.mem_filter.mp hr
    obtain ⟨c, d⟩ := List.mem_filter.mp a
    exact ⟨c, d, b⟩
  have hfn : ls.length = 14 -> fl ≠ [] := fun e z => by
    obtain ⟨r, hr, f1, f2⟩ := hfit e
    have : r ∈ fl := by rw [<- hfl]; exact List.mem_filter.mpr ⟨List.mem_filter.mpr ⟨hr, f1⟩, f2⟩
    rw [z] at this; cases this
  have hfl14 : fl.length <= 14 := by rw [<- hfl]; exact Nat.le_trans (List.length_filter_le _ _) (Nat.le_trans hl1 h14)
  -- a new line
  have new : ls.length < 14 -> zN (zap (dBM "list" zbo (zc 2) (zb (zjt (zb (dCall z6 (zb (zc 0) (zb (zc 1) zr))) (zb (zeu (zb (zc 3) zr)) (zb (zeu (zb (zc 4) zr)) (zb (dCall zai (zb (zc 0) (zb (dC (.int 4)) zr))) zr))))) zr)))
    (zcF (dOp dIx (dOp dIx (zc 2) (dUn zf9 (dC (.int 1)))) (dC (.int 0)))) { (ends Q) with nx := N3 } [some (.cell s), some (.cell na), some (.cell la), some (.str one), some (.str two), some (.lst (bd.map D.str)), some (.lst (fl.map zbt)), none] μ := by
    intro hlt
    refine stp fun M1 g1 => ?_
    rw_mod_cast [W.dl]
    refine zgr W.ds W.dn hn fun x nm hx => ?_
    refine ⟨by decide, fun k1 hk1 => ⟨by decide, fun k2 hk2 => ?_⟩⟩
    have W1 : WD _ s na la (ns ++ [x]) ls := W.names (ns' := ns ++ [x])
    have W2 : WD _ s na la (ns ++ [x]) ls := W1.cell (c := .lst [.str one]) hk1
    have W3 : WD _ s na la (ns ++ [x]) ls := W2.cell (c := .lst [.str two]) hk2
    refine ⟨W3.ds, by decide, by decide, fun w w0 w1 => ⟨by decide, ?_⟩⟩
    rw [W3.dl]
    walk_at "e"
    refine ⟨by rw [List.length_map]; omega, g1 _ _ ?_⟩
    have n1 : ∀ k c, μ k = some c -> k1 ≠ k := fun k c e z => by
      subst z
      by_cases e2 : k1 = na
      . subst e2; rw [zu] at hk1; cases hk1
      . rw [zm e2, e] at hk1; cases hk1
    have n12 : k1 ≠ k2 := fun z => by subst z; rw [zu] at hk2; cases hk2
    have n2 : ∀ k c, μ k = some c -> k2 ≠ k := fun k c e z => by
      subst z
      rw [zm (Ne.symm n12)] at hk2
      by_cases e2 : k2 = na
      . subst e2; rw [zu] at hk2; cases hk2
      . rw [zm e2, e] at hk2; cases hk2
    have WL := W3.line (x := x) (S := [one]) (E := [two]) (w := w) (a0 := 0) (k1 := k1) (k2 := k2) (by rw [zm n12, zu]; rfl) (by rw [zu]; rfl) n12 ⟨n1 _ _ W.dn, n1 _ _ W.dl, fun r hr => ⟨n1 _ _ (W.rs r hr).1, n1 _ _ (W.rs r hr).2⟩⟩ ⟨n2 _ _ W.dn, n2 _ _ W.dl, fun r hr => ⟨n2 _ _ (W.rs r hr).1, n2 _ _ (W.rs r hr).2⟩⟩
    have eL : List.map zbt (ls ++ [({ a := 0, sa := k1, ea := k2, nm := x, S := [one], E := [two], w := w } : LR)]) = ls.map zbt ++ [.lst [.str x, .cell k1, .cell k2, .int w]] := by rw [List.map_append]; rfl
    rw [eL] at WL
    rw_mod_cast [zki]
    refine ⟨_, .refl _, q x _ _ _ WL ?_ (.new 0 k1 k2 w hx nm hlt w0 w1)⟩
    intro k c e hna hla hr
    refine ⟨?_, fun r hr' => ?_⟩
    . rw [zm hla, zm (fun z => n2 k c e z.symm), zm (fun z => n1 k c e z.symm), zm hna]; exact e
    . rcases List.mem_append.mp hr' with hr' | hr'
      . exact hr r hr'
      . rw [List.mem_singleton.mp hr']; exact ⟨fun z => n1 k c e z.symm, fun z => n2 k c e z.symm⟩
  have old : fl ≠ [] -> N3 [some (.cell s), some (.cell na), some (.cell la), some (.str one), some (.str two), some (.lst (bd.map D.str)), some (.lst (fl.map zbt)), none] μ := by
    intro hne
    refine h3 _ _ (stp fun M1 g1 => ?_)
    walk_at "e"
    refine zmi W.ds (by simpa using hne) (by rw [List.length_map]; omega) fun i d hd => ?_
    rw [List.getElem?_map] at hd
    cases hr : fl[i]? with
    | none => rw [hr] at hd; cases hd
    | some r =>
      rw [hr] at hd
      cases hd
      obtain ⟨hm, f1, f2⟩ := hfm r (List.mem_of_getElem? hr)
      obtain ⟨j, hj⟩ := ziF hm
      obtain ⟨r1, r2⟩ := W.rs r hm
      obtain ⟨c1, c2, c3⟩ := W.nd j j r r hj hj
      obtain ⟨l1, l2⟩ := h6 r hm
      unfold zbt
      refine g1 _ _ (zjc (fun ρ μ' => ρ = [some (.cell s), some (.cell na), some (.cell la), some (.str one), some (.str two), some (.lst (bd.map D.str)), some (.lst (fl.map zbt)), some (.lst [.str r.nm, .cell r.sa, .cell r.ea, .int r.w])] /\ μ' r.sa = some (.lst ((za4 one r.S).map D.str)) /\ ∀ k, k ≠ r.sa -> μ' k = μ k) (fun N hN => ?_) ?_)
      . rw_mod_cast [zcT r1, Bool.true_xor]
        by_cases c : one ∈ r.S
        . rw_mod_cast [decide_eq_true c]
          exact hN _ _ ⟨rfl, by rw [za4, if_pos c]; exact r1, fun _ _ => rfl⟩
        . rw_mod_cast [decide_eq_false c, r1]
          refine ⟨by rw [List.length_map]; omega, hN _ _ ⟨rfl, ?_, fun k hk => zm hk⟩⟩
          rw [zu, za4, if_neg c, List.map_append]; rfl
      rintro ρ μ1 ⟨rfl, e1, e2⟩
      have r2' : μ1 r.ea = some (.lst (r.E.map D.str)) := by rw [e2 _ (Ne.symm c3)]; exact r2
      refine zjc (fun ρ μ' => ρ = [some (.cell s), some (.cell na), some (.cell la), some (.str one), some (.str two), some (.lst (bd.map D.str)), some (.lst (fl.map zbt)), some (.lst [.str r.nm, .cell r.sa, .cell r.ea, .int r.w])] /\ μ' r.ea = some (.lst ((za4 two r.E).map D.str)) /\ ∀ k, k ≠ r.ea -> μ' k = μ1 k) (fun N hN => ?_) ?_
      . rw_mod_cast [zcT r2', Bool.true_xor]
        by_cases c : two ∈ r.E
        . rw_mod_cast [decide_eq_true c]
          exact hN _ _ ⟨rfl, by rw [za4, if_pos c]; exact r2', fun _ _ => rfl⟩
        . rw_mod_cast [decide_eq_false c, r2']
          refine ⟨by rw [List.length_map]; omega, hN _ _ ⟨rfl, ?_, fun k hk => zm hk⟩⟩
          rw [zu, za4, if_neg c, List.map_append]; rfl
      rintro ρ μ2 ⟨rfl, e3, e4⟩
      walk_at "e"
      refine ⟨_, .refl _, q r.nm μ2 ns _ (W.ends hj (by rw [e4 _ c3]; exact e1) e3 fun k hk1 hk2 => by rw [e4 k hk2, e2 k hk1]) ?_ (.old j r hj rfl f1 f2)⟩
      intro k c e hna hla hrr
      obtain ⟨p1, p2⟩ := hrr r hm
      refine ⟨by rw [e4 k p2, e2 k p1]; exact e, fun q' hq' => ?_⟩
      rcases zhd hq' with h | h
      . exact hrr q' h
      . rw [h]; exact ⟨p1, p2⟩
  refine zrH (fun b μ1 => μ1 = μ /\ (b = true -> ls.length < 14) /\ (b = false -> fl ≠ [])) (fun R hR => ?_) (fun b μ1 h => ?_)
  . rw_mod_cast [W.dl, List.length_map]
    by_cases c14 : ls.length < 14
    . rw_mod_cast [show decide ((ls.length : Int) < 14) = true from decide_eq_true (by omega)]
      by_cases c0 : fl = []
      . rw_mod_cast [show decide ((fl.length : Int) = 0) = true from decide_eq_true (by rw [c0]; rfl)]
        exact hR _ _ ⟨rfl, fun _ => c14, fun z => (by cases z)⟩
      . rw_mod_cast [show decide ((fl.length : Int) = 0) = false from decide_eq_false (fun z => c0 (List.length_eq_zero_iff.mp (by omega)))]
        exact ⟨W.ds, by decide, by decide, fun v v0 v1 => hR _ _ ⟨rfl, fun _ => c14, fun _ => c0⟩⟩
    . rw_mod_cast [show decide ((ls.length : Int) < 14) = false from decide_eq_false (by omega)]
      exact hR _ _ ⟨rfl, fun z => (by cases z), fun _ => hfn (by omega)⟩
  . obtain ⟨rfl, hb1, hb2⟩ := h
    cases b with
    | true => exact new (hb1 rfl)
    | false => exact old (hb2 rfl)
set_option synthInstance.maxHeartbeats 4000000
set_option synthInstance.maxSize 100000
set_option maxHeartbeats 4000000
theorem WD.other {μ : Mu} {s na la k : Nat} {ns : List Str} {ls : List LR} {c c' : Ct} (W : WD μ s na la ns ls) (hk : μ k = some c') (hd : c' ≠ .draw) (h : k ≠ na /\ k ≠ la /\ ∀ r ∈ ls, k ≠ r.sa /\ k ≠ r.ea) : WD (zQ μ k c) s na la ns ls where
  ds := by rw [zm (fun z => by have := W.ds; rw [z, hk] at this; cases this; exact hd rfl)]; exact W.ds
  dn := by rw [zm (Ne.symm h.1)]; exact W.dn
  dl := by rw [zm (Ne.symm h.2.1)]; exact W.dl
  nl := W.nl
  rs := fun r hr => by
    obtain ⟨a1, a2⟩ := h.2.2 r hr
    rw [zm (Ne.symm a1), zm (Ne.symm a2)]; exact W.rs r hr
  ap := W.ap
  nd := W.nd
theorem zbQ.put {na la k : Nat} {μ μ' : Mu} {ls ls' : List LR} {c : Ct} (T : zbQ na la μ ls μ' ls') (hk : μ k = none) : zbQ na la μ ls (zQ μ' k c) ls' := fun j d e h1 h2 h3 => by
  obtain ⟨a, b⟩ := T j d e h1 h2 h3
  exact ⟨by rw [zm (fun z => by rw [z, hk] at e; cases e)]; exact a, b⟩
theorem WD.free {μ : Mu} {s na la k : Nat} {ns : List Str} {ls : List LR} (W : WD μ s na la ns ls) (hk : μ k = none) : k ≠ na /\ k ≠ la /\ ∀ r ∈ ls, k ≠ r.sa /\ k ≠ r.ea :=
  ⟨fun z => (by have := W.dn; rw [<- z, hk] at this; cases this), fun z => (by have := W.dl; rw [<- z, hk] at this; cases this), fun r hr => ⟨fun z => (by have := (W.rs r hr).1; rw [<- z, hk] at this; cases this), fun z => (by have := (W.rs r hr).2; rw [<- z, hk] at this; cases this)⟩⟩
theorem zpi {s na la : Nat} {ho ga ns bd : List Str} {ls : List LR} {first last : Str} {h c : Nat} {μ : Mu} {Q : DK} (W : WD μ s na la ns ls) (N : zcI ho ga ns ls h c) (hh : h + 3 <= 48) (hc : c <= 60) (hfi : first ∈ ho) (hla : last ∈ ho) (hfl : first ≠ last) (hbs : beside ho ga bd <= 3) (hbn : ∀ y ∈ bd, y ∈ ns) (hgl : ga.length <= 3) (hbl : bd.length <= 10)
    (q : ∀ way k μ' ns' ls', WD μ' s na la ns' ls' -> zbQ na la μ ls μ' ls' -> zcI ho ga ns' ls' (h + 3) c -> zdi ns ls ls' -> (∀ y ∈ ns, y ∈ ns') -> 1 <= k -> k <= 3 -> Way ho ga ns' ls' bd first k (2 * k) way -> way[2 * k]? = some last -> Q (.tup (way.map D.str)) μ') :
    zbW [.cell s, .cell na, .cell la, .lst (ga.map D.str), .str first, .str last, .lst (bd.map D.str)] μ Q := by
  have hz : (200 : Nat) <= sizeLine := by decide
  refine ⟨rfl, stp fun N1 h1 => ?_⟩
  walk_at "e"
  refine ⟨by decide, zcQ ga D.str (fun x => !decide (x ∈ bd)) D.str (by omega) (fun x hx Y Z hY hZ => ?_) (h1 _ _ (stp fun N2 h2 => ?_)) trivial⟩
  . rw_mod_cast [zfy, Bool.true_xor]
    by_cases c1 : x ∈ bd
    . rw_mod_cast [decide_eq_true c1]; exact hZ (by simp [c1])
    . rw_mod_cast [decide_eq_false c1]; exact hY (by simp [c1])
  walk_at "e"
  refine ⟨by decide, fun kw hkw => h2 _ _ ?_⟩
  have gnd : ga.Nodup := (List.nodup_append.mp (List.nodup_append.mp N.nd).1).2.1
  have fr0 : ∀ x ∈ ga.filter (fun x => !decide (x ∈ bd)), x ∈ ga /\ x ∉ bd := fun x hx => by
    obtain ⟨m1, m2⟩ := List.mem_filter.mp hx
    exact ⟨m1, by simpa using m2⟩
  have frd : (ga.filter fun x => !decide (x ∈ bd)).Nodup := gnd.sublist List.filter_sublist
  have frl : (ga.filter fun x => !decide (x ∈ bd)).length <= 3 := Nat.le_trans (List.length_filter_le _ _) hgl
  generalize ga.filter (fun x => !decide (x ∈ bd)) = fr at fr0 frd frl
  have hop : ∀ (ns' : List Str) (ls' : List LR) (k : Nat) (wh : List Str) (one two : Str), zcI ho ga ns' ls' (h + k) c -> (∀ y ∈ ns, y ∈ ns') -> k <= 2 -> Way ho ga ns' ls' bd first k (2 * k + 1) wh -> wh[2 * k]? = some one -> two ∈ ho ++ ga -> two ∉ wh ->
      (ns'.length < 100 /\ (ls'.length = 14 -> ∃ r ∈ ls', zdM one (bd ++ wh) r = true /\ zel two r = true) /\ ∀ r ∈ ls', r.S.length <= 6 /\ r.E.length <= 6) /\
      ∀ x ns2 ls2, zpl one two (bd ++ wh) ns' ls' x ns2 ls2 -> zcI ho ga ns2 ls2 (h + (k + 1)) c /\ zdi ns' ls' ls2 /\ (∀ y ∈ ns, y ∈ ns2) /\ Way ho ga ns2 ls2 bd first (k + 1) (2 * k + 2) (wh ++ [x, two]) /\ (two ∈ ga -> two ∉ bd -> Way ho ga ns2 ls2 bd first (k + 1) (2 * k + 3) (wh ++ [x, two])) := by
    intro ns' ls' k wh one two N' sub' hk Y h1 ht htw
    refine ⟨⟨?_, fun h14 => ztD N' (by omega) one two ?_ h14, fun r hr => ⟨(N'.ends r hr).s6, (N'.ends r hr).e6⟩⟩, fun x ns2 ls2 R => ?_⟩
    . have := N'.cnt; have := N'.len; omega
    . rw [zem]; have := Y.bs; omega
    . have bsub : ∀ y ∈ bd ++ wh, y ∈ ns' := fun y hy => (List.mem_append.mp hy).elim (fun z => sub' y (hbn y z)) (Y.sub y)
      obtain ⟨N2, G2, J2, xb, sub2, xg, xn⟩ := zqo N' (Y.nn k one h1) ht bsub R
      have xb1 : x ∉ bd := fun z => xb (List.mem_append_left _ z)
      have xb2 : x ∉ wh := fun z => xb (List.mem_append_right _ z)
      obtain ⟨Y1, Y2⟩ := (Y.grow G2 sub2).step h1 J2 xg xb1 xb2 xn htw ht (N2.sub two (List.mem_append_left _ ht))
      exact ⟨N2, G2, fun y hy => sub2 y (sub' y hy), Y1, Y2⟩
  have lastOf : ∀ (k : Nat) (wh : List Str), wh.length = 2 * k + 1 -> ∃ one, wh[2 * k]? = some one /\ atI (wh.map D.str) (-1) = some (.str one) := fun k wh e => by
    have hlt : 2 * k < wh.length := by omega
    refine ⟨wh[2 * k], List.getElem?_eq_getElem hlt, ?_⟩
    rw [znW, List.getLast?_eq_getElem?, List.length_map, List.getElem?_map, show wh.length - 1 = 2 * k by omega, List.getElem?_eq_getElem hlt]; rfl
  refine zjc (fun ρ μ' => ∃ (k : Nat) (ns' wh : List Str) (ls' : List LR) (x7 x9 x10 : Option D), ρ = [some (.cell s), some (.cell na), some (.cell la), some (.lst (ga.map D.str)), some (.str first), some (.str last), some (.lst (bd.map D.str)), x7, some (.cell kw), x9, x10] /\ k <= 2 /\
    WD μ' s na la ns' ls' /\ zbQ na la μ ls μ' ls' /\ zcI ho ga ns' ls' (h + k) c /\ zdi ns ls ls' /\ (∀ y ∈ ns, y ∈ ns') /\ Way ho ga ns' ls' bd first k (2 * k + 1) wh /\ μ' kw = some (.lst (wh.map D.str)) /\ (kw ≠ na /\ kw ≠ la /\ ∀ r ∈ ls', kw ≠ r.sa /\ kw ≠ r.ea)) (fun NX hNX => ?_) ?_
  . have W1 : WD (zQ μ kw (.lst [.str first])) s na la ns ls := W.cell hkw
    walk_at "e"
    refine ⟨W1.ds, by decide, by decide, fun v v0 v1 => ?_⟩
    rw [List.length_map]
    have bn : (if (fr.length : Int) < v then (fr.length : Int) else v) <= 2 /\ 0 <= (if (fr.length : Int) < v then (fr.length : Int) else v) /\ (if (fr.length : Int) < v then (fr.length : Int) else v) <= fr.length := by split <;> omega
    generalize (if (fr.length : Int) < v then (fr.length : Int) else v) = n at bn
    obtain ⟨n2, n0, nl⟩ := bn
    refine ⟨by omega, by omega, ?_⟩
    refine zbx (fun j ρ μ' => ∃ (ns' wh fr' : List Str) (ls' : List LR) (x9 x10 : Option D), ρ = [some (.cell s), some (.cell na), some (.cell la), some (.lst (ga.map D.str)), some (.str first), some (.str last), some (.lst (bd.map D.str)), some (.lst (fr'.map D.str)), some (.cell kw), x9, x10] /\
      WD μ' s na la ns' ls' /\ zbQ na la μ ls μ' ls' /\ zcI ho ga ns' ls' (h + j) c /\ zdi ns ls ls' /\ (∀ y ∈ ns, y ∈ ns') /\ Way ho ga ns' ls' bd first j (2 * j + 1) wh /\ μ' kw = some (.lst (wh.map D.str)) /\ (kw ≠ na /\ kw ≠ la /\ ∀ r ∈ ls', kw ≠ r.sa /\ kw ≠ r.ea) /\ fr'.Nodup /\ (∀ x ∈ fr', x ∈ ga /\ x ∉ bd /\ x ∉ wh) /\ n <= fr'.length + j /\ fr'.length <= 3)
      ⟨ns, [first], fr, ls, _, _, rfl, W1, zbQ.refl.put hkw, N, zdi.refl _ _, fun _ h => h, .one (List.mem_append_left _ hfi) (N.sub _ (List.mem_append_left _ (List.mem_append_left _ hfi))), zu, W.free hkw, frd, fun x hx => ⟨(fr0 x hx).1, (fr0 x hx).2, fun z => ?_⟩, by omega, frl⟩ ?_ ?_
    . rw [List.mem_singleton.mp z] at hx
      exact N.nd2 hfi (fr0 _ hx).1
    . rintro j d ρ μ1 hd ⟨ns', wh, fr', ls', x9, x10, rfl, W5, T5, N5, G5, sub5, Y, hw5, f5, fnd, fin, fn, fl⟩ M hM
      obtain ⟨hj, rfl⟩ := zcB hd
      refine stp fun M1 g1 => ?_
      walk_at "e"
      refine zmi W5.ds ?_ (by rw [List.length_map]; omega) fun i d hd => ?_
      . intro z
        have := congrArg List.length z
        rw [List.length_map] at this
        simp at this
        subst this
        simp at fn
        omega
      rw [List.getElem?_map] at hd
      cases hgt : fr'[i]? with
      | none => rw [hgt] at hd; cases hd
      | some gt =>
        rw [hgt] at hd
        cases hd
        obtain ⟨g1', g2', g3'⟩ := fin gt (List.mem_of_getElem? hgt)
        refine g1 _ _ (stp fun M2 g2 => ?_)
        walk_at "e"
        refine ⟨by decide, zcQ fr' D.str (fun y => !decide (y = gt)) D.str (by omega) (fun x hx Y Z hY hZ => ?_) (g2 _ _ (stp fun M3 g3 => ?_)) trivial⟩
        . walk_at "e"
          by_cases c1 : x = gt
          . rw_mod_cast [decide_eq_true c1]; exact hZ (by simp [c1])
          . rw_mod_cast [decide_eq_false c1]; exact hY (by simp [c1])
        have fnd' : (fr'.filter fun y => !decide (y = gt)).Nodup := fnd.sublist List.filter_sublist
        have fin' : ∀ x ∈ fr'.filter (fun y => !decide (y = gt)), x ∈ fr' /\ x ≠ gt := fun x hx => by
          obtain ⟨m1, m2⟩ := List.mem_filter.mp hx
          exact ⟨m1, by simpa using m2⟩
        have fl' : fr'.length <= (fr'.filter fun y => !decide (y = gt)).length + 1 := zeq fnd
        have fl3 : (fr'.filter fun y => !decide (y = gt)).length <= 3 := Nat.le_trans (List.length_filter_le _ _) fl
        generalize fr'.filter (fun y => !decide (y = gt)) = fr2 at fnd' fin' fl' fl3
        obtain ⟨one, h1', hlast⟩ := lastOf j wh Y.len
        obtain ⟨⟨c1, c2, c3⟩, post⟩ := hop ns' ls' j wh one gt N5 sub5 (by omega) Y h1' (List.mem_append_right _ g1') g3'
        rw_mod_cast [hw5, hlast]
        refine ⟨by rw [List.length_map, List.length_map, Y.len]; omega, ?_⟩
        rw [<- List.map_append]
        refine zpF W5 c1 N5.len c2 c3 fun x μ2 ns2 ls2 W9 T9 R => ?_
        obtain ⟨N9, G9, sub9, Y1, Y2⟩ := post x ns2 ls2 R
        obtain ⟨hw9, f9⟩ := T9 kw _ hw5 f5.1 f5.2.1 f5.2.2
        rw_mod_cast [hw9]
        refine ⟨by rw [List.length_map, Y.len]; omega, g3 _ _ ?_⟩
        rw_mod_cast [zu]
        refine ⟨by rw [List.length_append, List.length_map, Y.len]; show 2 * j + 1 + 1 < sizeLine; omega, hM _ _ ?_⟩
        have em : wh.map D.str ++ [.str x] ++ [.str gt] = (wh ++ [x, gt]).map D.str := by rw [List.map_append (l₂ := [x, gt]), List.append_assoc]; rfl
        rw [zdq, em]
        refine ⟨ns2, wh ++ [x, gt], fr2, ls2, _, _, rfl, W9.other hw9 (by simp) ⟨f5.1, f5.2.1, f9⟩, (T5.trans T9).put hkw, N9, G5.trans sub5 G9, sub9, Y2 g1' g2', zu, ⟨f5.1, f5.2.1, f9⟩, fnd', fun y hy => ⟨(fin y (fin' y hy).1).1, (fin y (fin' y hy).1).2.1, fun z => ?_⟩, by omega, fl3⟩
        rcases List.mem_append.mp z with z | z
        . exact (fin y (fin' y hy).1).2.2 z
        . rcases List.mem_cons.mp z with e | z
          . have := (Y1.ln j x (by rw [List.getElem?_append_right (by rw [Y.len]; omega), Y.len, Nat.sub_self]; rfl)).1
            exact this (List.mem_append_right _ (e ▸ (fin y (fin' y hy).1).1))
          . exact (fin' y hy).2 (List.mem_singleton.mp z)
    . rintro ρ μ1 ⟨ns', wh, fr', ls', x9, x10, rfl, W5, T5, N5, G5, sub5, Y, hw5, f5, fnd, fin, fn, fl⟩
      rw [zbJ] at *
      exact hNX _ _ ⟨n.toNat, ns', wh, ls', _, _, _, rfl, by omega, W5, T5, N5, G5, sub5, Y, hw5, f5⟩
  . rintro ρ μ1 ⟨k, ns', wh, ls', x7, x9, x10, rfl, hk, W7, T7, N7, G7, sub7, Y, hw7, f7⟩
    have lw : last ∉ wh := fun z => by
      rcases Y.mem z (Nat.le_refl _) with e | e | e
      . exact hfl e.symm
      . exact e (List.mem_append_left _ hla)
      . exact N.nd2 hla e
    obtain ⟨one, h1', hlast⟩ := lastOf k wh Y.len
    obtain ⟨⟨c1, c2, c3⟩, post⟩ := hop ns' ls' k wh one last N7 sub7 (by omega) Y h1' (List.mem_append_left _ hla) lw
    refine stp fun M1 g1 => ?_
    rw_mod_cast [hw7, hlast]
    refine ⟨by rw [List.length_map, List.length_map, Y.len]; omega, ?_⟩
    rw [<- List.map_append]
    refine zpF W7 c1 N7.len c2 c3 fun x μ2 ns2 ls2 W9 T9 R => ?_
    obtain ⟨N9, G9, sub9, Y1, Y2⟩ := post x ns2 ls2 R
    obtain ⟨hw9, f9⟩ := T9 kw _ hw7 f7.1 f7.2.1 f7.2.2
    rw_mod_cast [hw9]
    refine ⟨by rw [List.length_map, Y.len]; omega, g1 _ _ (stp fun M2 g2 => ?_)⟩
    rw_mod_cast [zu]
    refine ⟨by rw [List.length_append, List.length_map, Y.len]; show 2 * k + 1 + 1 < sizeLine; omega, g2 _ _ ?_⟩
    have em : wh.map D.str ++ [.str x] ++ [.str last] = (wh ++ [x, last]).map D.str := by rw [List.map_append (l₂ := [x, last]), List.append_assoc]; rfl
    rw [zdq, em]
    rw_mod_cast [zu]
    refine ⟨_, .refl _, q (wh ++ [x, last]) (k + 1) _ ns2 ls2 (W9.other hw9 (by simp) ⟨f7.1, f7.2.1, f9⟩) ((T7.trans T9).put hkw) (N9.more (by omega)) (G7.trans sub7 G9) sub9 (by omega) (by omega) Y1 ?_⟩
    rw [List.getElem?_append_right (by rw [Y.len]; omega), Y.len, show 2 * (k + 1) - (2 * k + 1) = 1 by omega]; rfl
set_option synthInstance.maxHeartbeats 4000000
set_option synthInstance.maxSize 100000
set_option maxHeartbeats 4000000
def zix (w : List Str) : D := .tup (w.map D.str)
def zte (r : RW) : D := .tup [.str r.nm, .tup (r.ways.map zix), .int r.e, .int r.lo, .int r.re, .int r.lst]
theorem foldl_take_succ {α β : Type} (f : β -> α -> β) (b : β) {xs : List α} {i : Nat} {x : α} (h : xs[i]? = some x) : (xs.take (i + 1)).foldl f b = f ((xs.take i).foldl f b) x := by
  rw [List.take_add_one, h, List.foldl_append]; rfl
theorem zqr {s na la : Nat} {ns : List Str} {ls : List LR} {ways : List (List Str)} {nm : Str} {e lo re x5 sl : Int} {μ : Mu} {Q : DK} (W : WD μ s na la ns ls) (q : Q (.int (zh9 ls ways lo sl)) μ) : zb4 [.tup [.str nm, .tup (ways.map zix), .int e, .int lo, .int re, .int x5], .cell la, .int sl] μ Q := by
  refine ⟨rfl, stp fun N1 h1 => ?_⟩
  walk_at "e"
  refine h1 _ _ (stp fun N2 h2 => ?_)
  walk_at "e"
  refine zbx (fun i ρ μ' => ∃ x4 x5' x6, ρ = [some (.tup [.str nm, .tup (ways.map zix), .int e, .int lo, .int re, .int x5]), some (.cell la), some (.int sl), some (.int ((ways.take i).foldl (fun m way => if zcx ls way lo sl > m then zcx ls way lo sl else m) 0)), x4, x5', x6] /\ μ' = μ) ⟨_, _, _, rfl, rfl⟩ ?_ ?_
  . rintro i d ρ μ' hd ⟨x4, x5', x6, rfl, rfl⟩ N hN
    rw [List.getElem?_map] at hd
    cases hw : ways[i]? with
    | none => rw [hw] at hd; cases hd
    | some way =>
      rw [hw] at hd; cases hd
      unfold zix
      refine stp fun M1 g1 => ?_
      walk_at "e"
      refine g1 _ _ (stp fun M2 g2 => ?_)
      rw_mod_cast [W.dl]
      refine zbx (fun j ρ μ2 => ∃ x6, ρ = [some (.tup [.str nm, .tup (ways.map zix), .int e, .int lo, .int re, .int x5]), some (.cell la), some (.int sl), some (.int ((ways.take i).foldl (fun m way => if zcx ls way lo sl > m then zcx ls way lo sl else m) 0)), some (.tup (way.map D.str)), some (.int ((ls.take j).foldl (fun m r => if r.nm ∈ way then m + lo + r.w + sl else m) 0)), x6] /\ μ2 = μ') ⟨_, rfl, rfl⟩ ?_ ?_ (fun _ _ _ h => by obtain ⟨_, _, rfl⟩ := h; exact W.dl)
      . rintro j d ρ μ2 hd ⟨x6, rfl, rfl⟩ M hM
        rw [List.getElem?_map] at hd
        cases hr : ls[j]? with
        | none => rw [hr] at hd; cases hd
        | some r =>
          rw [hr] at hd; cases hd
          unfold zbt
          rw_mod_cast [znP, Bool.false_xor]
          have fs := foldl_take_succ (fun m (r : LR) => if r.nm ∈ way then m + lo + r.w + sl else m) (0 : Int) hr
          by_cases c : r.nm ∈ way
          . rw_mod_cast [decide_eq_true c]
            rw [fs, if_pos c] at hM
            exact hM _ _ ⟨_, rfl, rfl⟩
          . rw_mod_cast [decide_eq_false c]
            rw [fs, if_neg c] at hM
            exact hM _ _ ⟨_, rfl, rfl⟩
      . rintro ρ μ2 ⟨x6, rfl, rfl⟩
        refine g2 _ _ ?_
        walk_at "e"
        rw [foldl_take_succ _ _ hw] at hN
        rw [List.length_map, List.take_length]
        exact hN _ _ ⟨_, _, _, rfl, rfl⟩
  . rintro ρ μ' ⟨x4, x5', x6, rfl, rfl⟩
    refine h2 _ _ ?_
    walk_at "e"
    rw [List.length_map, List.take_length]
    exact ⟨_, .refl _, q⟩
set_option synthInstance.maxHeartbeats 4000000
set_option synthInstance.maxSize 100000
set_option maxHeartbeats 4000000
theorem zlc (w : List Str) (h : 2 <= w.length) : cutD (w.map D.str) (some 1) (some (-1)) = (inner w).map D.str := by
  unfold cutD inner
  have e1 : HT.sIx (w.map D.str).length 0 (some 1) = 1 := by
    have := HT.zbp (w.map D.str).length 0 1
    rw [List.length_map, Nat.min_eq_left (by omega)] at this; rw [List.length_map]; exact this
  have e2 : HT.sIx (w.map D.str).length (w.map D.str).length (some (-1)) = w.length - 1 := by
    rw [List.length_map]; unfold HT.sIx; simp; omega
  rw [e1, e2, List.map_take, List.map_drop]
  congr 1
theorem zjk {xs : List Int} {v : Int} (h0 : 0 <= v) (h1 : v < xs.length) : ∃ e, atI (xs.map D.int) v = some (.int e) /\ e ∈ xs := by
  obtain ⟨e, a, b⟩ := ziI h0 h1
  exact ⟨e, by rw [zlX, a]; rfl, List.mem_of_getElem? b⟩
theorem zgk {xs : List Str} {v : Int} (h0 : 0 <= v) (h1 : v < xs.length) : ∃ e, atI (xs.map D.str) v = some (.str e) /\ xs[v.toNat]? = some e := by
  obtain ⟨e, a, b⟩ := ziI h0 h1
  exact ⟨e, by rw [zlX, a]; rfl, b⟩
theorem zud {s na la : Nat} {ho ga ns : List Str} {ls : List LR} {h c : Nat} {sl : Int} {μ : Mu} {Q : DK} (W : WD μ s na la ns ls) (N : zcI ho ga ns ls h c) (hh : h + 6 <= 48) (hc : c <= 50) (ho2 : 2 <= ho.length) (ho4 : ho.length <= 4) (ga3 : ga.length <= 3) (sl0 : 0 <= sl) (sl7 : sl <= 7)
    (q : ∀ r μ' ns' ls', WD μ' s na la ns' ls' -> zbQ na la μ ls μ' ls' -> zcI ho ga ns' ls' (h + 6) (c + 1) -> zdi ns ls ls' -> (∀ y ∈ ns, y ∈ ns') -> zfY ho ga ns' ls' sl r -> r.nm ∉ ns -> Q (zte r) μ') :
    zcD [.cell s, .cell na, .cell la, .lst (ho.map D.str), .lst (ga.map D.str), .int sl] μ Q := by
  have hz : (200 : Nat) <= sizeLine := by decide
  have hnd : ho.Nodup := (List.nodup_append.mp (List.nodup_append.mp N.nd).1).1
  refine ⟨rfl, stp fun N1 h1 => ?_⟩
  rw_mod_cast [List.length_map]
  refine ⟨W.ds, by omega, by omega, fun v v0 v1 => h1 _ _ (stp fun N2 h2 => ?_)⟩
  obtain ⟨first, e1, f1⟩ := zgk v0 v1
  rw_mod_cast [e1]
  refine h2 _ _ (stp fun N3 h3 => ?_)
  rw_mod_cast [List.length_map]
  refine ⟨W.ds, by omega, by omega, fun u u0 u1 => ⟨by omega, ?_⟩⟩
  have m0 : 0 <= (v + 1 + u) % (ho.length : Int) := Int.emod_nonneg _ (by omega)
  have m1 : (v + 1 + u) % (ho.length : Int) < ho.length := Int.emod_lt_of_pos _ (by omega)
  obtain ⟨last, e2, f2⟩ := zgk m0 m1
  have hfl : first ≠ last := fun z => by
    subst z
    have := zo1 hnd f1 f2
    have e3 : v = (v + 1 + u) % (ho.length : Int) := by omega
    by_cases hlt : v + 1 + u < ho.length
    . rw [Int.emod_eq_of_lt (by omega) hlt] at e3; omega
    . have e4 : (v + 1 + u) % (ho.length : Int) = v + 1 + u - ho.length := by
        rw [<- Int.sub_emod_right, Int.emod_eq_of_lt (by omega) (by omega)]
      omega
  have hfi := List.mem_of_getElem? f1
  have hla := List.mem_of_getElem? f2
  rw_mod_cast [e2]
  refine h3 _ _ (stp fun N4 h4 => ?_)
  walk_at "e"
  refine ⟨by decide, zpi (bd := []) W N (by omega) (by omega) hfi hla hfl (by simp [beside]) (fun y hy => by cases hy) ga3 (by decide) fun w1 k1 μ4 ns4 ls4 W4 T4 N4 G4 sub4 k1a k1b Y1 hl1 => ?_⟩
  refine ⟨by decide, fun kw hkw => h4 _ _ ?_⟩
  have W5 : WD (zQ μ4 kw (.lst [.tup (w1.map D.str)])) s na la ns4 ls4 := W4.cell hkw
  have f5 := W4.free hkw
  have hkw0 : ∀ k c, μ k = some c -> k ≠ na -> k ≠ la -> (∀ r ∈ ls, k ≠ r.sa /\ k ≠ r.ea) -> k ≠ kw := fun k c e a1 a2 a3 z => by
    have := (T4 k c e a1 a2 a3).1
    rw [z, hkw] at this; cases this
  refine zjc (fun ρ μ' => ∃ (ns6 : List Str) (ls6 : List LR) (ways : List (List Str)), ρ = [some (.cell s), some (.cell na), some (.cell la), some (.lst (ho.map D.str)), some (.lst (ga.map D.str)), some (.int sl), some (.int v), some (.str first), some (.str last), some (.cell kw), none, none, none, none] /\
    WD μ' s na la ns6 ls6 /\ zbQ na la μ ls μ' ls6 /\ zcI ho ga ns6 ls6 (h + 6) c /\ zdi ns ls ls6 /\ (∀ y ∈ ns, y ∈ ns6) /\ μ' kw = some (.lst (ways.map zix)) /\ (kw ≠ na /\ kw ≠ la /\ ∀ r ∈ ls6, kw ≠ r.sa /\ kw ≠ r.ea) /\ ways.length <= 2 /\
    ∃ first last w1 k1, first ∈ ho /\ last ∈ ho /\ first ≠ last /\ 1 <= k1 /\ k1 <= 3 /\ Way ho ga ns6 ls6 [] first k1 (2 * k1) w1 /\ w1[2 * k1]? = some last /\ (ways = [w1] \/ ∃ w2 k2, ways = [w1, w2] /\ 1 <= k2 /\ k2 <= 3 /\ Way ho ga ns6 ls6 (inner w1) first k2 (2 * k2) w2 /\ w2[2 * k2]? = some last)) (fun NX hNX => ?_) ?_
  . have T5 : zbQ na la μ ls (zQ μ4 kw (.lst [.tup (w1.map D.str)])) ls4 := fun k c e a1 a2 a3 => by
      obtain ⟨b1, b2⟩ := T4 k c e a1 a2 a3
      exact ⟨by rw [zm (hkw0 k c e a1 a2 a3)]; exact b1, b2⟩
    walk_at "e"
    refine ⟨W5.ds, by decide, by decide, fun x x0 x1 => ?_⟩
    split
    . have wl1 : w1.length = 2 * k1 + 1 := Y1.len
      have ns1 : ¬ (HT.sIx (w1.map D.str).length 0 (some 1) = 0 /\ HT.sIx (w1.map D.str).length (w1.map D.str).length (some (-1)) = (w1.map D.str).length) := by
        rintro ⟨z, _⟩
        have := HT.zbp (w1.map D.str).length 0 1
        rw [List.length_map, Nat.min_eq_left (by omega)] at this
        rw [List.length_map] at z
        have e : HT.sIx w1.length 0 (some 1) = 1 := this
        omega
      refine ⟨ns1, ?_⟩
      rw [zlc w1 (by omega)]
      refine zpi (bd := inner w1) W5 N4 (by omega) (by omega) hfi hla hfl (Nat.le_trans (zi5 _ _ _) (Nat.le_trans Y1.bs k1b)) (fun y hy => Y1.sub y (znO hy)) ga3 (Nat.le_trans (zm2 _) (by omega)) fun w2 k2 μ9 ns9 ls9 W9 T9 N9 G9 sub9 k2a k2b Y2 hl2 => ?_
      obtain ⟨hw9, f9⟩ := T9 kw _ zu f5.1 f5.2.1 f5.2.2
      rw_mod_cast [hw9]
      refine ⟨by decide, hNX _ _ ⟨ns9, ls9, [w1, w2], rfl, W9.other hw9 (by simp) ⟨f5.1, f5.2.1, f9⟩, fun k c e a1 a2 a3 => ?_, N9.more (by omega), G4.trans sub4 G9, fun y hy => sub9 y (sub4 y hy), zu, ⟨f5.1, f5.2.1, f9⟩, show 2 <= 2 by decide, first, last, w1, k1, hfi, hla, hfl, k1a, k1b, Y1.grow G9 sub9, hl1, .inr ⟨w2, k2, rfl, k2a, k2b, Y2, hl2⟩⟩⟩
      obtain ⟨b1, b2⟩ := (T5.trans T9) k c e a1 a2 a3
      exact ⟨by rw [zm (hkw0 k c e a1 a2 a3)]; exact b1, b2⟩
    . exact hNX _ _ ⟨ns4, ls4, [w1], rfl, W5, T5, N4.more (by omega), G4, sub4, zu, f5, show 1 <= 2 by decide, first, last, w1, k1, hfi, hla, hfl, k1a, k1b, Y1, hl1, .inl rfl⟩
  rintro ρ μ6 ⟨ns6, ls6, ways, rfl, W6, T6, N6, G6, sub6, hw6, f6, wl, shape⟩
  refine stp fun N6' h6 => ?_
  walk_at "e"
  refine ⟨by decide, W6.ds, by decide, by decide, fun a a0 a1 => ?_⟩
  obtain ⟨e, ge, he⟩ := zjk (xs := zje) a0 (show a < 11 from a1)
  have eb : 8 <= e /\ e <= 120 := by
    have : ∀ e ∈ zje, 8 <= e /\ e <= 120 := by decide
    exact this e he
  have ge' : atI [D.int 12, D.int 8, D.int 20, D.int 24, D.int 10, D.int 30, D.int 15, D.int 40, D.int 60, D.int 12, D.int 120] a = some (.int e) := ge
  rw_mod_cast [ge']
  refine h6 _ _ (stp fun N7 h7 => ?_)
  walk_at "e"
  have mb : 0 < (if e - sl < 4 then e - sl else 4) /\ (if e - sl < 4 then e - sl else 4) <= 4 := by split <;> omega
  refine ⟨W6.ds, mb.1, by omega, fun b b0 b1 => h7 _ _ (stp fun N8 h8 => ?_)⟩
  have u9 : 1 + b <= 4 /\ 1 + b + sl <= e := by split at b1 <;> omega
  walk_at "e"
  refine zgr W6.ds W6.dn (by have := N6.cnt; have := N6.len; omega) fun x nm hx => ?_
  have W7 : WD _ s na la (ns6 ++ [x]) ls6 := W6.names (ns' := ns6 ++ [x])
  have hw7 : zQ μ6 na (.lst ((ns6 ++ [x]).map D.str)) kw = some (.lst (ways.map zix)) := by rw [zm f6.1]; exact hw6
  rw_mod_cast [hw7]
  refine ⟨W7.ds, by omega, by omega, fun d d0 d1 => ⟨by decide, h8 _ _ (stp fun N9 h9 => ?_)⟩⟩
  walk_at "e"
  refine ⟨⟨by decide, by decide⟩, by decide, W7.ds, by decide, by decide, fun t t0 t1 => ?_⟩
  obtain ⟨spare, gs, hs⟩ := zjk (xs := [0, 1, 2, e / 2, 3, e - 1, 6]) t0 (show t < 7 from t1)
  have gs' : atI [D.int 0, D.int 1, D.int 2, D.int (e / 2), D.int 3, D.int (e - 1), D.int 6] t = some (.int spare) := gs
  rw_mod_cast [gs']
  refine h9 _ _ ?_
  walk_at "e"
  refine ⟨by decide, zqr W7 ?_⟩
  walk_at "e"
  rw [show cutD [D.str x, D.tup (List.map zix ways), D.int e, D.int (1 + b), D.int d, D.int 0] none (some 5) = [D.str x, D.tup (List.map zix ways), D.int e, D.int (1 + b), D.int d] from rfl]
  refine ⟨by decide, by simp, show 6 <= sizeLine by decide, _, .refl _, ?_⟩
  have N10 := N6.named hx nm
  have hxn : x ∉ ns := fun z => hx (sub6 x z)
  have G18 : zdi ns6 ls6 ls6 := zdi.refl _ _
  refine q ⟨x, ways, e, 1 + b, d, zh9 ls6 ways (1 + b) sl + spare⟩ _ (ns6 ++ [x]) ls6 W7 (T6.trans zbQ.names) N10 G6 (fun y hy => List.mem_append_left _ (sub6 y hy)) ⟨by simp, fun z => hx (N6.sub x z), ?_, he, by show 1 <= 1 + b; omega, u9.1, u9.2, d0, d1, spare, rfl, hs⟩ hxn
  obtain ⟨f', l', w1', k1', a1, a2, a3, a4, a5, Y, a6, hh'⟩ := shape
  refine ⟨f', l', w1', k1', a1, a2, a3, a4, a5, Y.grow G18 (fun y hy => List.mem_append_left _ hy), a6, ?_⟩
  rcases hh' with z | ⟨w2, k2, z, b1, b2, Y2, b3⟩
  . exact .inl z
  . exact .inr ⟨w2, k2, z, b1, b2, Y2.grow G18 (fun y hy => List.mem_append_left _ hy), b3⟩
set_option synthInstance.maxHeartbeats 4000000
set_option synthInstance.maxSize 100000
set_option maxHeartbeats 4000000
def zn9 : List Int := [0, 1, 2, 0, 3, 1, 5, 7]
structure WorldD (μ : Mu) (s na la : Nat) (ho ga ns : List Str) (ls : List LR) (rows : List RW) (sl : Int) (most : Nat) : Prop where
  W : WD μ s na la ns ls
  N : zcI ho ga ns ls 48 (ho.length + ga.length + rows.length)
  ho2 : 2 <= ho.length
  ho4 : ho.length <= 4
  ga3 : ga.length <= 3
  r1 : 1 <= rows.length
  rm : rows.length <= most
  ok : ∀ r ∈ rows, zfY ho ga ns ls sl r
  nd : (rows.map RW.nm).Nodup
  sl0 : 0 <= sl
  sl7 : sl <= 7
/-- [name(s, names) for k in range(..)] -/
theorem zhr {s na : Nat} {pre : List Str} {n : Nat} {μ : Mu} {Fin : List D -> Mu -> Prop} (hs : μ s = some .draw) (hn : μ na = some (.lst (pre.map D.str))) (hp : pre.Nodup) (hpn : ∀ x ∈ pre, Nm x) (hl : pre.length + n < 100)
    (q : ∀ xs : List Str, xs.length = n -> (pre ++ xs).Nodup -> (∀ x ∈ pre ++ xs, Nm x) -> Fin (xs.map D.str) (zQ μ na (.lst ((pre ++ xs).map D.str)))) :
    zca (zx 0) zhx (dCall z6 (zb (zc 2) (zb (zc 1) zr))) [none, some (.cell na), some (.cell s)] (fun _ => True) Fin ((zcc 0 n).map D.int) [] μ := by
  have hz : (200 : Nat) <= sizeLine := by decide
  have sna : s ≠ na := fun z => by rw [z, hn] at hs; cases hs
  refine zdI (fun i ys μ' => ∃ xs : List Str, ys = xs.map D.str /\ xs.length = i /\ (pre ++ xs).Nodup /\ (∀ x ∈ pre ++ xs, Nm x) /\ μ' = zQ μ na (.lst ((pre ++ xs).map D.str))) ⟨[], rfl, rfl, by rw [List.append_nil]; exact hp, by rw [List.append_nil]; exact hpn, ?_⟩ ?_ ?_
  . funext k
    unfold zQ
    split
    . rename_i e; rw [e, List.append_nil]; exact hn
    . rfl
  . rintro i d ys μ' hd ⟨xs, rfl, hx, nd, nm, rfl⟩
    obtain ⟨hi, rfl⟩ := zcB hd
    refine ⟨by rw [List.length_map]; omega, fun N hN => ?_⟩
    walk_at "e"
    refine zgr (by rw [zm sna]; exact hs) zu (by rw [List.length_append]; omega) fun x hnm hxn => hN _ _ ⟨xs ++ [x], by rw [List.map_append]; rfl, by rw [List.length_append, hx]; rfl, ?_, ?_, ?_⟩
    . rw [<- List.append_assoc]
      exact List.nodup_append.mpr ⟨nd, by simp, fun a ha b hb e => by rw [List.mem_singleton.mp hb] at e; exact hxn (e ▸ ha)⟩
    . intro y hy
      rw [<- List.append_assoc] at hy
      rcases List.mem_append.mp hy with h | h
      . exact nm y h
      . rw [List.mem_singleton.mp h]; exact hnm
    . rw [zdq, List.append_assoc]
  . rintro ys μ' ⟨xs, rfl, hx, nd, nm, rfl⟩
    rw [zbJ] at hx
    exact q xs hx nd nm
theorem zo6 {s most : Nat} {μ : Mu} {Q : DK} (hs : μ s = some .draw) (m1 : 1 <= most) (m8 : most <= 8)
    (q : ∀ μ' na la ho ga ns ls rows sl, WorldD μ' s na la ho ga ns ls rows sl most -> (∀ k c, μ k = some c -> μ' k = some c /\ k ≠ na /\ k ≠ la /\ ∀ r ∈ ls, k ≠ r.sa /\ k ≠ r.ea) ->
      Q (.tup [.lst (ho.map D.str), .lst (ga.map D.str), .cell la, .lst (rows.map zte), .int sl, .cell na]) μ') : zbP [.cell s, .int (most : Int)] μ Q := by
  have hz : (200 : Nat) <= sizeLine := by decide
  refine ⟨rfl, stp fun N1 h1 => ?_⟩
  walk_at "e"
  refine ⟨by decide, fun na hna => h1 _ _ (stp fun N2 h2 => ?_)⟩
  have sna : s ≠ na := fun z => by rw [z, hna] at hs; cases hs
  have hs1 : ∀ c, zQ μ na c s = some .draw := fun c => by rw [zm sna]; exact hs
  walk_at "e"
  refine ⟨by decide, hs1 _, by decide, by decide, fun a a0 a1 => ⟨by omega, by omega, ?_⟩⟩
  refine zhr (pre := []) (hs1 _) zu List.nodup_nil (fun x hx => by cases hx) (by simp; omega) fun ho hol hod hon => h2 _ _ (stp fun N3 h3 => ?_)
  rw [zdq, List.nil_append]
  rw [List.nil_append] at hod hon
  walk_at "e"
  refine ⟨by decide, hs1 _, by decide, by decide, fun b b0 b1 => ⟨by omega, by omega, ?_⟩⟩
  refine zhr (pre := ho) (hs1 _) zu hod hon (by omega) fun ga gal gad gan => h3 _ _ (stp fun N4 h4 => ?_)
  rw [zdq]
  walk_at "e"
  refine ⟨by decide, hs1 _, by decide, by decide, fun t t0 t1 => ?_⟩
  obtain ⟨sl, gs, hsl⟩ := zjk (xs := zn9) t0 (show t < 8 from t1)
  have gs' : atI [D.int 0, D.int 1, D.int 2, D.int 0, D.int 3, D.int 1, D.int 5, D.int 7] t = some (.int sl) := gs
  have slb : 0 <= sl /\ sl <= 7 := by
    have : ∀ e ∈ zn9, 0 <= e /\ e <= 7 := by decide
    exact this sl hsl
  rw_mod_cast [gs']
  refine h4 _ _ (stp fun N5 h5 => ?_)
  walk_at "e"
  refine ⟨by decide, fun la hla => h5 _ _ (stp fun N6 h6 => ?_)⟩
  have nal : na ≠ la := fun z => by rw [<- z, zu] at hla; cases hla
  have W0 : WD (zQ (zQ μ na (.lst ((ho ++ ga).map D.str))) la (.lst [])) s na la (ho ++ ga) [] := ⟨by
      rw [zm (fun z => by rw [<- z, hs1] at hla; cases hla)]; exact hs1 _, by rw [zm nal, zu], zu, nal, fun r hr => (by cases hr), fun r hr => (by cases hr), fun i j r r' hi => (by simp at hi)⟩
  have NT0 : zcI ho ga (ho ++ ga) [] (6 * 0) (ho.length + ga.length + 0) := ⟨by simpa using gad, by simp, gan, gad, fun r hr => (by cases hr), by decide, by decide, by rw [List.length_append]; exact Nat.le_refl _⟩
  have keep0 : ∀ k c, μ k = some c -> (zQ (zQ μ na (.lst ((ho ++ ga).map D.str))) la (.lst [])) k = some c /\ k ≠ na /\ k ≠ la := fun k c e => by
    have k1 : k ≠ na := fun z => by rw [z, hna] at e; cases e
    have k2 : k ≠ la := fun z => by rw [<- z, zm k1, e] at hla; cases hla
    exact ⟨by rw [zm k2, zm k1]; exact e, k1, k2⟩
  generalize zQ (zQ μ na (.lst ((ho ++ ga).map D.str))) la (.lst []) = μ0 at W0 keep0
  walk_at "e"
  refine ⟨by decide, W0.ds, by omega, by omega, fun v v0 v1 => ⟨by omega, by omega, ?_⟩⟩
  refine zdI (fun i ys μ' => ∃ (rows : List RW) (ns : List Str) (ls : List LR), ys = rows.map zte /\ rows.length = i /\ WD μ' s na la ns ls /\ zbQ na la μ0 [] μ' ls /\ zcI ho ga ns ls (6 * i) (ho.length + ga.length + i) /\ (∀ r ∈ rows, zfY ho ga ns ls sl r) /\ (rows.map RW.nm).Nodup) ⟨[], ho ++ ga, [], rfl, rfl, W0, .refl, NT0, fun r hr => (by cases hr), List.nodup_nil⟩ ?_ ?_
  . rintro i d ys μ' hd ⟨rows, ns, ls, rfl, hr, W, T, NT, ok, nd⟩
    obtain ⟨hi, rfl⟩ := zcB hd
    refine ⟨by rw [List.length_map]; omega, fun N hN => ?_⟩
    walk_at "e"
    refine zud W NT (by omega) (by omega) (by omega) (by omega) (by omega) slb.1 slb.2 fun r μ2 ns2 ls2 W2 T2 NT2 G2 sub2 R2 hn2 => hN _ _ ⟨rows ++ [r], ns2, ls2, by rw [List.map_append]; rfl, by rw [List.length_append, hr]; rfl, W2, T.trans T2, ?_, ?_, ?_⟩
    . have : 6 * (i + 1) = 6 * i + 6 := by omega
      rw [this]; exact NT2
    . intro r' hr'
      rcases List.mem_append.mp hr' with h | h
      . exact (ok r' h).grow G2 sub2
      . rw [List.mem_singleton.mp h]; exact R2
    . rw [List.map_append]
      refine List.nodup_append.mpr ⟨nd, by simp, fun a ha b hb e => ?_⟩
      obtain ⟨r', hr', rfl⟩ := List.mem_map.mp ha
      have : b = r.nm := by simpa using hb
      rw [this] at e
      exact hn2 (e ▸ (ok r' hr').nmn)
  . rintro ys μ' ⟨rows, ns, ls, rfl, hr, W, T, NT, ok, nd⟩
    rw [zbJ] at hr NT
    refine h6 _ _ ?_
    walk_at "e"
    refine ⟨by decide, _, .refl _, q μ' na la ho ga ns ls rows sl ⟨W, ?_, by omega, by omega, by omega, by omega, by omega, ok, nd, slb.1, slb.2⟩ fun k c e => ?_⟩
    . rw [hr]; exact NT.more (by omega)
    . obtain ⟨b1, b2, b3⟩ := keep0 k c e
      obtain ⟨c1, c2⟩ := T k c b1 b2 b3 (fun r hr => by cases hr)
      exact ⟨c1, b2, b3, c2⟩
set_option synthInstance.maxHeartbeats 4000000
set_option synthInstance.maxSize 100000
set_option maxHeartbeats 4000000
theorem ztj {i : Int} {μ : Mu} {Q : DK} (q : Q (.bl true) μ) : zbH [.int i] μ Q := by
  refine ⟨rfl, ?_⟩
  walk_at "e"
  exact ⟨_, .refl _, q⟩
theorem zrj {i : Int} {μ : Mu} {Q : DK} (q : Q .non μ) : zbi [.int i] μ Q := by
  refine ⟨rfl, ?_⟩
  walk_at "e"
  refine ztj ?_
  walk_at "e"
  exact ⟨_, .refl _, q⟩
set_option synthInstance.maxHeartbeats 4000000
set_option synthInstance.maxSize 100000
set_option maxHeartbeats 4000000
theorem zoa {y : Str} {μ : Mu} {R : List D -> (Mu -> Prop) -> Prop} (h : y.cps.all (· < 128) = true) : zkg μ (.str y) R = R (y.cps.toList.map fun c => .str ⟨#[c]⟩) fun _ => True := by
  unfold zkg zqw; simp only [h, if_true]
theorem zjp : ∀ c : _root_.Fin 128, zkm letters ⟨#[c.val]⟩ = decide (97 <= c.val /\ c.val <= 122) := by decide +kernel
theorem zot {x : Str} (h : Nm x) : x.cps.all (· < 128) = true := by
  rw [<- Array.all_toList]
  exact List.all_eq_true.mpr fun c hc => decide_eq_true (by have := h.az c hc; omega)
theorem zul {x : Str} (h : Nm x) : 1 <= x.length /\ x.length <= 8 := by
  have h1 := h.l1; have h2 := h.l8
  rw [Array.length_toList] at h1 h2
  exact ⟨h1, h2⟩
theorem znG {x : Str} {μ : Mu} {Q : DK} (h : Nm x) (q : Q (.bl true) μ) : zcA [.str x] μ Q := by
  obtain ⟨l1, l8⟩ := zul h
  have hz : (1000 : Nat) <= sizeLine := by decide
  refine ⟨rfl, ?_⟩
  walk_at "e"
  refine ⟨rfl, ?_⟩
  walk_at "e"
  refine ⟨by omega, ?_⟩
  rw_mod_cast [show decide ((1 : Int) <= x.length) = true from decide_eq_true (by omega), show decide ((x.length : Int) <= 8) = true from decide_eq_true (by omega), zoa (zot h)]
  refine ⟨by decide, zoz x.cps.toList _ (by have := h.l8; omega) (fun c hc Q' q' => ?_) (fun bs hb => ?_) trivial⟩
  . have := h.az c hc
    have e := zjp ⟨c, by omega⟩
    walk_at "e"
    rw [show zkm (Str.ofString "abcdefghijklmnopqrstuvwxyz") ⟨#[c]⟩ = true from by
      show zkm letters ⟨#[c]⟩ = true
      rw [e]; exact decide_eq_true this]
    exact q'
  . rw_mod_cast [hb]
    exact ⟨_, .refl _, _, .refl _, q⟩
theorem zli {x : Str} {μ : Mu} {Q : DK} (h : Nm x) (q : Q .non μ) : zbz [.str x] μ Q := by
  refine ⟨rfl, ?_⟩
  walk_at "e"
  refine znG h ?_
  walk_at "e"
  exact ⟨_, .refl _, q⟩
theorem zrP {i lo hi : Int} {μ : Mu} {Q : DK} (h1 : lo <= i) (h2 : i <= hi) (q : Q .non μ) : zaW [.int i, .int lo, .int hi] μ Q := by
  refine ⟨rfl, ?_⟩
  walk_at "e"
  refine zrj ?_
  rw_mod_cast [decide_eq_true h1, decide_eq_true h2]
  exact ⟨_, .refl _, q⟩
theorem zgY {x : Str} (h : Nm x) : PyData.strOk x = true := by
  unfold PyData.strOk
  rw [<- Array.all_toList]
  exact List.all_eq_true.mpr fun c hc => decide_eq_true (by have := h.az c hc; omega)
set_option synthInstance.maxHeartbeats 4000000
set_option synthInstance.maxSize 100000
set_option maxHeartbeats 4000000
/-! texts in order -/
def sLe (a b : Str) : Prop := a.cps.toList <= b.cps.toList
theorem zm7 {a b c : Str} (h : sLe a b) (h' : sLe b c) : sLe a c := List.le_trans h h'
theorem zjg {a b : Str} (h : sLe a b) (h' : sLe b a) : a = b := by
  have e : a.cps.toList = b.cps.toList := List.le_antisymm h h'
  cases a; cases b
  simp only [Str.mk.injEq]
  exact Array.toList_inj.mp e
theorem zhW : ∀ (p : Str) (l : List Str), PyProof.Rows.risingS p l = true -> (∀ x ∈ l, sLe p x) /\ l.Pairwise sLe
  | p, [], _ => ⟨fun x h => (by cases h), List.Pairwise.nil⟩
  | p, x :: r, h => by
    unfold PyProof.Rows.risingS at h
    rw [Bool.and_eq_true, PyProof.Rows.ltCps_eq] at h
    obtain ⟨h1, h2⟩ := h
    have hpx : sLe p x := by
      have : ¬ (x.cps.toList < p.cps.toList) := by simpa using h1
      exact this
    obtain ⟨a, b⟩ := zhW x r h2
    refine ⟨fun y hy => ?_, List.pairwise_cons.mpr ⟨a, b⟩⟩
    rcases List.mem_cons.mp hy with rfl | hy
    . exact hpx
    . exact zm7 hpx (a y hy)
theorem zh8 {l : List Str} (h : PyProof.Rows.sortedS l = true) : l.Pairwise sLe := by
  cases l with
  | nil => exact List.Pairwise.nil
  | cons p r =>
    obtain ⟨a, b⟩ := zhW p r h
    exact List.pairwise_cons.mpr ⟨a, b⟩
theorem zmk {α : Type} {r : α -> α -> Prop} (anti : ∀ a b, r a b -> r b a -> a = b) : ∀ {l1 l2 : List α}, List.Perm l1 l2 -> List.Pairwise r l1 -> List.Pairwise r l2 -> l1 = l2
  | [], l2, h, _, _ => h.nil_eq
  | a :: r1, [], h, _, _ => absurd h.length_eq (by simp)
  | a :: r1, b :: r2, h, h1, h2 => by
    obtain ⟨a1, p1⟩ := List.pairwise_cons.mp h1
    obtain ⟨b1, p2⟩ := List.pairwise_cons.mp h2
    have e : a = b := by
      rcases List.mem_cons.mp (h.mem_iff.mp List.mem_cons_self) with z | z
      . exact z
      . rcases List.mem_cons.mp (h.mem_iff.mpr (List.mem_cons_self (a := b))) with y | y
        . exact y.symm
        . exact anti a b (a1 b y) (b1 a z)
    subst e
    rw [zmk anti (List.perm_cons a |>.mp h) p1 p2]
theorem ziT {a b : List Str} (h : List.Perm a b) (ha : PyProof.Rows.sortedS a = true) (hb : PyProof.Rows.sortedS b = true) : a = b := zmk (fun _ _ => zjg) h (zh8 ha) (zh8 hb)
set_option synthInstance.maxHeartbeats 4000000
set_option synthInstance.maxSize 100000
set_option maxHeartbeats 4000000
/-! dicts by texts as lists of pairs -/
abbrev SL (β : Type) := List (Str × β)
def zY {β : Type} : SL β -> Str -> Option β
  | [], _ => none
  | p :: r, j => if p.1 = j then some p.2 else zY r j
def ksS {β : Type} (l : SL β) : List Key := l.map fun p => (Sum.inr p.1 : Key)
def vsS {β : Type} (f : β -> D) (l : SL β) : List D := l.map fun p => f p.2
section
variable {β : Type}
theorem zdo {l : SL β} {j : Str} : (zY l j).isSome = true ↔ j ∈ l.map (·.1) := by
  induction l with
  | nil => simp [zY]
  | cons p r ih =>
    rw [zY, List.map_cons, List.mem_cons]
    by_cases h : p.1 = j
    . simp [h]
    . rw [if_neg h, ih]
      exact ⟨fun z => .inr z, fun z => z.resolve_left fun e => h e.symm⟩
theorem zea {l : SL β} {j : Str} : (Sum.inr j : Key) ∈ ksS l ↔ j ∈ l.map (·.1) := by
  unfold ksS
  rw [List.mem_map, List.mem_map]
  constructor
  . rintro ⟨p, hp, e⟩; exact ⟨p, hp, Sum.inr.inj e⟩
  . rintro ⟨p, hp, e⟩; exact ⟨p, hp, by rw [e]⟩
theorem zgO {f : β -> D} {l : SL β} {j : Str} : zcf (ksS l) (vsS f l) (.inr j) = (zY l j).map f := by
  induction l with
  | nil => rfl
  | cons p r ih =>
    show (if (Sum.inr p.1 : Key) = .inr j then some (f p.2) else zcf (ksS r) (vsS f r) (.inr j)) = _
    rw [zY]
    by_cases h : p.1 = j
    . rw [if_pos (by rw [h]), if_pos h]; rfl
    . rw [if_neg (fun z => h (Sum.inr.inj z)), if_neg h]; exact ih
theorem zgF {f : β -> D} {l : SL β} {j : Str} {b : β} (h : j ∉ l.map (·.1)) : Ct.dct (zgM (ksS l) (.inr j)) (zh3 (ksS l) (vsS f l) (.inr j) (f b)) = .dct (ksS (l ++ [(j, b)])) (vsS f (l ++ [(j, b)])) := by
  unfold zgM zh3
  rw [if_neg (fun z => h (zea.mp z)), if_neg (fun z => h (zea.mp z))]
  unfold ksS vsS
  rw [List.map_append, List.map_append]; rfl
theorem zgE {l : SL β} {j : Str} {b : β} (hn : (l.map (·.1)).Nodup) (h : (j, b) ∈ l) : zY l j = some b := by
  induction l with
  | nil => cases h
  | cons p r ih =>
    rw [List.map_cons] at hn
    obtain ⟨h1, h2⟩ := List.nodup_cons.mp hn
    rw [zY]
    rcases List.mem_cons.mp h with rfl | h
    . simp
    . have hne : ¬ p.1 = j := fun e => h1 (by rw [e]; exact List.mem_map_of_mem (f := fun q : Str × β => q.1) h)
      rw [if_neg hne, ih h2 h]
theorem zeV {l : SL β} {j : Str} {b : β} (h : zY l j = some b) : (j, b) ∈ l := by
  induction l with
  | nil => cases h
  | cons p r ih =>
    rw [zY] at h
    by_cases e : p.1 = j
    . rw [if_pos e] at h; cases h; rw [<- e]; exact List.mem_cons_self
    . rw [if_neg e] at h; exact List.mem_cons_of_mem _ (ih h)
theorem zdb {l : SL β} : (ksS l).length = l.length := by unfold ksS; rw [List.length_map]
end
set_option synthInstance.maxHeartbeats 4000000
set_option synthInstance.maxSize 100000
set_option maxHeartbeats 4000000
abbrev EN := List Str × List Str × Int
def enD (e : EN) : D := .tup [.tup (e.1.map D.str), .tup (e.2.1.map D.str), .int e.2.2]
structure zP (μ : Mu) (k ck cl : Nat) (kn : SL Str) (ln : SL EN) : Prop where
  o : μ k = some (.ins "Net" zaf [.cell ck, .cell cl])
  a : μ ck = some (.dct (ksS kn) (vsS D.str kn))
  b : μ cl = some (.dct (ksS ln) (vsS enD ln))
  ne : ck ≠ cl
  nd : (kn.map (·.1)).Nodup
theorem zP.k1 {μ : Mu} {k ck cl : Nat} {kn : SL Str} {ln : SL EN} (h : zP μ k ck cl kn ln) : k ≠ ck := fun z => by have := h.o; rw [z, h.a] at this; cases this
theorem zP.k2 {μ : Mu} {k ck cl : Nat} {kn : SL Str} {ln : SL EN} (h : zP μ k ck cl kn ln) : k ≠ cl := fun z => by have := h.o; rw [z, h.b] at this; cases this
section
variable {μ : Mu} {k ck cl : Nat} {kn : SL Str} {ln : SL EN} {Q : DK} {x : Str}
theorem zqf {v : Str} (N : zP μ k ck cl kn ln) (h : zY kn x = some v) (q : Q (.str v) μ) : zb3 [.cell k, .str x] μ Q := by
  refine ⟨rfl, ?_⟩
  have hm : x ∈ kn.map (·.1) := zdo.mp (by rw [h]; rfl)
  rw_mod_cast [zoL, ztp, N.o, zgQ, N.a, zeW, zdR, decide_eq_true (zea.mpr hm), zgO, h, Option.map_some, Bool.true_xor]
  exact ⟨_, .refl _, q⟩
theorem zhY (N : zP μ k ck cl kn ln) (hx : Nm x) (h : x ∉ kn.map (·.1)) (q : Q .non μ) : zan [.cell k, .str x] μ Q := by
  refine ⟨rfl, ?_⟩
  rw_mod_cast []
  refine zli hx ?_
  rw_mod_cast [zoL, N.o, zgQ, N.a, zeW, zdR, decide_eq_false (fun z => h (zea.mp z)), Bool.false_xor]
  exact ⟨_, .refl _, q⟩
theorem zf1 {es : List Str} (N : zP μ k ck cl kn ln) (h : ∀ y ∈ es, y ∈ kn.map (·.1) /\ y ∉ ln.map (·.1)) (q : Q .non μ) : zar [.cell k, .tup (es.map D.str)] μ Q := by
  refine ⟨rfl, ?_⟩
  rw_mod_cast []
  refine zbx (fun i ρ μ' => ∃ x2, ρ = [some (.cell k), some (.tup (es.map D.str)), x2] /\ μ' = μ) ⟨_, rfl, rfl⟩ ?_ ?_
  . rintro i d ρ μ' hd ⟨x2, rfl, rfl⟩ N' hN
    rw [List.getElem?_map] at hd
    obtain ⟨y, hy, rfl⟩ := Option.map_eq_some_iff.mp hd
    obtain ⟨h1, h2⟩ := h y (List.mem_of_getElem? hy)
    rw_mod_cast [zoL, N.o, zgQ, N.a, N.b, zeW, zdR, decide_eq_true (zea.mpr h1), decide_eq_false (fun z => h2 (zea.mp z)), Bool.false_xor, Bool.true_xor]
    exact hN _ _ ⟨_, rfl, rfl⟩
  . rintro ρ μ' ⟨x2, rfl, rfl⟩
    exact ⟨_, .refl _, q⟩
theorem zht {kd : Str} (N : zP μ k ck cl kn ln) (hx : Nm x) (h : x ∉ kn.map (·.1)) (hl : kn.length < 16 + ln.length) (hz : kn.length <= 900) (q : ∀ μ', zP μ' k ck cl (kn ++ [(x, kd)]) ln -> (∀ j, j ≠ ck -> μ' j = μ j) -> Q .non μ') : zax [.cell k, .str x, .str kd] μ Q := by
  refine ⟨rfl, stp fun N1 h1 => ?_⟩
  rw_mod_cast [N.o]
  refine zhY N hx h ?_
  rw_mod_cast []
  refine h1 _ _ ?_
  rw_mod_cast [N.o, zlr, zft, N.a, N.b, zc5, zdb, decide_eq_false (show ¬ (16 : Int) <= (kn.length : Int) - (ln.length : Int) by omega)]
  unfold zk5
  rw_mod_cast [N.o, N.a, zc5, zdR, zdb]
  rw [zgF (f := D.str) h]
  refine ⟨by omega, _, .refl _, q _ ⟨?_, zu, ?_, N.ne, ?_⟩ fun j hj => zm hj⟩
  . rw [zm N.k1]; exact N.o
  . rw [zm N.ne.symm]; exact N.b
  . rw [List.map_append]
    refine List.nodup_append.mpr ⟨N.nd, by simp, fun a ha b hb => ?_⟩
    simp at hb; subst hb
    exact fun z => h (z ▸ ha)
theorem zeN (N : zP μ k ck cl kn ln) (hx : Nm x) (h : x ∉ kn.map (·.1)) (hl : kn.length < 16 + ln.length) (hz : kn.length <= 900) (q : ∀ μ', zP μ' k ck cl (kn ++ [(x, ("house" : Str))]) ln -> (∀ j, j ≠ ck -> μ' j = μ j) -> Q .non μ') : zak [.cell k, .str x] μ Q := by
  refine ⟨rfl, ?_⟩
  rw_mod_cast [N.o]
  refine zht N hx h hl hz fun μ' N' e => ?_
  exact ⟨_, .refl _, q μ' N' e⟩
theorem ziL (N : zP μ k ck cl kn ln) (hx : Nm x) (h : x ∉ kn.map (·.1)) (hl : kn.length < 16 + ln.length) (hz : kn.length <= 900) (q : ∀ μ', zP μ' k ck cl (kn ++ [(x, ("gate" : Str))]) ln -> (∀ j, j ≠ ck -> μ' j = μ j) -> Q .non μ') : zaG [.cell k, .str x] μ Q := by
  refine ⟨rfl, ?_⟩
  rw_mod_cast [N.o]
  refine zht N hx h hl hz fun μ' N' e => ?_
  exact ⟨_, .refl _, q μ' N' e⟩
theorem zg8 {es : List Str} (h1 : es ≠ []) (h6 : es.length <= 6) (hn : es.Nodup) (q : Q .non μ) : zaX [.tup (es.map D.str)] μ Q := by
  have hz : (1000 : Nat) <= sizeLine := by decide
  have hp : 0 < es.length := List.length_pos_iff.mpr h1
  refine ⟨rfl, stp fun N1 h1 => ?_⟩
  rw_mod_cast [List.length_map, decide_eq_true (show (1 : Int) <= (es.length : Int) by omega), decide_eq_true (show (es.length : Int) <= 6 by omega)]
  refine h1 _ _ ?_
  rw_mod_cast []
  refine ⟨es, rfl, by omega, ?_⟩
  rw [zkt hn, List.length_map]
  rw_mod_cast [show decide ((es.length : Int) < es.length) = false from decide_eq_false (by omega)]
  exact ⟨_, .refl _, q⟩
/-- the one order of texts -/
def Srt (xs ys : List Str) : Prop := List.Perm ys xs /\ PyProof.Rows.sortedS ys = true
theorem Srt.uniq {xs ys zs : List Str} (h : Srt xs ys) (h' : Srt xs zs) : ys = zs := ziT (h.1.trans h'.1.symm) h.2 h'.2
theorem zgm {S E : List Str} {wr : Int} (N : zP μ k ck cl kn ln) (hx : Nm x) (h : x ∉ kn.map (·.1)) (hl : ln.length < 16) (hz : kn.length <= 900)
    (s1 : S ≠ []) (s6 : S.length <= 6) (sn : S.Nodup) (e1 : E ≠ []) (e6 : E.length <= 6) (en : E.Nodup) (hs : ∀ y ∈ S, y ∈ kn.map (·.1) /\ y ∉ ln.map (·.1)) (he : ∀ y ∈ E, y ∈ kn.map (·.1) /\ y ∉ ln.map (·.1)) (w0 : 0 <= wr) (w1 : wr <= 30) (hxl : x ∉ ln.map (·.1))
    (q : ∀ μ' S' E', Srt S S' -> Srt E E' -> zP μ' k ck cl (kn ++ [(x, ("line" : Str))]) (ln ++ [(x, S', E', wr)]) -> (∀ j, j ≠ ck -> j ≠ cl -> μ' j = μ j) -> Q .non μ') : zaz [.cell k, .str x, .tup (S.map D.str), .tup (E.map D.str), .int wr] μ Q := by
  have hzz : (1000 : Nat) <= sizeLine := by decide
  refine ⟨rfl, stp fun N1 h1 => ?_⟩
  rw_mod_cast [N.o]
  refine zhY N hx h (h1 _ _ (stp fun N2 h2 => ?_))
  rw_mod_cast [N.o, zlr, zft, N.b, zc5, zdb, decide_eq_false (show ¬ (16 : Int) <= (ln.length : Int) by omega)]
  refine h2 _ _ (stp fun N3 h3 => ?_)
  rw_mod_cast []
  refine zg8 s1 s6 sn (h3 _ _ (stp fun N4 h4 => ?_))
  rw_mod_cast []
  refine zg8 e1 e6 en (h4 _ _ (stp fun N5 h5 => ?_))
  rw_mod_cast [N.o]
  refine zf1 N hs (h5 _ _ (stp fun N6 h6 => ?_))
  rw_mod_cast [N.o]
  refine zf1 N he (h6 _ _ (stp fun N7 h7 => ?_))
  rw_mod_cast []
  refine zrP w0 w1 (h7 _ _ (stp fun N8 h8 => ?_))
  unfold zk5
  rw_mod_cast [N.o, N.a, zc5, zdR, zdb]
  rw [zgF (f := D.str) h]
  refine ⟨by omega, h8 _ _ ?_⟩
  have o' : zQ μ ck (.dct (ksS (kn ++ [(x, ("line" : Str))])) (vsS D.str (kn ++ [(x, ("line" : Str))]))) k = some (.ins "Net" zaf [.cell ck, .cell cl]) := by rw [zm N.k1]; exact N.o
  have b' : zQ μ ck (.dct (ksS (kn ++ [(x, ("line" : Str))])) (vsS D.str (kn ++ [(x, ("line" : Str))]))) cl = some (.dct (ksS ln) (vsS enD ln)) := by rw [zm N.ne.symm]; exact N.b
  unfold zk5
  rw_mod_cast []
  refine zky (by omega) fun S' p1 p2 => ?_
  rw_mod_cast []
  refine zky (by omega) fun E' p3 p4 => ?_
  rw_mod_cast [o', b', zc5, zdR, zdb]
  have e : D.tup [.tup (S'.map D.str), .tup (E'.map D.str), .int wr] = enD (S', E', wr) := rfl
  rw [e, zgF (f := enD) hxl]
  refine ⟨by omega, by omega, _, .refl _, q _ S' E' ⟨p1, p2⟩ ⟨p3, p4⟩ ⟨?_, ?_, zu, N.ne, ?_⟩ fun j a b => ?_⟩
  . rw [zm N.k2]; exact o'
  . rw [zm N.ne, zu]
  . rw [List.map_append]
    refine List.nodup_append.mpr ⟨N.nd, by simp, fun a ha b hb => ?_⟩
    simp at hb; subst hb
    exact fun z => h (z ▸ ha)
  . rw [zm b, zm a]
theorem zqR {β : Type} {l : SL β} : ksS l = (l.map (·.1)).map Sum.inr := by unfold ksS; rw [List.map_map]; rfl
/-- a new net -/
theorem zeF (h : ∀ ck cl μ', μ ck = none -> μ cl = none -> zP μ' k ck cl [] [] -> (∀ j c, μ j = some c -> j ≠ k -> μ' j = some c) -> Q .non μ') (hk : μ k = some (.ins "Net" [] [])) : zal [.cell k] μ Q := by
  refine ⟨rfl, stp fun N1 h1 => ?_⟩
  rw_mod_cast [zjQ]
  intro ck hck
  have kne : k ≠ ck := fun z => by rw [z, hck] at hk; cases hk
  rw_mod_cast [zm kne, hk]
  refine h1 _ _ ?_
  rw_mod_cast [zjQ]
  intro cl hcl
  have n1 : cl ≠ ck := fun z => by
    rw [z, zm (fun y => kne y.symm), zu] at hcl; cases hcl
  have n2 : cl ≠ k := fun z => by rw [z, zu] at hcl; cases hcl
  have hcl' : μ cl = none := by rw [zm n2, zm n1] at hcl; exact hcl
  rw_mod_cast [zm (fun y : k = cl => n2 y.symm)]
  refine ⟨_, .refl _, h ck cl _ hck hcl' ⟨zu, ?_, ?_, fun z => n1 z.symm, by simp⟩ fun j c e hj => ?_⟩
  . rw [zm (fun y => kne y.symm), zm (fun y => n1 y.symm), zm (fun y => kne y.symm), zu]; rfl
  . rw [zm n2, zu]; rfl
  . rw [zm hj, zm (fun y => by rw [y, hcl'] at e; cases e), zm hj, zm (fun y => by rw [y, hck] at e; cases e)]; exact e
end
set_option synthInstance.maxHeartbeats 4000000
set_option synthInstance.maxSize 100000
set_option maxHeartbeats 4000000
theorem zmY {μ : Mu} {k ck cl : Nat} {kn : SL Str} {ln : SL EN} {Q : DK} (N : zP μ k ck cl kn ln) (q : Q (.int kn.length) μ) : zbR [.cell k] μ Q := by
  refine ⟨rfl, ?_⟩
  rw_mod_cast [N.o, zlr, zft, N.a, zc5, zdb]
  exact ⟨_, .refl _, q⟩
set_option synthInstance.maxHeartbeats 4000000
set_option synthInstance.maxSize 100000
set_option maxHeartbeats 4000000
def kindsOf (ho ga : List Str) (ls : List LR) : SL Str := ho.map (fun x => (x, ("house" : Str))) ++ ga.map (fun x => (x, ("gate" : Str))) ++ ls.map (fun r => (r.nm, ("line" : Str)))
def zej (ls : List LR) (ln : SL EN) : Prop := ln.length = ls.length /\ ∀ (i : Nat) r, ls[i]? = some r -> ∃ S' E', ln[i]? = some (r.nm, S', E', r.w) /\ Srt r.S S' /\ Srt r.E E'
theorem zbB {ho ga : List Str} {ls : List LR} : (kindsOf ho ga ls).map (·.1) = ho ++ ga ++ ls.map LR.nm := by
  unfold kindsOf
  rw [List.map_append, List.map_append, List.map_map, List.map_map, List.map_map]
  have e1 : ∀ l : List Str, l.map ((fun p : Str × Str => p.1) ∘ fun x => (x, ("house" : Str))) = l := fun l => by
    rw [show ((fun p : Str × Str => p.1) ∘ fun x => (x, ("house" : Str))) = id from rfl, List.map_id]
  have e2 : ∀ l : List Str, l.map ((fun p : Str × Str => p.1) ∘ fun x => (x, ("gate" : Str))) = l := fun l => by
    rw [show ((fun p : Str × Str => p.1) ∘ fun x => (x, ("gate" : Str))) = id from rfl, List.map_id]
  rw [e1, e2]; rfl
theorem zej.fst {ls : List LR} {ln : SL EN} (h : zej ls ln) : ln.map (·.1) = ls.map LR.nm := by
  apply List.ext_getElem?
  intro i
  rw [List.getElem?_map, List.getElem?_map]
  by_cases hi : i < ls.length
  . obtain ⟨S', E', e, _⟩ := h.2 i ls[i] (List.getElem?_eq_getElem hi)
    rw [e, List.getElem?_eq_getElem hi]; rfl
  . rw [List.getElem?_eq_none (show ln.length <= i by rw [h.1]; omega), List.getElem?_eq_none (show ls.length <= i by omega)]; rfl
theorem zej.snoc {ls : List LR} {ln : SL EN} {r : LR} {S' E' : List Str} (h : zej ls ln) (h1 : Srt r.S S') (h2 : Srt r.E E') : zej (ls ++ [r]) (ln ++ [(r.nm, S', E', r.w)]) := by
  refine ⟨by simp [h.1], fun i q e => ?_⟩
  rw [List.getElem?_append] at e ⊢
  rw [h.1]
  split at e
  . rename_i hi
    rw [if_pos hi]
    exact h.2 i q e
  . rename_i hi
    rw [if_neg hi]
    have : i - ls.length = 0 := by
      have := (List.getElem?_eq_some_iff.mp e).1
      simpa using this
    rw [this] at e ⊢
    simp at e; subst e
    exact ⟨S', E', rfl, h1, h2⟩
theorem ztT {s na la : Nat} {ho ga ns : List Str} {ls : List LR} {h c : Nat} {μ : Mu} {Q : DK} {rowsD slD : D} (W : WD μ s na la ns ls) (N : zcI ho ga ns ls h c) (h4 : ho.length <= 4) (g3 : ga.length <= 3)
    (q : ∀ μ' k ck cl ln, μ k = none -> μ ck = none -> μ cl = none -> zP μ' k ck cl (kindsOf ho ga ls) ln -> zej ls ln -> (∀ j c, μ j = some c -> μ' j = some c) -> Q (.cell k) μ') :
    zcC [.tup [.lst (ho.map D.str), .lst (ga.map D.str), .cell la, rowsD, slD, .cell na]] μ Q := by
  have hz : (1000 : Nat) <= sizeLine := by decide
  have l14 := N.len
  have nd := N.nd
  have nmx : ∀ x ∈ ho ++ ga ++ ls.map LR.nm, Nm x := fun x hx => N.nms x (N.sub x hx)
  refine ⟨rfl, stp fun N1 h1 => ?_⟩
  rw_mod_cast []
  intro k hk
  refine zeF (fun ck cl μ1 hck hcl A keep => ?_) zu
  have kck : k ≠ ck := A.k1
  have kcl : k ≠ cl := A.k2
  have hck' : μ ck = none := by rw [zm (fun z => kck z.symm)] at hck; exact hck
  have hcl' : μ cl = none := by rw [zm (fun z => kcl z.symm)] at hcl; exact hcl
  have keep1 : ∀ j c, μ j = some c -> μ1 j = some c /\ j ≠ k /\ j ≠ ck /\ j ≠ cl := fun j c e => by
    have n1 : j ≠ k := fun z => by rw [z, hk] at e; cases e
    exact ⟨keep j c (by rw [zm n1]; exact e) n1, n1, fun z => (by rw [z, hck'] at e; cases e), fun z => (by rw [z, hcl'] at e; cases e)⟩
  clear keep hck hcl
  refine ⟨rfl, h1 _ _ ?_⟩
  refine zjc (fun ρ μ' => ∃ x2, ρ = [some (.tup [.lst (ho.map D.str), .lst (ga.map D.str), .cell la, rowsD, slD, .cell na]), some (.cell k), x2, none, none, none] /\ zP μ' k ck cl (kindsOf ho [] []) [] /\ ∀ j c, μ j = some c -> μ' j = some c) (fun N2 k2 => ?_) ?_
  . rw_mod_cast []
    refine zbx (fun i ρ μ' => ∃ x2, ρ = [some (.tup [.lst (ho.map D.str), .lst (ga.map D.str), .cell la, rowsD, slD, .cell na]), some (.cell k), x2, none, none, none] /\ zP μ' k ck cl (kindsOf (ho.take i) [] []) [] /\ ∀ j c, μ j = some c -> μ' j = some c) ⟨_, rfl, A, fun j c e => (keep1 j c e).1⟩ ?_ ?_
    . rintro i d ρ μ' hd ⟨x2, rfl, A', ke⟩ N3 hN
      rw [List.getElem?_map] at hd
      obtain ⟨x, hx, rfl⟩ := Option.map_eq_some_iff.mp hd
      have hi := (List.getElem?_eq_some_iff.mp hx).1
      rw_mod_cast [A'.o]
      refine zeN A' (nmx x (by simp [List.mem_of_getElem? hx])) ?_ ?_ ?_ fun μ2 A2 ke2 => ?_
      . rw [zbB]
        simp only [List.append_nil, List.map_nil]
        intro hm
        have hd2 : (ho.take i ++ [x]).Nodup := by
          have : ho.take (i + 1) = ho.take i ++ [x] := by rw [List.take_add_one, hx]; rfl
          rw [<- this]
          exact (List.take_sublist _ _).nodup ((List.nodup_append.mp (List.nodup_append.mp nd).1).1)
        exact (List.nodup_append.mp hd2).2.2 x hm x (by simp) rfl
      . simp [kindsOf]; omega
      . simp [kindsOf]; omega
      . refine hN _ _ ⟨_, rfl, ?_, fun j c e => ?_⟩
        . have e : kindsOf (ho.take (i + 1)) [] [] = kindsOf (ho.take i) [] [] ++ [(x, ("house" : Str))] := by
            unfold kindsOf
            rw [List.take_add_one, hx]; simp
          rw [e]; exact A2
        . rw [ke2 j (keep1 j c e).2.2.1]; exact ke j c e
    . rintro ρ μ' ⟨x2, rfl, A', ke⟩
      rw [List.length_map, List.take_length] at A'
      exact k2 _ _ ⟨_, rfl, A', ke⟩
  rintro ρ μ2 ⟨x2, rfl, A2, ke2⟩
  refine zjc (fun ρ μ' => ∃ x2, ρ = [some (.tup [.lst (ho.map D.str), .lst (ga.map D.str), .cell la, rowsD, slD, .cell na]), some (.cell k), x2, none, none, none] /\ zP μ' k ck cl (kindsOf ho ga []) [] /\ ∀ j c, μ j = some c -> μ' j = some c) (fun N2 k2 => ?_) ?_
  . rw_mod_cast []
    refine zbx (fun i ρ μ' => ∃ x2, ρ = [some (.tup [.lst (ho.map D.str), .lst (ga.map D.str), .cell la, rowsD, slD, .cell na]), some (.cell k), x2, none, none, none] /\ zP μ' k ck cl (kindsOf ho (ga.take i) []) [] /\ ∀ j c, μ j = some c -> μ' j = some c) ⟨_, rfl, A2, ke2⟩ ?_ ?_
    . rintro i d ρ μ' hd ⟨x2, rfl, A', ke⟩ N3 hN
      rw [List.getElem?_map] at hd
      obtain ⟨x, hx, rfl⟩ := Option.map_eq_some_iff.mp hd
      have hi := (List.getElem?_eq_some_iff.mp hx).1
      rw_mod_cast [A'.o]
      refine ziL A' (nmx x (by simp [List.mem_of_getElem? hx])) ?_ ?_ ?_ fun μ2 A2 ke2 => ?_
      . rw [zbB]
        simp only [List.append_nil, List.map_nil]
        intro hm
        have hd2 : (ho ++ (ga.take i ++ [x])).Nodup := by
          have : ga.take (i + 1) = ga.take i ++ [x] := by rw [List.take_add_one, hx]; rfl
          rw [<- this]
          exact ((List.Sublist.refl ho).append (List.take_sublist _ _)).nodup (List.nodup_append.mp nd).1
        rw [<- List.append_assoc] at hd2
        exact (List.nodup_append.mp hd2).2.2 x hm x (by simp) rfl
      . simp [kindsOf]; omega
      . simp [kindsOf]; omega
      . refine hN _ _ ⟨_, rfl, ?_, fun j c e => ?_⟩
        . have e : kindsOf ho (ga.take (i + 1)) [] = kindsOf ho (ga.take i) [] ++ [(x, ("gate" : Str))] := by
            unfold kindsOf
            rw [List.take_add_one, hx]; simp
          rw [e]; exact A2
        . rw [ke2 j (keep1 j c e).2.2.1]; exact ke j c e
    . rintro ρ μ' ⟨x2, rfl, A', ke⟩
      rw [List.length_map, List.take_length] at A'
      exact k2 _ _ ⟨_, rfl, A', ke⟩
  clear A2 ke2 x2 A
  rintro ρ μ2 ⟨x2, rfl, A2, ke2⟩
  refine stp fun N4 k4 => ?_
  rw_mod_cast [ke2 la _ W.dl]
  refine zbx (fun i ρ μ' => ∃ x2 x3 x4 x5 ln, ρ = [some (.tup [.lst (ho.map D.str), .lst (ga.map D.str), .cell la, rowsD, slD, .cell na]), some (.cell k), x2, x3, x4, x5] /\ zP μ' k ck cl (kindsOf ho ga (ls.take i)) ln /\ zej (ls.take i) ln /\ ∀ j c, μ j = some c -> μ' j = some c) ⟨_, _, _, _, [], rfl, A2, ⟨rfl, fun i r e => by simp at e⟩, ke2⟩ ?_ ?_ ?_
  . rintro i d ρ μ' hd ⟨x2, x3, x4, x5, ln, rfl, A', L', ke⟩ N3 hN
    rw [List.getElem?_map] at hd
    obtain ⟨r, hr, rfl⟩ := Option.map_eq_some_iff.mp hd
    have hm := List.mem_of_getElem? hr
    have hi := (List.getElem?_eq_some_iff.mp hr).1
    have E := N.ends r hm
    obtain ⟨c1, c2⟩ := W.rs r hm
    have tk : ls.take (i + 1) = ls.take i ++ [r] := by rw [List.take_add_one, hr]; rfl
    have hsub : (ho ++ ga ++ ((ls.take i).map LR.nm ++ [r.nm])).Nodup := by
      have : ho ++ ga ++ (ls.take (i + 1)).map LR.nm = ho ++ ga ++ ((ls.take i).map LR.nm ++ [r.nm]) := by rw [tk, List.map_append]; rfl
      rw [<- this]
      exact ((List.Sublist.refl _).append ((List.take_sublist _ _).map _)).nodup nd
    have hnew : r.nm ∉ ho ++ ga ++ (ls.take i).map LR.nm := fun hh => by
      rw [<- List.append_assoc] at hsub
      exact (List.nodup_append.mp hsub).2.2 _ hh _ (by simp) rfl
    have fs := L'.fst
    have nodes : ∀ y ∈ ho ++ ga, y ∈ (kindsOf ho ga (ls.take i)).map (·.1) /\ y ∉ ln.map (·.1) := fun y hy => by
      rw [zbB, fs]
      refine ⟨List.mem_append_left _ hy, fun hh => ?_⟩
      have := List.nodup_append.mp nd
      exact this.2.2 y hy y (((List.take_sublist i ls).map LR.nm).subset hh) rfl
    unfold zbt
    rw_mod_cast [zmB, ke _ _ c1, ke _ _ c2, A'.o]
    refine zgm A' (nmx _ (by simp [List.mem_map_of_mem (f := LR.nm) hm])) (by rw [zbB]; exact hnew) ?_ ?_ E.s0 E.s6 E.sn E.e0 E.e6 E.en (fun y hy => nodes y (E.ss y hy)) (fun y hy => nodes y (E.es y hy)) E.w0 (by have := E.w3; omega) ?_ fun μ3 S' E' p1 p2 A3 ke3 => ?_
    . rw [L'.1, List.length_take]; omega
    . simp [kindsOf]; omega
    . rw [fs]; exact fun hh => hnew (List.mem_append_right _ hh)
    . refine hN _ _ ⟨_, _, _, _, ln ++ [(r.nm, S', E', r.w)], rfl, ?_, ?_, fun j c e => ?_⟩
      . have e : kindsOf ho ga (ls.take (i + 1)) = kindsOf ho ga (ls.take i) ++ [(r.nm, ("line" : Str))] := by
          unfold kindsOf
          rw [tk]; simp
        rw [e]; exact A3
      . rw [tk]; exact L'.snoc p1 p2
      . rw [ke3 j (keep1 j c e).2.2.1 (keep1 j c e).2.2.2]; exact ke j c e
  . rintro ρ μ' ⟨x2, x3, x4, x5, ln, rfl, A', L', ke⟩
    rw [List.length_map, List.take_length] at A' L'
    refine k4 _ _ ?_
    rw_mod_cast []
    exact ⟨_, .refl _, q μ' k ck cl ln hk hck' hcl' A' L' ke⟩
  . rintro i ρ μ' ⟨x2, x3, x4, x5, ln, rfl, A', L', ke⟩
    exact ke la _ W.dl
set_option synthInstance.maxHeartbeats 4000000
set_option synthInstance.maxSize 100000
set_option maxHeartbeats 4000000
/-! two nets compared -/
theorem zef {α : Type} {f : α -> D} {g : α -> PyData} (h : ∀ a, toPy (f a) = some (g a)) : ∀ l : List α, zaP (l.map f) = some (l.map g)
  | [] => rfl
  | a :: r => by
    rw [List.map_cons, zaP, h a, zef h r]; rfl
section
variable {β : Type} {f : β -> D} {g : β -> PyData} {n : Nat}
theorem zop {l : SL β} {x : Str} : zd6 (ksS l) (l.map fun p => g p.2) (.inr x) = (zY l x).map g := by
  induction l with
  | nil => rfl
  | cons p r ih =>
    show (if (Sum.inr p.1 : Key) = .inr x then some (g p.2) else zd6 (ksS r) (r.map fun p => g p.2) (.inr x)) = _
    rw [zY]
    by_cases h : p.1 = x
    . rw [if_pos (by rw [h]), if_pos h]; rfl
    . rw [if_neg (fun z => h (Sum.inr.inj z)), if_neg h]; exact ih
theorem zmh (hg : ∀ b, toPy (f b) = some (g b)) (inj : ∀ a b, f a = f b -> a = b) {l' : SL β} (s' : ∀ p ∈ l', SI n (f p.2)) : ∀ {l : SL β}, (∀ p ∈ l, SI n (f p.2)) -> (zhL (ksS l') (l'.map fun p => g p.2) (ksS l) (l.map fun p => g p.2) = true ↔ ∀ p ∈ l, zY l' p.1 = some p.2)
  | [], _ => by
    show (true = true ↔ _)
    simp
  | p :: r, s => by
    have ih := zmh hg inj s' (l := r) fun p hp => s p (List.mem_cons_of_mem _ hp)
    show ((match zd6 (ksS l') (l'.map fun p => g p.2) (.inr p.1) with
      | none => false
      | some q => PyData.eqv (g p.2) q && zhL (ksS l') (l'.map fun p => g p.2) (ksS r) (r.map fun p => g p.2)) = true ↔ _)
    rw [zop]
    cases e : zY l' p.1 with
    | none =>
      show (false = true ↔ _)
      exact ⟨fun z => (by cases z), fun z => (by have := z p List.mem_cons_self; rw [e] at this; cases this)⟩
    | some b =>
      show ((PyData.eqv (g p.2) (g b) && zhL (ksS l') (l'.map fun p => g p.2) (ksS r) (r.map fun p => g p.2)) = true ↔ _)
      rw [Bool.and_eq_true, ih, SI.eqv n (f p.2) (f b) (g p.2) (g b) (s p List.mem_cons_self) (s' _ (zeV e)) (hg _) (hg _)]
      constructor
      . rintro ⟨h1, h2⟩ q hq
        rcases List.mem_cons.mp hq with rfl | hq
        . rw [e, inj _ _ h1]
        . exact h2 q hq
      . intro h
        refine ⟨?_, fun q hq => h q (List.mem_cons_of_mem _ hq)⟩
        have := h p List.mem_cons_self
        rw [e] at this
        rw [Option.some.inj this]
def zbk (l l' : SL β) : Prop := l.length = l'.length /\ ∀ p ∈ l, zY l' p.1 = some p.2
theorem zph {ck ck' : Nat} {l l' : SL β} {μ : Mu} {Q : DK} (hg : ∀ b, toPy (f b) = some (g b)) (inj : ∀ a b, f a = f b -> a = b) (hn : n <= 60) (a : μ ck = some (.dct (ksS l) (vsS f l))) (a' : μ ck' = some (.dct (ksS l') (vsS f l'))) (s : ∀ p ∈ l, SI n (f p.2)) (s' : ∀ p ∈ l', SI n (f p.2))
    (q : ∀ b : Bool, (b = true ↔ zbk l l') -> Q (.bl b) μ) : znm (.cell ck) (.cell ck') μ Q := by
  have ok : ∀ {l : SL β}, (∀ p ∈ l, SI n (f p.2)) -> ∀ p ∈ l.map (fun p => g p.2), zdj p := fun {l} s p hp => by
    obtain ⟨x, hx, rfl⟩ := List.mem_map.mp hp
    obtain ⟨p', t, c, b⟩ := Pl.py n _ (s x hx).pl
    rw [hg] at t; cases t
    exact ⟨c, by omega⟩
  rw [zvv, zgQ, a, zeW, zgQ, a', zeW]
  refine ⟨l.map (fun p : Str × β => g p.2), l'.map (fun p : Str × β => g p.2), zef (f := fun p : Str × β => f p.2) (fun p => hg p.2) l, zef (f := fun p : Str × β => f p.2) (fun p => hg p.2) l', ok s, ok s', q _ ?_⟩
  rw [Bool.and_eq_true, zmh hg inj s' s, zdb, zdb, beq_iff_eq]
  rfl
end
def enP (e : EN) : PyData := .tuple [.tuple (e.1.map .str), .tuple (e.2.1.map .str), .int e.2.2]
theorem zs4 (e : EN) : toPy (enD e) = some (enP e) := by
  have h : ∀ xs : List Str, zaP (xs.map D.str) = some (xs.map PyData.str) := zef fun a => by unfold toPy; rfl
  have t : ∀ ds : List D, toPy (.tup ds) = (zaP ds).map .tuple := fun ds => by unfold toPy; rfl
  unfold enD enP
  rw [t]
  simp only [zaP, t, h, Option.map_some, toPy]
theorem zrp (a b : EN) (h : enD a = enD b) : a = b := by
  obtain ⟨S, E, w⟩ := a
  obtain ⟨S', E', w'⟩ := b
  unfold enD at h
  simp only [D.tup.injEq, List.cons.injEq, D.int.injEq, and_true] at h
  obtain ⟨h1, h2, h3⟩ := h
  have j : ∀ {x y : List Str}, x.map D.str = y.map D.str -> x = y := fun e => (List.map_inj_right (fun p q z => D.str.inj z)).mp e
  rw [j h1, j h2, h3]
structure zgg (kn : SL Str) (ln : SL EN) : Prop where
  k : ∀ p ∈ kn, PyData.strOk p.2 = true
  l : ∀ p ∈ ln, SI 2 (enD p.2)
theorem zog {c : Str} {k : Nat} {ns : List Str} {vs : List D} {μ : Mu} {Q : DK} (h : μ k = some (.ins c ns vs)) : zmZ c [.cell k, .cls c] μ Q = Q (.bl true) μ := by
  show (c = c /\ zfw μ (.cell k) fun c2 _ _ => c2 = c /\ Q (.bl true) μ) = _
  rw [zc2, h, zc7]; simp
theorem zrd {c : Str} {i : Int} {μ : Mu} {Q : DK} : zmZ c [.int i, .cls c] μ Q = Q (.bl false) μ := by show (c = c /\ _) = _; simp
theorem zpW {μ : Mu} {k ck cl k' ck' cl' : Nat} {kn kn' : SL Str} {ln ln' : SL EN} {Q : DK} (A : zP μ k ck cl kn ln) (B : zP μ k' ck' cl' kn' ln') (V : zgg kn ln) (V' : zgg kn' ln')
    (q : ∀ b : Bool, (b = true ↔ zbk kn kn' /\ zbk ln ln') -> Q (.bl b) μ) : zH [.cell k, .cell k'] μ Q := by
  refine ⟨rfl, ?_⟩
  have q' : ∀ b : Bool, (b = true ↔ zbk kn kn' /\ zbk ln ln') -> ∃ d2, MLe d2 μ /\ Q (.bl b) d2 := fun b hb => ⟨_, .refl _, q b hb⟩
  rw_mod_cast [zog B.o, A.o, B.o]
  refine zph (f := D.str) (g := PyData.str) (n := 0) (fun b => by unfold toPy; rfl) (fun a b e => D.str.inj e) (by decide) A.a B.a (fun p hp => V.k p hp) (fun p hp => V'.k p hp) fun b hb => ?_
  cases b with
  | false =>
    rw_mod_cast []
    exact q' false ⟨fun z => (by cases z), fun z => by have := hb.mpr z.1; cases this⟩
  | true =>
    rw_mod_cast [A.o, B.o]
    refine zph (f := enD) (g := enP) (n := 2) zs4 zrp (by decide) A.b B.b (fun p hp => V.l p hp) (fun p hp => V'.l p hp) fun b2 hb2 => ?_
    exact q' b2 ⟨fun z => ⟨hb.mp rfl, hb2.mp z⟩, fun z => hb2.mpr z.2⟩
theorem zkB {μ : Mu} {k ck cl : Nat} {kn : SL Str} {ln : SL EN} {Q : DK} {d : D} (A : zP μ k ck cl kn ln) (hd : (∃ x, d = .str x) \/ ∃ i, d = .int i) (q : Q (.bl false) μ) : zH [.cell k, d] μ Q := by
  refine ⟨rfl, ?_⟩
  rcases hd with ⟨x, rfl⟩ | ⟨i, rfl⟩
  . rw_mod_cast [zif]
    exact ⟨_, .refl _, q⟩
  . rw_mod_cast [zrd]
    exact ⟨_, .refl _, q⟩
theorem zoK {α : Type} [DecidableEq α] : ∀ {l m : List α}, l.Nodup -> (∀ y ∈ l, y ∈ m) -> l.length <= m.length
  | [], m, _, _ => Nat.zero_le _
  | y :: r, m, h, s => by
    have hy := s y List.mem_cons_self
    have := zoK (l := r) (m := m.erase y) (List.nodup_cons.mp h).2 (fun z hz => by
      have ne : z ≠ y := fun e => (List.nodup_cons.mp h).1 (by rw [<- e]; exact hz)
      exact (List.mem_erase_of_ne ne).mpr (s z (List.mem_cons_of_mem _ hz)))
    rw [List.length_erase_of_mem hy] at this
    have := List.length_pos_of_mem hy
    rw [List.length_cons]; omega
/-- what is the same has the same looks -/
theorem zbk.look {β : Type} {l l' : SL β} (h : zbk l l') (nd : (l.map (·.1)).Nodup) (nd' : (l'.map (·.1)).Nodup) (x : Str) : zY l x = zY l' x := by
  cases e : zY l x with
  | some b => exact (h.2 _ (zeV e)).symm
  | none =>
    cases e' : zY l' x with
    | none => rfl
    | some b =>
      exfalso
      have hx : x ∉ l.map (·.1) := fun z => by have := zdo.mpr z; rw [e] at this; cases this
      have hx' : x ∈ l'.map (·.1) := zdo.mp (by rw [e']; rfl)
      have sub : ∀ y ∈ l.map (·.1), y ∈ (l'.map (·.1)).erase x := fun y hy => by
        obtain ⟨p, hp, e2⟩ := List.mem_map.mp hy
        have hy' : y ∈ l'.map (·.1) := zdo.mp (by rw [<- e2, h.2 p hp]; rfl)
        have ne : y ≠ x := fun z => hx (by rw [<- z]; exact hy)
        exact (List.mem_erase_of_ne ne).mpr hy'
      have h1 := zoK nd sub
      rw [List.length_erase_of_mem hx', List.length_map, List.length_map, h.1] at h1
      have := List.length_pos_of_mem hx'
      rw [List.length_map] at this
      omega
theorem zbk.of {β : Type} {l l' : SL β} (p : List.Perm l l') (nd : (l.map (·.1)).Nodup) : zbk l l' := ⟨p.length_eq, fun q hq => zgE ((p.map (·.1)).nodup_iff.mp nd) (p.mem_iff.mp hq)⟩
set_option synthInstance.maxHeartbeats 4000000
set_option synthInstance.maxSize 100000
set_option maxHeartbeats 4000000
/-! a twin, a drop -/
def zcy {β : Type} (l : SL β) (x : Str) : SL β := l.filter fun p => decide (p.1 ≠ x)
theorem zgK {β : Type} {f : β -> D} {x : Str} : ∀ {l : SL β}, zkA (ksS l) (.inr x) = ksS (zcy l x) /\ zfg (ksS l) (vsS f l) (.inr x) = vsS f (zcy l x)
  | [] => ⟨rfl, rfl⟩
  | p :: r => by
    obtain ⟨i1, i2⟩ := zgK (f := f) (x := x) (l := r)
    unfold zkA zcy at *
    have e1 : ksS (p :: r) = .inr p.1 :: ksS r := rfl
    have e2 : vsS f (p :: r) = f p.2 :: vsS f r := rfl
    rw [e1, e2, List.filter_cons, List.filter_cons]
    by_cases h : p.1 = x
    . have h' : (Sum.inr p.1 : Key) = .inr x := by rw [h]
      simp only [h', h, ne_eq, not_true_eq_false, decide_false, Bool.false_eq_true, if_false, zfg, if_true]
      exact ⟨i1, i2⟩
    . have h' : ¬ (Sum.inr p.1 : Key) = .inr x := fun z => h (Sum.inr.inj z)
      simp only [h', h, ne_eq, not_false_eq_true, decide_true, if_true, zfg, if_false]
      exact ⟨by rw [i1]; rfl, by rw [i2]; rfl⟩
theorem znS {β : Type} {l : SL β} {x y : Str} : zY (zcy l x) y = if y = x then none else zY l y := by
  induction l with
  | nil => simp [zcy, zY]
  | cons p r ih =>
    unfold zcy at *
    rw [List.filter_cons]
    by_cases h : p.1 = x
    . simp only [h, ne_eq, not_true_eq_false, decide_false, Bool.false_eq_true, if_false]
      rw [ih, zY]
      by_cases e : y = x
      . rw [if_pos e, if_pos e]
      . rw [if_neg e, if_neg e, if_neg (fun z => e (by rw [<- z]; exact h))]
    . simp only [h, ne_eq, not_false_eq_true, decide_true, if_true, zY]
      rw [ih]
      by_cases e : y = x
      . subst e
        rw [if_neg h, if_pos rfl, if_pos rfl]
      . rw [if_neg e, if_neg e]
theorem zi8 {μ : Mu} {k ck cl : Nat} {kn : SL Str} {ln : SL EN} {Q : DK} {x : Str} (A : zP μ k ck cl kn ln) (h1 : zY kn x = some (Str.ofString "line")) (h2 : (zY ln x).isSome = true)
    (q : ∀ μ', zP μ' k ck cl (zcy kn x) (zcy ln x) -> (∀ j, j ≠ ck -> j ≠ cl -> μ' j = μ j) -> Q .non μ') : zb6 [.cell k, .str x] μ Q := by
  have nk : ((zcy kn x).map (·.1)).Nodup := (List.filter_sublist.map _).nodup A.nd
  obtain ⟨v, hv⟩ := Option.isSome_iff_exists.mp h2
  refine ⟨rfl, stp fun N1 k1 => ?_⟩
  rw_mod_cast [A.o]
  refine zqf A h1 ?_
  rw_mod_cast [zr3, A.o, A.b, zc5, zdR, zgO, hv, Option.map_some, Option.isSome_some, (zgK (f := enD) (l := ln) (x := x)).1, (zgK (f := enD) (l := ln) (x := x)).2]
  refine k1 _ _ ?_
  have o' : zQ μ cl (.dct (ksS (zcy ln x)) (vsS enD (zcy ln x))) k = some (.ins "Net" zaf [.cell ck, .cell cl]) := by rw [zm A.k2]; exact A.o
  have a' : zQ μ cl (.dct (ksS (zcy ln x)) (vsS enD (zcy ln x))) ck = some (.dct (ksS kn) (vsS D.str kn)) := by rw [zm A.ne]; exact A.a
  rw_mod_cast [zr3, o', a', zc5, zdR, zgO, h1, Option.map_some, Option.isSome_some, (zgK (f := D.str) (l := kn) (x := x)).1, (zgK (f := D.str) (l := kn) (x := x)).2]
  refine ⟨_, .refl _, q _ ⟨?_, zu, ?_, A.ne, nk⟩ fun j a b => ?_⟩
  . rw [zm A.k1]; exact o'
  . rw [zm A.ne.symm, zu]
  . rw [zm a, zm b]
theorem zrt {μ : Mu} {k ck cl : Nat} {kn : SL Str} {ln : SL EN} {Q : DK} (A : zP μ k ck cl kn ln)
    (q : ∀ μ' k' ck' cl', μ k' = none -> μ ck' = none -> μ cl' = none -> zP μ' k' ck' cl' kn ln -> (∀ j c, μ j = some c -> μ' j = some c) -> Q (.cell k') μ') : zb5 [.cell k] μ Q := by
  refine ⟨rfl, stp fun N1 h1 => ?_⟩
  rw_mod_cast []
  intro k' hk'
  refine zeF (fun c0 c1 μ1 hc0 hc1 B keep => ?_) zu
  have keep1 : ∀ j c, μ j = some c -> μ1 j = some c /\ j ≠ k' := fun j c e => by
    have n1 : j ≠ k' := fun z => by rw [z, hk'] at e; cases e
    exact ⟨keep j c (by rw [zm n1]; exact e) n1, n1⟩
  have A1 : zP μ1 k ck cl kn ln := ⟨(keep1 _ _ A.o).1, (keep1 _ _ A.a).1, (keep1 _ _ A.b).1, A.ne, A.nd⟩
  have kk : k ≠ k' := (keep1 _ _ A.o).2
  refine ⟨rfl, h1 _ _ (stp fun N2 h2 => ?_)⟩
  rw_mod_cast [zl6, A1.o, zft, A1.a, zc5]
  intro c2 hc2
  have n2 : k' ≠ c2 := fun z => by rw [<- z, B.o] at hc2; cases hc2
  rw_mod_cast [zm n2, B.o]
  refine h2 _ _ (stp fun N3 h3 => ?_)
  have c2n : ∀ j c, μ1 j = some c -> j ≠ c2 := fun j c e z => by rw [z, hc2] at e; cases e
  have kp2 : ∀ j c, μ j = some c -> zQ (zQ μ1 c2 (.dct (ksS kn) (vsS D.str kn))) k' (.ins "Net" zaf [.cell c2, .cell c1]) j = some c := fun j c e => by
    rw [zm (keep1 j c e).2, zm (c2n j c (keep1 j c e).1)]; exact (keep1 j c e).1
  have a2 : zQ (zQ μ1 c2 (.dct (ksS kn) (vsS D.str kn))) k' (.ins "Net" zaf [.cell c2, .cell c1]) c2 = some (.dct (ksS kn) (vsS D.str kn)) := by rw [zm n2.symm, zu]
  have o2 : zQ (zQ μ1 c2 (.dct (ksS kn) (vsS D.str kn))) k' (.ins "Net" zaf [.cell c2, .cell c1]) k' = some (.ins "Net" zaf [.cell c2, .cell c1]) := zu
  have f2 : μ c2 = none := by
    cases e : μ c2 with
    | none => rfl
    | some c => exact absurd rfl (c2n c2 c (keep1 c2 c e).1)
  generalize zQ (zQ μ1 c2 (.dct (ksS kn) (vsS D.str kn))) k' (.ins "Net" zaf [.cell c2, .cell c1]) = μ2 at kp2 a2 o2 ⊢
  have A2 : zP μ2 k ck cl kn ln := ⟨kp2 _ _ A.o, kp2 _ _ A.a, kp2 _ _ A.b, A.ne, A.nd⟩
  rw_mod_cast [zl6, A2.o, zft, A2.b, zc5]
  intro c3 hc3
  have n3 : k' ≠ c3 := fun z => by rw [<- z, o2] at hc3; cases hc3
  have n4 : c2 ≠ c3 := fun z => by rw [<- z, a2] at hc3; cases hc3
  rw_mod_cast [zm n3, o2]
  refine h3 _ _ ?_
  have f3 : μ c3 = none := by
    cases e : μ c3 with
    | none => rfl
    | some c => have := kp2 c3 c e; rw [hc3] at this; cases this
  rw_mod_cast []
  refine ⟨_, .refl _, q _ k' c2 c3 hk' f2 f3 ⟨zu, ?_, ?_, n4, A.nd⟩ fun j c e => ?_⟩
  . rw [zm n2.symm, zm n4]; exact a2
  . rw [zm n3.symm, zu]
  . rw [zm (keep1 j c e).2, zm (fun z => by rw [z, f3] at e; cases e)]; exact kp2 j c e
set_option synthInstance.maxHeartbeats 4000000
set_option synthInstance.maxSize 100000
set_option maxHeartbeats 4000000
/-! the net built in another order -/
theorem zej.uniq {ls : List LR} {ln ln' : SL EN} (h : zej ls ln) (h' : zej ls ln') : ln = ln' := by
  apply List.ext_getElem?
  intro i
  by_cases hi : i < ls.length
  . obtain ⟨S, E, e, s1, s2⟩ := h.2 i ls[i] (List.getElem?_eq_getElem hi)
    obtain ⟨S', E', e', s1', s2'⟩ := h'.2 i ls[i] (List.getElem?_eq_getElem hi)
    rw [e, e', s1.uniq s1', s2.uniq s2']
  . rw [List.getElem?_eq_none (show ln.length <= i by rw [h.1]; omega), List.getElem?_eq_none (show ln'.length <= i by rw [h'.1]; omega)]
theorem zej.rev {ls : List LR} {ln : SL EN} (h : zej ls ln) : zej ls.reverse ln.reverse := by
  refine ⟨by rw [List.length_reverse, List.length_reverse]; exact h.1, fun i r e => ?_⟩
  have hi : i < ls.length := by
    have := (List.getElem?_eq_some_iff.mp e).1
    rwa [List.length_reverse] at this
  rw [List.getElem?_reverse hi] at e
  rw [List.getElem?_reverse (by rw [h.1]; exact hi), h.1]
  exact h.2 _ r e
def ndK (ho : List Str) (x : Str) : Str × Str := (x, if x ∈ ho then Str.ofString "house" else Str.ofString "gate")
def zaj (ho ga : List Str) (ls : List LR) (i j : Nat) : SL Str := ((ho ++ ga).reverse.take i).map (ndK ho) ++ (ls.reverse.take j).map (fun r => (r.nm, Str.ofString "line"))
theorem zgX {ho ga : List Str} {ls : List LR} {i j : Nat} : (zaj ho ga ls i j).map (·.1) = (ho ++ ga).reverse.take i ++ (ls.reverse.take j).map LR.nm := by
  unfold zaj
  rw [List.map_append, List.map_map, List.map_map]
  rw [show ((fun p : Str × Str => p.1) ∘ ndK ho) = id from rfl, List.map_id]
  rfl
theorem zk6 {ho ga : List Str} {ls : List LR} (nd : (ho ++ ga ++ ls.map LR.nm).Nodup) : List.Perm (kindsOf ho ga ls) (zaj ho ga ls (ho ++ ga).length ls.length) := by
  unfold zaj
  rw [<- List.length_reverse (as := ho ++ ga), List.take_length, <- List.length_reverse (as := ls), List.take_length]
  have e : kindsOf ho ga ls = (ho ++ ga).map (ndK ho) ++ ls.map (fun r => (r.nm, Str.ofString "line")) := by
    unfold kindsOf
    rw [List.map_append]
    have e1 : ho.map (fun x => (x, ("house" : Str))) = ho.map (ndK ho) := List.map_congr_left fun x hx => by unfold ndK; rw [if_pos hx]
    have e2 : ga.map (fun x => (x, ("gate" : Str))) = ga.map (ndK ho) := List.map_congr_left fun x hx => by
      unfold ndK
      rw [if_neg (fun hh => (List.nodup_append.mp (List.nodup_append.mp nd).1).2.2 x hh x hx rfl)]
    rw [e1, e2]
  rw [e]
  exact ((List.reverse_perm _).symm.map _).append ((List.reverse_perm _).symm.map _)
theorem zof {we : DE} {wl wh wk : DO} {ρ : zav} {μ : Mu} {Q : DK} : zmT we wl wh wk ρ μ Q = we ρ μ fun d μ1 => wl ρ μ1 fun l μ2 => wh ρ μ2 fun u μ3 => wk ρ μ3 fun k μ4 => zbd k fun st => dSt d l u st μ4 Q := rfl
theorem zve {ds : List D} {lo hi : Option Int} {st : Int} {μ : Mu} {Q : DK} : dSt (.lst ds) lo hi st μ Q = ((st ≠ 0 /\ (zaU ds lo hi st).length <= sizeLine) /\ Q (.lst (zaU ds lo hi st)) μ) := rfl
theorem zoj {c : Nat} {ds : List D} {lo hi : Option Int} {st : Int} {μ : Mu} {Q : DK} (h : μ c = some (.lst ds)) : dSt (.cell c) lo hi st μ Q = ((st ≠ 0 /\ (zaU ds lo hi st).length <= sizeLine) /\ Q (.lst (zaU ds lo hi st)) μ) := by
  show (match zaC μ (.cell c) with
    | some ds => (st ≠ 0 /\ (zaU ds lo hi st).length <= sizeLine) /\ Q (.lst (zaU ds lo hi st)) μ
    | none => False) = _
  have e : zaC μ (.cell c) = some ds := by unfold zaC; simp only [h]
  rw [e]
theorem zp3 {s na la : Nat} {ho ga ns : List Str} {ls : List LR} {h c : Nat} {μ : Mu} {Q : DK} {rowsD slD : D} (W : WD μ s na la ns ls) (N : zcI ho ga ns ls h c) (h4 : ho.length <= 4) (g3 : ga.length <= 3)
    (q : ∀ μ' k ck cl ln, μ k = none -> μ ck = none -> μ cl = none -> zP μ' k ck cl (zaj ho ga ls (ho ++ ga).length ls.length) ln -> zej ls.reverse ln -> (∀ j c, μ j = some c -> μ' j = some c) -> Q (.cell k) μ') :
    zbS [.tup [.lst (ho.map D.str), .lst (ga.map D.str), .cell la, rowsD, slD, .cell na]] μ Q := by
  have hz : (1000 : Nat) <= sizeLine := by decide
  have l14 := N.len
  have nd := N.nd
  have nmx : ∀ x ∈ ho ++ ga ++ ls.map LR.nm, Nm x := fun x hx => N.nms x (N.sub x hx)
  have ndr : ((ho ++ ga).reverse ++ ls.reverse.map LR.nm).Nodup := by
    have p : List.Perm ((ho ++ ga).reverse ++ ls.reverse.map LR.nm) (ho ++ ga ++ ls.map LR.nm) := (List.reverse_perm _).append ((List.reverse_perm _).map _)
    exact p.nodup_iff.mpr nd
  refine ⟨rfl, stp fun N1 h1 => ?_⟩
  rw_mod_cast []
  intro k hk
  refine zeF (fun ck cl μ1 hck hcl A keep => ?_) zu
  have kck : k ≠ ck := A.k1
  have kcl : k ≠ cl := A.k2
  have hck' : μ ck = none := by rw [zm (fun z => kck z.symm)] at hck; exact hck
  have hcl' : μ cl = none := by rw [zm (fun z => kcl z.symm)] at hcl; exact hcl
  have keep1 : ∀ j c, μ j = some c -> μ1 j = some c /\ j ≠ k /\ j ≠ ck /\ j ≠ cl := fun j c e => by
    have n1 : j ≠ k := fun z => by rw [z, hk] at e; cases e
    exact ⟨keep j c (by rw [zm n1]; exact e) n1, n1, fun z => (by rw [z, hck'] at e; cases e), fun z => (by rw [z, hcl'] at e; cases e)⟩
  clear keep hck hcl
  refine ⟨rfl, h1 _ _ ?_⟩
  refine zjc (fun ρ μ' => ∃ x2, ρ = [some (.tup [.lst (ho.map D.str), .lst (ga.map D.str), .cell la, rowsD, slD, .cell na]), some (.cell k), x2, none, none, none] /\ zP μ' k ck cl (zaj ho ga ls (ho ++ ga).length 0) [] /\ ∀ j c, μ j = some c -> μ' j = some c) (fun N2 k2 => ?_) ?_
  . rw_mod_cast [zof, zve, zfF]
    refine ⟨by simp only [List.length_map]; omega, ⟨by decide, by rw [List.length_reverse, List.length_append, List.length_map, List.length_map]; omega⟩, ?_⟩
    rw [<- List.map_append, <- List.map_reverse]
    refine zbx (fun i ρ μ' => ∃ x2, ρ = [some (.tup [.lst (ho.map D.str), .lst (ga.map D.str), .cell la, rowsD, slD, .cell na]), some (.cell k), x2, none, none, none] /\ zP μ' k ck cl (zaj ho ga ls i 0) [] /\ ∀ j c, μ j = some c -> μ' j = some c) ⟨_, rfl, A, fun j c e => (keep1 j c e).1⟩ ?_ ?_
    . rintro i d ρ μ' hd ⟨x2, rfl, A', ke⟩ N3 hN
      rw [List.getElem?_map] at hd
      obtain ⟨x, hx, rfl⟩ := Option.map_eq_some_iff.mp hd
      have hi := (List.getElem?_eq_some_iff.mp hx).1
      rw [List.length_reverse, List.length_append] at hi
      have tk : (ho ++ ga).reverse.take (i + 1) = (ho ++ ga).reverse.take i ++ [x] := by rw [List.take_add_one, hx]; rfl
      have hmem : x ∈ ho ++ ga := List.mem_reverse.mp (List.mem_of_getElem? hx)
      have hnew : x ∉ (zaj ho ga ls i 0).map (·.1) := by
        rw [zgX]
        simp only [List.take_zero, List.map_nil, List.append_nil]
        intro hm
        have hd2 : ((ho ++ ga).reverse.take i ++ [x]).Nodup := by
          rw [<- tk]
          exact (List.take_sublist _ _).nodup (List.nodup_append.mp ndr).1
        exact (List.nodup_append.mp hd2).2.2 x hm x (by simp) rfl
      have len : (zaj ho ga ls i 0).length <= 7 := by
        unfold zaj
        simp only [List.length_append, List.length_map, List.length_take, List.length_reverse, List.take_zero, List.length_nil]
        omega
      have nx : Nm x := nmx x (List.mem_append_left _ hmem)
      have step : ∀ v : Str, v = (ndK ho x).2 -> zaj ho ga ls i 0 ++ [(x, v)] = zaj ho ga ls (i + 1) 0 := fun v hv => by
        unfold zaj
        rw [tk, List.map_append]
        simp only [List.take_zero, List.map_nil, List.append_nil, List.map_cons]
        rw [hv]; rfl
      rw_mod_cast [zfy, Bool.false_xor]
      by_cases c0 : x ∈ ho
      . rw_mod_cast [decide_eq_true c0, A'.o]
        refine zeN A' nx hnew (by simp; omega) (by omega) fun μ2 A2 ke2 => ?_
        refine hN _ _ ⟨_, rfl, by rw [<- step _ (by unfold ndK; rw [if_pos c0])]; exact A2, fun j c e => ?_⟩
        rw [ke2 j (keep1 j c e).2.2.1]; exact ke j c e
      . rw_mod_cast [decide_eq_false c0, A'.o]
        refine ziL A' nx hnew (by simp; omega) (by omega) fun μ2 A2 ke2 => ?_
        refine hN _ _ ⟨_, rfl, by rw [<- step _ (by unfold ndK; rw [if_neg c0])]; exact A2, fun j c e => ?_⟩
        rw [ke2 j (keep1 j c e).2.2.1]; exact ke j c e
    . rintro ρ μ' ⟨x2, rfl, A', ke⟩
      rw [List.length_map, List.length_reverse] at A'
      exact k2 _ _ ⟨_, rfl, A', ke⟩
  rintro ρ μ2 ⟨x2, rfl, A2, ke2⟩
  refine stp fun N4 k4 => ?_
  have hla := ke2 la _ W.dl
  rw_mod_cast [zof, zoj hla, zfF]
  refine ⟨⟨by decide, by rw [List.length_reverse, List.length_map]; omega⟩, ?_⟩
  rw [<- List.map_reverse]
  refine zbx (fun i ρ μ' => ∃ x2 x3 x4 x5 ln, ρ = [some (.tup [.lst (ho.map D.str), .lst (ga.map D.str), .cell la, rowsD, slD, .cell na]), some (.cell k), x2, x3, x4, x5] /\ zP μ' k ck cl (zaj ho ga ls (ho ++ ga).length i) ln /\ zej (ls.reverse.take i) ln /\ ∀ j c, μ j = some c -> μ' j = some c) ⟨_, _, _, _, [], rfl, A2, ⟨rfl, fun i r e => by simp at e⟩, ke2⟩ ?_ ?_
  . rintro i d ρ μ' hd ⟨x2, x3, x4, x5, ln, rfl, A', L', ke⟩ N3 hN
    rw [List.getElem?_map] at hd
    obtain ⟨r, hr, rfl⟩ := Option.map_eq_some_iff.mp hd
    have hm : r ∈ ls := List.mem_reverse.mp (List.mem_of_getElem? hr)
    have hi := (List.getElem?_eq_some_iff.mp hr).1
    rw [List.length_reverse] at hi
    have E := N.ends r hm
    obtain ⟨c1, c2⟩ := W.rs r hm
    have tk : ls.reverse.take (i + 1) = ls.reverse.take i ++ [r] := by rw [List.take_add_one, hr]; rfl
    have full : (ho ++ ga).reverse.take (ho ++ ga).length = (ho ++ ga).reverse := by rw [<- List.length_reverse (as := ho ++ ga), List.take_length]
    have hsub : ((ho ++ ga).reverse ++ ((ls.reverse.take i).map LR.nm ++ [r.nm])).Nodup := by
      have : (ho ++ ga).reverse ++ (ls.reverse.take (i + 1)).map LR.nm = (ho ++ ga).reverse ++ ((ls.reverse.take i).map LR.nm ++ [r.nm]) := by rw [tk, List.map_append]; rfl
      rw [<- this]
      exact ((List.Sublist.refl _).append ((List.take_sublist _ _).map _)).nodup ndr
    have hnew : r.nm ∉ (ho ++ ga).reverse ++ (ls.reverse.take i).map LR.nm := fun hh => by
      rw [<- List.append_assoc] at hsub
      exact (List.nodup_append.mp hsub).2.2 _ hh _ (by simp) rfl
    have fs := L'.fst
    have kf : (zaj ho ga ls (ho ++ ga).length i).map (·.1) = (ho ++ ga).reverse ++ (ls.reverse.take i).map LR.nm := by rw [zgX, full]
    have nodes : ∀ y ∈ ho ++ ga, y ∈ (zaj ho ga ls (ho ++ ga).length i).map (·.1) /\ y ∉ ln.map (·.1) := fun y hy => by
      rw [kf, fs]
      refine ⟨List.mem_append_left _ (List.mem_reverse.mpr hy), fun hh => ?_⟩
      exact (List.nodup_append.mp ndr).2.2 y (List.mem_reverse.mpr hy) y (((List.take_sublist i ls.reverse).map LR.nm).subset hh) rfl
    have kl : (zaj ho ga ls (ho ++ ga).length i).length <= 30 := by
      unfold zaj
      simp only [List.length_append, List.length_map, List.length_take, List.length_reverse]
      omega
    unfold zbt
    rw_mod_cast [zmB, A'.o, zof, zoj (ke _ _ c1), zoj (ke _ _ c2), zfF]
    have s6 := E.s6; have e6 := E.e6
    refine ⟨⟨by decide, by rw [List.length_reverse, List.length_map]; omega⟩, ⟨by decide, by rw [List.length_reverse, List.length_map]; omega⟩, ?_⟩
    rw [<- List.map_reverse, <- List.map_reverse]
    refine zgm (S := r.S.reverse) (E := r.E.reverse) A' (nmx _ (by simp [List.mem_map_of_mem (f := LR.nm) hm])) (by rw [kf]; exact hnew) ?_ (by omega) (by simpa using E.s0) (by simpa using s6) ((List.reverse_perm _).nodup_iff.mpr E.sn) (by simpa using E.e0) (by simpa using e6) ((List.reverse_perm _).nodup_iff.mpr E.en) (fun y hy => nodes y (E.ss y (List.mem_reverse.mp hy))) (fun y hy => nodes y (E.es y (List.mem_reverse.mp hy))) E.w0 (by have := E.w3; omega) ?_ fun μ3 S' E' p1 p2 A3 ke3 => ?_
    . rw [L'.1, List.length_take, List.length_reverse]; omega
    . rw [fs]; exact fun hh => hnew (List.mem_append_right _ hh)
    . refine hN _ _ ⟨_, _, _, _, ln ++ [(r.nm, S', E', r.w)], rfl, ?_, ?_, fun j c e => ?_⟩
      . have e : zaj ho ga ls (ho ++ ga).length (i + 1) = zaj ho ga ls (ho ++ ga).length i ++ [(r.nm, Str.ofString "line")] := by
          unfold zaj
          rw [tk]; simp
        rw [e]; exact A3
      . rw [tk]; exact L'.snoc ⟨p1.1.trans (List.reverse_perm _), p1.2⟩ ⟨p2.1.trans (List.reverse_perm _), p2.2⟩
      . rw [ke3 j (keep1 j c e).2.2.1 (keep1 j c e).2.2.2]; exact ke j c e
  . rintro ρ μ' ⟨x2, x3, x4, x5, ln, rfl, A', L', ke⟩
    rw [List.length_map, List.length_reverse] at A'
    rw [List.length_map, List.take_length] at L'
    refine k4 _ _ ?_
    rw_mod_cast []
    exact ⟨_, .refl _, q μ' k ck cl ln hk hck' hcl' A' L' ke⟩
set_option synthInstance.maxHeartbeats 4000000
set_option synthInstance.maxSize 100000
set_option maxHeartbeats 4000000
/-! one of six changes -/
theorem zkZ {β : Type} {x : Str} : ∀ {l : SL β}, (l.map (·.1)).Nodup -> l.length <= (zcy l x).length + 1
  | [], _ => by simp [zcy]
  | p :: r, h => by
    rw [List.map_cons] at h
    obtain ⟨h1, h2⟩ := List.nodup_cons.mp h
    unfold zcy
    rw [List.filter_cons]
    by_cases e : p.1 = x
    . have : r.filter (fun p => decide (p.1 ≠ x)) = r := List.filter_eq_self.mpr fun q hq => decide_eq_true fun z => h1 (by rw [e, <- z]; exact List.mem_map_of_mem (f := fun q : Str × β => q.1) hq)
      simp only [e, ne_eq, not_true_eq_false, decide_false, Bool.false_eq_true, if_false, List.length_cons]
      have t : (r.filter fun p => decide ¬p.1 = x) = r := this
      rw [t]; exact Nat.le_refl _
    . have ih := zkZ (x := x) h2
      unfold zcy at ih
      simp only [e, ne_eq, not_false_eq_true, decide_true, if_true, List.length_cons]
      have : (r.filter fun p => decide ¬p.1 = x) = r.filter fun p => decide (p.1 ≠ x) := rfl
      rw [this]; omega
theorem zdU {β : Type} {x : Str} {l : SL β} {y : Str} : y ∈ (zcy l x).map (·.1) ↔ y ≠ x /\ y ∈ l.map (·.1) := by
  constructor
  . intro h
    obtain ⟨p, hp, rfl⟩ := List.mem_map.mp h
    obtain ⟨h1, h2⟩ := List.mem_filter.mp hp
    exact ⟨of_decide_eq_true h2, List.mem_map_of_mem (f := fun q : Str × β => q.1) h1⟩
  . rintro ⟨h1, h2⟩
    obtain ⟨p, hp, rfl⟩ := List.mem_map.mp h2
    exact List.mem_map_of_mem (f := fun q : Str × β => q.1) (List.mem_filter.mpr ⟨hp, decide_eq_true h1⟩)
theorem zpV {s c : Nat} {ds : List D} {μ : Mu} {Q : DK} (hs : μ s = some .draw) (hc : μ c = some (.lst ds)) (h0 : ds ≠ []) (hl : ds.length <= 1000) (q : ∀ (i : Nat) d, ds[i]? = some d -> Q d μ) : zay [.cell s, .cell c] μ Q := by
  have hp : 0 < ds.length := List.length_pos_iff.mpr h0
  refine ⟨rfl, ?_⟩
  rw_mod_cast [hc]
  refine ⟨hs, by omega, by omega, fun v v0 v1 => ?_⟩
  obtain ⟨d, e1, e2⟩ := ziI (xs := ds) v0 v1
  rw_mod_cast [hc, e1]
  exact ⟨_, .refl _, q _ d e2⟩
structure Chg (kn kn' : SL Str) (ln ln' : SL EN) : Prop where
  v : zgg kn' ln'
  nd : (ln'.map (·.1)).Nodup
  df : (∃ x, zY kn' x ≠ zY kn x) \/ ∃ x, zY ln' x ≠ zY ln x
theorem zez {β : Type} {l : SL β} {x y : Str} {b : β} (h : x ∉ l.map (·.1)) : zY (l ++ [(x, b)]) y = if y = x then some b else zY l y := by
  induction l with
  | nil =>
    show (if x = y then some b else none) = _
    by_cases e : y = x
    . rw [if_pos e, if_pos e.symm]
    . rw [if_neg e, if_neg (fun z => e z.symm)]; rfl
  | cons p r ih =>
    rw [List.map_cons, List.mem_cons, not_or] at h
    rw [List.cons_append, zY, zY, ih h.2]
    by_cases e : p.1 = y
    . rw [if_pos e, if_pos e, if_neg (fun z => h.1 (by rw [<- z, e]))]
    . rw [if_neg e, if_neg e]
theorem zpj {β : Type} {l : SL β} {x : Str} (h : x ∉ l.map (·.1)) : zY l x = none := by
  cases e : zY l x with
  | none => rfl
  | some b => exact absurd (zdo.mp (by rw [e]; rfl)) h
theorem zoQ {S' E' : List Str} {w : Int} (hs : ∀ y ∈ S', Nm y) (he : ∀ y ∈ E', Nm y) : SI 2 (enD (S', E', w)) := by
  intro d hd
  simp only [List.mem_cons, List.not_mem_nil, or_false] at hd
  rcases hd with rfl | rfl | rfl
  . intro d hd
    obtain ⟨y, hy, rfl⟩ := List.mem_map.mp hd
    exact zgY (hs y hy)
  . intro d hd
    obtain ⟨y, hy, rfl⟩ := List.mem_map.mp hd
    exact zgY (he y hy)
  . trivial
theorem zfS : PyData.strOk (Str.ofString "house") = true /\ PyData.strOk (Str.ofString "gate") = true /\ PyData.strOk (Str.ofString "line") = true := by decide +kernel
theorem zhU {s na la k ck cl : Nat} {ho ga ns : List Str} {ls : List LR} {h c : Nat} {μ : Mu} {Q : DK} {rowsD slD : D} {ln : SL EN} (W : WD μ s na la ns ls) (N : zcI ho ga ns ls h c) (h4 : ho.length <= 4) (g3 : ga.length <= 3) (l1 : ls ≠ []) (nl : ns.length < 100) (A : zP μ k ck cl (kindsOf ho ga ls) ln) (L : zej ls ln) (V : zgg (kindsOf ho ga ls) ln)
    (q : ∀ μ' kn' ln', zP μ' k ck cl kn' ln' -> Chg (kindsOf ho ga ls) kn' ln ln' -> (∀ j, j ≠ ck -> j ≠ cl -> j ≠ na -> μ' j = μ j) -> Q .non μ') :
    zaY [.cell s, .tup [.lst (ho.map D.str), .lst (ga.map D.str), .cell la, rowsD, slD, .cell na], .cell k] μ Q := by
  have l14 := N.len
  have nd := N.nd
  have nmx : ∀ x ∈ ho ++ ga ++ ls.map LR.nm, Nm x := fun x hx => N.nms x (N.sub x hx)
  have ndl : (ls.map LR.nm).Nodup := (List.nodup_append.mp nd).2.1
  have lf := L.fst
  have kl : (kindsOf ho ga ls).length = ho.length + ga.length + ls.length := by simp [kindsOf]; omega
  have lnl := L.1
  refine ⟨rfl, stp fun N1 h1 => ?_⟩
  rw_mod_cast []
  refine ⟨W.ds, by decide, by decide, fun v v0 v1 => h1 _ _ (stp fun N2 h2 => ?_)⟩
  rw_mod_cast []
  refine zpV W.ds W.dl (fun z => l1 (List.map_eq_nil_iff.mp z)) (by rw [List.length_map]; omega) fun i d hd => h2 _ _ (stp fun N3 h3 => ?_)
  rw [List.getElem?_map] at hd
  obtain ⟨r, hr, rfl⟩ := Option.map_eq_some_iff.mp hd
  have hm := List.mem_of_getElem? hr
  have E := N.ends r hm
  have s6 := E.s6; have e6 := E.e6
  obtain ⟨S0, E0, e0, p1, p2⟩ := L.2 i r hr
  have hln : zY ln r.nm = some (S0, E0, r.w) := zgE (by rw [lf]; exact ndl) (List.mem_of_getElem? e0)
  have hnd : ((kindsOf ho ga ls).map (·.1)).Nodup := by rw [zbB]; exact nd
  have hkn : zY (kindsOf ho ga ls) r.nm = some (Str.ofString "line") := zgE hnd (by
    unfold kindsOf
    exact List.mem_append_right _ (List.mem_map_of_mem (f := fun r : LR => (r.nm, ("line" : Str))) hm))
  rw_mod_cast []
  refine zgr W.ds W.dn nl fun x hx hxn => h3 _ _ ?_
  have hxo : x ∉ ho ++ ga ++ ls.map LR.nm := fun hh => hxn (N.sub x hh)
  have hxk : x ∉ (kindsOf ho ga ls).map (·.1) := by rw [zbB]; exact hxo
  have hxl : x ∉ ln.map (·.1) := by rw [lf]; exact fun hh => hxo (List.mem_append_right _ hh)
  have nn : na ≠ k /\ na ≠ ck /\ na ≠ cl := ⟨fun z => (by have := A.o; rw [<- z, W.dn] at this; cases this), fun z => (by have := A.a; rw [<- z, W.dn] at this; cases this), fun z => (by have := A.b; rw [<- z, W.dn] at this; cases this)⟩
  have A1 : zP (zQ μ na (.lst ((ns ++ [x]).map D.str))) k ck cl (kindsOf ho ga ls) ln := ⟨by rw [zm nn.1.symm]; exact A.o, by rw [zm nn.2.1.symm]; exact A.a, by rw [zm nn.2.2.symm]; exact A.b, A.ne, A.nd⟩
  have rs1 : zQ μ na (.lst ((ns ++ [x]).map D.str)) r.sa = some (.lst (r.S.map D.str)) /\ zQ μ na (.lst ((ns ++ [x]).map D.str)) r.ea = some (.lst (r.E.map D.str)) := ⟨by rw [zm (W.ap r hm).1]; exact (W.rs r hm).1, by rw [zm (W.ap r hm).2.2.1]; exact (W.rs r hm).2⟩
  have keep : ∀ j, j ≠ na -> zQ μ na (.lst ((ns ++ [x]).map D.str)) j = μ j := fun j hj => zm hj
  generalize zQ μ na (.lst ((ns ++ [x]).map D.str)) = μ1 at A1 rs1 keep ⊢
  have nodes : ∀ y ∈ ho ++ ga, y ∈ (kindsOf ho ga ls).map (·.1) /\ y ∉ ln.map (·.1) := fun y hy => by
    rw [zbB, lf]
    exact ⟨List.mem_append_left _ hy, fun hh => (List.nodup_append.mp nd).2.2 y hy y hh rfl⟩
  have nmS : ∀ y ∈ r.S, Nm y := fun y hy => nmx y (List.mem_append_left _ (E.ss y hy))
  have nmE : ∀ y ∈ r.E, Nm y := fun y hy => nmx y (List.mem_append_left _ (E.es y hy))
  have Vk : ∀ v, PyData.strOk v = true -> ∀ p ∈ kindsOf ho ga ls ++ [(x, v)], PyData.strOk p.2 = true := fun v hv p hp => by
    rcases List.mem_append.mp hp with hp | hp
    . exact V.k p hp
    . rw [List.mem_singleton.mp hp]; exact hv
  have dfx : ∀ v : Str, zY (kindsOf ho ga ls ++ [(x, v)]) x ≠ zY (kindsOf ho ga ls) x := fun v e => by
    rw [zez hxk, if_pos rfl, zpj hxk] at e; cases e
  have nmr : Nm r.nm := nmx _ (List.mem_append_right _ (List.mem_map_of_mem hm))
  unfold zbt
  rcases (show v = 0 \/ v = 1 \/ v = 2 \/ v = 3 \/ v = 4 \/ v = 5 by omega) with rfl | rfl | rfl | rfl | rfl | rfl
  . refine stp fun N4 k4 => ?_
    rw_mod_cast [A1.o]
    refine zeN A1 hx hxk (by omega) (by omega) fun μ2 A2 ke2 => k4 _ _ (stp fun N5 k5 => ?_)
    rw_mod_cast []
    refine k5 _ _ ?_
    rw_mod_cast []
    exact ⟨_, .refl _, q μ2 _ _ A2 ⟨⟨Vk _ zfS.1, V.l⟩, by rw [lf]; exact ndl, .inl ⟨x, dfx _⟩⟩ fun j a b c => by rw [ke2 j a, keep j c]⟩
  . refine stp fun N4 k4 => ?_
    rw_mod_cast [A1.o]
    refine ziL A1 hx hxk (by omega) (by omega) fun μ2 A2 ke2 => k4 _ _ (stp fun N5 k5 => ?_)
    rw_mod_cast []
    refine k5 _ _ ?_
    rw_mod_cast []
    exact ⟨_, .refl _, q μ2 _ _ A2 ⟨⟨Vk _ zfS.2.1, V.l⟩, by rw [lf]; exact ndl, .inl ⟨x, dfx _⟩⟩ fun j a b c => by rw [ke2 j a, keep j c]⟩
  . refine stp fun N4 k4 => ?_
    rw_mod_cast [A1.o, rs1.1, rs1.2]
    refine zgm A1 hx hxk (by omega) (by omega) E.s0 s6 E.sn E.e0 e6 E.en (fun y hy => nodes y (E.ss y hy)) (fun y hy => nodes y (E.es y hy)) E.w0 (by have := E.w3; omega) hxl fun μ2 S' E' z1 z2 A2 ke2 => k4 _ _ (stp fun N5 k5 => ?_)
    rw_mod_cast []
    refine k5 _ _ ?_
    rw_mod_cast []
    refine ⟨_, .refl _, q μ2 _ _ A2 ⟨⟨Vk _ zfS.2.2, fun p hp => ?_⟩, ?_, .inl ⟨x, dfx _⟩⟩ fun j a b c => by rw [ke2 j a b, keep j c]⟩
    . rcases List.mem_append.mp hp with hp | hp
      . exact V.l p hp
      . rw [List.mem_singleton.mp hp]
        exact zoQ (fun y hy => nmS y (z1.1.mem_iff.mp hy)) (fun y hy => nmE y (z2.1.mem_iff.mp hy))
    . rw [List.map_append]
      refine List.nodup_append.mpr ⟨by rw [lf]; exact ndl, by simp, fun a ha b hb => ?_⟩
      simp at hb; subst hb
      exact fun z => hxl (z ▸ ha)
  . refine stp fun N4 k4 => ?_
    rw_mod_cast [A1.o]
    refine zi8 A1 hkn (by rw [hln]; rfl) fun μ2 A2 ke2 => k4 _ _ (stp fun N5 k5 => ?_)
    rw_mod_cast []
    refine k5 _ _ ?_
    rw_mod_cast []
    refine ⟨_, .refl _, q μ2 _ _ A2 ⟨⟨fun p hp => V.k p (List.mem_filter.mp hp).1, fun p hp => V.l p (List.mem_filter.mp hp).1⟩, (List.filter_sublist.map _).nodup (by rw [lf]; exact ndl), .inl ⟨r.nm, fun e => ?_⟩⟩ fun j a b c => by rw [ke2 j a b, keep j c]⟩
    rw [znS, if_pos rfl, hkn] at e; cases e
  . refine stp fun N4 k4 => ?_
    rw_mod_cast [A1.o]
    refine zi8 A1 hkn (by rw [hln]; rfl) fun μ2 A2 ke2 => k4 _ _ (stp fun N5 k5 => ?_)
    have d1 : (zcy (kindsOf ho ga ls) r.nm).length <= (kindsOf ho ga ls).length := List.length_filter_le _ _
    have d2 := zkZ (x := r.nm) (l := ln) (by rw [lf]; exact ndl)
    have hnew : r.nm ∉ (zcy (kindsOf ho ga ls) r.nm).map (·.1) := fun hh => (zdU.mp hh).1 rfl
    rw_mod_cast [A2.o]
    refine zeN A2 nmr hnew (by omega) (by omega) fun μ3 A3 ke3 => k5 _ _ ?_
    rw_mod_cast []
    refine ⟨_, .refl _, q μ3 _ _ A3 ⟨⟨fun p hp => ?_, fun p hp => V.l p (List.mem_filter.mp hp).1⟩, (List.filter_sublist.map _).nodup (by rw [lf]; exact ndl), .inl ⟨r.nm, fun e => ?_⟩⟩ fun j a b c => by rw [ke3 j a, ke2 j a b, keep j c]⟩
    . rcases List.mem_append.mp hp with hp | hp
      . exact V.k p (List.mem_filter.mp hp).1
      . rw [List.mem_singleton.mp hp]; exact zfS.1
    . rw [zez hnew, if_pos rfl, hkn] at e
      exact absurd (Option.some.inj e) (by decide +kernel)
  . refine stp fun N4 k4 => ?_
    rw_mod_cast [A1.o]
    refine zi8 A1 hkn (by rw [hln]; rfl) fun μ2 A2 ke2 => k4 _ _ (stp fun N5 k5 => ?_)
    have d1 : (zcy (kindsOf ho ga ls) r.nm).length <= (kindsOf ho ga ls).length := List.length_filter_le _ _
    have d2 : (zcy ln r.nm).length <= ln.length := List.length_filter_le _ _
    have hnew : r.nm ∉ (zcy (kindsOf ho ga ls) r.nm).map (·.1) := fun hh => (zdU.mp hh).1 rfl
    have hnel : r.nm ∉ (zcy ln r.nm).map (·.1) := fun hh => (zdU.mp hh).1 rfl
    have cne : ∀ {j : Nat} {ds : List D}, μ1 j = some (.lst ds) -> j ≠ ck /\ j ≠ cl := fun {j ds} e => ⟨fun z => (by rw [z, A1.a] at e; cases e), fun z => (by rw [z, A1.b] at e; cases e)⟩
    have t1 : μ2 r.sa = some (.lst (r.S.map D.str)) := by rw [ke2 _ (cne rs1.1).1 (cne rs1.1).2]; exact rs1.1
    have t2 : μ2 r.ea = some (.lst (r.E.map D.str)) := by rw [ke2 _ (cne rs1.2).1 (cne rs1.2).2]; exact rs1.2
    have nodes2 : ∀ y ∈ ho ++ ga, y ∈ (zcy (kindsOf ho ga ls) r.nm).map (·.1) /\ y ∉ (zcy ln r.nm).map (·.1) := fun y hy => by
      have ne : y ≠ r.nm := fun z => (List.nodup_append.mp nd).2.2 y hy y (by rw [z]; exact List.mem_map_of_mem hm) rfl
      exact ⟨zdU.mpr ⟨ne, (nodes y hy).1⟩, fun hh => (nodes y hy).2 (zdU.mp hh).2⟩
    rw_mod_cast []
    refine k5 _ _ ?_
    rw_mod_cast [A2.o, t1, t2]
    refine zgm A2 nmr hnew (by omega) (by omega) E.s0 s6 E.sn E.e0 e6 E.en (fun y hy => nodes2 y (E.ss y hy)) (fun y hy => nodes2 y (E.es y hy)) (by have := E.w0; omega) (by have := E.w3; omega) hnel fun μ3 S' E' z1 z2 A3 ke3 => ?_
    refine ⟨_, .refl _, q μ3 _ _ A3 ⟨⟨fun p hp => ?_, fun p hp => ?_⟩, ?_, .inr ⟨r.nm, fun e => ?_⟩⟩ fun j a b c => by rw [ke3 j a b, ke2 j a b, keep j c]⟩
    . rcases List.mem_append.mp hp with hp | hp
      . exact V.k p (List.mem_filter.mp hp).1
      . rw [List.mem_singleton.mp hp]; exact zfS.2.2
    . rcases List.mem_append.mp hp with hp | hp
      . exact V.l p (List.mem_filter.mp hp).1
      . rw [List.mem_singleton.mp hp]
        exact zoQ (fun y hy => nmS y (z1.1.mem_iff.mp hy)) (fun y hy => nmE y (z2.1.mem_iff.mp hy))
    . rw [List.map_append]
      refine List.nodup_append.mpr ⟨(List.filter_sublist.map _).nodup (by rw [lf]; exact ndl), by simp, fun a ha b hb => ?_⟩
      simp at hb; subst hb
      exact fun z => hnel (z ▸ ha)
    . rw [zez hnel, if_pos rfl, hln] at e
      have := Option.some.inj e
      simp only [Prod.mk.injEq] at this
      omega
set_option synthInstance.maxHeartbeats 4000000
set_option synthInstance.maxSize 100000
set_option maxHeartbeats 4000000
theorem WD.mv {μ μ' : Mu} {s na la : Nat} {ns ns' : List Str} {ls : List LR} (W : WD μ s na la ns ls) (k : ∀ j c, μ j = some c -> j ≠ na -> μ' j = some c) (hn : μ' na = some (.lst (ns'.map D.str))) : WD μ' s na la ns' ls :=
  ⟨k _ _ W.ds W.sna, hn, k _ _ W.dl W.nl.symm, W.nl, fun r hr => ⟨k _ _ (W.rs r hr).1 (W.ap r hr).1, k _ _ (W.rs r hr).2 (W.ap r hr).2.2.1⟩, W.ap, W.nd⟩
theorem zP.keep {μ μ' : Mu} {k ck cl : Nat} {kn : SL Str} {ln : SL EN} (A : zP μ k ck cl kn ln) (h : ∀ j c, μ j = some c -> (j = k \/ j = ck \/ j = cl) -> μ' j = some c) : zP μ' k ck cl kn ln :=
  ⟨h _ _ A.o (.inl rfl), h _ _ A.a (.inr (.inl rfl)), h _ _ A.b (.inr (.inr rfl)), A.ne, A.nd⟩
section
variable {μ : Mu} {k ck cl k' ck' cl' : Nat} {kn kn' : SL Str} {ln ln' : SL EN} {Q : DK}
theorem zpX (A : zP μ k ck cl kn ln) (B : zP μ k' ck' cl' kn' ln') (V : zgg kn ln) (V' : zgg kn' ln') (q : ∀ b : Bool, (b = true ↔ zbk kn kn' /\ zbk ln ln') -> Q (.bl b) μ) : zd8 "Net" zH (.cell k) (.cell k') μ Q := by
  refine ⟨by rw [zc2, A.o, zc7], ?_, zpW A B V V' q⟩
  show zfw μ (.cell k') fun c' _ _ => c' = _
  rw [zc2, B.o, zc7]
theorem zdT (A : zP μ k ck cl kn ln) (B : zP μ k' ck' cl' kn' ln') (V : zgg kn ln) (V' : zgg kn' ln') (h : zbk kn kn' /\ zbk ln ln') (q : Q (.bl true) μ) : zd8 "Net" zH (.cell k) (.cell k') μ Q :=
  zpX A B V V' fun b hb => by rw [hb.mpr h]; exact q
theorem zdp (A : zP μ k ck cl kn ln) (B : zP μ k' ck' cl' kn' ln') (V : zgg kn ln) (V' : zgg kn' ln') (h : ¬ (zbk kn kn' /\ zbk ln ln')) (q : Q (.bl false) μ) : zd8 "Net" zH (.cell k) (.cell k') μ Q :=
  zpX A B V V' fun b hb => by
    cases b with
    | false => exact q
    | true => exact absurd (hb.mp rfl) h
theorem zed (N : zP μ k ck cl kn ln) (hz : kn.length < 64) (q : ∀ ns', Srt (kn.map (·.1)) ns' -> Q (.lst (ns'.map D.str)) μ) : zaH [.cell k] μ Q := by
  refine ⟨rfl, ?_⟩
  rw_mod_cast [N.o]
  refine zoF (ns := kn.map (·.1)) (vs := vsS D.str kn) (by rw [N.a, zqR]) (by rw [List.length_map]; exact hz) fun ns' p1 p2 => ?_
  exact ⟨_, .refl _, q ns' ⟨p1, p2⟩⟩
end
/-- what differs from one of two that are the same differs from both -/
theorem zgo {kn kn2 kn' : SL Str} {ln ln2 ln' : SL EN} (nk : (kn.map (·.1)).Nodup) (nk' : (kn'.map (·.1)).Nodup) (nk2 : (kn2.map (·.1)).Nodup) (nl : (ln.map (·.1)).Nodup) (nl2 : (ln2.map (·.1)).Nodup) (C : Chg kn kn' ln ln') (p : ∀ x, zY kn2 x = zY kn x) (p2 : ∀ x, zY ln2 x = zY ln x) :
    ¬ (zbk kn' kn2 /\ zbk ln' ln2) /\ ¬ (zbk kn2 kn' /\ zbk ln2 ln') := by
  constructor
  . rintro ⟨h1, h2⟩
    rcases C.df with ⟨x, hx⟩ | ⟨x, hx⟩
    . exact hx ((h1.look nk' nk2 x).trans (p x))
    . exact hx ((h2.look C.nd nl2 x).trans (p2 x))
  . rintro ⟨h1, h2⟩
    rcases C.df with ⟨x, hx⟩ | ⟨x, hx⟩
    . exact hx ((h1.look nk2 nk' x).symm.trans (p x))
    . exact hx ((h2.look nl2 C.nd x).symm.trans (p2 x))
theorem zs1 : ∀ ds μ Q, zoA ds μ Q -> zaa zpL zsk 1 ds μ Q := by
  rintro ds μ Q ⟨ns0, rfl, hl, q⟩
  have hz : (1000 : Nat) <= sizeLine := by decide
  refine ⟨rfl, stp fun N1 h1 => ?_⟩
  walk_at "e"
  intro s hs0
  refine h1 _ _ (stp fun N2 h2 => ?_)
  have hs : zQ μ s .draw s = some .draw := zu
  generalize zQ μ s .draw = μ1 at hs ⊢
  walk_at "e"
  refine zo6 (most := 4) hs (by decide) (by decide) fun μ2 na la ho ga ns ls rows sl W keep => h2 _ _ (stp fun N3 h3 => ?_)
  have hl1 := W.N.len; have hc := W.N.cnt; have g1 := W.ho4; have g2 := W.ga3; have g0 := W.ho2; have rm := W.rm; have r1 := W.r1
  have nd := W.N.nd
  have nmx : ∀ x ∈ ho ++ ga ++ ls.map LR.nm, Nm x := fun x hx => W.N.nms x (W.N.sub x hx)
  have ndl : (ls.map LR.nm).Nodup := (List.nodup_append.mp nd).2.1
  have lne : ls ≠ [] := by
    obtain ⟨r0, hr0⟩ := List.exists_mem_of_length_pos r1
    obtain ⟨first, last, w1, k1, hf, hl, hfl, k11, k13, W1, e1, hw⟩ := (W.ok r0 hr0).way
    have le := W1.len
    have i0 : 2 * 0 < w1.length := by omega
    have i1 : 2 * 0 + 1 < w1.length := by omega
    have i2 : 2 * 0 + 2 < w1.length := by omega
    obtain ⟨q, hq, _⟩ := W1.jn 0 _ _ _ (List.getElem?_eq_getElem i0) (List.getElem?_eq_getElem i1) (List.getElem?_eq_getElem i2)
    intro z
    rw [z] at hq; cases hq
  rw_mod_cast []
  refine ztT W.W W.N g1 g2 fun μ3 k ck cl ln hk hck hcl A L ke => h3 _ _ (stp fun N4 h4 => ?_)
  have W3 : WD μ3 s na la ns ls := W.W.mv (fun j c e _ => ke j c e) (ke na _ W.W.dn)
  rw_mod_cast []
  refine zp3 W3 W.N g1 g2 fun μ4 k2 ck2 cl2 ln2 hk2 hck2 hcl2 B L2 ke2 => h4 _ _ (stp fun N5 h5 => ?_)
  have W4 : WD μ4 s na la ns ls := W3.mv (fun j c e _ => ke2 j c e) (ke2 na _ W3.dn)
  have A4 : zP μ4 k ck cl (kindsOf ho ga ls) ln := A.keep fun j c e _ => ke2 j c e
  rw_mod_cast [A4.o]
  refine zrt A4 fun μ5 k5 ck5 cl5 hk5 hck5 hcl5 T ke5 => h5 _ _ (stp fun N6 h6 => ?_)
  have W5 : WD μ5 s na la ns ls := W4.mv (fun j c e _ => ke5 j c e) (ke5 na _ W4.dn)
  have A5 : zP μ5 k ck cl (kindsOf ho ga ls) ln := A4.keep fun j c e _ => ke5 j c e
  have B5 : zP μ5 k2 ck2 cl2 (zaj ho ga ls (ho ++ ga).length ls.length) ln2 := B.keep fun j c e _ => ke5 j c e
  -- which cells are which
  have nA : ∀ {j : Nat}, μ3 j = none -> j ≠ k /\ j ≠ ck /\ j ≠ cl /\ j ≠ na := fun {j} e => ⟨fun z => (by rw [z, A.o] at e; cases e), fun z => (by rw [z, A.a] at e; cases e), fun z => (by rw [z, A.b] at e; cases e), fun z => (by rw [z, W3.dn] at e; cases e)⟩
  have nB : ∀ {j : Nat}, μ4 j = none -> (j ≠ k /\ j ≠ ck /\ j ≠ cl /\ j ≠ na) /\ j ≠ k2 /\ j ≠ ck2 /\ j ≠ cl2 := fun {j} e => ⟨⟨fun z => (by rw [z, A4.o] at e; cases e), fun z => (by rw [z, A4.a] at e; cases e), fun z => (by rw [z, A4.b] at e; cases e), fun z => (by rw [z, W4.dn] at e; cases e)⟩, fun z => (by rw [z, B.o] at e; cases e), fun z => (by rw [z, B.a] at e; cases e), fun z => (by rw [z, B.b] at e; cases e)⟩
  have nAa : k ≠ na /\ ck ≠ na /\ cl ≠ na := ⟨fun z => (by have := A5.o; rw [z, W5.dn] at this; cases this), fun z => (by have := A5.a; rw [z, W5.dn] at this; cases this), fun z => (by have := A5.b; rw [z, W5.dn] at this; cases this)⟩
  -- the same
  have el2 : ln2 = ln.reverse := L2.uniq L.rev
  have lf := L.fst
  have nk : ((kindsOf ho ga ls).map (·.1)).Nodup := by rw [zbB]; exact nd
  have nl : (ln.map (·.1)).Nodup := by rw [lf]; exact ndl
  have P1 := zk6 nd
  have P2 : List.Perm ln ln2 := by rw [el2]; exact (List.reverse_perm _).symm
  have nk2 : ((zaj ho ga ls (ho ++ ga).length ls.length).map (·.1)).Nodup := (P1.map (·.1)).nodup_iff.mp nk
  have nl2 : (ln2.map (·.1)).Nodup := (P2.map (·.1)).nodup_iff.mp nl
  have S12 : zbk (kindsOf ho ga ls) (zaj ho ga ls (ho ++ ga).length ls.length) /\ zbk ln ln2 := ⟨.of P1 nk, .of P2 nl⟩
  have S21 : zbk (zaj ho ga ls (ho ++ ga).length ls.length) (kindsOf ho ga ls) /\ zbk ln2 ln := ⟨.of P1.symm nk2, .of P2.symm nl2⟩
  have S11 : zbk (kindsOf ho ga ls) (kindsOf ho ga ls) /\ zbk ln ln := ⟨.of (.refl _) nk, .of (.refl _) nl⟩
  have V : zgg (kindsOf ho ga ls) ln := by
    refine ⟨fun p hp => ?_, fun p hp => ?_⟩
    . unfold kindsOf at hp
      rcases List.mem_append.mp hp with hp | hp
      . rcases List.mem_append.mp hp with hp | hp
        . obtain ⟨x, _, rfl⟩ := List.mem_map.mp hp; exact zfS.1
        . obtain ⟨x, _, rfl⟩ := List.mem_map.mp hp; exact zfS.2.1
      . obtain ⟨x, _, rfl⟩ := List.mem_map.mp hp; exact zfS.2.2
    . obtain ⟨i, hi⟩ := List.mem_iff_getElem?.mp hp
      have hlt : i < ls.length := by have := (List.getElem?_eq_some_iff.mp hi).1; rw [L.1] at this; exact this
      obtain ⟨S', E', e, p1, p2⟩ := L.2 i ls[i] (List.getElem?_eq_getElem hlt)
      rw [hi] at e; cases e
      have E := W.N.ends ls[i] (List.getElem_mem hlt)
      exact zoQ (fun y hy => nmx y (List.mem_append_left _ (E.ss y (p1.1.mem_iff.mp hy)))) (fun y hy => nmx y (List.mem_append_left _ (E.es y (p2.1.mem_iff.mp hy))))
  have V2 : zgg (zaj ho ga ls (ho ++ ga).length ls.length) ln2 := ⟨fun p hp => V.k p (P1.mem_iff.mpr hp), fun p hp => V.l p (P2.mem_iff.mpr hp)⟩
  have kl : (kindsOf ho ga ls).length < 64 := by simp [kindsOf]; omega
  have kl2 : (zaj ho ga ls (ho ++ ga).length ls.length).length < 64 := by rw [<- P1.length_eq]; exact kl
  rw_mod_cast []
  refine zdT A5 B5 V V2 S12 ?_
  rw_mod_cast []
  refine zdT B5 A5 V2 V S21 ?_
  rw_mod_cast []
  refine zdT T A5 V V S11 ?_
  rw_mod_cast []
  refine ⟨by rw [zc2, A5.o, zc7], trivial, zkB A5 (.inl ⟨_, rfl⟩) ?_⟩
  rw_mod_cast [zso]
  refine ⟨by rw [A5.o, zc7], zmY A5 ⟨_, rfl, by omega, by omega, by rw [zc2, A5.o, zc7], trivial, zkB A5 (.inr ⟨_, rfl⟩) ?_⟩⟩
  rw_mod_cast []
  refine h6 _ _ (stp fun N7 h7 => ?_)
  have nsl : ns.length < 100 := by omega
  have nms : ∀ {kn : SL Str} {ns' : List Str}, (∀ y ∈ kn.map (·.1), y ∈ ho ++ ga ++ ls.map LR.nm) -> Srt (kn.map (·.1)) ns' -> SI 1 (.lst (ns'.map D.str)) := fun {kn ns'} h S d hd => by
    obtain ⟨y, hy, rfl⟩ := List.mem_map.mp hd
    exact zgY (nmx y (h y (S.1.mem_iff.mp hy)))
  have kin : ∀ y ∈ (kindsOf ho ga ls).map (·.1), y ∈ ho ++ ga ++ ls.map LR.nm := fun y hy => by rw [zbB] at hy; exact hy
  have lk1 : ∀ x, zY (zaj ho ga ls (ho ++ ga).length ls.length) x = zY (kindsOf ho ga ls) x := fun x => S21.1.look nk2 nk x
  have lk2 : ∀ x, zY ln2 x = zY ln x := fun x => S21.2.look nl2 nl x
  rw_mod_cast []
  refine ⟨W5.ds, by decide, by decide, fun v v0 v1 => ?_⟩
  by_cases c0 : v = 0
  . rw_mod_cast [decide_eq_true c0]
    refine zhU W5 W.N g1 g2 lne nsl A5 L V fun μ6 kn' ln' A6 C ke6 => ?_
    have T6 : zP μ6 k5 ck5 cl5 (kindsOf ho ga ls) ln := T.keep fun j c e hj => by
      rcases hj with rfl | rfl | rfl
      . rw [ke6 _ (nB hk5).1.2.1 (nB hk5).1.2.2.1 (nB hk5).1.2.2.2]; exact e
      . rw [ke6 _ (nB hck5).1.2.1 (nB hck5).1.2.2.1 (nB hck5).1.2.2.2]; exact e
      . rw [ke6 _ (nB hcl5).1.2.1 (nB hcl5).1.2.2.1 (nB hcl5).1.2.2.2]; exact e
    have B6 : zP μ6 k2 ck2 cl2 (zaj ho ga ls (ho ++ ga).length ls.length) ln2 := B5.keep fun j c e hj => by
      rcases hj with rfl | rfl | rfl
      . rw [ke6 _ (nA hk2).2.1 (nA hk2).2.2.1 (nA hk2).2.2.2]; exact e
      . rw [ke6 _ (nA hck2).2.1 (nA hck2).2.2.1 (nA hck2).2.2.2]; exact e
      . rw [ke6 _ (nA hcl2).2.1 (nA hcl2).2.2.1 (nA hcl2).2.2.2]; exact e
    have D2 := zgo nk A6.nd nk2 nl nl2 C lk1 lk2
    have D1 := zgo nk A6.nd nk nl nl C (fun _ => rfl) (fun _ => rfl)
    refine zdT T6 B6 V V2 S12 ?_
    rw_mod_cast []
    refine zdp A6 B6 C.v V2 D2.1 ?_
    rw_mod_cast []
    refine zdp B6 A6 V2 C.v D2.2 ?_
    rw_mod_cast []
    refine zdp T6 A6 V C.v D1.2 ?_
    rw_mod_cast [T6.o]
    refine zed T6 kl fun a Sa => ?_
    rw_mod_cast [B6.o]
    refine zed B6 kl2 fun b Sb => ?_
    have eb : b = a := Srt.uniq (xs := (kindsOf ho ga ls).map (·.1)) ⟨Sb.1.trans (P1.map (·.1)).symm, Sb.2⟩ Sa
    rw [eb]
    exact zku (nms kin Sa) (by decide) ⟨_, .refl _, q _⟩
  . rw_mod_cast [decide_eq_false c0]
    refine h7 _ _ (stp fun N8 h8 => ?_)
    rw_mod_cast []
    have L5 := L
    refine zhU W5 W.N g1 g2 lne nsl T L V fun μ6 kn' ln' T6 C ke6 => h8 _ _ ?_
    have A6 : zP μ6 k ck cl (kindsOf ho ga ls) ln := A5.keep fun j c e hj => by
      rcases hj with rfl | rfl | rfl
      . rw [ke6 _ (nB hck5).1.1.symm (nB hcl5).1.1.symm nAa.1]; exact e
      . rw [ke6 _ (nB hck5).1.2.1.symm (nB hcl5).1.2.1.symm nAa.2.1]; exact e
      . rw [ke6 _ (nB hck5).1.2.2.1.symm (nB hcl5).1.2.2.1.symm nAa.2.2]; exact e
    have B6 : zP μ6 k2 ck2 cl2 (zaj ho ga ls (ho ++ ga).length ls.length) ln2 := B5.keep fun j c e hj => by
      rcases hj with rfl | rfl | rfl
      . rw [ke6 _ (nB hck5).2.1.symm (nB hcl5).2.1.symm (nA hk2).2.2.2]; exact e
      . rw [ke6 _ (nB hck5).2.2.1.symm (nB hcl5).2.2.1.symm (nA hck2).2.2.2]; exact e
      . rw [ke6 _ (nB hck5).2.2.2.symm (nB hcl5).2.2.2.symm (nA hcl2).2.2.2]; exact e
    have D2 := zgo nk T6.nd nk2 nl nl2 C lk1 lk2
    have D1 := zgo nk T6.nd nk nl nl C (fun _ => rfl) (fun _ => rfl)
    rw_mod_cast []
    refine zdT A6 B6 V V2 S12 ?_
    rw_mod_cast []
    refine zdp T6 B6 C.v V2 D2.1 ?_
    rw_mod_cast []
    refine zdp B6 T6 V2 C.v D2.2 ?_
    rw_mod_cast []
    refine zdp A6 T6 V C.v D1.2 ?_
    rw_mod_cast [A6.o]
    refine zed A6 kl fun a Sa => ?_
    rw_mod_cast [B6.o]
    refine zed B6 kl2 fun b Sb => ?_
    have eb : b = a := Srt.uniq (xs := (kindsOf ho ga ls).map (·.1)) ⟨Sb.1.trans (P1.map (·.1)).symm, Sb.2⟩ Sa
    rw [eb]
    exact zku (nms kin Sa) (by decide) ⟨_, .refl _, q _⟩
end M

set_option synthInstance.maxHeartbeats 4000000
set_option synthInstance.maxSize 100000
set_option maxHeartbeats 4000000
namespace M
open PySem L2
section
variable {P : Program} {w : World} {K : PySem.W.Frag} {mg : Str -> Option Value} {base : Heap} [TabOk K tab]
theorem zhJ {f : Addr} {fd : FuncData} (F : Fun K "is_made_of" "is_made_of" zbD f fd) (B : Blt mg)   : zas P w K mg base CX0 1 f fd ["text", "signs", "most"] (lift K zcb) :=
  F.okB ze5 zhO rfl fun cdv A outer s H E hr => ⟨_, (zq (zaB (zcL (zoU zgw zgw zp (zL (zaN K) rfl B.len zba (za (qv 0) zf)) (qv 2)) (zgC (zL (zmL K) rfl B.all ztt (za (zgq ["sign"] ["signs"] [1] (.of rfl (by decide +kernel) rfl) rfl rfl (by decide +kernel) (zbr K (qv 0)) (fun _ _ _ _ => (zV (i := 0) (show List.Nodup (["sign", "signs"] : List Str) by decide +kernel) rfl (Or.inl rfl))) (fun _ _ _ _ => zff) (fun _ _ _ _ => (zbG zqK (qv 0) (qv 1) (by with_unfolding_all rfl)))) zf)))))), (by infer_instance)⟩
theorem ziS {f : Addr} {fd : FuncData} (F : Fun K "is_number" "is_number" zbY f fd) (B : Blt mg)   : zas P w K mg base CX0 1 f fd ["thing"] (lift K zbH) :=
  F.okB zf3 zi4 rfl fun cdv A outer s H E hr => ⟨_, (zq (zaB (zcL (zL (zhe K) rfl B.isinstance zdl (za (qv 0) (za (zl5 (v := .ty "int") rfl B.int ztE rfl) zf))) (zgC (zeG (zL (zhe K) rfl B.isinstance zdl (za (qv 0) (za (zl5 (v := .ty "bool") rfl B.bool zqQ rfl) zf)))))))), (by infer_instance)⟩
theorem zhM {f : Addr} {fd : FuncData} (F : Fun K "__init__" "Net.__init__" zaF f fd) (B : Blt mg)   : zas P w K mg base CX0 1 f fd ["self"] (lift K zal) :=
  F.okB zeR zhH rfl fun cdv A outer s H E hr => ⟨_, (zj (zgt K (qv 0) zmz)
    (zq (zgt K (qv 0) zmz))), (by infer_instance)⟩
theorem ziG {f : Addr} {fd : FuncData} (F : Fun K "names" "Net.names" zaS f fd) (B : Blt mg)   : zas P w K mg base CX0 1 f fd ["self"] (lift K zaH) :=
  F.okB zfX zjA rfl fun cdv A outer s H E hr => ⟨_, (zq (zaB (zL (zdH K) rfl B.sorted zeb (za (zam K (qv 0)) zf)))), (by infer_instance)⟩
theorem zkk {f : Addr} {fd : FuncData} (F : Fun K "kind" "Net.kind" zbg f fd) (B : Blt mg)   : zas P w K mg base CX0 1 f fd ["self", "name"] (lift K zb3) :=
  F.okB zgR zjN rfl fun cdv A outer s H E hr => ⟨_, (zj (zaL (zG (zh5 (zeY hr)) (qv 1) (zam K (qv 0)) (by with_unfolding_all rfl))
    (zq zbA)
    zad)
    (zq (zaB (zjI (zeY hr) (zam K (qv 0)) (qv 1))))), (by infer_instance)⟩
theorem ziE {f : Addr} {fd : FuncData} (F : Fun K "__len__" "Net.__len__" zbV f fd) (B : Blt mg)   : zas P w K mg base CX0 1 f fd ["self"] (lift K zbR) :=
  F.okB zfV ziD rfl fun cdv A outer s H E hr => ⟨_, (zq (zaB (zL zdu rfl B.len zba (za (zam K (qv 0)) zf)))), (by infer_instance)⟩
theorem zkC {f : Addr} {fd : FuncData} (F : Fun K "__eq__" "Net.__eq__" zci f fd) (B : Blt mg)  {a_Net : Addr} (c_Net : mg "Net" = some (.ref a_Net)) [zoc K "Net" a_Net] [IsI K "Net"] : zas P w K mg base CX0 1 f fd ["self", "other"] (lift K zH) :=
  F.okB zha zjR rfl fun cdv A outer s H E hr => ⟨_, (zq (zaB (zcL (zL (zic K) rfl B.isinstance zdl (za (qv 1) (za (zdF (v := .ref a_Net) rfl c_Net rfl) zf))) (zcL (zbG (zpd K hr) (zam K (qv 0)) (zam K (qv 1)) (zT _)) (zgC (zbG (zpd K hr) (zam K (qv 0)) (zam K (qv 1)) (zT _))))))), (by infer_instance)⟩
theorem zeD {f : Addr} {fd : FuncData} (F : Fun K "check_nodes" "Net.check_nodes" z7 f fd) (B : Blt mg)   : zas P w K mg base CX0 1 f fd ["self", "ends"] (lift K zar) :=
  F.okB zde zc4 rfl fun cdv A outer s H E hr => ⟨_, (zq (zcJ PassesOwn.never rfl (zbr K (qv 1)) (zV (i := 2) zc4.nd rfl (Or.inl rfl))
    (zq (zaL (WW.qt (zeo (zG (zh5 (zeY hr)) (qv 2) (zam K (qv 0)) (by with_unfolding_all rfl)) (zeC (zG (zoe (zeY hr)) (qv 2) (zam K (qv 0)) (by with_unfolding_all rfl)))))
    (zq zbA)
    zad)))), (by infer_instance)⟩
theorem zek {f : Addr} {fd : FuncData} (F : Fun K "check_unused" "Net.check_unused" zU f fd) (B : Blt mg)   : zas P w K mg base CX0 1 f fd ["self", "node"] (lift K zaQ) :=
  F.okB zc6 zaE rfl fun cdv A outer s H E hr => ⟨_, (zq (zcJ PassesOwn.never rfl (zbr K (zL (zdH K) rfl B.sorted zeb (za (zam K (qv 0)) zf))) (zV (i := 2) zaE.nd rfl (Or.inl rfl))
    (zj (zgP (zjI (zeY hr) (zam K (qv 0)) (qv 2)) (zqY (n := 3) K rfl (zbw (zV (i := 3) zaE.nd rfl (Or.inl rfl)) (zbw (zV (i := 4) zaE.nd rfl (Or.inl rfl)) (zbw (zV (i := 5) zaE.nd rfl (Or.inl rfl)) zjC)))))
    (zq (zaL (WW.qt (zeo (zG (zfq K hr) (qv 1) (qv 3) (by with_unfolding_all rfl)) (zeC (zG (zfq K hr) (qv 1) (qv 4) (by with_unfolding_all rfl)))))
    (zq zbA)
    zad))))), (by infer_instance)⟩
theorem zhK {f : Addr} {fd : FuncData} (F : Fun K "check_ends" "check_ends" zbE f fd) (B : Blt mg) {u_MOST_ENDS : Value} (c_MOST_ENDS : mg "MOST_ENDS" = some u_MOST_ENDS) (c_MOST_ENDS_r : RelV (.int 6) u_MOST_ENDS)  : zas P w K mg base CX0 1 f fd ["ends"] (lift K zaX) :=
  F.okB zeP zhz rfl fun cdv A outer s H E hr => ⟨_, (zj (zaL (zeB (zkd zgw zgw zp (zL (zaN K) rfl B.len zba (za (qv 0) zf)) (zdF rfl c_MOST_ENDS c_MOST_ENDS_r)))
    (zq zbA)
    zad)
    (zq (zaL (zG zkn (zL (ziO) rfl B.len zba (za (zag (znM K) rfl B.set zuc (za (qv 0) zf)) zf)) (zL (zaN K) rfl B.len zba (za (qv 0) zf)) (zT _))
    (zq zbA)
    zad))), (by infer_instance)⟩
theorem zkc {f : Addr} {fd : FuncData} (F : Fun K "_law_need" "_law_need" zcq f fd) (B : Blt mg)   : zas P w K mg base CX0 1 f fd ["_law_row_here", "_law_lines", "_law_the_slack"] (lift K zb4) :=
  F.okB zhf zbv rfl fun cdv A outer s H E hr => ⟨_, (zj (zR (i := 3) zbv.nd rfl (Or.inl rfl) zp)
    (zj (zcJ PassesOwn.never rfl (zbr K (zO (zE K) (qv 0) zp (fun _ _ => rfl))) (zV (i := 4) zbv.nd rfl (Or.inl rfl))
    (zj (zR (i := 5) zbv.nd rfl (Or.inl rfl) zp)
    (zj (zcJ PassesOwn.never rfl (zbr K (qv 1)) (zV (i := 6) zbv.nd rfl (Or.inl rfl))
    (zq (zaL (zG (zfq K hr) (zO (zE K) (qv 6) zp (fun _ _ => rfl)) (qv 4) (by with_unfolding_all rfl))
    (zq (zR (i := 5) zbv.nd rfl (Or.inl rfl) (zau (zaO K) (zau (zaO K) (zau (zaO K) (qv 5) (zO (zE K) (qv 0) zp (fun _ _ => rfl))) (zO (zE K) (qv 6) zp (fun _ _ => rfl))) (qv 2))))
    zad)))
    (zq (zR (i := 3) zbv.nd rfl (Or.inl rfl) (zL (zmW K) rfl B.max zsK (za (qv 3) (za (qv 5) zf))))))))
    (zq (zaB (qv 3))))), (by infer_instance)⟩
theorem zlC {f : Addr} {fd : FuncData} (F : Fun K "is_name" "is_name" zcU f fd) (B : Blt mg) (h_is_made_of : Has P w K mg base CX0 "is_made_of" 1 ["text", "signs", "most"] (lift K zcb)) {u_LETTERS : Value} (c_LETTERS : mg "LETTERS" = some u_LETTERS) (c_LETTERS_r : RelV (.str "abcdefghijklmnopqrstuvwxyz") u_LETTERS) {u_MOST_LETTERS : Value} (c_MOST_LETTERS : mg "MOST_LETTERS" = some u_MOST_LETTERS) (c_MOST_LETTERS_r : RelV (.int 8) u_MOST_LETTERS)  : zas P w K mg base CX0 2 f fd ["text"] (lift K zcA) :=
  F.okB zid zlk rfl fun cdv A outer s H E hr => ⟨_, (zq (zaB (zy h_is_made_of hr (za (qv 0) (za (zdF rfl c_LETTERS c_LETTERS_r) (za (zdF rfl c_MOST_LETTERS c_MOST_LETTERS_r) zf)))))), (by infer_instance)⟩
theorem zgS {f : Addr} {fd : FuncData} (F : Fun K "check_whole" "check_whole" zbl f fd) (B : Blt mg) (h_is_number : Has P w K mg base CX0 "is_number" 1 ["thing"] (lift K zbH))  : zas P w K mg base CX0 2 f fd ["thing"] (lift K zbi) :=
  F.okB zes zgT rfl fun cdv A outer s H E hr => ⟨_, (zq (zaL (zeB (zok (zy h_is_number hr (za (qv 0) zf))))
    (zq zbA)
    zad)), (by infer_instance)⟩
theorem zj0 {f : Addr} {fd : FuncData} (F : Fun K "drop" "Net.drop" za8 f fd) (B : Blt mg) (hT_Net_kind_2 : zaJ P w K mg base CX0 "Net" "kind" 1 ["self", "name"] (lift K zb3) [] (sel 2 0 [.p 0, .p 1] .non [])) (hT_Net_check_unused_2 : zaJ P w K mg base CX0 "Net" "check_unused" 1 ["self", "node"] (lift K zaQ) [] (sel 2 0 [.p 0, .p 1] .non []))  : zas P w K mg base CX0 2 f fd ["self", "name"] (lift K zb6) :=
  F.okB zgW zkU rfl fun cdv A outer s H E hr => ⟨_, (zj (zaL (zG (zcm K hr) (zah (pl := _) K hT_Net_kind_2 hr (qv 0) (za (qv 1) zf) za1) zdS (zT _))
    (zq (zj3 (zam K (qv 0)) (qv 1)))
    (zq (zM (zah (pl := _) K hT_Net_check_unused_2 hr (qv 0) (za (qv 1) zf) za1))))
    (zq (zj3 (zam K (qv 0)) (qv 1)))), (by infer_instance)⟩
theorem zjP {f : Addr} {fd : FuncData} (F : Fun K "_law_pick" "_law_pick" zcs f fd) (B : Blt mg) (h_law_draw : Has P w K mg base CX0 "_law_draw" 1 ["_law_s", "_law_many"] zb9)  : zas P w K mg base CX0 2 f fd ["_law_s", "_law_row_here"] (lift K zay) :=
  F.okB zgL zko rfl fun cdv A outer s H E hr => ⟨_, (zq (zaB (zO (zE K) (qv 1) (zy h_law_draw hr (za (qv 0) (za (zL (zaN K) rfl B.len zba (za (qv 1) zf)) zf))) (fun _ _ => rfl)))), (by infer_instance)⟩
theorem zjZ {f : Addr} {fd : FuncData} (F : Fun K "_law_name" "_law_name" zcp f fd) (B : Blt mg) (h_law_draw : Has P w K mg base CX0 "_law_draw" 1 ["_law_s", "_law_many"] zb9)  : zas P w K mg base CX0 2 f fd ["_law_s", "_law_names"] (lift K z6) :=
  F.okB zhu za5 rfl fun cdv A outer s H E hr => ⟨_, (zj (zR (i := 2) za5.nd rfl (Or.inr rfl) zdS)
    (zj (zcJ PassesOwn.never rfl (zch rfl B.range (za zp zf)) (zV (i := 3) za5.nd rfl (Or.inl rfl))
    (zj (zR (i := 4) za5.nd rfl (Or.inl rfl) (zau (zaO K) zp (zy h_law_draw hr (za (qv 0) (za zp zf)))))
    (zj (zaL (zG (zcm K hr) (qv 4) zp (zT _))
    (zq (zR (i := 4) za5.nd rfl (Or.inl rfl) (zau (zaO K) zp (zy h_law_draw hr (za (qv 0) (za zp zf))))))
    zad)
    (zj (zR (i := 5) za5.nd rfl (Or.inl rfl) (zc3 K PySem.F.plainAttrs_str PySem.F.slot_str_join PySem.F.type_str_join (zoI K) zdS (za (zgq ["_law_k"] ["_law_letters", "_law_s"] [2, 0] (.of rfl (by decide +kernel) rfl) rfl rfl (by decide +kernel) (zch rfl B.range (za (qv 4) zf)) (fun _ _ _ _ => (zV (i := 0) (show List.Nodup (["_law_k", "_law_letters", "_law_s"] : List Str) by decide +kernel) rfl (Or.inl rfl))) (fun _ _ _ _ => zff) (fun _ _ _ _ => (zO (zE K) (qv 1) (zy h_law_draw hr (za (qv 2) (za zp zf))) (fun _ _ => rfl)))) zf)))
    (zq (zaL (zG (zcV K hr) (qv 5) (qv 1) (by with_unfolding_all rfl))
    (zj (zM (zc3 K PySem.F.plainAttrs_list PySem.F.slot_list_append PySem.F.type_list_append zbm (qv 1) (za (qv 5) zf)))
    (zq (zaB (qv 5))))
    zad))))))
    (zj (zcJ PassesOwn.never rfl (zch rfl B.range (za zp zf)) (zV (i := 6) za5.nd rfl (Or.inl rfl))
    (zj (zR (i := 5) za5.nd rfl (Or.inl rfl) (zau zqc (zO (zE K) (qv 2) (zau zfv (qv 6) zp) (fun _ _ => rfl)) (zau (zaO K) zp (zau zeT (qv 6) zp))))
    (zq (zaL (zG (zcV K hr) (qv 5) (qv 1) (by with_unfolding_all rfl))
    (zj (zM (zc3 K PySem.F.plainAttrs_list PySem.F.slot_list_append PySem.F.type_list_append zbm (qv 1) (za (qv 5) zf)))
    (zq (zaB (qv 5))))
    zad))))
    (zq (zaB zdS))))), (by infer_instance)⟩
theorem zhA {f : Addr} {fd : FuncData} (F : Fun K "check_name" "check_name" zbF f fd) (B : Blt mg) (h_is_name : Has P w K mg base CX0 "is_name" 2 ["text"] (lift K zcA))  : zas P w K mg base CX0 3 f fd ["text"] (lift K zbz) :=
  F.okB zeQ zhD rfl fun cdv A outer s H E hr => ⟨_, (zq (zaL (zeB (zok (zy h_is_name hr (za (qv 0) zf))))
    (zq zbA)
    zad)), (by infer_instance)⟩
theorem zgd {f : Addr} {fd : FuncData} (F : Fun K "check_number" "check_number" za2 f fd) (B : Blt mg) (h_check_whole : Has P w K mg base CX0 "check_whole" 2 ["thing"] (lift K zbi))  : zas P w K mg base CX0 3 f fd ["number", "least", "most"] (lift K zaW) :=
  F.okB zd2 zgf rfl fun cdv A outer s H E hr => ⟨_, (zj (zM (zy h_check_whole hr (za (qv 0) zf)))
    (zq (zaL (zeB (zkd zgw zgw (qv 1) (qv 0) (qv 2)))
    (zq zbA)
    zad))), (by infer_instance)⟩
theorem zj8 {f : Addr} {fd : FuncData} (F : Fun K "twin" "Net.twin" zbb f fd) (B : Blt mg) (hM_NetD_initD_1 : zke P w K mg base CX0 "Net" 1 ["self"] (lift K zal) [] (sel 1 0 [.p 0] .non []))  : zas P w K mg base CX0 3 f fd ["self"] (lift K zb5) :=
  F.okB zgD zfZ rfl fun cdv A outer s H E hr => ⟨_, (zj (zR (i := 1) zfZ.nd rfl (Or.inl rfl) (zfs K hM_NetD_initD_1 hr))
    (zj (zgt K (qv 1) (zag zgU rfl B.dict zms (za (zam K (qv 0)) zf)))
    (zj (zgt K (qv 1) (zag zgU rfl B.dict zms (za (zam K (qv 0)) zf)))
    (zq (zaB (qv 1)))))), (by infer_instance)⟩
theorem zlh {f : Addr} {fd : FuncData} (F : Fun K "_law_hop" "_law_hop" zcX f fd) (B : Blt mg) (h_law_draw : Has P w K mg base CX0 "_law_draw" 1 ["_law_s", "_law_many"] zb9) (h_law_pick : Has P w K mg base CX0 "_law_pick" 2 ["_law_s", "_law_row_here"] (lift K zay)) (h_law_name : Has P w K mg base CX0 "_law_name" 2 ["_law_s", "_law_names"] (lift K z6))  : zas P w K mg base CX0 3 f fd ["_law_s", "_law_names", "_law_lines", "_law_one", "_law_two", "_law_barred"] (lift K zb2) :=
  F.okB zia zdt rfl fun cdv A outer s H E hr => ⟨_, (zj (zfi ["_law_line"] ["_law_barred", "_law_one"] [5, 3] (i := 6) zdt.nd rfl rfl (.of rfl (by decide +kernel) rfl) rfl rfl (by decide +kernel) (zbr K (qv 2)) (fun _ _ _ _ => (zV (i := 0) (show List.Nodup (["_law_line", "_law_barred", "_law_one"] : List Str) by decide +kernel) rfl (Or.inl rfl))) (fun _ _ _ _ => (zgu (WW.qt (zpq (zG (zcV K hr) (zO (zE K) (qv 0) zp (fun _ _ => rfl)) (qv 1) (by with_unfolding_all rfl)) (zmb (WW.qt (zeo (zG (zfq K hr) (qv 2) (zO (zE K) (qv 0) zp (fun _ _ => rfl)) (by with_unfolding_all rfl)) (zeC (zG zkn (zL (zaN K) rfl B.len zba (za (zO (zE K) (qv 0) zp (fun _ _ => rfl)) zf)) zp (zT _)))))))))) (fun _ _ _ _ => (qv 0)))
    (zj (zfi ["_law_line"] ["_law_two"] [4] (i := 6) zdt.nd rfl rfl (.of rfl (by decide +kernel) rfl) rfl rfl (by decide +kernel) (zbr K (qv 6)) (fun _ _ _ _ => (zV (i := 0) (show List.Nodup (["_law_line", "_law_two"] : List Str) by decide +kernel) rfl (Or.inl rfl))) (fun _ _ _ _ => (zgu (WW.qt (zeo (zG (zfq K hr) (qv 1) (zO (zE K) (qv 0) zp (fun _ _ => rfl)) (by with_unfolding_all rfl)) (zeC (zG zkn (zL (zaN K) rfl B.len zba (za (zO (zE K) (qv 0) zp (fun _ _ => rfl)) zf)) zp (zT _))))))) (fun _ _ _ _ => (qv 0)))
    (zj (zaL (WW.qt (zpq (zG zkn (zL (zaN K) rfl B.len zba (za (qv 2) zf)) zp (zT _)) (zmb (WW.qt (zeo (zG (zcm K hr) (zL (zaN K) rfl B.len zba (za (qv 6) zf)) zp (zT _)) (zeC (zG (zcm K hr) (zy h_law_draw hr (za (qv 0) (za zp zf))) zp (zT _))))))))
    (zj (zM (zc3 K PySem.F.plainAttrs_list PySem.F.slot_list_append PySem.F.type_list_append zbm (qv 2) (za (zcN (za (zy h_law_name hr (za (qv 0) (za (qv 1) zf))) (za (zmu (zcN (za (qv 3) zf))) (za (zmu (zcN (za (qv 4) zf))) (za (zy h_law_draw hr (za (qv 0) (za zp zf))) zf))))) zf)))
    (zq (zaB (zO (zE K) (zO (zE K) (qv 2) (zfb zdK zp) (fun _ _ => rfl)) zp (fun _ _ => rfl)))))
    zad)
    (zj (zR (i := 7) zdt.nd rfl (Or.inl rfl) (zy h_law_pick hr (za (qv 0) (za (qv 6) zf))))
    (zj (zaL (zG (zcV K hr) (qv 3) (zO (zE K) (qv 7) zp (fun _ _ => rfl)) (by with_unfolding_all rfl))
    (zq (zM (zc3 K PySem.F.plainAttrs_list PySem.F.slot_list_append PySem.F.type_list_append zbm (zO (zE K) (qv 7) zp (fun _ _ => rfl)) (za (qv 3) zf))))
    zad)
    (zj (zaL (zG (zcV K hr) (qv 4) (zO (zE K) (qv 7) zp (fun _ _ => rfl)) (by with_unfolding_all rfl))
    (zq (zM (zc3 K PySem.F.plainAttrs_list PySem.F.slot_list_append PySem.F.type_list_append zbm (zO (zE K) (qv 7) zp (fun _ _ => rfl)) (za (qv 4) zf))))
    zad)
    (zq (zaB (zO (zE K) (qv 7) zp (fun _ _ => rfl)))))))))), (by infer_instance)⟩
theorem zfx {f : Addr} {fd : FuncData} (F : Fun K "check_new" "Net.check_new" zac f fd) (B : Blt mg) (h_check_name : Has P w K mg base CX0 "check_name" 3 ["text"] (lift K zbz))  : zas P w K mg base CX0 4 f fd ["self", "name"] (lift K zan) :=
  F.okB zdL zfl rfl fun cdv A outer s H E hr => ⟨_, (zj (zM (zy h_check_name hr (za (qv 1) zf)))
    (zq (zaL (zG (zoe (zeY hr)) (qv 1) (zam K (qv 0)) (by with_unfolding_all rfl))
    (zq zbA)
    zad))), (by infer_instance)⟩
theorem zlp {f : Addr} {fd : FuncData} (F : Fun K "_law_way" "_law_way" zc1 f fd) (B : Blt mg) (h_law_draw : Has P w K mg base CX0 "_law_draw" 1 ["_law_s", "_law_many"] zb9) (h_law_pick : Has P w K mg base CX0 "_law_pick" 2 ["_law_s", "_law_row_here"] (lift K zay)) (h_law_hop : Has P w K mg base CX0 "_law_hop" 3 ["_law_s", "_law_names", "_law_lines", "_law_one", "_law_two", "_law_barred"] (lift K zb2))  : zas P w K mg base CX0 4 f fd ["_law_s", "_law_names", "_law_lines", "_law_gates", "_law_first", "_law_the_last", "_law_barred"] (lift K zbW) :=
  F.okB zh0 zcl rfl fun cdv A outer s H E hr => ⟨_, (zj (zfi ["_law_gate"] ["_law_barred"] [6] (i := 7) zcl.nd rfl rfl (.of rfl (by decide +kernel) rfl) rfl rfl (by decide +kernel) (zbr K (qv 3)) (fun _ _ _ _ => (zV (i := 0) (show List.Nodup (["_law_gate", "_law_barred"] : List Str) by decide +kernel) rfl (Or.inl rfl))) (fun _ _ _ _ => (zgu (zG (zcV K hr) (qv 0) (qv 1) (by with_unfolding_all rfl)))) (fun _ _ _ _ => (qv 0)))
    (zj (zdA (zR (i := 8) zcl.nd rfl (Or.inl rfl) (zcN (za (qv 4) zf))))
    (zj (zcJ PassesOwn.never rfl (zch rfl B.range (za (zL (zh7 K) rfl B.min zn6 (za (zy h_law_draw hr (za (qv 0) (za zp zf))) (za (zL (zaN K) rfl B.len zba (za (qv 7) zf)) zf))) zf)) (zV (i := 9) zcl.nd rfl (Or.inl rfl))
    (zj (zR (i := 10) zcl.nd rfl (Or.inr rfl) (zy h_law_pick hr (za (qv 0) (za (qv 7) zf))))
    (zj (zfi ["_law_other_here"] ["_law_gate"] [10] (i := 7) zcl.nd rfl rfl (.of rfl (by decide +kernel) rfl) rfl rfl (by decide +kernel) (zbr K (qv 7)) (fun _ _ _ _ => (zV (i := 0) (show List.Nodup (["_law_other_here", "_law_gate"] : List Str) by decide +kernel) rfl (Or.inl rfl))) (fun _ _ _ _ => (zgu (zG (zuk K hr) (qv 0) (qv 1) (zT _)))) (fun _ _ _ _ => (qv 0)))
    (zj (zM (zc3 K PySem.F.plainAttrs_list PySem.F.slot_list_append PySem.F.type_list_append zbm (qv 8) (za (zy h_law_hop hr (za (qv 0) (za (qv 1) (za (qv 2) (za (zO (zE K) (qv 8) (zfb zdK zp) (fun _ _ => rfl)) (za (qv 10) (za (zau (zaO K) (qv 6) (qv 8)) zf))))))) zf)))
    (zq (zM (zc3 K PySem.F.plainAttrs_list PySem.F.slot_list_append PySem.F.type_list_append zbm (qv 8) (za (qv 10) zf))))))))
    (zj (zM (zc3 K PySem.F.plainAttrs_list PySem.F.slot_list_append PySem.F.type_list_append zbm (qv 8) (za (zy h_law_hop hr (za (qv 0) (za (qv 1) (za (qv 2) (za (zO (zE K) (qv 8) (zfb zdK zp) (fun _ _ => rfl)) (za (qv 5) (za (zau (zaO K) (qv 6) (qv 8)) zf))))))) zf)))
    (zj (zM (zc3 K PySem.F.plainAttrs_list PySem.F.slot_list_append PySem.F.type_list_append zbm (qv 8) (za (qv 5) zf)))
    (zq (zaB (zag (zat K) rfl B.tuple zbj (za (qv 8) zf))))))))), (by infer_instance)⟩
theorem zkP {f : Addr} {fd : FuncData} (F : Fun K "line" "Net.line" za9 f fd) (B : Blt mg) (h_check_ends : Has P w K mg base CX0 "check_ends" 1 ["ends"] (lift K zaX)) (h_check_number : Has P w K mg base CX0 "check_number" 3 ["number", "least", "most"] (lift K zaW)) (hT_Net_check_new_2 : zaJ P w K mg base CX0 "Net" "check_new" 4 ["self", "name"] (lift K zan) [] (sel 2 0 [.p 0, .p 1] .non [])) (hT_Net_check_nodes_2 : zaJ P w K mg base CX0 "Net" "check_nodes" 1 ["self", "ends"] (lift K zar) [] (sel 2 0 [.p 0, .p 1] .non [])) {u_MOST_LINES : Value} (c_MOST_LINES : mg "MOST_LINES" = some u_MOST_LINES) (c_MOST_LINES_r : RelV (.int 16) u_MOST_LINES) {u_MOST_WIRE : Value} (c_MOST_WIRE : mg "MOST_WIRE" = some u_MOST_WIRE) (c_MOST_WIRE_r : RelV (.int 30) u_MOST_WIRE)  : zas P w K mg base CX0 5 f fd ["self", "name", "senders", "ears", "wire"] (lift K zaz) :=
  F.okB zgv zkX rfl fun cdv A outer s H E hr => ⟨_, (zj (zM (zah (pl := _) K hT_Net_check_new_2 hr (qv 0) (za (qv 1) zf) za1))
    (zj (zaL (zG zp9 (zL zdu rfl B.len zba (za (zam K (qv 0)) zf)) (zdF rfl c_MOST_LINES c_MOST_LINES_r) (zT _))
    (zq zbA)
    zad)
    (zj (zM (zy h_check_ends hr (za (qv 2) zf)))
    (zj (zM (zy h_check_ends hr (za (qv 3) zf)))
    (zj (zM (zah (pl := _) K hT_Net_check_nodes_2 hr (qv 0) (za (qv 2) zf) za1))
    (zj (zM (zah (pl := _) K hT_Net_check_nodes_2 hr (qv 0) (za (qv 3) zf) za1))
    (zj (zM (zy h_check_number hr (za (qv 4) (za zp (za (zdF rfl c_MOST_WIRE c_MOST_WIRE_r) zf)))))
    (zj (zg0 (zeY hr) (zam K (qv 0)) (qv 1) zdS)
    (zq (zg0 (zeY hr) (zam K (qv 0)) (qv 1) (zjf (za (zag (zat K) rfl B.tuple zbj (za (zL (zdH K) rfl B.sorted zeb (za (qv 2) zf)) zf)) (za (zag (zat K) rfl B.tuple zbj (za (zL (zdH K) rfl B.sorted zeb (za (qv 3) zf)) zf)) (za (qv 4) zf)))))))))))))), (by infer_instance)⟩
theorem zf5 {f : Addr} {fd : FuncData} (F : Fun K "put_node" "Net.put_node" zaq f fd) (B : Blt mg) (hT_Net_check_new_2 : zaJ P w K mg base CX0 "Net" "check_new" 4 ["self", "name"] (lift K zan) [] (sel 2 0 [.p 0, .p 1] .non [])) {u_MOST_NODES : Value} (c_MOST_NODES : mg "MOST_NODES" = some u_MOST_NODES) (c_MOST_NODES_r : RelV (.int 16) u_MOST_NODES)  : zas P w K mg base CX0 5 f fd ["self", "name", "kind"] (lift K zax) :=
  F.okB zd4 zf7 rfl fun cdv A outer s H E hr => ⟨_, (zj (zM (zah (pl := _) K hT_Net_check_new_2 hr (qv 0) (za (qv 1) zf) za1))
    (zj (zaL (zG zp9 (zau zji (zL zdu rfl B.len zba (za (zam K (qv 0)) zf)) (zL zdu rfl B.len zba (za (zam K (qv 0)) zf))) (zdF rfl c_MOST_NODES c_MOST_NODES_r) (zT _))
    (zq zbA)
    zad)
    (zq (zg0 (zeY hr) (zam K (qv 0)) (qv 1) (qv 2))))), (by infer_instance)⟩
theorem zlo {f : Addr} {fd : FuncData} (F : Fun K "_law_row" "_law_row" zc0 f fd) (B : Blt mg) (h_law_draw : Has P w K mg base CX0 "_law_draw" 1 ["_law_s", "_law_many"] zb9) (h_law_need : Has P w K mg base CX0 "_law_need" 1 ["_law_row_here", "_law_lines", "_law_the_slack"] (lift K zb4)) (h_law_name : Has P w K mg base CX0 "_law_name" 2 ["_law_s", "_law_names"] (lift K z6)) (h_law_way : Has P w K mg base CX0 "_law_way" 4 ["_law_s", "_law_names", "_law_lines", "_law_gates", "_law_first", "_law_the_last", "_law_barred"] (lift K zbW))  : zas P w K mg base CX0 5 f fd ["_law_s", "_law_names", "_law_lines", "_law_houses", "_law_gates", "_law_the_slack"] (lift K zcD) :=
  F.okB zig zbf rfl fun cdv A outer s H E hr => ⟨_, (zj (zR (i := 6) zbf.nd rfl (Or.inl rfl) (zy h_law_draw hr (za (qv 0) (za (zL (zaN K) rfl B.len zba (za (qv 3) zf)) zf))))
    (zj (zR (i := 7) zbf.nd rfl (Or.inl rfl) (zO (zE K) (qv 3) (qv 6) (fun _ _ => rfl)))
    (zj (zR (i := 8) zbf.nd rfl (Or.inl rfl) (zO (zE K) (qv 3) (zau zfv (zau (zaO K) (zau (zaO K) (qv 6) zp) (zy h_law_draw hr (za (qv 0) (za (zau zji (zL (zaN K) rfl B.len zba (za (qv 3) zf)) zp) zf)))) (zL (zaN K) rfl B.len zba (za (qv 3) zf))) (fun _ _ => rfl)))
    (zj (zdA (zR (i := 9) zbf.nd rfl (Or.inl rfl) (zcN (za (zy h_law_way hr (za (qv 0) (za (qv 1) (za (qv 2) (za (qv 4) (za (qv 7) (za (qv 8) (za (zcN zf) zf)))))))) zf))))
    (zj (zaL (zG (zcm K hr) (zy h_law_draw hr (za (qv 0) (za zp zf))) zp (zT _))
    (zq (zM (zc3 K PySem.F.plainAttrs_list PySem.F.slot_list_append PySem.F.type_list_append zbm (qv 9) (za (zy h_law_way hr (za (qv 0) (za (qv 1) (za (qv 2) (za (qv 4) (za (qv 7) (za (qv 8) (za (zag (zlL K) rfl B.list zlZ (za (zg1 (zlY K) (zO (zE K) (qv 9) zp (fun _ _ => rfl)) (zdf zp) (zdf (zfb zdK zp))) zf)) zf)))))))) zf))))
    zad)
    (zj (zR (i := 10) zbf.nd rfl (Or.inl rfl) (zO (zE K) (zcN (zmm [12, 8, 20, 24, 10, 30, 15, 40, 60, 12, 120] rfl)) (zy h_law_draw hr (za (qv 0) (za zp zf))) (fun _ _ => rfl)))
    (zj (zR (i := 11) zbf.nd rfl (Or.inl rfl) (zau (zaO K) zp (zy h_law_draw hr (za (qv 0) (za (zL (zh7 K) rfl B.min zn6 (za zp (za (zau zji (qv 10) (qv 5)) zf))) zf)))))
    (zj (zR (i := 12) zbf.nd rfl (Or.inl rfl) (zjf (za (zy h_law_name hr (za (qv 0) (za (qv 1) zf))) (za (zag (zat K) rfl B.tuple zbj (za (qv 9) zf)) (za (qv 10) (za (qv 11) (za (zy h_law_draw hr (za (qv 0) (za (qv 10) zf))) (za zp zf))))))))
    (zj (zR (i := 13) zbf.nd rfl (Or.inl rfl) (zO (zE K) (zcN (za zp (za zp (za zp (za (zau zeT (qv 10) zp) (za zp (za (zau zji (qv 10) zp) (za zp zf)))))))) (zy h_law_draw hr (za (qv 0) (za zp zf))) (fun _ _ => rfl)))
    (zq (zaB (zau (zaO K) (zg1 (zlY K) (qv 12) zcu (zdf zp)) (zjf (za (zau (zaO K) (zy h_law_need hr (za (qv 12) (za (qv 2) (za (qv 5) zf)))) (qv 13)) zf)))))))))))))), (by infer_instance)⟩
theorem zjl {f : Addr} {fd : FuncData} (F : Fun K "house" "Net.house" zaR f fd) (B : Blt mg) (hT_Net_put_node_3 : zaJ P w K mg base CX0 "Net" "put_node" 5 ["self", "name", "kind"] (lift K zax) [] (sel 3 0 [.p 0, .p 1, .p 2] .non []))  : zas P w K mg base CX0 6 f fd ["self", "name"] (lift K zak) :=
  F.okB zfH ziB rfl fun cdv A outer s H E hr => ⟨_, (zq (zM (zah (pl := _) K hT_Net_put_node_3 hr (qv 0) (za (qv 1) (za zdS zf)) za1))), (by infer_instance)⟩
theorem zjX {f : Addr} {fd : FuncData} (F : Fun K "gate" "Net.gate" za6 f fd) (B : Blt mg) (hT_Net_put_node_3 : zaJ P w K mg base CX0 "Net" "put_node" 5 ["self", "name", "kind"] (lift K zax) [] (sel 3 0 [.p 0, .p 1, .p 2] .non []))  : zas P w K mg base CX0 6 f fd ["self", "name"] (lift K zaG) :=
  F.okB zgZ zj4 rfl fun cdv A outer s H E hr => ⟨_, (zq (zM (zah (pl := _) K hT_Net_put_node_3 hr (qv 0) (za (qv 1) (za zdS zf)) za1))), (by infer_instance)⟩
theorem zjo {f : Addr} {fd : FuncData} (F : Fun K "_law_world" "_law_world" zb0 f fd) (B : Blt mg) (h_law_draw : Has P w K mg base CX0 "_law_draw" 1 ["_law_s", "_law_many"] zb9) (h_law_name : Has P w K mg base CX0 "_law_name" 2 ["_law_s", "_law_names"] (lift K z6)) (h_law_row : Has P w K mg base CX0 "_law_row" 5 ["_law_s", "_law_names", "_law_lines", "_law_houses", "_law_gates", "_law_the_slack"] (lift K zcD))  : zas P w K mg base CX0 6 f fd ["_law_s", "_law_the_most"] (lift K zbP) :=
  F.okB zfM zbc rfl fun cdv A outer s H E hr => ⟨_, (zj (zdA (zR (i := 2) zbc.nd rfl (Or.inr rfl) (zcN zf)))
    (zj (zR (i := 3) zbc.nd rfl (Or.inr rfl) (zgq ["_law_k"] ["_law_names", "_law_s"] [2, 0] (.of rfl (by decide +kernel) rfl) rfl rfl (by decide +kernel) (zch rfl B.range (za (zau (zaO K) zp (zy h_law_draw hr (za (qv 0) (za zp zf)))) zf)) (fun _ _ _ _ => (zV (i := 0) (show List.Nodup (["_law_k", "_law_names", "_law_s"] : List Str) by decide +kernel) rfl (Or.inl rfl))) (fun _ _ _ _ => zff) (fun _ _ _ _ => (zy h_law_name hr (za (qv 2) (za (qv 1) zf))))))
    (zj (zR (i := 4) zbc.nd rfl (Or.inr rfl) (zgq ["_law_k"] ["_law_names", "_law_s"] [2, 0] (.of rfl (by decide +kernel) rfl) rfl rfl (by decide +kernel) (zch rfl B.range (za (zy h_law_draw hr (za (qv 0) (za zp zf))) zf)) (fun _ _ _ _ => (zV (i := 0) (show List.Nodup (["_law_k", "_law_names", "_law_s"] : List Str) by decide +kernel) rfl (Or.inl rfl))) (fun _ _ _ _ => zff) (fun _ _ _ _ => (zy h_law_name hr (za (qv 2) (za (qv 1) zf))))))
    (zj (zR (i := 5) zbc.nd rfl (Or.inr rfl) (zO (zE K) (zcN (zmm [0, 1, 2, 0, 3, 1, 5, 7] rfl)) (zy h_law_draw hr (za (qv 0) (za zp zf))) (fun _ _ => rfl)))
    (zj (zdA (zR (i := 6) zbc.nd rfl (Or.inr rfl) (zcN zf)))
    (zj (zfi ["_law_k"] ["_law_gates", "_law_houses", "_law_lines", "_law_names", "_law_s", "_law_the_slack"] [4, 3, 6, 2, 0, 5] (i := 7) zbc.nd rfl rfl (.of rfl (by decide +kernel) rfl) rfl rfl (by decide +kernel) (zch rfl B.range (za (zau (zaO K) zp (zy h_law_draw hr (za (qv 0) (za (qv 1) zf)))) zf)) (fun _ _ _ _ => (zV (i := 0) (show List.Nodup (["_law_k", "_law_gates", "_law_houses", "_law_lines", "_law_names", "_law_s", "_law_the_slack"] : List Str) by decide +kernel) rfl (Or.inl rfl))) (fun _ _ _ _ => zff) (fun _ _ _ _ => (zy h_law_row hr (za (qv 5) (za (qv 4) (za (qv 3) (za (qv 2) (za (qv 1) (za (qv 6) zf)))))))))
    (zq (zaB (zjf (za (qv 3) (za (qv 4) (za (qv 6) (za (qv 7) (za (qv 5) (za (qv 2) zf))))))))))))))), (by infer_instance)⟩
theorem zk2 {f : Addr} {fd : FuncData} (F : Fun K "_law_net" "_law_net" zcY f fd) (B : Blt mg) (hM_NetD_initD_1 : zke P w K mg base CX0 "Net" 1 ["self"] (lift K zal) [] (sel 1 0 [.p 0] .non [])) (hT_Net_house_2 : zaJ P w K mg base CX0 "Net" "house" 6 ["self", "name"] (lift K zak) [] (sel 2 0 [.p 0, .p 1] .non [])) (hT_Net_gate_2 : zaJ P w K mg base CX0 "Net" "gate" 6 ["self", "name"] (lift K zaG) [] (sel 2 0 [.p 0, .p 1] .non [])) (hT_Net_line_4_wire : zaJ P w K mg base CX0 "Net" "line" 5 ["self", "name", "senders", "ears", "wire"] (lift K zaz) ["wire"] (sel 4 1 [.p 0, .p 1, .p 2, .p 3, .k 0] .non []))  : zas P w K mg base CX0 7 f fd ["_law_world_here"] (lift K zcC) :=
  F.okB zhQ zby rfl fun cdv A outer s H E hr => ⟨_, (zj (zR (i := 1) zby.nd rfl (Or.inl rfl) (zfs K hM_NetD_initD_1 hr))
    (zj (zcJ PassesOwn.never rfl (zbr K (zO (zE K) (qv 0) zp (fun _ _ => rfl))) (zV (i := 2) zby.nd rfl (Or.inl rfl))
    (zq (zM (zah (pl := _) K hT_Net_house_2 hr (qv 1) (za (qv 2) zf) za1))))
    (zj (zcJ PassesOwn.never rfl (zbr K (zO (zE K) (qv 0) zp (fun _ _ => rfl))) (zV (i := 2) zby.nd rfl (Or.inl rfl))
    (zq (zM (zah (pl := _) K hT_Net_gate_2 hr (qv 1) (za (qv 2) zf) za1))))
    (zj (zcJ PassesOwn.never rfl (zbr K (zO (zE K) (qv 0) zp (fun _ _ => rfl))) (zpS (n := 4) (K := K) rfl (zbw (zV (i := 2) zby.nd rfl (Or.inl rfl)) (zbw (zV (i := 3) zby.nd rfl (Or.inl rfl)) (zbw (zV (i := 4) zby.nd rfl (Or.inl rfl)) (zbw (zV (i := 5) zby.nd rfl (Or.inl rfl)) zjC)))))
    (zq (zM (zah (pl := _) K hT_Net_line_4_wire hr (qv 1) (za (qv 2) (za (zag (zat K) rfl B.tuple zbj (za (qv 3) zf)) (za (zag (zat K) rfl B.tuple zbj (za (qv 4) zf)) zf))) (zgj (qv 5) za1)))))
    (zq (zaB (qv 1))))))), (by infer_instance)⟩
theorem ziv {f : Addr} {fd : FuncData} (F : Fun K "_law_other" "_law_other" zbX f fd) (B : Blt mg) (hM_NetD_initD_1 : zke P w K mg base CX0 "Net" 1 ["self"] (lift K zal) [] (sel 1 0 [.p 0] .non [])) (hT_Net_house_2 : zaJ P w K mg base CX0 "Net" "house" 6 ["self", "name"] (lift K zak) [] (sel 2 0 [.p 0, .p 1] .non [])) (hT_Net_gate_2 : zaJ P w K mg base CX0 "Net" "gate" 6 ["self", "name"] (lift K zaG) [] (sel 2 0 [.p 0, .p 1] .non [])) (hT_Net_line_4_wire : zaJ P w K mg base CX0 "Net" "line" 5 ["self", "name", "senders", "ears", "wire"] (lift K zaz) ["wire"] (sel 4 1 [.p 0, .p 1, .p 2, .p 3, .k 0] .non []))  : zas P w K mg base CX0 7 f fd ["_law_world_here"] (lift K zbS) :=
  F.okB zfK za7 rfl fun cdv A outer s H E hr => ⟨_, (zj (zR (i := 1) za7.nd rfl (Or.inl rfl) (zfs K hM_NetD_initD_1 hr))
    (zj (zcJ PassesOwn.never rfl (zbr K (zd9 (zgs K) (zau (zaO K) (zO (zE K) (qv 0) zp (fun _ _ => rfl)) (zO (zE K) (qv 0) zp (fun _ _ => rfl))) zcu zcu (zdf (zfb zdK zp)))) (zV (i := 2) za7.nd rfl (Or.inl rfl))
    (zq (zaL (zG (zfq K hr) (qv 2) (zO (zE K) (qv 0) zp (fun _ _ => rfl)) (by with_unfolding_all rfl))
    (zq (zM (zah (pl := _) K hT_Net_house_2 hr (qv 1) (za (qv 2) zf) za1)))
    (zq (zM (zah (pl := _) K hT_Net_gate_2 hr (qv 1) (za (qv 2) zf) za1))))))
    (zj (zcJ PassesOwn.never rfl (zbr K (zd9 (zgs K) (zO (zE K) (qv 0) zp (fun _ _ => rfl)) zcu zcu (zdf (zfb zdK zp)))) (zpS (n := 4) (K := K) rfl (zbw (zV (i := 2) za7.nd rfl (Or.inl rfl)) (zbw (zV (i := 3) za7.nd rfl (Or.inl rfl)) (zbw (zV (i := 4) za7.nd rfl (Or.inl rfl)) (zbw (zV (i := 5) za7.nd rfl (Or.inl rfl)) zjC)))))
    (zq (zM (zah (pl := _) K hT_Net_line_4_wire hr (qv 1) (za (qv 2) (za (zag (zat K) rfl B.tuple zbj (za (zd9 (zgs K) (qv 3) zcu zcu (zdf (zfb zdK zp))) zf)) (za (zag (zat K) rfl B.tuple zbj (za (zd9 (zgs K) (qv 4) zcu zcu (zdf (zfb zdK zp))) zf)) zf))) (zgj (qv 5) za1)))))
    (zq (zaB (qv 1)))))), (by infer_instance)⟩
theorem zhC {f : Addr} {fd : FuncData} (F : Fun K "_law_change" "_law_change" zbC f fd) (B : Blt mg) (h_law_draw : Has P w K mg base CX0 "_law_draw" 1 ["_law_s", "_law_many"] zb9) (h_law_pick : Has P w K mg base CX0 "_law_pick" 2 ["_law_s", "_law_row_here"] (lift K zay)) (h_law_name : Has P w K mg base CX0 "_law_name" 2 ["_law_s", "_law_names"] (lift K z6)) (hT_Net_house_2 : zaJ P w K mg base CX0 "Net" "house" 6 ["self", "name"] (lift K zak) [] (sel 2 0 [.p 0, .p 1] .non [])) (hT_Net_gate_2 : zaJ P w K mg base CX0 "Net" "gate" 6 ["self", "name"] (lift K zaG) [] (sel 2 0 [.p 0, .p 1] .non [])) (hT_Net_line_4_wire : zaJ P w K mg base CX0 "Net" "line" 5 ["self", "name", "senders", "ears", "wire"] (lift K zaz) ["wire"] (sel 4 1 [.p 0, .p 1, .p 2, .p 3, .k 0] .non [])) (hT_Net_drop_2 : zaJ P w K mg base CX0 "Net" "drop" 2 ["self", "name"] (lift K zb6) [] (sel 2 0 [.p 0, .p 1] .non []))  : zas P w K mg base CX0 7 f fd ["_law_s", "_law_world_here", "_law_net_here"] (lift K zaY) :=
  F.okB zeS zcw rfl fun cdv A outer s H E hr => ⟨_, (zj (zR (i := 3) zcw.nd rfl (Or.inl rfl) (zy h_law_draw hr (za (qv 0) (za zp zf))))
    (zj (zR (i := 4) zcw.nd rfl (Or.inl rfl) (zy h_law_pick hr (za (qv 0) (za (zO (zE K) (qv 1) zp (fun _ _ => rfl)) zf))))
    (zj (zR (i := 5) zcw.nd rfl (Or.inl rfl) (zy h_law_name hr (za (qv 0) (za (zO (zE K) (qv 1) zp (fun _ _ => rfl)) zf))))
    (zj (zaL (zG (zcm K hr) (qv 3) zp (zT _))
    (zq (zM (zah (pl := _) K hT_Net_house_2 hr (qv 2) (za (qv 5) zf) za1)))
    (zq (zaL (zG (zcm K hr) (qv 3) zp (zT _))
    (zq (zM (zah (pl := _) K hT_Net_gate_2 hr (qv 2) (za (qv 5) zf) za1)))
    (zq (zaL (zG (zcm K hr) (qv 3) zp (zT _))
    (zq (zM (zah (pl := _) K hT_Net_line_4_wire hr (qv 2) (za (qv 5) (za (zag (zat K) rfl B.tuple zbj (za (zO (zE K) (qv 4) zp (fun _ _ => rfl)) zf)) (za (zag (zat K) rfl B.tuple zbj (za (zO (zE K) (qv 4) zp (fun _ _ => rfl)) zf)) zf))) (zgj (zO (zE K) (qv 4) zp (fun _ _ => rfl)) za1))))
    (zq (zM (zah (pl := _) K hT_Net_drop_2 hr (qv 2) (za (zO (zE K) (qv 4) zp (fun _ _ => rfl)) zf) za1))))))))
    (zj (zaL (zG (zcm K hr) (qv 3) zp (zT _))
    (zq (zM (zah (pl := _) K hT_Net_house_2 hr (qv 2) (za (zO (zE K) (qv 4) zp (fun _ _ => rfl)) zf) za1)))
    zad)
    (zq (zaL (zG (zcm K hr) (qv 3) zp (zT _))
    (zq (zM (zah (pl := _) K hT_Net_line_4_wire hr (qv 2) (za (zO (zE K) (qv 4) zp (fun _ _ => rfl)) (za (zag (zat K) rfl B.tuple zbj (za (zO (zE K) (qv 4) zp (fun _ _ => rfl)) zf)) (za (zag (zat K) rfl B.tuple zbj (za (zO (zE K) (qv 4) zp (fun _ _ => rfl)) zf)) zf))) (zgj (zau (zaO K) (zO (zE K) (qv 4) zp (fun _ _ => rfl)) zp) za1))))
    zad))))))), (by infer_instance)⟩
def znX : DSp := zaa zpL zsk 1
theorem zsB {f : Addr} {fd : FuncData} (F : Fun K "law" "law" ze8 f fd) (B : Blt mg) (h_law_start : Has P w K mg base CX0 "_law_start" 1 ["_law_script"] (zfa K)) (h_law_draw : Has P w K mg base CX0 "_law_draw" 1 ["_law_s", "_law_many"] zb9) (h_law_world : Has P w K mg base CX0 "_law_world" 6 ["_law_s", "_law_the_most"] (lift K zbP)) (h_law_net : Has P w K mg base CX0 "_law_net" 7 ["_law_world_here"] (lift K zcC)) (h_law_other : Has P w K mg base CX0 "_law_other" 7 ["_law_world_here"] (lift K zbS)) (h_law_change : Has P w K mg base CX0 "_law_change" 7 ["_law_s", "_law_world_here", "_law_net_here"] (lift K zaY)) (hT_Net_twin_1 : zaJ P w K mg base CX0 "Net" "twin" 3 ["self"] (lift K zb5) [] (sel 1 0 [.p 0] .non [])) (hT_Net_names_1 : zaJ P w K mg base CX0 "Net" "names" 1 ["self"] (lift K zaH) [] (sel 1 0 [.p 0] .non [])) (hE_Net : zk8 P w K mg base CX0 "Net" 1 ["self", "other"] (lift K zH)) (hL_Net : zol P w K mg base CX0 "Net" 1 ["self"] (lift K zbR)) : zas P w K mg base CX0 8 f fd ["_law_script"] (lift K znX) :=
  F.okB zpL zfo rfl fun cdv A outer s H E hr => ⟨_, (zj (zR (i := 1) zfo.nd rfl (Or.inl rfl) (zy h_law_start hr (za (qv 0) zf)))
    (zj (zR (i := 2) zfo.nd rfl (Or.inl rfl) (zy h_law_world hr (za (qv 1) (za zp zf))))
    (zj (zR (i := 3) zfo.nd rfl (Or.inl rfl) (zy h_law_net hr (za (qv 2) zf)))
    (zj (zR (i := 4) zfo.nd rfl (Or.inl rfl) (zy h_law_other hr (za (qv 2) zf)))
    (zj (zR (i := 5) zfo.nd rfl (Or.inl rfl) (zdn (pl := _) K hT_Net_twin_1 hr (qv 3)))
    (zj (zaL (WW.qt (zeo (zeB (zG (zcr K hE_Net hr) (qv 3) (qv 4) (zT _))) (zeo (zeB (zG (zcr K hE_Net hr) (qv 4) (qv 3) (zT _))) (zeo (zeB (zG (zcr K hE_Net hr) (qv 5) (qv 3) (zT _))) (zeo (zG (zcr K hE_Net hr) (qv 3) zdS (zT _)) (zeC (zG (zcr K hE_Net hr) (qv 3) (zL (zmV K hL_Net hr) rfl B.len zba (za (qv 3) zf)) (zT _))))))))
    (zq (zaB zuC))
    zad)
    (zj (zaL (zG (zcm K hr) (zy h_law_draw hr (za (qv 1) (za zp zf))) zp (zT _))
    (zj (zM (zy h_law_change hr (za (qv 1) (za (qv 2) (za (qv 3) zf)))))
    (zq (zaB (zcL (zbG (zcr K hE_Net hr) (qv 5) (qv 4) (zT _)) (zcL (zeG (zbG (zcr K hE_Net hr) (qv 3) (qv 4) (zT _))) (zcL (zeG (zbG (zcr K hE_Net hr) (qv 4) (qv 3) (zT _))) (zcL (zeG (zbG (zcr K hE_Net hr) (qv 5) (qv 3) (zT _))) (zgC (zbG (zcm K hr) (zdn (pl := _) K hT_Net_names_1 hr (qv 5)) (zdn (pl := _) K hT_Net_names_1 hr (qv 4)) (zT _))))))))))
    zad)
    (zj (zM (zy h_law_change hr (za (qv 1) (za (qv 2) (za (qv 5) zf)))))
    (zq (zaB (zcL (zbG (zcr K hE_Net hr) (qv 3) (qv 4) (zT _)) (zcL (zeG (zbG (zcr K hE_Net hr) (qv 5) (qv 4) (zT _))) (zcL (zeG (zbG (zcr K hE_Net hr) (qv 4) (qv 5) (zT _))) (zcL (zeG (zbG (zcr K hE_Net hr) (qv 3) (qv 5) (zT _))) (zgC (zbG (zcm K hr) (zdn (pl := _) K hT_Net_names_1 hr (qv 3)) (zdn (pl := _) K hT_Net_names_1 hr (qv 4)) (zT _))))))))))))))))), (by infer_instance)⟩
end
end M

set_option synthInstance.maxHeartbeats 4000000
set_option synthInstance.maxSize 100000
set_option maxHeartbeats 4000000
namespace M
open PySem L2
theorem zum {l : PySem.W.OpenLaw} {w : World} {K : PySem.W.Frag} {h : Heap} {mg : Str -> Option Value} {fa : Addr} (X : K.In h) (G : h.Ns mainGlobals mg) (hfa : mg "law" = some (.ref fa))
    {C_Net : Addr} (a_Net : PySem.W.nsIn K mainGlobals "Net" = some (some (.ref C_Net)))
    (pg_Net : PySem.W.plainGet K C_Net Str.empty = true)
    (hd_Net : PySem.W.hasDictIn K C_Net = true)
    (po_Net : PySem.W.plainOver K C_Net = true)
    (sa_Net : PySem.W.findIn K (.ref C_Net) "__setattr__" = some (some (.builtin "object.__setattr__")))
    (mk_Net : PySem.W.makesIn K C_Net = true)
    (kp_Net : PySem.W.keepIn K (.ref C_Net) = true)
    (na_Net_kinds : PySem.W.findIn K (.ref C_Net) "kinds" = some none)
    (na_Net_lines : PySem.W.findIn K (.ref C_Net) "lines" = some none)
    {f0 : Addr} {od0 an0 : Option Addr} {sl0 : Array (Option Value)} {oc0 kV0 dc0 pm0 cd0 ct0 : Value}
    (a0 : PySem.W.nsIn K mainGlobals "is_made_of" = some (some (.ref f0)))
    (l0 : K.lookup f0 = some ⟨oc0, od0, .func (PySem.W.fnOf "is_made_of" "is_made_of" (zB zbD) (zA zbD) (zg zbD) .none kV0 dc0 pm0 an0 cd0 ct0), sl0⟩)
    (c0 : PySem.W.codeIn K cd0 "is_made_of" = true)
    (k0 : PySem.W.keepIn K (.ref f0) = true)
    {f1 : Addr} {od1 an1 : Option Addr} {sl1 : Array (Option Value)} {oc1 kV1 dc1 pm1 cd1 ct1 : Value}
    (a1 : PySem.W.nsIn K mainGlobals "is_number" = some (some (.ref f1)))
    (l1 : K.lookup f1 = some ⟨oc1, od1, .func (PySem.W.fnOf "is_number" "is_number" (zB zbY) (zA zbY) (zg zbY) .none kV1 dc1 pm1 an1 cd1 ct1), sl1⟩)
    (c1 : PySem.W.codeIn K cd1 "is_number" = true)
    (k1 : PySem.W.keepIn K (.ref f1) = true)
    {f2 : Addr} {od2 an2 : Option Addr} {sl2 : Array (Option Value)} {oc2 kV2 dc2 pm2 cd2 ct2 : Value}
    (a2 : PySem.W.findIn K (.ref C_Net) "__init__" = some (some (.ref f2)))
    (n2 : PySem.W.isFn K (.ref f2) = true)
    (l2 : K.lookup f2 = some ⟨oc2, od2, .func (PySem.W.fnOf "__init__" "Net.__init__" (zB zaF) (zA zaF) (zg zaF) .none kV2 dc2 pm2 an2 cd2 ct2), sl2⟩)
    (c2 : PySem.W.codeIn K cd2 "Net.__init__" = true)
    (k2 : PySem.W.keepIn K (.ref f2) = true)
    {f3 : Addr} {od3 an3 : Option Addr} {sl3 : Array (Option Value)} {oc3 kV3 dc3 pm3 cd3 ct3 : Value}
    (a3 : PySem.W.findIn K (.ref C_Net) "names" = some (some (.ref f3)))
    (n3 : PySem.W.isFn K (.ref f3) = true)
    (l3 : K.lookup f3 = some ⟨oc3, od3, .func (PySem.W.fnOf "names" "Net.names" (zB zaS) (zA zaS) (zg zaS) .none kV3 dc3 pm3 an3 cd3 ct3), sl3⟩)
    (c3 : PySem.W.codeIn K cd3 "Net.names" = true)
    (k3 : PySem.W.keepIn K (.ref f3) = true)
    {f4 : Addr} {od4 an4 : Option Addr} {sl4 : Array (Option Value)} {oc4 kV4 dc4 pm4 cd4 ct4 : Value}
    (a4 : PySem.W.findIn K (.ref C_Net) "kind" = some (some (.ref f4)))
    (n4 : PySem.W.isFn K (.ref f4) = true)
    (l4 : K.lookup f4 = some ⟨oc4, od4, .func (PySem.W.fnOf "kind" "Net.kind" (zB zbg) (zA zbg) (zg zbg) .none kV4 dc4 pm4 an4 cd4 ct4), sl4⟩)
    (c4 : PySem.W.codeIn K cd4 "Net.kind" = true)
    (k4 : PySem.W.keepIn K (.ref f4) = true)
    {f5 : Addr} {od5 an5 : Option Addr} {sl5 : Array (Option Value)} {oc5 kV5 dc5 pm5 cd5 ct5 : Value}
    (a5 : PySem.W.findIn K (.ref C_Net) "__len__" = some (some (.ref f5)))
    (n5 : PySem.W.isFn K (.ref f5) = true)
    (l5 : K.lookup f5 = some ⟨oc5, od5, .func (PySem.W.fnOf "__len__" "Net.__len__" (zB zbV) (zA zbV) (zg zbV) .none kV5 dc5 pm5 an5 cd5 ct5), sl5⟩)
    (c5 : PySem.W.codeIn K cd5 "Net.__len__" = true)
    (k5 : PySem.W.keepIn K (.ref f5) = true)
    {f6 : Addr} {od6 an6 : Option Addr} {sl6 : Array (Option Value)} {oc6 kV6 dc6 pm6 cd6 ct6 : Value}
    (a6 : PySem.W.findIn K (.ref C_Net) "__eq__" = some (some (.ref f6)))
    (n6 : PySem.W.isFn K (.ref f6) = true)
    (l6 : K.lookup f6 = some ⟨oc6, od6, .func (PySem.W.fnOf "__eq__" "Net.__eq__" (zB zci) (zA zci) (zg zci) .none kV6 dc6 pm6 an6 cd6 ct6), sl6⟩)
    (c6 : PySem.W.codeIn K cd6 "Net.__eq__" = true)
    (k6 : PySem.W.keepIn K (.ref f6) = true)
    {f7 : Addr} {od7 an7 : Option Addr} {sl7 : Array (Option Value)} {oc7 kV7 dc7 pm7 cd7 ct7 : Value}
    (a7 : PySem.W.findIn K (.ref C_Net) "check_nodes" = some (some (.ref f7)))
    (n7 : PySem.W.isFn K (.ref f7) = true)
    (l7 : K.lookup f7 = some ⟨oc7, od7, .func (PySem.W.fnOf "check_nodes" "Net.check_nodes" (zB z7) (zA z7) (zg z7) .none kV7 dc7 pm7 an7 cd7 ct7), sl7⟩)
    (c7 : PySem.W.codeIn K cd7 "Net.check_nodes" = true)
    (k7 : PySem.W.keepIn K (.ref f7) = true)
    {f8 : Addr} {od8 an8 : Option Addr} {sl8 : Array (Option Value)} {oc8 kV8 dc8 pm8 cd8 ct8 : Value}
    (a8 : PySem.W.findIn K (.ref C_Net) "check_unused" = some (some (.ref f8)))
    (n8 : PySem.W.isFn K (.ref f8) = true)
    (l8 : K.lookup f8 = some ⟨oc8, od8, .func (PySem.W.fnOf "check_unused" "Net.check_unused" (zB zU) (zA zU) (zg zU) .none kV8 dc8 pm8 an8 cd8 ct8), sl8⟩)
    (c8 : PySem.W.codeIn K cd8 "Net.check_unused" = true)
    (k8 : PySem.W.keepIn K (.ref f8) = true)
    {f9 : Addr} {od9 an9 : Option Addr} {sl9 : Array (Option Value)} {oc9 kV9 dc9 pm9 cd9 ct9 : Value}
    (a9 : PySem.W.nsIn K mainGlobals "check_ends" = some (some (.ref f9)))
    (l9 : K.lookup f9 = some ⟨oc9, od9, .func (PySem.W.fnOf "check_ends" "check_ends" (zB zbE) (zA zbE) (zg zbE) .none kV9 dc9 pm9 an9 cd9 ct9), sl9⟩)
    (c9 : PySem.W.codeIn K cd9 "check_ends" = true)
    (k9 : PySem.W.keepIn K (.ref f9) = true)
    {f10 : Addr} {od10 an10 : Option Addr} {sl10 : Array (Option Value)} {oc10 kV10 dc10 pm10 cd10 ct10 : Value}
    (a10 : PySem.W.nsIn K mainGlobals "_law_start" = some (some (.ref f10)))
    (l10 : K.lookup f10 = some ⟨oc10, od10, .func (PySem.W.fnOf "_law_start" "_law_start" (zB zb1) (zA zb1) (zg zb1) .none kV10 dc10 pm10 an10 cd10 ct10), sl10⟩)
    (c10 : PySem.W.codeIn K cd10 "_law_start" = true)
    (k10 : PySem.W.keepIn K (.ref f10) = true)
    {f11 : Addr} {od11 an11 : Option Addr} {sl11 : Array (Option Value)} {oc11 kV11 dc11 pm11 cd11 ct11 : Value}
    (a11 : PySem.W.nsIn K mainGlobals "_law_draw" = some (some (.ref f11)))
    (l11 : K.lookup f11 = some ⟨oc11, od11, .func (PySem.W.fnOf "_law_draw" "_law_draw" (zB zcn) (zA zcn) (zg zcn) .none kV11 dc11 pm11 an11 cd11 ct11), sl11⟩)
    (c11 : PySem.W.codeIn K cd11 "_law_draw" = true)
    (k11 : PySem.W.keepIn K (.ref f11) = true)
    {f12 : Addr} {od12 an12 : Option Addr} {sl12 : Array (Option Value)} {oc12 kV12 dc12 pm12 cd12 ct12 : Value}
    (a12 : PySem.W.nsIn K mainGlobals "_law_need" = some (some (.ref f12)))
    (l12 : K.lookup f12 = some ⟨oc12, od12, .func (PySem.W.fnOf "_law_need" "_law_need" (zB zcq) (zA zcq) (zg zcq) .none kV12 dc12 pm12 an12 cd12 ct12), sl12⟩)
    (c12 : PySem.W.codeIn K cd12 "_law_need" = true)
    (k12 : PySem.W.keepIn K (.ref f12) = true)
    {f13 : Addr} {od13 an13 : Option Addr} {sl13 : Array (Option Value)} {oc13 kV13 dc13 pm13 cd13 ct13 : Value}
    (a13 : PySem.W.nsIn K mainGlobals "is_name" = some (some (.ref f13)))
    (l13 : K.lookup f13 = some ⟨oc13, od13, .func (PySem.W.fnOf "is_name" "is_name" (zB zcU) (zA zcU) (zg zcU) .none kV13 dc13 pm13 an13 cd13 ct13), sl13⟩)
    (c13 : PySem.W.codeIn K cd13 "is_name" = true)
    (k13 : PySem.W.keepIn K (.ref f13) = true)
    {f14 : Addr} {od14 an14 : Option Addr} {sl14 : Array (Option Value)} {oc14 kV14 dc14 pm14 cd14 ct14 : Value}
    (a14 : PySem.W.nsIn K mainGlobals "check_whole" = some (some (.ref f14)))
    (l14 : K.lookup f14 = some ⟨oc14, od14, .func (PySem.W.fnOf "check_whole" "check_whole" (zB zbl) (zA zbl) (zg zbl) .none kV14 dc14 pm14 an14 cd14 ct14), sl14⟩)
    (c14 : PySem.W.codeIn K cd14 "check_whole" = true)
    (k14 : PySem.W.keepIn K (.ref f14) = true)
    {f15 : Addr} {od15 an15 : Option Addr} {sl15 : Array (Option Value)} {oc15 kV15 dc15 pm15 cd15 ct15 : Value}
    (a15 : PySem.W.findIn K (.ref C_Net) "drop" = some (some (.ref f15)))
    (n15 : PySem.W.isFn K (.ref f15) = true)
    (l15 : K.lookup f15 = some ⟨oc15, od15, .func (PySem.W.fnOf "drop" "Net.drop" (zB za8) (zA za8) (zg za8) .none kV15 dc15 pm15 an15 cd15 ct15), sl15⟩)
    (c15 : PySem.W.codeIn K cd15 "Net.drop" = true)
    (k15 : PySem.W.keepIn K (.ref f15) = true)
    {f16 : Addr} {od16 an16 : Option Addr} {sl16 : Array (Option Value)} {oc16 kV16 dc16 pm16 cd16 ct16 : Value}
    (a16 : PySem.W.nsIn K mainGlobals "_law_pick" = some (some (.ref f16)))
    (l16 : K.lookup f16 = some ⟨oc16, od16, .func (PySem.W.fnOf "_law_pick" "_law_pick" (zB zcs) (zA zcs) (zg zcs) .none kV16 dc16 pm16 an16 cd16 ct16), sl16⟩)
    (c16 : PySem.W.codeIn K cd16 "_law_pick" = true)
    (k16 : PySem.W.keepIn K (.ref f16) = true)
    {f17 : Addr} {od17 an17 : Option Addr} {sl17 : Array (Option Value)} {oc17 kV17 dc17 pm17 cd17 ct17 : Value}
    (a17 : PySem.W.nsIn K mainGlobals "_law_name" = some (some (.ref f17)))
    (l17 : K.lookup f17 = some ⟨oc17, od17, .func (PySem.W.fnOf "_law_name" "_law_name" (zB zcp) (zA zcp) (zg zcp) .none kV17 dc17 pm17 an17 cd17 ct17), sl17⟩)
    (c17 : PySem.W.codeIn K cd17 "_law_name" = true)
    (k17 : PySem.W.keepIn K (.ref f17) = true)
    {f18 : Addr} {od18 an18 : Option Addr} {sl18 : Array (Option Value)} {oc18 kV18 dc18 pm18 cd18 ct18 : Value}
    (a18 : PySem.W.nsIn K mainGlobals "check_name" = some (some (.ref f18)))
    (l18 : K.lookup f18 = some ⟨oc18, od18, .func (PySem.W.fnOf "check_name" "check_name" (zB zbF) (zA zbF) (zg zbF) .none kV18 dc18 pm18 an18 cd18 ct18), sl18⟩)
    (c18 : PySem.W.codeIn K cd18 "check_name" = true)
    (k18 : PySem.W.keepIn K (.ref f18) = true)
    {f19 : Addr} {od19 an19 : Option Addr} {sl19 : Array (Option Value)} {oc19 kV19 dc19 pm19 cd19 ct19 : Value}
    (a19 : PySem.W.nsIn K mainGlobals "check_number" = some (some (.ref f19)))
    (l19 : K.lookup f19 = some ⟨oc19, od19, .func (PySem.W.fnOf "check_number" "check_number" (zB za2) (zA za2) (zg za2) .none kV19 dc19 pm19 an19 cd19 ct19), sl19⟩)
    (c19 : PySem.W.codeIn K cd19 "check_number" = true)
    (k19 : PySem.W.keepIn K (.ref f19) = true)
    {f20 : Addr} {od20 an20 : Option Addr} {sl20 : Array (Option Value)} {oc20 kV20 dc20 pm20 cd20 ct20 : Value}
    (a20 : PySem.W.findIn K (.ref C_Net) "twin" = some (some (.ref f20)))
    (n20 : PySem.W.isFn K (.ref f20) = true)
    (l20 : K.lookup f20 = some ⟨oc20, od20, .func (PySem.W.fnOf "twin" "Net.twin" (zB zbb) (zA zbb) (zg zbb) .none kV20 dc20 pm20 an20 cd20 ct20), sl20⟩)
    (c20 : PySem.W.codeIn K cd20 "Net.twin" = true)
    (k20 : PySem.W.keepIn K (.ref f20) = true)
    {f21 : Addr} {od21 an21 : Option Addr} {sl21 : Array (Option Value)} {oc21 kV21 dc21 pm21 cd21 ct21 : Value}
    (a21 : PySem.W.nsIn K mainGlobals "_law_hop" = some (some (.ref f21)))
    (l21 : K.lookup f21 = some ⟨oc21, od21, .func (PySem.W.fnOf "_law_hop" "_law_hop" (zB zcX) (zA zcX) (zg zcX) .none kV21 dc21 pm21 an21 cd21 ct21), sl21⟩)
    (c21 : PySem.W.codeIn K cd21 "_law_hop" = true)
    (k21 : PySem.W.keepIn K (.ref f21) = true)
    {f22 : Addr} {od22 an22 : Option Addr} {sl22 : Array (Option Value)} {oc22 kV22 dc22 pm22 cd22 ct22 : Value}
    (a22 : PySem.W.findIn K (.ref C_Net) "check_new" = some (some (.ref f22)))
    (n22 : PySem.W.isFn K (.ref f22) = true)
    (l22 : K.lookup f22 = some ⟨oc22, od22, .func (PySem.W.fnOf "check_new" "Net.check_new" (zB zac) (zA zac) (zg zac) .none kV22 dc22 pm22 an22 cd22 ct22), sl22⟩)
    (c22 : PySem.W.codeIn K cd22 "Net.check_new" = true)
    (k22 : PySem.W.keepIn K (.ref f22) = true)
    {f23 : Addr} {od23 an23 : Option Addr} {sl23 : Array (Option Value)} {oc23 kV23 dc23 pm23 cd23 ct23 : Value}
    (a23 : PySem.W.nsIn K mainGlobals "_law_way" = some (some (.ref f23)))
    (l23 : K.lookup f23 = some ⟨oc23, od23, .func (PySem.W.fnOf "_law_way" "_law_way" (zB zc1) (zA zc1) (zg zc1) .none kV23 dc23 pm23 an23 cd23 ct23), sl23⟩)
    (c23 : PySem.W.codeIn K cd23 "_law_way" = true)
    (k23 : PySem.W.keepIn K (.ref f23) = true)
    {f24 : Addr} {od24 an24 : Option Addr} {sl24 : Array (Option Value)} {oc24 kV24 dc24 pm24 cd24 ct24 : Value}
    (a24 : PySem.W.findIn K (.ref C_Net) "line" = some (some (.ref f24)))
    (n24 : PySem.W.isFn K (.ref f24) = true)
    (l24 : K.lookup f24 = some ⟨oc24, od24, .func (PySem.W.fnOf "line" "Net.line" (zB za9) (zA za9) (zg za9) .none kV24 dc24 pm24 an24 cd24 ct24), sl24⟩)
    (c24 : PySem.W.codeIn K cd24 "Net.line" = true)
    (k24 : PySem.W.keepIn K (.ref f24) = true)
    {f25 : Addr} {od25 an25 : Option Addr} {sl25 : Array (Option Value)} {oc25 kV25 dc25 pm25 cd25 ct25 : Value}
    (a25 : PySem.W.findIn K (.ref C_Net) "put_node" = some (some (.ref f25)))
    (n25 : PySem.W.isFn K (.ref f25) = true)
    (l25 : K.lookup f25 = some ⟨oc25, od25, .func (PySem.W.fnOf "put_node" "Net.put_node" (zB zaq) (zA zaq) (zg zaq) .none kV25 dc25 pm25 an25 cd25 ct25), sl25⟩)
    (c25 : PySem.W.codeIn K cd25 "Net.put_node" = true)
    (k25 : PySem.W.keepIn K (.ref f25) = true)
    {f26 : Addr} {od26 an26 : Option Addr} {sl26 : Array (Option Value)} {oc26 kV26 dc26 pm26 cd26 ct26 : Value}
    (a26 : PySem.W.nsIn K mainGlobals "_law_row" = some (some (.ref f26)))
    (l26 : K.lookup f26 = some ⟨oc26, od26, .func (PySem.W.fnOf "_law_row" "_law_row" (zB zc0) (zA zc0) (zg zc0) .none kV26 dc26 pm26 an26 cd26 ct26), sl26⟩)
    (c26 : PySem.W.codeIn K cd26 "_law_row" = true)
    (k26 : PySem.W.keepIn K (.ref f26) = true)
    {f27 : Addr} {od27 an27 : Option Addr} {sl27 : Array (Option Value)} {oc27 kV27 dc27 pm27 cd27 ct27 : Value}
    (a27 : PySem.W.findIn K (.ref C_Net) "house" = some (some (.ref f27)))
    (n27 : PySem.W.isFn K (.ref f27) = true)
    (l27 : K.lookup f27 = some ⟨oc27, od27, .func (PySem.W.fnOf "house" "Net.house" (zB zaR) (zA zaR) (zg zaR) .none kV27 dc27 pm27 an27 cd27 ct27), sl27⟩)
    (c27 : PySem.W.codeIn K cd27 "Net.house" = true)
    (k27 : PySem.W.keepIn K (.ref f27) = true)
    {f28 : Addr} {od28 an28 : Option Addr} {sl28 : Array (Option Value)} {oc28 kV28 dc28 pm28 cd28 ct28 : Value}
    (a28 : PySem.W.findIn K (.ref C_Net) "gate" = some (some (.ref f28)))
    (n28 : PySem.W.isFn K (.ref f28) = true)
    (l28 : K.lookup f28 = some ⟨oc28, od28, .func (PySem.W.fnOf "gate" "Net.gate" (zB za6) (zA za6) (zg za6) .none kV28 dc28 pm28 an28 cd28 ct28), sl28⟩)
    (c28 : PySem.W.codeIn K cd28 "Net.gate" = true)
    (k28 : PySem.W.keepIn K (.ref f28) = true)
    {f29 : Addr} {od29 an29 : Option Addr} {sl29 : Array (Option Value)} {oc29 kV29 dc29 pm29 cd29 ct29 : Value}
    (a29 : PySem.W.nsIn K mainGlobals "_law_world" = some (some (.ref f29)))
    (l29 : K.lookup f29 = some ⟨oc29, od29, .func (PySem.W.fnOf "_law_world" "_law_world" (zB zb0) (zA zb0) (zg zb0) .none kV29 dc29 pm29 an29 cd29 ct29), sl29⟩)
    (c29 : PySem.W.codeIn K cd29 "_law_world" = true)
    (k29 : PySem.W.keepIn K (.ref f29) = true)
    {f30 : Addr} {od30 an30 : Option Addr} {sl30 : Array (Option Value)} {oc30 kV30 dc30 pm30 cd30 ct30 : Value}
    (a30 : PySem.W.nsIn K mainGlobals "_law_net" = some (some (.ref f30)))
    (l30 : K.lookup f30 = some ⟨oc30, od30, .func (PySem.W.fnOf "_law_net" "_law_net" (zB zcY) (zA zcY) (zg zcY) .none kV30 dc30 pm30 an30 cd30 ct30), sl30⟩)
    (c30 : PySem.W.codeIn K cd30 "_law_net" = true)
    (k30 : PySem.W.keepIn K (.ref f30) = true)
    {f31 : Addr} {od31 an31 : Option Addr} {sl31 : Array (Option Value)} {oc31 kV31 dc31 pm31 cd31 ct31 : Value}
    (a31 : PySem.W.nsIn K mainGlobals "_law_other" = some (some (.ref f31)))
    (l31 : K.lookup f31 = some ⟨oc31, od31, .func (PySem.W.fnOf "_law_other" "_law_other" (zB zbX) (zA zbX) (zg zbX) .none kV31 dc31 pm31 an31 cd31 ct31), sl31⟩)
    (c31 : PySem.W.codeIn K cd31 "_law_other" = true)
    (k31 : PySem.W.keepIn K (.ref f31) = true)
    {f32 : Addr} {od32 an32 : Option Addr} {sl32 : Array (Option Value)} {oc32 kV32 dc32 pm32 cd32 ct32 : Value}
    (a32 : PySem.W.nsIn K mainGlobals "_law_change" = some (some (.ref f32)))
    (l32 : K.lookup f32 = some ⟨oc32, od32, .func (PySem.W.fnOf "_law_change" "_law_change" (zB zbC) (zA zbC) (zg zbC) .none kV32 dc32 pm32 an32 cd32 ct32), sl32⟩)
    (c32 : PySem.W.codeIn K cd32 "_law_change" = true)
    (k32 : PySem.W.keepIn K (.ref f32) = true)
    {f33 : Addr} {od33 an33 : Option Addr} {sl33 : Array (Option Value)} {oc33 kV33 dc33 pm33 cd33 ct33 : Value}
    (a33 : PySem.W.nsIn K mainGlobals "law" = some (some (.ref f33)))
    (l33 : K.lookup f33 = some ⟨oc33, od33, .func (PySem.W.fnOf "law" "law" (zB ze8) (zA ze8) (zg ze8) .none kV33 dc33 pm33 an33 cd33 ct33), sl33⟩)
    (c33 : PySem.W.codeIn K cd33 "law" = true)
    (k33 : PySem.W.keepIn K (.ref f33) = true)
    (z_len : PySem.W.nsIn K mainGlobals "len" = some none)
    (z_abs : PySem.W.nsIn K mainGlobals "abs" = some none)
    (z_max : PySem.W.nsIn K mainGlobals "max" = some none)
    (z_min : PySem.W.nsIn K mainGlobals "min" = some none)
    (z_all : PySem.W.nsIn K mainGlobals "all" = some none)
    (z_any : PySem.W.nsIn K mainGlobals "any" = some none)
    (z_sum : PySem.W.nsIn K mainGlobals "sum" = some none)
    (z_sorted : PySem.W.nsIn K mainGlobals "sorted" = some none)
    (z_isinstance : PySem.W.nsIn K mainGlobals "isinstance" = some none)
    (z_list : PySem.W.nsIn K mainGlobals "list" = some none)
    (z_tuple : PySem.W.nsIn K mainGlobals "tuple" = some none)
    (z_int : PySem.W.nsIn K mainGlobals "int" = some none)
    (z_bool : PySem.W.nsIn K mainGlobals "bool" = some none)
    (z_str : PySem.W.nsIn K mainGlobals "str" = some none)
    (z_set : PySem.W.nsIn K mainGlobals "set" = some none)
    (z_dict : PySem.W.nsIn K mainGlobals "dict" = some none)
    (z_zip : PySem.W.nsIn K mainGlobals "zip" = some none)
    (z_range : PySem.W.nsIn K mainGlobals "range" = some none)
    (z_enumerate : PySem.W.nsIn K mainGlobals "enumerate" = some none)
    (z_reversed : PySem.W.nsIn K mainGlobals "reversed" = some none)
    (z_repr : PySem.W.nsIn K mainGlobals "repr" = some none)
    {u_MOST_LINES : Value} (g_MOST_LINES : PySem.W.nsIn K mainGlobals "MOST_LINES" = some (some u_MOST_LINES))
    (v_MOST_LINES : zeJ u_MOST_LINES = some 16)
    {u_MOST_WIRE : Value} (g_MOST_WIRE : PySem.W.nsIn K mainGlobals "MOST_WIRE" = some (some u_MOST_WIRE))
    (v_MOST_WIRE : zeJ u_MOST_WIRE = some 30)
    {u_LETTERS : Value} (g_LETTERS : PySem.W.nsIn K mainGlobals "LETTERS" = some (some u_LETTERS))
    (v_LETTERS : zle u_LETTERS = some "abcdefghijklmnopqrstuvwxyz")
    {u_MOST_LETTERS : Value} (g_MOST_LETTERS : PySem.W.nsIn K mainGlobals "MOST_LETTERS" = some (some u_MOST_LETTERS))
    (v_MOST_LETTERS : zeJ u_MOST_LETTERS = some 8)
    {u_MOST_ENDS : Value} (g_MOST_ENDS : PySem.W.nsIn K mainGlobals "MOST_ENDS" = some (some u_MOST_ENDS))
    (v_MOST_ENDS : zeJ u_MOST_ENDS = some 6)
    {u_MOST_NODES : Value} (g_MOST_NODES : PySem.W.nsIn K mainGlobals "MOST_NODES" = some (some u_MOST_NODES))
    (v_MOST_NODES : zeJ u_MOST_NODES = some 16)
    (i1_Net : PySem.W.findIn K (.ref C_Net) "__class__" = some (some (.builtin "object.__class__")))
    (i2_Net : PySem.W.specialIn K (.builtin "object.__class__") "__get__" = some (some (.builtin "getset_descriptor.__get__")))
    (i3_Net : PySem.W.takesIn K (.builtin "object.__class__") = some true)
    (i4_Net : PySem.W.mroIn K C_Net (.type "object") = some true)
    (i5_Net : PySem.W.kitOne K (.ref C_Net) (.ref C_Net) = some true)
    (i6_Net : PySem.W.kitOne K (.type "str") (.ref C_Net) = some false)
    (i7_Net : PySem.W.kitOne K (.type "int") (.ref C_Net) = some false)
    (nf1_Net : PySem.W.notFirst K C_Net (.type "str") = true)
    (nf2_Net : PySem.W.notFirst K C_Net (.type "int") = true)
     (d_Net_twin_1 : ∀ (S : Setting) (u0 : Value), PySem.W.peek K S (bindArgs (PySem.W.fnOf "twin" "Net.twin" (zB zbb) (zA zbb) (zg zbb) .none kV20 dc20 pm20 an20 cd20 ct20) ⟨[u0], []⟩) = some ([("self", u0)] : List (Str × Value)))
     (d_Net_names_1 : ∀ (S : Setting) (u0 : Value), PySem.W.peek K S (bindArgs (PySem.W.fnOf "names" "Net.names" (zB zaS) (zA zaS) (zg zaS) .none kV3 dc3 pm3 an3 cd3 ct3) ⟨[u0], []⟩) = some ([("self", u0)] : List (Str × Value)))
     (d_NetD_initD_1 : ∀ (S : Setting) (u0 : Value), PySem.W.peek K S (bindArgs (PySem.W.fnOf "__init__" "Net.__init__" (zB zaF) (zA zaF) (zg zaF) .none kV2 dc2 pm2 an2 cd2 ct2) ⟨[u0], []⟩) = some ([("self", u0)] : List (Str × Value)))
     (d_Net_house_2 : ∀ (S : Setting) (u0 u1 : Value), PySem.W.peek K S (bindArgs (PySem.W.fnOf "house" "Net.house" (zB zaR) (zA zaR) (zg zaR) .none kV27 dc27 pm27 an27 cd27 ct27) ⟨[u0, u1], []⟩) = some ([("self", u0), ("name", u1)] : List (Str × Value)))
     (d_Net_gate_2 : ∀ (S : Setting) (u0 u1 : Value), PySem.W.peek K S (bindArgs (PySem.W.fnOf "gate" "Net.gate" (zB za6) (zA za6) (zg za6) .none kV28 dc28 pm28 an28 cd28 ct28) ⟨[u0, u1], []⟩) = some ([("self", u0), ("name", u1)] : List (Str × Value)))
     (d_Net_line_4_wire : ∀ (S : Setting) (u0 u1 u2 u3 w0 : Value), PySem.W.peek K S (bindArgs (PySem.W.fnOf "line" "Net.line" (zB za9) (zA za9) (zg za9) .none kV24 dc24 pm24 an24 cd24 ct24) ⟨[u0, u1, u2, u3], [("wire", w0)]⟩) = some ([("self", u0), ("name", u1), ("senders", u2), ("ears", u3), ("wire", w0)] : List (Str × Value)))
     (d_Net_drop_2 : ∀ (S : Setting) (u0 u1 : Value), PySem.W.peek K S (bindArgs (PySem.W.fnOf "drop" "Net.drop" (zB za8) (zA za8) (zg za8) .none kV15 dc15 pm15 an15 cd15 ct15) ⟨[u0, u1], []⟩) = some ([("self", u0), ("name", u1)] : List (Str × Value)))
     (d_Net_kind_2 : ∀ (S : Setting) (u0 u1 : Value), PySem.W.peek K S (bindArgs (PySem.W.fnOf "kind" "Net.kind" (zB zbg) (zA zbg) (zg zbg) .none kV4 dc4 pm4 an4 cd4 ct4) ⟨[u0, u1], []⟩) = some ([("self", u0), ("name", u1)] : List (Str × Value)))
     (d_Net_check_unused_2 : ∀ (S : Setting) (u0 u1 : Value), PySem.W.peek K S (bindArgs (PySem.W.fnOf "check_unused" "Net.check_unused" (zB zU) (zA zU) (zg zU) .none kV8 dc8 pm8 an8 cd8 ct8) ⟨[u0, u1], []⟩) = some ([("self", u0), ("node", u1)] : List (Str × Value)))
     (d_Net_check_new_2 : ∀ (S : Setting) (u0 u1 : Value), PySem.W.peek K S (bindArgs (PySem.W.fnOf "check_new" "Net.check_new" (zB zac) (zA zac) (zg zac) .none kV22 dc22 pm22 an22 cd22 ct22) ⟨[u0, u1], []⟩) = some ([("self", u0), ("name", u1)] : List (Str × Value)))
     (d_Net_check_nodes_2 : ∀ (S : Setting) (u0 u1 : Value), PySem.W.peek K S (bindArgs (PySem.W.fnOf "check_nodes" "Net.check_nodes" (zB z7) (zA z7) (zg z7) .none kV7 dc7 pm7 an7 cd7 ct7) ⟨[u0, u1], []⟩) = some ([("self", u0), ("ends", u1)] : List (Str × Value)))
     (d_Net_put_node_3 : ∀ (S : Setting) (u0 u1 u2 : Value), PySem.W.peek K S (bindArgs (PySem.W.fnOf "put_node" "Net.put_node" (zB zaq) (zA zaq) (zg zaq) .none kV25 dc25 pm25 an25 cd25 ct25) ⟨[u0, u1, u2], []⟩) = some ([("self", u0), ("name", u1), ("kind", u2)] : List (Str × Value)))
    : ∃ fd : FuncData, (∀ (s : Shared) (v : Value), BindsTo s fd ⟨[v], []⟩ [("_law_script", v)]) /\ ∀ base : Heap, K.In base -> base.Ns mainGlobals mg -> zas l.prog w K mg base CX0 8 fa fd ["_law_script"] (zl3 K) := by
  have e := hfa.symm.trans (PySem.W.mg_of X G a33)
  cases e
  have B : Blt mg := ⟨PySem.W.mg_none_of X G z_len, PySem.W.mg_none_of X G z_abs, PySem.W.mg_none_of X G z_max, PySem.W.mg_none_of X G z_min, PySem.W.mg_none_of X G z_all, PySem.W.mg_none_of X G z_any, PySem.W.mg_none_of X G z_sum, PySem.W.mg_none_of X G z_sorted, PySem.W.mg_none_of X G z_isinstance, PySem.W.mg_none_of X G z_list, PySem.W.mg_none_of X G z_tuple, PySem.W.mg_none_of X G z_int, PySem.W.mg_none_of X G z_bool, PySem.W.mg_none_of X G z_str, PySem.W.mg_none_of X G z_set, PySem.W.mg_none_of X G z_dict, PySem.W.mg_none_of X G z_zip, PySem.W.mg_none_of X G z_range, PySem.W.mg_none_of X G z_enumerate, PySem.W.mg_none_of X G z_reversed, PySem.W.mg_none_of X G z_repr⟩
  have cl_Net : Cls K C_Net := ⟨pg_Net, hd_Net, po_Net, sa_Net⟩
  haveI tk : TabOk K tab := zlQ (zaA a_Net) cl_Net (List.forall_mem_cons.mpr ⟨na_Net_kinds, List.forall_mem_cons.mpr ⟨na_Net_lines, List.forall_mem_nil _⟩⟩) (zno)
  haveI ic_Net : zoc K "Net" C_Net := ⟨zaA a_Net⟩
  haveI ii_Net : IsI K "Net" := ⟨C_Net, zaA a_Net, ⟨cl_Net, i1_Net, i2_Net, i3_Net, i4_Net, i5_Net, i6_Net, i7_Net⟩⟩
  have F0 := z9 (x := "is_made_of") (qual := "is_made_of") (st := zbD) l0 c0 k0
  have F1 := z9 (x := "is_number") (qual := "is_number") (st := zbY) l1 c1 k1
  have F2 := z9 (x := "__init__") (qual := "Net.__init__") (st := zaF) l2 c2 k2
  have F3 := z9 (x := "names") (qual := "Net.names") (st := zaS) l3 c3 k3
  have F4 := z9 (x := "kind") (qual := "Net.kind") (st := zbg) l4 c4 k4
  have F5 := z9 (x := "__len__") (qual := "Net.__len__") (st := zbV) l5 c5 k5
  have F6 := z9 (x := "__eq__") (qual := "Net.__eq__") (st := zci) l6 c6 k6
  have F7 := z9 (x := "check_nodes") (qual := "Net.check_nodes") (st := z7) l7 c7 k7
  have F8 := z9 (x := "check_unused") (qual := "Net.check_unused") (st := zU) l8 c8 k8
  have F9 := z9 (x := "check_ends") (qual := "check_ends") (st := zbE) l9 c9 k9
  have F10 := z9 (x := "_law_start") (qual := "_law_start") (st := zb1) l10 c10 k10
  have F11 := z9 (x := "_law_draw") (qual := "_law_draw") (st := zcn) l11 c11 k11
  have F12 := z9 (x := "_law_need") (qual := "_law_need") (st := zcq) l12 c12 k12
  have F13 := z9 (x := "is_name") (qual := "is_name") (st := zcU) l13 c13 k13
  have F14 := z9 (x := "check_whole") (qual := "check_whole") (st := zbl) l14 c14 k14
  have F15 := z9 (x := "drop") (qual := "Net.drop") (st := za8) l15 c15 k15
  have F16 := z9 (x := "_law_pick") (qual := "_law_pick") (st := zcs) l16 c16 k16
  have F17 := z9 (x := "_law_name") (qual := "_law_name") (st := zcp) l17 c17 k17
  have F18 := z9 (x := "check_name") (qual := "check_name") (st := zbF) l18 c18 k18
  have F19 := z9 (x := "check_number") (qual := "check_number") (st := za2) l19 c19 k19
  have F20 := z9 (x := "twin") (qual := "Net.twin") (st := zbb) l20 c20 k20
  have F21 := z9 (x := "_law_hop") (qual := "_law_hop") (st := zcX) l21 c21 k21
  have F22 := z9 (x := "check_new") (qual := "Net.check_new") (st := zac) l22 c22 k22
  have F23 := z9 (x := "_law_way") (qual := "_law_way") (st := zc1) l23 c23 k23
  have F24 := z9 (x := "line") (qual := "Net.line") (st := za9) l24 c24 k24
  have F25 := z9 (x := "put_node") (qual := "Net.put_node") (st := zaq) l25 c25 k25
  have F26 := z9 (x := "_law_row") (qual := "_law_row") (st := zc0) l26 c26 k26
  have F27 := z9 (x := "house") (qual := "Net.house") (st := zaR) l27 c27 k27
  have F28 := z9 (x := "gate") (qual := "Net.gate") (st := za6) l28 c28 k28
  have F29 := z9 (x := "_law_world") (qual := "_law_world") (st := zb0) l29 c29 k29
  have F30 := z9 (x := "_law_net") (qual := "_law_net") (st := zcY) l30 c30 k30
  have F31 := z9 (x := "_law_other") (qual := "_law_other") (st := zbX) l31 c31 k31
  have F32 := z9 (x := "_law_change") (qual := "_law_change") (st := zbC) l32 c32 k32
  have F33 := z9 (x := "law") (qual := "law") (st := ze8) l33 c33 k33
  refine ⟨PySem.W.fnOf "law" "law" (zB ze8) (zA ze8) (zg ze8) .none kV33 dc33 pm33 an33 cd33 ct33, fun s v => .of_eq rfl, fun base _ _ => ?_⟩
  have b0 := F0.binds (ps := ["text", "signs", "most"]) fun _ _ _ _ _ _ us hl => match us, hl with | [_, _, _], _ => rfl
  have h_is_made_of : Has l.prog w K mg base CX0 "is_made_of" 1 ["text", "signs", "most"] (lift K zcb) := ⟨_, _, zhJ F0 B , b0, k0, PySem.W.mg_of X G a0⟩
  have b1 := F1.binds (ps := ["thing"]) fun _ _ _ _ _ _ us hl => match us, hl with | [_], _ => rfl
  have h_is_number : Has l.prog w K mg base CX0 "is_number" 1 ["thing"] (lift K zbH) := ⟨_, _, ziS F1 B , b1, k1, PySem.W.mg_of X G a1⟩
  have hM_NetD_initD_1 : zke l.prog w K mg base CX0 "Net" 1 ["self"] (lift K zal) [] (sel 1 0 [.p 0] .non []) := ⟨⟨C_Net, _, _, sel 1 0 [.p 0] .none [], zaA a_Net, ⟨mk_Net, a2, n2, kp_Net⟩, zhM F2 B , zcO .nil (by decide) (fun S us ws h1 h2 => match us, ws, h1, h2 with | [u0], [], _, _ => d_NetD_initD_1 S u0), PySem.W.mg_of X G a_Net⟩⟩
  have hT_Net_names_1 : zaJ l.prog w K mg base CX0 "Net" "names" 1 ["self"] (lift K zaH) [] (sel 1 0 [.p 0] .non []) := ⟨⟨C_Net, _, _, sel 1 0 [.p 0] .none [], zaA a_Net, cl_Net, ⟨a3, n3, k3⟩, ziG F3 B , zcO .nil (by decide) (fun S us ws h1 h2 => match us, ws, h1, h2 with | [u0], [], _, _ => d_Net_names_1 S u0)⟩⟩
  have hT_Net_kind_2 : zaJ l.prog w K mg base CX0 "Net" "kind" 1 ["self", "name"] (lift K zb3) [] (sel 2 0 [.p 0, .p 1] .non []) := ⟨⟨C_Net, _, _, sel 2 0 [.p 0, .p 1] .none [], zaA a_Net, cl_Net, ⟨a4, n4, k4⟩, zkk F4 B , zcO .nil (by decide) (fun S us ws h1 h2 => match us, ws, h1, h2 with | [u0, u1], [], _, _ => d_Net_kind_2 S u0 u1)⟩⟩
  have b5 := F5.binds (ps := ["self"]) fun _ _ _ _ _ _ us hl => match us, hl with | [_], _ => rfl
  have hL_Net : zol l.prog w K mg base CX0 "Net" 1 ["self"] (lift K zbR) := ⟨C_Net, _, _, zaA a_Net, ziE F5 B , b5, a5, n5⟩
  have b6 := F6.binds (ps := ["self", "other"]) fun _ _ _ _ _ _ us hl => match us, hl with | [_, _], _ => rfl
  have hE_Net : zk8 l.prog w K mg base CX0 "Net" 1 ["self", "other"] (lift K zH) := ⟨C_Net, zaA a_Net, ⟨_, _, zkC F6 B (PySem.W.mg_of X G a_Net), b6, a6, n6⟩, nf1_Net, nf2_Net⟩
  have hT_Net_check_nodes_2 : zaJ l.prog w K mg base CX0 "Net" "check_nodes" 1 ["self", "ends"] (lift K zar) [] (sel 2 0 [.p 0, .p 1] .non []) := ⟨⟨C_Net, _, _, sel 2 0 [.p 0, .p 1] .none [], zaA a_Net, cl_Net, ⟨a7, n7, k7⟩, zeD F7 B , zcO .nil (by decide) (fun S us ws h1 h2 => match us, ws, h1, h2 with | [u0, u1], [], _, _ => d_Net_check_nodes_2 S u0 u1)⟩⟩
  have hT_Net_check_unused_2 : zaJ l.prog w K mg base CX0 "Net" "check_unused" 1 ["self", "node"] (lift K zaQ) [] (sel 2 0 [.p 0, .p 1] .non []) := ⟨⟨C_Net, _, _, sel 2 0 [.p 0, .p 1] .none [], zaA a_Net, cl_Net, ⟨a8, n8, k8⟩, zek F8 B , zcO .nil (by decide) (fun S us ws h1 h2 => match us, ws, h1, h2 with | [u0, u1], [], _, _ => d_Net_check_unused_2 S u0 u1)⟩⟩
  have b9 := F9.binds (ps := ["ends"]) fun _ _ _ _ _ _ us hl => match us, hl with | [_], _ => rfl
  have h_check_ends : Has l.prog w K mg base CX0 "check_ends" 1 ["ends"] (lift K zaX) := ⟨_, _, zhK F9 B (PySem.W.mg_of X G g_MOST_ENDS) (zc8 v_MOST_ENDS), b9, k9, PySem.W.mg_of X G a9⟩
  have b10 := F10.binds (ps := ["_law_script"]) fun _ _ _ _ _ _ us hl => match us, hl with | [_], _ => rfl
  have h_law_start : Has l.prog w K mg base CX0 "_law_start" 1 ["_law_script"] (zfa K) := ⟨_, _, zpf F10 B, b10, k10, PySem.W.mg_of X G a10⟩
  have b11 := F11.binds (ps := ["_law_s", "_law_many"]) fun _ _ _ _ _ _ us hl => match us, hl with | [_, _], _ => rfl
  have h_law_draw : Has l.prog w K mg base CX0 "_law_draw" 1 ["_law_s", "_law_many"] zb9 := ⟨_, _, zqF F11 B, b11, k11, PySem.W.mg_of X G a11⟩
  have b12 := F12.binds (ps := ["_law_row_here", "_law_lines", "_law_the_slack"]) fun _ _ _ _ _ _ us hl => match us, hl with | [_, _, _], _ => rfl
  have h_law_need : Has l.prog w K mg base CX0 "_law_need" 1 ["_law_row_here", "_law_lines", "_law_the_slack"] (lift K zb4) := ⟨_, _, zkc F12 B , b12, k12, PySem.W.mg_of X G a12⟩
  have b13 := F13.binds (ps := ["text"]) fun _ _ _ _ _ _ us hl => match us, hl with | [_], _ => rfl
  have h_is_name : Has l.prog w K mg base CX0 "is_name" 2 ["text"] (lift K zcA) := ⟨_, _, zlC F13 B h_is_made_of (PySem.W.mg_of X G g_LETTERS) (zlf v_LETTERS) (PySem.W.mg_of X G g_MOST_LETTERS) (zc8 v_MOST_LETTERS), b13, k13, PySem.W.mg_of X G a13⟩
  have b14 := F14.binds (ps := ["thing"]) fun _ _ _ _ _ _ us hl => match us, hl with | [_], _ => rfl
  have h_check_whole : Has l.prog w K mg base CX0 "check_whole" 2 ["thing"] (lift K zbi) := ⟨_, _, zgS F14 B h_is_number, b14, k14, PySem.W.mg_of X G a14⟩
  have hT_Net_drop_2 : zaJ l.prog w K mg base CX0 "Net" "drop" 2 ["self", "name"] (lift K zb6) [] (sel 2 0 [.p 0, .p 1] .non []) := ⟨⟨C_Net, _, _, sel 2 0 [.p 0, .p 1] .none [], zaA a_Net, cl_Net, ⟨a15, n15, k15⟩, zj0 F15 B hT_Net_kind_2 hT_Net_check_unused_2, zcO .nil (by decide) (fun S us ws h1 h2 => match us, ws, h1, h2 with | [u0, u1], [], _, _ => d_Net_drop_2 S u0 u1)⟩⟩
  have b16 := F16.binds (ps := ["_law_s", "_law_row_here"]) fun _ _ _ _ _ _ us hl => match us, hl with | [_, _], _ => rfl
  have h_law_pick : Has l.prog w K mg base CX0 "_law_pick" 2 ["_law_s", "_law_row_here"] (lift K zay) := ⟨_, _, zjP F16 B h_law_draw, b16, k16, PySem.W.mg_of X G a16⟩
  have b17 := F17.binds (ps := ["_law_s", "_law_names"]) fun _ _ _ _ _ _ us hl => match us, hl with | [_, _], _ => rfl
  have h_law_name : Has l.prog w K mg base CX0 "_law_name" 2 ["_law_s", "_law_names"] (lift K z6) := ⟨_, _, zjZ F17 B h_law_draw, b17, k17, PySem.W.mg_of X G a17⟩
  have b18 := F18.binds (ps := ["text"]) fun _ _ _ _ _ _ us hl => match us, hl with | [_], _ => rfl
  have h_check_name : Has l.prog w K mg base CX0 "check_name" 3 ["text"] (lift K zbz) := ⟨_, _, zhA F18 B h_is_name, b18, k18, PySem.W.mg_of X G a18⟩
  have b19 := F19.binds (ps := ["number", "least", "most"]) fun _ _ _ _ _ _ us hl => match us, hl with | [_, _, _], _ => rfl
  have h_check_number : Has l.prog w K mg base CX0 "check_number" 3 ["number", "least", "most"] (lift K zaW) := ⟨_, _, zgd F19 B h_check_whole, b19, k19, PySem.W.mg_of X G a19⟩
  have hT_Net_twin_1 : zaJ l.prog w K mg base CX0 "Net" "twin" 3 ["self"] (lift K zb5) [] (sel 1 0 [.p 0] .non []) := ⟨⟨C_Net, _, _, sel 1 0 [.p 0] .none [], zaA a_Net, cl_Net, ⟨a20, n20, k20⟩, zj8 F20 B hM_NetD_initD_1, zcO .nil (by decide) (fun S us ws h1 h2 => match us, ws, h1, h2 with | [u0], [], _, _ => d_Net_twin_1 S u0)⟩⟩
  have b21 := F21.binds (ps := ["_law_s", "_law_names", "_law_lines", "_law_one", "_law_two", "_law_barred"]) fun _ _ _ _ _ _ us hl => match us, hl with | [_, _, _, _, _, _], _ => rfl
  have h_law_hop : Has l.prog w K mg base CX0 "_law_hop" 3 ["_law_s", "_law_names", "_law_lines", "_law_one", "_law_two", "_law_barred"] (lift K zb2) := ⟨_, _, zlh F21 B h_law_draw h_law_pick h_law_name, b21, k21, PySem.W.mg_of X G a21⟩
  have hT_Net_check_new_2 : zaJ l.prog w K mg base CX0 "Net" "check_new" 4 ["self", "name"] (lift K zan) [] (sel 2 0 [.p 0, .p 1] .non []) := ⟨⟨C_Net, _, _, sel 2 0 [.p 0, .p 1] .none [], zaA a_Net, cl_Net, ⟨a22, n22, k22⟩, zfx F22 B h_check_name, zcO .nil (by decide) (fun S us ws h1 h2 => match us, ws, h1, h2 with | [u0, u1], [], _, _ => d_Net_check_new_2 S u0 u1)⟩⟩
  have b23 := F23.binds (ps := ["_law_s", "_law_names", "_law_lines", "_law_gates", "_law_first", "_law_the_last", "_law_barred"]) fun _ _ _ _ _ _ us hl => match us, hl with | [_, _, _, _, _, _, _], _ => rfl
  have h_law_way : Has l.prog w K mg base CX0 "_law_way" 4 ["_law_s", "_law_names", "_law_lines", "_law_gates", "_law_first", "_law_the_last", "_law_barred"] (lift K zbW) := ⟨_, _, zlp F23 B h_law_draw h_law_pick h_law_hop, b23, k23, PySem.W.mg_of X G a23⟩
  have hT_Net_line_4_wire : zaJ l.prog w K mg base CX0 "Net" "line" 5 ["self", "name", "senders", "ears", "wire"] (lift K zaz) ["wire"] (sel 4 1 [.p 0, .p 1, .p 2, .p 3, .k 0] .non []) := ⟨⟨C_Net, _, _, sel 4 1 [.p 0, .p 1, .p 2, .p 3, .k 0] .none [], zaA a_Net, cl_Net, ⟨a24, n24, k24⟩, zkP F24 B h_check_ends h_check_number hT_Net_check_new_2 hT_Net_check_nodes_2 (PySem.W.mg_of X G g_MOST_LINES) (zc8 v_MOST_LINES) (PySem.W.mg_of X G g_MOST_WIRE) (zc8 v_MOST_WIRE), zcO .nil (by decide) (fun S us ws h1 h2 => match us, ws, h1, h2 with | [u0, u1, u2, u3], [w0], _, _ => d_Net_line_4_wire S u0 u1 u2 u3 w0)⟩⟩
  have hT_Net_put_node_3 : zaJ l.prog w K mg base CX0 "Net" "put_node" 5 ["self", "name", "kind"] (lift K zax) [] (sel 3 0 [.p 0, .p 1, .p 2] .non []) := ⟨⟨C_Net, _, _, sel 3 0 [.p 0, .p 1, .p 2] .none [], zaA a_Net, cl_Net, ⟨a25, n25, k25⟩, zf5 F25 B hT_Net_check_new_2 (PySem.W.mg_of X G g_MOST_NODES) (zc8 v_MOST_NODES), zcO .nil (by decide) (fun S us ws h1 h2 => match us, ws, h1, h2 with | [u0, u1, u2], [], _, _ => d_Net_put_node_3 S u0 u1 u2)⟩⟩
  have b26 := F26.binds (ps := ["_law_s", "_law_names", "_law_lines", "_law_houses", "_law_gates", "_law_the_slack"]) fun _ _ _ _ _ _ us hl => match us, hl with | [_, _, _, _, _, _], _ => rfl
  have h_law_row : Has l.prog w K mg base CX0 "_law_row" 5 ["_law_s", "_law_names", "_law_lines", "_law_houses", "_law_gates", "_law_the_slack"] (lift K zcD) := ⟨_, _, zlo F26 B h_law_draw h_law_need h_law_name h_law_way, b26, k26, PySem.W.mg_of X G a26⟩
  have hT_Net_house_2 : zaJ l.prog w K mg base CX0 "Net" "house" 6 ["self", "name"] (lift K zak) [] (sel 2 0 [.p 0, .p 1] .non []) := ⟨⟨C_Net, _, _, sel 2 0 [.p 0, .p 1] .none [], zaA a_Net, cl_Net, ⟨a27, n27, k27⟩, zjl F27 B hT_Net_put_node_3, zcO .nil (by decide) (fun S us ws h1 h2 => match us, ws, h1, h2 with | [u0, u1], [], _, _ => d_Net_house_2 S u0 u1)⟩⟩
  have hT_Net_gate_2 : zaJ l.prog w K mg base CX0 "Net" "gate" 6 ["self", "name"] (lift K zaG) [] (sel 2 0 [.p 0, .p 1] .non []) := ⟨⟨C_Net, _, _, sel 2 0 [.p 0, .p 1] .none [], zaA a_Net, cl_Net, ⟨a28, n28, k28⟩, zjX F28 B hT_Net_put_node_3, zcO .nil (by decide) (fun S us ws h1 h2 => match us, ws, h1, h2 with | [u0, u1], [], _, _ => d_Net_gate_2 S u0 u1)⟩⟩
  have b29 := F29.binds (ps := ["_law_s", "_law_the_most"]) fun _ _ _ _ _ _ us hl => match us, hl with | [_, _], _ => rfl
  have h_law_world : Has l.prog w K mg base CX0 "_law_world" 6 ["_law_s", "_law_the_most"] (lift K zbP) := ⟨_, _, zjo F29 B h_law_draw h_law_name h_law_row, b29, k29, PySem.W.mg_of X G a29⟩
  have b30 := F30.binds (ps := ["_law_world_here"]) fun _ _ _ _ _ _ us hl => match us, hl with | [_], _ => rfl
  have h_law_net : Has l.prog w K mg base CX0 "_law_net" 7 ["_law_world_here"] (lift K zcC) := ⟨_, _, zk2 F30 B hM_NetD_initD_1 hT_Net_house_2 hT_Net_gate_2 hT_Net_line_4_wire, b30, k30, PySem.W.mg_of X G a30⟩
  have b31 := F31.binds (ps := ["_law_world_here"]) fun _ _ _ _ _ _ us hl => match us, hl with | [_], _ => rfl
  have h_law_other : Has l.prog w K mg base CX0 "_law_other" 7 ["_law_world_here"] (lift K zbS) := ⟨_, _, ziv F31 B hM_NetD_initD_1 hT_Net_house_2 hT_Net_gate_2 hT_Net_line_4_wire, b31, k31, PySem.W.mg_of X G a31⟩
  have b32 := F32.binds (ps := ["_law_s", "_law_world_here", "_law_net_here"]) fun _ _ _ _ _ _ us hl => match us, hl with | [_, _, _], _ => rfl
  have h_law_change : Has l.prog w K mg base CX0 "_law_change" 7 ["_law_s", "_law_world_here", "_law_net_here"] (lift K zaY) := ⟨_, _, zhC F32 B h_law_draw h_law_pick h_law_name hT_Net_house_2 hT_Net_gate_2 hT_Net_line_4_wire hT_Net_drop_2, b32, k32, PySem.W.mg_of X G a32⟩
  exact (zsB F33 B h_law_start h_law_draw h_law_world h_law_net h_law_other h_law_change hT_Net_twin_1 hT_Net_names_1 hE_Net hL_Net).imp fun vs H Q E h => zp1 zs1 (zn8 vs H Q E h)
theorem walk {l : PySem.W.OpenLaw} {q : Program} {loose : List Str} {XP : (Str -> Option Value) -> Heap -> Prop} {YP : World -> Heap -> Prop} {d : DefRec} {K : Params -> PySem.W.Frag} (hn : l.most = some 63) (hdf : d.params.defaults = [])
    (hY : ∀ (w : World) (h : Heap), YP w h -> (K w.params).In h)
    (F : ∀ (w : World) (mg : Str -> Option Value) (fa : Addr) (h : Heap), (K w.params).In h -> h.Ns mainGlobals mg -> mg d.name = some (.ref fa) ->
      ∃ fd : FuncData, (∀ (s : Shared) (u : Value), BindsTo s fd ⟨[u], []⟩ [("_law_script", u)]) /\ ∀ base : Heap, (K w.params).In base -> base.Ns mainGlobals mg -> zas l.prog w (K w.params) mg base CX0 8 fa fd ["_law_script"] (zl3 (K w.params))) :
    PySem.W.WalkO q loose XP YP l.row.toRowW d [] (fun f vs => PySem.call f vs) :=
  L2.zrg (n := 63) (k := 8) (x := "_law_script") (CX := fun _ => CX0) (sp := fun w => zl3 (K w.params)) hn (by decide) hdf ⟨rfl, by decide, by decide, rfl⟩ hY F (fun _ _ a ns hl _ hS => ⟨a, ns, rfl, hS, hl, fun _ => rfl⟩) fun _ _ _ _ _ z => z
end M
open PySem PySem.W PyProof.Rows
set_option maxRecDepth 100000 in
set_option maxHeartbeats 0 in
theorem PySem.Challenge.cw_slotwright_k08_nets_alike_and_twins_holds : PySem.Challenge.rw_slotwright_k08_nets_alike_and_twins.Holds := by
  refine H0.hd0 ?_
  k_fill
  refine M.walk (l := PySem.Challenge.rw_slotwright_k08_nets_alike_and_twins) rfl rfl (fun w h Y => PySem.W.kIn_of Y) ?F
  case F =>
    intro w mg fa h KX G hmg
    refine' M.zum KX G hmg ?a_Net ?pg_Net ?hd_Net ?po_Net ?sa_Net ?mk_Net ?kp_Net ?na_Net_kinds ?na_Net_lines ?a0 ?l0 ?c0 ?k0 ?a1 ?l1 ?c1 ?k1 ?a2 ?n2 ?l2 ?c2 ?k2 ?a3 ?n3 ?l3 ?c3 ?k3 ?a4 ?n4 ?l4 ?c4 ?k4 ?a5 ?n5 ?l5 ?c5 ?k5 ?a6 ?n6 ?l6 ?c6 ?k6 ?a7 ?n7 ?l7 ?c7 ?k7 ?a8 ?n8 ?l8 ?c8 ?k8 ?a9 ?l9 ?c9 ?k9 ?a10 ?l10 ?c10 ?k10 ?a11 ?l11 ?c11 ?k11 ?a12 ?l12 ?c12 ?k12 ?a13 ?l13 ?c13 ?k13 ?a14 ?l14 ?c14 ?k14 ?a15 ?n15 ?l15 ?c15 ?k15 ?a16 ?l16 ?c16 ?k16 ?a17 ?l17 ?c17 ?k17 ?a18 ?l18 ?c18 ?k18 ?a19 ?l19 ?c19 ?k19 ?a20 ?n20 ?l20 ?c20 ?k20 ?a21 ?l21 ?c21 ?k21 ?a22 ?n22 ?l22 ?c22 ?k22 ?a23 ?l23 ?c23 ?k23 ?a24 ?n24 ?l24 ?c24 ?k24 ?a25 ?n25 ?l25 ?c25 ?k25 ?a26 ?l26 ?c26 ?k26 ?a27 ?n27 ?l27 ?c27 ?k27 ?a28 ?n28 ?l28 ?c28 ?k28 ?a29 ?l29 ?c29 ?k29 ?a30 ?l30 ?c30 ?k30 ?a31 ?l31 ?c31 ?k31 ?a32 ?l32 ?c32 ?k32 ?a33 ?l33 ?c33 ?k33 ?z_len ?z_abs ?z_max ?z_min ?z_all ?z_any ?z_sum ?z_sorted ?z_isinstance ?z_list ?z_tuple ?z_int ?z_bool ?z_str ?z_set ?z_dict ?z_zip ?z_range ?z_enumerate ?z_reversed ?z_repr ?g_MOST_LINES ?v_MOST_LINES ?g_MOST_WIRE ?v_MOST_WIRE ?g_LETTERS ?v_LETTERS ?g_MOST_LETTERS ?v_MOST_LETTERS ?g_MOST_ENDS ?v_MOST_ENDS ?g_MOST_NODES ?v_MOST_NODES ?i1_Net ?i2_Net ?i3_Net ?i4_Net ?i5_Net ?i6_Net ?i7_Net ?nf1_Net ?nf2_Net ?d_Net_twin_1 ?d_Net_names_1 ?d_NetD_initD_1 ?d_Net_house_2 ?d_Net_gate_2 ?d_Net_line_4_wire ?d_Net_drop_2 ?d_Net_kind_2 ?d_Net_check_unused_2 ?d_Net_check_new_2 ?d_Net_check_nodes_2 ?d_Net_put_node_3
    (case a_Net => k_is)
    (case pg_Net => k_is)
    (case hd_Net => k_is)
    (case po_Net => k_is)
    (case sa_Net => k_is)
    (case mk_Net => k_is)
    (case kp_Net => k_is)
    (case na_Net_kinds => k_is)
    (case na_Net_lines => k_is)
    (case a0 => k_is)
    (case l0 => k_is)
    (case c0 => k_is)
    (case k0 => k_is)
    (case a1 => k_is)
    (case l1 => k_is)
    (case c1 => k_is)
    (case k1 => k_is)
    (case a2 => k_is)
    (case n2 => k_is)
    (case l2 => k_is)
    (case c2 => k_is)
    (case k2 => k_is)
    (case a3 => k_is)
    (case n3 => k_is)
    (case l3 => k_is)
    (case c3 => k_is)
    (case k3 => k_is)
    (case a4 => k_is)
    (case n4 => k_is)
    (case l4 => k_is)
    (case c4 => k_is)
    (case k4 => k_is)
    (case a5 => k_is)
    (case n5 => k_is)
    (case l5 => k_is)
    (case c5 => k_is)
    (case k5 => k_is)
    (case a6 => k_is)
    (case n6 => k_is)
    (case l6 => k_is)
    (case c6 => k_is)
    (case k6 => k_is)
    (case a7 => k_is)
    (case n7 => k_is)
    (case l7 => k_is)
    (case c7 => k_is)
    (case k7 => k_is)
    (case a8 => k_is)
    (case n8 => k_is)
    (case l8 => k_is)
    (case c8 => k_is)
    (case k8 => k_is)
    (case a9 => k_is)
    (case l9 => k_is)
    (case c9 => k_is)
    (case k9 => k_is)
    (case a10 => k_is)
    (case l10 => k_is)
    (case c10 => k_is)
    (case k10 => k_is)
    (case a11 => k_is)
    (case l11 => k_is)
    (case c11 => k_is)
    (case k11 => k_is)
    (case a12 => k_is)
    (case l12 => k_is)
    (case c12 => k_is)
    (case k12 => k_is)
    (case a13 => k_is)
    (case l13 => k_is)
    (case c13 => k_is)
    (case k13 => k_is)
    (case a14 => k_is)
    (case l14 => k_is)
    (case c14 => k_is)
    (case k14 => k_is)
    (case a15 => k_is)
    (case n15 => k_is)
    (case l15 => k_is)
    (case c15 => k_is)
    (case k15 => k_is)
    (case a16 => k_is)
    (case l16 => k_is)
    (case c16 => k_is)
    (case k16 => k_is)
    (case a17 => k_is)
    (case l17 => k_is)
    (case c17 => k_is)
    (case k17 => k_is)
    (case a18 => k_is)
    (case l18 => k_is)
    (case c18 => k_is)
    (case k18 => k_is)
    (case a19 => k_is)
    (case l19 => k_is)
    (case c19 => k_is)
    (case k19 => k_is)
    (case a20 => k_is)
    (case n20 => k_is)
    (case l20 => k_is)
    (case c20 => k_is)
    (case k20 => k_is)
    (case a21 => k_is)
    (case l21 => k_is)
    (case c21 => k_is)
    (case k21 => k_is)
    (case a22 => k_is)
    (case n22 => k_is)
    (case l22 => k_is)
    (case c22 => k_is)
    (case k22 => k_is)
    (case a23 => k_is)
    (case l23 => k_is)
    (case c23 => k_is)
    (case k23 => k_is)
    (case a24 => k_is)
    (case n24 => k_is)
    (case l24 => k_is)
    (case c24 => k_is)
    (case k24 => k_is)
    (case a25 => k_is)
    (case n25 => k_is)
    (case l25 => k_is)
    (case c25 => k_is)
    (case k25 => k_is)
    (case a26 => k_is)
    (case l26 => k_is)
    (case c26 => k_is)
    (case k26 => k_is)
    (case a27 => k_is)
    (case n27 => k_is)
    (case l27 => k_is)
    (case c27 => k_is)
    (case k27 => k_is)
    (case a28 => k_is)
    (case n28 => k_is)
    (case l28 => k_is)
    (case c28 => k_is)
    (case k28 => k_is)
    (case a29 => k_is)
    (case l29 => k_is)
    (case c29 => k_is)
    (case k29 => k_is)
    (case a30 => k_is)
    (case l30 => k_is)
    (case c30 => k_is)
    (case k30 => k_is)
    (case a31 => k_is)
    (case l31 => k_is)
    (case c31 => k_is)
    (case k31 => k_is)
    (case a32 => k_is)
    (case l32 => k_is)
    (case c32 => k_is)
    (case k32 => k_is)
    (case a33 => k_is)
    (case l33 => k_is)
    (case c33 => k_is)
    (case k33 => k_is)
    (case z_len => k_is)
    (case z_abs => k_is)
    (case z_max => k_is)
    (case z_min => k_is)
    (case z_all => k_is)
    (case z_any => k_is)
    (case z_sum => k_is)
    (case z_sorted => k_is)
    (case z_isinstance => k_is)
    (case z_list => k_is)
    (case z_tuple => k_is)
    (case z_int => k_is)
    (case z_bool => k_is)
    (case z_str => k_is)
    (case z_set => k_is)
    (case z_dict => k_is)
    (case z_zip => k_is)
    (case z_range => k_is)
    (case z_enumerate => k_is)
    (case z_reversed => k_is)
    (case z_repr => k_is)
    (case g_MOST_LINES => k_is)
    (case v_MOST_LINES => rfl)
    (case g_MOST_WIRE => k_is)
    (case v_MOST_WIRE => rfl)
    (case g_LETTERS => k_is)
    (case v_LETTERS => rfl)
    (case g_MOST_LETTERS => k_is)
    (case v_MOST_LETTERS => rfl)
    (case g_MOST_ENDS => k_is)
    (case v_MOST_ENDS => rfl)
    (case g_MOST_NODES => k_is)
    (case v_MOST_NODES => rfl)
    (case i1_Net => k_is)
    (case i2_Net => k_is)
    (case i3_Net => k_is)
    (case i4_Net => k_is)
    (case i5_Net => kit_is)
    (case i6_Net => kit_is)
    (case i7_Net => kit_is)
    (case nf1_Net => k_is)
    (case nf2_Net => k_is)
    (case d_Net_twin_1 => intro S u0; with_unfolding_all rfl)
    (case d_Net_names_1 => intro S u0; with_unfolding_all rfl)
    (case d_NetD_initD_1 => intro S u0; with_unfolding_all rfl)
    (case d_Net_house_2 => intro S u0 u1; with_unfolding_all rfl)
    (case d_Net_gate_2 => intro S u0 u1; with_unfolding_all rfl)
    (case d_Net_line_4_wire => intro S u0 u1 u2 u3 w0; with_unfolding_all rfl)
    (case d_Net_drop_2 => intro S u0 u1; with_unfolding_all rfl)
    (case d_Net_kind_2 => intro S u0 u1; with_unfolding_all rfl)
    (case d_Net_check_unused_2 => intro S u0 u1; with_unfolding_all rfl)
    (case d_Net_check_new_2 => intro S u0 u1; with_unfolding_all rfl)
    (case d_Net_check_nodes_2 => intro S u0 u1; with_unfolding_all rfl)
    (case d_Net_put_node_3 => intro S u0 u1 u2; with_unfolding_all rfl)

