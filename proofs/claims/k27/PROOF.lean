import PyProof.Rows.All
import Wide.All
import OpenK.AllK
import Wide.FinOn
import Lean
import PyProof.EqAt
import PyProof.EqKinds
import PyProof.TupleCall
import PyProof.P3In
import PyProof.DictCompW
import PyProof.Rows.ReprR
import PyProof.ReprLen
import PySem.Challenge.RW_slotwright_k27_table_told
set_option Elab.async false
namespace H0
open PySem PySem.W PyProof.Rows

/-- the top, run over a heap that is a tree -/
def topT (tb : String → Option Builtin) (p : Program) (w : World) (n0 : Nat) (ann : Option Value) : Nat → SharedT → Thread → Option SharedT
  | 0, _, _ => none
  | n + 1, s, t => match through t with
    | true => some s
    | false => match stepOk n0 ann t with
      | false => none
      | true => match stepT (denote tb) p w s t with
        | some (s', t') => topT tb p w n0 ann n s' t'
        | none => none
theorem topT_run {tb : String → Option Builtin} {p : Program} {w : World} {n0 : Nat} {ann : Option Value} : ∀ {n : Nat} {s s' : SharedT} {t : Thread}, topT tb p w n0 ann n s t = some s' → topRun tb p w n0 ann n s.abs t = some s'.abs := by
  intro n
  induction n with
  | zero => intro s s' t h; cases h
  | succ n ih =>
    intro s s' t h
    unfold topT at h
    unfold topRun
    cases ht : through t with
    | true => rw [ht] at h; cases h; rfl
    | false =>
      rw [ht] at h
      cases hk : stepOk n0 ann t with
      | false => rw [hk] at h; cases h
      | true =>
        rw [hk] at h
        cases hs : stepT (denote tb) p w s t with
        | none => rw [hs] at h; cases h
        | some r => obtain ⟨s2, t2⟩ := r; rw [hs] at h; dsimp only; rw [stepT_spec hs]; exact ih h
def treeOf : List Obj → BT → Nat → BT
  | [], t, _ => t
  | o :: r, t, n => treeOf r (t.ins n o) (n + 1)
def looksAt (p : Program) (h0 : Heap) (s : Shared) : Bool := staticsOk (importedModules p.main.body) h0 s.heap && namesBound p s.heap && gensDone s && laidKept h0 s.heap
noncomputable def st0 (m0 : Nat) (w : World) (os : OsState) : SharedT := ⟨treeOf (boot_heap w.params).objs.toList .nil 0, m0, (boot_heap w.params).life, Array.mk [], boot_drawn, boot_toks, os⟩
theorem left_tree {p q : Program} {loose : List Str} {Xt : Shared → Bool} {α : Type} {Yf : Shared → α} {Ya : World → α} {N : Nat} {g0 : Bool} {m0 : Nat} {ann : Option Value}
    (open_ : ∀ w : World, (fencedOpening treeTable p w N).map (fun s => (s.heap, s.gens, s.drawn, s.toks)) = some (boot_heap w.params, Array.mk [], boot_drawn, boot_toks))
    (tree : ∀ w : World, absHeap (treeOf (boot_heap w.params).objs.toList .nil 0) m0 (boot_heap w.params).life = boot_heap w.params)
    (size : ∀ w : World, ((boot_heap w.params).isNs mainGlobals, (boot_heap w.params).objs.size, (boot_heap w.params).nsMap mainGlobals "__annotations__") = (true, m0, ann))
    (runA : ∀ (w : World) (os : OsState), (topT treeTable p w m0 ann N (st0 m0 w os) (topStub p)).map (fun s => (looksAt p (boot_heap w.params) s.abs, (openSeen q loose (importedModules p.main.body) Xt g0 s.abs).1, (openSeen q loose (importedModules p.main.body) Xt g0 s.abs).2.1, (openSeen q loose (importedModules p.main.body) Xt g0 s.abs).2.2.1)) = some (true, (openGood q loose).1, (openGood q loose).2.1, (openGood q loose).2.2.1))
    (runB : ∀ (w : World) (os : OsState), (topT treeTable p w m0 ann N (st0 m0 w os) (topStub p)).map (fun s => (openSeen q loose (importedModules p.main.body) Xt g0 s.abs).2.2.2) = some (openGood q loose).2.2.2)
    (runC : ∀ (w : World) (os : OsState), (topT treeTable p w m0 ann N (st0 m0 w os) (topStub p)).map (fun s => Yf s.abs) = some (Ya w)) :
    LeftO p q loose Xt Yf Ya N g0 := fun w => by
  obtain ⟨⟨h, gs, d, k, os⟩, e, e'⟩ := Option.map_eq_some_iff.mp (open_ w)
  obtain ⟨rfl, rfl, rfl, rfl⟩ : h = boot_heap w.params ∧ gs = Array.mk [] ∧ d = boot_drawn ∧ k = boot_toks := by simpa using e'
  obtain ⟨z1, z2, z3⟩ : _ ∧ _ ∧ _ := by simpa only [Prod.mk.injEq] using size w
  obtain ⟨s, r, la⟩ := Option.map_eq_some_iff.mp (runA w os)
  obtain ⟨s1, r1, lb⟩ := Option.map_eq_some_iff.mp (runB w os)
  obtain ⟨s2, r2, lc⟩ := Option.map_eq_some_iff.mp (runC w os)
  have q1 : s = s1 := Option.some.inj (r.symm.trans r1)
  have q2 : s = s2 := Option.some.inj (r.symm.trans r2)
  subst q1 q2
  obtain ⟨l1, a1, a2, a3⟩ : _ ∧ _ ∧ _ ∧ _ := by simpa only [Prod.mk.injEq] using la
  unfold looksAt at l1
  have l2 : openSeen q loose (importedModules p.main.body) Xt g0 s.abs = openGood q loose := Prod.ext a1 (Prod.ext a2 (Prod.ext a3 lb))
  have l3 : Yf s.abs = Ya w := lc
  have r2 := topT_run r
  have r3 : topRun treeTable p w m0 ann N ⟨boot_heap w.params, Array.mk [], boot_drawn, boot_toks, os⟩ (topStub p) = some s.abs := by
    rw [← r2]
    show _ = topRun treeTable p w m0 ann N ⟨absHeap (treeOf (boot_heap w.params).objs.toList .nil 0) m0 (boot_heap w.params).life, Array.mk [], boot_drawn, boot_toks, os⟩ (topStub p)
    rw [tree w]
  have z4 : ((boot_heap w.params).isNs mainGlobals && (Array.mk [] : Array GenState).size == 0) = true := by rw [z1]; rfl
  have t : topFrom treeTable p w N ⟨boot_heap w.params, Array.mk [], boot_drawn, boot_toks, os⟩ = some s.abs := by
    unfold topFrom
    dsimp only
    rw [z4, z2, z3, r3]
    show (match staticsOk (importedModules p.main.body) (boot_heap w.params) s.abs.heap && namesBound p s.abs.heap && gensDone s.abs && laidKept (boot_heap w.params) s.abs.heap with | true => _ | false => _) = _
    rw [l1]
  unfold openEnds
  rw [e]
  show (topFrom treeTable p w N _).map _ = _
  rw [t]
  exact congrArg some (Prod.ext l2 l3)
def bootSize : Nat := 11
def bootAnn : Option Value := some (.ref 6)
theorem boot_tree : ∀ w : World, absHeap (treeOf (boot_heap w.params).objs.toList .nil 0) bootSize (boot_heap w.params).life = boot_heap w.params := fun w => by kernel_rfl
theorem boot_size : ∀ w : World, ((boot_heap w.params).isNs mainGlobals, (boot_heap w.params).objs.size, (boot_heap w.params).nsMap mainGlobals "__annotations__") = (true, bootSize, bootAnn) := fun w => by kernel_rfl
def view0 : Program := { PySem.Challenge.pw_slotwright_k27_table_told with main := { PySem.Challenge.pw_slotwright_k27_table_told.main with body := [PySem.Challenge.pw_slotwright_k27_table_told.main.body.getD 1 (.Pass ⟨0, 0, 0, 0⟩), PySem.Challenge.pw_slotwright_k27_table_told.main.body.getD 2 (.Pass ⟨0, 0, 0, 0⟩), PySem.Challenge.pw_slotwright_k27_table_told.main.body.getD 4 (.Pass ⟨0, 0, 0, 0⟩), PySem.Challenge.pw_slotwright_k27_table_told.main.body.getD 6 (.Pass ⟨0, 0, 0, 0⟩), PySem.Challenge.pw_slotwright_k27_table_told.main.body.getD 8 (.Pass ⟨0, 0, 0, 0⟩), PySem.Challenge.pw_slotwright_k27_table_told.main.body.getD 9 (.Pass ⟨0, 0, 0, 0⟩), PySem.Challenge.pw_slotwright_k27_table_told.main.body.getD 10 (.Pass ⟨0, 0, 0, 0⟩), PySem.Challenge.pw_slotwright_k27_table_told.main.body.getD 11 (.Pass ⟨0, 0, 0, 0⟩), PySem.Challenge.pw_slotwright_k27_table_told.main.body.getD 12 (.Pass ⟨0, 0, 0, 0⟩), PySem.Challenge.pw_slotwright_k27_table_told.main.body.getD 13 (.Pass ⟨0, 0, 0, 0⟩)] } }
set_option maxRecDepth 100000
set_option maxHeartbeats 0
theorem runA (w : World) (os : OsState) : (topT treeTable PySem.Challenge.pw_slotwright_k27_table_told w bootSize bootAnn 2210 (st0 bootSize w os) (topStub PySem.Challenge.pw_slotwright_k27_table_told)).map (fun s => (looksAt PySem.Challenge.pw_slotwright_k27_table_told (boot_heap w.params) s.abs, (openSeen view0 [Str.ofString "Table"] (importedModules PySem.Challenge.pw_slotwright_k27_table_told.main.body) (fun s => xlAt view0 [] s && recOk (RowW.records (PySem.Challenge.rw_slotwright_k27_table_told.row.toRowW)) s) true s.abs).1, (openSeen view0 [Str.ofString "Table"] (importedModules PySem.Challenge.pw_slotwright_k27_table_told.main.body) (fun s => xlAt view0 [] s && recOk (RowW.records (PySem.Challenge.rw_slotwright_k27_table_told.row.toRowW)) s) true s.abs).2.1, (openSeen view0 [Str.ofString "Table"] (importedModules PySem.Challenge.pw_slotwright_k27_table_told.main.body) (fun s => xlAt view0 [] s && recOk (RowW.records (PySem.Challenge.rw_slotwright_k27_table_told.row.toRowW)) s) true s.abs).2.2.1)) = some (true, (openGood view0 [Str.ofString "Table"]).1, (openGood view0 [Str.ofString "Table"]).2.1, (openGood view0 [Str.ofString "Table"]).2.2.1) := by rewrite [PySem.W.Fast.te14364793385576792824]; kernel_rfl
theorem runB (w : World) (os : OsState) : (topT treeTable PySem.Challenge.pw_slotwright_k27_table_told w bootSize bootAnn 2210 (st0 bootSize w os) (topStub PySem.Challenge.pw_slotwright_k27_table_told)).map (fun s => (openSeen view0 [Str.ofString "Table"] (importedModules PySem.Challenge.pw_slotwright_k27_table_told.main.body) (fun s => xlAt view0 [] s && recOk (RowW.records (PySem.Challenge.rw_slotwright_k27_table_told.row.toRowW)) s) true s.abs).2.2.2) = some (openGood view0 [Str.ofString "Table"]).2.2.2 := by rewrite [PySem.W.Fast.te14364793385576792824]; kernel_rfl
local macro_rules | `(tactic| o_head $H) => `(tactic| (refine holds_open (q := view0) (loose := [Str.ofString "Table"]) (Xt := fun s => xlAt view0 [] s && recOk (RowW.records (PySem.Challenge.rw_slotwright_k27_table_told.row.toRowW)) s) (XP := XL view0 []) (Yf := Hook.obs $H) (Ya := Hook.val $H) (YP := Hook.says $H) (N := 2210) ?hl (Hook.of $H) (Hook.keeps $H) (fun s e => xl_of s (Bool.and_eq_true_iff.mp e).1) XL.keeps (by rfl) (by rfl) (by rfl) (fun s e => recFacts_of (Bool.and_eq_true_iff.mp e).2) (by rfl) (by first | assumption | decide +kernel) (by decide +kernel) ⟨rfl, rfl, rfl, rfl, rfl, by decide +kernel⟩ ?hw ?hc; (case hl => exact left_tree (m0 := bootSize) (ann := bootAnn) (boot_open (by kernel_rfl) (by decide +kernel) (fun s => by kernel_rfl)) boot_tree boot_size runA runB (fun w os => by rewrite [PySem.W.Fast.te14364793385576792824]; kernel_rfl))))
set_option maxRecDepth 100000
set_option maxHeartbeats 0
open_top hd0 for PySem.Challenge.rw_slotwright_k27_table_told
end H0
set_option Elab.async false
set_option linter.all false
set_option maxRecDepth 100000
namespace L2
open PySem PySem.Spec PyProof.Rows

abbrev Key := Sum Int Str
def keyIs : Key -> Value -> Bool
  | .inl k, v => Value.isInt k v
  | .inr x, v => Value.isStrOf x v
def keyH (w : World) : Key -> Int
  | .inl k => hashInt k
  | .inr x => hashStr w x
theorem keyIs_shape : ∀ {k : Key} {v : Value}, keyIs k v = true -> (∃ i t, k = Sum.inl i /\ v = Value.int i t) \/ (∃ x t, k = Sum.inr x /\ v = Value.str x t)
  | .inl i, v, h => by
    obtain ⟨t, e⟩ := Value.isInt_shape (k := i) (v := v) h
    exact .inl ⟨i, t, rfl, e⟩
  | .inr x, v, h => by
    obtain ⟨t, e⟩ := Value.isStrOf_shape (x := x) (v := v) h
    exact .inr ⟨x, t, rfl, e⟩
theorem keyIs_int (i : Int) (t : Tok) : keyIs (.inl i) (.int i t) = true := by simp [keyIs, Value.isInt]
theorem keyIs_str (x : Str) (t : Tok) : keyIs (.inr x) (.str x t) = true := by simp [keyIs, Value.isStrOf]
theorem key_ll (a b : Int) : decide ((Sum.inl a : Key) = Sum.inl b) = (a == b) := by
  by_cases e : a = b
  . subst e; simp
  . have h : ¬ (Sum.inl a : Key) = Sum.inl b := fun q => e (Sum.inl.inj q)
    rw [decide_eq_false h]
    exact (beq_eq_false_iff_ne.mpr e).symm
theorem key_rr (a b : Str) : decide ((Sum.inr a : Key) = Sum.inr b) = decide (a = b) := by
  by_cases e : a = b
  . subst e; simp
  . have h : ¬ (Sum.inr a : Key) = Sum.inr b := fun q => e (Sum.inr.inj q)
    rw [decide_eq_false h, decide_eq_false e]
theorem key_lr (a : Int) (b : Str) : decide ((Sum.inl a : Key) = Sum.inr b) = false := decide_eq_false (fun q => nomatch q)
theorem key_rl (a : Str) (b : Int) : decide ((Sum.inr a : Key) = Sum.inl b) = false := decide_eq_false (fun q => nomatch q)

def mixKind (prog : Program) (w : World) : PySem.KeyKind prog w Key where
  is := keyIs
  hash := keyH w
  inj := fun v a b ha hb => by
    rcases keyIs_shape ha with ⟨i, t, rfl, rfl⟩ | ⟨x, t, rfl, rfl⟩
    . rcases keyIs_shape hb with ⟨j, u, rfl, e⟩ | ⟨y, u, rfl, e⟩
      . injection e with e1 _; rw [e1]
      . exact nomatch e
    . rcases keyIs_shape hb with ⟨j, u, rfl, e⟩ | ⟨y, u, rfl, e⟩
      . exact nomatch e
      . injection e with e1 _; rw [e1]
  byValue := fun k v h => by
    rcases keyIs_shape h with ⟨i, t, rfl, rfl⟩ | ⟨x, t, rfl, rfl⟩ <;> rfl
  pyHash := fun hv h => by
    rcases keyIs_shape hv with ⟨i, t, rfl, rfl⟩ | ⟨x, t, rfl, rfl⟩
    . exact wpAny_pyHash_int h
    . exact wpAny_pyHash_str h
  eqBool := fun hu hv h => by
    rcases keyIs_shape hu with ⟨i, t, rfl, rfl⟩ | ⟨x, t, rfl, rfl⟩
    . rcases keyIs_shape hv with ⟨j, u, rfl, rfl⟩ | ⟨y, u, rfl, rfl⟩
      . rw [key_ll] at h; exact wpAny_eqBool_int h
      . rw [key_lr] at h; exact SeqAt.EqAt.int_str i t y u _ _ _ _ h
    . rcases keyIs_shape hv with ⟨j, u, rfl, rfl⟩ | ⟨y, u, rfl, rfl⟩
      . rw [key_rl] at h; exact SeqAt.EqAt.str_int x t j u _ _ _ _ h
      . rw [key_rr] at h; exact wpAny_eqBool_str h
  «strs» := fun k x t v h => by
    rcases keyIs_shape h with ⟨i, u, rfl, e⟩ | ⟨y, u, rfl, e⟩
    . exact nomatch e
    . injection e with e1 _
      subst e1
      cases v <;> rfl

theorem mixKind_int (prog : Program) (w : World) (i : Int) (t : Tok) : (mixKind prog w).is (.inl i) (.int i t) = true := keyIs_int i t
theorem mixKind_str (prog : Program) (w : World) (x : Str) (t : Tok) : (mixKind prog w).is (.inr x) (.str x t) = true := keyIs_str x t
end L2

namespace L2
open PySem PySem.Spec PyProof.Rows

inductive V where
  | non | bl (b : Bool) | int (i : Int) | str (x : Str) | byt (b : Array UInt8) | flt (b : UInt64) | ref (a : Addr) | ty (n : String)
  deriving DecidableEq

def RelV : V -> Value -> Prop
  | .non, u => u = Value.none
  | .bl b, u => u = Value.bool b
  | .int i, u => ∃ t, u = Value.int i t
  | .str x, u => ∃ t, u = Value.str x t
  | .byt b, u => ∃ t, u = Value.bytes b t
  | .flt b, u => ∃ t, u = Value.float b t
  | .ref a, u => u = Value.ref a
  | .ty n, u => u = Value.type n

abbrev Vals : List V -> List Value -> Prop := Paired RelV
theorem Vals.length {xs : List V} {us : List Value} (r : Vals xs us) : xs.length = us.length := Paired.length r
theorem Vals.get : ∀ {xs : List V} {us : List Value} {i : Nat} {x : V}, Vals xs us -> xs[i]? = some x -> ∃ u, us[i]? = some u /\ RelV x u
  | _, _, _, _, .nil, e => by simp at e
  | _, _, 0, _, .cons r _, e => by simp at e; subst e; exact ⟨_, rfl, r⟩
  | _, _, i + 1, x, .cons _ t, e => by
    obtain ⟨u, h1, h2⟩ := Vals.get (i := i) (x := x) t (by simpa using e)
    exact ⟨u, by simpa using h1, h2⟩
theorem Vals.set {x : V} {u : Value} (r : RelV x u) : ∀ {xs : List V} {us : List Value} (i : Nat), Vals xs us -> Vals (xs.set i x) (us.set i u)
  | _, _, _, .nil => .nil
  | _, _, 0, .cons _ t => .cons r t
  | _, _, i + 1, .cons q t => .cons q (Vals.set r i t)
theorem Vals.append : ∀ {xs ys : List V} {us ws : List Value}, Vals xs us -> Vals ys ws -> Vals (xs ++ ys) (us ++ ws)
  | _, _, _, _, .nil, s => s
  | _, _, _, _, .cons r t, s => .cons r (Vals.append t s)
theorem Vals.take : ∀ {xs : List V} {us : List Value} (n : Nat), Vals xs us -> Vals (xs.take n) (us.take n)
  | _, _, 0, _ => .nil
  | _, _, _ + 1, .nil => .nil
  | _, _, n + 1, .cons r t => .cons r (Vals.take n t)
theorem Vals.drop : ∀ {xs : List V} {us : List Value} (n : Nat), Vals xs us -> Vals (xs.drop n) (us.drop n)
  | _, _, 0, r => r
  | _, _, _ + 1, .nil => .nil
  | _, _, n + 1, .cons _ t => Vals.drop n t
def RelO : Option V -> Option Value -> Prop
  | some v, some u => RelV v u
  | none, none => True
  | _, _ => False
def KV {κ : Type} : List (κ × V) -> List (κ × Value) -> Prop := Paired fun (p : κ × V) (q : κ × Value) => p.1 = q.1 /\ RelV p.2 q.2

def kV : Key -> V
  | .inl i => .int i
  | .inr x => .str x

inductive HO where
  | lst (xs : List V)
  | tup (xs : List V)
  | dK (kvs : List (Key × V)) | dT (kvs : List (List Key × V))
  | set (S : Int -> Bool) (n : Nat)
  | ins (C dx : Addr) (fs : List (Str × V))
  | own (x : Addr)
  | xd (fs : List (Str × V))
  | met (f x : Addr)
  | rng (lo hi : Int)
  | frz (o : Obj) (u : HO)
  | tbl (ps : Array Value)
  | ext (φ : Heap -> Prop)

abbrev Hp := Addr -> Option HO
def upd (H : Hp) (a : Addr) (o : HO) : Hp := fun b => if b = a then some o else H b
theorem upd_same {H : Hp} {a : Addr} {o : HO} : upd H a o a = some o := by unfold upd; rw [if_pos rfl]
theorem upd_ne {H : Hp} {a b : Addr} {o : HO} (h : b ≠ a) : upd H a o b = H b := by unfold upd; rw [if_neg h]
theorem ne_of {H : Hp} {a b : Addr} {o u : HO} (h : H a = some o) (h' : H b = some u) (d : o ≠ u) : a ≠ b := by
  intro e; subst e; rw [h] at h'; exact d (Option.some.inj h')
theorem ne_of_none {H : Hp} {a b : Addr} {o : HO} (h : H a = some o) (h' : H b = none) : a ≠ b := by
  intro e; subst e; rw [h] at h'; cases h'

section
variable (P : Program) (w : World)
def ObjOk (H : Hp) (h : Heap) (a : Addr) : HO -> Prop
  | .lst xs => xs.length <= sizeLine /\ ∃ (its : List Value) (n : Nat), Vals xs its /\ h.get? a = some { cls := .type "list", data := .seq its.toArray n }
  | .tup xs => xs.length <= sizeLine /\ ∃ its : List Value, Vals xs its /\ IsTup h a its.toArray
  | .dK kvs => kvs.length <= sizeLine /\ (a == sysModules) = false /\ ∃ vs, KV kvs vs /\ h.DictOf (mixKind P w) a vs
  | .dT kvs => kvs.length <= sizeLine /\ (a == sysModules) = false /\ ∃ xs : List (List Key × Addr × Value),
      Paired (fun (p : List Key × V) (q : List Key × Addr × Value) => p.1 = q.1 /\ H q.2.1 = some (.tup (p.1.map kV)) /\ RelV p.2 q.2.2) kvs xs /\
      ∃ o es ep, h.get? a = some o /\ o.ExactDict /\ o.data = .dict es ep /\ es.toList = xs.map (entryOfKey (tupleKind (mixKind P w))) /\ (xs.map (·.1)).Nodup
  | .set S n => h.SetOf (intKind P w) a S n
  | .ins C dx fs => H dx = some (.own a) /\ fs.length <= 1000 /\ dx ≠ a /\ h.get? a = some (PySem.W.instObj C dx) /\
      ∃ mA, h.Ns1 dx mA /\ (∀ f, RelO (fs.lookup f) (mA f)) /\ PySem.Within mA (fs.map (·.1))
  | .own _ => ∃ o, h.get? a = some o
  | .xd fs => ∃ mA, h.Ns1 a mA /\ ∀ f, RelO (fs.lookup f) (mA f)
  | .rng lo hi => ∃ t u v, h.get? a = some { cls := .type "range", data := .fields #[.int lo t, .int hi u, .int 1 v] }
  | .frz o u => h.get? a = some o /\ ObjOk H h a u
  | .tbl ps => h.get? a = some { cls := .none, data := .fields ps }
  | .met f x => h.get? a = some (PySem.W.methodObj (.ref f) (.ref x))
  | .ext φ => φ h /\ (∃ o, h.get? a = some o) /\ ∀ h1 h2 : Heap, φ h1 -> (∀ o, h1.get? a = some o -> h2.get? a = some o) -> φ h2
def HOk (H : Hp) (h : Heap) : Prop := ∀ a o, H a = some o -> ObjOk P w H h a o
end

section
variable {P : Program} {w : World} {H H' : Hp} {h h' : Heap} {a : Addr} {o : HO}
theorem ObjOk.lt (x : ObjOk P w H h a o) : a < h.objs.size := by
  cases o with
  | lst xs => obtain ⟨_, _, _, _, e⟩ := x; exact Heap.lt_size e
  | tup xs => obtain ⟨_, _, _, p⟩ := x; exact p.lt
  | dK kvs => obtain ⟨_, _, _, _, o, _, _, e, _⟩ := x; exact Heap.lt_size e
  | dT kvs => obtain ⟨_, _, _, _, o, _, _, e, _⟩ := x; exact Heap.lt_size e
  | set S n => obtain ⟨o, _, _, _, e, _⟩ := x; exact Heap.lt_size e
  | ins C dx fs => obtain ⟨_, _, _, e, _⟩ := x; exact Heap.lt_size e
  | own y => obtain ⟨_, e⟩ := x; exact Heap.lt_size e
  | xd fs => obtain ⟨_, ⟨_, _, _, e, _⟩, _⟩ := x; exact Heap.lt_size e
  | rng lo hi => obtain ⟨_, _, _, e⟩ := x; exact Heap.lt_size e
  | frz ob u => obtain ⟨e, _⟩ := x; exact Heap.lt_size e
  | tbl ps => exact Heap.lt_size (show h.get? a = some _ from x)
  | met f y => exact Heap.lt_size (show h.get? a = some _ from x)
  | ext φ => obtain ⟨_, ⟨_, e⟩, _⟩ := x; exact Heap.lt_size e
theorem Paired.mapP {α β : Type} {F G : α -> β -> Prop} : ∀ {l₁ : List α} {l₂ : List β}, Paired F l₁ l₂ -> (∀ a b, F a b -> G a b) -> Paired G l₁ l₂
  | _, _, .nil, _ => .nil
  | _, _, .cons r t, f => .cons (f _ _ r) (Paired.mapP t f)
theorem ObjOk.stay (x : ObjOk P w H h a o) (k : ∀ b u, (b = a \/ H b = some (.own a)) -> h.get? b = some u -> h'.get? b = some u)
    (ho : ∀ b, H b = some (.own a) -> H' b = some (.own a)) (ht : ∀ b xs, H b = some (.tup xs) -> H' b = some (.tup xs)) : ObjOk P w H' h' a o := by
  induction o with
  | lst xs => obtain ⟨z, its, n, r, e⟩ := x; exact ⟨z, its, n, r, k _ _ (.inl rfl) e⟩
  | tup xs => obtain ⟨z, its, r, ob, e, c⟩ := x; exact ⟨z, its, r, ob, k _ _ (.inl rfl) e, c⟩
  | dK kvs => obtain ⟨z, y, vs, r, ob, es, ep, e, c⟩ := x; exact ⟨z, y, vs, r, ob, es, ep, k _ _ (.inl rfl) e, c⟩
  | dT kvs =>
    obtain ⟨z, y, xs, r, ob, es, ep, e, c⟩ := x
    exact ⟨z, y, xs, Paired.mapP r fun p q z => ⟨z.1, ht _ _ z.2.1, z.2.2⟩, ob, es, ep, k _ _ (.inl rfl) e, c⟩
  | set S n => obtain ⟨ob, es, ep, t, e, c⟩ := x; exact ⟨ob, es, ep, t, k _ _ (.inl rfl) e, c⟩
  | ins C dx fs =>
    obtain ⟨d, z, ne, e, mA, ⟨od, es, ep, e2, c⟩, r⟩ := x
    exact ⟨ho _ d, z, ne, k _ _ (.inl rfl) e, mA, ⟨od, es, ep, k _ _ (.inr d) e2, c⟩, r⟩
  | own y => obtain ⟨ob, e⟩ := x; exact ⟨ob, k _ _ (.inl rfl) e⟩
  | xd fs => obtain ⟨mA, ⟨od, es, ep, e, c⟩, r⟩ := x; exact ⟨mA, ⟨od, es, ep, k _ _ (.inl rfl) e, c⟩, r⟩
  | rng lo hi => obtain ⟨t, u, v, e⟩ := x; exact ⟨t, u, v, k _ _ (.inl rfl) e⟩
  | frz ob u ih => obtain ⟨e, q⟩ := x; exact ⟨k _ _ (.inl rfl) e, ih q⟩
  | tbl ps =>
    have e : h.get? a = some { cls := .none, data := .fields ps } := x
    show h'.get? a = some { cls := .none, data := .fields ps }
    exact k a _ (.inl rfl) e
  | met f y =>
    have e : h.get? a = some (PySem.W.methodObj (.ref f) (.ref y)) := x
    show h'.get? a = some (PySem.W.methodObj (.ref f) (.ref y))
    exact k a _ (.inl rfl) e
  | ext φ => obtain ⟨p, ⟨o, e⟩, st⟩ := x; exact ⟨st _ _ p fun o q => k _ _ (.inl rfl) q, ⟨o, k _ _ (.inl rfl) e⟩, st⟩
theorem HOk.lt (x : HOk P w H h) (e : H a = some o) : a < h.objs.size := (x a o e).lt
theorem HOk.fresh (x : HOk P w H h) (e : h.objs.size <= a) : H a = none := by
  cases q : H a with
  | none => rfl
  | some u => exact absurd (Nat.lt_of_lt_of_le (x.lt q) e) (Nat.lt_irrefl _)
theorem HOk.kept (x : HOk P w H h) (k : ∀ b u, h.get? b = some u -> h'.get? b = some u) : HOk P w H h' := fun a o e =>
  (x a o e).stay (fun b u _ q => k b u q) (fun _ q => q) fun _ _ q => q
theorem HOk.laid (x : HOk P w H h) (k : ∀ b u, h.get? b = some u -> h'.get? b = some u) (hp : h.objs.size <= a) (new : ObjOk P w (upd H a o) h' a o) : HOk P w (upd H a o) h' := fun b u e => by
  have hn := x.fresh hp
  by_cases hb : b = a
  . subst hb; rw [upd_same] at e; cases e; exact new
  . rw [upd_ne hb] at e
    exact (x b u e).stay (fun c v _ q => k c v q) (fun c q => by rw [upd_ne (ne_of_none q hn)]; exact q) fun c xs q => by rw [upd_ne (ne_of_none q hn)]; exact q
end

def Rd (H : Hp) (a : Addr) (u : HO) : Prop := H a = some u \/ ∃ o, H a = some (.frz o u)
theorem Rd.ok {P : Program} {w : World} {H : Hp} {h : Heap} {a : Addr} {u : HO} (r : Rd H a u) (x : HOk P w H h) : ObjOk P w H h a u := by
  rcases r with r | ⟨o, r⟩
  . exact x a u r
  . obtain ⟨_, q⟩ := x a _ r
    exact q
def Mut : Option HO -> Prop
  | some (.lst _) => True
  | some (.dK _) => True
  | some (.dT _) => True
  | some (.set _ _) => True
  | some (.ins _ _ _) => True
  | some (.ext _) => True
  | _ => False
section
variable {P : Program} {w : World} {H : Hp} {h h' : Heap} {x e : Addr} {o' : HO}
theorem HOk.write (ok : HOk P w H h) (mu : Mut (H x)) (he : e = x \/ H e = some (.own x)) (k : ∀ b u, b ≠ e -> h.get? b = some u -> h'.get? b = some u) (heo : ∃ u, h'.get? e = some u)
    (new : ObjOk P w (upd H x o') h' x o') : HOk P w (upd H x o') h' := fun b u q => by
  have nown : ∀ c y, H c = some (.own y) -> c ≠ x := fun c y r z => by subst z; rw [r] at mu; exact mu
  have ntup : ∀ c xs, H c = some (.tup xs) -> c ≠ x := fun c xs r z => by subst z; rw [r] at mu; exact mu
  by_cases hb : b = x
  . subst hb; rw [upd_same] at q; cases q; exact new
  . rw [upd_ne hb] at q
    by_cases hbe : b = e
    . have q' : H b = some (.own x) := by
        rcases he with z | z
        . exact absurd (hbe.trans z) hb
        . rw [hbe]; exact z
      rw [q] at q'; cases q'
      obtain ⟨v, hv⟩ := heo
      exact ⟨v, by rw [hbe]; exact hv⟩
    . refine (ok b u q).stay (fun c v hc r => k c v ?_ r) (fun c r => by rw [upd_ne (nown c b r)]; exact r) fun c xs r => by rw [upd_ne (ntup c xs r)]; exact r
      rcases hc with rfl | hc
      . exact hbe
      . rintro rfl
        rcases he with z | z
        . exact nown c b hc z
        . rw [hc] at z; cases z; exact hb rfl
end

structure Un (fs ex : List Addr) (H H' : Hp) (h h' : Heap) : Prop where
  keep : ∀ b o, h.get? b = some o -> H b = none -> b ∉ fs -> b ∉ ex -> h'.get? b = some o
  slot : ∀ b o, h.get? b = some o -> H b = none -> b ∈ fs -> b ∉ ex -> ∃ sl, h'.get? b = some { o with slots := sl }
  free : ∀ b o, h.get? b = some o -> H b = none -> b ∉ ex -> H' b = none
  there : ∀ b o, h.get? b = some o -> b ∉ ex -> ∃ o', h'.get? b = some o'
  tups : ∀ b xs, H b = some (.tup xs) -> H' b = some (.tup xs)
  frzs : ∀ b o u, H b = some (.frz o u) -> H' b = some (.frz o u)
  tbls : ∀ b ps, H b = some (.tbl ps) -> ∃ more, H' b = some (.tbl (ps ++ more))
section
variable {fs fs' ex ex' : List Addr} {H H1 H2 : Hp} {h h1 h2 h' : Heap} {a x e : Addr} {o : HO}
theorem Un.any (u : Un fs ex H H1 h h1) {b : Addr} {ob : Obj} (q : h.get? b = some ob) (n : H b = none) (hx : b ∉ ex) : ∃ sl, h1.get? b = some { ob with slots := sl } := by
  by_cases hb : b ∈ fs
  . exact u.slot b ob q n hb hx
  . exact ⟨ob.slots, u.keep b ob q n hb hx⟩
theorem Un.kept (k : ∀ b u, h.get? b = some u -> h'.get? b = some u) : Un fs ex H H h h' :=
  ⟨fun b ob q _ _ _ => k b ob q, fun b ob q _ _ _ => ⟨ob.slots, k b ob q⟩, fun _ _ _ n _ => n, fun b ob q _ => ⟨ob, k b ob q⟩, fun _ _ q => q, fun _ _ _ q => q, fun _ ps q => ⟨#[], by rw [q]; simp⟩⟩
theorem Un.refl : Un fs ex H H h h := Un.kept fun _ _ q => q
theorem Un.laid (k : ∀ b u, h.get? b = some u -> h'.get? b = some u) (hp : h.objs.size <= a) (hn : H a = none) : Un fs ex H (upd H a o) h h' where
  keep := fun b u q _ _ _ => k b u q
  slot := fun b u q _ _ _ => ⟨u.slots, k b u q⟩
  free := fun b u q n _ => by rw [upd_ne (Nat.ne_of_lt (Nat.lt_of_lt_of_le (Heap.lt_size q) hp))]; exact n
  there := fun b u q _ => ⟨u, k b u q⟩
  tups := fun b xs q => by rw [upd_ne (ne_of_none q hn)]; exact q
  frzs := fun b u xs q => by rw [upd_ne (ne_of_none q hn)]; exact q
  tbls := fun b ps q => ⟨#[], by rw [upd_ne (ne_of_none q hn), q]; simp⟩
theorem Un.write (mu : Mut (H x)) (he : e = x \/ H e = some (.own x)) (k : ∀ b u, b ≠ e -> h.get? b = some u -> h'.get? b = some u) (heo : ∃ u, h'.get? e = some u) : Un fs ex H (upd H x o) h h' := by
  have hx : ∀ b, H b = none -> b ≠ x := fun b n z => by subst z; rw [n] at mu; exact mu
  have hb : ∀ b, H b = none -> b ≠ e := fun b n z => by
    subst z
    rcases he with r | r
    . exact hx b n r
    . rw [n] at r; cases r
  have hm : ∀ b u, H b = some u -> ¬ Mut (some u) -> b ≠ x := fun b u q nm z => by subst z; rw [q] at mu; exact nm mu
  refine ⟨fun b u q n _ _ => k b u (hb b n) q, fun b u q n _ _ => ⟨u.slots, k b u (hb b n) q⟩, fun b u q n _ => by rw [upd_ne (hx b n)]; exact n, fun b u q _ => ?_,
    fun b xs q => by rw [upd_ne (hm b _ q fun z => z)]; exact q, fun b u xs q => by rw [upd_ne (hm b _ q fun z => z)]; exact q, fun b ps q => ⟨#[], by rw [upd_ne (hm b _ q fun z => z), q]; simp⟩⟩
  by_cases hbe : b = e
  . subst hbe; exact heo
  . exact ⟨u, k b u hbe q⟩
end

def trk (h : Heap) (H : Hp) : List Addr := (List.range h.objs.size).filter fun a => (H a).isSome
def hidT (h : Heap) (H : Hp) : Heap := PySem.W.hideAll h (trk h H)
theorem hidT_size (h : Heap) (H : Hp) : (hidT h H).objs.size = h.objs.size := PySem.W.hideAll_size _ _
theorem hidT_get {h : Heap} {H : Hp} {b : Addr} {o : Obj} (e : h.get? b = some o) (n : H b = none) : (hidT h H).get? b = some o :=
  PySem.W.hideAll_get _ e fun hm => by
    have q : (H b).isSome = true := (List.mem_filter.mp hm).2
    rw [n] at q; simp at q
theorem of_hidT {h : Heap} {H : Hp} {b : Addr} {o : Obj} (e : (hidT h H).get? b = some o) : h.get? b = some o /\ H b = none := by
  have e' : h.get? b = some o := PySem.W.of_hideAll (trk h H) e
  refine ⟨e', ?_⟩
  cases q : H b with
  | none => rfl
  | some x =>
    have hm : b ∈ trk h H := List.mem_filter.mpr ⟨List.mem_range.mpr (Heap.lt_size e'), by simp [q]⟩
    have z : (hidT h H).get? b = none := PySem.W.hideAll_none (trk h H) hm
    rw [z] at e; cases e

def allNews (g h : Heap) (L : Addr) : List (Addr × Obj) := (List.range h.objs.size).filterMap fun a => if a = L \/ (g.get? a).isSome = true then none else (h.get? a).map fun o => (a, o)
def rest (g h : Heap) (L d : Addr) : List (Addr × Obj) := (allNews g h L).filter fun p => decide (p.1 ≠ d)
end L2

namespace L2
open PySem PySem.Spec PyProof.Rows

structure Mod (K : PySem.W.Frag) (mg : Str -> Option Value) (base : Heap) : Prop where
  kin : K.In base
  glob : base.Ns mainGlobals mg
  blt : ∃ mb, base.Ns builtinsNs mb /\ ∀ x : Str, x ≠ "__name__" -> mb x = bootBuiltins x
  nolimit : base.NoLimit

structure Cx where
  prog : Program
  w : World
  K : PySem.W.Frag
  mg : Str -> Option Value
  base : Heap
  A : Around
  N : List Str
  s₀ : Shared
  H₀ : Hp
  env : Env
  outer : List Env
  stack : List Env
  ex : List Addr
  fn : Str -> Bool
  calm : Bool
  pn : List (Addr × Obj)
  xe : Value -> Shared -> Prop
def frs (l : List Env) : List Addr := l.filterMap (·.frame)
abbrev Cx.fs (X : Cx) : List Addr := frs X.outer

def Vis (sc : Scope) (x : Str) : Prop := sc.names.lookup x = some .local \/ sc.names.lookup x = some .cell \/ sc.names.lookup x = some .free
def Loc (sc : Scope) (x : Str) : Prop := sc.names.lookup x = some .local \/ sc.names.lookup x = some .cell
def Look (env : Env) (h : Heap) (m : Str -> Option Value) (x : Str) (u : Value) : Prop :=
  (env.kindOf x = some .local /\ m x = some u) \/ ((env.kindOf x = some .cell \/ env.kindOf x = some .free) /\ ∃ c, env.cells.lookup x = some c /\ h.IsCell c (some u))

structure Cx.Ok (X : Cx) : Prop where
  mod : Mod X.K X.mg X.base
  kind : X.env.scope.kind = .function
  glob : X.env.globals = mainGlobals
  blt : X.env.builtins = builtinsNs
  above : X.s₀.heap.objs.size <= X.env.locals
  inj : ∀ x y c, X.env.cells.lookup x = some c -> X.env.cells.lookup y = some c -> x = y
  has : ∀ x, (X.env.kindOf x = some .cell \/ X.env.kindOf x = some .free) -> ∃ c, X.env.cells.lookup x = some c
  cab : ∀ x c, X.fn x = true -> X.env.cells.lookup x = some c -> X.s₀.heap.objs.size <= c
  hd : X.calm = true -> X.A.handled = none
  frames : X.A.frames = some X.stack
  stk : X.stack = X.outer \/ (X.stack = X.env :: X.outer /\ X.env.frame = some X.env.locals)
  exf : ∀ b ∈ X.ex, b ≠ X.env.locals /\ ∀ x c, X.env.cells.lookup x = some c -> c ≠ b
  bs : ∀ b o, X.base.get? b = some o -> X.s₀.heap.get? b = some o /\ X.H₀ b = none
  bsz : X.base.objs.size <= X.s₀.heap.objs.size
  noex : ∀ b o, X.base.get? b = some o -> b ∉ X.ex
  exfs : ∀ b ∈ X.ex, b ∉ X.fs
  funs : X.s₀.heap.FunFrames X.base X.outer
  frf : ∀ b ∈ X.fs, X.H₀ b = none

structure Inv (X : Cx) (pins : List (Addr × Obj)) (σ : List (Option V)) (H : Hp) (s : Shared) : Prop where
  ok : X.Ok
  os : s.os = X.s₀.os
  bare : AllBare s.gens
  base : Un X.fs X.ex X.H₀ H X.s₀.heap s.heap
  loc : ∃ m, s.heap.Ns X.env.locals m /\ ∀ (i : Nat) (x : Str) (v : V), X.N[i]? = some x -> σ[i]? = some (some v) -> Vis X.env.scope x -> ∃ u, RelV v u /\ Look X.env s.heap m x u
  cell : ∀ x c, X.env.cells.lookup x = some c -> ∃ v, s.heap.IsCell c v
  free : H X.env.locals = none
  freeC : ∀ x c, X.env.cells.lookup x = some c -> H c = none
  pin : ∀ p ∈ X.pn ++ pins, s.heap.get? p.1 = some p.2 /\ H p.1 = none /\ p.1 ≠ X.env.locals /\ p.1 ∉ X.fs /\ ∀ v, p.2.data ≠ .cell v
  hok : HOk X.prog X.w H s.heap
  len : σ.length = X.N.length

section
variable {X : Cx} {pins : List (Addr × Obj)} {σ : List (Option V)} {H H' : Hp} {s : Shared} {h' : Heap}

theorem Cx.Ok.nofr (ok : X.Ok) {b : Addr} {o : Obj} (e : X.base.get? b = some o) : b ∉ X.fs := fun hb => by
  have := (ok.funs.mem hb).1
  rw [e] at this; cases this
theorem Inv.bs (I : Inv X pins σ H s) : ∀ b o, X.base.get? b = some o -> s.heap.get? b = some o /\ H b = none := fun b o e =>
  ⟨I.base.keep b o (I.ok.bs b o e).1 (I.ok.bs b o e).2 (I.ok.nofr e) (I.ok.noex b o e), I.base.free b o (I.ok.bs b o e).1 (I.ok.bs b o e).2 (I.ok.noex b o e)⟩
theorem Inv.bk (I : Inv X pins σ H s) : ∀ b o, X.base.get? b = some o -> s.heap.get? b = some o := fun b o e => (I.bs b o e).1
theorem Inv.mod (I : Inv X pins σ H s) : Mod X.K X.mg X.base := I.ok.mod
theorem Inv.kIn (I : Inv X pins σ H s) : X.K.In s.heap := I.ok.mod.kin.keeps I.bk
theorem Inv.nolimit (I : Inv X pins σ H s) : s.heap.NoLimit := I.ok.mod.nolimit.keeps I.bk
theorem Inv.lt (I : Inv X pins σ H s) : X.env.locals < s.heap.objs.size := let ⟨_, hn, _⟩ := I.loc; hn.lt
theorem Inv.sz (I : Inv X pins σ H s) : X.s₀.heap.objs.size <= s.heap.objs.size := Nat.le_trans I.ok.above (Nat.le_of_lt I.lt)
theorem Inv.nofs (I : Inv X pins σ H s) {a : Addr} (h : s.heap.objs.size <= a) : a ∉ X.fs := fun hb => by
  obtain ⟨_, o, ho, _⟩ := I.ok.funs.mem hb
  exact absurd (Nat.lt_of_lt_of_le (Heap.lt_size ho) (Nat.le_trans I.sz h)) (Nat.lt_irrefl _)
theorem Inv.cne (I : Inv X pins σ H s) : ∀ x c, X.env.cells.lookup x = some c -> c ≠ X.env.locals := fun x c e z => by
  obtain ⟨v, o, ho, hd⟩ := I.cell x c e
  obtain ⟨m, ⟨o', es, ep, ho', hd', _⟩, _⟩ := I.loc
  rw [z, ho'] at ho; cases ho; rw [hd'] at hd; cases hd
theorem Inv.funs (I : Inv X pins σ H s) : s.heap.FunFrames X.base X.outer := by
  have all : ∀ (l : List Env), (∀ b ∈ frs l, b ∈ X.fs) -> X.s₀.heap.FunFrames X.base l -> s.heap.FunFrames X.base l := by
    intro l
    induction l with
    | nil => intro _ _; trivial
    | cons env r ih =>
      intro hs hl
      obtain ⟨hk, ⟨L, o, hf, hn, ho, hd⟩, hr⟩ := hl
      have hL : L ∈ X.fs := hs L (by unfold frs; rw [List.filterMap_cons, hf]; exact List.mem_cons_self)
      obtain ⟨sl, e⟩ := I.base.slot L o ho (I.ok.frf L hL) hL fun z => I.ok.exfs L z hL
      exact ⟨hk, ⟨L, _, hf, hn, e, hd⟩, ih (fun b hb => hs b (by unfold frs; rw [List.filterMap_cons, hf]; exact List.mem_cons_of_mem _ hb)) hr⟩
  exact all X.outer (fun _ hb => hb) I.ok.funs

theorem Inv.stack (I : Inv X pins σ H s) : s.heap.FunFrames X.base X.stack := by
  rcases I.ok.stk with e | ⟨e, hf⟩
  . rw [e]; exact I.funs
  . rw [e]
    obtain ⟨m, hn, _⟩ := I.loc
    refine .cons (by rw [I.ok.kind]; decide) hf hn ?_ I.funs
    exact Heap.get?_none_of_le (Nat.le_trans I.ok.bsz I.ok.above)
theorem Inv.stkSub (I : Inv X pins σ H s) : ∀ b ∈ frs X.stack, b ∈ X.env.locals :: X.fs := fun b hb => by
  rcases I.ok.stk with e | ⟨e, hf⟩
  . rw [e] at hb; exact List.mem_cons_of_mem _ hb
  . rw [e] at hb
    unfold frs at hb
    rw [List.filterMap_cons, hf] at hb
    exact hb
theorem Inv.stkFree (I : Inv X pins σ H s) : ∀ b ∈ frs X.stack, H b = none := fun b hb => by
  rcases List.mem_cons.mp (I.stkSub b hb) with e | hb
  . rw [e]; exact I.free
  . obtain ⟨_, o, ho, _⟩ := I.ok.funs.mem hb
    exact I.base.free b o ho (I.ok.frf b hb) fun z => I.ok.exfs b z hb

theorem Inv.step {g' : Array GenState} {t' : Nat} {d' : Drawn} {ch : List Addr} (I : Inv X pins σ H s)
    (hch : ∀ b ∈ ch, (b ∈ X.ex \/ X.s₀.heap.objs.size <= b) /\ b ≠ X.env.locals /\ (∀ x c, X.env.cells.lookup x = some c -> c ≠ b) /\ ∀ p ∈ X.pn ++ pins, p.1 ≠ b)
    (keep : ∀ b o, b ≠ X.env.locals -> b ∉ X.fs -> b ∉ ch -> s.heap.get? b = some o -> H b = none -> h'.get? b = some o)
    (slot : ∀ b o, b ≠ X.env.locals -> b ∈ X.fs -> b ∉ ch -> s.heap.get? b = some o -> H b = none -> ∃ sl, h'.get? b = some { o with slots := sl }) (free : ∀ b o, b ∉ ch -> s.heap.get? b = some o -> H b = none -> H' b = none)
    (there : ∀ b o, b ∉ ch -> s.heap.get? b = some o -> ∃ o', h'.get? b = some o')
    (tups : ∀ b xs, H b = some (.tup xs) -> H' b = some (.tup xs)) (frzs : ∀ b o u, H b = some (.frz o u) -> H' b = some (.frz o u)) (tbls : ∀ b ps, H b = some (.tbl ps) -> ∃ more, H' b = some (.tbl (ps ++ more)))
    (ns : ∀ m, s.heap.Ns X.env.locals m -> h'.Ns X.env.locals m) (hok : HOk X.prog X.w H' h') (hg : AllBare g') :
    Inv X pins σ H' { s with heap := h', gens := g', drawn := d', toks := t' } := by
  have neL : ∀ b o, X.s₀.heap.get? b = some o -> b ≠ X.env.locals := fun b o e => Nat.ne_of_lt (Nat.lt_of_lt_of_le (Heap.lt_size e) I.ok.above)
  have neC : ∀ b o, X.s₀.heap.get? b = some o -> b ∉ X.ex -> b ∉ ch := fun b o e hx hb => by
    rcases (hch b hb).1 with z | z
    . exact hx z
    . exact absurd (Nat.lt_of_lt_of_le (Heap.lt_size e) z) (Nat.lt_irrefl _)
  have cellK : ∀ x c, X.env.cells.lookup x = some c -> ∀ v, s.heap.IsCell c v -> h'.IsCell c v := fun x c e v ⟨o, ho, hd⟩ => by
    have nch : c ∉ ch := fun z => (hch c z).2.2.1 x c e rfl
    by_cases hc : c ∈ X.fs
    . obtain ⟨sl, q⟩ := slot c o (I.cne x c e) hc nch ho (I.freeC x c e)
      exact ⟨_, q, hd⟩
    . exact ⟨o, keep c o (I.cne x c e) hc nch ho (I.freeC x c e), hd⟩
  refine ⟨I.ok, I.os, hg, ⟨fun b o e n hb hx => ?_, fun b o e n hb hx => ?_, fun b o e n hx => ?_, fun b o e hx => ?_, fun b xs e => tups b xs (I.base.tups b xs e), fun b o xs e => frzs b o xs (I.base.frzs b o xs e), fun b ps e => ?_⟩, ?_, fun x c e => ?_, ?_, fun x c e => ?_, fun p hp => ?_, hok, I.len⟩
  . exact keep b o (neL b o e) hb (neC b o e hx) (I.base.keep b o e n hb hx) (I.base.free b o e n hx)
  . obtain ⟨sl, e1⟩ := I.base.slot b o e n hb hx
    obtain ⟨sl', e2⟩ := slot b _ (neL b o e) hb (neC b o e hx) e1 (I.base.free b o e n hx)
    exact ⟨sl', e2⟩
  . obtain ⟨o', e1⟩ := I.base.there b o e hx
    exact free b o' (neC b o e hx) e1 (I.base.free b o e n hx)
  . obtain ⟨o', e1⟩ := I.base.there b o e hx
    exact there b o' (neC b o e hx) e1
  . obtain ⟨m1, e1⟩ := I.base.tbls b ps e
    obtain ⟨m2, e2⟩ := tbls b _ e1
    exact ⟨m1 ++ m2, by rw [e2, Array.append_assoc]⟩
  . obtain ⟨m, hn, hl⟩ := I.loc
    refine ⟨m, ns m hn, fun i x v e1 e2 e3 => ?_⟩
    obtain ⟨u, r, l⟩ := hl i x v e1 e2 e3
    refine ⟨u, r, ?_⟩
    rcases l with l | ⟨k, c, e, z⟩
    . exact .inl l
    . exact .inr ⟨k, c, e, cellK x c e _ z⟩
  . obtain ⟨v, z⟩ := I.cell x c e
    exact ⟨v, cellK x c e v z⟩
  . obtain ⟨m, ⟨o, _, _, ho, _⟩, _⟩ := I.loc
    exact free _ o (fun z => (hch _ z).2.1 rfl) ho I.free
  . obtain ⟨v, o, ho, hd⟩ := I.cell x c e
    exact free c o (fun z => (hch c z).2.2.1 x c e rfl) ho (I.freeC x c e)
  . obtain ⟨e, n, ne, nf, d⟩ := I.pin p hp
    have nch : p.1 ∉ ch := fun z => (hch p.1 z).2.2.2 p hp rfl
    exact ⟨keep p.1 p.2 ne nf nch e n, free p.1 p.2 nch e n, ne, nf, d⟩
theorem Inv.un {t' : Nat} (I : Inv X pins σ H s) (u : Un X.fs [] H H' s.heap h') (hok : HOk X.prog X.w H' h') : Inv X pins σ H' { s with heap := h', toks := t' } := by
  obtain ⟨m, ⟨o, es, ep, ho, r⟩, _⟩ := id I.loc
  obtain ⟨sl, hL⟩ := u.any ho I.free (by simp)
  exact I.step (g' := s.gens) (d' := s.drawn) (ch := []) (fun _ z => nomatch z) (fun b o _ hb _ e n => u.keep b o e n hb (by simp)) (fun b o _ hb _ e n => u.slot b o e n hb (by simp)) (fun b o _ e n => u.free b o e n (by simp)) (fun b o _ e => u.there b o e (by simp)) u.tups u.frzs u.tbls (fun m' hm => by
    obtain ⟨o', es', ep', ho', r'⟩ := hm
    rw [ho] at ho'; cases ho'
    exact ⟨_, es', ep', hL, r'⟩) hok I.bare
theorem Inv.call {g' : Array GenState} {t' : Nat} {d' : Drawn} {ch : List Addr} (I : Inv X pins σ H s) (u : Un (frs X.stack) ch H H' s.heap h') (hok : HOk X.prog X.w H' h') (hg : AllBare g')
    (hch : ∀ b ∈ ch, (b ∈ X.ex \/ X.s₀.heap.objs.size <= b) /\ b ≠ X.env.locals /\ (∀ x c, X.env.cells.lookup x = some c -> c ≠ b) /\ ∀ p ∈ X.pn ++ pins, p.1 ≠ b) :
    Inv X pins σ H' { s with heap := h', gens := g', drawn := d', toks := t' } := by
  obtain ⟨m, ⟨o, es, ep, ho, r⟩, _⟩ := id I.loc
  obtain ⟨sl, hL⟩ := u.any ho I.free fun z => (hch _ z).2.1 rfl
  exact I.step (ch := ch) hch (fun b o hL hb hc e n => u.keep b o e n (fun z => (List.mem_cons.mp (I.stkSub b z)).elim hL hb) hc) (fun b o _ _ hc e n => u.any e n hc) (fun b o hc e n => u.free b o e n hc) (fun b o hc e => u.there b o e hc) u.tups u.frzs u.tbls (fun m' hm => by
    obtain ⟨o', es', ep', ho', r'⟩ := hm
    rw [ho] at ho'; cases ho'
    exact ⟨_, es', ep', hL, r'⟩) hok hg
theorem Inv.turned {t' : Nat} {it : Addr} (I : Inv X pins σ H s) (k : ∀ b o, b ≠ it -> s.heap.get? b = some o -> h'.get? b = some o) (hn : H it = none) (hL : it ≠ X.env.locals)
    (h1 : it ∈ X.ex \/ X.s₀.heap.objs.size <= it) (h2 : ∀ x c, X.env.cells.lookup x = some c -> c ≠ it) (h3 : ∀ p ∈ X.pn ++ pins, p.1 ≠ it) : Inv X pins σ H { s with heap := h', toks := t' } := by
  have nit : ∀ b u, H b = some u -> b ≠ it := fun b u e z => by rw [z, hn] at e; cases e
  refine I.step (g' := s.gens) (d' := s.drawn) (ch := [it]) (fun b hb => ?_) (fun b o _ _ hc e _ => k b o (fun z => hc (by simp [z])) e) (fun b o _ _ hc e _ => ⟨o.slots, k b o (fun z => hc (by simp [z])) e⟩) (fun _ _ _ _ n => n)
    (fun b o hc e => ⟨o, k b o (fun z => hc (by simp [z])) e⟩) (fun _ _ e => e) (fun _ _ _ e => e) (fun b ps e => ⟨#[], by rw [e]; simp⟩) (fun m hm => ?_) (fun b u e => ?_) I.bare
  . have e : b = it := by simpa using hb
    subst e
    exact ⟨h1, hL, h2, h3⟩
  . obtain ⟨o, es, ep, ho, r⟩ := hm
    exact ⟨o, es, ep, k _ o (Ne.symm hL) ho, r⟩
  . refine (I.hok b u e).stay (fun c v hc q => k c v ?_ q) (fun _ q => q) fun _ _ q => q
    rcases hc with z | z
    . rw [z]; exact nit b u e
    . exact nit c _ z
theorem Inv.tok (I : Inv X pins σ H s) (t : Nat) : Inv X pins σ H { s with toks := t } := I.un (h' := s.heap) (t' := t) Un.refl I.hok
theorem Inv.kept {t' : Nat} (I : Inv X pins σ H s) (k : ∀ b u, s.heap.get? b = some u -> h'.get? b = some u) : Inv X pins σ H { s with heap := h', toks := t' } := I.un (Un.kept k) (I.hok.kept k)
theorem Inv.laid {a : Addr} {o : HO} {t' : Nat} (I : Inv X pins σ H s) (k : ∀ b u, s.heap.get? b = some u -> h'.get? b = some u) (hp : s.heap.objs.size <= a) (new : ObjOk X.prog X.w (upd H a o) h' a o) :
    Inv X pins σ (upd H a o) { s with heap := h', toks := t' } := I.un (Un.laid k hp (I.hok.fresh hp)) (I.hok.laid k hp new)
theorem Inv.write {x e : Addr} {o : HO} {t' : Nat} (I : Inv X pins σ H s) (mu : Mut (H x)) (he : e = x \/ H e = some (.own x)) (k : ∀ b u, b ≠ e -> s.heap.get? b = some u -> h'.get? b = some u) (heo : ∃ u, h'.get? e = some u)
    (new : ObjOk X.prog X.w (upd H x o) h' x o) : Inv X pins σ (upd H x o) { s with heap := h', toks := t' } := I.un (Un.write mu he k heo) (I.hok.write mu he k heo new)
theorem Inv.weak {σ' : List (Option V)} (I : Inv X pins σ H s) (hl : σ'.length = σ.length) (w : ∀ (i : Nat) v, σ'[i]? = some (some v) -> σ[i]? = some (some v)) : Inv X pins σ' H s :=
  ⟨I.ok, I.os, I.bare, I.base, let ⟨m, hn, hl'⟩ := I.loc; ⟨m, hn, fun i x v e1 e2 e3 => hl' i x v e1 (w i v e2) e3⟩, I.cell, I.free, I.freeC, I.pin, I.hok, hl.trans I.len⟩
theorem Inv.pins_of {pins' : List (Addr × Obj)} (I : Inv X pins σ H s) (h : ∀ p ∈ pins', s.heap.get? p.1 = some p.2 /\ H p.1 = none /\ p.1 ≠ X.env.locals /\ p.1 ∉ X.fs /\ ∀ v, p.2.data ≠ .cell v) : Inv X pins' σ H s :=
  ⟨I.ok, I.os, I.bare, I.base, I.loc, I.cell, I.free, I.freeC, fun p hp => (List.mem_append.mp hp).elim (fun z => I.pin p (List.mem_append_left _ z)) (h p), I.hok, I.len⟩

theorem nodup_ix {N : List Str} (hN : N.Nodup) {i j : Nat} {x : Str} (a : N[i]? = some x) (b : N[j]? = some x) : i = j := by
  obtain ⟨h1, e1⟩ := List.getElem?_eq_some_iff.mp a
  obtain ⟨h2, e2⟩ := List.getElem?_eq_some_iff.mp b
  exact (List.getElem_inj hN).mp (e1.trans e2.symm)

theorem store_ok2 {M : Model} {A : Around} {E : Value -> Shared -> Prop} {i : Nat} {x : Str} {v : V} {u : Value} {Q : Unit -> Shared -> Prop} (I : Inv X pins σ H s) (hN : X.N.Nodup) (hi : X.N[i]? = some x) (hx : Loc X.env.scope x) (r : RelV v u)
    (h : ∀ s', Inv X pins (σ.set i (some v)) H s' -> (∃ a, Heap.SameBut a s.heap s'.heap /\ (a = X.env.locals \/ X.env.cells.lookup x = some a)) -> Q () s') (hf : X.fn x = true \/ X.env.scope.names.lookup x = some .local := by first | exact .inl rfl | exact .inr rfl | assumption) : wpAny M A (storeName X.env x u) Q E s := by
  obtain ⟨m, hn, hl⟩ := id I.loc
  have hcls : (X.env.scope.kind == .class || (X.env.scope.kind == .module && X.env.locals != X.env.globals)) = false := by rw [I.ok.kind]; rfl
  have hiσ : i < σ.length := by rw [I.len]; exact (List.getElem?_eq_some_iff.mp hi).1
  have cne := I.cne
  have tracked : ∀ {a : Addr} {h' : Heap}, (∃ o, s.heap.get? a = some o /\ H a = none) -> Heap.SameBut a s.heap h' -> HOk X.prog X.w H h' := fun {a h'} ha hs b ob e => by
    obtain ⟨_, _, hfree⟩ := ha
    refine (I.hok b ob e).stay (fun c w' hc q => (hs.2 c ?_).trans q) (fun _ q => q) fun _ _ q => q
    rintro rfl
    rcases hc with rfl | hc
    . rw [hfree] at e; cases e
    . rw [hfree] at hc; cases hc
  rcases hx with hk | hk
  . refine wpAny_storeName_local hk hn (fun h' hn' hs => ?_) hcls
    obtain ⟨oL, _, _, hoL, _⟩ := id hn
    refine h _ ⟨I.ok, I.os, I.bare, ⟨fun b o e n hb hx => ?_, fun b o e n hb hx => ?_, I.base.free, fun b o e hx => ?_, I.base.tups, I.base.frzs, I.base.tbls⟩, ⟨_, hn', fun j y v' e1 e2 e3 => ?_⟩, fun y c e => ?_, I.free, I.freeC, fun p hp => ?_, tracked ⟨oL, hoL, I.free⟩ hs, by simpa using I.len⟩ ⟨_, hs, .inl rfl⟩
    . exact (hs.2 b (Nat.ne_of_lt (Nat.lt_of_lt_of_le (Heap.lt_size e) I.ok.above))).trans (I.base.keep b o e n hb hx)
    . obtain ⟨sl, e1⟩ := I.base.slot b o e n hb hx
      exact ⟨sl, (hs.2 b (Nat.ne_of_lt (Nat.lt_of_lt_of_le (Heap.lt_size e) I.ok.above))).trans e1⟩
    . obtain ⟨o', e1⟩ := I.base.there b o e hx
      exact ⟨o', (hs.2 b (Nat.ne_of_lt (Nat.lt_of_lt_of_le (Heap.lt_size e) I.ok.above))).trans e1⟩
    . by_cases hj : j = i
      . subst hj
        rw [hi] at e1; cases e1
        rw [List.getElem?_set_self hiσ] at e2
        cases e2
        exact ⟨u, r, .inl ⟨hk, by simp⟩⟩
      . rw [List.getElem?_set_ne (Ne.symm hj)] at e2
        obtain ⟨u', r', q⟩ := hl j y v' e1 e2 e3
        refine ⟨u', r', ?_⟩
        rcases q with ⟨k, e⟩ | ⟨k, c, e, z⟩
        . refine .inl ⟨k, ?_⟩
          have : y ≠ x := fun e => hj (nodup_ix hN e1 (e ▸ hi))
          simp [this, e]
        . exact .inr ⟨k, c, e, z.sameBut hs (cne y c e)⟩
    . obtain ⟨w', z⟩ := I.cell y c e
      exact ⟨w', z.sameBut hs (cne y c e)⟩
    . obtain ⟨e, n, ne, nf, d⟩ := I.pin p hp
      exact ⟨(hs.2 p.1 ne).trans e, n, ne, nf, d⟩
  . have hfn : X.fn x = true := by
      rcases hf with z | z
      . exact z
      . rw [z] at hk; cases hk
    obtain ⟨c, hc⟩ := I.ok.has x (.inl hk)
    obtain ⟨w', z⟩ := I.cell x c hc
    refine wpAny_storeName_cell I.ok.kind hk hc z (fun h' hc' hs => ?_)
    obtain ⟨oc, hoc, hocd⟩ := id z
    refine h { s with heap := h' } ⟨I.ok, I.os, I.bare, ⟨fun b o e n hb hx => ?_, fun b o e n hb hx => ?_, I.base.free, fun b o e hx => ?_, I.base.tups, I.base.frzs, I.base.tbls⟩, ⟨m, hn.sameBut hs (Ne.symm (cne x c hc)), fun j y v' e1 e2 e3 => ?_⟩, fun y c' e => ?_, I.free, I.freeC, fun p hp => ?_, tracked ⟨oc, hoc, I.freeC x c hc⟩ hs, by simpa using I.len⟩ ⟨c, hs, .inr hc⟩
    . exact (hs.2 b (Nat.ne_of_lt (Nat.lt_of_lt_of_le (Heap.lt_size e) (I.ok.cab x c hfn hc)))).trans (I.base.keep b o e n hb hx)
    . obtain ⟨sl, e1⟩ := I.base.slot b o e n hb hx
      exact ⟨sl, (hs.2 b (Nat.ne_of_lt (Nat.lt_of_lt_of_le (Heap.lt_size e) (I.ok.cab x c hfn hc)))).trans e1⟩
    . obtain ⟨o', e1⟩ := I.base.there b o e hx
      exact ⟨o', (hs.2 b (Nat.ne_of_lt (Nat.lt_of_lt_of_le (Heap.lt_size e) (I.ok.cab x c hfn hc)))).trans e1⟩
    . by_cases hj : j = i
      . subst hj
        rw [hi] at e1; cases e1
        rw [List.getElem?_set_self hiσ] at e2
        cases e2
        exact ⟨u, r, .inr ⟨.inl hk, c, hc, hc'⟩⟩
      . rw [List.getElem?_set_ne (Ne.symm hj)] at e2
        obtain ⟨u', r', q⟩ := hl j y v' e1 e2 e3
        refine ⟨u', r', ?_⟩
        rcases q with q | ⟨k, c', e, z'⟩
        . exact .inl q
        . refine .inr ⟨k, c', e, z'.sameBut hs ?_⟩
          rintro rfl
          exact hj (nodup_ix hN e1 (I.ok.inj _ _ _ e hc ▸ hi))
    . by_cases hcc : c' = c
      . subst hcc; exact ⟨_, hc'⟩
      . obtain ⟨w2, z2⟩ := I.cell y c' e
        exact ⟨w2, z2.sameBut hs hcc⟩
    . obtain ⟨e, n, ne, nf, d⟩ := I.pin p hp
      refine ⟨(hs.2 p.1 ?_).trans e, n, ne, nf, d⟩
      intro q
      rw [q, hoc] at e
      have q' : oc = p.2 := Option.some.inj e
      exact d w' (by rw [<- q']; exact hocd)
theorem store_ok {M : Model} {A : Around} {E : Value -> Shared -> Prop} {i : Nat} {x : Str} {v : V} {u : Value} {Q : Unit -> Shared -> Prop} (I : Inv X pins σ H s) (hN : X.N.Nodup) (hi : X.N[i]? = some x) (hx : Loc X.env.scope x) (r : RelV v u)
    (h : ∀ s', Inv X pins (σ.set i (some v)) H s' -> Q () s') (hf : X.fn x = true \/ X.env.scope.names.lookup x = some .local := by first | exact .inl rfl | exact .inr rfl | assumption) : wpAny M A (storeName X.env x u) Q E s :=
  store_ok2 I hN hi hx r (fun s' I' _ => h s' I') hf
theorem Inv.call' {s' : Shared} {ch : List Addr} (I : Inv X pins σ H s) (ho : s'.os = s.os) (u : Un (frs X.stack) ch H H' s.heap s'.heap) (hok : HOk X.prog X.w H' s'.heap) (hg : AllBare s'.gens)
    (hch : ∀ b ∈ ch, (b ∈ X.ex \/ X.s₀.heap.objs.size <= b) /\ b ≠ X.env.locals /\ (∀ x c, X.env.cells.lookup x = some c -> c ≠ b) /\ ∀ p ∈ X.pn ++ pins, p.1 ≠ b) : Inv X pins σ H' s' := by
  obtain ⟨h', g', d', t', o'⟩ := s'
  have e : o' = s.os := ho
  subst e
  exact I.call (g' := g') (t' := t') (d' := d') u hok hg hch
end

abbrev XK := Value -> Option Addr -> Hp -> Prop
abbrev St := List (Option V)
abbrev VK := V -> Hp -> Prop
abbrev TE := St -> Hp -> VK -> Prop
abbrev TT := St -> Hp -> (Bool -> Hp -> Prop) -> Prop
abbrev TA := St -> Hp -> (List V -> Hp -> Prop) -> Prop
structure Ends where
  nx : St -> Hp -> Prop
  rt : VK
  bk : St -> Hp -> Prop := fun _ _ => False
  ct : St -> Hp -> Prop := fun _ _ => False
abbrev TS := Ends -> St -> Hp -> Prop

def EP (X : Cx) (pins : List (Addr × Obj)) (σ : St) (Q : VK) (u : Value) (s' : Shared) : Prop := ∃ v H', Inv X pins σ H' s' /\ RelV v u /\ Q v H'
def TP (X : Cx) (pins : List (Addr × Obj)) (σ : St) (Q : Bool -> Hp -> Prop) (b : Bool) (s' : Shared) : Prop := ∃ H', Inv X pins σ H' s' /\ Q b H'
def AP (X : Cx) (pins : List (Addr × Obj)) (σ : St) (Q : List V -> Hp -> Prop) (us : List Value) (s' : Shared) : Prop := ∃ vs H', Inv X pins σ H' s' /\ Vals vs us /\ Q vs H'
def SP (X : Cx) (pins : List (Addr × Obj)) (D : Ends) (f : Flow) (s' : Shared) : Prop :=
  match f with
  | .next => ∃ σ' H', Inv X pins σ' H' s' /\ D.nx σ' H'
  | .brk => ∃ σ' H', Inv X pins σ' H' s' /\ D.bk σ' H'
  | .cont => ∃ σ' H', Inv X pins σ' H' s' /\ D.ct σ' H'
  | .ret u => ∃ v σ' H', Inv X pins σ' H' s' /\ RelV v u /\ D.rt v H'

def PE (X : Cx) (e : Expr) (t : TE) : Prop :=
  ∀ (pins : List (Addr × Obj)) (s : Shared) (σ : St) (H : Hp) (Q : VK), Inv X pins σ H s -> t σ H Q -> wpAny (model X.prog X.w) X.A (eval e X.env) (EP X pins σ Q) X.xe s
def PT (X : Cx) (e : Expr) (t : TT) : Prop :=
  ∀ (pins : List (Addr × Obj)) (s : Shared) (σ : St) (H : Hp) (Q : Bool -> Hp -> Prop), Inv X pins σ H s -> t σ H Q -> wpAny (model X.prog X.w) X.A (isTrue e X.env (eval e X.env)) (TP X pins σ Q) X.xe s
def PW (X : Cx) (e : Expr) (t : TT) : Prop :=
  ∀ (whole : Sem Value) (pins : List (Addr × Obj)) (s : Shared) (σ : St) (H : Hp) (Q : Bool -> Hp -> Prop), Inv X pins σ H s -> t σ H Q -> wpAny (model X.prog X.w) X.A (isTrue e X.env whole) (TP X pins σ Q) X.xe s
theorem PW.pt {X : Cx} {e : Expr} {t : TT} (h : PW X e t) : PT X e t := h _
def PA (X : Cx) (es : List Expr) (t : TA) : Prop :=
  ∀ (pos : Pos) (pins : List (Addr × Obj)) (s : Shared) (σ : St) (H : Hp) (Q : List V -> Hp -> Prop), Inv X pins σ H s -> t σ H Q -> wpAny (model X.prog X.w) X.A (spliced (backTo pos (starEach es X.env))) (AP X pins σ Q) X.xe s
def PS (X : Cx) (st : Stmt) (t : TS) : Prop :=
  ∀ (pins : List (Addr × Obj)) (s : Shared) (σ : St) (H : Hp) (D : Ends), Inv X pins σ H s -> t D σ H -> wpAny (model X.prog X.w) X.A (exec st X.env) (SP X pins D) X.xe s
def PSs (X : Cx) (st : List Stmt) (t : TS) : Prop :=
  ∀ (pins : List (Addr × Obj)) (s : Shared) (σ : St) (H : Hp) (D : Ends), Inv X pins σ H s -> t D σ H -> wpAny (model X.prog X.w) X.A (execs st X.env) (SP X pins D) X.xe s
theorem thn {α : Type} {t : Sem α} {Q Q' : α -> Shared -> Prop} {M : Model} {A : Around} {E : Value -> Shared -> Prop} {s : Shared} (h : wpAny M A t Q E s) (hQ : ∀ a s, Q a s -> Q' a s) : wpAny M A t Q' E s := wpAny_mono h hQ fun _ _ x => x
end L2

namespace L2
open PySem PySem.Spec PyProof.Rows
section
variable {X : Cx}

def tVar (i : Nat) : TE := fun σ H Q => ∃ v, σ[i]? = some (some v) /\ Q v H
def tC (v : V) : TE := fun _ H Q => Q v H
theorem pe_var {i : Nat} {x : Str} {pos : Pos} (hN : X.N[i]? = some x) (hv : Vis X.env.scope x) (hd : (x == ("__debug__" : Str)) = false := by decide) (hcd : (x == ("__classdict__" : Str)) = false := by decide) : PE X (.Name x pos) (tVar i) := by
  intro pins s σ H Q I h
  obtain ⟨v, e, h⟩ := h
  obtain ⟨m, hn, hl⟩ := I.loc
  obtain ⟨u, r, l⟩ := hl i x v hN e hv
  have fin : EP X pins σ Q u s := ⟨v, H, I, r, h⟩
  rcases l with ⟨hk, hm⟩ | ⟨hk, c, hc, hcell⟩
  . exact wpAny_Name (wpAny_loadName_local I.ok.kind hk hn hm fin) hd
  . rcases hk with hk | hk
    . exact wpAny_Name (wpAny_loadName_cell I.ok.kind hk hc hcell fin) hd
    . exact wpAny_Name (wpAny_loadName_free I.ok.kind hk hc hcell fin hcd) hd
theorem pe_int {i j pos} : PE X (.Constant (.int i) j pos) (tC (.int i)) := fun _ _ _ H _ I h => wpAny_Constant_int ⟨.int i, H, I.tok _, ⟨_, rfl⟩, h⟩
theorem pe_bl {b j pos} : PE X (.Constant (.bool b) j pos) (tC (.bl b)) := fun _ _ _ H _ I h => Constant_bool ⟨.bl b, H, I, rfl, h⟩
theorem pe_str {x j pos} : PE X (.Constant (.str x) j pos) (tC (.str x)) := fun _ _ _ H _ I h => Calls.Constant_str ⟨.str x, H, I.tok _, ⟨_, rfl⟩, h⟩

def Gl (X : Cx) (x : Str) : Prop := X.env.kindOf x = some .globalImplicit
theorem ld_glob {E : Value -> Shared -> Prop} {pins : List (Addr × Obj)} {s : Shared} {σ : St} {H : Hp} {x : Str} {u : Value} {pos : Pos} {Q : Value -> Shared -> Prop} (I : Inv X pins σ H s) (hg : Gl X x) (hm : X.mg x = some u) (h : Q u s)
    (hd : (x == ("__debug__" : Str)) = false := by decide) : wpAny (model X.prog X.w) X.A (eval (.Name x pos) X.env) Q E s :=
  Calls.Name_function_global I.ok.kind hg (Calls.loadGlobal_global (by rw [I.ok.glob]; exact I.mod.glob.keeps I.bk) hm h) hd
theorem ld_blt {E : Value -> Shared -> Prop} {pins : List (Addr × Obj)} {s : Shared} {σ : St} {H : Hp} {x : Str} {u : Value} {pos : Pos} {Q : Value -> Shared -> Prop} (I : Inv X pins σ H s) (hg : Gl X x) (hm : X.mg x = none) (hv : bootBuiltins x = some u) (h : Q u s)
    (hn : x ≠ "__name__" := by decide) (hd : (x == ("__debug__" : Str)) = false := by decide) : wpAny (model X.prog X.w) X.A (eval (.Name x pos) X.env) Q E s := by
  obtain ⟨mb, h1, h2⟩ := I.mod.blt
  exact Calls.Name_function_global I.ok.kind hg (Calls.loadGlobal_builtin (by rw [I.ok.glob]; exact I.mod.glob.keeps I.bk) hm (by rw [I.ok.blt]; exact h1.keeps I.bk) ((h2 x hn).trans hv) h) hd
theorem pe_glob {x : Str} {v : V} {u : Value} {pos : Pos} (hg : Gl X x) (hm : X.mg x = some u) (r : RelV v u) (hd : (x == ("__debug__" : Str)) = false := by decide) : PE X (.Name x pos) (tC v) :=
  fun _ _ _ H _ I h => ld_glob I hg hm ⟨v, H, I, r, h⟩ hd
theorem pe_bltn {x : Str} {v : V} {u : Value} {pos : Pos} (hg : Gl X x) (hm : X.mg x = none) (hv : bootBuiltins x = some u) (r : RelV v u) (hn : x ≠ "__name__" := by decide) (hd : (x == ("__debug__" : Str)) = false := by decide) : PE X (.Name x pos) (tC v) :=
  fun _ _ _ H _ I h => ld_blt I hg hm hv ⟨v, H, I, r, h⟩ hn hd

variable {a b : Expr} {ta tb : TE} {pos : Pos}
def tB (t : TE) : TT := fun σ H Q => t σ H fun x H1 => ∃ c, x = .bl c /\ Q c H1
theorem pt_val {e : Expr} {t : TE} (h : PE X e t) (he : ∀ whole, isTrue e X.env whole = (do let v <- whole; standAt e.pos; holding [v] (truthy v)) := by intro _; rfl) : PT X e (tB t) := by
  intro pins s σ H Q I hw
  refine isTrue_plain (thn (h pins s σ H _ I hw) fun v s1 ⟨x, H1, I1, r1, q1⟩ => ?_) (he _)
  obtain ⟨d, rfl, q⟩ := q1
  cases r1
  exact wpAny_truthy_bool ⟨H1, I1, q⟩

variable {tA tB' : TT} {rest : List Expr}
def tAnd (t u : TT) : TT := fun σ H Q => t σ H fun c H1 => if c = true then u σ H1 Q else Q false H1
def tOr (t u : TT) : TT := fun σ H Q => t σ H fun c H1 => if c = true then Q true H1 else u σ H1 Q
def tNot (t : TT) : TT := fun σ H Q => t σ H fun c H1 => Q (!c) H1
theorem pw_and1 (ha : PT X a tA) : PW X (.BoolOp .And [a] pos) tA := by
  intro wh pins s σ H Q I h
  refine isTrue_and (thn (ha pins s σ H Q I h) fun c s1 e => ?_)
  cases c with
  | true => exact isTrue_and_nil e
  | false => exact e
theorem pw_or1 (ha : PT X a tA) : PW X (.BoolOp .Or [a] pos) tA := by
  intro wh pins s σ H Q I h
  refine isTrue_or (thn (ha pins s σ H Q I h) fun c s1 e => ?_)
  cases c with
  | false => exact isTrue_or_nil e
  | true => exact e
theorem pw_and (ha : PT X a tA) (hb : PW X (.BoolOp .And (b :: rest) pos) tB') : PW X (.BoolOp .And (a :: b :: rest) pos) (tAnd tA tB') := by
  intro wh pins s σ H Q I h
  refine isTrue_and (thn (ha pins s σ H _ I h) fun c s1 ⟨H1, I1, q1⟩ => ?_)
  cases c with
  | true => exact hb wh pins s1 σ H1 Q I1 q1
  | false => exact ⟨H1, I1, q1⟩
theorem pw_or (ha : PT X a tA) (hb : PW X (.BoolOp .Or (b :: rest) pos) tB') : PW X (.BoolOp .Or (a :: b :: rest) pos) (tOr tA tB') := by
  intro wh pins s σ H Q I h
  refine isTrue_or (thn (ha pins s σ H _ I h) fun c s1 ⟨H1, I1, q1⟩ => ?_)
  cases c with
  | true => exact ⟨H1, I1, q1⟩
  | false => exact hb wh pins s1 σ H1 Q I1 q1
theorem pt_not (ha : PT X a tA) : PT X (.UnaryOp .Not a pos) (tNot tA) := by
  intro pins s σ H Q I h
  exact isTrue_not (ha pins s σ H (fun c H1 => Q (!c) H1) I h)
def tAndV (ta tb : TE) : TE := fun σ H Q => ta σ H fun x H1 => ∃ c, x = .bl c /\ if c = true then tb σ H1 Q else Q (.bl false) H1
def tNotV (ta : TE) : TE := fun σ H Q => ta σ H fun x H1 => ∃ c, x = .bl c /\ Q (.bl (!c)) H1
theorem pe_one {op} {t : TE} (h : PE X a t) : PE X (.BoolOp op [a] pos) t := fun pins s σ H Q I hw => BoolOp_one (h pins s σ H Q I hw)
theorem pe_and (ha : PE X a ta) (hb : PE X (.BoolOp .And (b :: rest) pos) tb) : PE X (.BoolOp .And (a :: b :: rest) pos) (tAndV ta tb) := by
  intro pins s σ H Q I h
  refine BoolOp_and (thn (ha pins s σ H _ I h) fun v s1 ⟨x, H1, I1, r1, q1⟩ => ?_)
  obtain ⟨c, rfl, q1⟩ := q1
  cases r1
  refine wpAny_truthy_bool ?_
  cases c with
  | true => exact hb pins s1 σ H1 Q I1 q1
  | false => exact ⟨.bl false, H1, I1, rfl, q1⟩
theorem pe_not (ha : PE X a ta) : PE X (.UnaryOp .Not a pos) (tNotV ta) := by
  intro pins s σ H Q I h
  refine UnaryOp_ (thn (ha pins s σ H _ I h) fun v s1 ⟨x, H1, I1, r1, q1⟩ => ?_)
  obtain ⟨c, rfl, q1⟩ := q1
  cases r1
  exact not_of (wpAny_truthy_bool ⟨.bl (!c), H1, I1, rfl, q1⟩)
end
end L2

namespace L2
open PySem PySem.Spec PyProof.Rows

def SqL (K : PySem.W.Frag) (H : Hp) (a : Addr) (xs : List V) : Prop :=
  Rd H a (.lst xs) \/
    ∃ (o : Obj) (its : Array Value) (n : Nat), K.lookup a = some o /\ o.cls = .type "list" /\ o.dict = none /\ o.data = .seq its n /\ its.size <= sizeLine /\ Vals xs its.toList
def SqT (K : PySem.W.Frag) (H : Hp) (a : Addr) (xs : List V) : Prop :=
  Rd H a (.tup xs) \/
    ∃ (o : Obj) (its : Array Value) (n : Nat), K.lookup a = some o /\ o.cls = .type "tuple" /\ o.data = .seq its n /\ its.size <= sizeLine /\ Vals xs its.toList
def absV : Value -> Option V
  | .none => some .non
  | .bool b => some (.bl b)
  | .int i _ => some (.int i)
  | .str x _ => some (.str x)
  | .bytes b _ => some (.byt b)
  | .float b _ => some (.flt b)
  | .ref a => some (.ref a)
  | .type n => some (.ty n)
  | _ => none
theorem RelV.abs {x : V} {u : Value} (r : RelV x u) : absV u = some x := by
  cases x with
  | non => cases r; rfl
  | bl _ => cases r; rfl
  | int _ => obtain ⟨t, rfl⟩ := r; rfl
  | str _ => obtain ⟨t, rfl⟩ := r; rfl
  | byt _ => obtain ⟨t, rfl⟩ := r; rfl
  | flt _ => obtain ⟨t, rfl⟩ := r; rfl
  | ref _ => cases r; rfl
  | ty _ => cases r; rfl
theorem RelV.inj {x y : V} {u : Value} (r : RelV x u) (q : RelV y u) : x = y := Option.some.inj (r.abs.symm.trans q.abs)
theorem Vals.inj : ∀ {xs ys : List V} {us : List Value}, Vals xs us -> Vals ys us -> xs = ys
  | _, _, _, .nil, .nil => rfl
  | _, _, _, .cons r t, .cons r' t' => by rw [r.inj r', Vals.inj t t']
section
variable {X : Cx} {pins : List (Addr × Obj)} {σ : St} {H : Hp} {s : Shared} {a : Addr} {xs ys : List V}
theorem SqL.of {K : PySem.W.Frag} (h : H a = some (.lst xs)) : SqL K H a xs := .inl (.inl h)
theorem SqT.of {K : PySem.W.Frag} (h : H a = some (.tup xs)) : SqT K H a xs := .inl (.inl h)
theorem Inv.list (I : Inv X pins σ H s) (h : SqL X.K H a xs) : ∃ its : List Value, Vals xs its /\ PlainL s.heap a its.toArray /\ xs.length <= sizeLine := by
  rcases h with h | ⟨o, its, n, hk, hc, hd, hs, hz, r⟩
  . obtain ⟨z, its, n, r, e⟩ := h.ok I.hok
    exact ⟨its, r, ⟨_, n, e, rfl, rfl, rfl⟩, z⟩
  . refine ⟨its.toList, r, ⟨o, n, I.kIn a o hk, hc, hd, by simpa using hs⟩, ?_⟩
    have e := r.length
    simp only [Array.length_toList] at e
    omega
theorem Inv.tuple (I : Inv X pins σ H s) (h : SqT X.K H a xs) : ∃ its : List Value, Vals xs its /\ IsTup s.heap a its.toArray /\ xs.length <= sizeLine := by
  rcases h with h | ⟨o, its, n, hk, hc, hs, hz, r⟩
  . obtain ⟨z, its, r, p⟩ := h.ok I.hok
    exact ⟨its, r, p, z⟩
  . refine ⟨its.toList, r, ⟨o, I.kIn a o hk, hc, n, by simpa using hs⟩, ?_⟩
    have e := r.length
    simp only [Array.length_toList] at e
    omega
theorem Inv.list_inj (I : Inv X pins σ H s) (h : SqL X.K H a xs) (h' : SqL X.K H a ys) : xs = ys := by
  obtain ⟨its, r, ⟨o, n, e, _, _, d⟩, _⟩ := I.list h
  obtain ⟨its', r', ⟨o', n', e', _, _, d'⟩, _⟩ := I.list h'
  rw [e] at e'; cases e'
  rw [d] at d'
  injection d' with d1 _
  have : its = its' := by simpa using congrArg Array.toList d1
  subst this
  exact r.inj r'
theorem Inv.tuple_inj (I : Inv X pins σ H s) (h : SqT X.K H a xs) (h' : SqT X.K H a ys) : xs = ys := by
  obtain ⟨its, r, ⟨o, e, _, n, d⟩, _⟩ := I.tuple h
  obtain ⟨its', r', ⟨o', e', _, n', d'⟩, _⟩ := I.tuple h'
  rw [e] at e'; cases e'
  rw [d] at d'
  injection d' with d1 _
  have : its = its' := by simpa using congrArg Array.toList d1
  subst this
  exact r.inj r'
end

abbrev Cx.wish (X : Cx) (E : Value -> Shared -> Prop) : Cx := { X with xe := E }
abbrev Cx.nox (X : Cx) : Cx := X.wish fun _ _ => False
theorem Cx.Ok.wish {X : Cx} (ok : X.Ok) (E : Value -> Shared -> Prop) : (X.wish E).Ok :=
  ⟨ok.mod, ok.kind, ok.glob, ok.blt, ok.above, ok.inj, ok.has, ok.cab, ok.hd, ok.frames, ok.stk, ok.exf, ok.bs, ok.bsz, ok.noex, ok.exfs, ok.funs, ok.frf⟩
theorem Cx.Ok.unwish {X : Cx} {E : Value -> Shared -> Prop} (ok : (X.wish E).Ok) : X.Ok :=
  ⟨ok.mod, ok.kind, ok.glob, ok.blt, ok.above, ok.inj, ok.has, ok.cab, ok.hd, ok.frames, ok.stk, ok.exf, ok.bs, ok.bsz, ok.noex, ok.exfs, ok.funs, ok.frf⟩
section
variable {X : Cx} {pins : List (Addr × Obj)} {σ : St} {H : Hp} {s : Shared} {E : Value -> Shared -> Prop}
theorem Inv.wish (I : Inv X pins σ H s) (E : Value -> Shared -> Prop) : Inv (X.wish E) pins σ H s := ⟨I.ok.wish E, I.os, I.bare, I.base, I.loc, I.cell, I.free, I.freeC, I.pin, I.hok, I.len⟩
theorem Inv.unwish (I : Inv (X.wish E) pins σ H s) : Inv X pins σ H s := ⟨I.ok.unwish, I.os, I.bare, I.base, I.loc, I.cell, I.free, I.freeC, I.pin, I.hok, I.len⟩
theorem SP.unwish {D : Ends} {f : Flow} {s' : Shared} (h : SP (X.wish E) pins D f s') : SP X pins D f s' := by
  cases f with
  | next => obtain ⟨σ', H', I, q⟩ := h; exact ⟨σ', H', I.unwish, q⟩
  | brk => obtain ⟨σ', H', I, q⟩ := h; exact ⟨σ', H', I.unwish, q⟩
  | cont => obtain ⟨σ', H', I, q⟩ := h; exact ⟨σ', H', I.unwish, q⟩
  | ret u => obtain ⟨v, σ', H', I, r, q⟩ := h; exact ⟨v, σ', H', I.unwish, r, q⟩
theorem PSs.nox {st : List Stmt} {t : TS} (h : PSs X.nox st t) : PSs X st t := fun pins s σ H D I hw =>
  wpAny_mono (h pins s σ H D (I.wish _) hw) (fun _ _ q => q.unwish) fun _ _ z => False.elim z
end

section
variable {X : Cx} {st : Stmt} {rest : List Stmt} {t u : TS} {e : Expr} {te : TE} {pos : Pos}
def tNext : TS := fun D σ H => D.nx σ H
def tSeq (t u : TS) : TS := fun D σ H => t { D with nx := u D } σ H
theorem pss_nil : PSs X [] tNext := fun _ _ σ H _ I h => wpAny_execs_nil ⟨σ, H, I, h⟩
theorem pss_cons (h1 : PS X st t) (h2 : PSs X rest u) : PSs X (st :: rest) (tSeq t u) := by
  intro pins s σ H D I h
  refine wpAny_execs_cons (thn (h1 pins s σ H { D with nx := u D } I h) fun f s1 q => ?_)
  cases f with
  | next =>
    obtain ⟨σ', H', I', q⟩ := q
    exact h2 pins s1 σ' H' D I' q
  | ret v => exact q
  | brk => exact q
  | cont => exact q
theorem pss_one (h1 : PS X st t) : PSs X [st] t := by
  intro pins s σ H D I h
  refine wpAny_execs_cons (thn (h1 pins s σ H D I h) fun f s1 q => ?_)
  cases f with
  | next => exact wpAny_execs_nil q
  | ret v => exact q
  | brk => exact q
  | cont => exact q
theorem Inv.quiet {pins : List (Addr × Obj)} {σ : St} {H : Hp} {s : Shared} (I : Inv X pins σ H s) : interactive X.env = false := by simp [interactive, I.ok.kind]
def tDrop (te : TE) : TS := fun D σ H => te σ H fun _ H1 => D.nx σ H1
theorem ps_expr (he : PE X e te) (hs : swapsWith e none pos.line X.env = pure false := by rfl) : PS X (.Expr e pos) (tDrop te) := by
  intro pins s σ H D I h
  exact wpAny_Expr_any (thn (he pins s σ H _ I h) fun v s1 ⟨x, H1, I1, r1, q1⟩ => ⟨σ, H1, I1, q1⟩) I.quiet hs
def tRet (te : TE) : TS := fun D σ H => te σ H D.rt
theorem ps_ret (he : PE X e te) : PS X (.Return (some e) pos) (tRet te) := by
  intro pins s σ H D I h
  exact wpAny_Return_some (thn (he pins s σ H _ I h) fun v s1 ⟨x, H1, I1, r1, q1⟩ => ⟨x, σ, H1, I1, r1, q1⟩)
def tIfS (c : TT) (t u : TS) : TS := fun D σ H => c σ H fun b H1 => if b = true then t D σ H1 else u D σ H1
theorem ps_if {c : Expr} {a b : List Stmt} {tc : TT} (hc : PT X c tc) (ha : PSs X a t) (hb : PSs X b u) : PS X (.If c a b pos) (tIfS tc t u) := by
  intro pins s σ H D I h
  refine wpAny_If (thn (hc pins s σ H _ I h) fun d s1 ⟨H1, I1, q1⟩ => ?_)
  cases d with
  | true => exact ha pins s1 σ H1 D I1 q1
  | false => exact hb pins s1 σ H1 D I1 q1
def tNever : TS := fun _ _ _ => False
theorem ps_never : PS X st tNever := fun _ _ _ _ _ _ h => h.elim
end

abbrev TG := V -> St -> Hp -> (St -> Hp -> Prop) -> Prop
abbrev TGs := List V -> St -> Hp -> (St -> Hp -> Prop) -> Prop
def PG (X : Cx) (target : Expr) (t : TG) : Prop :=
  ∀ (pins : List (Addr × Obj)) (s : Shared) (σ : St) (H : Hp) (v : V) (u : Value) (Q : St -> Hp -> Prop), Inv X pins σ H s -> RelV v u -> t v σ H Q ->
    wpAny (model X.prog X.w) X.A (assign target X.env u) (fun _ s' => ∃ σ' H', Inv X pins σ' H' s' /\ Q σ' H') X.xe s
def PGs (X : Cx) (ts : List Expr) (t : TGs) : Prop :=
  ∀ (pins : List (Addr × Obj)) (s : Shared) (σ : St) (H : Hp) (vs : List V) (us : List Value) (Q : St -> Hp -> Prop), Inv X pins σ H s -> Vals vs us -> t vs σ H Q ->
    wpAny (model X.prog X.w) X.A (assignInOrder ((assignEach ts X.env).map (·.2)) us) (fun _ s' => ∃ σ' H', Inv X pins σ' H' s' /\ Q σ' H') X.xe s
abbrev TSet := V -> V -> V -> Hp -> (Hp -> Prop) -> Prop
def PSet (X : Cx) (t : TSet) : Prop :=
  ∀ (pins : List (Addr × Obj)) (s : Shared) (σ : St) (H : Hp) (o i v : V) (ov iv u : Value) (Q : Hp -> Prop), Inv X pins σ H s -> RelV o ov -> RelV i iv -> RelV v u -> t o i v H Q ->
    wpAny (model X.prog X.w) X.A (setItem ov iv u) (fun _ s' => ∃ H', Inv X pins σ H' s' /\ Q H') X.xe s
section
variable {X : Cx} {pos : Pos}
def gName (i : Nat) : TG := fun v σ H Q => Q (σ.set i (some v)) H
theorem pg_name {i : Nat} {x : Str} (hN : X.N.Nodup) (hi : X.N[i]? = some x) (hx : Loc X.env.scope x) (hf : X.fn x = true \/ X.env.scope.names.lookup x = some .local := by first | exact .inl rfl | exact .inr rfl | assumption) : PG X (.Name x pos) (gName i) := by
  intro pins s σ H v u Q I r h
  exact wpAny_assign_Name (store_ok I hN hi hx r (fun s' I' => ⟨_, H, I', h⟩) hf)
def gNil : TGs := fun vs σ H Q => vs = [] /\ Q σ H
def gCons (t : TG) (u : TGs) : TGs := fun vs σ H Q => ∃ v r, vs = v :: r /\ t v σ H fun σ' H' => u r σ' H' Q
theorem pgs_nil : PGs X [] gNil := by
  intro pins s σ H vs us Q I r h
  obtain ⟨e, h⟩ := h
  subst e
  cases r
  exact assignInOrder_nil ⟨σ, H, I, h⟩
theorem pgs_cons {e : Expr} {es : List Expr} {t : TG} {u : TGs} (h1 : PG X e t) (h2 : PGs X es u)
    (hs : (assignEach (e :: es) X.env).map (·.2) = assign e X.env :: (assignEach es X.env).map (·.2) := by rfl) : PGs X (e :: es) (gCons t u) := by
  intro pins s σ H vs us Q I r h
  obtain ⟨v, vr, e1, h⟩ := h
  subst e1
  cases r with
  | cons r rr =>
    rw [hs]
    refine assignInOrder_cons (thn (h1 pins s σ H _ _ _ I r h) fun _ s1 ⟨σ1, H1, I1, q1⟩ => ?_)
    exact h2 pins s1 σ1 H1 _ _ Q I1 rr q1
def gTup (K : PySem.W.Frag) (n : Nat) (t : TGs) : TG := fun v σ H Q => ∃ a xs, v = .ref a /\ SqT K H a xs /\ xs.length = n /\ t xs σ H Q
theorem pg_tup {es : List Expr} {k : Nat} {t : TGs} {n : Nat} (hc : X.calm = true) (h : PGs X es t)
    (hn : (assignEach es X.env).length = n := by rfl) (hst : (assignEach es X.env).findIdx? (·.1) = none := by rfl) : PG X (.Tuple es k pos) (gTup X.K n t) := by
  intro pins s σ H v u Q I r hw
  obtain ⟨a, xs, e1, hq, hl, hw⟩ := hw
  subst e1
  cases r
  obtain ⟨its, rv, ht, hz⟩ := I.tuple hq
  refine assign_Tuple_tuple (I.ok.hd hc) ht (by simp [hn, <- hl, rv.length]) hst fun h' hx => ?_
  have I1 : Inv X pins σ H { s with heap := h' } := I.kept (t' := s.toks) fun b o e => hx b o (Nat.ne_of_lt (Heap.lt_size e)) e
  exact h pins _ σ H xs _ Q I1 (by simpa using rv) hw
def gSub (to ti : TE) (t : TSet) : TG := fun v σ H Q => to σ H fun o H1 => ti σ H1 fun i H2 => t o i v H2 fun H3 => Q σ H3
theorem pg_sub {o i : Expr} {to ti : TE} {t : TSet} (ho : PE X o to) (hi : PE X i ti) (hs : PSet X t)
    (ha : ∀ v, assign (.Subscript o i pos) X.env v = (do
      let ov <- holding [v] (eval o X.env)
      let iv <- holding [v, ov] (eval i X.env)
      standAt pos
      holding [v, ov, iv] (setItem ov iv v)
      release [v, ov, iv] []) := by intro _; rfl) : PG X (.Subscript o i pos) (gSub to ti t) := by
  intro pins s σ H v u Q I r h
  rw [ha]
  refine wpAny_bind (wpAny_holding (thn (ho pins s σ H _ I h) fun ov s1 ⟨x, H1, I1, r1, q1⟩ => ?_))
  refine wpAny_bind (wpAny_holding (thn (hi pins s1 σ H1 _ I1 q1) fun iv s2 ⟨y, H2, I2, r2, q2⟩ => ?_))
  refine wpAny_bind (wpAny_standAt (wpAny_bind (wpAny_holding (thn (hs pins s2 σ H2 x y v ov iv u _ I2 r1 r2 r q2) fun _ s3 ⟨H3, I3, q3⟩ => ?_))))
  exact wpAny_release ⟨σ, H3, I3, q3⟩
def tAsg (te : TE) (g : TG) : TS := fun D σ H => te σ H fun x H1 => g x σ H1 D.nx
theorem ps_asg {tg e : Expr} {te : TE} {g : TG} (he : PE X e te) (hg : PG X tg g) (hs : swapsWithSole [tg] e pos.line X.env = pure false := by rfl) (hw : swappedStores [tg] e X.env = pure none := by rfl)
    (h1 : (assignEach [tg] X.env).map (·.2) = [assign tg X.env] := by rfl) : PS X (.Assign [tg] e pos) (tAsg te g) := by
  intro pins s σ H D I h
  refine wpAny_Assign_stores (thn (he pins s σ H _ I h) fun v s1 ⟨x, H1, I1, r1, q1⟩ => ?_) hs hw
  rw [h1]
  exact thn (hg pins s1 σ H1 x v _ I1 r1 q1) fun _ s2 q => q
theorem ps_set {i : Nat} {x : Str} {e : Expr} {te : TE} {pos' : Pos} (hN : X.N.Nodup) (hi : X.N[i]? = some x) (hx : Loc X.env.scope x) (he : PE X e te) (hs : swapsWith e (some (.Name x pos')) pos.line X.env = pure false := by rfl) (hf : X.fn x = true \/ X.env.scope.names.lookup x = some .local := by first | exact .inl rfl | exact .inr rfl | assumption) :
    PS X (.Assign [.Name x pos'] e pos) (tAsg te (gName i)) := by
  intro pins s σ H D I h
  refine wpAny_Assign_Name (thn (he pins s σ H _ I h) fun v s1 ⟨y, H1, I1, r1, q1⟩ => ?_) hs
  exact store_ok I1 hN hi hx r1 (fun s2 I2 => ⟨_, H1, I2, q1⟩) hf
end

section
variable {X : Cx} {pos : Pos}
end

structure It where
  go : Nat -> Hp -> Prop
  yld : Nat -> Hp -> V -> Hp -> Prop
  stop : Nat -> Hp -> Prop
def FpOk (X : Cx) (pins : List (Addr × Obj)) (H : Hp) (b : Addr) : Prop :=
  H b = none /\ b ≠ X.env.locals /\ b ∉ X.fs /\ (b ∈ X.ex \/ X.s₀.heap.objs.size <= b) /\ (∀ x c, X.env.cells.lookup x = some c -> c ≠ b) /\ ∀ p ∈ X.pn ++ pins, p.1 ≠ b
theorem Inv.fpOk {X : Cx} {pins : List (Addr × Obj)} {σ : St} {H H' : Hp} {s : Shared} {b : Addr} (I : Inv X pins σ H s) (hb : s.heap.objs.size <= b) (hn : H' b = none) : FpOk X pins H' b := by
  refine ⟨hn, Nat.ne_of_gt (Nat.lt_of_lt_of_le I.lt hb), I.nofs hb, .inr (Nat.le_trans I.sz hb), fun x c e z => ?_, fun p hp z => ?_⟩
  . obtain ⟨v, q⟩ := I.cell x c e
    exact absurd (Nat.lt_of_lt_of_le q.lt (by rw [z]; exact hb)) (Nat.lt_irrefl _)
  . exact absurd (Nat.lt_of_lt_of_le (Heap.lt_size (I.pin p hp).1) (by rw [z]; exact hb)) (Nat.lt_irrefl _)
structure Turn (P : Program) (w : World) (K : PySem.W.Frag) (tg : Expr) (J : It) (fp : List Addr) (it : Addr) (tn : Nat -> Heap -> Prop) : Prop where
  mem : it ∈ fp
  obj : ∀ i h, tn i h -> ∀ b ∈ fp, ∃ o, h.get? b = some o /\ ∀ v, o.data ≠ .cell v
  keep : ∀ i h h', tn i h -> (∀ b ∈ fp, ∀ o, h.get? b = some o -> h'.get? b = some o) -> tn i h'
  item : ∀ (X : Cx), X.prog = P -> X.w = w -> X.K = K -> X.calm = true -> ∀ (i : Nat) (pins : List (Addr × Obj)) (s : Shared) (σ : St) (H : Hp) (E : Value -> Shared -> Prop), Inv X pins σ H s -> (∀ b ∈ fp, FpOk X pins H b) -> tn i s.heap -> J.go i H ->
    wpAny (model P w) X.A (pyNext (.ref it)) (fun r s1 => ∃ u, r = some u /\
      wpAny (model P w) X.A (letOwnedTupleGo tg (.ref it) u) (fun _ s2 => ∃ x H', Inv X pins σ H' s2 /\ RelV x u /\ J.yld i H x H' /\ tn (i + 1) s2.heap /\ ∀ b ∈ fp, H' b = none) E s1) E s
  done : ∀ (X : Cx), X.prog = P -> X.w = w -> X.K = K -> X.calm = true -> ∀ (i : Nat) (pins : List (Addr × Obj)) (s : Shared) (σ : St) (H : Hp) (E : Value -> Shared -> Prop), Inv X pins σ H s -> (∀ b ∈ fp, FpOk X pins H b) -> tn i s.heap -> J.stop i H ->
    wpAny (model P w) X.A (pyNext (.ref it)) (fun r s1 => r = none /\ Inv X pins σ H s1) E s
  self : ∀ (A : Around) (i : Nat) (s : Shared) (Q : Value -> Shared -> Prop) (E : Value -> Shared -> Prop), tn i s.heap -> Q (.ref it) s -> wpAny (model P w) A (pyIter (.ref it)) Q E s
abbrev TI := St -> Hp -> (It -> Hp -> Prop) -> Prop
def PIE (X : Cx) (pins : List (Addr × Obj)) (σ : St) (tg : Expr) (R : It -> Hp -> Prop) (itv : Value) (s2 : Shared) : Prop :=
  ∃ (it : Addr) (fp : List Addr) (tn : Nat -> Heap -> Prop) (J : It) (H' : Hp), itv = .ref it /\ Inv X pins σ H' s2 /\ Turn X.prog X.w X.K tg J fp it tn /\ tn 0 s2.heap /\ (∀ b ∈ fp, FpOk X pins H' b) /\ R J H'
def PI (X : Cx) (tg iter : Expr) (wi : TI) : Prop :=
  ∀ (pins : List (Addr × Obj)) (s : Shared) (σ : St) (H : Hp) (R : It -> Hp -> Prop), Inv X pins σ H s -> wi σ H R ->
    wpAny (model X.prog X.w) X.A (eval iter X.env) (fun v s1 => wpAny (model X.prog X.w) X.A (pyIter v) (PIE X pins σ tg R) X.xe s1) X.xe s

theorem go_of {M : Model} {A : Around} {E : Value -> Shared -> Prop} {s : Shared} {tg : Expr} {it : Addr} {u : Value} {o : Obj} {n : String} {vs : Array Value} {Q : Unit -> Shared -> Prop} (ho : s.heap.get? it = some o) (hc : o.cls = .type n) (hd : o.data = .fields vs)
    (hn : ["enumerate", "zip", "dict_itemiterator", "dict_reverseitemiterator", "odict_iterator", "itertools.zip_longest", "itertools.pairwise"].contains n = false) (hQ : Q () s) : wpAny M A (letOwnedTupleGo tg (.ref it) u) Q E s := by
  unfold letOwnedTupleGo
  cases tg <;> first
    | exact wpAny_pure hQ
    | (cases u <;> first
        | exact wpAny_pure hQ
        | (refine wpAny_bind (wpAny_load ho ?_)
           rw [hc, hd]
           show wpAny M A (if (["enumerate", "zip", "dict_itemiterator", "dict_reverseitemiterator", "odict_iterator", "itertools.zip_longest", "itertools.pairwise"].contains n && vs[0]? == some (rawInt _)) = true then _ else _) Q E s
           rw [if_neg (by intro h; rw [hn, Bool.false_and] at h; cases h)]
           exact wpAny_pure hQ))

def Itl (K : PySem.W.Frag) (a : Addr) : It :=
  ⟨fun i H => ∃ xs x, SqL K H a xs /\ xs[i]? = some x, fun i H x H' => H' = H /\ ∀ xs, SqL K H a xs -> xs[i]? = some x, fun i H => ∃ xs, SqL K H a xs /\ xs.length <= i⟩
def Itt (K : PySem.W.Frag) (a : Addr) : It :=
  ⟨fun i H => ∃ xs x, SqT K H a xs /\ xs[i]? = some x, fun i H x H' => H' = H /\ ∀ xs, SqT K H a xs -> xs[i]? = some x, fun i H => ∃ xs, SqT K H a xs /\ xs.length <= i⟩
def Itr (lo : Int) (n : Nat) : It := ⟨fun i _ => i < n, fun i H x H' => H' = H /\ x = .int (lo + i), fun i _ => n <= i⟩
theorem turn_list {P : Program} {w : World} {K : PySem.W.Frag} {tg : Expr} (a it : Addr) : Turn P w K tg (Itl K a) [it] it (fun i h => h.IsListIter it a i) where
  mem := by simp
  obj := fun i h st b hb => by
    have e : b = it := by simpa using hb
    subst e
    obtain ⟨o, e, c, d⟩ := st
    exact ⟨o, e, fun v z => by rw [d] at z; cases z⟩
  keep := fun i h h' st k => st.at fun o e => k it (by simp) o e
  item := by
    intro X hP hw hK hc i pins s σ H E I hf st hg
    subst hP hw hK
    obtain ⟨xs, x, hq, hx⟩ := hg
    obtain ⟨its, rv, p, hz⟩ := I.list hq
    obtain ⟨u, hu, ru⟩ := rv.get hx
    obtain ⟨f0, f1, f2, f3, f4, f5⟩ := hf it (by simp)
    refine wpAny_pyNext_list_item st p.isList (x := u) (by simpa using hu) fun h' st' sb => ?_
    have I1 : Inv X pins σ H { s with heap := h' } := I.turned (t' := s.toks) (fun b o hb e => (sb.2 b hb).trans e) f0 f1 f3 f4 f5
    obtain ⟨o, e, c, d⟩ := id st'
    exact ⟨u, rfl, go_of (s := { s with heap := h' }) e c d (by decide) ⟨x, H, I1, ru, ⟨rfl, fun ys hy => by rw [I.list_inj hy hq]; exact hx⟩, st', fun b hb => (hf b hb).1⟩⟩
  done := by
    intro X hP hw hK hc i pins s σ H E I hf st hg
    subst hP hw hK
    obtain ⟨xs, hq, hx⟩ := hg
    obtain ⟨its, rv, p, hz⟩ := I.list hq
    obtain ⟨f0, f1, f2, f3, f4, f5⟩ := hf it (by simp)
    have hl := rv.length
    exact wpAny_pyNext_list_end (I.ok.hd hc) st p.isList (by simp; omega) fun h' eb => ⟨rfl, I.turned (t' := s.toks) (fun b o hb e => eb b o hb e) f0 f1 f3 f4 f5⟩
  self := fun _ _ _ _ _ st h => wpAny_pyIter_listiter st h
theorem turn_tuple {P : Program} {w : World} {K : PySem.W.Frag} {tg : Expr} (a it : Addr) : Turn P w K tg (Itt K a) [it] it (fun i h => h.IsTupleIter it a i) where
  mem := by simp
  obj := fun i h st b hb => by
    have e : b = it := by simpa using hb
    subst e
    obtain ⟨o, e, c, d⟩ := st
    exact ⟨o, e, fun v z => by rw [d] at z; cases z⟩
  keep := fun i h h' st k => st.at fun o e => k it (by simp) o e
  item := by
    intro X hP hw hK hc i pins s σ H E I hf st hg
    subst hP hw hK
    obtain ⟨xs, x, hq, hx⟩ := hg
    obtain ⟨its, rv, p, hz⟩ := I.tuple hq
    obtain ⟨u, hu, ru⟩ := rv.get hx
    obtain ⟨f0, f1, f2, f3, f4, f5⟩ := hf it (by simp)
    refine wpAny_pyNext_tuple_item st (show s.heap.IsTuple a its.toArray from p) (x := u) (by simpa using hu) fun h' st' sb => ?_
    have I1 : Inv X pins σ H { s with heap := h' } := I.turned (t' := s.toks) (fun b o hb e => (sb.2 b hb).trans e) f0 f1 f3 f4 f5
    obtain ⟨o, e, c, d⟩ := id st'
    exact ⟨u, rfl, go_of (s := { s with heap := h' }) e c d (by decide) ⟨x, H, I1, ru, ⟨rfl, fun ys hy => by rw [I.tuple_inj hy hq]; exact hx⟩, st', fun b hb => (hf b hb).1⟩⟩
  done := by
    intro X hP hw hK hc i pins s σ H E I hf st hg
    subst hP hw hK
    obtain ⟨xs, hq, hx⟩ := hg
    obtain ⟨its, rv, p, hz⟩ := I.tuple hq
    obtain ⟨f0, f1, f2, f3, f4, f5⟩ := hf it (by simp)
    have hl := rv.length
    exact wpAny_pyNext_tuple_end (I.ok.hd hc) st (show s.heap.IsTuple a its.toArray from p) (by simp; omega) fun h' eb => ⟨rfl, I.turned (t' := s.toks) (fun b o hb e => eb b o hb e) f0 f1 f3 f4 f5⟩
  self := fun _ _ _ _ _ st h => wpAny_pyIter_tupleiter st h
theorem turn_range {P : Program} {w : World} {K : PySem.W.Frag} {tg : Expr} (it : Addr) (lo : Int) (n : Nat) : Turn P w K tg (Itr lo n) [it] it (fun i h => IsRangeIter h it (lo + (i : Nat) * 1) ((n : Int) - (i : Nat)) 1) where
  mem := by simp
  obj := fun i h st b hb => by
    have e : b = it := by simpa using hb
    subst e
    exact ⟨_, st, fun v z => by
      have z' : Data.fields _ = Data.cell v := z
      cases z'⟩
  keep := fun i h h' st k => k it (by simp) _ st
  item := by
    intro X hP hw hK hc i pins s σ H E I hf st hg
    subst hP hw hK
    obtain ⟨f0, f1, f2, f3, f4, f5⟩ := hf it (by simp)
    have W := Walks.range (prog := X.prog) (w := X.w) (I.ok.hd hc) it lo 1 n
    refine W.item i s _ _ hg st fun v h' tk hv st' kk => ?_
    obtain ⟨t, rfl⟩ := hv
    have I1 : Inv X pins σ H { s with heap := h', toks := tk } := I.turned (fun b o hb e => kk b o (by simpa using hb) e) f0 f1 f3 f4 f5
    refine ⟨_, rfl, go_of (s := { s with heap := h', toks := tk }) (n := "range_iterator") st' rfl rfl (by decide) ⟨.int (lo + i), H, I1, ⟨t, ?_⟩, ⟨rfl, rfl⟩, st', fun b hb => (hf b hb).1⟩⟩
    rw [Int.mul_one]
  done := by
    intro X hP hw hK hc i pins s σ H E I hf st hg
    subst hP hw hK
    obtain ⟨f0, f1, f2, f3, f4, f5⟩ := hf it (by simp)
    exact wpAny_pyNext_range_end (I.ok.hd hc) st (by have : n <= i := hg; omega) fun h' eb => ⟨rfl, I.turned (t' := s.toks) (fun b o hb e => eb b o hb e) f0 f1 f3 f4 f5⟩
  self := fun _ _ _ _ _ st h => wpAny_pyIter_rangeiter st h
end L2

namespace L2
open PySem PySem.Spec PyProof.Rows
section
variable {X : Cx} {tg : Expr}
theorem range_it {pins : List (Addr × Obj)} {σ : St} {H : Hp} {s : Shared} {R : It -> Hp -> Prop} {E : Value -> Shared -> Prop} {lo hi : Int} {t u v : Tok} {tk : Nat} (I : Inv X pins σ H s) (h1 : -(2 ^ 62) <= lo) (h2 : lo < 2 ^ 62) (h3 : -(2 ^ 62) <= hi) (h4 : hi < 2 ^ 62)
    (q : R (Itr lo (hi - lo).toNat) H) : wpAny (model X.prog X.w) X.A (pyIter (.ref s.heap.objs.size)) (PIE X pins σ tg R) E { s with heap := s.heap.push { cls := .type "range", data := .fields #[.int lo t, .int hi u, .int 1 v] }, toks := tk } := by
  refine wpAny_pyIter_range (IsRange.new ..) (small_one h1 h2 h3 h4) ?_
  have I1 : Inv X pins σ H { s with heap := s.heap.push { cls := .type "range", data := .fields #[.int lo t, .int hi u, .int 1 v] }, toks := tk } := I.kept fun b o e => Heap.get?_push_of_some _ e
  refine ⟨(s.heap.push { cls := .type "range", data := .fields #[.int lo t, .int hi u, .int 1 v] }).objs.size, [(s.heap.push { cls := .type "range", data := .fields #[.int lo t, .int hi u, .int 1 v] }).objs.size], _, _, H, rfl,
    I1.kept (t' := tk) fun b o e => Heap.get?_push_of_some _ e, turn_range _ lo (hi - lo).toNat, ?_, fun b hb => ?_, q⟩
  . have e1 : lo + ((0 : Nat) : Int) * 1 = lo := by simp
    have e2 : (((hi - lo).toNat : Nat) : Int) - ((0 : Nat) : Int) = Builtin.Range.rangeSize lo hi 1 := by rw [rangeSize_one]; split <;> omega
    show IsRangeIter _ _ (lo + ((0 : Nat) : Int) * 1) ((((hi - lo).toNat : Nat) : Int) - ((0 : Nat) : Int)) 1
    rw [e1, e2]
    exact Heap.get?_push_size _ rfl
  . have e : b = (s.heap.push { cls := .type "range", data := .fields #[.int lo t, .int hi u, .int 1 v] }).objs.size := by simpa using hb
    subst e
    exact I1.fpOk (Nat.le_refl _) (I1.hok.fresh (Nat.le_refl _))
def iRng1 (ta : TA) : TI := fun σ H R => ta σ H fun vs H1 => ∃ j : Int, vs = [.int j] /\ -(2 ^ 62) <= j /\ j < 2 ^ 62 /\ R (Itr 0 j.toNat) H1
theorem pi_range1 {a : Expr} {ta : TA} {p pos : Pos} (hg : Gl X "range") (hm : X.mg "range" = none) (ha : PA X [a] ta) (hs : starEach [a] X.env = [(false, eval a X.env)] := by rfl) : PI X tg (.Call (.Name "range" p) [a] [] pos) (iRng1 ta) := by
  intro pins s σ H R I h
  refine Call_ (ld_blt I hg hm boot_range (PyProof.Rows.callWith_type1 (thn (ha pos pins s σ H _ I h) fun us s1 ⟨vs, H1, I1, r1, q1⟩ => ?_) hs rfl))
  obtain ⟨j, e, q1, q2, q⟩ := q1
  subst e
  cases r1 with
  | cons r rr =>
    cases rr
    obtain ⟨t, rfl⟩ := r
    exact call_range_1 (range_it I1 (by omega) (by omega) q1 q2 (by simpa using q))
def tFor (wi : TI) (g : TG) (tb : TS) : TS := fun D σ H => wi σ H fun J H1 => ∃ W : Nat -> Nat -> St -> Hp -> Prop, (∃ m, W 0 m σ H1) /\ ∀ i m σ H, W i m σ H ->
  (J.stop i H /\ D.nx σ H) \/ (J.go i H /\ ∃ N : St -> Hp -> Prop, (∀ σ' H', N σ' H' -> ∃ m', m' < m /\ W (i + 1) m' σ' H') /\ ∀ x H', J.yld i H x H' -> g x σ H' fun σ2 H2 => tb { D with nx := N, ct := N, bk := D.nx } σ2 H2)
def pinsAt (fp : List Addr) (h : Heap) : List (Addr × Obj) := fp.filterMap fun b => (h.get? b).map fun o => (b, o)
theorem mem_pinsAt {fp : List Addr} {h : Heap} {b : Addr} {o : Obj} (hb : b ∈ fp) (e : h.get? b = some o) : (b, o) ∈ pinsAt fp h := List.mem_filterMap.mpr ⟨b, hb, by rw [e]; rfl⟩
theorem of_pinsAt {fp : List Addr} {h : Heap} {p : Addr × Obj} (hp : p ∈ pinsAt fp h) : p.1 ∈ fp /\ h.get? p.1 = some p.2 := by
  obtain ⟨b, hb, e⟩ := List.mem_filterMap.mp hp
  cases q : h.get? b with
  | none => rw [q] at e; cases e
  | some o =>
    rw [q] at e
    have e' : (b, o) = p := Option.some.inj e
    subst e'
    exact ⟨hb, q⟩
theorem Inv.pinned {pins : List (Addr × Obj)} {σ : St} {H : Hp} {s : Shared} {fp : List Addr} (I : Inv X pins σ H s) (hf : ∀ b ∈ fp, FpOk X pins H b) (ho : ∀ b ∈ fp, ∃ o, s.heap.get? b = some o /\ ∀ v, o.data ≠ .cell v) : Inv X (pins ++ pinsAt fp s.heap) σ H s :=
  I.pins_of fun p hp => (List.mem_append.mp hp).elim (fun z => I.pin p (List.mem_append_right _ z)) fun z => by
    obtain ⟨hb, e⟩ := of_pinsAt z
    obtain ⟨f0, f1, f2, _⟩ := hf p.1 hb
    obtain ⟨o, e', d⟩ := ho p.1 hb
    rw [e] at e'; cases e'
    exact ⟨e, f0, f1, f2, d⟩
theorem Inv.unpinned {pins pl : List (Addr × Obj)} {σ : St} {H : Hp} {s : Shared} (I : Inv X (pins ++ pl) σ H s) : Inv X pins σ H s := I.pins_of fun p hp => I.pin p (List.mem_append_right _ (List.mem_append_left _ hp))
theorem ps_for {iter : Expr} {body : List Stmt} {wi : TI} {g : TG} {tb : TS} {pos : Pos} (hp : PassesOwn (model X.prog X.w) X.A X.env X.xe) (hc : X.calm = true) (hi : PI X tg iter wi) (hg : PG X tg g) (hb : PSs X body tb)
    (hs : ∀ x, foldedSetIterable iter X.env x = pure x := by intro _; rfl) : PS X (.For tg iter body [] pos) (tFor wi g tb) := by
  intro pins s σ H D I h
  refine wpAny_For (thn (hi pins s σ H _ I h) fun v s1 h1 => thn h1 fun itv s2 h2 => ?_) hs
  obtain ⟨it, fp, tn, J, H2, e, I2, T, st2, f2, W, ⟨m0, w0⟩, turn⟩ := h2
  subst e
  -- what stays true of the iterator's objects through the loop
  have stat : ∀ {H' : Hp}, (∀ b ∈ fp, H' b = none) -> ∀ b ∈ fp, FpOk X pins H' b := fun hn b hb => ⟨hn b hb, (f2 b hb).2⟩
  refine codeAny_forLoop_any (fun n s' => ∃ i σ' H', Inv X pins σ' H' s' /\ tn i s'.heap /\ (∀ b ∈ fp, H' b = none) /\ W i n σ' H') ?_ m0 ⟨0, σ, H2, I2, st2, fun b hb => (f2 b hb).1, w0⟩
  rintro n s3 ⟨i, σ3, H3, I3, st3, fr3, w3⟩
  rcases turn i n σ3 H3 w3 with ⟨stop, qn⟩ | ⟨go, N, hN, step⟩
  . refine wpAny_passesOwn hp (thn (T.done X rfl rfl rfl hc i pins s3 σ3 H3 X.xe I3 (stat fr3) st3 stop) fun r s4 ⟨hr, I4⟩ => ?_)
    subst hr
    exact wpAny_execs_nil ⟨σ3, H3, I4, qn⟩
  . refine wpAny_passesOwn hp (thn (T.item X rfl rfl rfl hc i pins s3 σ3 H3 X.xe I3 (stat fr3) st3 go) fun r s4 ⟨u, hr, h4⟩ => ?_)
    subst hr
    refine wpAny_passesOwn hp (thn h4 fun _ s5 ⟨x, H5, I5, r5, y5, st5, fr5⟩ => ?_)
    have I5' := I5.pinned (stat fr5) (T.obj _ _ st5)
    refine wpAny_passesOwn hp (thn (hg _ s5 σ3 H5 x u _ I5' r5 (step x H5 y5)) fun _ s6 ⟨σ6, H6, I6, q6⟩ => ?_)
    refine wpAny_passesOwn hp (thn (hb _ s6 σ6 H6 _ I6 q6) fun f s7 q7 => ?_)
    have again : ∀ {σ7 : St} {H7 : Hp}, Inv X (pins ++ pinsAt fp s5.heap) σ7 H7 s7 -> N σ7 H7 -> ∃ m, m < n /\ ∃ i σ' H', Inv X pins σ' H' s7 /\ tn i s7.heap /\ (∀ b ∈ fp, H' b = none) /\ W i m σ' H' := fun {σ7 H7} I7 n7 => by
      obtain ⟨m', hm, w7⟩ := hN σ7 H7 n7
      refine ⟨m', hm, i + 1, σ7, H7, I7.unpinned, T.keep _ _ _ st5 fun b hb o e => (I7.pin (b, o) (List.mem_append_right _ (List.mem_append_right _ (mem_pinsAt hb e)))).1, fun b hb => ?_, w7⟩
      obtain ⟨o, e, d⟩ := T.obj _ _ st5 b hb
      exact (I7.pin (b, o) (List.mem_append_right _ (List.mem_append_right _ (mem_pinsAt hb e)))).2.1
    cases f with
    | next => obtain ⟨σ7, H7, I7, n7⟩ := q7; exact again I7 n7
    | cont => obtain ⟨σ7, H7, I7, n7⟩ := q7; exact again I7 n7
    | brk => obtain ⟨σ7, H7, I7, q7⟩ := q7; exact ⟨σ7, H7, I7.unpinned, q7⟩
    | ret v => obtain ⟨x7, σ7, H7, I7, r7, q7⟩ := q7; exact ⟨x7, σ7, H7, I7.unpinned, r7, q7⟩
end

end L2

namespace L2
open PySem PySem.Spec PyProof.Rows

abbrev R2 := V -> V -> Hp -> VK -> Prop
def OpR (X : Cx) (f : Value -> Value -> Sem Value) (r : R2) : Prop :=
  ∀ (pins : List (Addr × Obj)) (s : Shared) (σ : St) (H : Hp) (x y : V) (v u : Value) (Q : VK), Inv X pins σ H s -> RelV x v -> RelV y u -> r x y H Q ->
    wpAny (model X.prog X.w) X.A (f v u) (EP X pins σ Q) X.xe s
def UnR (X : Cx) (f : Value -> Sem Value) (r : V -> Hp -> VK -> Prop) : Prop :=
  ∀ (pins : List (Addr × Obj)) (s : Shared) (σ : St) (H : Hp) (x : V) (v : Value) (Q : VK), Inv X pins σ H s -> RelV x v -> r x H Q ->
    wpAny (model X.prog X.w) X.A (f v) (EP X pins σ Q) X.xe s
def CallR (X : Cx) (f : Value) (r : List V -> Hp -> VK -> Prop) : Prop :=
  ∀ (pins : List (Addr × Obj)) (s : Shared) (σ : St) (H : Hp) (xs : List V) (us : List Value) (Q : VK), Inv X pins σ H s -> Vals xs us -> r xs H Q ->
    wpAny (model X.prog X.w) X.A (call f us) (EP X pins σ Q) X.xe s
def tOp (r : R2) (ta tb : TE) : TE := fun σ H Q => ta σ H fun x H1 => tb σ H1 fun y H2 => r x y H2 Q
def tUn (r : V -> Hp -> VK -> Prop) (ta : TE) : TE := fun σ H Q => ta σ H fun x H1 => r x H1 Q
def rI (C : Int -> Int -> Prop) (g : Int -> Int -> V) : R2 := fun x y H Q => ∃ i j, x = .int i /\ y = .int j /\ C i j /\ Q (g i j) H
def rI0 (g : Int -> Int -> V) : R2 := fun x y H Q => ∃ i j, x = .int i /\ y = .int j /\ Q (g i j) H
def rU (g : Int -> V) : V -> Hp -> VK -> Prop := fun x H Q => ∃ i, x = .int i /\ Q (g i) H

section
variable {X : Cx} {a b c : Expr} {ta tb tc : TE} {pos : Pos}

theorem binT (ha : PE X a ta) (hb : PE X b tb) {pins : List (Addr × Obj)} {s : Shared} {σ : St} {H : Hp} {R : V -> V -> Hp -> Prop} (I : Inv X pins σ H s)
    (h : ta σ H fun x H1 => tb σ H1 fun y H2 => R x y H2) {Q : Value -> Shared -> Prop} {f : Value -> Value -> Sem Value}
    (hf : ∀ v u s2 x y H2, Inv X pins σ H2 s2 -> RelV x v -> RelV y u -> R x y H2 -> wpAny (model X.prog X.w) X.A (f v u) Q X.xe s2) :
    wpAny (model X.prog X.w) X.A (eval a X.env) (fun v s₁ => wpAny (model X.prog X.w) X.A (eval b X.env) (fun u s₂ => wpAny (model X.prog X.w) X.A (f v u) Q X.xe s₂) X.xe s₁) X.xe s := by
  refine thn (ha pins s σ H _ I h) fun v s1 ⟨x, H1, I1, r1, q1⟩ => ?_
  refine thn (hb pins s1 σ H1 _ I1 q1) fun u s2 ⟨y, H2, I2, r2, q2⟩ => ?_
  exact hf v u s2 x y H2 I2 r1 r2 q2

theorem pe_op {op : Operator} {r : R2} (ho : OpR X (binaryOp op) r) (ha : PE X a ta) (hb : PE X b tb) : PE X (.BinOp a op b pos) (tOp r ta tb) := by
  intro pins s σ H Q I h
  exact wpAny_BinOp (binT ha hb I h fun v u s2 x y H2 I2 rx ry q => ho pins s2 σ H2 x y v u Q I2 rx ry q)
theorem pe_un {op : UnaryOp} {r : V -> Hp -> VK -> Prop} (ho : UnR X (unaryOp op) r) (ha : PE X a ta) : PE X (.UnaryOp op a pos) (tUn r ta) := by
  intro pins s σ H Q I h
  exact UnaryOp_ (thn (ha pins s σ H _ I h) fun v s1 ⟨x, H1, I1, r1, q1⟩ => ho pins s1 σ H1 x v Q I1 r1 q1)
theorem opI {f : Value -> Value -> Sem Value} {C : Int -> Int -> Prop} {g : Int -> Int -> Int}
    (rule : ∀ (i j : Int) (t u : Tok) (s : Shared) (Q : Value -> Shared -> Prop) (E : Value -> Shared -> Prop), C i j -> Q (.int (g i j) s.toks) { s with toks := s.toks + 1 } -> wpAny (model X.prog X.w) X.A (f (.int i t) (.int j u)) Q E s) :
    OpR X f (rI C fun i j => .int (g i j)) := by
  intro pins s σ H x y v u Q I rx ry h
  obtain ⟨i, j, rfl, rfl, hc, q⟩ := h
  obtain ⟨t, rfl⟩ := rx
  obtain ⟨t', rfl⟩ := ry
  exact rule i j t t' s _ _ hc ⟨.int (g i j), H, I.tok _, ⟨_, rfl⟩, q⟩
theorem opI0 {f : Value -> Value -> Sem Value} {g : Int -> Int -> Int}
    (rule : ∀ (i j : Int) (t u : Tok) (s : Shared) (Q : Value -> Shared -> Prop) (E : Value -> Shared -> Prop), Q (.int (g i j) s.toks) { s with toks := s.toks + 1 } -> wpAny (model X.prog X.w) X.A (f (.int i t) (.int j u)) Q E s) :
    OpR X f (rI0 fun i j => .int (g i j)) := by
  intro pins s σ H x y v u Q I rx ry h
  obtain ⟨i, j, rfl, rfl, q⟩ := h
  obtain ⟨t, rfl⟩ := rx
  obtain ⟨t', rfl⟩ := ry
  exact rule i j t t' s _ _ ⟨.int (g i j), H, I.tok _, ⟨_, rfl⟩, q⟩
theorem opB0 {f : Value -> Value -> Sem Value} {g : Int -> Int -> Bool}
    (rule : ∀ (i j : Int) (t u : Tok) (s : Shared) (Q : Value -> Shared -> Prop) (E : Value -> Shared -> Prop), Q (.bool (g i j)) s -> wpAny (model X.prog X.w) X.A (f (.int i t) (.int j u)) Q E s) :
    OpR X f (rI0 fun i j => .bl (g i j)) := by
  intro pins s σ H x y v u Q I rx ry h
  obtain ⟨i, j, rfl, rfl, q⟩ := h
  obtain ⟨t, rfl⟩ := rx
  obtain ⟨t', rfl⟩ := ry
  exact rule i j t t' s _ _ ⟨.bl (g i j), H, I, rfl, q⟩

def CPow (i j : Int) : Prop := 0 <= j /\ j <= 1000000 /\ i.natAbs < 2 ^ 64
def CMul (i j : Int) : Prop := (-(2 ^ 64) < i /\ i < 2 ^ 64) \/ (-(2 ^ 64) < j /\ j < 2 ^ 64)
theorem CMul.ok {i j : Int} (h : CMul i j) : IntMulOk i j := by
  rcases h with ⟨h1, h2⟩ | ⟨h1, h2⟩
  . exact .of_left (intBits_le_64 h1 h2)
  . exact .of_right (intBits_le_64 h1 h2)
theorem op_add : OpR X (binaryOp .Add) (rI0 fun i j => .int (i + j)) := opI0 fun _ _ _ _ _ _ _ q => add_int q
theorem op_sub : OpR X (binaryOp .Sub) (rI0 fun i j => .int (i - j)) := opI0 fun _ _ _ _ _ _ _ q => sub_int q
theorem op_mul : OpR X (binaryOp .Mult) (rI CMul fun i j => .int (i * j)) := opI fun _ _ _ _ _ _ _ hc q => mul_int q hc.ok
theorem op_mod : OpR X (binaryOp .Mod) (rI (fun _ j => 0 < j) fun i j => .int (i % j)) := opI fun i j _ _ _ _ _ hc q => by
  have h1 : (0 : Int) < j := hc
  exact mod_int' (by omega) (by rw [Int.fmod_eq_emod_of_nonneg i (by omega)]; exact q)
theorem op_pow : OpR X (binaryOp .Pow) (rI CPow fun i j => .int (i ^ j.toNat)) := opI fun _ _ _ _ _ _ _ hc q => pow_int_small hc.1 hc.2.1 hc.2.2 q
theorem unI {f : Value -> Sem Value} {g : Int -> Int}
    (rule : ∀ (i : Int) (t : Tok) (s : Shared) (Q : Value -> Shared -> Prop) (E : Value -> Shared -> Prop), Q (.int (g i) s.toks) { s with toks := s.toks + 1 } -> wpAny (model X.prog X.w) X.A (f (.int i t)) Q E s) :
    UnR X f (rU fun i => .int (g i)) := by
  intro pins s σ H x v Q I rx h
  obtain ⟨i, rfl, q⟩ := h
  obtain ⟨t, rfl⟩ := rx
  exact rule i t s _ _ ⟨.int (g i), H, I.tok _, ⟨_, rfl⟩, q⟩
theorem un_neg : UnR X (unaryOp .USub) (rU fun i => .int (-i)) := unI fun _ _ _ _ _ q => neg_int q
end

def scal : V -> V -> Bool
  | .non, .non => true | .non, .int _ => true | .int _, .non => true | .non, .bl _ => true | .bl _, .non => true | .non, .str _ => true | .str _, .non => true
  | .int _, .int _ => true | .bl _, .bl _ => true | .str _, .str _ => true | .byt _, .byt _ => true
  | .int _, .str _ => true | .str _, .int _ => true | .bl _, .str _ => true | .str _, .bl _ => true
  | _, _ => false
def rEq : R2 := fun x y H Q => scal x y = true /\ Q (.bl (decide (x = y))) H
def rNe : R2 := fun x y H Q => scal x y = true /\ Q (.bl (!decide (x = y))) H

theorem dec_int {i j : Int} : decide (V.int i = V.int j) = (i == j) := by
  rw [Bool.eq_iff_iff]
  simp
theorem dec_bl {i j : Bool} : decide (V.bl i = V.bl j) = (i == j) := by
  rw [Bool.eq_iff_iff]
  simp
theorem dec_str {i j : Str} : decide (V.str i = V.str j) = (i == j) := by
  rw [Bool.eq_iff_iff]
  simp
theorem dec_byt {i j : Array UInt8} : decide (V.byt i = V.byt j) = (i.toList == j.toList) := by
  rw [Bool.eq_iff_iff]
  cases i
  cases j
  simp

section
variable {X : Cx} {a b c : Expr} {ta tb tc : TE} {pos : Pos}
theorem fin_bl {pins : List (Addr × Obj)} {σ : St} {H : Hp} {s : Shared} {Q : VK} {k k' : Bool} (I : Inv X pins σ H s) (q : Q (.bl k) H) (e : k = k') : EP X pins σ Q (.bool k') s := by
  subst e
  exact ⟨.bl k, H, I, rfl, q⟩
theorem op_eq : OpR X (compareOp .Eq) rEq := by
  intro pins s σ H x y v u Q I rx ry h
  obtain ⟨hs, q⟩ := h
  cases x with
  | non =>
    cases rx
    cases y with
    | non => cases ry; exact PySem.EqNone.eq_none_none (fin_bl I q (by simp))
    | bl j => cases ry; exact PySem.EqNone.eq_none_bool (fin_bl I q (by simp))
    | int j => obtain ⟨t', rfl⟩ := ry; exact PySem.EqNone.eq_none_int (fin_bl I q (by simp))
    | str j => obtain ⟨t', rfl⟩ := ry; exact PySem.EqNone.eq_none_str (fin_bl I q (by simp))
    | _ => exact absurd (show false = true from hs) Bool.false_ne_true
  | bl i =>
    cases rx
    cases y with
    | non => cases ry; exact PySem.EqNone.eq_bool_none (fin_bl I q (by simp))
    | bl j => cases ry; exact eq_bool (fin_bl I q dec_bl)
    | str j => obtain ⟨t', rfl⟩ := ry; exact PySem.EqMixed.eq_bool_str (fin_bl I q (by simp))
    | _ => exact absurd (show false = true from hs) Bool.false_ne_true
  | int i =>
    obtain ⟨t, rfl⟩ := rx
    cases y with
    | non => cases ry; exact PySem.EqNone.eq_int_none (fin_bl I q (by simp))
    | int j => obtain ⟨t', rfl⟩ := ry; exact eq_int (fin_bl I q dec_int)
    | str j => obtain ⟨t', rfl⟩ := ry; exact PySem.EqMixed.eq_int_str (fin_bl I q (by simp))
    | _ => exact absurd (show false = true from hs) Bool.false_ne_true
  | str i =>
    obtain ⟨t, rfl⟩ := rx
    cases y with
    | non => cases ry; exact PySem.EqNone.eq_str_none (fin_bl I q (by simp))
    | bl j => cases ry; exact PySem.EqMixed.eq_str_bool (fin_bl I q (by simp))
    | int j => obtain ⟨t', rfl⟩ := ry; exact PySem.EqMixed.eq_str_int (fin_bl I q (by simp))
    | str j => obtain ⟨t', rfl⟩ := ry; exact eq_str (fin_bl I q dec_str)
    | _ => exact absurd (show false = true from hs) Bool.false_ne_true
  | byt i =>
    obtain ⟨t, rfl⟩ := rx
    cases y with
    | byt j => obtain ⟨t', rfl⟩ := ry; exact PySem.W.eq_bytes (fin_bl I q dec_byt)
    | _ => exact absurd (show false = true from hs) Bool.false_ne_true
  | _ => cases y <;> exact absurd (show false = true from hs) Bool.false_ne_true
theorem op_ne : OpR X (compareOp .NotEq) rNe := by
  intro pins s σ H x y v u Q I rx ry h
  obtain ⟨hs, q⟩ := h
  cases x with
  | non =>
    cases rx
    cases y with
    | non => cases ry; exact PySem.EqNone.ne_none_none (fin_bl I q (by simp))
    | bl j => cases ry; exact PySem.EqNone.ne_none_bool (fin_bl I q (by simp))
    | int j => obtain ⟨t', rfl⟩ := ry; exact PySem.EqNone.ne_none_int (fin_bl I q (by simp))
    | str j => obtain ⟨t', rfl⟩ := ry; exact PySem.EqNone.ne_none_str (fin_bl I q (by simp))
    | _ => exact absurd (show false = true from hs) Bool.false_ne_true
  | bl i =>
    cases rx
    cases y with
    | non => cases ry; exact PySem.EqNone.ne_bool_none (fin_bl I q (by simp))
    | bl j => cases ry; exact ne_bool (fin_bl I q (congrArg not dec_bl))
    | str j => obtain ⟨t', rfl⟩ := ry; exact PySem.EqMixed.ne_bool_str (fin_bl I q (by simp))
    | _ => exact absurd (show false = true from hs) Bool.false_ne_true
  | int i =>
    obtain ⟨t, rfl⟩ := rx
    cases y with
    | non => cases ry; exact PySem.EqNone.ne_int_none (fin_bl I q (by simp))
    | int j => obtain ⟨t', rfl⟩ := ry; exact ne_int (fin_bl I q (congrArg not dec_int))
    | str j => obtain ⟨t', rfl⟩ := ry; exact PySem.EqMixed.ne_int_str (fin_bl I q (by simp))
    | _ => exact absurd (show false = true from hs) Bool.false_ne_true
  | str i =>
    obtain ⟨t, rfl⟩ := rx
    cases y with
    | non => cases ry; exact PySem.EqNone.ne_str_none (fin_bl I q (by simp))
    | bl j => cases ry; exact PySem.EqMixed.ne_str_bool (fin_bl I q (by simp))
    | int j => obtain ⟨t', rfl⟩ := ry; exact PySem.EqMixed.ne_str_int (fin_bl I q (by simp))
    | str j => obtain ⟨t', rfl⟩ := ry; exact ne_str (fin_bl I q (congrArg not dec_str))
    | _ => exact absurd (show false = true from hs) Bool.false_ne_true
  | byt i =>
    obtain ⟨t, rfl⟩ := rx
    cases y with
    | byt j => obtain ⟨t', rfl⟩ := ry; exact PySem.W.ne_bytes (fin_bl I q (congrArg not dec_byt))
    | _ => exact absurd (show false = true from hs) Bool.false_ne_true
  | _ => cases y <;> exact absurd (show false = true from hs) Bool.false_ne_true

theorem op_lt : OpR X (compareOp .Lt) (rI0 fun i j => .bl (decide (i < j))) := opB0 fun _ _ _ _ _ _ _ q => lt_int q
theorem op_le : OpR X (compareOp .LtE) (rI0 fun i j => .bl (decide (i <= j))) := opB0 fun _ _ _ _ _ _ _ q => le_int q
theorem op_ge : OpR X (compareOp .GtE) (rI0 fun i j => .bl (decide (j <= i))) := opB0 fun _ _ _ _ _ _ _ q => ge_int q
theorem OpR.or {f : Value -> Value -> Sem Value} {r r' : R2} (h : OpR X f r) (h' : OpR X f r') : OpR X f (fun x y H Q => r x y H Q \/ r' x y H Q) := by
  intro pins s σ H x y v u Q I rx ry q
  rcases q with q | q
  . exact h pins s σ H x y v u Q I rx ry q
  . exact h' pins s σ H x y v u Q I rx ry q

theorem nomark (b : Expr) {op : CmpOp} (h : op ≠ .In := by decide) (h2 : op ≠ .NotIn := by decide) : behindInMarks op b = false := by
  have e1 : (op == CmpOp.In) = false := by cases op <;> first | rfl | exact absurd rfl h
  have e2 : (op == CmpOp.NotIn) = false := by cases op <;> first | rfl | exact absurd rfl h2
  cases b <;> simp [behindInMarks, e1, e2]
theorem pe_cmpR {op : CmpOp} {r : R2} (ho : OpR X (compareOp op) r) (ha : PE X a ta) (hb : PE X b tb) (hm : behindInMarks op b = false) : PE X (.Compare a [op] [b] pos) (tOp r ta tb) := by
  intro pins s σ H Q I h
  exact wpAny_Compare1 (binT ha hb I h fun v u s2 x y H2 I2 rx ry q => ho pins s2 σ H2 x y v u Q I2 rx ry q) hm
def tTest (t : TE) : TT := fun σ H Q => t σ H fun x H' => ∃ k, x = .bl k /\ Q k H'
theorem pt_cmpR {op : CmpOp} {r : R2} (ho : OpR X (compareOp op) r) (ha : PE X a ta) (hb : PE X b tb) (hm : behindInMarks op b = false) : PT X (.Compare a [op] [b] pos) (tTest (tOp r ta tb)) := by
  intro pins s σ H Q I h
  refine wpAny_isTrue_Compare1 (thn (ha pins s σ H _ I h) fun v s1 ⟨x, H1, I1, r1, q1⟩ => thn (hb pins s1 σ H1 _ I1 q1) fun u s2 ⟨y, H2, I2, r2, q2⟩ =>
    thn (ho pins s2 σ H2 x y v u _ I2 r1 r2 q2) fun c s3 ⟨z, H3, I3, r3, k, e, q3⟩ => ?_) hm
  subst e
  cases r3
  exact wpAny_truthy_bool ⟨H3, I3, q3⟩
theorem line63 : (sizeLine : Nat) < 2 ^ 63 := by rw [sizeLine_eq]; decide
theorem op_add_str : OpR X (binaryOp .Add) (fun x y H Q => ∃ i j, x = .str i /\ y = .str j /\ i.length + j.length <= sizeLine /\ Q (.str (i ++ j)) H) := by
  intro pins s σ H x y v u Q I rx ry h
  obtain ⟨i, j, rfl, rfl, hz, q⟩ := h
  obtain ⟨t, rfl⟩ := rx
  obtain ⟨t', rfl⟩ := ry
  exact add_str (fun t' tk => ⟨.str (i ++ j), H, I.tok _, ⟨_, rfl⟩, q⟩) hz
theorem vals1 {x : V} {us : List Value} (r : Vals [x] us) : ∃ u, us = [u] /\ RelV x u := by
  cases r with
  | cons r1 r2 => cases r2; exact ⟨_, rfl, r1⟩
theorem vals2 {x y : V} {us : List Value} (r : Vals [x, y] us) : ∃ u w', us = [u, w'] /\ RelV x u /\ RelV y w' := by
  cases r with
  | cons r1 r2 =>
    cases r2 with
    | cons r3 r4 => cases r4; exact ⟨_, _, rfl, r1, r3⟩
theorem call_abs : CallR X (.builtin "abs") (fun xs H Q => ∃ i, xs = [.int i] /\ Q (.int (if i < 0 then -i else i)) H) := by
  intro pins s σ H xs us Q I r h
  obtain ⟨i, rfl, q⟩ := h
  obtain ⟨u, rfl, t, rfl⟩ := vals1 r
  exact call_abs_int fun u tk => ⟨.int (if i < 0 then -i else i), H, I.tok _, ⟨_, rfl⟩, q⟩
end
end L2

namespace L2
open PySem PySem.Spec PyProof.Rows

structure ObjM (h : Heap) (x dx C : Addr) (mA : Str -> Option Value) : Prop where
  obj : h.get? x = some (PySem.W.instObj C dx)
  ns : h.Ns1 dx mA
  ne : dx ≠ x

theorem lookIn_ns {h : Heap} {dx : Addr} {mA : Str -> Option Value} (n : h.Ns1 dx mA) : ∃ od, h.get? dx = some od /\ ∀ name, PySem.W.lookIn name od = some (mA name) := by
  obtain ⟨o, es, ep, ho, hd, hk, _, hm⟩ := n
  refine ⟨o, ho, fun name => ?_⟩
  have e := hm name
  unfold nsFind findBy at e
  rw [<- Array.find?_toList] at e
  unfold PySem.W.lookIn
  rw [hd]
  dsimp only
  split
  . rename_i y q
    rw [q] at e
    exact congrArg some e
  . rename_i q
    rw [q] at e
    have a : es.toList.any (·.refKey) = false := by
      rw [List.any_eq_false]
      intro y hy
      obtain ⟨z, t, hkey⟩ := hk y (Array.mem_toList_iff.mp hy)
      simp [DictEntry.refKey, hkey]
    have a' : ¬ es.toList.any (·.refKey) = true := by rw [a]; exact Bool.false_ne_true
    rw [if_neg a']
    exact congrArg some e

theorem ObjM.look {h : Heap} {x dx C : Addr} {mA : Str -> Option Value} (I : ObjM h x dx C mA) : ∃ od, PySem.W.InstAt h x (PySem.W.instObj C dx) C (some od) /\ ∀ name, PySem.W.lookIn name od = some (mA name) :=
  let ⟨od, ho, hl⟩ := lookIn_ns I.ns
  ⟨od, ⟨I.obj, rfl, rfl, ho⟩, hl⟩

section
variable {prog : Program} {w : World} {A : Around} {E : Value -> Shared -> Prop} {s : Shared} {K : PySem.W.Frag} {x dx C f : Addr} {mA : Str -> Option Value} {name : Str} {v : Value}

theorem get_map {expr : Bool} {Q : Value -> Shared -> Prop} (X : K.In s.heap) (I : ObjM s.heap x dx C mA) (hg : PySem.W.plainGet K C name = true) (hh : PySem.W.hasDictIn K C = true)
    (ha : PySem.W.findIn K (.ref C) name = some none) (hv : mA name = some v) (hv' : PySem.W.handedIn v = true) (h : Q v { s with toks := s.toks + 1 }) :
    wpAny (model prog w) A (getAttr (.ref x) name expr) Q E s := by
  obtain ⟨od, J, hl⟩ := I.look
  exact PySem.W.get_value X J (PySem.W.plainGet_of hg).1 (PySem.W.findObj_own hh ha rfl (by rw [hl, hv])) hv' h

theorem get_meth {pl : Sem Bool} {Q : Value × List Value -> Shared -> Prop} (X : K.In s.heap) (I : ObjM s.heap x dx C mA) (hg : PySem.W.plainGet K C name = true)
    (hf : PySem.W.findIn K (.ref C) name = some (some (.ref f))) (ht : PySem.W.isFn K (.ref f) = true) (hv : mA name = none) (h : Q (.ref f, [.ref x]) s) :
    wpAny (model prog w) A (getMethod (.ref x) name pl) Q E s := by
  obtain ⟨od, J, hl⟩ := I.look
  exact PySem.W.method_fn X J (PySem.W.plainGet_of hg).1 (PySem.W.plainGet_of hg).2 hf (beq_iff_eq.mp ht) (by show (PySem.W.lookIn name od).map (·.isSome) = some false; rw [hl, hv]; rfl) h

theorem set_map {ns : List Str} {Q : Unit -> Shared -> Prop} (X : K.In s.heap) (I : ObjM s.heap x dx C mA)
    (hs : PySem.W.findIn K (.ref C) "__setattr__" = some (some (.builtin "object.__setattr__"))) (hp : PySem.W.plainOver K C = true) (ht : PySem.W.takerIn K C name = some none) (hh : PySem.W.hasDictIn K C = true)
    (hw : PySem.Within mA ns) (hsz : ns.length <= sizeLine)
    (h : ∀ h', ObjM h' x dx C (fun y => if y = name then some v else mA y) -> Heap.SameBut dx s.heap h' -> Q () { s with heap := h', toks := s.toks + 2 }) :
    wpAny (model prog w) A (setAttr (.ref x) name v) Q E s := by
  obtain ⟨od, J, hl⟩ := I.look
  refine PySem.W.set_plain X J hs (PySem.W.osa_open (s := { s with toks := s.toks + 1 }) (r := none) X J hp ht fun b => ?_)
  obtain ⟨cd, hc, hd'⟩ := PySem.W.any_some hh
  have hx : s.heap.get? x = some ⟨.ref C, some dx, .plain, #[]⟩ := I.obj
  refine wpAny_bind (wpAny_pure (wpAny_bind (wpAny_bind (wpAny_loadPart hx (wpAny_bind (PySem.W.Looks.here (s := { s with toks := s.toks + 1 }) (PySem.W.looks_clsIn X hc) ?_))))))
  rw [hd']
  refine wpAny_pure (a := some dx) (wpAny_bind (wpAny_pure (wpAny_bind ?_)))
  refine wpAny_nsSet1 (s := { s with toks := s.toks + 1 }) I.ns fun h' hn2 hs2 => ?_
  obtain ⟨oD, esD, epD, hoD, hdD, hcD⟩ := hn2.count (PySem.Within.cons name v hw)
  refine wpAny_bind (wpAny_lookBehind hoD (by rw [hdD]; exact pastItsLine_dict (Nat.le_trans hcD (by rw [List.length_cons]; omega))) ?_)
  exact wpAny_pure (h _ ⟨(hs2.2 _ (Ne.symm I.ne)).trans I.obj, hn2, I.ne⟩ hs2)

theorem make_map {R : Result -> Shared -> Prop} {vs : List Value} {kw : List (Str × Value)} (X : K.In s.heap) (hm : PySem.W.makesIn K C = true)
    (hi : PySem.W.findIn K (.ref C) "__init__" = some (some (.ref f))) (hf : PySem.W.typeIn K (.ref f) = some (.type "function"))
    (h : codeAny (model prog w) (A.under (.builtin "type.__call__" ⟨.ref C :: vs, kw⟩)) (.call (.ref f) ⟨.ref (s.heap.objs.size + 1) :: vs, kw⟩) (PySem.W.InitBack (s.heap.objs.size + 1) R)
      { s with heap := (s.heap.push PySem.W.emptyDict).push (PySem.W.instObj C s.heap.objs.size) }) :
    codeAny (model prog w) A (.call (.ref C) ⟨vs, kw⟩) R s := by
  obtain ⟨hh, g, d, t, os⟩ := s
  exact PySem.W.make_core (PySem.W.makes_of X hm) (PySem.W.looks_findIn X hi) (fun self => PySem.W.bind_fn X self hf) (.inl rfl) h
end

def putF (f : Str) (v : V) : List (Str × V) -> List (Str × V)
  | [] => [(f, v)]
  | (g, x) :: r => if g = f then (g, v) :: r else (g, x) :: putF f v r
theorem lookup_putF (f g : Str) (v : V) : ∀ fs : List (Str × V), (putF f v fs).lookup g = if g = f then some v else fs.lookup g
  | [] => by
    show List.lookup g [(f, v)] = _
    by_cases h : g = f
    . have hb : (g == f) = true := beq_iff_eq.mpr h
      simp only [List.lookup, hb, if_pos h]
    . have hb : (g == f) = false := beq_eq_false_iff_ne.mpr h
      simp only [List.lookup, hb, if_neg h]
  | (k, x) :: r => by
    have ih := lookup_putF f g v r
    rw [show putF f v ((k, x) :: r) = (if k = f then (k, v) :: r else (k, x) :: putF f v r) from rfl]
    by_cases hk : k = f
    . rw [if_pos hk]
      by_cases h : g = k
      . have hb : (g == k) = true := beq_iff_eq.mpr h
        simp only [List.lookup, hb, if_pos (h.trans hk)]
      . have hb : (g == k) = false := beq_eq_false_iff_ne.mpr h
        simp only [List.lookup, hb, if_neg (fun e : g = f => h (e.trans hk.symm))]
    . rw [if_neg hk]
      by_cases h : g = k
      . have hb : (g == k) = true := beq_iff_eq.mpr h
        simp only [List.lookup, hb, if_neg (fun e : g = f => hk (h.symm.trans e))]
      . have hb : (g == k) = false := beq_eq_false_iff_ne.mpr h
        simp only [List.lookup, hb]
        exact ih
theorem keys_putF (f : Str) (v : V) : ∀ fs : List (Str × V), f ∈ (putF f v fs).map (·.1) /\ ∀ g, g ∈ fs.map (·.1) -> g ∈ (putF f v fs).map (·.1)
  | [] => ⟨by simp [putF], fun g h => by simp at h⟩
  | (k, x) :: r => by
    obtain ⟨i1, i2⟩ := keys_putF f v r
    rw [show putF f v ((k, x) :: r) = (if k = f then (k, v) :: r else (k, x) :: putF f v r) from rfl]
    by_cases hk : k = f
    . rw [if_pos hk]
      subst hk
      exact ⟨by simp, fun g h => by simpa using h⟩
    . rw [if_neg hk]
      refine ⟨?_, fun g h => ?_⟩
      . rw [List.map_cons]
        exact List.mem_cons_of_mem _ i1
      . rw [List.map_cons] at h ⊢
        rcases List.mem_cons.mp h with e | e
        . exact List.mem_cons.mpr (.inl e)
        . exact List.mem_cons_of_mem _ (i2 g e)
theorem length_putF (f : Str) (v : V) : ∀ fs : List (Str × V), (putF f v fs).length <= fs.length + 1
  | [] => by simp [putF]
  | (k, x) :: r => by
    have ih := length_putF f v r
    rw [show putF f v ((k, x) :: r) = (if k = f then (k, v) :: r else (k, x) :: putF f v r) from rfl]
    by_cases hk : k = f
    . rw [if_pos hk, List.length_cons, List.length_cons]; omega
    . rw [if_neg hk, List.length_cons, List.length_cons]; omega

theorem RelO.some_of {v : V} {o : Option Value} (r : RelO (some v) o) : ∃ u, o = some u /\ RelV v u := by
  cases o with
  | none => exact (show False from r).elim
  | some u => exact ⟨u, rfl, r⟩
theorem RelO.none_of {o : Option Value} (r : RelO none o) : o = none := by
  cases o with
  | none => rfl
  | some u => exact (show False from r).elim
theorem handed_of {v : V} {u : Value} (r : RelV v u) : PySem.W.handedIn u = true := by
  cases v with
  | non => cases (show u = Value.none from r); rfl
  | bl b => cases (show u = Value.bool b from r); rfl
  | int i => obtain ⟨t, e⟩ := (show ∃ t, u = Value.int i t from r); cases e; rfl
  | str x => obtain ⟨t, e⟩ := (show ∃ t, u = Value.str x t from r); cases e; rfl
  | byt b => obtain ⟨t, e⟩ := (show ∃ t, u = Value.bytes b t from r); cases e; rfl
  | flt b => obtain ⟨t, e⟩ := (show ∃ t, u = Value.float b t from r); cases e; rfl
  | ref a => cases (show u = Value.ref a from r); rfl
  | ty n => cases (show u = Value.type n from r); rfl

section
variable {P : Program} {w : World} {H H' : Hp} {h h' : Heap} {a C dx : Addr} {fs fs' : List (Str × V)}
theorem ins_get (hok : HOk P w H h) (e : H a = some (.ins C dx fs)) : ∃ mA, ObjM h a dx C mA /\ (∀ f, RelO (fs.lookup f) (mA f)) /\ PySem.Within mA (fs.map (·.1)) /\ fs.length <= 1000 /\ H dx = some (.own a) := by
  obtain ⟨d, z, ne, ob, mA, n, r, q⟩ := (show ObjOk P w H h a (.ins C dx fs) from hok a _ e)
  exact ⟨mA, ⟨ob, n, ne⟩, r, q, z, d⟩
end

structure Cls (K : PySem.W.Frag) (C : Addr) : Prop where
  pg : PySem.W.plainGet K C Str.empty = true
  hd : PySem.W.hasDictIn K C = true
  po : PySem.W.plainOver K C = true
  sa : PySem.W.findIn K (.ref C) "__setattr__" = some (some (.builtin "object.__setattr__"))
theorem Cls.get {K : PySem.W.Frag} {C : Addr} (c : Cls K C) (f : Str) : PySem.W.plainGet K C f = true := c.pg
def NoAttr (K : PySem.W.Frag) (C : Addr) (f : Str) : Prop := PySem.W.findIn K (.ref C) f = some none
theorem NoAttr.taker {K : PySem.W.Frag} {C : Addr} {f : Str} (n : NoAttr K C f) : PySem.W.takerIn K C f = some none := by
  unfold PySem.W.takerIn
  rw [show PySem.W.findIn K (.ref C) f = some none from n]
  rfl
structure Meth (K : PySem.W.Frag) (C : Addr) (m : Str) (f : Addr) : Prop where
  at_ : PySem.W.findIn K (.ref C) m = some (some (.ref f))
  fn : PySem.W.isFn K (.ref f) = true
  kp : PySem.W.keepIn K (.ref f) = true

section
variable {X : Cx} {pins : List (Addr × Obj)} {σ : St} {H : Hp} {s : Shared} {a C dx : Addr} {fs : List (Str × V)} {f : Str} {v : V} {A : Around} {E : Value -> Shared -> Prop}

theorem getattr_ok {b : Bool} {Q : Value -> Shared -> Prop} (I : Inv X pins σ H s) (e : H a = some (.ins C dx fs)) (c : Cls X.K C) (n : NoAttr X.K C f) (l : fs.lookup f = some v)
    (h : ∀ u s', Inv X pins σ H s' -> RelV v u -> Q u s') : wpAny (model X.prog X.w) A (getAttr (.ref a) f b) Q E s := by
  obtain ⟨mA, O, r, _, _, _⟩ := ins_get I.hok e
  obtain ⟨u, hu, ru⟩ := RelO.some_of (v := v) (o := mA f) (by rw [<- l]; exact r f)
  exact get_map I.kIn O (c.get f) c.hd n hu (handed_of ru) (h u _ (I.tok _) ru)

theorem getmeth_ok {m : Str} {g : Addr} {pl : Sem Bool} {Q : Value × List Value -> Shared -> Prop} (I : Inv X pins σ H s) (e : H a = some (.ins C dx fs)) (c : Cls X.K C) (k : Meth X.K C m g) (l : fs.lookup m = none)
    (h : Q (.ref g, [.ref a]) s) : wpAny (model X.prog X.w) A (getMethod (.ref a) m pl) Q E s := by
  obtain ⟨mA, O, r, _, _, _⟩ := ins_get I.hok e
  have hn : mA m = none := RelO.none_of (by rw [<- l]; exact r m)
  exact get_meth I.kIn O (c.get m) k.at_ k.fn hn h

theorem setattr_ok {y : V} {u : Value} {Q : Unit -> Shared -> Prop} (I : Inv X pins σ H s) (e : H a = some (.ins C dx fs)) (c : Cls X.K C) (n : NoAttr X.K C f) (hl : fs.length < 1000) (ry : RelV y u)
    (h : ∀ s', Inv X pins σ (upd H a (.ins C dx (putF f y fs))) s' -> Q () s') : wpAny (model X.prog X.w) A (setAttr (.ref a) f u) Q E s := by
  obtain ⟨mA, O, r, wi, _, ho⟩ := ins_get I.hok e
  have hz : (fs.map (·.1)).length <= sizeLine := by rw [List.length_map, sizeLine_eq]; omega
  refine set_map I.kIn O c.sa c.po n.taker c.hd wi hz fun h' O' sb => h _ ?_
  have hd : ∃ o, h'.get? dx = some o := let ⟨o, _, _, e', _⟩ := O'.ns; ⟨o, e'⟩
  refine I.write (x := a) (e := dx) (by rw [e]; exact True.intro) (.inr ho) (fun b q hb z => (sb.2 b hb).trans z) hd ?_
  refine ⟨by rw [upd_ne O.ne]; exact ho, ?_, O.ne, O'.obj, _, O'.ns, fun g => ?_, fun g hg => ?_⟩
  . have := length_putF f y fs; omega
  . show RelO ((putF f y fs).lookup g) (if g = f then some u else mA g)
    rw [lookup_putF]
    by_cases q : g = f
    . rw [if_pos q, if_pos q]; exact ry
    . rw [if_neg q, if_neg q]; exact r g
  . by_cases q : g = f
    . rw [q]; exact (keys_putF f y fs).1
    . refine (keys_putF f y fs).2 g (wi g fun z => hg ?_)
      show (if g = f then some u else mA g) = none
      rw [if_neg q]; exact z

theorem Inv.made (I : Inv X pins σ H s) : Inv X pins σ (upd (upd H s.heap.objs.size (.own (s.heap.objs.size + 1))) (s.heap.objs.size + 1) (.ins C s.heap.objs.size []))
    { s with heap := (s.heap.push PySem.W.emptyDict).push (PySem.W.instObj C s.heap.objs.size) } := by
  have e1 : (s.heap.push PySem.W.emptyDict).get? s.heap.objs.size = some PySem.W.emptyDict := Heap.get?_push_size s.heap rfl
  have e2 : ((s.heap.push PySem.W.emptyDict).push (PySem.W.instObj C s.heap.objs.size)).get? (s.heap.objs.size + 1) = some (PySem.W.instObj C s.heap.objs.size) := by
    have := Heap.get?_push_size (s.heap.push PySem.W.emptyDict) (o := PySem.W.instObj C s.heap.objs.size) rfl
    rwa [Heap.size_push] at this
  have e3 : (s.heap.push PySem.W.emptyDict).Ns s.heap.objs.size (fun _ => none) := ⟨PySem.W.emptyDict, #[], _, e1, rfl, (fun e he => absurd he (by simp)), fun _ => rfl⟩
  have I1 := I.laid (a := s.heap.objs.size) (o := .own (s.heap.objs.size + 1)) (h' := s.heap.push PySem.W.emptyDict) (t' := s.toks) (fun b u q => Heap.get?_push_of_some _ q) (Nat.le_refl _) ⟨_, e1⟩
  refine I1.laid (a := s.heap.objs.size + 1) (o := .ins C s.heap.objs.size []) (t' := s.toks) (fun b u q => Heap.get?_push_of_some _ q) (Nat.le_of_eq (Heap.size_push _ _)) ?_
  have ne : s.heap.objs.size ≠ s.heap.objs.size + 1 := Nat.ne_of_lt (Nat.lt_succ_self _)
  refine ⟨by rw [upd_ne ne, upd_same], Nat.zero_le _, ne, e2, fun _ => none, (Heap.Ns1.of_empty e3).at fun o q => Heap.get?_push_of_some _ q, fun _ => True.intro, fun y hy => absurd rfl hy⟩

theorem attr_of {prog : Program} {w : World} {env : Env} {e : Expr} {f : Str} {pos : Pos} {s : Shared} {Q : Value -> Shared -> Prop} (hb : attributeBase e f env (eval e env) = eval e env)
    (h : wpAny (model prog w) A (eval e env) (fun o s₁ => wpAny (model prog w) A (getAttr o f true) Q E s₁) E s) : wpAny (model prog w) A (eval (.Attribute e f pos) env) Q E s :=
  Attribute_any_ h (by rw [arm_eval_Attribute, hb])
end

def tFld (K : PySem.W.Frag) (ta : TE) (f : Str) : TE := fun σ H Q => ta σ H fun x H1 => ∃ a C dx fs v, x = .ref a /\ H1 a = some (.ins C dx fs) /\ Cls K C /\ NoAttr K C f /\ fs.lookup f = some v /\ Q v H1
def sFld (K : PySem.W.Frag) (ta tv : TE) (f : Str) : TS := fun D σ H => tv σ H fun y H1 => ta σ H1 fun x H2 => ∃ a C dx fs, x = .ref a /\ H2 a = some (.ins C dx fs) /\ Cls K C /\ NoAttr K C f /\ fs.length < 1000 /\
  D.nx σ (upd H2 a (.ins C dx (putF f y fs)))
section
variable {X : Cx} {o e value : Expr} {f : Str} {pos pos' tpos : Pos} {ta tv : TE}
theorem pe_fld (he : PE X e ta) (hb : attributeBase e f X.env (eval e X.env) = eval e X.env) : PE X (.Attribute e f pos) (tFld X.K ta f) := by
  intro pins s σ H Q I h
  refine attr_of hb (thn (he pins s σ H _ I h) fun u s1 ⟨x, H1, I1, rx, a, C, dx, fs, v, ex, ea, c, n, l, q⟩ => ?_)
  subst ex
  obtain rfl : u = Value.ref a := rx
  exact getattr_ok I1 ea c n l fun u' s2 I2 ru => ⟨v, H1, I2, ru, q⟩
theorem ps_fld (ha : PE X o ta) (hv : PE X value tv) (hs : swapsWith value (some (.Attribute o f pos')) pos.line X.env = pure false) : PS X (.Assign [.Attribute o f pos'] value pos) (sFld X.K ta tv f) := by
  intro pins s σ H D I h
  refine plainObj_wpAny_Assign_Attribute (thn (hv pins s σ H _ I h) fun u s1 ⟨y, H1, I1, ry, q⟩ => thn (ha pins s1 σ H1 _ I1 q) fun ov s2 ⟨x, H2, I2, rx, a, C, dx, fs, ex, ea, c, n, l, q2⟩ => ?_) hs
  subst ex
  obtain rfl : ov = Value.ref a := rx
  exact setattr_ok I2 ea c n l ry fun s3 I3 => ⟨σ, _, I3, q2⟩
end

section
variable {X : Cx} {pins : List (Addr × Obj)} {σ : St} {H : Hp} {s : Shared} {A : Around} {E : Value -> Shared -> Prop} {Q : Value -> Shared -> Prop} {c : Value} {b : Bool}
inductive TyOf (K : PySem.W.Frag) (H : Hp) : V -> Value -> Prop where
  | non : TyOf K H .non (.type "NoneType")
  | bl (x : Bool) : TyOf K H (.bl x) (.type "bool")
  | int (i : Int) : TyOf K H (.int i) (.type "int")
  | str (x : Str) : TyOf K H (.str x) (.type "str")
  | flt (x : UInt64) : TyOf K H (.flt x) (.type "float")
  | lst {a : Addr} {xs : List V} (e : H a = some (.lst xs)) : TyOf K H (.ref a) (.type "list")
  | frz {a : Addr} {o : Obj} {xs : List V} (e : H a = some (.frz o (.lst xs))) : TyOf K H (.ref a) (.type "list")
  | tup {a : Addr} {xs : List V} (e : H a = some (.tup xs)) : TyOf K H (.ref a) (.type "tuple")
  | dK {a : Addr} {kvs : List (Key × V)} (e : H a = some (.dK kvs)) : TyOf K H (.ref a) (.type "dict")
  | dT {a : Addr} {kvs : List (List Key × V)} (e : H a = some (.dT kvs)) : TyOf K H (.ref a) (.type "dict")
  | ins {a C dx : Addr} {fs : List (Str × V)} (e : H a = some (.ins C dx fs)) (cl : Cls K C) (ha : PySem.W.findIn K (.ref C) "__class__" = some (some (.builtin "object.__class__")))
      (hn : PySem.W.specialIn K (.builtin "object.__class__") "__get__" = some (some (.builtin "getset_descriptor.__get__"))) (htk : PySem.W.takesIn K (.builtin "object.__class__") = some true)
      (hm : PySem.W.mroIn K C (.type "object") = some true) : TyOf K H (.ref a) (.ref C)
theorem isinst_ok {x : V} {u t : Value} (I : Inv X pins σ H s) (rx : RelV x u) (ty : TyOf X.K H x t) (e : PySem.W.kitOne X.K t c = some b) (h : ∀ tk, Q (.bool b) { s with toks := tk }) :
    wpAny (model X.prog X.w) A (call (.builtin "isinstance") [u, c]) Q E s := by
  cases ty with
  | non => cases (show u = Value.none from rx); exact PySem.W.kia_one PySem.W.kitx_none I.kIn True.intro e (fun z => nomatch z) h
  | bl y => cases (show u = Value.bool y from rx); exact PySem.W.kia_one PySem.W.kitx_bool I.kIn True.intro e (fun z => nomatch z) h
  | int i => obtain ⟨t, q⟩ := (show ∃ t, u = Value.int i t from rx); cases q; exact PySem.W.kia_one PySem.W.kitx_int I.kIn True.intro e (fun z => nomatch z) h
  | str y => obtain ⟨t, q⟩ := (show ∃ t, u = Value.str y t from rx); cases q; exact PySem.W.kia_one PySem.W.kitx_str I.kIn True.intro e (fun z => nomatch z) h
  | flt y => obtain ⟨t, q⟩ := (show ∃ t, u = Value.float y t from rx); cases q; exact PySem.W.kia_one PySem.W.kitx_float I.kIn True.intro e (fun z => nomatch z) h
  | @lst a xs ea =>
    cases (show u = Value.ref a from rx)
    obtain ⟨_, _, n, _, h1⟩ := (show ObjOk X.prog X.w H s.heap a (.lst xs) from I.hok a _ ea)
    exact PySem.W.kia_one PySem.W.kitx_list I.kIn ⟨_, h1, rfl⟩ e (fun z => nomatch z) h
  | @frz a ob xs ea =>
    cases (show u = Value.ref a from rx)
    obtain ⟨_, _, _, n, _, h1⟩ := (show ObjOk X.prog X.w H s.heap a (.frz ob (.lst xs)) from I.hok a _ ea)
    exact PySem.W.kia_one PySem.W.kitx_list I.kIn ⟨_, h1, rfl⟩ e (fun z => nomatch z) h
  | @tup a xs ea =>
    cases (show u = Value.ref a from rx)
    obtain ⟨_, _, _, p⟩ := (show ObjOk X.prog X.w H s.heap a (.tup xs) from I.hok a _ ea)
    obtain ⟨o, h1, h2, _⟩ := p
    exact PySem.W.kia_one PySem.W.kitx_tuple I.kIn ⟨o, h1, h2⟩ e (fun z => nomatch z) h
  | @dK a kvs ea =>
    cases (show u = Value.ref a from rx)
    obtain ⟨_, _, vs, _, p⟩ := (show ObjOk X.prog X.w H s.heap a (.dK kvs) from I.hok a _ ea)
    obtain ⟨o, es, ep, h1, h2, _⟩ := p
    exact PySem.W.kia_one PySem.W.kitx_dict I.kIn ⟨o, h1, h2.1⟩ e (fun z => nomatch z) h
  | @dT a kvs ea =>
    cases (show u = Value.ref a from rx)
    obtain ⟨_, _, xs, _, o, es, ep, h1, h2, _⟩ := (show ObjOk X.prog X.w H s.heap a (.dT kvs) from I.hok a _ ea)
    exact PySem.W.kia_one PySem.W.kitx_dict I.kIn ⟨o, h1, h2.1⟩ e (fun z => nomatch z) h
  | @ins a C dx fs ea cl ha hn htk hm =>
    cases (show u = Value.ref a from rx)
    obtain ⟨mA, O, _⟩ := ins_get I.hok ea
    obtain ⟨od, J, _⟩ := O.look
    exact PySem.W.kia_one (PySem.W.kitx_own (cl.get _) cl.hd ha hn htk hm) I.kIn J e (fun z => nomatch z) h
end
end L2

namespace L2
open PySem PySem.Spec PyProof.Rows

structure RoomC (cm : Bool) (k : Nat) (A : Around) : Prop where
  hd : cm = true -> A.handled = none
  dp : A.depth + 3 * k + 5 < recursionLimit
  un : A.units + 16 * k + 200 < cLine
  gd : A.guards = some []
abbrev Room (k : Nat) (A : Around) : Prop := RoomC true k A
theorem RoomC.mono {cm : Bool} {j k : Nat} {A : Around} (r : RoomC cm k A) (h : j <= k) : RoomC cm j A := ⟨r.hd, by have := r.dp; omega, by have := r.un; omega, r.gd⟩
theorem RoomC.deeper {cm : Bool} {k : Nat} {A : Around} (r : RoomC cm (k + 1) A) (env : Env) : RoomC cm k (A.deeper env) :=
  ⟨r.hd, by have := r.dp; show A.depth + 1 + 3 * k + 5 < _; omega, by have := r.un; show A.units + 3 + 16 * k + 200 < _; omega, r.gd⟩
theorem RoomC.in1 {cm : Bool} {k : Nat} {A : Around} (r : RoomC cm (k + 1) A) : RoomC cm k A.in1 :=
  ⟨r.hd, by have := r.dp; show A.depth + 3 * k + 5 < _; omega, by have := r.un; show A.units + 1 + 16 * k + 200 < _; omega, r.gd⟩
theorem make_depth {A : Around} {C : Addr} {us : List Value} {kw : List (Str × Value)} : (A.under (.builtin "type.__call__" ⟨.ref C :: us, kw⟩)).depth = A.depth + 1 := by
  first | rfl | simp [Around.under, Code.weight, Code.isCreation, Code.isGuard, Code.isCaller, Code.frames, Code.isFrame, guardIds]
theorem make_units {A : Around} {C : Addr} {us : List Value} {kw : List (Str × Value)} : (A.under (.builtin "type.__call__" ⟨.ref C :: us, kw⟩)).units = A.units + 1 := by
  first | rfl | simp [Around.under, Code.cUnits, Code.frames, Code.isFrame]
theorem make_guards {A : Around} {C : Addr} {us : List Value} {kw : List (Str × Value)} : (A.under (.builtin "type.__call__" ⟨.ref C :: us, kw⟩)).guards = A.guards := by
  first | rfl | simp [Around.under, Code.guards, Code.isGuard, guardIds, pushGuards]
theorem RoomC.make {cm : Bool} {k : Nat} {A : Around} (r : RoomC cm (k + 1) A) (C : Addr) (us : List Value) (kw : List (Str × Value)) : RoomC cm k (A.under (.builtin "type.__call__" ⟨.ref C :: us, kw⟩)) :=
  ⟨r.hd, by have := r.dp; rw [make_depth]; omega, by have := r.un; rw [make_units]; omega, by rw [make_guards]; exact r.gd⟩
theorem RoomC.depth {cm : Bool} {k : Nat} {A : Around} (r : RoomC cm k A) : A.depth < recursionLimit := by have := r.dp; omega
theorem RoomC.units {cm : Bool} {k : Nat} {A : Around} (r : RoomC cm k A) : A.units + 64 < cLine := by have := r.un; omega
def tNil : TA := fun _ H Q => Q [] H
def tCons (ta : TE) (tr : TA) : TA := fun σ H Q => ta σ H fun x H1 => tr σ H1 fun xs H2 => Q (x :: xs) H2
section
variable {X : Cx} {e : Expr} {es : List Expr} {te : TE} {t : TA} {pos : Pos}
theorem pa_nil : PA X [] tNil := fun _ _ _ _ H Q I h => Calls.spliced_nil ⟨[], H, I, .nil, h⟩
theorem pa_cons (ha : PE X e te) (hr : PA X es t) (hs : starEach (e :: es) X.env = (false, eval e X.env) :: starEach es X.env := by rfl) : PA X (e :: es) (tCons te t) := by
  intro pos pins s σ H Q I h
  rw [hs]
  show wpAny _ _ (spliced ((false, eval e X.env) :: backTo pos (starEach es X.env))) _ _ s
  refine Calls.spliced_cons (thn (ha pins s σ H _ I h) fun u s1 ⟨x, H1, I1, r1, q1⟩ => ?_)
  exact thn (hr pos pins s1 σ H1 _ I1 q1) fun us s2 ⟨xs, H2, I2, r2, q2⟩ => ⟨x :: xs, H2, I2, .cons r1 r2, q2⟩

def tTup (t : TA) : TE := fun σ H Q => t σ H fun xs H1 => xs.length <= sizeLine /\ ∀ p, H1 p = none -> Q (.ref p) (upd H1 p (.tup xs))
def tLst (t : TA) : TE := fun σ H Q => t σ H fun xs H1 => xs.length <= sizeLine /\ ∀ p, H1 p = none -> Q (.ref p) (upd H1 p (.lst xs))
theorem pe_tup {x1} (h : PA X es t) : PE X (.Tuple es x1 pos) (tTup t) := by
  intro pins s σ H Q I hq
  refine wpAny_Tuple_spliced (thn (h pos pins s σ H _ I hq) fun us s1 ⟨xs, H1, I1, r, z, q⟩ => ⟨by rw [<- r.length]; exact z, ?_⟩)
  have hf : H1 s1.heap.objs.size = none := I1.hok.fresh (Nat.le_refl _)
  refine ⟨.ref s1.heap.objs.size, upd H1 s1.heap.objs.size (.tup xs), I1.laid (t' := s1.toks) (fun b u e => Heap.get?_push_of_some _ e) (Nat.le_refl _) ?_, rfl, q _ hf⟩
  exact ⟨z, us, r, ⟨_, Heap.get?_push_size _ rfl, rfl, _, rfl⟩⟩
theorem pe_lst (h : PA X es t) : PE X (.List es pos) (tLst t) := by
  intro pins s σ H Q I hq
  refine wpAny_List_spliced (thn (h pos pins s σ H _ I hq) fun us s1 ⟨xs, H1, I1, r, z, q⟩ => ⟨by rw [<- r.length]; exact z, ?_⟩)
  have hf : H1 s1.heap.objs.size = none := I1.hok.fresh (Nat.le_refl _)
  refine ⟨.ref s1.heap.objs.size, upd H1 s1.heap.objs.size (.lst xs), I1.laid (t' := s1.toks) (fun b u e => Heap.get?_push_of_some _ e) (Nat.le_refl _) ?_, rfl, q _ hf⟩
  exact ⟨z, us, 0, r, Heap.get?_push_size _ rfl⟩
end

abbrev Sp := List V -> Hp -> VK -> XK -> Prop
abbrev CXT := List Env -> Hp -> Shared -> XK -> Value -> Shared -> Prop

structure Env0 (P : Program) (w : World) (K : PySem.W.Frag) (mg : Str -> Option Value) (base : Heap) (A : Around) (outer : List Env) (s : Shared) (H : Hp) : Prop where
  frames : A.frames = some outer
  mod : Mod K mg base
  bs : ∀ b o, base.get? b = some o -> s.heap.get? b = some o /\ H b = none
  bsz : base.objs.size <= s.heap.objs.size
  funs : s.heap.FunFrames base outer
  frf : ∀ b ∈ frs outer, H b = none
  hok : HOk P w H s.heap
  bare : AllBare s.gens
def CE (outer : List Env) (P : Program) (w : World) (H : Hp) (s : Shared) (Q : VK) (u : Value) (s' : Shared) : Prop :=
  ∃ v H', s'.os = s.os /\ AllBare s'.gens /\ Un (frs outer) [] H H' s.heap s'.heap /\ HOk P w H' s'.heap /\ RelV v u /\ Q v H'
def CR (CX : CXT) (outer : List Env) (P : Program) (w : World) (H : Hp) (s : Shared) (Q : VK) (E : XK) (r : Result) (s' : Shared) : Prop :=
  match r with
  | .ok (.ret u) => CE outer P w H s Q u s'
  | .ok _ => False
  | .error e => CX outer H s E e s'
structure FnOk (P : Program) (w : World) (K : PySem.W.Frag) (mg : Str -> Option Value) (base : Heap) (CX : CXT) (k : Nat) (f : Addr) (fd : FuncData) (ps : List Str) (sp : Sp) (cm : Bool := true) : Prop where
  len : ∀ vs H Q E, sp vs H Q E -> vs.length = ps.length
  run : ∀ (A : Around) (outer : List Env) (s : Shared) (H : Hp) (args : Args) (us : List Value) (vs : List V) (Q : VK) (E : XK), RoomC cm k A -> Env0 P w K mg base A outer s H -> BindsTo s fd args (ps.zip us) -> Vals vs us -> sp vs H Q E ->
    codeAny (model P w) A (.call (.ref f) args) (CR CX outer P w H s Q E) s
theorem FnOk.mono {P : Program} {w : World} {K : PySem.W.Frag} {mg : Str -> Option Value} {base : Heap} {CX : CXT} {j k : Nat} {f : Addr} {fd : FuncData} {ps : List Str} {sp : Sp} (F : FnOk P w K mg base CX j f fd ps sp) (h : j <= k) :
    FnOk P w K mg base CX k f fd ps sp := ⟨F.len, fun A outer s H args us vs Q E hr => F.run A outer s H args us vs Q E (hr.mono h)⟩
theorem FnOk.imp {P : Program} {w : World} {K : PySem.W.Frag} {mg : Str -> Option Value} {base : Heap} {CX : CXT} {k : Nat} {f : Addr} {fd : FuncData} {ps : List Str} {sp sp' : Sp} (F : FnOk P w K mg base CX k f fd ps sp)
    (h : ∀ vs H Q E, sp' vs H Q E -> sp vs H Q E) : FnOk P w K mg base CX k f fd ps sp' :=
  ⟨fun vs H Q E q => F.len vs H Q E (h _ _ _ _ q), fun A outer s H args us vs Q E hr he hb hv hs => F.run A outer s H args us vs Q E hr he hb hv (h _ _ _ _ hs)⟩

theorem Env0.make {P : Program} {w : World} {K : PySem.W.Frag} {mg : Str -> Option Value} {base : Heap} {A : Around} {outer : List Env} {s : Shared} {H : Hp} (e : Env0 P w K mg base A outer s H) (C : Addr) (us : List Value) (kw : List (Str × Value)) :
    Env0 P w K mg base (A.under (.builtin "type.__call__" ⟨.ref C :: us, kw⟩)) outer s H := ⟨by first | exact e.frames | (simpa [Around.under, Code.envs, Code.isFrame, pushEnvs] using e.frames), e.mod, e.bs, e.bsz, e.funs, e.frf, e.hok, e.bare⟩
theorem Env0.in1 {P : Program} {w : World} {K : PySem.W.Frag} {mg : Str -> Option Value} {base : Heap} {A : Around} {outer : List Env} {s : Shared} {H : Hp} (e : Env0 P w K mg base A outer s H) :
    Env0 P w K mg base A.in1 outer s H := ⟨e.frames, e.mod, e.bs, e.bsz, e.funs, e.frf, e.hok, e.bare⟩

section
variable {X : Cx} {pins : List (Addr × Obj)} {σ : St} {H : Hp} {s s' : Shared}
theorem Inv.env0 (I : Inv X pins σ H s) : Env0 X.prog X.w X.K X.mg X.base X.A X.stack s H :=
  ⟨I.ok.frames, I.ok.mod, I.bs, Nat.le_trans I.ok.bsz I.sz, I.stack, I.stkFree, I.hok, I.bare⟩
theorem Inv.after {Q : VK} {u : Value} (I : Inv X pins σ H s) (h : CE X.stack X.prog X.w H s Q u s') : EP X pins σ Q u s' := by
  obtain ⟨v, H', os, bare, un, hok, r, q⟩ := h
  obtain ⟨hh, g, d, t, os'⟩ := s'
  obtain rfl : os' = s.os := os
  exact ⟨v, H', I.call (h' := hh) (g' := g) (d' := d) (t' := t) (ch := []) un hok bare (fun b z => absurd z (by simp)), r, q⟩
end

def tCall (sp : Sp) (dvs : List V) (E : XK) (t : TA) : TE := fun σ H Q => t σ H fun vs H1 => sp (vs ++ dvs) H1 Q E
def Binds (K : PySem.W.Frag) (fd : FuncData) (ps : List Str) (ds : List Value) : Prop :=
  ∀ (s : Shared) (us : List Value), K.In s.heap -> (us ++ ds).length = ps.length -> BindsTo s fd ⟨us, []⟩ (ps.zip (us ++ ds))
theorem Binds.all {K : PySem.W.Frag} {fd : FuncData} {ps : List Str} (h : ∀ us : List Value, us.length = ps.length -> bindArgs fd ⟨us, []⟩ = pure (ps.zip us)) : Binds K fd ps [] := fun s us _ hl => by
  rw [List.append_nil] at hl ⊢
  exact .of_eq (h us hl)

def Passes (CX : CXT) (X : Cx) (E : XK) : Prop := ∀ (pins : List (Addr × Obj)) (σ : St) (H : Hp) (s : Shared) (e : Value) (s' : Shared), Inv X pins σ H s -> CX X.stack H s E e s' -> X.xe e s'

section
variable {X : Cx} {CX : CXT} {k : Nat} {f C : Addr} {fd : FuncData} {ps : List Str} {sp : Sp} {dvs : List V} {ds : List Value} {E : XK} {x m : Str} {p pos apos : Pos} {e o : Expr} {es : List Expr} {ta : TE} {t : TA}

theorem run_fn {pins : List (Addr × Obj)} {σ : St} {H : Hp} {s : Shared} {Q : VK} {us : List Value} {vs : List V} (F : FnOk X.prog X.w X.K X.mg X.base CX k f fd ps sp) (hr : Room k X.A) (hb : Binds X.K fd ps ds) (hd : Vals dvs ds) (hx : Passes CX X E)
    (I : Inv X pins σ H s) (r : Vals vs us) (h : sp (vs ++ dvs) H Q E) : wpAny (model X.prog X.w) X.A (call (.ref f) us) (EP X pins σ Q) X.xe s := by
  have r2 : Vals (vs ++ dvs) (us ++ ds) := r.append hd
  have hl : (us ++ ds).length = ps.length := by rw [<- r2.length]; exact F.len _ _ _ _ h
  refine wpAny_call (codeAny_mono (F.run X.A X.stack s H ⟨us, []⟩ (us ++ ds) (vs ++ dvs) Q E hr I.env0 (hb s us I.kIn hl) r2 h) fun r s' hq => ?_)
  cases r with
  | error e => exact hx pins σ H s e s' I hq
  | ok fl =>
    cases fl with
    | ret u => exact I.after hq
    | next => exact False.elim hq
    | brk => exact False.elim hq
    | cont => exact False.elim hq

theorem pe_call (F : FnOk X.prog X.w X.K X.mg X.base CX k f fd ps sp) (hr : Room k X.A) (hg : Gl X x) (hm : X.mg x = some (.ref f)) (hk : PySem.W.keepIn X.K (.ref f) = true) (hb : Binds X.K fd ps ds) (hd : Vals dvs ds) (hx : Passes CX X E)
    (ha : PA X (e :: es) t) (hdb : (x == ("__debug__" : Str)) = false := by decide) (he : starEach (e :: es) X.env = (false, eval e X.env) :: starEach es X.env := by rfl) (hpl : (backTo pos (starEach es X.env)).any (·.1) = false := by rfl) :
    PE X (.Call (.Name x p) (e :: es) [] pos) (tCall sp dvs E t) := by
  intro pins s σ H Q I h
  refine wpAny_Call_Name_kw (ld_glob I hg hm ?_ hdb)
  refine PySem.W.callWith_K (h₀ := X.base) I.ok.mod.kin hk (thn (ha pos pins s σ H _ I h) fun us s1 ⟨vs, H1, I1, r, q⟩ => ⟨I1.kIn, ?_⟩) he hpl
  exact run_fn F hr hb hd hx I1 r q
structure Mk (K : PySem.W.Frag) (C f : Addr) : Prop where
  makes : PySem.W.makesIn K C = true
  init : PySem.W.findIn K (.ref C) "__init__" = some (some (.ref f))
  fn : PySem.W.isFn K (.ref f) = true
  kp : PySem.W.keepIn K (.ref C) = true

end

def PK (X : Cx) (kws : List Keyword) (t : TA) : Prop :=
  ∀ (pos : Pos) (pins : List (Addr × Obj)) (s : Shared) (σ : St) (H : Hp) (Q : List V -> Hp -> Prop), Inv X pins σ H s -> t σ H Q -> wpAny (model X.prog X.w) X.A (evalAll ((backToKw pos (keywordEach kws X.env)).map (·.2))) (AP X pins σ Q) X.xe s
section
variable {X : Cx} {CX : CXT} {k : Nat} {f C : Addr} {fd : FuncData} {ps ks : List Str} {sp : Sp} {E : XK} {x m : Str} {p pos apos kpos : Pos} {e o : Expr} {es : List Expr} {kws : List Keyword} {te ta : TE} {t tk : TA} {nm : Option Str}
theorem pk_nil : PK X [] tNil := fun _ _ _ _ H Q I h => wpAny_evalAll_nil ⟨[], H, I, .nil, h⟩
structure KBinds (K : PySem.W.Frag) (fd : FuncData) (ps ks : List Str) (g : List Value -> List Value -> List Value) (gV : List V -> List V -> List V) : Prop where
  to : ∀ (s : Shared) (us ws : List Value), K.In s.heap -> (g us ws).length = ps.length -> BindsTo s fd ⟨us, ks.zip ws⟩ (ps.zip (g us ws))
  rel : ∀ {vs : List V} {us : List Value} {zs : List V} {ws : List Value}, Vals vs us -> Vals zs ws -> Vals (gV vs zs) (g us ws)
variable {g : List Value -> List Value -> List Value} {gV : List V -> List V -> List V}
theorem run_fnk {pins : List (Addr × Obj)} {σ : St} {H : Hp} {s : Shared} {Q : VK} {us ws : List Value} {vs zs : List V} (F : FnOk X.prog X.w X.K X.mg X.base CX k f fd ps sp) (hr : Room k X.A) (hb : KBinds X.K fd ps ks g gV) (hx : Passes CX X E)
    (I : Inv X pins σ H s) (r : Vals vs us) (rz : Vals zs ws) (h : sp (gV vs zs) H Q E) : wpAny (model X.prog X.w) X.A (call (.ref f) us (ks.zip ws)) (EP X pins σ Q) X.xe s := by
  have r2 := hb.rel r rz
  have hl : (g us ws).length = ps.length := by rw [<- r2.length]; exact F.len _ _ _ _ h
  refine wpAny_call (codeAny_mono (F.run X.A X.stack s H ⟨us, ks.zip ws⟩ (g us ws) (gV vs zs) Q E hr I.env0 (hb.to s us ws I.kIn hl) r2 h) fun r s' hq => ?_)
  cases r with
  | error e => exact hx pins σ H s e s' I hq
  | ok fl =>
    cases fl with
    | ret u => exact I.after hq
    | next => exact False.elim hq
    | brk => exact False.elim hq
    | cont => exact False.elim hq
end

structure FnScope (N P : List Str) (sc : Scope) : Prop where
  kind : sc.kind = .function
  co : sc.isCoroutine = false
  gen : sc.isGenerator = false
  nd : N.Nodup
  pre : N.take P.length = P
  par : ∀ x ∈ P, sc.names.lookup x = some .local \/ sc.names.lookup x = some .cell
  nofree : ∀ y ∈ sc.names, y.2 ≠ .free

theorem bindL_out {kindOf : Str -> Option NameKind} {x : Str} : ∀ {binds : List (Str × Value)} {m : Str -> Option Value}, (∀ v, (x, v) ∉ binds) -> bindL kindOf binds m x = m x
  | [], _, _ => rfl
  | (n, v) :: r, m, h => by
    unfold bindL
    rw [bindL_out fun w hw => h w (List.mem_cons_of_mem _ hw)]
    split
    . have : x ≠ n := by rintro rfl; exact h v List.mem_cons_self
      simp [this]
    . rfl
theorem bindC_out {kindOf : Str -> Option NameKind} {x : Str} : ∀ {binds : List (Str × Value)} {m : Str -> Option Value}, (∀ v, (x, v) ∉ binds) -> bindC kindOf binds m x = m x
  | [], _, _ => rfl
  | (n, v) :: r, m, h => by
    unfold bindC
    rw [bindC_out fun w hw => h w (List.mem_cons_of_mem _ hw)]
    split
    . rfl
    . have : x ≠ n := by rintro rfl; exact h v List.mem_cons_self
      simp [this]
theorem bindL_get {kindOf : Str -> Option NameKind} {x : Str} {v : Value} : ∀ {P : List Str} {vs : List Value} {i : Nat} {m : Str -> Option Value}, P.Nodup -> P[i]? = some x -> vs[i]? = some v -> kindOf x = some .local ->
    bindL kindOf (P.zip vs) m x = some v
  | [], _, _, _, _, h, _, _ => by simp at h
  | _ :: _, [], _, _, _, _, h, _ => by simp at h
  | p :: P, w :: vs, 0, m, nd, h1, h2, hk => by
    simp at h1 h2; subst h1; subst h2
    show bindL kindOf ((p, w) :: P.zip vs) m p = _
    unfold bindL
    rw [bindL_out fun v hv => (List.nodup_cons.mp nd).1 (List.of_mem_zip hv).1, if_pos hk]
    simp
  | p :: P, w :: vs, i + 1, m, nd, h1, h2, hk => by
    show bindL kindOf ((p, w) :: P.zip vs) m x = _
    unfold bindL
    exact bindL_get (i := i) (List.nodup_cons.mp nd).2 (by simpa using h1) (by simpa using h2) hk
theorem bindC_get {kindOf : Str -> Option NameKind} {x : Str} {v : Value} : ∀ {P : List Str} {vs : List Value} {i : Nat} {m : Str -> Option Value}, P.Nodup -> P[i]? = some x -> vs[i]? = some v -> kindOf x ≠ some .local ->
    bindC kindOf (P.zip vs) m x = some v
  | [], _, _, _, _, h, _, _ => by simp at h
  | _ :: _, [], _, _, _, _, h, _ => by simp at h
  | p :: P, w :: vs, 0, m, nd, h1, h2, hk => by
    simp at h1 h2; subst h1; subst h2
    show bindC kindOf ((p, w) :: P.zip vs) m p = _
    unfold bindC
    rw [bindC_out fun v hv => (List.nodup_cons.mp nd).1 (List.of_mem_zip hv).1, if_neg hk]
    simp
  | p :: P, w :: vs, i + 1, m, nd, h1, h2, hk => by
    show bindC kindOf ((p, w) :: P.zip vs) m x = _
    unfold bindC
    exact bindC_get (i := i) (List.nodup_cons.mp nd).2 (by simpa using h1) (by simpa using h2) hk

def start (N : List Str) (vs : List V) : St := vs.map some ++ List.replicate (N.length - vs.length) none

def cxOf (CX : CXT) (P : Program) (w : World) (K : PySem.W.Frag) (mg : Str -> Option Value) (base : Heap) (N : List Str) (qual : Str) (scope : Scope) (f : Addr) (cd : Value) (A : Around) (outer : List Env) (s : Shared) (H : Hp) (E : XK) (cm : Bool := true) : Cx where
  prog := P
  w := w
  K := K
  mg := mg
  base := base
  A := A.deeper (envOfC qual scope s.heap.objs.size f cd)
  N := N
  s₀ := s
  H₀ := H
  env := envOfC qual scope s.heap.objs.size f cd
  outer := outer
  stack := envOfC qual scope s.heap.objs.size f cd :: outer
  ex := []
  calm := cm
  fn := fun _ => true
  pn := []
  xe := fun e s' => wpAny (model P w) (A.deeper (envOfC qual scope s.heap.objs.size f cd)) (leaving (envOfC qual scope s.heap.objs.size f cd) e) (fun _ s'' => CX outer H s E e s'') (fun e' s'' => CX outer H s E e' s'') s'

theorem cell_has {sc : Scope} {n : Nat} {x : Str} (h : sc.names.lookup x = some .cell) : ∃ c, (cellsFrom n sc.names []).lookup x = some c := by
  have q := PySem.W.cellsFrom_some sc.names n [] (.inl h)
  exact Option.isSome_iff_exists.mp q

theorem inv_start {cm : Bool} {CX : CXT} {P : Program} {w : World} {K : PySem.W.Frag} {mg : Str -> Option Value} {base : Heap} {N ps : List Str} {qual : Str} {scope : Scope} {f : Addr} {cd : Value} {A : Around} {outer : List Env} {s s1 : Shared} {H : Hp} {E : XK} {us : List Value} {vs : List V}
    (S : FnScope N ps scope) (hd : cm = true -> A.handled = none) (e0 : Env0 P w K mg base A outer s H) (hl : vs.length = ps.length) (r : Vals vs us)
    (x : InCallC s s.heap.objs.size (bindL (envOfC qual scope s.heap.objs.size f cd).kindOf (ps.zip us) fun _ => none) (cellsFrom (s.heap.objs.size + 1) scope.names []) (bindC (envOfC qual scope s.heap.objs.size f cd).kindOf (ps.zip us) fun _ => none) s1) :
    Inv (cxOf CX P w K mg base N qual scope f cd A outer s H E cm) [] (start N vs) H s1 := by
  have hpl : ps.length <= N.length := by have := congrArg List.length S.pre; rw [List.length_take] at this; omega
  obtain ⟨h1, tk, rfl, hk⟩ := x.done
  have noA : ∀ b : Addr, b ∉ (cxOf CX P w K mg base N qual scope f cd A outer s H E cm).ex := fun b z => absurd (show b ∈ ([] : List Addr) from z) (by simp)
  refine ⟨⟨e0.mod, S.kind, rfl, rfl, Nat.le_refl _, fun y z c h1 h2 => ?_, fun y hy => ?_, fun y c _ h => ?_, hd, Around.frames_deeper e0.frames, .inr ⟨rfl, rfl⟩, fun b z => absurd z (noA b), e0.bs, e0.bsz, fun b _ _ => noA b, fun b z => absurd z (noA b), e0.funs, e0.frf⟩,
    rfl, e0.bare, Un.kept hk, ⟨_, x.toInCall.ns, fun i y v h1 h2 h3 => ?_⟩, fun y c h => ⟨_, x.cell y c h⟩, e0.hok.fresh (Nat.le_refl _), fun y c h => ?_, fun p hp => absurd (show p ∈ ([] : List (Addr × Obj)) from hp) (by simp), e0.hok.kept hk, ?_⟩
  . exact name_of_addr x.apart (PySem.mem_of_lookup h1) (PySem.mem_of_lookup h2)
  . have hy : scope.names.lookup y = some .cell \/ scope.names.lookup y = some .free := hy
    rcases hy with hy | hy
    . exact cell_has hy
    . exact absurd rfl (S.nofree _ (PySem.mem_of_lookup hy))
  . exact Nat.le_of_lt (x.above y c (PySem.mem_of_lookup h))
  . have hi : i < vs.length := by
      unfold start at h2
      by_cases hi : i < vs.length
      . exact hi
      . rw [List.getElem?_append_right (by simpa using hi)] at h2
        rw [List.getElem?_replicate] at h2
        split at h2 <;> cases h2
    have ha : vs[i]? = some v := by
      unfold start at h2
      rw [List.getElem?_append_left (by simpa using hi), List.getElem?_map] at h2
      cases e : vs[i]? with
      | none => rw [e] at h2; cases h2
      | some a => rw [e] at h2; cases h2; rfl
    obtain ⟨u, hu, rv⟩ := r.get ha
    have hp : ps[i]? = some y := by
      rw [<- S.pre, List.getElem?_take_of_lt (by omega)]; exact h1
    have ndP : ps.Nodup := by rw [<- S.pre]; exact S.nd.sublist (List.take_sublist _ _)
    refine ⟨u, rv, ?_⟩
    rcases S.par y (List.mem_of_getElem? hp) with k | k
    . exact .inl ⟨k, bindL_get ndP hp hu k⟩
    . obtain ⟨c, e⟩ := cell_has (n := s.heap.objs.size + 1) k
      refine .inr ⟨.inl k, c, e, ?_⟩
      have q := x.cell y c e
      rw [bindC_get ndP hp hu (by show scope.names.lookup y ≠ _; rw [k]; decide)] at q
      exact q
  . exact e0.hok.fresh (Nat.le_of_lt (x.above y c (PySem.mem_of_lookup h)))
  . unfold start
    show _ = N.length
    rw [List.length_append, List.length_map, List.length_replicate]
    omega

theorem fn_of {cm : Bool} {CX : CXT} {P : Program} {w : World} {K : PySem.W.Frag} {mg : Str -> Option Value} {base : Heap} {k : Nat} {f : Addr} {name qual : Str} {params : Arguments} {body : List Stmt} {scope : Scope} {dV kV doc pm cdv ct oc : Value} {an od : Option Addr}
    {osl : Array (Option Value)} {N ps : List Str} {sp : Sp} (lk : K.lookup f = some ⟨oc, od, .func (PySem.W.fnOf name qual params body scope dV kV doc pm an cdv ct), osl⟩) (hcd : PySem.W.codeIn K cdv qual = true) (S : FnScope N ps scope)
    (len : ∀ vs H Q E, sp vs H Q E -> vs.length = ps.length)
    (hbody : ∀ (A : Around) (outer : List Env) (s : Shared) (H : Hp) (vs : List V) (Q : VK) (E : XK), RoomC cm k (A.deeper (envOfC qual scope s.heap.objs.size f cdv)) -> sp vs H Q E ->
      ∃ t, PSs (cxOf CX P w K mg base N qual scope f cdv A outer s H E cm) body t /\ t { nx := fun _ H' => Q .non H', rt := Q } (start N vs) H) :
    FnOk P w K mg base CX (k + 1) f (PySem.W.fnOf name qual params body scope dV kV doc pm an cdv ct) ps sp cm := by
  refine ⟨len, fun A outer s H args us vs Q E hr e0 hb r hsp => ?_⟩
  have hl := len _ _ _ _ hsp
  have KX : K.In s.heap := e0.mod.kin.keeps fun b o e => (e0.bs b o e).1
  have lim : s.heap.NoLimit := e0.mod.nolimit.keeps fun b o e => (e0.bs b o e).1
  have hkind : ∀ y ∈ ps.zip us, scope.names.lookup y.1 = some .local \/ (scope.names.lookup y.1 = some .cell /\ ((cellsFrom (s.heap.objs.size + 1) scope.names []).lookup y.1).isSome = true) := fun ⟨n, v⟩ hy => by
    rcases S.par n (List.of_mem_zip hy).1 with q | q
    . exact .inl q
    . exact .inr ⟨q, PySem.W.cellsFrom_some _ _ _ (.inl q)⟩
  refine codeAny_call_function hr.depth (KX _ _ lk) rfl S.co S.gen rfl (PySem.W.codeRec_of KX hcd) (hb _ _ _ _ ?_)
  refine wpAny_newFunctionEnv_cells S.kind hkind fun env he s1 x => ?_
  subst he
  refine ⟨lim.keeps x.toInCall.keep, codeAny_func ?_⟩
  obtain ⟨t, ht, hq⟩ := hbody A outer s H vs Q E (hr.deeper _) hsp
  have I : Inv (cxOf CX P w K mg base N qual scope f cdv A outer s H E cm) [] (start N vs) H s1 := inv_start S hr.hd e0 hl r x
  refine wpAny_mono (ht [] s1 (start N vs) H _ I hq) (fun fl s' hs => ?_) fun e s' hs => hs
  have fin : ∀ {σ' : St} {H' : Hp} {v : V} {u : Value}, Inv (cxOf CX P w K mg base N qual scope f cdv A outer s H E cm) [] σ' H' s' -> RelV v u -> Q v H' -> CE outer P w H s Q u s' :=
    fun {σ' H' v u} J rv q => ⟨v, H', J.os, J.bare, J.base, J.hok, rv, q⟩
  cases fl with
  | ret u =>
    obtain ⟨v, σ', H', J, rv, q⟩ := hs
    exact fin J rv q
  | next =>
    obtain ⟨σ', H', J, q⟩ := hs
    exact fin (v := V.non) (u := Value.none) J rfl q
  | brk =>
    obtain ⟨_, _, _, q⟩ := hs
    exact False.elim q
  | cont =>
    obtain ⟨_, _, _, q⟩ := hs
    exact False.elim q
end L2

namespace L2
open PySem PySem.Spec PyProof.Rows
section
variable {X : Cx} {x : Str} {p pos : Pos} {e : Expr} {es : List Expr} {t : TA} {id T : String} {r : List V -> Hp -> VK -> Prop}

def tCB (r : List V -> Hp -> VK -> Prop) (t : TA) : TE := fun σ H Q => t σ H fun vs H1 => r vs H1 Q
theorem pe_callB (hc : CallR X (.builtin id) r) (hg : Gl X x) (hm : X.mg x = none) (hv : bootBuiltins x = some (.builtin id)) (ha : PA X (e :: es) t) (hn : x ≠ "__name__" := by decide) (hdb : (x == ("__debug__" : Str)) = false := by decide)
    (he : starEach (e :: es) X.env = (false, eval e X.env) :: starEach es X.env := by rfl) (hpl : (backTo pos (starEach es X.env)).any (·.1) = false := by rfl) : PE X (.Call (.Name x p) (e :: es) [] pos) (tCB r t) := by
  intro pins s σ H Q I h
  refine wpAny_Call_Name_kw (ld_blt I hg hm hv ?_ hn hdb)
  exact PyProof.Rows.callWith_builtin1 (thn (ha pos pins s σ H _ I h) fun us s1 ⟨vs, H1, I1, r1, q1⟩ => hc pins s1 σ H1 vs us Q I1 r1 q1) he hpl
theorem pe_callTy (hc : CallR X (.type T) r) (hg : Gl X x) (hm : X.mg x = none) (hv : bootBuiltins x = some (.type T)) (ha : PA X (e :: es) t) (hn : x ≠ "__name__" := by decide) (hdb : (x == ("__debug__" : Str)) = false := by decide)
    (he : starEach (e :: es) X.env = (false, eval e X.env) :: starEach es X.env := by rfl) (hpl : (backTo pos (starEach es X.env)).any (·.1) = false := by rfl) : PE X (.Call (.Name x p) (e :: es) [] pos) (tCB r t) := by
  intro pins s σ H Q I h
  refine wpAny_Call_Name_kw (ld_blt I hg hm hv ?_ hn hdb)
  exact PyProof.Rows.callWith_type1 (thn (ha pos pins s σ H _ I h) fun us s1 ⟨vs, H1, I1, r1, q1⟩ => hc pins s1 σ H1 vs us Q I1 r1 q1) he hpl
end
end L2

namespace HT
open PySem PyProof.Rows

section
open PySem.SeqAt
open PySem.AutoSeq1 (wpAny_loadPart')
open PySem.MeetsSeq PySem.MeetsSeq2 PySem.MeetsSeq3

end

section
variable {prog : Program} {w : World} {A : Around} {E : Value -> Shared -> Prop} {s : Shared}

theorem cat_tup {t b : Addr} {vs ws : List Value} {Q : Value -> Shared -> Prop} (ht : IsTup s.heap t vs.toArray) (hb : IsTup s.heap b ws.toArray) (hv : vs ≠ [])
    (h1 : ws = [] -> Q (.ref t) s) (h2 : ws ≠ [] -> Q (.ref s.heap.objs.size) { s with heap := s.heap.push { cls := .type "tuple", data := .seq (vs ++ ws).toArray } })
    (hsz : vs.length + ws.length <= sizeLine) : wpAny (model prog w) A (binaryOp .Add (.ref t) (.ref b)) Q E s := by
  obtain ⟨⟨cls, dd, data, sl⟩, ho, hc, n, hd⟩ := id ht
  obtain ⟨⟨cls2, dd2, data2, sl2⟩, ho2, hc2, n2, hd2⟩ := id hb
  simp only at hc hd hc2 hd2
  subst hc hd hc2 hd2
  have e : vs.toArray ++ ws.toArray = (vs ++ ws).toArray := by simp
  by_cases hw : ws = []
  . exact concat_meets ⟨_, ho, rfl⟩ ⟨_, ho2, rfl⟩ noFill_tuple_add seq_tuple_add PySem.F.slot_tuple_add PySem.F.entry_tuple_add (PySem.F.args_tuple_add_2 _ _)
      (tuple_addW1 t b vs.toArray ws.toArray n n2 dd dd2 sl sl2 (by simpa using hv) (by simp [hw])) ⟨ho, ho2, h1 hw⟩
  . refine concat_meets ⟨_, ho, rfl⟩ ⟨_, ho2, rfl⟩ noFill_tuple_add seq_tuple_add PySem.F.slot_tuple_add PySem.F.entry_tuple_add (PySem.F.args_tuple_add_2 _ _)
      (tuple_addW2 t b vs.toArray ws.toArray n n2 dd dd2 sl sl2 (by simpa using hv) (by simpa using hw) (by rw [List.size_toArray, List.size_toArray]; exact hsz)) ⟨ho, ho2, ?_⟩
    rw [e]
    exact h2 hw

def sIx (n d : Nat) : Option Int -> Nat
  | none => d
  | some v => if v < 0 then (v + (n : Int)).toNat else min v.toNat n
theorem sIx_none (n d : Nat) : sIx n d none = d := rfl
theorem sIx_nat (n d k : Nat) : sIx n d (some (k : Int)) = min k n := by
  show (if (k : Int) < 0 then ((k : Int) + (n : Int)).toNat else min (k : Int).toNat n) = min k n
  rw [if_neg (by omega), Int.toNat_natCast]
theorem sIx_le (n d : Nat) (hd : d <= n) (o : Option Int) : sIx n d o <= n := by
  cases o with
  | none => exact hd
  | some v =>
    show (if v < 0 then (v + (n : Int)).toNat else min v.toNat n) <= n
    by_cases hv : v < 0
    . rw [if_pos hv]; omega
    . rw [if_neg hv]; exact Nat.min_le_right _ _
theorem clip_eq (v : Int) (n d : Nat) : (if v < 0 then max (v + (n : Int)) 0 else min v (n : Int)) = ((sIx n d (some v) : Nat) : Int) := by
  show (if v < 0 then max (v + (n : Int)) 0 else min v (n : Int)) = (((if v < 0 then (v + (n : Int)).toNat else min v.toNat n) : Nat) : Int)
  by_cases hv : v < 0
  . simp only [if_pos hv]; omega
  . simp only [if_neg hv]; omega
theorem adjust_gen (lo hi : Option Int) (n : Nat) : Builtin.Slice.sliceAdjust lo hi 1 (n : Int) = (((sIx n 0 lo : Nat) : Int), ((sIx n n hi : Nat) : Int)) := by
  have h1 : ¬ ((1 : Int) < 0) := by omega
  unfold Builtin.Slice.sliceAdjust
  simp only [h1, if_false]
  refine Prod.ext ?_ ?_
  . cases lo with
    | none => rfl
    | some v => exact clip_eq v n 0
  . cases hi with
    | none => rfl
    | some v => exact clip_eq v n n
theorem places_gen (i j : Nat) : Builtin.Slice.slicePlaces (i : Int) (j : Int) 1 = j - i := by
  unfold Builtin.Slice.slicePlaces
  have h1 : (1 : Int) > 0 := by omega
  simp only [h1, if_true, Int.ediv_one]
  split <;> omega
theorem slicePart_ {v : Value} {o : Option Int} {Q : Option Int -> Shared -> Prop} (p : IsPart v o) (h : Q o s) : wpAny (model prog w) A (Builtin.Slice.slicePartIndex v) Q E s := by
  cases p with
  | none => exact slicePart_none h
  | int i t => exact slicePart_int h
theorem sliceApplied_gen {sl : Addr} {vl vu : Value} {lo hi : Option Int} {n : Nat} {Q : Int × Int × Nat -> Shared -> Prop} (hs : s.heap.IsSliceOf sl vl vu .none) (pl : IsPart vl lo) (pu : IsPart vu hi)
    (h : Q (((sIx n 0 lo : Nat) : Int), 1, sIx n n hi - sIx n 0 lo) s) : wpAny (model prog w) A (Builtin.Slice.sliceApplied (.ref sl) (pure (n : Int))) Q E s := by
  obtain ⟨os, hos, hcs, hds⟩ := id hs
  unfold Builtin.Slice.sliceApplied Builtin.Slice.sliceFields
  refine wpAny_bind (wpAny_bind (wpAny_field hos hds (x := vl) rfl (wpAny_bind (wpAny_field hos hds (x := vu) rfl (wpAny_bind (wpAny_field hos hds (x := .none) rfl (wpAny_pure ?_)))))))
  refine wpAny_bind (slicePart_none ?_)
  show wpAny _ _ (if ((1 : Int) == 0) = true then _ else _) _ _ s
  rw [if_neg (by decide)]
  refine wpAny_bind (slicePart_ pl (wpAny_bind (slicePart_ pu (wpAny_bind (wpAny_pure ?_)))))
  show wpAny _ _ (match Builtin.Slice.sliceAdjust lo hi 1 (n : Int) with | (lo, hi) => pure (lo, (1 : Int), Builtin.Slice.slicePlaces lo hi 1)) _ _ s
  rw [adjust_gen lo hi n]
  show wpAny _ _ (pure (((sIx n 0 lo : Nat) : Int), (1 : Int), Builtin.Slice.slicePlaces ((sIx n 0 lo : Nat) : Int) ((sIx n n hi : Nat) : Int) 1)) _ _ s
  rw [places_gen]
  exact wpAny_pure h
theorem pick_gen (xs : Array Value) (i k : Nat) : ((List.range k).filterMap fun (m : Nat) => xs[((i : Int) + (m : Int) * 1).toNat]?).toArray = ((xs.toList.drop i).take k).toArray := by
  have e : (fun (m : Nat) => xs[((i : Int) + (m : Int) * 1).toNat]?) = fun m => xs[i + m]? := by
    funext m
    have : ((i : Int) + (m : Int) * 1).toNat = i + m := by omega
    rw [this]
  rw [e]
  have := pick_run xs i k
  rw [List.filterMap_map] at this
  have e2 : ((fun x => xs[x]?) ∘ fun x => i + x) = fun m => xs[i + m]? := rfl
  rw [e2] at this
  rw [this]

theorem getItem_tuple_cut {t sl : Addr} {items : Array Value} {vl vu : Value} {lo hi : Option Int} {Q : Value -> Shared -> Prop} (ht : IsTup s.heap t items) (hs : s.heap.IsSliceOf sl vl vu .none) (pl : IsPart vl lo) (pu : IsPart vu hi)
    (hw : ¬ (sIx items.size 0 lo = 0 /\ sIx items.size items.size hi = items.size))
    (h : Q (.ref s.heap.objs.size) { s with heap := s.heap.push { cls := .type "tuple", data := .seq ((items.toList.drop (sIx items.size 0 lo)).take (sIx items.size items.size hi - sIx items.size 0 lo)).toArray } })
    (hsz : items.size <= sizeLine) : wpAny (model prog w) A (getItem (.ref t) (.ref sl)) Q E s := by
  have htake : sizeOk (.seq ((items.toList.drop (sIx items.size 0 lo)).take (sIx items.size items.size hi - sIx items.size 0 lo)).toArray) := by
    show ((items.toList.drop (sIx items.size 0 lo)).take (sIx items.size items.size hi - sIx items.size 0 lo)).toArray.size <= sizeLine
    rw [List.size_toArray, List.length_take, List.length_drop, Array.length_toList]
    omega
  have hj : sIx items.size items.size hi <= items.size := sIx_le _ _ (Nat.le_refl _) hi
  obtain ⟨os, hos, hcs, hds⟩ := id hs
  have hTs : s.TypeIs (.ref sl) "slice" := ⟨os, hos, hcs⟩
  unfold getItem
  try with_reducible refine wpAny_holding ?_
  first | refine wpAny_bind (wpAny_pure ?_) | skip
  refine wpAny_bind (wpAny_sequenceKey ht.typeIs (by decide) ?_)
  refine wpAny_bind (wpAny_callSpecial?_slot (name := Str.ofString "__getitem__") ht.typeIs PyProof.Rows.slot_tuple_getitem
    (wpAny_call_entry PyProof.Rows.slot_tuple_getitem ht.typeIs entry_tuple_getitem ?_ (args_tuple_getitem _ _)))
  show wpAny _ _ (Builtin.Tuple.tupleItemsOf (.ref t) >>= _) _ _ s
  refine wpAny_bind (tupleItemsOf_ ht ?_)
  refine wpAny_bind (wpAny_typeOf hTs ?_)
  rw [if_pos (by decide)]
  refine wpAny_bind (sliceApplied_gen hs pl pu ?_)
  have hno : ¬ ((((sIx items.size 0 lo : Nat) : Int) == 0 && (1 : Int) == 1 && (sIx items.size items.size hi - sIx items.size 0 lo) == items.size) = true) := by
    intro q
    rw [Bool.and_eq_true, Bool.and_eq_true] at q
    have q1 : ((sIx items.size 0 lo : Nat) : Int) = 0 := eq_of_beq q.1.1
    have q2 : sIx items.size items.size hi - sIx items.size 0 lo = items.size := eq_of_beq q.2
    exact hw ⟨by omega, by omega⟩
  show wpAny _ _ (if (((sIx items.size 0 lo : Nat) : Int) == 0 && (1 : Int) == 1 && (sIx items.size items.size hi - sIx items.size 0 lo) == items.size) = true then _ else _) _ _ s
  rw [if_neg hno, pick_gen]
  first
    | exact wpAny_bind (m := Builtin.Tuple.tupleExact _) (wpAny_newObj_type (wpAny_pure ⟨_, rfl, wpAny_pure h⟩) htake)
    | exact wpAny_bind (m := Builtin.Tuple.tupleExact _) (wpAny_newObj_type (wpAny_bind (wpAny_pure (wpAny_pure ⟨_, rfl, wpAny_pure h⟩))) htake)
    | exact wpAny_bind (wpAny_bind (m := Builtin.Tuple.tupleExact _) (wpAny_newObj_type (wpAny_pure (wpAny_pure ⟨_, rfl, wpAny_pure h⟩)) htake))
    | exact wpAny_bind (wpAny_bind (m := Builtin.Tuple.tupleExact _) (wpAny_newObj_type (wpAny_pure ⟨_, rfl, wpAny_pure h⟩) htake))
end
end HT

namespace L2
open PySem PySem.Spec PyProof.Rows

abbrev TO := St -> Hp -> (Option Int -> Hp -> Prop) -> Prop
def PO (X : Cx) (e : Option Expr) (t : TO) : Prop :=
  ∀ (pins : List (Addr × Obj)) (s : Shared) (σ : St) (H : Hp) (Q : Option Int -> Hp -> Prop), Inv X pins σ H s -> t σ H Q ->
    wpAny (model X.prog X.w) X.A (evalPart e X.env) (fun u s' => ∃ o H', Inv X pins σ H' s' /\ IsPart u o /\ Q o H') X.xe s
def tNoPart : TO := fun _ H Q => Q none H
def tPart (t : TE) : TO := fun σ H Q => t σ H fun x H1 => ∃ i, x = .int i /\ Q (some i) H1

section
variable {X : Cx} {e : Expr} {te : TE} {lo hi : Option Expr} {tl th : TO} {pos p2 : Pos}

theorem po_none : PO X none tNoPart := by
  intro pins s σ H Q I h
  rw [evalPart_none]
  exact wpAny_pure ⟨none, H, I, .none, h⟩
theorem po_some (h : PE X e te) : PO X (some e) (tPart te) := by
  intro pins s σ H Q I hw
  rw [evalPart_some]
  refine thn (h pins s σ H _ I hw) fun u s1 ⟨x, H1, I1, r1, q1⟩ => ?_
  obtain ⟨i, rfl, q⟩ := q1
  obtain ⟨t, rfl⟩ := r1
  exact ⟨some i, H1, I1, .int i t, q⟩

def SlR (X : Cx) (r : V -> Option Int -> Option Int -> Hp -> VK -> Prop) : Prop :=
  ∀ (pins : List (Addr × Obj)) (s : Shared) (σ : St) (H : Hp) (x : V) (v vl vu : Value) (lo hi : Option Int) (sl : Addr) (Q : VK), Inv X pins σ H s -> RelV x v -> s.heap.IsSliceOf sl vl vu .none -> IsPart vl lo -> IsPart vu hi -> r x lo hi H Q ->
    ∃ T id, typeLookup (.type T) "__getitem__" = pure (some (.builtin id)) /\ s.TypeIs v T /\ wpAny (model X.prog X.w) X.A (getItem v (.ref sl)) (EP X pins σ Q) X.xe s
theorem SlR.or {r r' : V -> Option Int -> Option Int -> Hp -> VK -> Prop} (h : SlR X r) (h' : SlR X r') : SlR X (fun x lo hi H Q => r x lo hi H Q \/ r' x lo hi H Q) := by
  intro pins s σ H x v vl vu lo hi sl Q I rx hs pl pu q
  rcases q with q | q
  . exact h pins s σ H x v vl vu lo hi sl Q I rx hs pl pu q
  . exact h' pins s σ H x v vl vu lo hi sl Q I rx hs pl pu q
def tSl (r : V -> Option Int -> Option Int -> Hp -> VK -> Prop) (te : TE) (tl th : TO) : TE := fun σ H Q => te σ H fun x H1 => tl σ H1 fun l H2 => th σ H2 fun u H3 => r x l u H3 Q
theorem pe_slice {r : V -> Option Int -> Option Int -> Hp -> VK -> Prop} (hr : SlR X r) (he : PE X e te) (hl : PO X lo tl) (hu : PO X hi th) : PE X (.Subscript e (.Slice lo hi none p2) pos) (tSl r te tl th) := by
  intro pins s σ H Q I h
  refine Subscript_ (thn (he pins s σ H _ I h) fun v s1 ⟨x, H1, I1, r1, q1⟩ => ?_)
  refine wpAny_Slice (thn (hl pins s1 σ H1 _ I1 q1) fun vl s2 ⟨l, H2, I2, pl, q2⟩ => thn (hu pins s2 σ H2 _ I2 q2) fun vu s3 ⟨u, H3, I3, pu, q3⟩ => ?_)
  rw [evalPart_none]
  refine wpAny_pure ?_
  have I4 : Inv X pins σ H3 { s3 with heap := s3.heap.push { cls := .type "slice", data := .fields #[vl, vu, .none] } } := I3.kept (t' := s3.toks) fun b ob q => Heap.get?_push_of_some _ q
  obtain ⟨T, id, hT, ht, hg⟩ := hr pins { s3 with heap := s3.heap.push { cls := .type "slice", data := .fields #[vl, vu, .none] } } σ H3 x v vl vu l u s3.heap.objs.size Q I4 r1 (Heap.IsSliceOf.new ..) pl pu q3
  show wpAny (model X.prog X.w) X.A (subscriptTail e (.Slice lo hi none p2) v (.ref s3.heap.objs.size)) (EP X pins σ Q) X.xe { s3 with heap := s3.heap.push { cls := .type "slice", data := .fields #[vl, vu, .none] } }
  exact tail_any (ops := [.ref s3.heap.objs.size, v]) ht hT hg (by with_unfolding_all rfl)

def cutV (xs : List V) (lo hi : Option Int) : List V := (xs.drop (HT.sIx xs.length 0 lo)).take (HT.sIx xs.length xs.length hi - HT.sIx xs.length 0 lo)
theorem cutV_length (xs : List V) (lo hi : Option Int) : (cutV xs lo hi).length <= xs.length := by
  unfold cutV
  rw [List.length_take, List.length_drop]
  omega
def rSlT (K : PySem.W.Frag) : V -> Option Int -> Option Int -> Hp -> VK -> Prop := fun x lo hi H Q => ∃ a xs, x = .ref a /\ SqT K H a xs /\
  ¬ (HT.sIx xs.length 0 lo = 0 /\ HT.sIx xs.length xs.length hi = xs.length) /\ ∀ p, H p = none -> Q (.ref p) (upd H p (.tup (cutV xs lo hi)))
theorem sl_tup : SlR X (rSlT X.K) := by
  intro pins s σ H x v vl vu lo hi sl Q I rx hs pl pu h
  obtain ⟨a, xs, rfl, hx, hw, q⟩ := h
  cases rx
  obtain ⟨its, r, ht, hz⟩ := I.tuple hx
  have hlen : its.toArray.size = xs.length := by rw [List.size_toArray]; exact r.length.symm
  refine ⟨"tuple", _, PyProof.Rows.slot_tuple_getitem.lookup, ht.typeIs, ?_⟩
  refine HT.getItem_tuple_cut ht hs pl pu (by rw [hlen]; exact hw) ?_ (by rw [hlen]; exact hz)
  rw [hlen]
  refine ⟨.ref s.heap.objs.size, _, I.laid (t' := s.toks) (o := .tup (cutV xs lo hi)) (fun b ob q => Heap.get?_push_of_some _ q) (Nat.le_refl _) ?_, rfl, q _ (I.hok.fresh (Nat.le_refl _))⟩
  exact ⟨Nat.le_trans (cutV_length xs lo hi) hz, _, (r.drop (HT.sIx xs.length 0 lo)).take (HT.sIx xs.length xs.length hi - HT.sIx xs.length 0 lo), IsTup.new _ _⟩

def rCatT (K : PySem.W.Frag) : R2 := fun x y H Q => ∃ a b xs ys, x = .ref a /\ y = .ref b /\ SqT K H a xs /\ SqT K H b ys /\ xs ≠ [] /\ xs.length + ys.length <= sizeLine /\
  (ys = [] -> Q (.ref a) H) /\ (ys ≠ [] -> ∀ p, H p = none -> Q (.ref p) (upd H p (.tup (xs ++ ys))))
theorem Vals.nil_iff {xs : List V} {us : List Value} (r : Vals xs us) : us = [] ↔ xs = [] := by
  cases r with
  | nil => simp
  | cons _ _ => simp
theorem op_catT : OpR X (binaryOp .Add) (rCatT X.K) := by
  intro pins s σ H x y v u Q I rx ry h
  obtain ⟨a, b, xs, ys, rfl, rfl, ha, hb, hx, hz, q1, q2⟩ := h
  cases rx
  cases ry
  obtain ⟨its, r1, p1, _⟩ := I.tuple ha
  obtain ⟨its2, r2, p2, _⟩ := I.tuple hb
  refine HT.cat_tup p1 p2 (fun z => hx (r1.nil_iff.mp z)) (fun z => ⟨.ref a, H, I, rfl, q1 (r2.nil_iff.mp z)⟩) (fun z => ?_) (by rw [<- r1.length, <- r2.length]; exact hz)
  refine ⟨.ref s.heap.objs.size, _, I.laid (t' := s.toks) (o := .tup (xs ++ ys)) (fun b ob q => Heap.get?_push_of_some _ q) (Nat.le_refl _) ?_, rfl, q2 (fun w => z (r2.nil_iff.mpr w)) _ (I.hok.fresh (Nat.le_refl _))⟩
  exact ⟨by rw [List.length_append]; exact hz, _, r1.append r2, IsTup.new _ _⟩
end
end L2

namespace L2
open PySem PySem.Spec PyProof.Rows

def ixN (n : Nat) (i : Int) : Option Nat := if 0 <= i then (if i < n then some i.toNat else none) else if -(n : Int) <= i then some (i + n).toNat else none
def atI {α : Type} (xs : List α) (i : Int) : Option α := (ixN xs.length i).bind fun j => xs[j]?
theorem ixN_seq {n : Nat} {i : Int} {j : Nat} (h : ixN n i = some j) : seqIndex? i n = some j /\ j < n /\ -(n : Int) <= i /\ i < n := by
  unfold ixN at h
  by_cases h0 : 0 <= i
  . rw [if_pos h0] at h
    by_cases h1 : i < n
    . rw [if_pos h1] at h
      have e : i.toNat = j := Option.some.inj h
      exact ⟨by rw [seqIndex_of h0 h1, e], by omega, by omega, h1⟩
    . rw [if_neg h1] at h; cases h
  . rw [if_neg h0] at h
    by_cases h1 : -(n : Int) <= i
    . rw [if_pos h1] at h
      have e : (i + n).toNat = j := Option.some.inj h
      exact ⟨by rw [seqIndex_neg (by omega) h1, e], by omega, h1, by omega⟩
    . rw [if_neg h1] at h; cases h
theorem atI_get {α : Type} {xs : List α} {i : Int} {v : α} (h : atI xs i = some v) : ∃ j, seqIndex? i xs.length = some j /\ xs[j]? = some v /\ j < xs.length /\ -(xs.length : Int) <= i /\ i < xs.length := by
  unfold atI at h
  cases e : ixN xs.length i with
  | none => rw [e] at h; cases h
  | some j =>
    rw [e] at h
    obtain ⟨h1, h2, h3, h4⟩ := ixN_seq e
    exact ⟨j, h1, h, h2, h3, h4⟩
theorem atI_nat {α : Type} {xs : List α} {j : Nat} {v : α} (h : xs[j]? = some v) : atI xs (j : Int) = some v := by
  have hj : j < xs.length := (List.getElem?_eq_some_iff.mp h).1
  have e : ixN xs.length (j : Int) = some j := by
    unfold ixN
    rw [if_pos (by omega), if_pos (by omega)]; simp
  unfold atI; rw [e]; exact h
theorem atI_last {α : Type} (xs : List α) (v : α) : atI (xs ++ [v]) (-1) = some v := by
  have hl : (xs ++ [v]).length = xs.length + 1 := by simp
  have e : ixN (xs ++ [v]).length (-1) = some xs.length := by
    unfold ixN
    rw [hl, if_neg (by decide), if_pos (by omega)]
    congr 1
    omega
  unfold atI
  rw [e]
  show (xs ++ [v])[xs.length]? = some v
  simp

def PlainIx (b : Expr) : Prop := ∀ o i, subscripted b false o i = operate [o, i] (getItem o i)
def IxR (X : Cx) (r : R2) : Prop :=
  ∀ (value slice : Expr) (pins : List (Addr × Obj)) (s : Shared) (σ : St) (H : Hp) (x y : V) (v u : Value) (Q : VK), Inv X pins σ H s -> RelV x v -> RelV y u -> r x y H Q ->
    subscripted slice false v u = operate [v, u] (getItem v u) -> wpAny (model X.prog X.w) X.A (subscriptTail value slice v u) (EP X pins σ Q) X.xe s
def MtR (X : Cx) (id : String) (r : V -> List V -> Hp -> VK -> Prop) : Prop :=
  ∀ (pins : List (Addr × Obj)) (s : Shared) (σ : St) (H : Hp) (x : V) (xs : List V) (v : Value) (us : List Value) (Q : VK), Inv X pins σ H s -> RelV x v -> Vals xs us -> r x xs H Q ->
    wpAny (model X.prog X.w) X.A (call (.builtin id) (v :: us)) (EP X pins σ Q) X.xe s
section
variable {X : Cx} {a b : Expr} {ta tb : TE} {pos : Pos}
theorem IxR.or {r r' : R2} (h : IxR X r) (h' : IxR X r') : IxR X (fun x y H Q => r x y H Q \/ r' x y H Q) := by
  intro value slice pins s σ H x y v u Q I rx ry q hs
  rcases q with q | q
  . exact h value slice pins s σ H x y v u Q I rx ry q hs
  . exact h' value slice pins s σ H x y v u Q I rx ry q hs
theorem pe_ix {r : R2} (hr : IxR X r) (ha : PE X a ta) (hb : PE X b tb) (hs : PlainIx b) : PE X (.Subscript a b pos) (tOp r ta tb) := by
  intro pins s σ H Q I h
  exact Subscript_ (binT ha hb I h fun v u s2 x y H2 I2 rx ry q => hr a b pins s2 σ H2 x y v u Q I2 rx ry q (hs _ _))

def rIxL (K : PySem.W.Frag) : R2 := fun x y H Q => ∃ p xs i v, x = .ref p /\ y = .int i /\ SqL K H p xs /\ atI xs i = some v /\ Q v H
def rIxT (K : PySem.W.Frag) : R2 := fun x y H Q => ∃ p xs i v, x = .ref p /\ y = .int i /\ SqT K H p xs /\ atI xs i = some v /\ Q v H
def rIxS : R2 := fun x y H Q => ∃ z i c, x = .str z /\ y = .int i /\ z.length <= sizeLine /\ atI z.cps.toList i = some c /\ Q (.str ⟨#[c]⟩) H
theorem ix_list : IxR X (rIxL X.K) := by
  intro value slice pins s σ H x y v u Q I rx ry h hs
  obtain ⟨p, xs, i, z, rfl, rfl, hq, he, q⟩ := h
  cases rx
  obtain ⟨t, rfl⟩ := ry
  obtain ⟨its, r, pl, hz⟩ := I.list hq
  obtain ⟨j, h1, h2, h3, h4, h5⟩ := atI_get he
  obtain ⟨w, ew, rw'⟩ := r.get h2
  have hl := r.length
  have hn := line63
  have fin : EP X pins σ Q w s := ⟨z, H, I, rw', q⟩
  by_cases h0 : 0 <= i
  . have hj : i.toNat = j := by
      rw [seqIndex_of h0 h5] at h1
      exact Option.some.inj h1
    exact item_listR pl.isList h0 (by omega) (by rw [hj]; simpa using ew) fin hs
  . have hj : (i + (its.toArray.size : Int)).toNat = j := by
      rw [seqIndex_neg (by omega) h4] at h1
      rw [List.size_toArray, <- hl]
      exact Option.some.inj h1
    exact subscriptTail_builtinR (x := w) pl.isList.typeIs slot_list_getitem.lookup
      (wpAny_getItem_list_neg (Q := fun r s' => r = w /\ EP X pins σ Q r s') pl.isList (by omega) (by rw [List.size_toArray] <;> omega) (by omega) (by rw [hj]; simpa using ew) ⟨rfl, fin⟩) hs
theorem ix_tup : IxR X (rIxT X.K) := by
  intro value slice pins s σ H x y v u Q I rx ry h hs
  obtain ⟨p, xs, i, z, rfl, rfl, hq, he, q⟩ := h
  cases rx
  obtain ⟨t, rfl⟩ := ry
  obtain ⟨its, r, pl, hz⟩ := I.tuple hq
  obtain ⟨j, h1, h2, h3, h4, h5⟩ := atI_get he
  obtain ⟨w, ew, rw'⟩ := r.get h2
  have hl := r.length
  have hn := line63
  have fin : EP X pins σ Q w s := ⟨z, H, I, rw', q⟩
  exact subscriptTail_builtinR (x := w) pl.typeIs slot_tuple_getitem.lookup
    (getItem_tuple (j := j) (Q := fun r s' => r = w /\ EP X pins σ Q r s') pl (by omega) (by omega) (by rw [List.size_toArray, <- hl]; exact h1) (by simpa using ew) ⟨rfl, fin⟩) hs
theorem ix_str : IxR X rIxS := by
  intro value slice pins s σ H x y v u Q I rx ry h hs
  obtain ⟨z, i, c, rfl, rfl, hz, he, q⟩ := h
  obtain ⟨t, rfl⟩ := rx
  obtain ⟨t', rfl⟩ := ry
  obtain ⟨j, h1, h2, h3, h4, h5⟩ := atI_get he
  have hl : z.cps.toList.length = z.length := by simp [Str.length]
  rw [hl] at h1 h4 h5
  have hn := line63
  exact tail_any (typeIs_str s z t) slot_str_getitem.lookup (getItem_str (c := c) (by
    have e1 : decide (i < -(2 ^ 63 : Int)) = false := decide_eq_false (by omega)
    have e2 : decide (i ≥ 2 ^ 63) = false := decide_eq_false (by omega)
    rw [e1, e2, Bool.or_false]) (by rw [h1]; simpa using h2) ⟨.str ⟨#[c]⟩, H, I.tok _, ⟨_, rfl⟩, q⟩) hs
def rIx (K : PySem.W.Frag) : R2 := fun x y H Q => rIxL K x y H Q \/ rIxT K x y H Q \/ rIxS x y H Q
theorem ix_seq : IxR X (rIx X.K) := ix_list.or (ix_tup.or ix_str)

theorem mapSeq_set (its : List Value) (n j : Nat) (u : Value) : Obj.mapSeq (·.setIfInBounds j u) { cls := .type "list", data := .seq its.toArray n } = { cls := .type "list", data := .seq (its.set j u).toArray n } := by
  simp [Obj.mapSeq]
theorem Inv.lst {pins : List (Addr × Obj)} {σ : St} {H : Hp} {s : Shared} {p : Addr} {xs : List V} (I : Inv X pins σ H s) (h : H p = some (.lst xs)) :
    ∃ (its : List Value) (n : Nat), Vals xs its /\ s.heap.get? p = some { cls := .type "list", data := .seq its.toArray n } /\ xs.length <= sizeLine := by
  obtain ⟨z, its, n, r, e⟩ := I.hok p _ h
  exact ⟨its, n, r, e, z⟩
theorem Inv.lstUpd {pins : List (Addr × Obj)} {σ : St} {H : Hp} {s : Shared} {p : Addr} {xs ys : List V} {its its' : List Value} {n n' : Nat} {f : Obj -> Obj} (I : Inv X pins σ H s) (h : H p = some (.lst xs))
    (ho : s.heap.get? p = some { cls := .type "list", data := .seq its.toArray n }) (hf : f { cls := .type "list", data := .seq its.toArray n } = { cls := .type "list", data := .seq its'.toArray n' }) (r : Vals ys its') (hz : ys.length <= sizeLine) (t : Nat) :
    Inv X pins σ (upd H p (.lst ys)) { s with heap := s.heap.update p f, toks := t } := by
  have e : (s.heap.update p f).get? p = some { cls := .type "list", data := .seq its'.toArray n' } := by
    rw [Heap.get?_update_self f ho (by rw [hf] <;> rfl), hf]
  refine I.write (x := p) (e := p) (by rw [h]; trivial) (.inl rfl) (fun b u hb q => (Heap.get?_update_other _ _ (Ne.symm hb)).trans q) ⟨_, e⟩ ?_
  exact ⟨hz, its', n', r, e⟩
def rSetL : V -> V -> V -> Hp -> (Hp -> Prop) -> Prop := fun o i v H Q => ∃ p xs k j, o = .ref p /\ i = .int k /\ H p = some (.lst xs) /\ ixN xs.length k = some j /\ Q (upd H p (.lst (xs.set j v)))
theorem set_list : PSet X rSetL := by
  intro pins s σ H o i v ov iv u Q I ro ri rv h
  obtain ⟨p, xs, k, j, rfl, rfl, hp, hj, q⟩ := h
  cases ro
  obtain ⟨t, rfl⟩ := ri
  obtain ⟨its, n, r, ho, hz⟩ := I.lst hp
  obtain ⟨h1, h2, h3, h4⟩ := ixN_seq hj
  have hl := r.length
  have hn := line63
  have I' : Inv X pins σ (upd H p (.lst (xs.set j v))) { s with heap := s.heap.update p (Obj.mapSeq (·.setIfInBounds j u)) } :=
    I.lstUpd hp ho (mapSeq_set its n j u) (r.set rv j) (by rw [List.length_set]; exact hz) s.toks
  by_cases h0 : 0 <= k
  . have hk : k.toNat = j := by
      rw [seqIndex_of h0 h4] at h1
      exact Option.some.inj h1
    exact PySem.W.ki_setAt ho h0 (by omega) (by rw [List.size_toArray, <- hl]; exact h4) (by rw [hk]; exact ⟨_, I', q⟩)
  . have hk : (k + (its.toArray.size : Int)).toNat = j := by
      rw [seqIndex_neg (by omega) h3] at h1
      rw [List.size_toArray, <- hl]
      exact Option.some.inj h1
    exact PySem.W.ki_setBack ho (by omega) (by rw [List.size_toArray, <- hl]; exact h3) (by omega) (by rw [hk]; exact ⟨_, I', q⟩)

theorem slice_bounds (lo hi : Option Int) (n : Nat) : (sliceBounds lo hi none n).1 = ((HT.sIx n 0 lo : Nat) : Int) /\ (sliceBounds lo hi none n).2.1 = ((HT.sIx n n hi : Nat) : Int) /\ (sliceBounds lo hi none n).2.2 = 1 := by
  refine ⟨?_, ?_, rfl⟩
  . cases lo with
    | none => simp [sliceBounds, HT.sIx]
    | some i =>
      simp only [sliceBounds, HT.sIx, Option.getD_none, show (1 : Int) > 0 by decide, if_true]
      by_cases h : i < 0
      . simp only [h, if_true] <;> omega
      . simp only [h, if_false] <;> omega
  . cases hi with
    | none => simp [sliceBounds, HT.sIx]
    | some i =>
      simp only [sliceBounds, HT.sIx, Option.getD_none, show (1 : Int) > 0 by decide, if_true]
      by_cases h : i < 0
      . simp only [h, if_true] <;> omega
      . simp only [h, if_false] <;> omega
theorem slicePick_cut (its : List Value) (lo hi : Option Int) : slicePick its.toArray lo hi none = ((its.drop (HT.sIx its.length 0 lo)).take (HT.sIx its.length its.length hi - HT.sIx its.length 0 lo)).toArray := by
  obtain ⟨h1, h2, h3⟩ := slice_bounds lo hi its.toArray.size
  unfold slicePick
  rw [h1, h2, h3]
  simp only [sliceRange_one, pick_run, List.size_toArray] <;> rfl
def rSlL (K : PySem.W.Frag) : V -> Option Int -> Option Int -> Hp -> VK -> Prop := fun x lo hi H Q => ∃ a xs, x = .ref a /\ SqL K H a xs /\ ∀ p, H p = none -> Q (.ref p) (upd H p (.lst (cutV xs lo hi)))
theorem sl_list : SlR X (rSlL X.K) := by
  intro pins s σ H x v vl vu lo hi sl Q I rx hs pl pu h
  obtain ⟨a, xs, rfl, hx, q⟩ := h
  cases rx
  obtain ⟨its, r, ht, hz⟩ := I.list hx
  have hlen := r.length
  refine ⟨"list", _, slot_list_getitem.lookup, ht.isList.typeIs, ?_⟩
  refine wpAny_getItem_list_slice ht.isList hs pl pu .none (by simp) ?_ (by rw [List.size_toArray] <;> omega)
  rw [slicePick_cut, <- hlen]
  refine ⟨.ref s.heap.objs.size, _, I.laid (t' := s.toks) (o := .lst (cutV xs lo hi)) (fun b ob q => Heap.get?_push_of_some _ q) (Nat.le_refl _) ?_, rfl, q _ (I.hok.fresh (Nat.le_refl _))⟩
  exact ⟨Nat.le_trans (cutV_length xs lo hi) hz, _, 0, (r.drop (HT.sIx xs.length 0 lo)).take (HT.sIx xs.length xs.length hi - HT.sIx xs.length 0 lo), Heap.get?_push_size _ rfl⟩

def flatV : V -> Bool
  | .non => true
  | .bl _ => true
  | .int _ => true
  | .str _ => true
  | _ => false
def eqV : V -> V -> Bool
  | .non, .non => true
  | .bl a, .bl b => a == b
  | .bl a, .int b => (if a then 1 else 0) == b
  | .int a, .bl b => a == (if b then 1 else 0)
  | .int a, .int b => a == b
  | .str a, .str b => a == b
  | _, _ => false
theorem eqAt_V {A : Around} {s : Shared} {y x : V} {u v : Value} (ry : RelV y u) (rx : RelV x v) (fy : flatV y = true) (fx : flatV x = true) : SeqAt.EqAt A s u v (eqV y x) := by
  cases y with
  | non =>
    cases ry
    cases x with
    | non => cases rx; exact SeqAt.EqAt.same _
    | bl b => cases rx; exact SeqAt.EqAt.none_bool b
    | int b => obtain ⟨t, rfl⟩ := rx; exact SeqAt.EqAt.none_int b t
    | str b => obtain ⟨t, rfl⟩ := rx; exact SeqAt.EqAt.none_str b t
    | _ => exact absurd (show false = true from fx) Bool.false_ne_true
  | bl a =>
    cases ry
    cases x with
    | non => cases rx; exact SeqAt.EqAt.bool_none a
    | bl b => cases rx; exact SeqAt.EqAt.bool_bool a b
    | int b => obtain ⟨t, rfl⟩ := rx; exact SeqAt.EqAt.bool_int a b t
    | str b => obtain ⟨t, rfl⟩ := rx; exact SeqAt.EqAt.bool_str a b t
    | _ => exact absurd (show false = true from fx) Bool.false_ne_true
  | int a =>
    obtain ⟨t', rfl⟩ := ry
    cases x with
    | non => cases rx; exact SeqAt.EqAt.int_none a t'
    | bl b => cases rx; exact SeqAt.EqAt.int_bool a t' b
    | int b => obtain ⟨t, rfl⟩ := rx; exact SeqAt.EqAt.int_int a t' b t
    | str b => obtain ⟨t, rfl⟩ := rx; exact SeqAt.EqAt.int_str a t' b t
    | _ => exact absurd (show false = true from fx) Bool.false_ne_true
  | str a =>
    obtain ⟨t', rfl⟩ := ry
    cases x with
    | non => cases rx; exact SeqAt.EqAt.str_none a t'
    | bl b => cases rx; exact SeqAt.EqAt.str_bool a t' b
    | int b => obtain ⟨t, rfl⟩ := rx; exact SeqAt.EqAt.str_int a t' b t
    | str b => obtain ⟨t, rfl⟩ := rx; exact SeqAt.EqAt.str_str a t' b t
    | _ => exact absurd (show false = true from fx) Bool.false_ne_true
  | _ => exact absurd (show false = true from fy) Bool.false_ne_true
def eqU (x : V) (u : Value) : Bool := match u with
  | .none => eqV .non x
  | .bool b => eqV (.bl b) x
  | .int i _ => eqV (.int i) x
  | .str z _ => eqV (.str z) x
  | _ => false
theorem eqU_of {x y : V} {u : Value} (r : RelV y u) (f : flatV y = true) : eqU x u = eqV y x := by
  cases y with
  | non => cases r; rfl
  | bl b => cases r; rfl
  | int i => obtain ⟨t, rfl⟩ := r; rfl
  | str z => obtain ⟨t, rfl⟩ := r; rfl
  | _ => exact absurd (show false = true from f) Bool.false_ne_true
theorem any_eqU {x : V} : ∀ {xs : List V} {us : List Value}, Vals xs us -> xs.all flatV = true -> us.any (eqU x) = xs.any fun y => eqV y x
  | _, _, .nil, _ => rfl
  | y :: xs, u :: us, .cons r t, f => by
    rw [List.all_cons, Bool.and_eq_true] at f
    rw [List.any_cons, List.any_cons, eqU_of r f.1, any_eqU t f.2]
theorem mem_eqAt {A : Around} {s : Shared} {x : V} {v : Value} (rx : RelV x v) (fx : flatV x = true) : ∀ {xs : List V} {us : List Value}, Vals xs us -> xs.all flatV = true -> ∀ u ∈ us, SeqAt.EqAt A s u v (eqU x u)
  | _, _, .nil, _ => fun u hu => by cases hu
  | y :: xs, u :: us, .cons r t, f => fun u' hu => by
    rw [List.all_cons, Bool.and_eq_true] at f
    rcases List.mem_cons.mp hu with rfl | hu
    . rw [eqU_of r f.1]; exact eqAt_V r rx f.1 fx
    . exact mem_eqAt rx fx t f.2 u' hu
def inV (x : V) (xs : List V) : Bool := xs.any fun y => eqV y x
def rIn (K : PySem.W.Frag) (neg : Bool) : R2 := fun x y H Q => ∃ p xs, y = .ref p /\ (SqL K H p xs \/ SqT K H p xs) /\ flatV x = true /\ xs.all flatV = true /\ Q (.bl (if neg then !inV x xs else inV x xs)) H
theorem op_notIn_seq : OpR X (compareOp .NotIn) (rIn X.K true) := by
  intro pins s σ H x y v u Q I rx ry h
  obtain ⟨p, xs, rfl, hq, fx, fs, q⟩ := h
  cases ry
  rcases hq with hq | hq
  . obtain ⟨its, r, pl, hz⟩ := I.list hq
    refine SeqAt.notIn_listAt (eqU x) pl.isList (fun w hw => mem_eqAt rx fx r fs w (by simpa using hw)) ⟨.bl _, H, I, rfl, ?_⟩
    rw [show its.toArray.any (eqU x) = its.any (eqU x) by simp, any_eqU r fs]
    exact q
  . obtain ⟨its, r, pl, hz⟩ := I.tuple hq
    refine SeqAt.notIn_tupleAt (eqU x) pl (fun w hw => mem_eqAt rx fx r fs w (by simpa using hw)) ⟨.bl _, H, I, rfl, ?_⟩
    rw [show its.toArray.any (eqU x) = its.any (eqU x) by simp, any_eqU r fs]
    exact q
theorem call_len_seq : CallR X (.builtin "len") (fun xs H Q => ∃ p ys, xs = [.ref p] /\ (SqL X.K H p ys \/ SqT X.K H p ys) /\ Q (.int ys.length) H) := by
  intro pins s σ H xs us Q I r h
  obtain ⟨p, ys, rfl, hq, q⟩ := h
  obtain ⟨u, rfl, rx⟩ := vals1 r
  cases rx
  have hn := line63
  rcases hq with hq | hq
  . obtain ⟨its, r', pl, hz⟩ := I.list hq
    have hlen := r'.length
    exact Calls.call_len_list pl.isList (by simp only [List.size_toArray] <;> omega) ⟨.int ys.length, H, I.tok _, ⟨s.toks + 1, by rw [List.size_toArray, hlen]⟩, q⟩
  . obtain ⟨its, r', pl, hz⟩ := I.tuple hq
    have hlen := r'.length
    exact len_tuple pl (by simp only [List.size_toArray] <;> omega) ⟨.int ys.length, H, I.tok _, ⟨s.toks + 1, by rw [List.size_toArray, hlen]⟩, q⟩
theorem call_len_str : CallR X (.builtin "len") (fun xs H Q => ∃ z, xs = [.str z] /\ z.length <= sizeLine /\ Q (.int z.length) H) := by
  intro pins s σ H xs us Q I r h
  obtain ⟨z, rfl, hz, q⟩ := h
  obtain ⟨u, rfl, t, rfl⟩ := vals1 r
  have hn := line63
  exact len_str (by omega) ⟨.int z.length, H, I.tok _, ⟨_, rfl⟩, q⟩
theorem CallR.or {f : Value} {r r' : List V -> Hp -> VK -> Prop} (h : CallR X f r) (h' : CallR X f r') : CallR X f (fun xs H Q => r xs H Q \/ r' xs H Q) := by
  intro pins s σ H xs us Q I rs q
  rcases q with q | q
  . exact h pins s σ H xs us Q I rs q
  . exact h' pins s σ H xs us Q I rs q
theorem call_list_of : CallR X (.type "list") (fun xs H Q => ∃ p ys, xs = [.ref p] /\ (SqL X.K H p ys \/ SqT X.K H p ys) /\ ∀ l, H l = none -> Q (.ref l) (upd H l (.lst ys))) := by
  intro pins s σ H xs us Q I r h
  obtain ⟨p, ys, rfl, hq, q⟩ := h
  obtain ⟨u, rfl, rx⟩ := vals1 r
  cases rx
  have fin : ∀ (its : List Value), Vals ys its -> ys.length <= sizeLine -> ∀ (h' : Heap) (c' : Nat), (∀ b o', s.heap.get? b = some o' -> h'.get? b = some o') ->
      h'.get? s.heap.objs.size = some { cls := .type "list", dict := none, data := .seq its.toArray c', slots := #[] } -> EP X pins σ Q (.ref s.heap.objs.size) { s with heap := h' } := fun its r' hz h' c' kp e =>
    ⟨.ref s.heap.objs.size, _, I.laid (t' := s.toks) kp (Nat.le_refl _) (show ObjOk X.prog X.w _ h' _ (.lst ys) from ⟨hz, its, c', r', e⟩), rfl, q _ (I.hok.fresh (Nat.le_refl _))⟩
  rcases hq with hq | hq
  . obtain ⟨its, r', pl, hz⟩ := I.list hq
    have hlen := r'.length
    obtain ⟨o, ho, hc, n, hd⟩ := pl.isList
    exact call_list_seq p (.inl rfl) ho hc hd (fun h' c' kp e => fin its r' hz h' c' kp e) (by simp only [List.size_toArray] <;> omega)
  . obtain ⟨its, r', pl, hz⟩ := I.tuple hq
    have hlen := r'.length
    obtain ⟨o, ho, hc, n, hd⟩ := pl
    exact call_list_seq p (.inr rfl) ho hc hd (fun h' c' kp e => fin its r' hz h' c' kp e) (by simp only [List.size_toArray] <;> omega)
theorem call_tuple_of : CallR X (.type "tuple") (fun xs H Q => ∃ p ys, xs = [.ref p] /\ ((SqL X.K H p ys /\ ∀ l, H l = none -> Q (.ref l) (upd H l (.tup ys))) \/ (SqT X.K H p ys /\ Q (.ref p) H))) := by
  intro pins s σ H xs us Q I r h
  obtain ⟨p, ys, rfl, h⟩ := h
  obtain ⟨u, rfl, rx⟩ := vals1 r
  cases rx
  rcases h with ⟨hq, q⟩ | ⟨hq, q⟩
  . obtain ⟨its, r', pl, hz⟩ := I.list hq
    have hlen := r'.length
    refine call_tuple_list pl.isList (fun h' kp => ?_) (by simp only [List.size_toArray] <;> omega)
    have I1 : Inv X pins σ H { s with heap := h' } := I.kept (t' := s.toks) kp
    have I2 : Inv X pins σ (upd H h'.objs.size (.tup ys)) { s with heap := h'.push { cls := .type "tuple", data := .seq its.toArray } } :=
      I1.laid (t' := s.toks) (fun b o e => Heap.get?_push_of_some _ e) (Nat.le_refl _) (show ObjOk X.prog X.w _ _ _ (.tup ys) from ⟨hz, its, r', IsTup.new _ _⟩)
    exact ⟨.ref h'.objs.size, _, I2, rfl, q _ (I1.hok.fresh (Nat.le_refl _))⟩
  . obtain ⟨its, r', pl, hz⟩ := I.tuple hq
    exact call_tuple_same pl ⟨.ref p, H, I, rfl, q⟩

def tyV (K : PySem.W.Frag) (T : String) (x : V) (H : Hp) : Prop := match x with
  | .str _ => T = "str"
  | .int _ => T = "int"
  | .ref p => (T = "list" /\ ∃ xs, SqL K H p xs) \/ (T = "tuple" /\ ∃ o, K.lookup p = some o /\ o.cls = .type "tuple" /\ o.dict = none) \/
      (T = "dict" /\ ((∃ kvs, H p = some (.dK kvs)) \/ ∃ kvs, H p = some (.dT kvs))) \/ (T = "set" /\ ∃ S n, H p = some (.set S n))
  | _ => False
theorem tyV_is {pins : List (Addr × Obj)} {σ : St} {H : Hp} {s : Shared} {T : String} {x : V} {v : Value} (I : Inv X pins σ H s) (r : RelV x v) (ty : tyV X.K T x H) :
    s.TypeIs v T /\ ∀ a, v = .ref a -> ∃ ob, s.heap.get? a = some ob /\ ob.dict = none := by
  cases x with
  | str z =>
    obtain ⟨t, rfl⟩ := r
    cases (show T = "str" from ty)
    exact ⟨typeIs_str s z t, fun _ e => nomatch e⟩
  | int i =>
    obtain ⟨t, rfl⟩ := r
    cases (show T = "int" from ty)
    exact ⟨typeIs_int s i t, fun _ e => nomatch e⟩
  | ref p =>
    cases r
    rcases ty with ⟨rfl, xs, hq⟩ | ⟨rfl, o, hk, hc, hd⟩ | ⟨rfl, hk⟩ | ⟨rfl, S, n, hk⟩
    . obtain ⟨its, _, pl, _⟩ := I.list hq
      refine ⟨pl.isList.typeIs, fun a e => ?_⟩
      cases e
      obtain ⟨o, n, e, c, hd, _⟩ := pl
      exact ⟨o, e, hd⟩
    . refine ⟨⟨o, I.kIn p o hk, hc⟩, fun a e => ?_⟩
      cases e
      exact ⟨o, I.kIn _ o hk, hd⟩
    . have z : ∃ o, s.heap.get? p = some o /\ o.ExactDict := by
        rcases hk with ⟨kvs, hk⟩ | ⟨kvs, hk⟩
        . obtain ⟨_, _, _, _, o, _, _, e, ex, _⟩ := I.hok p _ hk
          exact ⟨o, e, ex⟩
        . obtain ⟨_, _, _, _, o, _, _, e, ex, _⟩ := I.hok p _ hk
          exact ⟨o, e, ex⟩
      obtain ⟨o, e, ex⟩ := z
      refine ⟨⟨o, e, ex.1⟩, fun a e2 => ?_⟩
      cases e2
      exact ⟨o, e, ex.2.1⟩
    . obtain ⟨o, _, _, _, e, ex, _⟩ := I.hok p _ hk
      refine ⟨⟨o, e, ex.1⟩, fun a e2 => ?_⟩
      cases e2
      exact ⟨o, e, ex.2.1⟩
  | _ => exact False.elim ty
def tBM (K : PySem.W.Frag) (T : String) (r : V -> List V -> Hp -> VK -> Prop) (to : TE) (t : TA) : TE := fun σ H Q => to σ H fun x H1 => tyV K T x H1 /\ t σ H1 fun xs H2 => r x xs H2 Q
variable {o e : Expr} {es : List Expr} {to : TE} {t : TA} {name : Str} {apos cpos : Pos} {T id : String} {r : V -> List V -> Hp -> VK -> Prop}
theorem pe_bm (pa : PlainAttrs T) (slot : Slot T name id) (hty : typeOf (.builtin id) = pure (.type "method_descriptor")) (hm : MtR X id r) (ho : PE X o to) (ha : PA X (e :: es) t)
    (hbase : attributeBase o name X.env (eval o X.env) = eval o X.env := by rfl)
    (hfew : ((backTo cpos (starEach (e :: es) X.env)).all (fun x => !x.1) && (backToKw cpos (keywordEach [] X.env)).all (fun x => x.1.isSome)
      && decide ((e :: es).length + ([] : List Keyword).length + (if ([] : List Keyword).isEmpty then 0 else 1) < 30)) = true := by rfl)
    (hline : (apos.endLine == cpos.line) = true := by rfl) (hs : starEach (e :: es) X.env = (false, eval e X.env) :: starEach es X.env := by rfl) (hplain : (backTo cpos (starEach es X.env)).any (·.1) = false := by rfl) :
    PE X (.Call (.Attribute o name apos) (e :: es) [] cpos) (tBM X.K T r to t) := by
  intro pins s σ H Q I h
  refine wpAny_Call_method_late hbase hfew hline rfl (thn (ho pins s σ H _ I h) fun v s1 ⟨x, H1, I1, r1, ty, q1⟩ => ?_)
  obtain ⟨h1, h2⟩ := tyV_is I1 r1 ty
  refine ⟨T, id, pa, slot, hty, h1, h2, ?_⟩
  have hA := ha cpos pins s1 σ H1 _ I1 q1
  rw [hs] at hA ⊢
  refine Calls.callWith_builtin (by show (false || (backTo cpos (starEach es X.env)).any (·.1)) = false; rw [hplain] <;> rfl) (Calls.evalArgs_plain ?_)
  exact thn hA fun us s2 ⟨vs, H2, I2, r2, q2⟩ => hm pins s2 σ H2 x vs v us Q I2 r1 r2 q2
end
end L2

namespace L2
open PySem PySem.Spec PyProof.Rows

def MtM (X : Cx) (id : String) (r : V -> List V -> Hp -> VK -> Prop) : Prop :=
  ∀ (pins : List (Addr × Obj)) (s : Shared) (σ : St) (H : Hp) (x : V) (xs : List V) (v : Value) (us : List Value) (Q : VK), Inv X pins σ H s -> RelV x v -> Vals xs us -> r x xs H Q ->
    wpAny (model X.prog X.w) X.A (call (.builtin id) (v :: us)) (EP X pins σ Q) X.xe s

theorem Vals.one : ∀ {x : V} {us : List Value}, Vals [x] us -> ∃ u, us = [u] /\ RelV x u
  | _, _, .cons r .nil => ⟨_, rfl, r⟩
theorem Vals.rep {xs : List V} {us : List Value} (h : Vals xs us) : ∀ k : Nat, Vals (List.replicate k xs).flatten (List.replicate k us).flatten
  | 0 => .nil
  | k + 1 => by
    rw [List.replicate_succ, List.replicate_succ, List.flatten_cons, List.flatten_cons]
    exact Vals.append h (Vals.rep h k)
theorem foldl_rep (its : List Value) : ∀ (k : Nat) (acc : List Value),
    List.foldl (fun x1 x2 => x1 ++ x2) acc.toArray (List.replicate k its.toArray) = (acc ++ (List.replicate k its).flatten).toArray
  | 0, acc => by simp
  | k + 1, acc => by
    have e : acc.toArray ++ its.toArray = (acc ++ its).toArray := by simp
    have e2 : (acc ++ its) ++ (List.replicate k its).flatten = acc ++ (List.replicate (k + 1) its).flatten := by
      rw [List.replicate_succ, List.flatten_cons, List.append_assoc]
    rw [<- e2, <- foldl_rep its k (acc ++ its), <- e, List.replicate_succ, List.foldl_cons]

section
variable {X : Cx} {pins : List (Addr × Obj)} {σ : St} {H : Hp} {s : Shared} {l b : Addr} {xs ys zs : List V}

theorem Inv.lset {its its' : List Value} {n : Nat} {f : Array Value -> Array Value} {t' : Nat} (I : Inv X pins σ H s) (hH : H l = some (.lst xs))
    (e : s.heap.get? l = some { cls := .type "list", data := .seq its.toArray n }) (hf : f its.toArray = its'.toArray) (hv : Vals ys its') (hz : ys.length <= sizeLine) :
    Inv X pins σ (upd H l (.lst ys)) { s with heap := s.heap.update l (Obj.mapSeq f), toks := t' } := by
  have q := PySem.IsL.update e f
  rw [hf] at q
  refine I.write (x := l) (e := l) (by rw [hH]; exact trivial) (.inl rfl) (fun b' u hb hu => (Heap.get?_update_other s.heap (Obj.mapSeq f) (Ne.symm hb)).trans hu) ⟨_, q⟩ ?_
  exact ⟨hz, its', _, hv, q⟩
theorem Inv.lnew {its : List Value} {t' : Nat} (I : Inv X pins σ H s) (hv : Vals ys its) (hz : ys.length <= sizeLine) :
    Inv X pins σ (upd H s.heap.objs.size (.lst ys)) { s with heap := s.heap.push { cls := .type "list", data := .seq its.toArray }, toks := t' } :=
  I.laid (fun _ _ q => Heap.get?_push_of_some _ q) (Nat.le_refl _) ⟨hz, its, 0, hv, Heap.get?_push_size _ rfl⟩
theorem Inv.fresh (I : Inv X pins σ H s) : H s.heap.objs.size = none := I.hok.fresh (Nat.le_refl _)
theorem Inv.lstM (I : Inv X pins σ H s) (hH : H l = some (.lst xs)) : xs.length <= sizeLine /\ ∃ (its : List Value) (n : Nat), Vals xs its /\ xs.length = its.length /\ s.heap.get? l = some { cls := .type "list", data := .seq its.toArray n } := by
  obtain ⟨z, its, n, r, e⟩ := I.hok l _ hH
  exact ⟨z, its, n, r, r.length, e⟩

theorem notLongL {n : Nat} (h : n <= sizeLine) : Builtin.List.listTooLong n = false := by
  unfold Builtin.List.listTooLong
  exact decide_eq_false (by omega)
end

section
variable {X : Cx}

def rAppend : V -> List V -> Hp -> VK -> Prop := fun x vs H Q => ∃ l xs y, x = .ref l /\ vs = [y] /\ H l = some (.lst xs) /\ xs.length < sizeLine /\ Q .non (upd H l (.lst (xs ++ [y])))
theorem mt_append : MtM X "list.append" rAppend := by
  intro pins s σ H x vs v us Q I rx rv h
  obtain ⟨l, xs, y, rfl, rfl, hH, hz, q⟩ := h
  cases rx
  obtain ⟨u, rfl, ru⟩ := rv.one
  obtain ⟨z, its, n, r, hl, e⟩ := I.lstM hH
  refine call_meets F.slot_list_append ⟨_, e, rfl⟩ F.entry_list_append (F.args_list_append_2 _ _) (PySem.list_append l its.toArray n u (by rw [List.size_toArray]; omega)) ⟨e, ?_⟩
  refine ⟨.non, _, I.lset (its' := its ++ [u]) hH e (by simp) (r.append (.cons ru .nil)) ?_, rfl, q⟩
  rw [List.length_append, List.length_singleton]
  omega

def rCat : R2 := fun x y H Q => ∃ l b xs zs, x = .ref l /\ y = .ref b /\ H l = some (.lst xs) /\ H b = some (.lst zs) /\ xs.length + zs.length <= sizeLine /\ ∀ p, H p = none -> Q (.ref p) (upd H p (.lst (xs ++ zs)))
theorem op_cat : OpR X (binaryOp .Add) rCat := by
  intro pins s σ H x y v u Q I rx ry h
  obtain ⟨l, b, xs, zs, rfl, rfl, hH, hB, hz, q⟩ := h
  cases rx
  cases ry
  obtain ⟨z, its, n, r, hl, e⟩ := I.lstM hH
  obtain ⟨z2, its2, n2, r2, hl2, e2⟩ := I.lstM hB
  refine PySem.P.add_list e e2 ?_ (by rw [List.size_toArray, List.size_toArray]; omega)
  have ea : its.toArray ++ its2.toArray = (its ++ its2).toArray := by simp
  rw [ea]
  exact ⟨.ref _, _, I.lnew (t' := s.toks) (r.append r2) (by rw [List.length_append]; omega), rfl, q _ I.fresh⟩
def rRep : R2 := fun x y H Q => ∃ l k xs, x = .ref l /\ y = .int k /\ H l = some (.lst xs) /\ -(2 ^ 63) <= k /\ k < 2 ^ 63 /\ xs.length * k.toNat <= sizeLine /\
  ∀ p, H p = none -> Q (.ref p) (upd H p (.lst (List.replicate k.toNat xs).flatten))
theorem len_rep {α : Type} (xs : List α) (k : Nat) : (List.replicate k xs).flatten.length = k * xs.length := by
  induction k with
  | zero => simp
  | succ k ih => rw [List.replicate_succ, List.flatten_cons, List.length_append, ih, Nat.succ_mul, Nat.add_comm]
theorem op_rep : OpR X (binaryOp .Mult) rRep := by
  intro pins s σ H x y v u Q I rx ry h
  obtain ⟨l, k, xs, rfl, rfl, hH, h1, h2, hz, q⟩ := h
  cases rx
  obtain ⟨t, rfl⟩ := ry
  obtain ⟨z, its, n, r, hl, e⟩ := I.lstM hH
  have hlen : its.toArray.size * k.toNat <= sizeLine := by rw [List.size_toArray, <- hl]; exact hz
  have hcap : ¬ its.toArray.size * k.toNat > (2 ^ 63 - 1) / 8 := by
    have : (sizeLine : Nat) <= (2 ^ 63 - 1) / 8 := by decide
    omega
  have hfit : ¬ (!Builtin.List.listFitsIndex k) = true := by
    rw [fitsIndex_both h1 h2]
    exact Bool.false_ne_true
  have hlong : ¬ Builtin.List.listTooLong (its.toArray.size * k.toNat) = true := by
    rw [notLongL hlen]
    exact Bool.false_ne_true
  have hnew : List.foldl (fun x1 x2 => x1 ++ x2) #[] (List.replicate (if its.toArray.isEmpty = true then 0 else k.toNat) its.toArray) = (List.replicate k.toNat its).flatten.toArray := by
    have f0 : ∀ m : Nat, List.foldl (fun x1 x2 => x1 ++ x2) #[] (List.replicate m its.toArray) = (List.replicate m its).flatten.toArray := fun m => by
      have := foldl_rep its m []
      rw [List.nil_append] at this
      exact this
    rw [f0]
    cases its with
    | nil => simp
    | cons a r' => rw [if_neg (by simp)]
  refine wpAny_binaryOp_repeat_ref (T := "list") (U := "int") (by decide) ⟨_, e, rfl⟩ (fun s' => typeIs_int s' k t) noFill_list_mul F.fills_int_mul F.slot_int_rmul repeat_list F.slot_int_index.lookup
    (call_meets F.slot_int_rmul (typeIs_int s k t) F.entry_int_rmul (F.args_int_rmul_2 _ _) (int___rmul___int_list k t l its.toArray n)
      ⟨e, rfl, ⟨_, e, rfl⟩, call_meets F.slot_list_mul ⟨_, e, rfl⟩ F.entry_list_mul (F.args_list_mul_2 _ _) (AutoListH.list___mul___list_int_3 l its.toArray n k t hfit hcap hlong) ⟨e, ?_⟩⟩)
  rw [hnew]
  exact ⟨.ref _, _, I.lnew (t' := s.toks) (r.rep k.toNat) (by rw [len_rep, Nat.mul_comm]; exact hz), rfl, q _ I.fresh⟩

end

section
variable {prog : Program} {w : World} {A : Around} {E : Value -> Shared -> Prop} {s : Shared}
end

section
variable {X : Cx}
end
end L2


namespace L2
open PySem PySem.Spec PyProof.Rows

section
variable {κ : Type} [DecidableEq κ]
def valV (kvs : List (κ × V)) (k : κ) : Option V := (kvs.find? fun kv => decide (kv.1 = k)).map (·.2)
def putK (kvs : List (κ × V)) (k : κ) (v : V) : List (κ × V) :=
  if (kvs.any fun kv => decide (kv.1 = k)) = true then kvs.map (fun kv => if kv.1 = k then (kv.1, v) else kv) else kvs ++ [(k, v)]
theorem valV_pos {p : κ × V} {r : List (κ × V)} {k : κ} (e : p.1 = k) : valV (p :: r) k = some p.2 := by simp [valV, List.find?_cons, e]
theorem valV_neg {p : κ × V} {r : List (κ × V)} {k : κ} (e : ¬ p.1 = k) : valV (p :: r) k = valV r k := by simp [valV, List.find?_cons, e]
theorem valV_any (k : κ) : ∀ kvs : List (κ × V), (kvs.any fun kv => decide (kv.1 = k)) = (valV kvs k).isSome
  | [] => rfl
  | p :: r => by
    rw [List.any_cons]
    by_cases e : p.1 = k
    . simp only [valV_pos e, decide_eq_true e, Bool.true_or, Option.isSome_some]
    . rw [valV_neg e, decide_eq_false e, Bool.false_or]; exact valV_any k r
theorem length_putK (kvs : List (κ × V)) (k : κ) (v : V) : (putK kvs k v).length <= kvs.length + 1 := by
  unfold putK
  split
  . rw [List.length_map]; omega
  . rw [List.length_append, List.length_cons, List.length_nil]; omega
theorem RelO.isSome_eq {o : Option V} {u : Option Value} (r : RelO o u) : o.isSome = u.isSome := by
  cases o with
  | none => cases u with
    | none => rfl
    | some _ => exact (show False from r).elim
  | some _ => cases u with
    | none => exact (show False from r).elim
    | some _ => rfl
theorem KV.val {kvs : List (κ × V)} {vs : List (κ × Value)} (r : KV kvs vs) (k : κ) : RelO (valV kvs k) (valueAt vs k) := by
  unfold KV at r
  induction r with
  | nil => exact True.intro
  | @cons p q ps qs h t ih =>
    obtain ⟨h1, h2⟩ := h
    by_cases e : p.1 = k
    . have e' : q.1 = k := h1.symm.trans e
      have b : valueAt (q :: qs) k = some q.2 := by simp [valueAt, List.find?_cons, e']
      rw [valV_pos e, b]; exact h2
    . have e' : ¬ q.1 = k := fun z => e (h1.trans z)
      have b : valueAt (q :: qs) k = valueAt qs k := by simp [valueAt, List.find?_cons, e']
      rw [valV_neg e, b]; exact ih
theorem KV.any {kvs : List (κ × V)} {vs : List (κ × Value)} (r : KV kvs vs) (k : κ) : (kvs.any fun kv => decide (kv.1 = k)) = vs.any fun kv => decide (kv.1 = k) := by
  unfold KV at r
  induction r with
  | nil => rfl
  | cons h t ih => rw [List.any_cons, List.any_cons, ih, h.1]
theorem KV.repl {kvs : List (κ × V)} {vs : List (κ × Value)} (r : KV kvs vs) (k : κ) {y : V} {u : Value} (ry : RelV y u) :
    KV (kvs.map fun kv => if kv.1 = k then (kv.1, y) else kv) (vs.map fun kv => if kv.1 = k then (kv.1, u) else kv) := by
  unfold KV at r ⊢
  induction r with
  | nil => exact .nil
  | @cons p q ps qs h t ih =>
    rw [List.map_cons, List.map_cons]
    refine .cons ?_ ih
    obtain ⟨h1, h2⟩ := h
    by_cases e : p.1 = k
    . rw [if_pos e, if_pos (h1.symm.trans e)]; exact ⟨h1, ry⟩
    . rw [if_neg e, if_neg (fun z => e (h1.trans z))]; exact ⟨h1, h2⟩
theorem KV.put {kvs : List (κ × V)} {vs : List (κ × Value)} (r : KV kvs vs) (k : κ) {y : V} {u : Value} (ry : RelV y u) : KV (putK kvs k y) (stored vs k u) := by
  unfold putK stored
  rw [r.any k]
  by_cases e : (vs.any fun kv => decide (kv.1 = k)) = true
  . rw [if_pos e, if_pos e]; exact r.repl k ry
  . rw [if_neg e, if_neg e]; exact Paired.snoc r ⟨rfl, ry⟩
theorem KV.length {kvs : List (κ × V)} {vs : List (κ × Value)} (r : KV kvs vs) : kvs.length = vs.length := Paired.length r
end


theorem kV_is {P : Program} {w : World} {k : Key} {u : Value} (r : RelV (kV k) u) : (mixKind P w).is k u = true := by
  cases k with
  | inl i => obtain ⟨t, e⟩ := (show ∃ t, u = Value.int i t from r); subst e; exact mixKind_int P w i t
  | inr x => obtain ⟨t, e⟩ := (show ∃ t, u = Value.str x t from r); subst e; exact mixKind_str P w x t
theorem items_are {P : Program} {w : World} : ∀ {ks : List Key} {us : List Value}, Vals (ks.map kV) us -> ItemsAre (mixKind P w) ks us
  | [], _, r => by rw [List.map_nil] at r; cases r; exact .nil
  | k :: ks, _, r => by
    rw [List.map_cons] at r
    cases r with
    | cons h t => exact .cons (kV_is h) (items_are t)

abbrev KT (H : Hp) : List (List Key × V) -> List (List Key × Addr × Value) -> Prop := Paired fun p q => p.1 = q.1 /\ H q.2.1 = some (.tup (p.1.map kV)) /\ RelV p.2 q.2.2
theorem KT.val {H : Hp} {kvs : List (List Key × V)} {xs : List (List Key × Addr × Value)} (r : KT H kvs xs) (k : List Key) : RelO (valV kvs k) ((atKey xs k).map (·.2)) := by
  induction r with
  | nil => exact True.intro
  | @cons p q ps qs h t ih =>
    obtain ⟨h1, _, h2⟩ := h
    by_cases e : p.1 = k
    . have e' : q.1 = k := h1.symm.trans e
      have b : atKey (q :: qs) k = some q.2 := by simp [atKey, List.find?_cons, e']
      rw [valV_pos e, b]; exact h2
    . have e' : ¬ q.1 = k := fun z => e (h1.trans z)
      have b : atKey (q :: qs) k = atKey qs k := by simp [atKey, List.find?_cons, e']
      rw [valV_neg e, b]; exact ih
theorem KT.repl {H : Hp} {kvs : List (List Key × V)} {xs : List (List Key × Addr × Value)} (r : KT H kvs xs) (k : List Key) {y : V} {u : Value} (ry : RelV y u) :
    KT H (kvs.map fun kv => if kv.1 = k then (kv.1, y) else kv) (xs.map (putAt k u)) := by
  induction r with
  | nil => exact .nil
  | @cons p q ps qs h t ih =>
    rw [List.map_cons, List.map_cons]
    refine .cons ?_ ih
    obtain ⟨h1, h2, h3⟩ := h
    unfold putAt
    by_cases e : p.1 = k
    . rw [if_pos e, if_pos (h1.symm.trans e)]; exact ⟨h1, h2, ry⟩
    . rw [if_neg e, if_neg (fun z => e (h1.trans z))]; exact ⟨h1, h2, h3⟩
theorem KT.put {H : Hp} {kvs : List (List Key × V)} {xs : List (List Key × Addr × Value)} (r : KT H kvs xs) (k : List Key) {b : Addr} {y : V} {u : Value} (hb : H b = some (.tup (k.map kV))) (ry : RelV y u) :
    KT H (putK kvs k y) (storedH xs k b u) := by
  have e : (kvs.any fun kv => decide (kv.1 = k)) = (atKey xs k).isSome := by
    rw [valV_any, (r.val k).isSome_eq, Option.isSome_map]
  unfold putK storedH
  rw [e]
  by_cases q : (atKey xs k).isSome = true
  . rw [if_pos q, if_pos q]; exact r.repl k ry
  . rw [if_neg q, if_neg q]; exact Paired.snoc r ⟨rfl, hb, ry⟩
theorem KT.keeps {H H' : Hp} {kvs : List (List Key × V)} {xs : List (List Key × Addr × Value)} (r : KT H kvs xs) (ht : ∀ b ys, H b = some (.tup ys) -> H' b = some (.tup ys)) : KT H' kvs xs :=
  Paired.mapP r fun _ _ z => ⟨z.1, ht _ _ z.2.1, z.2.2⟩

section
variable {P : Program} {w : World} {H : Hp} {h : Heap} {a : Addr}
theorem rd_of {u : HO} (ok : HOk P w H h) (e : Rd H a u) : ObjOk P w H h a u := e.ok ok
theorem dk_rd {kvs : List (Key × V)} (ok : HOk P w H h) (e : Rd H a (.dK kvs)) : kvs.length <= sizeLine /\ (a == sysModules) = false /\ ∃ vs, KV kvs vs /\ h.DictOf (mixKind P w) a vs :=
  show ObjOk P w H h a (.dK kvs) from rd_of ok e
theorem dk_of {kvs : List (Key × V)} (ok : HOk P w H h) (e : H a = some (.dK kvs)) : kvs.length <= sizeLine /\ (a == sysModules) = false /\ ∃ vs, KV kvs vs /\ h.DictOf (mixKind P w) a vs := dk_rd ok (.inl e)
theorem key_of {ks : List Key} (ok : HOk P w H h) (e : H a = some (.tup (ks.map kV))) : (tupleKind (mixKind P w)).is h ks a := by
  obtain ⟨_, its, r, o, h1, h2, n, h3⟩ := (show ObjOk P w H h a (.tup (ks.map kV)) from ok a _ e)
  exact ⟨o, its.toArray, n, h1, h2, h3, by simpa using items_are r⟩
theorem dt_rd {kvs : List (List Key × V)} (ok : HOk P w H h) (e : Rd H a (.dT kvs)) : kvs.length <= sizeLine /\ (a == sysModules) = false /\
    ∃ xs, KT H kvs xs /\ h.DictOfH (tupleKind (mixKind P w)) a xs := by
  obtain ⟨z, y, xs, r, o, es, ep, h1, h2, h3, h4, h5⟩ := (show ObjOk P w H h a (.dT kvs) from rd_of ok e)
  refine ⟨z, y, xs, r, o, es, ep, h1, h2, h3, h4, fun x hx => ?_, h5⟩
  have all : ∀ {l : List (List Key × V)} {m : List (List Key × Addr × Value)}, KT H l m -> ∀ x ∈ m, (tupleKind (mixKind P w)).is h x.1 x.2.1 := by
    intro l m q
    induction q with
    | nil => intro x hx; exact nomatch hx
    | @cons p q ps qs hq t ih =>
      intro x hx
      rcases List.mem_cons.mp hx with e | hx
      . subst e
        exact key_of ok (by rw [<- hq.1]; exact hq.2.1)
      . exact ih x hx
  exact all r x hx
theorem dt_of {kvs : List (List Key × V)} (ok : HOk P w H h) (e : H a = some (.dT kvs)) : kvs.length <= sizeLine /\ (a == sysModules) = false /\
    ∃ xs, KT H kvs xs /\ h.DictOfH (tupleKind (mixKind P w)) a xs := dt_rd ok (.inl e)
end

def DGet (H : Hp) (a : Addr) (y : V) (r : Option V) : Prop :=
  (∃ kvs k, Rd H a (.dK kvs) /\ y = kV k /\ r = valV kvs k) \/ ∃ kvs k b, Rd H a (.dT kvs) /\ y = .ref b /\ H b = some (.tup (k.map kV)) /\ r = valV kvs k
def DPut (H : Hp) (a : Addr) (y v : V) (H' : Hp) : Prop :=
  (∃ kvs k, H a = some (.dK kvs) /\ y = kV k /\ kvs.length < sizeLine /\ H' = upd H a (.dK (putK kvs k v))) \/
  ∃ kvs k b, H a = some (.dT kvs) /\ y = .ref b /\ H b = some (.tup (k.map kV)) /\ kvs.length < sizeLine /\ H' = upd H a (.dT (putK kvs k v))
theorem DGet.t {H : Hp} {a b : Addr} {kvs : List (List Key × V)} {k : List Key} (e : H a = some (.dT kvs)) (eb : H b = some (.tup (k.map kV))) : DGet H a (.ref b) (valV kvs k) := .inr ⟨kvs, k, b, .inl e, rfl, eb, rfl⟩
theorem DPut.t {H : Hp} {a b : Addr} {kvs : List (List Key × V)} {k : List Key} {v : V} (e : H a = some (.dT kvs)) (eb : H b = some (.tup (k.map kV))) (hl : kvs.length < sizeLine) :
    DPut H a (.ref b) v (upd H a (.dT (putK kvs k v))) := .inr ⟨kvs, k, b, e, rfl, eb, hl, rfl⟩


section
variable {X : Cx} {pins : List (Addr × Obj)} {σ : St} {H : Hp} {s : Shared} {a : Addr} {y v : V} {u r : Value} {o : Option V} {A : Around} {E : Value -> Shared -> Prop}

theorem Inv.big (I : Inv X pins σ H s) : sysModules < s.heap.objs.size := by
  have h : mainGlobals < s.heap.objs.size := (I.mod.glob.keeps I.bk).lt
  exact Nat.lt_trans (by decide) h

theorem d_getItem {Q : Value -> Shared -> Prop} (hu : A.units + 1 < cLine) (I : Inv X pins σ H s) (g : DGet H a y (some v)) (ry : RelV y u) (h : ∀ w' s', Inv X pins σ H s' -> RelV v w' -> Q w' s') :
    wpAny (model X.prog X.w) A (getItem (.ref a) u) Q E s := by
  rcases g with ⟨kvs, k, e, ey, l⟩ | ⟨kvs, k, b, e, ey, eb, l⟩
  . subst ey
    obtain ⟨z, hd, vs, rel, dd⟩ := dk_rd I.hok e
    obtain ⟨w', hw, rw'⟩ := RelO.some_of (v := v) (o := valueAt vs k) (by rw [l]; exact rel.val k)
    exact wpAny_getItem_of (kV_is ry) dd.mapOf hw (h w' _ (I.tok _) rw')
  . subst ey
    cases (show u = Value.ref b from ry)
    obtain ⟨z, hd, xs, rel, dd⟩ := dt_rd I.hok e
    obtain ⟨w', hw, rw'⟩ := RelO.some_of (v := v) (o := (atKey xs k).map (·.2)) (by rw [l]; exact rel.val k)
    obtain ⟨p, hp, hp2⟩ := Option.map_eq_some_iff.mp hw
    refine wpAny_getItem_heap (tupleKind_room_in1 hu) (key_of I.hok eb) dd hp ?_
    rw [hp2]
    exact h w' _ (I.tok _) rw'
theorem d_notIn {Q : Value -> Shared -> Prop} (hu : A.units + 1 < cLine) (I : Inv X pins σ H s) (g : DGet H a y o) (ry : RelV y u) (h : ∀ s', Inv X pins σ H s' -> Q (.bool (!o.isSome)) s') :
    wpAny (model X.prog X.w) A (compareOp .NotIn u (.ref a)) Q E s := by
  rcases g with ⟨kvs, k, e, ey, l⟩ | ⟨kvs, k, b, e, ey, eb, l⟩
  . subst ey
    obtain ⟨z, hd, vs, rel, dd⟩ := dk_rd I.hok e
    refine wpAny_notIn_of (kV_is ry) hd dd.mapOf ?_
    rw [<- (rel.val k).isSome_eq, <- l]
    exact h _ (I.tok _)
  . subst ey
    cases (show u = Value.ref b from ry)
    obtain ⟨z, hd, xs, rel, dd⟩ := dt_rd I.hok e
    refine wpAny_notIn_heap (tupleKind_room_in1 hu) (key_of I.hok eb) hd dd ?_
    have q := (rel.val k).isSome_eq
    rw [Option.isSome_map] at q
    rw [<- q, <- l]
    exact h _ (I.tok _)
theorem d_write {h' : Heap} {t' : Nat} {ob : HO} (I : Inv X pins σ H s) (mu : Mut (H a)) (hs : Heap.SameBut a s.heap h') (he : ∃ q, h'.get? a = some q) (new : ObjOk X.prog X.w (upd H a ob) h' a ob) :
    Inv X pins σ (upd H a ob) { s with heap := h', toks := t' } :=
  I.write (x := a) (e := a) mu (.inl rfl) (fun b q hb z => (hs.2 b hb).trans z) he new
theorem dk_new {P : Program} {w : World} {H' : Hp} {h' : Heap} {kvs : List (Key × V)} {vs : List (Key × Value)} (z : kvs.length <= sizeLine) (hd : (a == sysModules) = false) (rel : KV kvs vs) (dd : h'.DictOf (mixKind P w) a vs) :
    ObjOk P w H' h' a (.dK kvs) := ⟨z, hd, vs, rel, dd⟩
end

section
variable {X : Cx} {pins : List (Addr × Obj)} {σ : St} {H : Hp} {s : Shared} {a : Addr} {kvs : List (Key × V)} {k : Key} {u : Value} {A : Around} {E : Value -> Shared -> Prop}
end


def NoSl (i : Expr) : Prop := ∀ ov iv, subscripted i false ov iv = operate [ov, iv] (getItem ov iv)
theorem subD_of {prog : Program} {w : World} {A : Around} {E : Value -> Shared -> Prop} {s : Shared} {env : Env} {value slice : Expr} {pos : Pos} {T id : String} {Q : Value -> Shared -> Prop}
    (hl : typeLookup (.type T) "__getitem__" = pure (some (.builtin id))) (hs : NoSl slice)
    (h : wpAny (model prog w) A (eval value env) (fun o s₁ => wpAny (model prog w) A (eval slice env) (fun i s₂ => s₂.TypeIs o T /\ wpAny (model prog w) A (getItem o i) Q E s₂) E s₁) E s) :
    wpAny (model prog w) A (eval (.Subscript value slice pos) env) Q E s := by
  refine Subscript_ (wpAny_mono h (fun o s₁ h₁ => wpAny_mono h₁ (fun i s₂ h₂ => ?_) fun _ _ x => x) fun _ _ x => x)
  obtain ⟨hT, h₂⟩ := h₂
  unfold subscriptTail
  refine wpAny_bind ?_
  rw [getitemInPython_of_ne hT.not_modules]
  refine wpAny_bind (wpAny_specialOf hT hl ?_)
  have fin : wpAny (model prog w) A (subscripted slice false o i) (fun r s₃ => wpAny (model prog w) A (letTemporaryGo value o r >>= fun _ => pure r) Q E s₃) E s₂ := by
    rw [hs o i]
    exact wpAny_operating (wpAny_mono h₂ (fun r s₃ h₃ => wpAny_bind (wpAny_letTemporaryGo (wpAny_pure h₃))) fun _ _ x => x)
  first
    | exact wpAny_pure (wpAny_bind fin)
    | exact wpAny_bind (wpAny_pure (wpAny_bind fin))
    | exact wpAny_bind fin

theorem dict_typeIs {X : Cx} {pins : List (Addr × Obj)} {σ : St} {H : Hp} {s : Shared} {a : Addr} {y : V} {o : Option V} (I : Inv X pins σ H s) (g : DGet H a y o) : s.TypeIs (.ref a) "dict" := by
  rcases g with ⟨kvs, k, e, _, _⟩ | ⟨kvs, k, b, e, _, _, _⟩
  . obtain ⟨_, _, vs, _, dd⟩ := dk_rd I.hok e
    exact dd.typeIs
  . obtain ⟨_, _, xs, _, dd⟩ := dt_rd I.hok e
    exact dd.typeIs
def tDGet (td ty : TE) : TE := fun σ H Q => td σ H fun x H1 => ty σ H1 fun y H2 => ∃ a v, x = .ref a /\ DGet H2 a y (some v) /\ Q v H2
section
variable {X : Cx} {o i e value : Expr} {pos pos' tpos : Pos} {td ty tv : TE}
theorem pe_dget (hu : X.A.units + 1 < cLine) (ho : PE X o td) (hi : PE X i ty) (hs : NoSl i) : PE X (.Subscript o i pos) (tDGet td ty) := by
  intro pins s σ H Q I h
  refine subD_of PySem.F.slot_dict_getitem.lookup hs (thn (ho pins s σ H _ I h) fun u s1 ⟨x, H1, I1, rx, q1⟩ => thn (hi pins s1 σ H1 _ I1 q1) fun iv s2 ⟨y, H2, I2, ry, a, v, ex, g, q2⟩ => ?_)
  subst ex
  obtain rfl : u = Value.ref a := rx
  exact ⟨dict_typeIs I2 g, d_getItem hu I2 g ry fun w' s3 I3 rw' => ⟨v, H2, I3, rw', q2⟩⟩
end


theorem dk_empty {P : Program} {w : World} {H : Hp} (h : Heap) (hb : sysModules < h.objs.size) : ObjOk P w H (h.push { cls := .type "dict", data := .dict #[] }) h.objs.size (.dK []) :=
  ⟨Nat.zero_le _, beq_eq_false_iff_ne.mpr (Ne.symm (Nat.ne_of_lt hb)), [], .nil, Heap.DictOf.new h⟩
theorem dt_empty {P : Program} {w : World} {H : Hp} (h : Heap) (hb : sysModules < h.objs.size) : ObjOk P w H (h.push { cls := .type "dict", data := .dict #[] }) h.objs.size (.dT []) :=
  ⟨Nat.zero_le _, beq_eq_false_iff_ne.mpr (Ne.symm (Nat.ne_of_lt hb)), [], .nil, _, #[], 0, Heap.get?_push_size _ rfl, ⟨rfl, rfl, rfl⟩, rfl, rfl, List.nodup_nil⟩
section
variable {X : Cx} {pos : Pos}
end

structure M1 (X : Cx) (o : Expr) (m : Str) (apos : Pos) (e : Expr) (cpos : Pos) : Prop where
  base : attributeBase o m X.env (eval o X.env) = eval o X.env
  few : ((backTo cpos (starEach [e] X.env)).all (fun x => !x.1) && (backToKw cpos (keywordEach [] X.env)).all (fun x => x.1.isSome)
    && decide (([e] : List Expr).length + ([] : List Keyword).length + (if ([] : List Keyword).isEmpty then 0 else 1) < 30)) = true
  line : (apos.endLine == cpos.line) = true
  trees : backTo cpos (starEach [e] X.env) = [(false, eval e X.env)]
structure M2 (X : Cx) (o : Expr) (m : Str) (apos : Pos) (e f : Expr) (cpos : Pos) : Prop where
  base : attributeBase o m X.env (eval o X.env) = eval o X.env
  few : ((backTo cpos (starEach [e, f] X.env)).all (fun x => !x.1) && (backToKw cpos (keywordEach [] X.env)).all (fun x => x.1.isSome)
    && decide (([e, f] : List Expr).length + ([] : List Keyword).length + (if ([] : List Keyword).isEmpty then 0 else 1) < 30)) = true
  line : (apos.endLine == cpos.line) = true
  trees : backTo cpos (starEach [e, f] X.env) = [(false, eval e X.env), (false, eval f X.env)]

section
variable {X : Cx} {pins : List (Addr × Obj)} {σ : St} {H : Hp} {s : Shared} {a : Addr} {y d : V} {u r : Value} {o : Option V} {A : Around} {E : Value -> Shared -> Prop}
end

section
variable {X : Cx} {o e f : Expr} {apos cpos : Pos} {td ty tx : TE}
end

section
variable {X : Cx} {pins : List (Addr × Obj)} {σ : St} {H : Hp} {s : Shared} {a : Addr} {kvs : List (Key × V)} {A : Around} {E : Value -> Shared -> Prop}
end


section
variable {X : Cx} {pins : List (Addr × Obj)} {σ : St} {H : Hp} {s : Shared} {a : Addr} {y : V} {u : Value} {A : Around} {E : Value -> Shared -> Prop}
end
end L2


namespace Att
open PySem PySem.W PySem.Calls PyProof.Rows

theorem ints_of_wellAll {P : Params} {h : Heap} : ∀ (ns : List Int) (vs : List Value), WellAll P h vs (ns.map WData.int) -> IntsAre vs ns := by
  intro ns
  induction ns with
  | nil =>
    intro vs w
    rw [List.map_nil] at w
    cases w
    exact .nil
  | cons n ns ih =>
    intro vs w
    rw [List.map_cons] at w
    cases w with
    | cons a b =>
      cases a
      exact .cons _ _ (ih _ b)

theorem script_of {l : OpenLaw} {n : Nat} (hn : l.most = some n) {P : Params} {h : Heap} {args : List WData} {vals : List Value}
    (hpre : l.row.toRowW.claim.pre args = true) (hwl : WellAll P h vals args) :
    ∃ a vs ns, vals = [Value.ref a] /\ args = [WData.list (ns.map WData.int)] /\ h.get? a = some { cls := .type "list", data := .seq vs.toArray } /\ IntsAre vs ns /\ ns.length <= n := by
  have hsh : WShape.hasAll [] args [.list .int] = true := (pre_splitW hpre).1
  have hc : l.pre.holds [] { args := args } = true := (pre_splitW hpre).2
  obtain ⟨d, r, rfl, h1, h2⟩ := hasAllW_cons hsh
  obtain rfl := hasAllW_nil h2
  obtain ⟨xs, rfl, h3⟩ := hasW_list h1
  obtain ⟨ns, rfl⟩ := items_int h3
  have hlen : ns.length <= n := by
    unfold OpenLaw.pre at hc
    have h4 : (WTm.not (.lt (.lit (.int (n : Int))) (.len (.arg 0)))).holds [] { args := [.list (ns.map .int)] } = true := by
      have h4 := (holds_andW hc).1
      rw [hn] at h4
      exact h4
    have h5 := condW_of h4 (w_not (w_lt w_lit (w_len_list (w_arg rfl))))
    rw [List.length_map] at h5
    refine Nat.le_of_not_lt fun q => ?_
    have q' : (n : Int) < ((ns.length : Nat) : Int) := by omega
    first
      | (rw [decide_eq_true q'] at h5; exact absurd h5 (by decide))
      | (simp at h5; omega)
  cases hwl with
  | cons w1 w2 =>
    cases w2
    cases w1 with
    | list ho hall => exact ⟨_, _, ns, rfl, rfl, ho, ints_of_wellAll ns _ hall, hlen⟩

theorem post_true (l : OpenLaw) (args : List WData) : l.row.toRowW.claim.post args (.bool true) args = true :=
  postW_of (r := l.row.toRowW) (X := (true == true))
    (show WShape.has [] (.bool true) .bool = true by first | rfl | decide | simp [WShape.has, WShape.arms, WShape.armsAll])
    (show (WTm.eq .res (.lit (.bool true))).value [] { args := args, res := some (.bool true), after := args } = some (.bool (true == true)) from w_eq_bool (w_res rfl) w_lit) rfl

theorem attach_call {l : OpenLaw} {n : Nat} {q : Program} {loose : List Str} {XP : (Str -> Option Value) -> Heap -> Prop} {YP : World -> Heap -> Prop} {d : DefRec}
    (hn : l.most = some n) (hdf : d.params.defaults = [])
    (call : ∀ (w : World) (s₀ s₁ : Shared) (mg mb : Str -> Option Value) (fa : Addr) (o : Obj) (pm cd doc : Value) (a : Addr) (vs : List Value) (ns : List Int),
      Ground q loose [] XP w s₀ mg mb s₁.heap -> YP w s₁.heap ->
      s₁.heap.get? fa = some o -> o.data = .func (docDef d.name d.params d.body d.scope pm cd doc) -> s₁.heap.CodeRec cd d.name -> mg d.name = some (.ref fa) ->
      s₁.heap.get? a = some { cls := .type "list", data := .seq vs.toArray } -> IntsAre vs ns -> ns.length <= n -> s₁.gens = #[] ->
      codeAny (model l.prog w) callerA (.call (.ref fa) ⟨[.ref a], []⟩) (fun r s' => r = .ok (.ret (.bool true)) /\ OldK s₁.heap s'.heap /\ s'.os = s₁.os /\ AllBare s'.gens) s₁) :
    WalkO q loose XP YP l.row.toRowW d [] (fun f vs => PySem.call f vs) := by
  intro w s₀ s₁ mg mb G Y fa o pm cd doc dV kV ho hd hcd hD hmg hg args vals as hpre hlay hrd hwl hlo
  obtain rfl : dV = .none := Dflts.none hD hdf
  obtain rfl : kV = .none := Dflts.noKw hD
  obtain ⟨a, vs, ns, rfl, rfl, hobj, hints, hlen⟩ := script_of hn hpre hwl
  refine enter_call (codeAny_mono (call w s₀ s₁ mg mb fa o pm cd doc a vs ns G Y ho (fd_plain hd) hcd hmg hobj hints hlen hg) fun r s' hq => ?_)
  obtain ⟨rfl, h2, h3, h4⟩ := hq
  exact ⟨.inl ⟨.bool true, .bool true, [], rfl, fun _ => rfl, .bool true, post_true l _, fun _ => ⟨List.Pairwise.nil, fun _ hm => (nomatch hm)⟩⟩, h2, h3, h4⟩

section
variable {prog : Program} {w : World} {A : Around} {E : Value -> Shared -> Prop} {s : Shared} {K : Frag}

end
end Att

namespace L2
open PySem PySem.Spec PyProof.Rows

theorem vals_ints : ∀ {vs : List Value} {ns : List Int}, IntsAre vs ns -> Vals (ns.map V.int) vs
  | _, _, .nil => .nil
  | _, _, .cons n t h => .cons ⟨t, rfl⟩ (vals_ints h)

def Only (H : Hp) : Prop := ∀ b, H b = none \/ ∃ o xs, H b = some (.frz o (.lst xs))

theorem law_call {P : Program} {w : World} {K : PySem.W.Frag} {mg mb : Str -> Option Value} {CX : CXT} {k : Nat} {fa a : Addr} {fd : FuncData} {x : Str} {sp : Sp} {s₁ : Shared} {vs : List Value} {ns : List Int}
    (KX : K.In s₁.heap) (hns : s₁.heap.Ns mainGlobals mg) (hb : s₁.heap.Ns builtinsNs mb) (hbb : ∀ x : Str, x ≠ "__name__" -> mb x = bootBuiltins x) (hlim : s₁.heap.NoLimit) (hg : s₁.gens = #[])
    (ha : s₁.heap.get? a = some { cls := .type "list", data := .seq vs.toArray }) (hi : IntsAre vs ns) (hl : ns.length <= sizeLine) (hr : Room k callerA)
    (F : ∀ base : Heap, K.In base -> base.Ns mainGlobals mg -> FnOk P w K mg base CX k fa fd [x] sp) (hbind : ∀ (s : Shared) (u : Value), BindsTo s fd ⟨[u], []⟩ [(x, u)])
    (hsp : ∀ H : Hp, Only H -> SqL K H a (ns.map V.int) -> sp [.ref a] H (fun v _ => v = .bl true) fun _ _ _ => False)
    (hCX : ∀ H e s', CX [] H s₁ (fun _ _ _ => False) e s' -> False) :
    codeAny (model P w) callerA (.call (.ref fa) ⟨[.ref a], []⟩) (fun r s' => r = .ok (.ret (.bool true)) /\ OldK s₁.heap s'.heap /\ s'.os = s₁.os /\ AllBare s'.gens) s₁ := by
  have rv := vals_ints hi
  have lenV := hi.length
  -- from an abstract heap in which nothing but the script may be tracked
  have core : ∀ H : Hp, Only H -> SqL K H a (ns.map V.int) -> HOk P w H s₁.heap -> (∀ b, H b ≠ none -> b = a) -> (H a ≠ none -> K.lookup a = none) ->
      codeAny (model P w) callerA (.call (.ref fa) ⟨[.ref a], []⟩) (fun r s' => r = .ok (.ret (.bool true)) /\ OldK s₁.heap s'.heap /\ s'.os = s₁.os /\ AllBare s'.gens) s₁ := by
    intro H hO hS hok hA hK
    have base_of : ∀ {b : Addr} {o : Obj}, s₁.heap.get? b = some o -> H b = none -> (hidT s₁.heap H).get? b = some o := fun e n => hidT_get e n
    have noA : ∀ {b : Addr} {o : Obj} {es : Array DictEntry} {ep : Nat}, s₁.heap.get? b = some o -> o.data = .dict es ep -> H b = none := fun {b o es ep} e d => by
      cases q : H b with
      | none => rfl
      | some u =>
        have e' : b = a := hA b (by rw [q]; simp)
        subst e'
        rw [ha] at e; cases e
        have d' : Data.seq vs.toArray _ = Data.dict es ep := d
        cases d'
    have nsK : ∀ {b : Addr} {m : Str -> Option Value}, s₁.heap.Ns b m -> (hidT s₁.heap H).Ns b m := fun {b m} ⟨o, es, ep, e, d, r⟩ => ⟨o, es, ep, base_of e (noA e d), d, r⟩
    have hKb : K.In (hidT s₁.heap H) := fun b o e => base_of (KX b o e) (by
      cases q : H b with
      | none => rfl
      | some u =>
        have e' : b = a := hA b (by rw [q]; simp)
        subst e'
        rw [hK (by rw [q]; simp)] at e; cases e)
    have hM : Mod K mg (hidT s₁.heap H) := ⟨hKb, nsK hns, ⟨mb, nsK hb, hbb⟩, let ⟨mc, h1, h2⟩ := hlim; ⟨mc, nsK h1, h2⟩⟩
    have e0 : Env0 P w K mg (hidT s₁.heap H) callerA [] s₁ H := ⟨rfl, hM, fun b o e => of_hidT e, Nat.le_of_eq (hidT_size _ _), trivial, fun b hb => absurd (show b ∈ ([] : List Addr) from hb) (by simp), hok, .of_eq hg⟩
    refine codeAny_mono ((F _ hKb (nsK hns)).run callerA [] s₁ H ⟨[.ref a], []⟩ [.ref a] [.ref a] _ _ hr e0 (hbind s₁ (.ref a)) (.cons rfl .nil) (hsp H hO hS)) fun r s' h => ?_
    cases r with
    | error e => exact (hCX H e s' h).elim
    | ok fl =>
      cases fl with
      | next => exact False.elim h
      | brk => exact False.elim h
      | cont => exact False.elim h
      | ret u =>
        obtain ⟨v, H', os, bare, un, hok', r', q⟩ := h
        have q' : v = .bl true := q
        subst q'
        obtain rfl : u = Value.bool true := r'
        refine ⟨rfl, OldK.of_keep fun b o e => ?_, os, bare⟩
        cases q : H b with
        | none => exact un.keep b o e q (by intro z; exact absurd (show b ∈ ([] : List Addr) from z) (by simp)) (by simp)
        | some u =>
          rcases hO b with z | ⟨ob, xs, z⟩
          . rw [q] at z; cases z
          . have z2 := un.frzs b ob _ z
            obtain ⟨e1, _⟩ := hok b _ z
            obtain ⟨e2, _⟩ := hok' b _ z2
            rw [e] at e1; cases e1
            exact e2
  cases hk : K.lookup a with
  | some o =>
    -- the script is one of the module's own objects
    have e := KX a o hk
    rw [ha] at e
    cases e
    refine core (fun _ => none) (fun _ => .inl rfl) (.inr ⟨_, vs.toArray, _, hk, rfl, rfl, rfl, by rw [List.size_toArray, lenV]; exact hl, by simpa using rv⟩) (fun b u z => by have z' : (none : Option HO) = some u := z; cases z') (fun b z => absurd rfl z) fun z => absurd rfl z
  | none =>
    refine core (fun b => if b = a then some (.frz { cls := .type "list", data := .seq vs.toArray } (.lst (ns.map V.int))) else none) (fun b => ?_) (.inl (.inr ⟨{ cls := .type "list", data := .seq vs.toArray }, if_pos rfl⟩)) (fun b u z => ?_) (fun b z => ?_) fun _ => hk
    . by_cases hb : b = a
      . exact .inr ⟨_, _, if_pos hb⟩
      . exact .inl (if_neg hb)
    . by_cases hb : b = a
      . have z' := (if_pos hb).symm.trans z
        cases z'
        subst hb
        exact ⟨ha, by rw [List.length_map]; exact hl, vs, _, rv, ha⟩
      . have z' := (if_neg hb).symm.trans z
        cases z'
    . by_cases hb : b = a
      . exact hb
      . exact absurd (if_neg hb) z
end L2

namespace L2
open PySem PySem.Spec PyProof.Rows

theorem walk_of {l : PySem.W.OpenLaw} {n k : Nat} {q : Program} {loose : List Str} {XP : (Str -> Option Value) -> Heap -> Prop} {YP : World -> Heap -> Prop} {d : DefRec} {K : Params -> PySem.W.Frag} {CX : World -> CXT} {sp : World -> Sp} {x : Str}
    (hn : l.most = some n) (hn2 : n <= sizeLine) (hdf : d.params.defaults = []) (hr : Room k callerA)
    (hY : ∀ (w : World) (h : Heap), YP w h -> (K w.params).In h)
    (F : ∀ (w : World) (mg : Str -> Option Value) (fa : Addr) (h : Heap), (K w.params).In h -> h.Ns mainGlobals mg -> mg d.name = some (.ref fa) ->
      ∃ fd : FuncData, (∀ (s : Shared) (u : Value), BindsTo s fd ⟨[u], []⟩ [(x, u)]) /\
        ∀ base : Heap, (K w.params).In base -> base.Ns mainGlobals mg -> FnOk l.prog w (K w.params) mg base (CX w) k fa fd [x] (sp w))
    (hsp : ∀ (w : World) (H : Hp) (a : Addr) (ns : List Int), ns.length <= n -> Only H -> SqL (K w.params) H a (ns.map V.int) -> sp w [.ref a] H (fun v _ => v = .bl true) fun _ _ _ => False)
    (hCX : ∀ (w : World) (H : Hp) (s : Shared) (e : Value) (s' : Shared), CX w [] H s (fun _ _ _ => False) e s' -> False) :
    PySem.W.WalkO q loose XP YP l.row.toRowW d [] (fun f vs => PySem.call f vs) := by
  refine Att.attach_call hn hdf fun w s₀ s₁ mg mb fa o pm cd doc a vs ns G Y ho hd hcd hmg hobj hints hlen hg => ?_
  have KX := hY w _ Y
  obtain ⟨fd, hb, hF⟩ := F w mg fa _ KX G.T.g hmg
  exact law_call KX G.T.g G.T.b G.T.builtins G.T.nolimit hg hobj hints (Nat.le_trans hlen hn2) hr hF hb (fun H hO hS => hsp w H a ns hlen hO hS) fun H e s' => hCX w H s₁ e s'
end L2

namespace L2
open PySem PySem.Spec PyProof.Rows

def inClass (s : Stmt) (j : Nat) : Stmt := match s with
  | .ClassDef _ _ _ body _ _ _ _ _ _ _ => body.getD j (.Pass ⟨0, 0, 0, 0⟩)
  | _ => .Pass ⟨0, 0, 0, 0⟩
def defArgs (s : Stmt) : Arguments := match s with
  | .FunctionDef _ a _ _ _ _ _ _ _ _ => a
  | _ => { posonlyargs := [], args := [], vararg := none, kwonlyargs := [], kw_defaults := [], kwarg := none, defaults := [] }
def defBody (s : Stmt) : List Stmt := match s with
  | .FunctionDef _ _ b _ _ _ _ _ _ _ => b
  | _ => []
def defScope (s : Stmt) : Scope := match s with
  | .FunctionDef _ _ _ _ _ _ sc _ _ _ => sc
  | _ => { kind := .function, names := [], isGenerator := false, isCoroutine := false }

abbrev CX0 : CXT := fun _ _ _ _ _ _ => False
abbrev E0 : XK := fun _ _ _ => False
theorem pass0 {X : Cx} : Passes CX0 X E0 := fun _ _ _ _ _ _ _ h => h.elim

structure Fun (K : PySem.W.Frag) (x qual : Str) (st : Stmt) (f : Addr) (fd : FuncData) : Prop where
  ex : ∃ (oc : Value) (od : Option Addr) (kV : Value × Value) (doc pm : Value) (an : Option Addr) (cdv ct : Value) (osl : Array (Option Value)),
    fd = PySem.W.fnOf x qual (defArgs st) (defBody st) (defScope st) kV.1 kV.2 doc pm an cdv ct /\ K.lookup f = some ⟨oc, od, .func fd, osl⟩ /\ PySem.W.codeIn K cdv qual = true
  kp : PySem.W.keepIn K (.ref f) = true
section
variable {P : Program} {w : World} {K : PySem.W.Frag} {mg : Str -> Option Value} {base : Heap}
theorem Fun.ok {x qual : Str} {st : Stmt} {f : Addr} {fd : FuncData} {N ps : List Str} {k : Nat} {sp : Sp} (F : Fun K x qual st f fd) (S : FnScope N ps (defScope st)) (len : ∀ vs H Q E, sp vs H Q E -> vs.length = ps.length)
    (hbody : ∀ (cdv : Value) (A : Around) (outer : List Env) (s : Shared) (H : Hp) (vs : List V) (Q : VK) (E : XK), Room k (A.deeper (envOfC qual (defScope st) s.heap.objs.size f cdv)) -> sp vs H Q E ->
      ∃ t, PSs (cxOf CX0 P w K mg base N qual (defScope st) f cdv A outer s H E).nox (defBody st) t /\ t { nx := fun _ H' => Q .non H', rt := Q } (start N vs) H) : FnOk P w K mg base CX0 (k + 1) f fd ps sp := by
  obtain ⟨oc, od, kV, doc, pm, an, cdv, ct, osl, rfl, lk, hcd⟩ := F.ex
  refine fn_of lk hcd S len fun A outer s H vs Q E hr hsp => ?_
  obtain ⟨t, h, q⟩ := hbody cdv A outer s H vs Q E hr hsp
  exact ⟨t, h.nox, q⟩
theorem Fun.binds {x qual : Str} {st : Stmt} {f : Addr} {fd : FuncData} {ps : List Str} (F : Fun K x qual st f fd)
    (h : ∀ (kV doc pm : Value) (an : Option Addr) (cdv ct : Value) (us : List Value), us.length = ps.length -> bindArgs (PySem.W.fnOf x qual (defArgs st) (defBody st) (defScope st) .none kV doc pm an cdv ct) ⟨us, []⟩ = pure (ps.zip us)) (hd : fd.defaults = .none := by rfl) : Binds K fd ps [] := by
  obtain ⟨oc, od, kV, doc, pm, an, cdv, ct, osl, rfl, lk, hcd⟩ := F.ex
  have e : kV.1 = .none := hd
  rw [e]
  exact .all (h kV.2 doc pm an cdv ct)
theorem fun_mk {x qual : Str} {st : Stmt} {f : Addr} {oc : Value} {od an : Option Addr} {osl : Array (Option Value)} {dV kV doc pm cdv ct : Value} (l : K.lookup f = some ⟨oc, od, .func (PySem.W.fnOf x qual (defArgs st) (defBody st) (defScope st) dV kV doc pm an cdv ct), osl⟩)
    (c : PySem.W.codeIn K cdv qual = true) (k : PySem.W.keepIn K (.ref f) = true) : Fun K x qual st f (PySem.W.fnOf x qual (defArgs st) (defBody st) (defScope st) dV kV doc pm an cdv ct) := ⟨⟨oc, od, (dV, kV), doc, pm, an, cdv, ct, osl, rfl, l, c⟩, k⟩
end
theorem hu_of {cm : Bool} {A : Around} {k : Nat} (hr : RoomC cm k A) : A.units + 1 < cLine := Nat.lt_of_le_of_lt (Nat.add_le_add_left (by decide : 1 <= 64) _) hr.units
section
variable {X : Cx}
end

theorem iteT {A B : Prop} (h : A) : if true = true then A else B := by
  rw [if_pos rfl]
  exact h
theorem ite2 {c A B : Prop} [Decidable c] (h1 : c -> A) (h2 : ¬ c -> B) : if c then A else B := by
  by_cases h : c
  . rw [if_pos h]
    exact h1 h
  . rw [if_neg h]
    exact h2 h
def Same (H H' : Hp) : Prop := ∀ b o, H b = some o -> H' b = some o
end L2

namespace L2
open PySem PySem.Spec PyProof.Rows
section
variable {X : Cx}
end
end L2
namespace L2
open PySem PySem.Spec PyProof.Rows
section
variable {κ : Type} [DecidableEq κ]
end
end L2


namespace L2
open PySem PySem.Spec PyProof.Rows

def closOf (env : Env) : List (Str × NameKind) -> List (Str × Addr) -> List (Str × Addr)
  | [], acc => acc
  | (n, k) :: r, acc => if k == .free then closOf env r ((n, (env.cells.lookup n).getD 0) :: acc) else closOf env r acc

theorem closFold {env : Env} (f : Str × NameKind -> List (Str × Addr) -> Sem (ForInStep (List (Str × Addr))))
    (hf : ∀ n k cs, f (n, k) cs = if k == .free then (do let a <- cellOf env n; pure (.yield ((n, a) :: cs))) else pure (.yield cs)) :
    ∀ (names : List (Str × NameKind)) (acc : List (Str × Addr)), (∀ x ∈ names, x.2 = .free -> (env.cells.lookup x.1).isSome = true) -> forIn names acc f = (pure (closOf env names acc) : Sem _)
  | [], acc, _ => rfl
  | (n, k) :: r, acc, h => by
    have hr : ∀ x ∈ r, x.2 = .free -> (env.cells.lookup x.1).isSome = true := fun x hx => h x (List.mem_cons_of_mem _ hx)
    rw [List.forIn_cons, hf]
    unfold closOf
    cases hk : k == NameKind.free with
    | true =>
      obtain ⟨c, hc⟩ := Option.isSome_iff_exists.mp (h (n, k) List.mem_cons_self (by simpa using hk))
      have e : cellOf env n = pure c := by unfold cellOf; rw [hc]
      simp only [if_true]
      rw [e, pure_bind, pure_bind, hc]
      exact closFold f hf r _ hr
    | false =>
      simp only [Bool.false_eq_true, if_false]
      rw [pure_bind]
      exact closFold f hf r _ hr

theorem closureFor_of {scope : Scope} {env : Env} (h : ∀ x ∈ scope.names, x.2 = .free -> (env.cells.lookup x.1).isSome = true) : closureFor scope env = pure (closOf env scope.names []) := by
  simp only [closureFor]
  rw [closFold (env := env) _ (fun n k cs => by
    cases hk : k == NameKind.free <;> simp [hk]) _ _ h]
  rfl

theorem mem_closOf {env : Env} : ∀ {names : List (Str × NameKind)} {acc : List (Str × Addr)} {n : Str} {c : Addr}, (n, c) ∈ closOf env names acc -> (n, c) ∈ acc \/ ((n, .free) ∈ names /\ c = (env.cells.lookup n).getD 0)
  | [], _, _, _, h => .inl h
  | (x, k) :: r, acc, n, c, h => by
    unfold closOf at h
    cases hk : k == NameKind.free with
    | true =>
      rw [hk] at h
      simp only [if_true] at h
      have ek : k = .free := by simpa using hk
      subst ek
      rcases mem_closOf h with h | h
      . rcases List.mem_cons.mp h with e | h
        . cases e; exact .inr ⟨List.mem_cons_self, rfl⟩
        . exact .inl h
      . exact .inr ⟨List.mem_cons_of_mem _ h.1, h.2⟩
    | false =>
      rw [hk] at h
      simp only [Bool.false_eq_true, if_false] at h
      rcases mem_closOf h with h | h
      . exact .inl h
      . exact .inr ⟨List.mem_cons_of_mem _ h.1, h.2⟩
theorem closOf_acc {env : Env} : ∀ {names : List (Str × NameKind)} {acc : List (Str × Addr)} {p : Str × Addr}, p ∈ acc -> p ∈ closOf env names acc
  | [], _, _, h => h
  | (x, k) :: r, acc, p, h => by
    unfold closOf
    split
    . exact closOf_acc (List.mem_cons_of_mem _ h)
    . exact closOf_acc h
theorem closOf_mem {env : Env} : ∀ {names : List (Str × NameKind)} {acc : List (Str × Addr)} {n : Str}, (n, .free) ∈ names -> (n, (env.cells.lookup n).getD 0) ∈ closOf env names acc
  | (x, k) :: r, acc, n, h => by
    unfold closOf
    rcases List.mem_cons.mp h with e | h
    . cases e
      exact closOf_acc List.mem_cons_self
    . split <;> exact closOf_mem h
theorem mem_cellsFrom : ∀ {names : List (Str × NameKind)} {m : Nat} {acc : List (Str × Addr)} {n : Str} {c : Addr}, (n, c) ∈ cellsFrom m names acc -> (n, c) ∈ acc \/ ((n, .cell) ∈ names /\ m <= c)
  | [], _, _, _, _, h => .inl h
  | (x, k) :: r, m, acc, n, c, h => by
    unfold cellsFrom at h
    cases hk : k == NameKind.cell with
    | true =>
      rw [hk] at h
      simp only [if_true] at h
      have ek : k = .cell := by simpa using hk
      subst ek
      rcases mem_cellsFrom h with h | h
      . rcases List.mem_cons.mp h with e | h
        . cases e; exact .inr ⟨List.mem_cons_self, Nat.le_refl _⟩
        . exact .inl h
      . exact .inr ⟨List.mem_cons_of_mem _ h.1, Nat.le_of_succ_le h.2⟩
    | false =>
      rw [hk] at h
      simp only [Bool.false_eq_true, if_false] at h
      rcases mem_cellsFrom h with h | h
      . exact .inl h
      . exact .inr ⟨List.mem_cons_of_mem _ h.1, h.2⟩
theorem cellsFrom_acc : ∀ {names : List (Str × NameKind)} {m : Nat} {acc : List (Str × Addr)} {p : Str × Addr}, p ∈ acc -> p ∈ cellsFrom m names acc
  | [], _, _, _, h => h
  | (x, k) :: r, m, acc, p, h => by
    unfold cellsFrom
    split
    . exact cellsFrom_acc (List.mem_cons_of_mem _ h)
    . exact cellsFrom_acc h
theorem cellsFrom_mem : ∀ {names : List (Str × NameKind)} {m : Nat} {acc : List (Str × Addr)} {n : Str}, (n, .cell) ∈ names -> ∃ c, (n, c) ∈ cellsFrom m names acc
  | (x, k) :: r, m, acc, n, h => by
    unfold cellsFrom
    rcases List.mem_cons.mp h with e | h
    . cases e
      exact ⟨m, cellsFrom_acc List.mem_cons_self⟩
    . split <;> exact cellsFrom_mem h
theorem lookup_some_of_mem {α : Type} : ∀ {l : List (Str × α)} {n : Str} {c : α}, (n, c) ∈ l -> ∃ c', l.lookup n = some c' /\ (n, c') ∈ l
  | (k, v) :: r, n, c, h => by
    rw [List.lookup_cons]
    cases hb : n == k with
    | true => exact ⟨v, rfl, by rw [beq_iff_eq.mp hb]; exact List.mem_cons_self⟩
    | false =>
      rcases List.mem_cons.mp h with e | h
      . cases e; simp at hb
      . obtain ⟨c', e, m⟩ := lookup_some_of_mem h
        exact ⟨c', e, List.mem_cons_of_mem _ m⟩
theorem key_uniq {α : Type} : ∀ {l : List (Str × α)} {n : Str} {a b : α}, (l.map (·.1)).Nodup -> (n, a) ∈ l -> (n, b) ∈ l -> a = b
  | x :: r, n, a, b, nd, h, h' => by
    rw [List.map_cons, List.nodup_cons] at nd
    have no : ∀ c, (n, c) ∈ r -> n ≠ x.1 := fun c hc e => nd.1 (by rw [<- e]; exact List.mem_map_of_mem (f := (·.1)) hc)
    rcases List.mem_cons.mp h with e | h <;> rcases List.mem_cons.mp h' with e' | h'
    . rw [<- e] at e'; cases e'; rfl
    . exact absurd (by rw [<- e]) (no b h')
    . exact absurd (by rw [<- e']) (no a h)
    . exact key_uniq nd.2 h h'
theorem lookup_uniq {α : Type} {l : List (Str × α)} {n : Str} {a : α} (nd : (l.map (·.1)).Nodup) (h : (n, a) ∈ l) : l.lookup n = some a := by
  obtain ⟨c, e, m⟩ := lookup_some_of_mem h
  rw [e, key_uniq nd h m]
theorem apart_cellsFrom : ∀ {names : List (Str × NameKind)} {m : Nat} {acc : List (Str × Addr)}, (∀ p ∈ acc, p.2 < m) -> (∀ n n' c, (n, c) ∈ acc -> (n', c) ∈ acc -> n = n') ->
    ∀ n n' c, (n, c) ∈ cellsFrom m names acc -> (n', c) ∈ cellsFrom m names acc -> n = n'
  | [], _, _, _, h, n, n', c, a, b => h n n' c a b
  | (x, k) :: r, m, acc, lt, h, n, n', c, a, b => by
    unfold cellsFrom at a b
    cases hk : k == NameKind.cell with
    | true =>
      rw [hk] at a b
      simp only [if_true] at a b
      refine apart_cellsFrom (m := m + 1) (acc := (x, m) :: acc) (fun p hp => ?_) (fun n n' c a b => ?_) n n' c a b
      . rcases List.mem_cons.mp hp with rfl | hp
        . exact Nat.lt_succ_self _
        . exact Nat.lt_succ_of_lt (lt p hp)
      . rcases List.mem_cons.mp a with e | a <;> rcases List.mem_cons.mp b with e' | b
        . cases e; cases e'; rfl
        . cases e; exact absurd (lt _ b) (Nat.lt_irrefl _)
        . cases e'; exact absurd (lt _ a) (Nat.lt_irrefl _)
        . exact h n n' c a b
    | false =>
      rw [hk] at a b
      simp only [Bool.false_eq_true, if_false] at a b
      exact apart_cellsFrom lt h n n' c a b

theorem isCell_pushCells : ∀ (names : List (Str × NameKind)) (h : Heap) (acc : List (Str × Addr)) (n : Str) (c : Addr), (n, c) ∈ cellsFrom h.objs.size names acc -> (n, c) ∈ acc \/ (pushCells h names).IsCell c none
  | [], _, _, _, _, h => .inl h
  | (x, k) :: r, h, acc, n, c, hm => by
    unfold cellsFrom at hm
    unfold pushCells
    cases hk : k == NameKind.cell with
    | true =>
      rw [hk] at hm
      simp only [if_true] at hm ⊢
      rw [show h.objs.size + 1 = (h.push { cls := .type "cell", data := .cell none }).objs.size from (Heap.size_push ..).symm] at hm
      rcases isCell_pushCells r _ _ n c hm with h1 | h1
      . rcases List.mem_cons.mp h1 with e | h1
        . cases e
          exact .inr (Heap.IsCell.keeps ⟨_, Heap.get?_push_size _ rfl, rfl⟩ (pushCells_keeps r _))
        . exact .inl h1
      . exact .inr h1
    | false =>
      rw [hk] at hm
      simp only [Bool.false_eq_true, if_false] at hm ⊢
      exact isCell_pushCells r h acc n c hm

def compEnv2 (scope : Scope) (C : Addr) (env : Env) : Env := compEnvC scope (cellsFrom (C + 1) scope.names (closOf env scope.names [])) C env

theorem newCompEnv {M : Model} {A : Around} {E : Value -> Shared -> Prop} {s : Shared} {scope : Scope} {globals : Addr} {cl : List (Str × Addr)} {qual : Str} {env : Env} {Q : Env -> Shared -> Prop}
    (h : Q (newEnv scope s.heap.objs.size globals (cellsFrom (s.heap.objs.size + 1) scope.names cl) qual none .none (some env) builtinsNs) { s with heap := pushCells (s.heap.push { cls := .type "dict", data := .dict #[] }) scope.names }) :
    wpAny M A (newFunctionEnv scope globals cl [] qual none .none (some env)) Q E s := by
  simp only [newFunctionEnv, Option.isSome_some, if_true]
  refine wpAny_bind (wpAny_alloc ?_)
  refine wpAny_bind (wpAny_layCells _ (fun name kind cells => by cases hkc : kind == NameKind.cell <;> simp [hkc]) _ _ _ _ ?_)
  rw [show ({ s with heap := s.heap.push { cls := .type "dict", data := .dict #[] } } : Shared).heap.objs.size = s.heap.objs.size + 1 from Heap.size_push ..]
  rw [List.forIn_nil]
  exact wpAny_bind (wpAny_pure (wpAny_pure h))

def compCx (X : Cx) (N : List Str) (scope : Scope) (C : Addr) (s : Shared) (H : Hp) (ex : List Addr) : Cx where
  prog := X.prog
  w := X.w
  K := X.K
  mg := X.mg
  base := X.base
  A := X.A
  N := N
  s₀ := s
  H₀ := H
  env := compEnv2 scope C X.env
  outer := X.stack
  stack := X.stack
  ex := ex
  fn := fun x => scope.names.lookup x == some .cell
  calm := X.calm
  pn := []
  xe := fun _ _ => False

structure CompSc (X : Cx) (scope : Scope) : Prop where
  kind : scope.kind = .function
  nd : (scope.names.map (·.1)).Nodup
  free : ∀ x ∈ scope.names, x.2 = .free -> (X.env.kindOf x.1 = some .cell \/ X.env.kindOf x.1 = some .free)
def freeOk (sc : Scope) (scope : Scope) : Bool := scope.names.all fun x => x.2 != .free || (sc.names.lookup x.1 == some .cell || sc.names.lookup x.1 == some .free)
theorem CompSc.of {X : Cx} {scope : Scope} (k : scope.kind = .function) (nd : (scope.names.map (·.1)).Nodup) (f : freeOk X.env.scope scope = true) : CompSc X scope := ⟨k, nd, fun x hx e => by
  have q := List.all_eq_true.mp f x hx
  rw [e] at q
  show X.env.scope.names.lookup x.1 = _ \/ X.env.scope.names.lookup x.1 = _
  simpa using q⟩

theorem relabel_lookup {env : Env} : ∀ {names : List (Str × NameKind)} {x : Str} {k : NameKind},
    (names.map fun (n, k) => if (k == NameKind.free && env.scope.kind == .function && env.kindOf n == some .cell) then (n, NameKind.cell) else (n, k)).lookup x = some k ->
    (∃ k', names.lookup x = some k' /\ (k' = k \/ (k' = .free /\ k = .cell /\ env.kindOf x = some .cell)))
  | [], _, _, h => by simp at h
  | (n, k0) :: r, x, k, h => by
    rw [List.map_cons, List.lookup_cons] at h
    rw [List.lookup_cons]
    have hn : (if (k0 == NameKind.free && env.scope.kind == .function && env.kindOf n == some .cell) = true then (n, NameKind.cell) else (n, k0)).1 = n := by split <;> rfl
    dsimp only at h
    rw [hn] at h
    cases hx : x == n with
    | false =>
      rw [hx] at h
      exact relabel_lookup h
    | true =>
      rw [hx] at h
      simp only [Option.some.injEq] at h
      refine ⟨k0, rfl, ?_⟩
      have ex : x = n := beq_iff_eq.mp hx
      subst ex
      by_cases hc : (k0 == NameKind.free && env.scope.kind == .function && env.kindOf x == some .cell) = true
      . rw [if_pos hc] at h
        simp only [Bool.and_eq_true, beq_iff_eq] at hc
        exact .inr ⟨hc.1.1, h.symm, hc.2⟩
      . rw [if_neg hc] at h
        exact .inl h

def takeFrom (σ : St) (fr : List Nat) : St := fr.map fun j => (σ[j]?).join

theorem comp_inv {X : Cx} {pins : List (Addr × Obj)} {σ : St} {H : Hp} {s s3 : Shared} {scope : Scope} {own free : List Str} {fr : List Nat} {ex : List Addr} (S : CompSc X scope)
    (I : Inv X pins σ H s) (hex : ∀ b ∈ ex, FpOk X pins H b) (hob : ∀ b ∈ ex, ∃ o, s.heap.get? b = some o) (hfr : fr.map (fun j => X.N[j]?) = free.map some) (hff : ∀ x ∈ free, scope.names.lookup x = some .free)
    (hs3 : ∀ b o, s.heap.get? b = some o -> s3.heap.get? b = some o) (hsz : s.heap.objs.size <= s3.heap.objs.size) (ho : s3.os = s.os) (hg : s3.gens = s.gens) :
    Inv (compCx X (own ++ free) scope s3.heap.objs.size s H ex) [] (own.map (fun _ => none) ++ takeFrom σ fr) H { s3 with heap := pushCells (s3.heap.push { cls := .type "dict", data := .dict #[] }) scope.names } := by
  have hsome : ∀ x ∈ scope.names, x.2 = .free -> ∃ c, X.env.cells.lookup x.1 = some c := fun x hx e => I.ok.has x.1 (S.free x hx e)
  have keep : ∀ b o, s3.heap.get? b = some o -> (pushCells (s3.heap.push { cls := .type "dict", data := .dict #[] }) scope.names).get? b = some o := fun b o e => pushCells_keeps _ _ b o (Heap.get?_push_of_some _ e)
  have hkeep : ∀ b o, s.heap.get? b = some o -> (pushCells (s3.heap.push { cls := .type "dict", data := .dict #[] }) scope.names).get? b = some o := fun b o e => keep b o (hs3 b o e)
  -- the cells
  have cells : ∀ n c, (n, c) ∈ (compEnv2 scope s3.heap.objs.size X.env).cells -> ((n, NameKind.free) ∈ scope.names /\ X.env.cells.lookup n = some c) \/ ((n, NameKind.cell) ∈ scope.names /\ s3.heap.objs.size + 1 <= c /\ (pushCells (s3.heap.push { cls := .type "dict", data := .dict #[] }) scope.names).IsCell c none) := fun n c h => by
    have h' : (n, c) ∈ cellsFrom (s3.heap.objs.size + 1) scope.names (closOf X.env scope.names []) := h
    have hc := mem_cellsFrom h'
    have e := isCell_pushCells scope.names (s3.heap.push { cls := .type "dict", data := .dict #[] }) (closOf X.env scope.names []) n c (by rw [Heap.size_push]; exact h')
    have fromClos : (n, c) ∈ closOf X.env scope.names [] -> (n, NameKind.free) ∈ scope.names /\ X.env.cells.lookup n = some c := fun hm => by
      rcases mem_closOf hm with h | ⟨hn, rfl⟩
      . exact absurd h (by simp)
      . obtain ⟨c', ec⟩ := hsome _ hn rfl
        rw [ec]; exact ⟨hn, rfl⟩
    rcases hc with hc | hc
    . exact .inl (fromClos hc)
    . rcases e with e | e
      . exact .inl (fromClos e)
      . exact .inr ⟨hc.1, hc.2, e⟩
  have cell_lt : ∀ n c, X.env.cells.lookup n = some c -> c < s.heap.objs.size := fun n c e => by
    obtain ⟨v, o, ho, _⟩ := I.cell n c e
    exact Heap.lt_size ho
  have apart : ∀ n n' c, (n, c) ∈ (compEnv2 scope s3.heap.objs.size X.env).cells -> (n', c) ∈ (compEnv2 scope s3.heap.objs.size X.env).cells -> n = n' := fun n n' c a b => by
    refine apart_cellsFrom (acc := closOf X.env scope.names []) (m := s3.heap.objs.size + 1) (fun p hp => ?_) (fun n n' c a b => ?_) n n' c a b
    . obtain ⟨n, c⟩ := p
      rcases mem_closOf hp with h | ⟨hn, e⟩
      . exact absurd h (by simp)
      . obtain ⟨c', ec⟩ := hsome _ hn rfl
        rw [ec] at e
        cases e
        exact Nat.lt_succ_of_lt (Nat.lt_of_lt_of_le (cell_lt n _ ec) hsz)
    . rcases mem_closOf a with h | ⟨hn, e⟩
      . exact absurd h (by simp)
      . rcases mem_closOf b with h | ⟨hn', e'⟩
        . exact absurd h (by simp)
        . obtain ⟨c1, e1⟩ := hsome _ hn rfl
          obtain ⟨c2, e2⟩ := hsome _ hn' rfl
          have e1' : X.env.cells.lookup n = some c1 := e1
          have e2' : X.env.cells.lookup n' = some c2 := e2
          rw [e1'] at e
          rw [e2'] at e'
          exact I.ok.inj n n' c (by rw [e1', e]; rfl) (by rw [e2', e']; rfl)
  have vis : ∀ x, ((compEnv2 scope s3.heap.objs.size X.env).kindOf x = some .cell \/ (compEnv2 scope s3.heap.objs.size X.env).kindOf x = some .free) -> (x, NameKind.cell) ∈ scope.names \/ (x, NameKind.free) ∈ scope.names := fun x h => by
    rcases h with h | h
    . obtain ⟨k', e, q⟩ := relabel_lookup h
      rcases q with q | q
      . exact .inl (by rw [<- q]; exact PySem.mem_of_lookup e)
      . exact .inr (by rw [<- q.1]; exact PySem.mem_of_lookup e)
    . obtain ⟨k', e, q⟩ := relabel_lookup h
      rcases q with q | q
      . exact .inr (by rw [<- q]; exact PySem.mem_of_lookup e)
      . exact .inr (by rw [<- q.1]; exact PySem.mem_of_lookup e)
  have fsub : ∀ b ∈ frs X.stack, b = X.env.locals \/ b ∈ X.fs := fun b hb => by
    have := I.stkSub b hb
    simpa using this
  have fresh : ∀ b, s.heap.objs.size <= b -> s.heap.get? b = none := fun b hb => by
    cases e : s.heap.get? b with
    | none => rfl
    | some o => exact absurd (Heap.lt_size e) (Nat.not_lt.mpr hb)
  have exlt : ∀ b ∈ ex, b < s.heap.objs.size := fun b hb => by obtain ⟨o, e⟩ := hob b hb; exact Heap.lt_size e
  refine ⟨⟨I.ok.mod, S.kind, I.ok.glob, I.ok.blt, hsz, fun x y c a b => apart x y c (PySem.mem_of_lookup a) (PySem.mem_of_lookup b), fun x hx => ?_, fun x c hx hc => ?_, I.ok.hd, I.ok.frames, .inl rfl, fun b hb => ?_, I.bs, ?_, fun b o e hb => ?_, fun b hb hf => ?_, I.stack, I.stkFree⟩,
    ho, ?_, Un.kept hkeep, ?_, fun x c hc => ?_, I.hok.fresh hsz, fun x c hc => ?_, fun p hp => absurd hp (by simp [compCx]), I.hok.kept hkeep, ?_⟩
  . rcases vis x hx with h | h
    . obtain ⟨c, hc⟩ := cellsFrom_mem (m := s3.heap.objs.size + 1) (acc := closOf X.env scope.names []) h
      obtain ⟨c', e, _⟩ := lookup_some_of_mem hc
      exact ⟨c', e⟩
    . obtain ⟨c', e, _⟩ := lookup_some_of_mem (cellsFrom_acc (names := scope.names) (m := s3.heap.objs.size + 1) (closOf_mem (env := X.env) (acc := []) h))
      exact ⟨c', e⟩
  . have hx' : scope.names.lookup x = some .cell := by simpa [compCx] using hx
    rcases cells x c (PySem.mem_of_lookup hc) with h | h
    . have := key_uniq S.nd h.1 (PySem.mem_of_lookup hx')
      cases this
    . show s.heap.objs.size <= c
      omega
  . refine ⟨Nat.ne_of_lt (Nat.lt_of_lt_of_le (exlt b hb) hsz), fun x c hc => ?_⟩
    rcases cells x c (PySem.mem_of_lookup hc) with h | h
    . exact (hex b hb).2.2.2.2.1 x c h.2
    . have := exlt b hb
      intro e
      have e' : Nat.lt c s.heap.objs.size := by rw [e]; exact this
      exact absurd (Nat.lt_of_lt_of_le e' hsz) (Nat.not_lt.mpr (Nat.le_of_succ_le h.2.1))
  . exact Nat.le_trans I.ok.bsz I.sz
  . have hb' : b ∈ ex := hb
    rcases (hex b hb').2.2.2.1 with h | h
    . exact I.ok.noex b o e h
    . exact absurd (Heap.lt_size (I.ok.bs b o e).1) (Nat.not_lt.mpr h)
  . have hb' : b ∈ ex := hb
    rcases fsub b hf with h | h
    . exact (hex b hb').2.1 h
    . exact (hex b hb').2.2.1 h
  . show AllBare s3.gens
    rw [hg]; exact I.bare
  . -- the names
    refine ⟨_, (Heap.Ns.new s3.heap (.type "dict")).keeps (pushCells_keeps _ _), fun i x v hi hv vx => ?_⟩
    have hN : (own ++ free)[i]? = some x := hi
    have hio : own.length <= i := by
      rcases Nat.lt_or_ge i own.length with h | h
      . rw [List.getElem?_append_left (by simpa using h), List.getElem?_map, List.getElem?_eq_getElem h] at hv
        cases hv
      . exact h
    rw [List.getElem?_append_right hio] at hN
    rw [List.getElem?_append_right (by simpa using hio)] at hv
    simp only [List.length_map] at hv
    unfold takeFrom at hv
    rw [List.getElem?_map] at hv
    have hx2 := hff x (List.mem_of_getElem? hN)
    have hmem : (x, NameKind.free) ∈ scope.names := PySem.mem_of_lookup hx2
    cases ej : fr[i - own.length]? with
    | none => rw [ej] at hv; cases hv
    | some j =>
      rw [ej] at hv
      simp only [Option.map_some, Option.some.injEq] at hv
      have hj : X.N[j]? = some x := by
        have q := congrArg (fun l => l[i - own.length]?) hfr
        simp only [List.getElem?_map, ej, hN, Option.map_some, Option.some.injEq] at q
        exact q
      have hσ : σ[j]? = some (some v) := by
        cases e : σ[j]? with
        | none => rw [e] at hv; cases hv
        | some w => rw [e] at hv; simp at hv; rw [hv]
      obtain ⟨m, hm, hl⟩ := I.loc
      have kx := S.free _ hmem rfl
      obtain ⟨u, ru, lk⟩ := hl j x v hj hσ (by rcases kx with k | k; exact .inr (.inl k); exact .inr (.inr k))
      refine ⟨u, ru, ?_⟩
      rcases lk with ⟨k, _⟩ | ⟨_, c, hc, hcell⟩
      . rcases kx with q | q <;> (have q' : X.env.kindOf x = _ := q; rw [k] at q'; cases q')
      . obtain ⟨c', e', m'⟩ := lookup_some_of_mem (cellsFrom_acc (names := scope.names) (m := s3.heap.objs.size + 1) (closOf_mem (env := X.env) (acc := []) hmem))
        have hcc : c' = c := by
          rcases cells x c' m' with h | h
          . rw [h.2] at hc; cases hc; rfl
          . have := key_uniq S.nd h.1 hmem; cases this
        subst hcc
        refine .inr ⟨?_, c', e', hcell.keeps hkeep⟩
        rcases vx with q | q | q
        . obtain ⟨k', ek, qq⟩ := relabel_lookup (env := X.env) (names := scope.names) q
          rw [hx2] at ek
          cases ek
          rcases qq with qq | qq
          . cases qq
          . cases qq.2.1
        . exact .inl q
        . exact .inr q
  . rcases cells x c (PySem.mem_of_lookup hc) with h | h
    . obtain ⟨v, hv⟩ := I.cell x c h.2
      exact ⟨v, hv.keeps hkeep⟩
    . exact ⟨_, h.2.2⟩
  . rcases cells x c (PySem.mem_of_lookup hc) with h | h
    . exact I.freeC x c h.2
    . exact I.hok.fresh (by omega)
  . show _ = (own ++ free).length
    have q := congrArg List.length hfr
    simp only [List.length_map] at q
    simp [takeFrom, q]
end L2

namespace L2
open PySem PySem.Spec PyProof.Rows

def PTs (X : Cx) (ifs : List Expr) (t : TT) : Prop :=
  ∀ (pins : List (Addr × Obj)) (s : Shared) (σ : St) (H : Hp) (Q : Bool -> Hp -> Prop), Inv X pins σ H s -> t σ H Q ->
    wpAny (model X.prog X.w) X.A (forIn ifs true fun c r => if r = true then do let ok <- isTrue c X.env (eval c X.env); pure (ForInStep.yield ok) else pure (ForInStep.yield r)) (TP X pins σ Q) X.xe s
def tNoT : TT := fun _ H Q => Q true H
theorem pts_nil {X : Cx} : PTs X [] tNoT := fun pins s σ H Q I h => wpAny_tests_nil ⟨H, I, h⟩
theorem pts_one {X : Cx} {c : Expr} {t : TT} (h : PT X c t) : PTs X [c] t := fun pins s σ H Q I q => wpAny_tests_one (h pins s σ H Q I q)

theorem compLoop_any {prog : Program} {w : World} {A : Around} {R : Result -> Shared -> Prop} {s : Shared} {elt target iter : Expr} {ifs : List Expr} {scope : Scope} {pos : Pos} {it acc : Value} {env : Env} (I : Nat -> Shared -> Prop)
    (turn : ∀ n s, I n s -> wpAny (model prog w) A (pyNext it) (fun r s₁ => match r with
      | none => R (.ok .next) s₁
      | some v => wpAny (model prog w) A (letOwnedTupleGo target it v) (fun _ s₁' => wpAny (model prog w) A (assign target env v) (fun _ s₂ =>
          wpAny (model prog w) A (forIn ifs true fun c r => if r = true then do let ok <- isTrue c env (eval c env); pure (ForInStep.yield ok) else pure (ForInStep.yield r)) (fun ok s₃ =>
            if ok = true then wpAny (model prog w) A (eval elt env) (fun x s₄ =>
              wpAny (model prog w) A (call (.builtin "list.append") [acc, x]) (fun _ s₅ => ∃ m, m < n /\ I m s₅) (notedBy (model prog w) A env fun e s' => R (.error e) s') s₄) (notedBy (model prog w) A env fun e s' => R (.error e) s') s₃
            else ∃ m, m < n /\ I m s₃) (notedBy (model prog w) A env fun e s' => R (.error e) s') s₂) (notedBy (model prog w) A env fun e s' => R (.error e) s') s₁') (notedBy (model prog w) A env fun e s' => R (.error e) s') s₁) (notedBy (model prog w) A env fun e s' => R (.error e) s') s)
    (n : Nat) (h : I n s) :
    codeAny (model prog w) A (.compLoop (.ListComp elt [⟨target, iter, ifs, 0⟩] scope pos) 0 it acc env) R s := by
  refine codeAny_loop rfl I (fun n s hI => ?_) n h
  show wpAny _ A ((compTurn (.ListComp elt [⟨target, iter, ifs, 0⟩] scope pos) 0 it acc env).onRaise (fun x => do noteFrame x env; theTreesLotGoes x)) _ _ s
  refine wpAny_noted ?_
  rw [compTurn_list]
  refine wpAny_bind (wpAny_standAt (wpAny_bind (wpAny_mono (turn n s hI) (fun r s₁ h₁ => ?_) fun _ _ h' => h')))
  cases r with
  | none => exact wpAny_pure h₁
  | some v =>
    refine wpAny_bind (wpAny_mono h₁ (fun _ s₁' h₁' => ?_) fun _ _ h' => h')
    refine wpAny_bind (wpAny_mono h₁' (fun _ s₂ h₂ => wpAny_bind (wpAny_mono h₂ (fun ok s₃ h₃ => ?_) fun _ _ h' => h')) fun _ _ h' => h')
    cases ok with
    | false => exact wpAny_pure ⟨rfl, h₃⟩
    | true =>
      exact wpAny_bind (wpAny_bind (wpAny_mono h₃ (fun x s₄ h₄ => wpAny_bind (wpAny_mono h₄ (fun _ s₅ h₅ => wpAny_pure (wpAny_pure ⟨rfl, h₅⟩)) fun _ _ h' => h')) fun _ _ h' => h'))

def Sub (σ σ2 : St) : Prop := σ.length = σ2.length /\ ∀ (i : Nat) v, σ[i]? = some (some v) -> σ2[i]? = some (some v)
abbrev lobj (its : List Value) (n : Nat) : Obj := { cls := .type "list", data := .seq its.toArray n }

section
variable {X : Cx} {tg iter elt : Expr} {ifs : List Expr} {scope : Scope} {pos : Pos} {own free : List Str} {fr : List Nat}

def CompTurns (J : It) (g : TG) (tc : TT) (te : TE) (σb : St) (Fin : List V -> Hp -> Prop) (W : Nat -> Nat -> List V -> Hp -> Prop) : Prop :=
  ∀ i m ys H, W i m ys H -> (J.stop i H /\ Fin ys H) \/ (J.go i H /\ ys.length < sizeLine /\ ∃ N : List V -> Hp -> Prop, (∀ ys' H', N ys' H' -> ∃ m', m' < m /\ W (i + 1) m' ys' H') /\ ∀ x H', J.yld i H x H' -> g x σb H' fun σ2 H3 => Sub σb σ2 /\ tc σ2 H3 fun b H4 =>
    if b = true then te σ2 H4 fun v H5 => N (ys ++ [v]) H5 else N ys H4)

theorem comp_run {pins : List (Addr × Obj)} {σ : St} {H2 : Hp} {s2 : Shared} {J : It} {fp : List Addr} {it : Addr} {tn : Nat -> Heap -> Prop} {g : TG} {tc : TT} {te : TE} {Fin : List V -> Hp -> Prop} {W : Nat -> Nat -> List V -> Hp -> Prop} {m0 : Nat}
    {RR : Value -> Addr -> Result -> Shared -> Prop} {E : Value -> Shared -> Prop}
    (S : CompSc X scope) (hc : X.calm = true) (hfr : fr.map (fun j => X.N[j]?) = free.map some) (hff : ∀ x ∈ free, scope.names.lookup x = some .free)
    (hg : ∀ C s H ex, PG (compCx X (own ++ free) scope C s H ex) tg g) (ht : ∀ C s H ex, PTs (compCx X (own ++ free) scope C s H ex) ifs tc) (he : ∀ C s H ex, PE (compCx X (own ++ free) scope C s H ex) elt te)
    (I2 : Inv X pins σ H2 s2) (T : Turn X.prog X.w X.K tg J fp it tn) (st2 : tn 0 s2.heap) (f2 : ∀ b ∈ fp, FpOk X pins H2 b)
    (w0 : W 0 m0 [] H2) (turn : CompTurns J g tc te (own.map (fun _ => none) ++ takeFrom σ fr) Fin W)
    (hRR : ∀ D C its n ys H' s', Inv (compCx X (own ++ free) scope C s2 H2 fp) [(D, lobj its n)] (own.map (fun _ => none) ++ takeFrom σ fr) H' s' -> Vals ys its -> ys.length <= sizeLine -> Fin ys H' -> s2.heap.objs.size <= D -> RR (.ref D) C (.ok .next) s') :
    wpAny (model X.prog X.w) X.A (newList []) (fun acc s₃ => wpAny (model X.prog X.w) X.A (newFunctionEnv scope X.env.globals (closOf X.env scope.names []) [] X.env.qual none .none (some X.env)) (fun cenv s₄ =>
      codeAny (model X.prog X.w) X.A (.compStart (.ListComp elt [⟨tg, iter, ifs, 0⟩] scope pos) 0 (.ref it) acc { cenv with scope := relabel scope X.env }) (RR acc cenv.locals) s₄) E s₃) E s2 := by
  refine wpAny_newObj_type (newCompEnv ?_)
  have hob : ∀ b ∈ fp, ∃ o, s2.heap.get? b = some o := fun b hb => by obtain ⟨o, e, _⟩ := T.obj _ _ st2 b hb; exact ⟨o, e⟩
  have fplt : ∀ b ∈ fp, b < s2.heap.objs.size := fun b hb => by obtain ⟨o, e⟩ := hob b hb; exact Heap.lt_size e
  generalize hs3 : ({ s2 with heap := s2.heap.push { cls := .type "list", dict := none, data := .seq ([] : List Value).toArray } } : Shared) = s3
  have hh3 : s3.heap = s2.heap.push (lobj [] 0) := by rw [<- hs3]
  have hC : s3.heap.objs.size = s2.heap.objs.size + 1 := by rw [hh3, Heap.size_push]
  have keep3 : ∀ b o, s2.heap.get? b = some o -> s3.heap.get? b = some o := fun b o e => by rw [hh3]; exact Heap.get?_push_of_some _ e
  have I3 := comp_inv (own := own) (ex := fp) (s3 := s3) S I2 f2 hob hfr hff keep3 (by rw [hC]; exact Nat.le_succ _) (by rw [<- hs3]) (by rw [<- hs3])
  generalize hs4 : ({ s3 with heap := pushCells (s3.heap.push { cls := .type "dict", data := .dict #[] }) scope.names } : Shared) = s4 at I3
  have keep4 : ∀ b o, s3.heap.get? b = some o -> s4.heap.get? b = some o := fun b o e => by rw [<- hs4]; exact pushCells_keeps _ _ b o (Heap.get?_push_of_some _ e)
  have hD4 : s4.heap.get? s2.heap.objs.size = some (lobj [] 0) := keep4 _ _ (by rw [hh3]; exact Heap.get?_push_size _ rfl)
  have nf : s2.heap.objs.size ∉ frs X.stack := fun hb => by
    obtain ⟨_, o, e, _⟩ := I2.stack.mem hb
    exact absurd (Heap.lt_size e) (Nat.lt_irrefl _)
  have hDC : s2.heap.objs.size ≠ s3.heap.objs.size := by rw [hC]; exact Nat.ne_of_lt (Nat.lt_succ_self _)
  -- the cells of the block are no list
  have cellD : ∀ {P : List (Addr × Obj)} {σ' H' s'} {its : List Value} {n : Nat}, Inv (compCx X (own ++ free) scope s3.heap.objs.size s2 H2 fp) P σ' H' s' -> s'.heap.get? s2.heap.objs.size = some (lobj its n) -> ∀ x c, (compEnv2 scope s3.heap.objs.size X.env).cells.lookup x = some c -> c ≠ s2.heap.objs.size := fun I e x c hc z => by
    obtain ⟨v, o, eo, ed⟩ := I.cell x c hc
    rw [z, e] at eo
    cases eo
    cases ed
  have pinD : ∀ {σ' H' s'} {its : List Value} {n : Nat}, Inv (compCx X (own ++ free) scope s3.heap.objs.size s2 H2 fp) [] σ' H' s' -> s'.heap.get? s2.heap.objs.size = some (lobj its n) -> H' s2.heap.objs.size = none ->
      Inv (compCx X (own ++ free) scope s3.heap.objs.size s2 H2 fp) [(s2.heap.objs.size, lobj its n)] σ' H' s' := fun {σ' H' s' its n} I e hn => I.pins_of fun p hp => by
    have hp' : p = (s2.heap.objs.size, lobj its n) := List.mem_singleton.mp hp
    subst hp'
    exact ⟨e, hn, hDC, nf, fun v => by intro z; cases z⟩
  have I4 := pinD I3 hD4 (I2.hok.fresh (Nat.le_refl _))
  have fpOk : ∀ {σ' H' s'} {its : List Value} {n : Nat}, Inv (compCx X (own ++ free) scope s3.heap.objs.size s2 H2 fp) [(s2.heap.objs.size, lobj its n)] σ' H' s' -> (∀ b ∈ fp, H' b = none) -> ∀ b ∈ fp, FpOk (compCx X (own ++ free) scope s3.heap.objs.size s2 H2 fp) [(s2.heap.objs.size, lobj its n)] H' b := fun {σ' H' s' its n} I hn b hb => by
    refine ⟨hn b hb, (I.ok.exf b hb).1, I.ok.exfs b hb, .inl hb, (I.ok.exf b hb).2, fun p hp => ?_⟩
    have hp' : p = (s2.heap.objs.size, lobj its n) := List.mem_singleton.mp hp
    subst hp'
    exact Ne.symm (Nat.ne_of_lt (fplt b hb))
  have stn4 : tn 0 s4.heap := T.keep _ _ _ st2 fun b hb o e => keep4 b o (keep3 b o e)
  have loop : ∀ s', s' = s4 -> codeAny (model X.prog X.w) X.A (.compLoop (.ListComp elt [⟨tg, iter, ifs, 0⟩] scope pos) 0 (.ref it) (.ref s2.heap.objs.size) (compEnv2 scope s3.heap.objs.size X.env)) (RR (.ref s2.heap.objs.size) s3.heap.objs.size) s' := by
    rintro s' rfl
    refine compLoop_any (fun k s' => ∃ i ys its n H', Inv (compCx X (own ++ free) scope s3.heap.objs.size s2 H2 fp) [(s2.heap.objs.size, lobj its n)] (own.map (fun _ => none) ++ takeFrom σ fr) H' s' /\ tn i s'.heap /\ (∀ b ∈ fp, H' b = none) /\ Vals ys its /\ ys.length <= sizeLine /\ W i k ys H') ?_ m0
      ⟨0, [], [], 0, H2, I4, stn4, fun b hb => (f2 b hb).1, .nil, Nat.zero_le _, w0⟩
    rintro k s5 ⟨i, ys, its, n, H5, I5, st5, fr5, r5, len5, w5⟩
    rcases turn i k ys H5 w5 with ⟨stop, fin⟩ | ⟨go, hlt, N, hN, step⟩
    . refine wpAny_mono (T.done (compCx X (own ++ free) scope s3.heap.objs.size s2 H2 fp) rfl rfl rfl hc i _ s5 _ H5 (fun _ _ => False) I5 (fpOk I5 fr5) st5 stop) (fun r s6 ⟨hr, I6⟩ => ?_) fun _ _ f => f.elim
      subst hr
      exact hRR _ _ its n ys H5 s6 I6 r5 len5 fin (Nat.le_refl _)
    . refine wpAny_mono (T.item (compCx X (own ++ free) scope s3.heap.objs.size s2 H2 fp) rfl rfl rfl hc i _ s5 _ H5 (fun _ _ => False) I5 (fpOk I5 fr5) st5 go) (fun r s6 ⟨u, hr, h6⟩ => ?_) fun _ _ f => f.elim
      subst hr
      refine wpAny_mono h6 (fun _ s7 ⟨x, H7, I7, r7, y7, st7, fr7⟩ => ?_) fun _ _ f => f.elim
      have I7' := I7.pinned (fpOk I7 fr7) (T.obj _ _ st7)
      refine wpAny_mono (hg _ _ _ _ _ s7 _ H7 x u _ I7' r7 (step x H7 y7)) (fun _ s8 ⟨σ8, H8, I8, sub8, q8⟩ => ?_) fun _ _ f => f.elim
      refine wpAny_mono (ht _ _ _ _ _ s8 σ8 H8 _ I8 q8) (fun b s9 ⟨H9, I9, q9⟩ => ?_) fun _ _ f => f.elim
      have back : ∀ {H' s'}, Inv (compCx X (own ++ free) scope s3.heap.objs.size s2 H2 fp) ([(s2.heap.objs.size, lobj its n)] ++ pinsAt fp s7.heap) σ8 H' s' -> tn (i + 1) s'.heap /\ (∀ b ∈ fp, H' b = none) := fun {H' s'} I => by
        refine ⟨T.keep _ _ _ st7 fun b hb o e => (I.pin (b, o) (List.mem_append_right _ (List.mem_append_right _ (mem_pinsAt hb e)))).1, fun b hb => ?_⟩
        obtain ⟨o, e, d⟩ := T.obj _ _ st7 b hb
        exact (I.pin (b, o) (List.mem_append_right _ (List.mem_append_right _ (mem_pinsAt hb e)))).2.1
      cases b with
      | false =>
        obtain ⟨m', hm, w9⟩ := hN _ _ q9
        obtain ⟨st9, fr9⟩ := back I9
        exact ⟨m', hm, i + 1, ys, its, n, H9, I9.unpinned.weak sub8.1 sub8.2, st9, fr9, r5, len5, w9⟩
      | true =>
        refine wpAny_mono (he _ _ _ _ _ s9 σ8 H9 _ I9 q9) (fun v s10 ⟨y, H10, I10, r10, q10⟩ => ?_) fun _ _ f => f.elim
        obtain ⟨m', hm, w10⟩ := hN _ _ q10
        obtain ⟨st10, fr10⟩ := back I10
        have pD := I10.pin (s2.heap.objs.size, lobj its n) (List.mem_append_right _ (List.mem_append_left _ List.mem_cons_self))
        refine append_at (hsz := by rw [List.size_toArray, <- r5.length]; exact len5) pD.1 fun h' hsb hnew => ?_
        have J0 : Inv (compCx X (own ++ free) scope s3.heap.objs.size s2 H2 fp) (pinsAt fp s7.heap) σ8 H10 s10 := I10.pins_of fun p hp => I10.pin p (by
          have hp' : p ∈ pinsAt fp s7.heap := by simpa [compCx] using hp
          exact List.mem_append_right _ (List.mem_append_right _ hp'))
        have J1 : Inv (compCx X (own ++ free) scope s3.heap.objs.size s2 H2 fp) (pinsAt fp s7.heap) σ8 H10 { s10 with heap := h' } := J0.turned (it := s2.heap.objs.size) (t' := s10.toks) (fun b o hb e => hsb.extBut b o hb e) pD.2.1 hDC (.inr (Nat.le_refl _)) (cellD J0 pD.1) (fun p hp => by
          have hp' : p ∈ pinsAt fp s7.heap := by simpa [compCx] using hp
          exact Nat.ne_of_lt (fplt _ (of_pinsAt hp').1))
        have J2 : Inv (compCx X (own ++ free) scope s3.heap.objs.size s2 H2 fp) [] σ8 H10 { s10 with heap := h' } := J1.pins_of fun p hp => absurd hp (by simp [compCx])
        have st11 : tn (i + 1) h' := T.keep _ _ _ st10 fun b hb o e => hsb.extBut b o (Nat.ne_of_lt (fplt b hb)) e
        have e11 : h'.get? s2.heap.objs.size = some (lobj (its ++ [v]) (n + 1)) := by rw [hnew, List.push_toArray]
        refine ⟨m', hm, i + 1, ys ++ [y], its ++ [v], n + 1, H10, (pinD J2 e11 pD.2.1).weak sub8.1 sub8.2, st11, fr10, r5.append (.cons r10 .nil), ?_, w10⟩
        rw [List.length_append, List.length_singleton]
        exact hlt
  refine codeAny_compStart_list (loop _ rfl) (T.self X.A 0 _ _ _ stn4 (loop _ rfl))

theorem comp_out {pins : List (Addr × Obj)} {σ σ' : St} {H2 H' : Hp} {s2 s' : Shared} {fp : List Addr} {C D : Addr} {its : List Value} {n : Nat} {ys : List V} {N : List Str} {h'' : Heap}
    (I2 : Inv X pins σ H2 s2) (f2 : ∀ b ∈ fp, FpOk X pins H2 b) (I : Inv (compCx X N scope C s2 H2 fp) [(D, lobj its n)] σ' H' s') (r : Vals ys its) (hz : ys.length <= sizeLine) (hD : s2.heap.objs.size <= D) (hs : Heap.SameBut C s'.heap h'') :
    Inv X pins σ (upd H' D (.lst ys)) { s' with heap := h'' } /\ H' D = none := by
  have pD := I.pin (D, lobj its n) (List.mem_append_right _ List.mem_cons_self)
  have hCs : s2.heap.objs.size <= C := I.ok.above
  have hDC : D ≠ C := pD.2.2.1
  have u : Un (frs X.stack) fp H2 H' s2.heap s'.heap := I.base
  have lt2 : ∀ b o, s2.heap.get? b = some o -> b ≠ C /\ b ≠ D := fun b o e => by
    have := Heap.lt_size e
    exact ⟨Nat.ne_of_lt (Nat.lt_of_lt_of_le this hCs), Nat.ne_of_lt (Nat.lt_of_lt_of_le this hD)⟩
  have tD : ∀ b o, H2 b = some o -> b ≠ D := fun b o e z => by
    have := I2.hok.lt e
    rw [z] at this
    exact absurd this (Nat.not_lt.mpr hD)
  have hC' : ∀ b o, H' b = some o -> b ≠ C := fun b o e z => by
    have := I.free
    rw [show (compCx X N scope C s2 H2 fp).env.locals = C from rfl, <- z, e] at this
    cases this
  have hok1 : HOk X.prog X.w H' h'' := fun a o e => (I.hok a o e).stay (fun b ob hb eb => by
      rcases hb with hb | hb
      . rw [hb]; rw [hb] at eb; exact hs.extBut _ _ (hC' a o e) eb
      . exact hs.extBut _ _ (hC' b _ hb) eb) (fun _ h => h) (fun _ _ h => h)
  have oD : h''.get? D = some (lobj its n) := hs.extBut _ _ hDC pD.1
  have hok : HOk X.prog X.w (upd H' D (.lst ys)) h'' := fun a o e => by
    by_cases ha : a = D
    . subst ha
      rw [upd_same] at e
      cases e
      exact ⟨hz, its, n, r, oD⟩
    . rw [upd_ne ha] at e
      refine (hok1 a o e).stay (fun b ob _ eb => eb) (fun b h => ?_) (fun b xs h => ?_)
      . rw [upd_ne (fun z => by rw [z, pD.2.1] at h; cases h)]; exact h
      . rw [upd_ne (fun z => by rw [z, pD.2.1] at h; cases h)]; exact h
  have u2 : Un (frs X.stack) fp H2 (upd H' D (.lst ys)) s2.heap h'' :=
    { keep := fun b o e hn hf hx => hs.extBut b o (lt2 b o e).1 (u.keep b o e hn hf hx)
      slot := fun b o e hn hf hx => by
        obtain ⟨sl, q⟩ := u.slot b o e hn hf hx
        exact ⟨sl, hs.extBut b _ (lt2 b o e).1 q⟩
      free := fun b o e hn hx => by rw [upd_ne (lt2 b o e).2]; exact u.free b o e hn hx
      there := fun b o e hx => by
        obtain ⟨o', q⟩ := u.there b o e hx
        exact ⟨o', hs.extBut b _ (lt2 b o e).1 q⟩
      tups := fun b xs e => by rw [upd_ne (tD b _ e)]; exact u.tups b xs e
      frzs := fun b o v e => by rw [upd_ne (tD b _ e)]; exact u.frzs b o v e
      tbls := fun b ps e => by rw [upd_ne (tD b _ e)]; exact u.tbls b ps e }
  refine ⟨I2.call' (s' := { s' with heap := h'' }) (ch := fp) I.os u2 hok I.bare fun b hb => ?_, pD.2.1⟩
  have q := f2 b hb
  exact ⟨q.2.2.2.1, q.2.1, q.2.2.2.2.1, q.2.2.2.2.2⟩

def tComp (own : List Str) (fr : List Nat) (wi : TI) (g : TG) (tc : TT) (te : TE) : TE := fun σ H Q => wi σ H fun J H1 => ∃ W : Nat -> Nat -> List V -> Hp -> Prop, (∃ m, W 0 m [] H1) /\
  CompTurns J g tc te (own.map (fun _ => none) ++ takeFrom σ fr) (fun ys H' => ∀ p, H' p = none -> Q (.ref p) (upd H' p (.lst ys))) W

theorem pe_comp {wi : TI} {g : TG} {tc : TT} {te : TE} (own free : List Str) (fr : List Nat) (S : CompSc X scope) (hc : X.calm = true) (hfr : fr.map (fun j => X.N[j]?) = free.map some) (hff : ∀ x ∈ free, scope.names.lookup x = some .free)
    (hi : PI X tg iter wi)
    (hg : ∀ C s H ex, PG (compCx X (own ++ free) scope C s H ex) tg g) (ht : ∀ C s H ex, PTs (compCx X (own ++ free) scope C s H ex) ifs tc) (he : ∀ C s H ex, PE (compCx X (own ++ free) scope C s H ex) elt te)
    (hs : ∀ x, foldedSetIterable iter X.env x = pure x := by intro _; rfl) :
    PE X (.ListComp elt [⟨tg, iter, ifs, 0⟩] scope pos) (tComp own fr wi g tc te) := by
  intro pins s σ H Q I h
  have hcl : closureFor scope X.env = pure (closOf X.env scope.names []) := closureFor_of fun x hx e => by
    obtain ⟨c, hc⟩ := I.ok.has x.1 (S.free x hx e)
    rw [hc]; rfl
  rw [eval_ListComp]
  refine wpAny_comprehension_free (use := none) rfl hs hcl S.kind (fun x hx e => by have := lookup_uniq S.nd (show (x.1, x.2) ∈ scope.names from hx); rw [this, e]) (thn (hi pins s σ H _ I h) fun v s1 h1 => thn h1 fun itv s2 h2 => ?_)
  obtain ⟨it, fp, tn, J, H2, e, I2, T, st2, f2, W, ⟨m0, w0⟩, turn⟩ := h2
  subst e
  refine comp_run (RR := fun acc C => compPost (model X.prog X.w) X.A X.xe none (EP X pins σ Q) acc C) S hc hfr hff hg ht he I2 T st2 f2 w0 turn ?_
  intro D C its n ys H' s' I' r hz fin hD
  obtain ⟨m, hm, _⟩ := I'.loc
  refine ⟨m, hm, fun h'' hsb => ?_⟩
  obtain ⟨J', hn⟩ := comp_out I2 f2 I' r hz hD hsb
  exact ⟨.ref D, _, J', rfl, fin D hn⟩

theorem ps_setC {wi : TI} {g : TG} {tc : TT} {te : TE} {i : Nat} {x : Str} {pos' spos : Pos} (own free : List Str) (fr : List Nat) (hN : X.N.Nodup) (hx : X.N[i]? = some x) (hl : X.env.scope.names.lookup x = some .local)
    (S : CompSc X scope) (hc : X.calm = true) (hfr : fr.map (fun j => X.N[j]?) = free.map some) (hff : ∀ x ∈ free, scope.names.lookup x = some .free)
    (hi : PI X tg iter wi)
    (hg : ∀ C s H ex, PG (compCx X (own ++ free) scope C s H ex) tg g) (ht : ∀ C s H ex, PTs (compCx X (own ++ free) scope C s H ex) ifs tc) (he : ∀ C s H ex, PE (compCx X (own ++ free) scope C s H ex) elt te)
    (hsw : swapsWith (.ListComp elt [⟨tg, iter, ifs, 0⟩] scope pos) (some (.Name x pos')) spos.line X.env = pure true := by rfl)
    (hs : ∀ x, foldedSetIterable iter X.env x = pure x := by intro _; rfl) :
    PS X (.Assign [.Name x pos'] (.ListComp elt [⟨tg, iter, ifs, 0⟩] scope pos) spos) (tAsg (tComp own fr wi g tc te) (gName i)) := by
  intro pins s σ H D0 I h
  have hcl : closureFor scope X.env = pure (closOf X.env scope.names []) := closureFor_of fun x hx e => by
    obtain ⟨c, hc⟩ := I.ok.has x.1 (S.free x hx e)
    rw [hc]; rfl
  rw [exec_Assign_Name_used _ _ _ _ hsw]
  refine wpAny_bind (wpAny_standAt (wpAny_bind ?_))
  show wpAny _ X.A (do let _ <- comprehension (.ListComp elt [⟨tg, iter, ifs, 0⟩] scope pos) scope X.env _ (newList []) false (eval iter X.env) (some (assign (.Name x pos') X.env))) _ _ s
  refine wpAny_bind (thn (wpAny_comprehension_free (use := some (assign (.Name x pos') X.env)) (Q := fun _ s' => SP X pins D0 .next s') rfl hs hcl S.kind (fun x hx e => by have := lookup_uniq S.nd (show (x.1, x.2) ∈ scope.names from hx); rw [this, e])
    (thn (hi pins s σ H _ I h) fun v s1 h1 => thn h1 fun itv s2 h2 => ?_)) (fun _ s' hq => wpAny_pure (wpAny_pure hq)))
  obtain ⟨it, fp, tn, J, H2, e, I2, T, st2, f2, W, ⟨m0, w0⟩, turn⟩ := h2
  subst e
  refine comp_run (RR := fun acc C => compPost (model X.prog X.w) X.A X.xe (some (assign (.Name x pos') X.env)) (fun _ s' => SP X pins D0 .next s') acc C) S hc hfr hff hg ht he I2 T st2 f2 w0 turn ?_
  intro D C its n ys H' s' I' r hz fin hD
  obtain ⟨m, hm, _⟩ := I'.loc
  obtain ⟨J', hn⟩ := comp_out I2 f2 I' r hz hD (Heap.SameBut.refl C s'.heap)
  show wpAny _ _ (assign (.Name x pos') X.env (.ref D)) _ _ _
  have hCx : (compCx X (own ++ free) scope C s2 H2 fp).env.locals = C := rfl
  have hCl : C ≠ X.env.locals := by
    have := I2.lt
    have h2 : s2.heap.objs.size <= C := I'.ok.above
    exact Ne.symm (Nat.ne_of_lt (Nat.lt_of_lt_of_le this h2))
  refine wpAny_assign_Name (store_ok2 (s := { s' with heap := s'.heap }) J' hN hx (.inl hl) (show RelV (.ref D) (.ref D) from rfl) (fun s3 I3 ⟨a, sb, ha⟩ => ?_) (.inr hl))
  have haC : C ≠ a := by
    rcases ha with rfl | ha
    . exact hCl
    . intro z
      obtain ⟨v, o, eo, _⟩ := I2.cell x a ha
      have h2 : s2.heap.objs.size <= C := I'.ok.above
      have := Heap.lt_size eo
      rw [<- z] at this
      exact absurd this (Nat.not_lt.mpr h2)
  have nsC : s3.heap.Ns C m := hm.sameBut sb haC
  refine ⟨m, nsC, fun h'' hsb => ?_⟩
  refine ⟨_, _, ?_, fin D hn⟩
  have hC2 : s2.heap.objs.size <= C := I'.ok.above
  -- the block's own names are an object that nothing tracks
  have hCn : (upd H' D (.lst ys)) C = none := by
    rw [upd_ne (fun z => ?_)]
    . exact I'.free
    . exact (I'.pin (D, lobj its n) (List.mem_append_right _ List.mem_cons_self)).2.2.1 z.symm
  have := I3.turned (it := C) (h' := h'') (t' := s3.toks) (fun b o hb e => hsb.extBut b o hb e) hCn hCl (.inr (Nat.le_trans I2.sz hC2)) (fun y c hc z => by
      obtain ⟨v, o, eo, _⟩ := I2.cell y c hc
      have := Heap.lt_size eo
      rw [z] at this
      exact absurd this (Nat.not_lt.mpr hC2)) (fun p hp z => by
      have := Heap.lt_size (I2.pin p hp).1
      rw [z] at this
      exact absurd this (Nat.not_lt.mpr hC2))
  exact this
end
end L2

namespace L2
open PySem PySem.Spec PyProof.Rows

def rangeL (lo : Int) (n : Nat) : List Int := (List.range n).map fun (i : Nat) => lo + (i : Int)
theorem rangeL_get {lo : Int} {n i : Nat} (h : i < n) : (rangeL lo n)[i]? = some (lo + i) := by
  unfold rangeL; rw [List.getElem?_map, List.getElem?_range h]; rfl
theorem rangeL_length (lo : Int) (n : Nat) : (rangeL lo n).length = n := by simp [rangeL]
section
variable {X : Cx}
def CDivB (i j : Int) : Prop := 0 < j /\ j < 2 ^ 250
theorem op_fdivB : OpR X (binaryOp .FloorDiv) (rI CDivB fun i j => .int (i / j)) := opI fun i j t u s Q E h q => by
  have e : i.fdiv j = i / j := Int.fdiv_eq_ediv_of_nonneg i (Int.le_of_lt h.1)
  rw [<- e] at q
  refine floordiv_int (by have := h.1; omega) q (Or.inl (PyProof.noPylong_of_log2 ?_))
  have h2 := h.2
  have hn : j.natAbs < 2 ^ 250 := by have := h.1; omega
  exact Nat.lt_trans (Nat.log2_lt (by have := h.1; omega) |>.mpr hn) (by decide)

theorem items_vals : ∀ {ns : List Int} {us : List Value}, Vals (ns.map V.int) us -> IntsAre us ns
  | [], _, .nil => .nil
  | _ :: _, _, .cons ⟨t, rfl⟩ r => .cons _ _ (items_vals r)
theorem call_isinst : CallR X (.builtin "isinstance") (fun xs H Q => ∃ x c t b, xs = [x, c] /\ TyOf X.K H x t /\ (∀ u, RelV c u -> PySem.W.kitOne X.K t u = some b) /\ Q (.bl b) H) := by
  intro pins s σ H xs us Q I r h
  obtain ⟨x, c, t, b, rfl, ty, e, q⟩ := h
  obtain ⟨u, v, rfl, ru, rv⟩ := vals2 r
  exact isinst_ok I ru ty (e v rv) fun tk => ⟨.bl b, H, I.tok tk, rfl, q⟩
end

structure Has (P : Program) (w : World) (K : PySem.W.Frag) (mg : Str -> Option Value) (base : Heap) (CX : CXT) (x : Str) (k : Nat) (ps : List Str) (sp : Sp) : Prop where
  ex : ∃ f fd, FnOk P w K mg base CX k f fd ps sp /\ Binds K fd ps [] /\ PySem.W.keepIn K (.ref f) = true /\ mg x = some (.ref f)
section
variable {X : Cx} {CX : CXT} {j k : Nat} {ps : List Str} {sp : Sp} {E : XK} {x : Str} {p pos : Pos} {e : Expr} {es : List Expr} {t : TA}
theorem pe_callH (h : Has X.prog X.w X.K X.mg X.base CX x j ps sp) (hr : Room k X.A) (ha : PA X (e :: es) t) (hj : j <= k := by decide) (hg : Gl X x := by rfl) (hx : Passes CX X E := by exact pass0) (hdb : (x == ("__debug__" : Str)) = false := by decide)
    (he : starEach (e :: es) X.env = (false, eval e X.env) :: starEach es X.env := by rfl) (hpl : (backTo pos (starEach es X.env)).any (·.1) = false := by rfl) : PE X (.Call (.Name x p) (e :: es) [] pos) (tCall sp [] E t) := by
  obtain ⟨f, fd, F, b, kp, m⟩ := h.ex
  exact pe_call (F.mono hj) hr hg m kp b .nil hx ha hdb he hpl
end
end L2

namespace L2
open PySem PySem.Spec PyProof.Rows

theorem bb_len : bootBuiltins "len" = some (.builtin "len") := by decide +kernel
theorem bb_abs : bootBuiltins "abs" = some (.builtin "abs") := by decide +kernel
theorem bb_sorted : bootBuiltins "sorted" = some (.builtin "sorted") := by decide +kernel
theorem bb_isinstance : bootBuiltins "isinstance" = some (.builtin "isinstance") := by decide +kernel
theorem bb_list : bootBuiltins "list" = some (.type "list") := by decide +kernel
theorem bb_tuple : bootBuiltins "tuple" = some (.type "tuple") := by decide +kernel
structure Blt (mg : Str -> Option Value) : Prop where
  len : mg "len" = none
  abs : mg "abs" = none
  max : mg "max" = none
  min : mg "min" = none
  all : mg "all" = none
  any : mg "any" = none
  sum : mg "sum" = none
  sorted : mg "sorted" = none
  isinstance : mg "isinstance" = none
  list : mg "list" = none
  tuple : mg "tuple" = none
  int : mg "int" = none
  bool : mg "bool" = none
  str : mg "str" = none
  set : mg "set" = none
  dict : mg "dict" = none
  zip : mg "zip" = none
  range : mg "range" = none
  enumerate : mg "enumerate" = none
  reversed : mg "reversed" = none
  repr : mg "repr" = none

theorem start0 {N : List Str} {vs : List V} : start N vs = vs.map some ++ List.replicate (N.length - vs.length) none := rfl
end L2
namespace L2
open PySem PySem.Spec PyProof.Rows
def OnlyAt (a : Addr) (H H' : Hp) : Prop := ∀ b, b ≠ a -> H' b = H b
end L2

namespace L2
open PySem PySem.Spec PyProof.Rows

mutual
def Dat (K : PySem.W.Frag) (H : Hp) : PyData -> V -> Prop
  | .none, v => v = .non
  | .bool b, v => v = .bl b
  | .int i, v => v = .int i
  | .str x, v => v = .str x
  | .list ds, v => ∃ a xs, v = .ref a /\ SqL K H a xs /\ Dats K H ds xs
  | .tuple ds, v => ∃ a xs, v = .ref a /\ SqT K H a xs /\ Dats K H ds xs
  | .dict _, _ => False
def Dats (K : PySem.W.Frag) (H : Hp) : List PyData -> List V -> Prop
  | [], xs => xs = []
  | d :: ds, xs => ∃ x r, xs = x :: r /\ Dat K H d x /\ Dats K H ds r
end
theorem Dats.nil {K : PySem.W.Frag} {H : Hp} : Dats K H [] [] := by unfold Dats; rfl
theorem Dats.cons {K : PySem.W.Frag} {H : Hp} {d : PyData} {ds : List PyData} {x : V} {xs : List V} (a : Dat K H d x) (b : Dats K H ds xs) : Dats K H (d :: ds) (x :: xs) := by unfold Dats; exact ⟨x, xs, rfl, a, b⟩
theorem Dat.i {K : PySem.W.Frag} {H : Hp} {i : Int} : Dat K H (.int i) (.int i) := by unfold Dat; rfl
theorem Dat.s {K : PySem.W.Frag} {H : Hp} {x : Str} : Dat K H (.str x) (.str x) := by unfold Dat; rfl
theorem Dat.b {K : PySem.W.Frag} {H : Hp} {x : Bool} : Dat K H (.bool x) (.bl x) := by unfold Dat; rfl
theorem Dat.n {K : PySem.W.Frag} {H : Hp} : Dat K H .none .non := by unfold Dat; rfl
theorem Dat.tup {K : PySem.W.Frag} {H : Hp} {a : Addr} {xs : List V} {ds : List PyData} (h : SqT K H a xs) (b : Dats K H ds xs) : Dat K H (.tuple ds) (.ref a) := by unfold Dat; exact ⟨a, xs, rfl, h, b⟩
theorem Dat.lst {K : PySem.W.Frag} {H : Hp} {a : Addr} {xs : List V} {ds : List PyData} (h : SqL K H a xs) (b : Dats K H ds xs) : Dat K H (.list ds) (.ref a) := by unfold Dat; exact ⟨a, xs, rfl, h, b⟩
section
variable {X : Cx} {pins : List (Addr × Obj)} {σ : St} {H : Hp} {s : Shared}
mutual
theorem Dat.reads (I : Inv X pins σ H s) : ∀ {d : PyData} {v : V} {u : Value}, Dat X.K H d v -> RelV v u -> ∃ as, Reads s.heap u d as
  | .none, v, u, h, r => by unfold Dat at h; subst h; cases r; exact ⟨_, .none⟩
  | .bool b, v, u, h, r => by unfold Dat at h; subst h; cases r; exact ⟨_, .bool b⟩
  | .int i, v, u, h, r => by unfold Dat at h; subst h; obtain ⟨t, rfl⟩ := r; exact ⟨_, .int i t⟩
  | .str x, v, u, h, r => by unfold Dat at h; subst h; obtain ⟨t, rfl⟩ := r; exact ⟨_, .str x t⟩
  | .list ds, v, u, h, r => by
    unfold Dat at h
    obtain ⟨a, xs, rfl, hl, hd⟩ := h
    cases r
    obtain ⟨its, r', pl, hz⟩ := I.list hl
    obtain ⟨as, q⟩ := Dats.reads I hd r'
    obtain ⟨o, ho, hc, n, hdt⟩ := pl.isList
    exact ⟨_, .list ho hc hdt (by simpa using q)⟩
  | .tuple ds, v, u, h, r => by
    unfold Dat at h
    obtain ⟨a, xs, rfl, hl, hd⟩ := h
    cases r
    obtain ⟨its, r', pl, hz⟩ := I.tuple hl
    obtain ⟨as, q⟩ := Dats.reads I hd r'
    obtain ⟨o, ho, hc, n, hdt⟩ := pl
    exact ⟨_, .tuple ho hc hdt (by simpa using q)⟩
  | .dict _, v, u, h, r => by unfold Dat at h; exact h.elim
theorem Dats.reads (I : Inv X pins σ H s) : ∀ {ds : List PyData} {xs : List V} {us : List Value}, Dats X.K H ds xs -> Vals xs us -> ∃ as, ReadsAll s.heap us ds as
  | [], xs, us, h, r => by unfold Dats at h; subst h; cases r; exact ⟨_, .nil⟩
  | d :: ds, xs, us, h, r => by
    unfold Dats at h
    obtain ⟨x, rs, rfl, h1, h2⟩ := h
    cases r with
    | cons ru rr =>
      obtain ⟨as, q⟩ := Dat.reads I h1 ru
      obtain ⟨bs, q2⟩ := Dats.reads I h2 rr
      exact ⟨_, .cons q q2⟩
end
end

structure EqOk (d : PyData) : Prop where
  lay : d.canLay0 = true
  deep : d.depth <= 60

section
variable {X : Cx} {k : Nat}
theorem op_eqD {cm : Bool} (hr : RoomC cm k X.A) : OpR X (compareOp .Eq) (fun x y H Q => ∃ d d', Dat X.K H d x /\ Dat X.K H d' y /\ EqOk d /\ EqOk d' /\ Q (.bl (PyData.eqv d d')) H) := by
  intro pins s σ H x y v u Q I rx ry h
  obtain ⟨d, d', h1, h2, o1, o2, q⟩ := h
  obtain ⟨as, r1⟩ := h1.reads I rx
  obtain ⟨bs, r2⟩ := h2.reads I ry
  refine SeqAt.compareEq_reads r1 r2 o1.lay o2.lay ?_ ⟨.bl _, H, I, rfl, q⟩
  have := hr.units
  have := o1.deep
  omega
theorem op_neD {cm : Bool} (hr : RoomC cm k X.A) : OpR X (compareOp .NotEq) (fun x y H Q => ∃ d d', Dat X.K H d x /\ Dat X.K H d' y /\ EqOk d /\ EqOk d' /\ Q (.bl (!PyData.eqv d d')) H) := by
  intro pins s σ H x y v u Q I rx ry h
  obtain ⟨d, d', h1, h2, o1, o2, q⟩ := h
  obtain ⟨as, r1⟩ := h1.reads I rx
  obtain ⟨bs, r2⟩ := h2.reads I ry
  refine SeqAt.compareNe_reads r1 r2 o1.lay o2.lay ?_ ⟨.bl _, H, I, rfl, q⟩
  have := hr.units
  have := o1.deep
  omega
end

theorem eqv_list (i j : List PyData) : PyData.eqv (.list i) (.list j) = PyData.eqvAll i j := by unfold PyData.eqv; rfl
section
variable {X : Cx}
end
end L2

namespace L2
open PySem PySem.Spec PyProof.Rows
structure WE (X : Cx) (e : Expr) (t : TE) : Prop where out : PE X e t
structure WT (X : Cx) (e : Expr) (t : TT) : Prop where out : PT X e t
structure WW (X : Cx) (e : Expr) (t : TT) : Prop where out : PW X e t
structure WA (X : Cx) (es : List Expr) (t : TA) : Prop where out : PA X es t
structure WS (X : Cx) (s : Stmt) (t : TS) : Prop where out : PS X s t
structure WSs (X : Cx) (s : List Stmt) (t : TS) : Prop where out : PSs X s t
structure WG (X : Cx) (e : Expr) (t : TG) : Prop where out : PG X e t
structure WGs (X : Cx) (e : List Expr) (t : TGs) : Prop where out : PGs X e t
structure WI (X : Cx) (tg e : Expr) (t : TI) : Prop where out : PI X tg e t
structure WTs (X : Cx) (e : List Expr) (t : TT) : Prop where out : PTs X e t
structure WK (X : Cx) (e : List Keyword) (t : TA) : Prop where out : PK X e t
structure WO (X : Cx) (e : Option Expr) (t : TO) : Prop where out : PO X e t
section
variable {X : Cx} {a b c e o : Expr} {es rest : List Expr} {ta tb tc te to : TE} {t u : TT} {pos pos' p apos cpos p2 : Pos} {tA : TA} {x : Str}
theorem qv (i : Nat) {x : Str} {pos : Pos} (hN : X.N[i]? = some x := by rfl) (hv : Vis X.env.scope x := by first | exact Or.inl rfl | exact Or.inr (Or.inl rfl) | exact Or.inr (Or.inr rfl)) (hd : (x == ("__debug__" : Str)) = false := by decide)
    (hcd : (x == ("__classdict__" : Str)) = false := by decide) : WE X (.Name x pos) (tVar i) := ⟨pe_var hN hv hd hcd⟩
theorem qe_int {i j pos} : WE X (.Constant (.int i) j pos) (tC (.int i)) := ⟨pe_int⟩
theorem qe_bl {b j pos} : WE X (.Constant (.bool b) j pos) (tC (.bl b)) := ⟨pe_bl⟩
theorem qe_str {x j pos} : WE X (.Constant (.str x) j pos) (tC (.str x)) := ⟨pe_str⟩
theorem qe_glob {x : Str} {v : V} {u : Value} {pos : Pos} (hg : Gl X x) (hm : X.mg x = some u) (r : RelV v u) (hd : (x == ("__debug__" : Str)) = false := by decide) : WE X (.Name x pos) (tC v) := ⟨pe_glob hg hm r hd⟩
theorem qe_bltn {x : Str} {v : V} {u : Value} {pos : Pos} (hg : Gl X x) (hm : X.mg x = none) (hv : bootBuiltins x = some u) (r : RelV v u) (hn : x ≠ "__name__" := by decide) (hd : (x == ("__debug__" : Str)) = false := by decide) : WE X (.Name x pos) (tC v) := ⟨pe_bltn hg hm hv r hn hd⟩
theorem qe_op {op : Operator} {r : R2} (ho : OpR X (binaryOp op) r) (ha : WE X a ta) (hb : WE X b tb) : WE X (.BinOp a op b pos) (tOp r ta tb) := ⟨pe_op ho ha.out hb.out⟩
theorem qe_un {op : UnaryOp} {r : V -> Hp -> VK -> Prop} (ho : UnR X (unaryOp op) r) (ha : WE X a ta) : WE X (.UnaryOp op a pos) (tUn r ta) := ⟨pe_un ho ha.out⟩
theorem qe_cmpR {op : CmpOp} {r : R2} (ho : OpR X (compareOp op) r) (ha : WE X a ta) (hb : WE X b tb) (hm : behindInMarks op b = false) : WE X (.Compare a [op] [b] pos) (tOp r ta tb) := ⟨pe_cmpR ho ha.out hb.out hm⟩
theorem qt_cmpR {op : CmpOp} {r : R2} (ho : OpR X (compareOp op) r) (ha : WE X a ta) (hb : WE X b tb) (hm : behindInMarks op b = false) : WT X (.Compare a [op] [b] pos) (tTest (tOp r ta tb)) := ⟨pt_cmpR ho ha.out hb.out hm⟩
theorem qt_val {t : TE} (h : WE X e t) (he : ∀ whole, isTrue e X.env whole = (do let v <- whole; standAt e.pos; holding [v] (truthy v)) := by intro _; rfl) : WT X e (tB t) := ⟨pt_val h.out he⟩
theorem qw_and1 (ha : WT X a t) : WW X (.BoolOp .And [a] pos) t := ⟨pw_and1 ha.out⟩
theorem qw_or1 (ha : WT X a t) : WW X (.BoolOp .Or [a] pos) t := ⟨pw_or1 ha.out⟩
theorem qw_and (ha : WT X a t) (hb : WW X (.BoolOp .And (b :: rest) pos) u) : WW X (.BoolOp .And (a :: b :: rest) pos) (tAnd t u) := ⟨pw_and ha.out hb.out⟩
theorem qw_or (ha : WT X a t) (hb : WW X (.BoolOp .Or (b :: rest) pos) u) : WW X (.BoolOp .Or (a :: b :: rest) pos) (tOr t u) := ⟨pw_or ha.out hb.out⟩
theorem WW.qt (h : WW X e t) : WT X e t := ⟨h.out.pt⟩
theorem qt_not (ha : WT X a t) : WT X (.UnaryOp .Not a pos) (tNot t) := ⟨pt_not ha.out⟩
theorem qe_one {op} {t : TE} (h : WE X a t) : WE X (.BoolOp op [a] pos) t := ⟨pe_one h.out⟩
theorem qe_and (ha : WE X a ta) (hb : WE X (.BoolOp .And (b :: rest) pos) tb) : WE X (.BoolOp .And (a :: b :: rest) pos) (tAndV ta tb) := ⟨pe_and ha.out hb.out⟩
theorem qe_not (ha : WE X a ta) : WE X (.UnaryOp .Not a pos) (tNotV ta) := ⟨pe_not ha.out⟩
theorem qa_nil : WA X [] tNil := ⟨pa_nil⟩
theorem qa_cons (ha : WE X e te) (hr : WA X es tA) (hs : starEach (e :: es) X.env = (false, eval e X.env) :: starEach es X.env := by rfl) : WA X (e :: es) (tCons te tA) := ⟨pa_cons ha.out hr.out hs⟩
theorem qe_tup {x1} (h : WA X es tA) : WE X (.Tuple es x1 pos) (tTup tA) := ⟨pe_tup h.out⟩
theorem qe_lst (h : WA X es tA) : WE X (.List es pos) (tLst tA) := ⟨pe_lst h.out⟩
theorem qe_ix {r : R2} (hr : IxR X r) (ha : WE X a ta) (hb : WE X b tb) (hs : PlainIx b) : WE X (.Subscript a b pos) (tOp r ta tb) := ⟨pe_ix hr ha.out hb.out hs⟩
theorem qo_none : WO X none tNoPart := ⟨po_none⟩
theorem qo_some (h : WE X e te) : WO X (some e) (tPart te) := ⟨po_some h.out⟩
theorem qe_slice {lo hi : Option Expr} {tl th : TO} {r : V -> Option Int -> Option Int -> Hp -> VK -> Prop} (hr : SlR X r) (he : WE X e te) (hl : WO X lo tl) (hu : WO X hi th) : WE X (.Subscript e (.Slice lo hi none p2) pos) (tSl r te tl th) := ⟨pe_slice hr he.out hl.out hu.out⟩
theorem qe_callB {id : String} {r : List V -> Hp -> VK -> Prop} (hc : CallR X (.builtin id) r) (hg : Gl X x) (hm : X.mg x = none) (hv : bootBuiltins x = some (.builtin id)) (ha : WA X (e :: es) tA) (hn : x ≠ "__name__" := by decide) (hdb : (x == ("__debug__" : Str)) = false := by decide)
    (he : starEach (e :: es) X.env = (false, eval e X.env) :: starEach es X.env := by rfl) (hpl : (backTo pos (starEach es X.env)).any (·.1) = false := by rfl) : WE X (.Call (.Name x p) (e :: es) [] pos) (tCB r tA) := ⟨pe_callB hc hg hm hv ha.out hn hdb he hpl⟩
theorem qe_callTy {T : String} {r : List V -> Hp -> VK -> Prop} (hc : CallR X (.type T) r) (hg : Gl X x) (hm : X.mg x = none) (hv : bootBuiltins x = some (.type T)) (ha : WA X (e :: es) tA) (hn : x ≠ "__name__" := by decide) (hdb : (x == ("__debug__" : Str)) = false := by decide)
    (he : starEach (e :: es) X.env = (false, eval e X.env) :: starEach es X.env := by rfl) (hpl : (backTo pos (starEach es X.env)).any (·.1) = false := by rfl) : WE X (.Call (.Name x p) (e :: es) [] pos) (tCB r tA) := ⟨pe_callTy hc hg hm hv ha.out hn hdb he hpl⟩
theorem qe_callH {CX : CXT} {j k : Nat} {ps : List Str} {sp : Sp} {E : XK} (h : Has X.prog X.w X.K X.mg X.base CX x j ps sp) (hr : Room k X.A) (ha : WA X (e :: es) tA) (hj : j <= k := by decide) (hg : Gl X x := by rfl) (hx : Passes CX X E := by exact pass0) (hdb : (x == ("__debug__" : Str)) = false := by decide)
    (he : starEach (e :: es) X.env = (false, eval e X.env) :: starEach es X.env := by rfl) (hpl : (backTo pos (starEach es X.env)).any (·.1) = false := by rfl) : WE X (.Call (.Name x p) (e :: es) [] pos) (tCall sp [] E tA) := ⟨pe_callH h hr ha.out hj hg hx hdb he hpl⟩
theorem qk_nil : WK X [] tNil := ⟨pk_nil⟩
theorem qe_fld {f : Str} (he : WE X e ta) (hb : attributeBase e f X.env (eval e X.env) = eval e X.env) : WE X (.Attribute e f pos) (tFld X.K ta f) := ⟨pe_fld he.out hb⟩
theorem qe_bm {name : Str} {T id : String} {r : V -> List V -> Hp -> VK -> Prop} (pa : PlainAttrs T) (slot : Slot T name id) (hty : typeOf (.builtin id) = pure (.type "method_descriptor")) (hm : MtR X id r) (ho : WE X o to) (ha : WA X (e :: es) tA)
    (hbase : attributeBase o name X.env (eval o X.env) = eval o X.env := by rfl)
    (hfew : ((backTo cpos (starEach (e :: es) X.env)).all (fun x => !x.1) && (backToKw cpos (keywordEach [] X.env)).all (fun x => x.1.isSome) && decide ((e :: es).length + ([] : List Keyword).length + (if ([] : List Keyword).isEmpty then 0 else 1) < 30)) = true := by rfl)
    (hline : (apos.endLine == cpos.line) = true := by rfl) (hs : starEach (e :: es) X.env = (false, eval e X.env) :: starEach es X.env := by rfl) (hplain : (backTo cpos (starEach es X.env)).any (·.1) = false := by rfl) :
    WE X (.Call (.Attribute o name apos) (e :: es) [] cpos) (tBM X.K T r to tA) := ⟨pe_bm pa slot hty hm ho.out ha.out hbase hfew hline hs hplain⟩
variable {st : Stmt} {sts : List Stmt} {ts us : TS}
theorem qss_nil : WSs X [] tNext := ⟨pss_nil⟩
theorem qss_cons (h1 : WS X st ts) (h2 : WSs X sts us) : WSs X (st :: sts) (tSeq ts us) := ⟨pss_cons h1.out h2.out⟩
theorem qss_one (h1 : WS X st ts) : WSs X [st] ts := ⟨pss_one h1.out⟩
theorem qs_never : WS X st tNever := ⟨ps_never⟩
theorem qs_expr (he : WE X e te) (hs : swapsWith e none pos.line X.env = pure false := by rfl) : WS X (.Expr e pos) (tDrop te) := ⟨ps_expr he.out hs⟩
theorem qs_ret (he : WE X e te) : WS X (.Return (some e) pos) (tRet te) := ⟨ps_ret he.out⟩
theorem qs_if {ba bb : List Stmt} (hc : WT X c t) (ha : WSs X ba ts) (hb : WSs X bb us) : WS X (.If c ba bb pos) (tIfS t ts us) := ⟨ps_if hc.out ha.out hb.out⟩
theorem qs_for {tg iter : Expr} {body : List Stmt} {wi : TI} {g : TG} (hp : PassesOwn (model X.prog X.w) X.A X.env X.xe) (hc : X.calm = true) (hi : WI X tg iter wi) (hg : WG X tg g) (hb : WSs X body ts)
    (hs : ∀ x, foldedSetIterable iter X.env x = pure x := by intro _; rfl) : WS X (.For tg iter body [] pos) (tFor wi g ts) := ⟨ps_for hp hc hi.out hg.out hb.out hs⟩
theorem qg_name {i : Nat} {x : Str} (hN : X.N.Nodup) (hi : X.N[i]? = some x) (hx : Loc X.env.scope x) (hf : X.fn x = true \/ X.env.scope.names.lookup x = some .local := by first | exact .inl rfl | exact .inr rfl | assumption) : WG X (.Name x pos) (gName i) := ⟨pg_name hN hi hx hf⟩
theorem qgs_nil : WGs X [] gNil := ⟨pgs_nil⟩
theorem qgs_cons {g : TG} {gs : TGs} (h1 : WG X e g) (h2 : WGs X es gs) (hs : (assignEach (e :: es) X.env).map (·.2) = assign e X.env :: (assignEach es X.env).map (·.2) := by rfl) : WGs X (e :: es) (gCons g gs) := ⟨pgs_cons h1.out h2.out hs⟩
theorem qg_tup {k : Nat} {gs : TGs} {n : Nat} (hc : X.calm = true) (h : WGs X es gs) (hn : (assignEach es X.env).length = n := by rfl) (hst : (assignEach es X.env).findIdx? (·.1) = none := by rfl) : WG X (.Tuple es k pos) (gTup X.K n gs) := ⟨pg_tup hc h.out hn hst⟩
theorem qg_sub {i : Expr} {ti : TE} {tS : TSet} (ho : WE X o to) (hi : WE X i ti) (hs : PSet X tS)
    (ha : ∀ v, assign (.Subscript o i pos) X.env v = (do
        let ov <- holding [v] (eval o X.env)
        let iv <- holding [v, ov] (eval i X.env)
        standAt pos
        holding [v, ov, iv] (setItem ov iv v)
        release [v, ov, iv] []) := by intro _; rfl) : WG X (.Subscript o i pos) (gSub to ti tS) := ⟨pg_sub ho.out hi.out hs ha⟩
theorem qs_asg {tg : Expr} {g : TG} (he : WE X e te) (hg : WG X tg g) (hs : swapsWithSole [tg] e pos.line X.env = pure false := by rfl) (hw : swappedStores [tg] e X.env = pure none := by rfl) (h1 : (assignEach [tg] X.env).map (·.2) = [assign tg X.env] := by rfl) : WS X (.Assign [tg] e pos) (tAsg te g) := ⟨ps_asg he.out hg.out hs hw h1⟩
theorem qs_set {i : Nat} {x : Str} (hN : X.N.Nodup) (hi : X.N[i]? = some x) (hx : Loc X.env.scope x) (he : WE X e te) (hs : swapsWith e (some (.Name x pos')) pos.line X.env = pure false := by rfl)
    (hf : X.fn x = true \/ X.env.scope.names.lookup x = some .local := by first | exact .inl rfl | exact .inr rfl | assumption) : WS X (.Assign [.Name x pos'] e pos) (tAsg te (gName i)) := ⟨ps_set hN hi hx he.out hs hf⟩
theorem qs_fld {value : Expr} {tv : TE} {f : Str} (ha : WE X o ta) (hv : WE X value tv) (hs : swapsWith value (some (.Attribute o f pos')) pos.line X.env = pure false) : WS X (.Assign [.Attribute o f pos'] value pos) (sFld X.K ta tv f) := ⟨ps_fld ha.out hv.out hs⟩
theorem qi_range1 {tg : Expr} (hg : Gl X "range") (hm : X.mg "range" = none) (ha : WA X [a] tA) (hs : starEach [a] X.env = [(false, eval a X.env)] := by rfl) : WI X tg (.Call (.Name "range" p) [a] [] pos) (iRng1 tA) := ⟨pi_range1 hg hm ha.out hs⟩
theorem qts_nil : WTs X [] tNoT := ⟨pts_nil⟩
theorem qts_one (h : WT X c t) : WTs X [c] t := ⟨pts_one h.out⟩
theorem qe_comp {tg iter elt : Expr} {ifs : List Expr} {scope : Scope} {wi : TI} {g : TG} {tc : TT} {te : TE} (own free : List Str) (fr : List Nat) (S : CompSc X scope) (hc : X.calm = true) (hfr : fr.map (fun j => X.N[j]?) = free.map some) (hff : ∀ x ∈ free, scope.names.lookup x = some .free)
    (hi : WI X tg iter wi) (hg : ∀ C s H ex, WG (compCx X (own ++ free) scope C s H ex) tg g) (ht : ∀ C s H ex, WTs (compCx X (own ++ free) scope C s H ex) ifs tc) (he : ∀ C s H ex, WE (compCx X (own ++ free) scope C s H ex) elt te)
    (hs : ∀ x, foldedSetIterable iter X.env x = pure x := by intro _; rfl) : WE X (.ListComp elt [⟨tg, iter, ifs, 0⟩] scope pos) (tComp own fr wi g tc te) :=
  ⟨pe_comp own free fr S hc hfr hff hi.out (fun C s H ex => (hg C s H ex).out) (fun C s H ex => (ht C s H ex).out) (fun C s H ex => (he C s H ex).out) hs⟩
theorem qs_setC {tg iter elt : Expr} {ifs : List Expr} {scope : Scope} {wi : TI} {g : TG} {tc : TT} {te : TE} {i : Nat} {x : Str} {spos : Pos} (own free : List Str) (fr : List Nat) (hN : X.N.Nodup) (hx : X.N[i]? = some x) (hl : X.env.scope.names.lookup x = some .local)
    (S : CompSc X scope) (hc : X.calm = true) (hfr : fr.map (fun j => X.N[j]?) = free.map some) (hff : ∀ x ∈ free, scope.names.lookup x = some .free)
    (hi : WI X tg iter wi) (hg : ∀ C s H ex, WG (compCx X (own ++ free) scope C s H ex) tg g) (ht : ∀ C s H ex, WTs (compCx X (own ++ free) scope C s H ex) ifs tc) (he : ∀ C s H ex, WE (compCx X (own ++ free) scope C s H ex) elt te)
    (hsw : swapsWith (.ListComp elt [⟨tg, iter, ifs, 0⟩] scope pos) (some (.Name x pos')) spos.line X.env = pure true := by rfl)
    (hs : ∀ x, foldedSetIterable iter X.env x = pure x := by intro _; rfl) : WS X (.Assign [.Name x pos'] (.ListComp elt [⟨tg, iter, ifs, 0⟩] scope pos) spos) (tAsg (tComp own fr wi g tc te) (gName i)) :=
  ⟨ps_setC own free fr hN hx hl S hc hfr hff hi.out (fun C s H ex => (hg C s H ex).out) (fun C s H ex => (ht C s H ex).out) (fun C s H ex => (he C s H ex).out) hsw hs⟩
end
section
variable {X : Cx} (K : PySem.W.Frag)
theorem ix_listK (h : X.K = K := by rfl) : IxR X (rIxL K) := h ▸ ix_list
theorem sl_listK (h : X.K = K := by rfl) : SlR X (rSlL K) := h ▸ sl_list
theorem op_notInK (h : X.K = K := by rfl) : OpR X (compareOp .NotIn) (rIn K true) := h ▸ op_notIn_seq
theorem call_lenK (h : X.K = K := by rfl) : CallR X (.builtin "len") (fun xs H Q => ∃ p ys, xs = [.ref p] /\ (SqL K H p ys \/ SqT K H p ys) /\ Q (.int ys.length) H) := h ▸ call_len_seq
theorem call_listK (h : X.K = K := by rfl) : CallR X (.type "list") (fun xs H Q => ∃ p ys, xs = [.ref p] /\ (SqL K H p ys \/ SqT K H p ys) /\ ∀ l, H l = none -> Q (.ref l) (upd H l (.lst ys))) := h ▸ call_list_of
theorem call_tupleK (h : X.K = K := by rfl) : CallR X (.type "tuple") (fun xs H Q => ∃ p ys, xs = [.ref p] /\ ((SqL K H p ys /\ ∀ l, H l = none -> Q (.ref l) (upd H l (.tup ys))) \/ (SqT K H p ys /\ Q (.ref p) H))) := h ▸ call_tuple_of
theorem call_isinstK (h : X.K = K := by rfl) : CallR X (.builtin "isinstance") (fun xs H Q => ∃ x c t b, xs = [x, c] /\ TyOf K H x t /\ (∀ u, RelV c u -> PySem.W.kitOne K t u = some b) /\ Q (.bl b) H) := h ▸ call_isinst
theorem op_eqK {k : Nat} {cm : Bool} (hr : RoomC cm k X.A) (h : X.K = K := by rfl) : OpR X (compareOp .Eq) (fun x y H Q => ∃ d d', Dat K H d x /\ Dat K H d' y /\ EqOk d /\ EqOk d' /\ Q (.bl (PyData.eqv d d')) H) := h ▸ op_eqD hr
theorem op_neK {k : Nat} {cm : Bool} (hr : RoomC cm k X.A) (h : X.K = K := by rfl) : OpR X (compareOp .NotEq) (fun x y H Q => ∃ d d', Dat K H d x /\ Dat K H d' y /\ EqOk d /\ EqOk d' /\ Q (.bl (!PyData.eqv d d')) H) := h ▸ op_neD hr
variable {a e o : Expr} {es : List Expr} {ta te to : TE} {tA : TA} {pos pos' apos cpos : Pos}
theorem qg_tupK {k : Nat} {gs : TGs} {n : Nat} (hc : X.calm = true) (hg : WGs X es gs) (h : X.K = K := by rfl) (hn : (assignEach es X.env).length = n := by rfl) (hst : (assignEach es X.env).findIdx? (·.1) = none := by rfl) : WG X (.Tuple es k pos) (gTup K n gs) := h ▸ qg_tup hc hg hn hst
theorem qe_fldK {f : Str} (he : WE X e ta) (h : X.K = K := by rfl) (hb : attributeBase e f X.env (eval e X.env) = eval e X.env := by rfl) : WE X (.Attribute e f pos) (tFld K ta f) := h ▸ qe_fld he hb
theorem qs_fldK {value : Expr} {tv : TE} {f : Str} (ha : WE X o ta) (hv : WE X value tv) (h : X.K = K := by rfl) (hs : swapsWith value (some (.Attribute o f pos')) pos.line X.env = pure false := by rfl) : WS X (.Assign [.Attribute o f pos'] value pos) (sFld K ta tv f) := h ▸ qs_fld ha hv hs
theorem qe_bmK {name : Str} {T id : String} {r : V -> List V -> Hp -> VK -> Prop} (pa : PlainAttrs T) (slot : Slot T name id) (hty : typeOf (.builtin id) = pure (.type "method_descriptor")) (hm : MtR X id r) (ho : WE X o to) (ha : WA X (e :: es) tA) (h : X.K = K := by rfl)
    (hbase : attributeBase o name X.env (eval o X.env) = eval o X.env := by rfl)
    (hfew : ((backTo cpos (starEach (e :: es) X.env)).all (fun x => !x.1) && (backToKw cpos (keywordEach [] X.env)).all (fun x => x.1.isSome) && decide ((e :: es).length + ([] : List Keyword).length + (if ([] : List Keyword).isEmpty then 0 else 1) < 30)) = true := by rfl)
    (hline : (apos.endLine == cpos.line) = true := by rfl) (hs : starEach (e :: es) X.env = (false, eval e X.env) :: starEach es X.env := by rfl) (hplain : (backTo cpos (starEach es X.env)).any (·.1) = false := by rfl) :
    WE X (.Call (.Attribute o name apos) (e :: es) [] cpos) (tBM K T r to tA) := h ▸ qe_bm pa slot hty hm ho ha hbase hfew hline hs hplain
end
def valInt : Value -> Option Int
  | .int i _ => some i
  | _ => none
theorem rel_valInt {u : Value} {i : Int} (h : valInt u = some i) : RelV (.int i) u := by
  cases u <;> simp [valInt] at h
  subst h; exact ⟨_, rfl⟩
def valInts : List Value -> Option (List Int)
  | [] => some []
  | v :: r => match valInt v, valInts r with
    | some i, some l => some (i :: l)
    | _, _ => none
theorem vals_valInts : ∀ {us : List Value} {ns : List Int}, valInts us = some ns -> Vals (ns.map V.int) us
  | [], ns, h => by cases h; exact .nil
  | u :: us, ns, h => by
    unfold valInts at h
    cases e1 : valInt u with
    | none => rw [e1] at h; cases h
    | some i =>
      cases e2 : valInts us with
      | none => rw [e1, e2] at h; cases h
      | some l =>
        rw [e1, e2] at h
        cases h
        exact .cons (rel_valInt e1) (vals_valInts e2)
def tupInts (o : Obj) : Option (List Int) := match o.cls, o.data with
  | .type "tuple", .seq its _ => if its.size <= 1000 then valInts its.toList else none
  | _, _ => none
theorem sqt_of {K : PySem.W.Frag} {a : Addr} {o : Obj} {ns : List Int} (l : K.lookup a = some o) (h : tupInts o = some ns) (H : Hp) : SqT K H a (ns.map V.int) := by
  unfold tupInts at h
  split at h
  . rename_i its n hc hd
    split at h
    . rename_i hz
      exact .inr ⟨o, its, n, l, hc, hd, Nat.le_trans hz (by decide), vals_valInts h⟩
    . cases h
  . cases h
section
variable {P : Program} {w : World} {K : PySem.W.Frag} {mg : Str -> Option Value} {base : Heap}
theorem Fun.okq {x qual : Str} {st : Stmt} {f : Addr} {fd : FuncData} {N ps : List Str} {k : Nat} {sp : Sp} (F : Fun K x qual st f fd) (S : FnScope N ps (defScope st)) (len : ∀ vs H Q E, sp vs H Q E -> vs.length = ps.length)
    (hbody : ∀ (cdv : Value) (A : Around) (outer : List Env) (s : Shared) (H : Hp) (vs : List V) (Q : VK) (E : XK), Room k (A.deeper (envOfC qual (defScope st) s.heap.objs.size f cdv)) -> sp vs H Q E ->
      ∃ t, WSs (cxOf CX0 P w K mg base N qual (defScope st) f cdv A outer s H E).nox (defBody st) t /\ t { nx := fun _ H' => Q .non H', rt := Q } (start N vs) H) : FnOk P w K mg base CX0 (k + 1) f fd ps sp :=
  F.ok S len fun cdv A outer s H vs Q E hr h => by
    obtain ⟨t, ht, q⟩ := hbody cdv A outer s H vs Q E hr h
    exact ⟨t, ht.out, q⟩
end
end L2

namespace L2
open PySem PySem.Spec PyProof.Rows
section
variable {X : Cx} {tg : Expr}
end
end L2

namespace L2
open PySem PySem.Spec PyProof.Rows
theorem str_ext0 {x y : Str} (h : x.cps.toList = y.cps.toList) : x = y := by
  cases x; cases y
  simp only [Str.mk.injEq]
  exact Array.toList_inj.mp h
theorem strs_vals : ∀ {ys : List Str} {us : List Value}, Vals (ys.map V.str) us -> StrsAre us ys
  | [], _, .nil => .nil
  | _ :: _, _, .cons ⟨t, rfl⟩ r => .cons _ _ (strs_vals r)
theorem glued_cons' (sep : Str) : ∀ (rest : List Str) (x : Str), (⟨rest.foldl (fun acc p => acc ++ sep.cps ++ p.cps) x.cps⟩ : Str) = Str.join sep (x :: rest)
  | [], x => rfl
  | y :: r, x => by
    have ih := glued_cons' sep r ⟨x.cps ++ sep.cps ++ y.cps⟩
    show (⟨r.foldl (fun acc p => acc ++ sep.cps ++ p.cps) (x.cps ++ sep.cps ++ y.cps)⟩ : Str) = x ++ sep ++ Str.join sep (y :: r)
    rw [ih]
    cases r with
    | nil => rfl
    | cons z r' =>
      show (⟨x.cps ++ sep.cps ++ y.cps⟩ : Str) ++ sep ++ Str.join sep (z :: r') = x ++ sep ++ (y ++ sep ++ Str.join sep (z :: r'))
      apply str_ext0
      have e : ∀ a b : Str, (a ++ b).cps.toList = a.cps.toList ++ b.cps.toList := fun a b => by
        show (a.cps ++ b.cps).toList = _
        simp
      simp only [e, Array.toList_append, List.append_assoc]
theorem glued_join (sep : Str) : ∀ parts, PySem.Builtin.Str.glued sep parts = Str.join sep parts
  | [] => rfl
  | x :: r => glued_cons' sep r x
def weightS (ys : List Str) : Nat := (ys.map (·.length)).sum + ys.length
section
variable {X : Cx} (K : PySem.W.Frag)
theorem mt_joinL (h : X.K = K := by rfl) : MtR X "str.join" (fun x xs H Q => ∃ sep p ys, x = .str sep /\ xs = [.ref p] /\ (SqL K H p (ys.map V.str) \/ SqT K H p (ys.map V.str)) /\ sep.length <= 16 /\ weightS ys <= 1048576 /\ Q (.str (Str.join sep ys)) H) := by
  subst h
  intro pins s σ H x xs v us Q I rx r h
  obtain ⟨sep, p, ys, rfl, rfl, hl, h1, h2, q⟩ := h
  obtain ⟨t, rfl⟩ := rx
  obtain ⟨u, rfl, ru⟩ := vals1 r
  cases ru
  rcases hl with hl | hl
  . obtain ⟨its, r', pl, hz⟩ := I.list hl
    refine join_listW pl.isList (by simpa using strs_vals r') h1 h2 fun t' k => ⟨.str _, H, I.tok k, ⟨t', ?_⟩, q⟩
    show Value.str (PySem.Builtin.Str.glued sep ys) t' = _
    rw [glued_join]
  . obtain ⟨its, r', pl, hz⟩ := I.tuple hl
    refine join_tupleW pl (by simpa using strs_vals r') h1 h2 fun t' k => ⟨.str _, H, I.tok k, ⟨t', ?_⟩, q⟩
    show Value.str (PySem.Builtin.Str.glued sep ys) t' = _
    rw [glued_join]
end
section
variable {X : Cx}
theorem op_mul_str : OpR X (binaryOp .Mult) (fun x y H Q => ∃ c n, x = .str ⟨#[c]⟩ /\ y = .int n /\ 0 <= n /\ n <= 1000 /\ ∀ z : Str, z.cps.toList = List.replicate n.toNat c -> Q (.str z) H) := by
  intro pins s σ H x y v u Q I rx ry h
  obtain ⟨c, n, rfl, rfl, h0, h1, q⟩ := h
  obtain ⟨t, rfl⟩ := rx
  obtain ⟨t', rfl⟩ := ry
  refine SB.mul ⟨?_, ?_, ?_⟩ fun t' k => ⟨.str _, H, I.tok k, ⟨t', rfl⟩, q _ (mul_one_list c n)⟩
  . rw [decide_eq_false (by omega), decide_eq_false (by omega)]; rfl
  . intro a _
    have e : (⟨#[c]⟩ : Str).length = 1 := rfl
    rw [e]
    have : 1 <= (2 ^ 63 - 1) / n := Int.le_ediv_of_mul_le (by omega) (by omega)
    omega
  . intro a _
    have e : (⟨#[c]⟩ : Str).length = 1 := rfl
    rw [e]
    unfold PySem.Builtin.Str.tooLong
    simp only [Nat.one_mul, decide_eq_false_iff_not]
    have : n.toNat <= 1000 := by omega
    first
      | omega
      | (intro z; have := Nat.lt_of_lt_of_le z this; revert this; decide)
end
theorem join_nil_codes : ∀ ys : List Str, (Str.join Str.empty ys).cps.toList = (ys.map fun y => y.cps.toList).flatten
  | [] => rfl
  | [y] => by simp [Str.join]
  | y :: z :: r => by
    have ih := join_nil_codes (z :: r)
    show ((y ++ Str.empty ++ Str.join Str.empty (z :: r) : Str)).cps.toList = _
    have e : ∀ a b : Str, (a ++ b).cps.toList = a.cps.toList ++ b.cps.toList := fun a b => by
      show (a.cps ++ b.cps).toList = _
      simp
    rw [e, e, ih]
    simp [Str.empty]
theorem str_ext {x y : Str} (h : x.cps.toList = y.cps.toList) : x = y := by
  cases x; cases y
  simp only [Str.mk.injEq]
  exact Array.toList_inj.mp h
end L2

namespace L2
open PySem PySem.Spec PyProof.Rows
def DrawAt (H : Hp) (a l : Addr) : Prop := ∃ (ns : List Int) (i b c : Int), H a = some (.lst [.ref l, .int i, .int b, .int c]) /\ H l = some (.lst (ns.map V.int)) /\ 0 <= i /\ 0 <= b /\ a ≠ l
def spDrawL : Sp := fun vs H Q _ => ∃ (a l : Addr) (many : Int), vs = [.ref a, .int many] /\ DrawAt H a l /\ 0 < many /\ many < 2 ^ 250 /\ ∀ v H', 0 <= v -> v < many -> DrawAt H' a l -> OnlyAt a H H' -> Q (.int v) H'
def spStartL (K : PySem.W.Frag) : Sp := fun vs H Q _ => ∃ (a : Addr) (ns : List Int), vs = [.ref a] /\ SqL K H a (ns.map V.int) /\ ∀ (r l : Addr) (H' : Hp), H r = none -> H l = none -> DrawAt H' r l -> Same H H' -> Q (.ref r) H'
theorem inV_strs (x : Str) : ∀ xs : List Str, inV (.str x) (xs.map V.str) = decide (x ∈ xs)
  | [] => by simp [inV]
  | y :: r => by
    have ih := inV_strs x r
    unfold inV at ih ⊢
    rw [List.map_cons, List.any_cons, ih]
    show ((y == x) || decide (x ∈ r)) = decide (x ∈ y :: r)
    by_cases h : y = x
    . subst h; simp
    . have h' : ¬ x = y := fun e => h e.symm
      simp [h, h']
structure Nm (x : Str) : Prop where
  l1 : 1 <= x.cps.toList.length
  l8 : x.cps.toList.length <= 8
  az : ∀ c ∈ x.cps.toList, 97 <= c /\ c <= 122
structure LR where
  a : Addr
  sa : Addr
  ea : Addr
  nm : Str
  S : List Str
  E : List Str
  w : Int
section
variable {κ : Addr -> Nat} {H H' : Hp} {s l na la : Addr} {ns ns' : List Str} {ls : List LR}
end
end L2

namespace L2
open PySem PySem.Spec PyProof.Rows
def sig (ls : List LR) : List (Str × Int) := ls.map fun r => (r.nm, r.w)
end L2

namespace L2
open PySem PySem.Spec PyProof.Rows
def stepS (σ : List Str) (v : Str) : List Str := if σ.any (· == v) = true then σ else σ ++ [v]
def manyS (ys : List Str) : Nat := (ys.foldl stepS []).length
section
variable {prog : Program} {w : World} {A : Around} {R : Result -> Shared -> Prop} {I : Addr} {fp wr : List Addr} {G : Array GenState -> Array GenState -> Prop} {n : Nat} {P : Nat -> Value -> Prop} {St : Nat -> Shared -> Prop}
end
end L2
namespace PySem
open PyProof.Rows
section
variable {prog : Program} {w : World} {A : Around} {E : Value -> Shared -> Prop} {s : Shared}
end
end PySem

namespace L2
open PySem PySem.Spec PyProof.Rows
section
variable {X : Cx} (K : PySem.W.Frag)
end
def Its (x : Str) : It := ⟨fun i _ => i < x.cps.size, fun i H v H' => H' = H /\ ∃ c, x.cps.toList[i]? = some c /\ v = .str ⟨#[c]⟩, fun i _ => x.cps.size <= i⟩
theorem turn_str {P : Program} {w : World} {K : PySem.W.Frag} {tg : Expr} (it : Addr) (x : Str) (t : Tok) : Turn P w K tg (Its x) [it] it (fun i h => h.IsStrIter it "str_ascii_iterator" x t i) where
  mem := by simp
  obj := fun i h st b hb => by
    have e : b = it := by simpa using hb
    subst e
    obtain ⟨o, e, c, d⟩ := st
    exact ⟨o, e, fun v z => by rw [d] at z; cases z⟩
  keep := fun i h h' st k => let ⟨o, ho, r⟩ := st; ⟨o, k it (by simp) o ho, r⟩
  item := by
    intro X hP hw hK hc i pins s σ H E I hf st hg
    subst hP hw hK
    obtain ⟨f0, f1, f2, f3, f4, f5⟩ := hf it (by simp)
    have W := Walks.strAscii (prog := X.prog) (w := X.w) (I.ok.hd hc) it x t
    refine W.item i s _ _ hg st fun v h' tk hv st' kk => ?_
    obtain ⟨c, u, hcu, rfl⟩ := hv
    have I1 : Inv X pins σ H { s with heap := h', toks := tk } := I.turned (fun b o hb e => kk b o (by simpa using hb) e) f0 f1 f3 f4 f5
    obtain ⟨o, e, c', d⟩ := id st'
    exact ⟨_, rfl, go_of (s := { s with heap := h', toks := tk }) e c' d (by decide) ⟨.str ⟨#[c]⟩, H, I1, ⟨u, rfl⟩, ⟨rfl, c, by rw [Array.getElem?_toList]; exact hcu, rfl⟩, st', fun b hb => (hf b hb).1⟩⟩
  done := by
    intro X hP hw hK hc i pins s σ H E I hf st hg
    subst hP hw hK
    obtain ⟨f0, f1, f2, f3, f4, f5⟩ := hf it (by simp)
    exact wpAny_pyNext_ascii_end (I.ok.hd hc) st (Array.getElem?_eq_none hg) fun h' eb => ⟨rfl, I.turned (t' := s.toks) (fun b o hb e => eb b o hb e) f0 f1 f3 f4 f5⟩
  self := fun _ _ _ _ _ st h => wpAny_pyIter_striter_ascii st h
section
variable {X : Cx} {tg : Expr}
end
section
variable {X : Cx} {CX : CXT} {k : Nat} {f C : Addr} {fd : FuncData} {ps ks : List Str} {sp : Sp} {E : XK} {x : Str} {p pos : Pos} {e : Expr} {es : List Expr} {kws : List Keyword} {t tk : TA} {g : List Value -> List Value -> List Value} {gV : List V -> List V -> List V}
theorem run_makeK {pins : List (Addr × Obj)} {σ : St} {H : Hp} {s : Shared} {Q : VK} {us ws : List Value} {vs zs : List V} (M : Mk X.K C f) (F : FnOk X.prog X.w X.K X.mg X.base CX k f fd ps sp) (hr : Room (k + 1) X.A) (hb : KBinds X.K fd ps ks g gV)
    (hx : Passes CX X E) (I : Inv X pins σ H s) (r : Vals vs us) (rz : Vals zs ws)
    (h : ∀ x dx, H x = none -> H dx = none -> dx ≠ x -> sp (gV (.ref x :: vs) zs) (upd (upd H dx (.own x)) x (.ins C dx [])) (fun v H2 => v = .non /\ Q (.ref x) H2) E) :
    wpAny (model X.prog X.w) X.A (call (.ref C) us (ks.zip ws)) (EP X pins σ Q) X.xe s := by
  have hq := h (s.heap.objs.size + 1) s.heap.objs.size (I.hok.fresh (Nat.le_succ _)) (I.hok.fresh (Nat.le_refl _)) (Nat.ne_of_lt (Nat.lt_succ_self _))
  have I2 := Inv.made (C := C) I
  have r2 : Vals (gV (V.ref (s.heap.objs.size + 1) :: vs) zs) (g (Value.ref (s.heap.objs.size + 1) :: us) ws) := hb.rel (.cons rfl r) rz
  have hl : (g (Value.ref (s.heap.objs.size + 1) :: us) ws).length = ps.length := by rw [<- r2.length]; exact F.len _ _ _ _ hq
  refine wpAny_call (make_map (f := f) I.kIn M.makes M.init (beq_iff_eq.mp M.fn) (codeAny_mono (F.run _ X.stack _ _ ⟨Value.ref (s.heap.objs.size + 1) :: us, ks.zip ws⟩ _ _ _ E (hr.make C us (ks.zip ws))
    (I2.env0.make C us (ks.zip ws)) (hb.to _ (Value.ref (s.heap.objs.size + 1) :: us) ws I2.kIn hl) r2 hq) fun r s' hq' => ?_))
  cases r with
  | error e => exact hx pins σ _ _ e s' I2 hq'
  | ok fl =>
    cases fl with
    | ret u =>
      obtain ⟨v, H', I3, rv, ev, q3⟩ := I2.after hq'
      subst ev
      exact ⟨rv, ⟨V.ref (s.heap.objs.size + 1), H', I3, rfl, q3⟩⟩
    | next => exact False.elim hq'
    | brk => exact False.elim hq'
    | cont => exact False.elim hq'
end
section
variable {X : Cx} {CX : CXT}
theorem cmpEq0 {prog : Program} {w : World} {A : Around} {E : Value -> Shared -> Prop} {s : Shared} {K : PySem.W.Frag} {x C f : Addr} {ox : Obj} {od : Option Obj} {b tb : Value} {Q : Value -> Shared -> Prop} (hu : A.units < cLine) (KI : K.In s.heap) (I : PySem.W.InstAt s.heap x ox C od)
    (hb : PySem.W.Looks (model prog w) s.heap (typeOf b) tb) (hn : PySem.W.notFirst K C tb = true)
    (hs : PySem.W.findIn K (.ref C) "__eq__" = some (some (.ref f))) (hf : PySem.W.isFn K (.ref f) = true)
    (h : wpAny (model prog w) A (call (.ref f) [.ref x, b]) (PySem.W.CmpBack Q) E s) : wpAny (model prog w) A (richCompare .Eq (.ref x) b) Q E s := by
  have one : wpAny (model prog w) A (tryCompare (.ref x) (cmpInfo .Eq).2.1 b) (fun r s' => ∃ v, r = some v /\ Q v s') E s := by
    unfold tryCompare
    refine wpAny_bind (PySem.W.ifBound_K KI I hs hf (wpAny_mono h (fun v s' hv => ?_) fun _ _ e => e))
    cases v <;> first | exact hv.elim | exact wpAny_pure ⟨_, rfl, hv⟩
  unfold richCompare
  simp only [oneThing_ref]
  refine wpAny_holding (wpAny_bind (wpAny_cRoomFor hu ?_))
  refine wpAny_bind (I.type.here (wpAny_bind (hb.here ?_)))
  split
  . rename_i q
    have e : PySem.W.subIn K tb (.ref C) = some false := by
      rcases Bool.or_eq_true_iff.mp hn with e | e
      . rw [beq_iff_eq.mp e] at q; simp at q
      . exact beq_iff_eq.mp e
    refine wpAny_bind ((PySem.W.looks_subIn KI e).here ?_)
    simp only [Bool.false_eq_true, if_false]
    refine wpAny_bind (wpAny_mono one (fun r s' z => ?_) fun _ _ e => e)
    obtain ⟨v, rfl, hq⟩ := z
    exact wpAny_pure hq
  . refine wpAny_bind (wpAny_pure ?_)
    simp only [Bool.false_eq_true, if_false]
    refine wpAny_bind (wpAny_mono one (fun r s' z => ?_) fun _ _ e => e)
    obtain ⟨v, rfl, hq⟩ := z
    exact wpAny_pure hq
structure HasEq (P : Program) (w : World) (K : PySem.W.Frag) (mg : Str -> Option Value) (base : Heap) (CX : CXT) (C : Addr) (k : Nat) (ps : List Str) (sp : Sp) : Prop where
  ex : ∃ f fd, FnOk P w K mg base CX k f fd ps sp /\ Binds K fd ps [] /\ PySem.W.findIn K (.ref C) "__eq__" = some (some (.ref f)) /\ PySem.W.isFn K (.ref f) = true
def OtherOk (K : PySem.W.Frag) (C : Addr) (H : Hp) (y : V) : Prop := (∃ b dx fs, y = .ref b /\ H b = some (.ins C dx fs)) \/ ((∃ z, y = .str z) /\ PySem.W.notFirst K C (.type "str") = true) \/ ((∃ z, y = .int z) /\ PySem.W.notFirst K C (.type "int") = true)
theorem op_eqI {C : Addr} {j k : Nat} {ps : List Str} {sp : Sp} {E : XK} (h : HasEq X.prog X.w X.K X.mg X.base CX C j ps sp) (hr : Room k X.A) (hj : j <= k := by decide) (hx : Passes CX X E := by exact pass0) :
    OpR X (compareOp .Eq) (fun x y H Q => ∃ a dx fs, x = .ref a /\ H a = some (.ins C dx fs) /\ OtherOk X.K C H y /\ sp [x, y] H Q E) := by
  obtain ⟨f, fd, F, b, hs, hf⟩ := h.ex
  intro pins s σ H x y v u Q I rx ry h
  obtain ⟨a, dx, fs, rfl, ha, ho, q⟩ := h
  cases rx
  obtain ⟨mA, O, _, _, _, _⟩ := ins_get I.hok ha
  obtain ⟨od, ia, _⟩ := O.look
  have call := run_fn (us := [.ref a, u]) (vs := [.ref a, y]) (ds := []) (dvs := []) (F.mono hj) hr b .nil hx I (.cons rfl (.cons ry .nil)) q
  have back : ∀ v s', EP X pins σ Q v s' -> PySem.W.CmpBack (EP X pins σ Q) v s' := fun v s' h => by
    cases v with
    | notImplemented =>
      obtain ⟨z, H', I', rz, _⟩ := h
      cases z with
      | non => cases rz
      | bl _ => cases rz
      | int _ => obtain ⟨_, rz⟩ := rz; cases rz
      | str _ => obtain ⟨_, rz⟩ := rz; cases rz
      | byt _ => obtain ⟨_, rz⟩ := rz; cases rz
      | flt _ => obtain ⟨_, rz⟩ := rz; cases rz
      | ref _ => cases rz
      | ty _ => cases rz
    | _ => exact h
  show wpAny _ _ (richCompare .Eq (.ref a) u) _ _ _
  have fin : ∀ tb, PySem.W.Looks (model X.prog X.w) s.heap (typeOf u) tb -> PySem.W.notFirst X.K C tb = true -> wpAny (model X.prog X.w) X.A (richCompare .Eq (.ref a) u) (EP X pins σ Q) X.xe s := fun tb h1 h2 =>
    cmpEq0 (by have := hr.units; omega) I.kIn ia h1 h2 hs hf (wpAny_mono call back fun _ _ e => e)
  rcases ho with ⟨b', dx', fs', rfl, hb'⟩ | ⟨⟨z, rfl⟩, hn⟩ | ⟨⟨z, rfl⟩, hn⟩
  . cases ry
    obtain ⟨mB, O', _⟩ := ins_get I.hok hb'
    obtain ⟨od', ib, _⟩ := O'.look
    exact fin (.ref C) ib.type (by unfold PySem.W.notFirst; simp)
  . obtain ⟨t, rfl⟩ := ry
    exact fin _ (.of_pure rfl) hn
  . obtain ⟨t, rfl⟩ := ry
    exact fin _ (.of_pure rfl) hn
end
end L2

namespace L2
open PySem PySem.Spec PyProof.Rows
inductive D where
  | non | bl (b : Bool) | int (i : Int) | str (x : Str) | ty (n : String)
  | cls (c : Str) | scr (ns : List Int) | cell (k : Nat)
  | tup (ds : List D) | lst (ds : List D)
  | dct (ks : List Key) (vs : List D) | dtt (ks : List (List Key)) (vs : List D)
  | obj (c : Str) (ns : List Str) (vs : List D)
  | exc (c : Str)
inductive Ct where
  | lst (ds : List D) | dct (ks : List Key) (vs : List D) | dtt (ks : List (List Key)) (vs : List D)
  | ins (c : Str) (ns : List Str) (vs : List D) | draw
  | fdct (o : Obj) (ks : List Key) (vs : List D) | fdtt (o : Obj) (ks : List (List Key)) (vs : List D)
def clsOf (K : PySem.W.Frag) (c : Str) : Option Addr := match PySem.W.nsIn K mainGlobals c with
  | some (some (.ref C)) => some C
  | _ => none
def ExcO (a C : Addr) (dx : Option Addr) : HO := .ext fun h => ∃ ox, h.get? a = some ox /\ ox.cls = .ref C /\ ox.dict = dx /\ PySem.W.notCls ox = true
structure Wd where
  b : Nat -> Option Addr
  F : Hp
structure Wd.le (W W' : Wd) : Prop where
  b : ∀ k a, W.b k = some a -> W'.b k = some a
  F : Same W.F W'.F
theorem Wd.le.refl (W : Wd) : W.le W := ⟨fun _ _ h => h, fun _ _ h => h⟩
theorem Wd.le.trans {W W' W'' : Wd} (a : W.le W') (b : W'.le W'') : W.le W'' := ⟨fun k x h => b.b k x (a.b k x h), fun k x h => b.F k x (a.F k x h)⟩
abbrev Mu := Nat -> Option Ct
abbrev DEnv := List (Option D)
def mset (μ : Mu) (k : Nat) (c : Ct) : Mu := fun j => if j = k then some c else μ j
def mdel (μ : Mu) (k : Nat) : Mu := fun j => if j = k then none else μ j
theorem mset_same {μ : Mu} {k : Nat} {c : Ct} : mset μ k c k = some c := if_pos rfl
theorem mset_ne {μ : Mu} {k j : Nat} {c : Ct} (h : j ≠ k) : mset μ k c j = μ j := if_neg h
theorem mset_mset {μ : Mu} {k : Nat} {c c' : Ct} : mset (mset μ k c) k c' = mset μ k c' := by funext j; unfold mset; split <;> rfl
theorem mdel_mset {μ : Mu} {k : Nat} {c : Ct} (h : μ k = none) : mdel (mset μ k c) k = μ := by
  funext j; unfold mset mdel
  by_cases e : j = k
  . subst e; rw [if_pos rfl, h]
  . show (if j = k then none else if j = k then some c else μ j) = μ j
    rw [if_neg e, if_neg e]
def MLe (μ μ' : Mu) : Prop := ∀ k c, μ k = some c -> μ' k = some c
theorem MLe.refl (μ : Mu) : MLe μ μ := fun _ _ h => h
theorem MLe.mset {μ : Mu} {k : Nat} {c : Ct} (h : μ k = none) : MLe μ (L2.mset μ k c) := fun j d e => by
  rw [mset_ne (fun z => by subst z; rw [h] at e; cases e)]; exact e
theorem same_upd {H : Hp} {p : Addr} {o : HO} (h : H p = none) : Same H (upd H p o) := fun b u q => by rw [upd_ne (ne_of_none q h)]; exact q
theorem Rd.sm {F F' : Hp} {a : Addr} {o : HO} (s : Same F F') (h : Rd F a o) : Rd F' a o := by
  rcases h with h | ⟨u, h⟩
  . exact .inl (s _ _ h)
  . exact .inr ⟨u, s _ _ h⟩
theorem SqL.sm {K : PySem.W.Frag} {F F' : Hp} {a : Addr} {xs : List V} (s : Same F F') (h : SqL K F a xs) : SqL K F' a xs := h.imp (Rd.sm s) id
theorem SqT.sm {K : PySem.W.Frag} {F F' : Hp} {a : Addr} {xs : List V} (s : Same F F') (h : SqT K F a xs) : SqT K F' a xs := h.imp (Rd.sm s) id
def colF (c : Str) : Bool := !c.cps.contains 58
def mkLab (b z : Str) : Str := ⟨b.cps ++ #[58] ++ z.cps⟩
def XAt (K : PySem.W.Frag) (W : Wd) (lab : Str) (C : Addr) (dx : Option Addr) : Prop := (clsOf K lab = some C /\ dx = none /\ colF lab = true) \/ ∃ b z d, lab = mkLab b z /\ colF b = true /\ clsOf K b = some C /\ dx = some d /\ W.F d = some (.xd [("name", .str z)])
theorem XAt.mono {K : PySem.W.Frag} {W W' : Wd} {lab : Str} {C : Addr} {dx : Option Addr} (h : W.le W') (x : XAt K W lab C dx) : XAt K W' lab C dx := x.imp id fun ⟨b, z, d, e, c, k, f, g⟩ => ⟨b, z, d, e, c, k, f, h.F _ _ g⟩
theorem colF_mk (b z : Str) : colF (mkLab b z) = false := by
  unfold colF mkLab
  simp
theorem XAt.plain {K : PySem.W.Frag} {W : Wd} {lab : Str} {C : Addr} {dx : Option Addr} (x : XAt K W lab C dx) (h : colF lab = true) : clsOf K lab = some C /\ dx = none := by
  rcases x with x | ⟨b, z, d, e, _⟩
  . exact ⟨x.1, x.2.1⟩
  . rw [e, colF_mk] at h; cases h
theorem mkLab_inj {b z b' z' : Str} (h : mkLab b z = mkLab b' z') (hb : colF b = true) (hb' : colF b' = true) : b = b' /\ z = z' := by
  have key : ∀ (l l' r r' : List Nat), l ++ 58 :: r = l' ++ 58 :: r' -> 58 ∉ l -> 58 ∉ l' -> l = l' /\ r = r' := by
    intro l
    induction l with
    | nil =>
      intro l' r r' e _ n'
      cases l' with
      | nil => exact ⟨rfl, (List.cons.inj e).2⟩
      | cons a l' => exact absurd (by rw [<- (List.cons.inj e).1]; exact List.mem_cons_self) n'
    | cons a l ih =>
      intro l' r r' e n n'
      cases l' with
      | nil => exact absurd (by rw [(List.cons.inj e).1]; exact List.mem_cons_self) n
      | cons a' l' =>
        obtain ⟨e1, e2⟩ := List.cons.inj e
        obtain ⟨q1, q2⟩ := ih l' r r' e2 (fun z => n (List.mem_cons_of_mem _ z)) (fun z => n' (List.mem_cons_of_mem _ z))
        exact ⟨by rw [e1, q1], q2⟩
  have e := congrArg (fun s : Str => s.cps.toList) h
  simp only [mkLab, Array.toList_append, List.append_assoc, List.cons_append, List.nil_append] at e
  have n1 : ∀ {c : Str}, colF c = true -> 58 ∉ c.cps.toList := fun {c} q z => by
    unfold colF at q
    rw [Array.mem_toList_iff] at z
    simp [z] at q
  obtain ⟨q1, q2⟩ := key _ _ _ _ e (n1 hb) (n1 hb')
  cases b; cases z; cases b'; cases z'
  exact ⟨congrArg Str.mk (Array.toList_inj.mp q1), congrArg Str.mk (Array.toList_inj.mp q2)⟩
mutual
def Rep (K : PySem.W.Frag) (W : Wd) : D -> V -> Prop
  | .non, v => v = .non
  | .bl b, v => v = .bl b
  | .int i, v => v = .int i
  | .str x, v => v = .str x
  | .ty n, v => v = .ty n
  | .cls c, v => ∃ C, clsOf K c = some C /\ v = .ref C
  | .scr ns, v => ∃ a, v = .ref a /\ SqL K W.F a (ns.map V.int)
  | .cell k, v => ∃ a, v = .ref a /\ W.b k = some a
  | .tup ds, v => ∃ a xs, v = .ref a /\ SqT K W.F a xs /\ Reps K W ds xs
  | .lst ds, v => ∃ a xs, v = .ref a /\ W.F a = some (.lst xs) /\ Reps K W ds xs
  | .dct ks vs, v => ∃ a xs, v = .ref a /\ W.F a = some (.dK (ks.zip xs)) /\ ks.length = xs.length /\ Reps K W vs xs
  | .dtt ks vs, v => ∃ a xs, v = .ref a /\ W.F a = some (.dT (ks.zip xs)) /\ ks.length = xs.length /\ Reps K W vs xs
  | .obj c ns vs, v => ∃ C a dx xs, clsOf K c = some C /\ v = .ref a /\ W.F a = some (.ins C dx (ns.zip xs)) /\ ns.length = xs.length /\ Reps K W vs xs
  | .exc c, v => ∃ C a dx, v = .ref a /\ W.F a = some (ExcO a C dx) /\ XAt K W c C dx
def Reps (K : PySem.W.Frag) (W : Wd) : List D -> List V -> Prop
  | [], xs => xs = []
  | d :: ds, xs => ∃ x r, xs = x :: r /\ Rep K W d x /\ Reps K W ds r
end
section
variable {K : PySem.W.Frag} {fl : Wd} {W W' : Wd}
mutual
theorem Rep.mono (h : W.le W') : ∀ {d : D} {x : V}, Rep K W d x -> Rep K W' d x
  | .non, _, r => by unfold Rep at *; exact r
  | .bl _, _, r => by unfold Rep at *; exact r
  | .int _, _, r => by unfold Rep at *; exact r
  | .str _, _, r => by unfold Rep at *; exact r
  | .ty _, _, r => by unfold Rep at *; exact r
  | .cls _, _, r => by unfold Rep at *; exact r
  | .scr _, _, r => by unfold Rep at *; obtain ⟨a, e, q⟩ := r; exact ⟨a, e, q.sm h.F⟩
  | .cell _, _, r => by unfold Rep at *; obtain ⟨a, e, q⟩ := r; exact ⟨a, e, h.b _ _ q⟩
  | .tup _, _, r => by unfold Rep at *; obtain ⟨a, xs, e, q, z⟩ := r; exact ⟨a, xs, e, q.sm h.F, Reps.mono h z⟩
  | .lst _, _, r => by unfold Rep at *; obtain ⟨a, xs, e, q, z⟩ := r; exact ⟨a, xs, e, h.F _ _ q, Reps.mono h z⟩
  | .dct _ _, _, r => by unfold Rep at *; obtain ⟨a, xs, e, q, l, z⟩ := r; exact ⟨a, xs, e, h.F _ _ q, l, Reps.mono h z⟩
  | .dtt _ _, _, r => by unfold Rep at *; obtain ⟨a, xs, e, q, l, z⟩ := r; exact ⟨a, xs, e, h.F _ _ q, l, Reps.mono h z⟩
  | .obj _ _ _, _, r => by unfold Rep at *; obtain ⟨C, a, dx, xs, hc, e, q, l, z⟩ := r; exact ⟨C, a, dx, xs, hc, e, h.F _ _ q, l, Reps.mono h z⟩
  | .exc _, _, r => by unfold Rep at *; obtain ⟨C, a, dx, e, q, x⟩ := r; exact ⟨C, a, dx, e, h.F _ _ q, x.mono h⟩
theorem Reps.mono (h : W.le W') : ∀ {ds : List D} {xs : List V}, Reps K W ds xs -> Reps K W' ds xs
  | [], _, r => by unfold Reps at *; exact r
  | _ :: _, _, r => by unfold Reps at *; obtain ⟨x, t, e, q, z⟩ := r; exact ⟨x, t, e, Rep.mono h q, Reps.mono h z⟩
end
theorem Reps.nil : Reps K W [] [] := by unfold Reps; rfl
theorem Reps.cons {d : D} {ds : List D} {x : V} {xs : List V} (a : Rep K W d x) (b : Reps K W ds xs) : Reps K W (d :: ds) (x :: xs) := by unfold Reps; exact ⟨x, xs, rfl, a, b⟩
theorem Reps.nil' {xs : List V} (h : Reps K W [] xs) : xs = [] := by unfold Reps at h; exact h
theorem Reps.uncons {d : D} {ds : List D} {xs : List V} (h : Reps K W (d :: ds) xs) : ∃ x r, xs = x :: r /\ Rep K W d x /\ Reps K W ds r := by unfold Reps at h; exact h
theorem Reps.length : ∀ {ds : List D} {xs : List V}, Reps K W ds xs -> xs.length = ds.length
  | [], _, h => by rw [h.nil']; rfl
  | _ :: _, _, h => by obtain ⟨x, r, rfl, _, q⟩ := h.uncons; rw [List.length_cons, List.length_cons, q.length]
theorem Reps.get : ∀ {ds : List D} {xs : List V} {i : Nat} {d : D}, Reps K W ds xs -> ds[i]? = some d -> ∃ x, xs[i]? = some x /\ Rep K W d x
  | [], _, _, _, _, e => by simp at e
  | _ :: _, _, 0, _, h, e => by obtain ⟨x, r, rfl, q, _⟩ := h.uncons; simp at e; subst e; exact ⟨x, rfl, q⟩
  | _ :: _, _, i + 1, d, h, e => by obtain ⟨x, r, rfl, _, q⟩ := h.uncons; simpa using q.get (i := i) (d := d) (by simpa using e)
theorem Reps.append : ∀ {ds es : List D} {xs ys : List V}, Reps K W ds xs -> Reps K W es ys -> Reps K W (ds ++ es) (xs ++ ys)
  | [], _, _, _, h, g => by rw [h.nil']; exact g
  | _ :: _, _, _, _, h, g => by obtain ⟨x, r, rfl, q, z⟩ := h.uncons; exact .cons q (z.append g)
theorem Reps.take : ∀ {ds : List D} {xs : List V} (n : Nat), Reps K W ds xs -> Reps K W (ds.take n) (xs.take n)
  | _, _, 0, _ => by simp [Reps.nil]
  | [], _, _ + 1, h => by rw [h.nil']; exact .nil
  | _ :: _, _, n + 1, h => by obtain ⟨x, r, rfl, q, z⟩ := h.uncons; exact .cons q (z.take n)
theorem Reps.drop : ∀ {ds : List D} {xs : List V} (n : Nat), Reps K W ds xs -> Reps K W (ds.drop n) (xs.drop n)
  | _, _, 0, h => h
  | [], _, _ + 1, h => by rw [h.nil']; exact .nil
  | _ :: _, _, n + 1, h => by obtain ⟨x, r, rfl, q, z⟩ := h.uncons; exact z.drop n
theorem Reps.ints : ∀ {ns : List Int} {xs : List V}, Reps K W (ns.map D.int) xs -> xs = ns.map V.int
  | [], _, h => h.nil'
  | _ :: _, _, h => by obtain ⟨x, r, rfl, q, z⟩ := h.uncons; unfold Rep at q; rw [q, z.ints]; rfl
theorem Reps.strs : ∀ {ns : List Str} {xs : List V}, Reps K W (ns.map D.str) xs -> xs = ns.map V.str
  | [], _, h => h.nil'
  | _ :: _, _, h => by obtain ⟨x, r, rfl, q, z⟩ := h.uncons; unfold Rep at q; rw [q, z.strs]; rfl
theorem Rep.i {i : Int} : Rep K W (.int i) (.int i) := by unfold Rep; rfl
theorem Rep.s {x : Str} : Rep K W (.str x) (.str x) := by unfold Rep; rfl
theorem Rep.b {x : Bool} : Rep K W (.bl x) (.bl x) := by unfold Rep; rfl
theorem Rep.n : Rep K W .non .non := by unfold Rep; rfl
theorem Rep.g {c : Str} {C : Addr} (h : clsOf K c = some C) : Rep K W (.cls c) (.ref C) := by unfold Rep; exact ⟨C, h, rfl⟩
theorem Rep.t {x : String} : Rep K W (.ty x) (.ty x) := by unfold Rep; rfl
theorem Rep.i' {i : Int} {x : V} (h : Rep K W (.int i) x) : x = .int i := by unfold Rep at h; exact h
theorem Rep.s' {i : Str} {x : V} (h : Rep K W (.str i) x) : x = .str i := by unfold Rep at h; exact h
theorem Rep.b' {i : Bool} {x : V} (h : Rep K W (.bl i) x) : x = .bl i := by unfold Rep at h; exact h
theorem Rep.n' {x : V} (h : Rep K W .non x) : x = .non := by unfold Rep at h; exact h
theorem Rep.cell' {k : Nat} {x : V} (h : Rep K W (.cell k) x) : ∃ a, x = .ref a /\ W.b k = some a := by unfold Rep at h; exact h
theorem Rep.lst' {ds : List D} {x : V} (h : Rep K W (.lst ds) x) : ∃ a xs, x = .ref a /\ W.F a = some (.lst xs) /\ Reps K W ds xs := by unfold Rep at h; exact h
theorem Rep.tup' {ds : List D} {x : V} (h : Rep K W (.tup ds) x) : ∃ a xs, x = .ref a /\ SqT K W.F a xs /\ Reps K W ds xs := by unfold Rep at h; exact h
theorem Rep.lst {ds : List D} {a : Addr} {xs : List V} (h : W.F a = some (.lst xs)) (r : Reps K W ds xs) : Rep K W (.lst ds) (.ref a) := by unfold Rep; exact ⟨a, xs, rfl, h, r⟩
theorem Rep.tup {ds : List D} {a : Addr} {xs : List V} (h : SqT K W.F a xs) (r : Reps K W ds xs) : Rep K W (.tup ds) (.ref a) := by unfold Rep; exact ⟨a, xs, rfl, h, r⟩
end
def Ctn (K : PySem.W.Frag) (W : Wd) (c : Ct) (o : Option HO) : Prop := match c with
  | .lst ds => ∃ xs, o = some (.lst xs) /\ Reps K W ds xs
  | .dct ks vs => ∃ xs, o = some (.dK (ks.zip xs)) /\ ks.length = xs.length /\ Reps K W vs xs
  | .dtt ks vs => ∃ xs, o = some (.dT (ks.zip xs)) /\ ks.length = xs.length /\ Reps K W vs xs
  | .fdct ob ks vs => ∃ xs, o = some (.frz ob (.dK (ks.zip xs))) /\ ks.length = xs.length /\ Reps K W vs xs
  | .fdtt ob ks vs => ∃ xs, o = some (.frz ob (.dT (ks.zip xs))) /\ ks.length = xs.length /\ Reps K W vs xs
  | .ins c ns vs => ∃ C dx xs, clsOf K c = some C /\ o = some (.ins C dx (ns.zip xs)) /\ ns.length = xs.length /\ Reps K W vs xs
  | .draw => ∃ (l : Addr) (ns : List Int) (i b c : Int), o = some (.lst [.ref l, .int i, .int b, .int c]) /\ W.F l = some (.lst (ns.map V.int)) /\ 0 <= i /\ 0 <= b
theorem Ctn.mono {K : PySem.W.Frag} {W W' : Wd} {c : Ct} {o : Option HO} (h : W.le W') (r : Ctn K W c o) : Ctn K W' c o := by
  cases c with
  | lst ds => obtain ⟨xs, e, q⟩ := r; exact ⟨xs, e, q.mono h⟩
  | dct ks vs => obtain ⟨xs, e, l, q⟩ := r; exact ⟨xs, e, l, q.mono h⟩
  | dtt ks vs => obtain ⟨xs, e, l, q⟩ := r; exact ⟨xs, e, l, q.mono h⟩
  | fdct ob ks vs => obtain ⟨xs, e, l, q⟩ := r; exact ⟨xs, e, l, q.mono h⟩
  | fdtt ob ks vs => obtain ⟨xs, e, l, q⟩ := r; exact ⟨xs, e, l, q.mono h⟩
  | ins C ns vs => obtain ⟨C', dx, xs, hc, e, l, q⟩ := r; exact ⟨C', dx, xs, hc, e, l, q.mono h⟩
  | draw => obtain ⟨l, ns, i, b, c, e, q, z⟩ := r; exact ⟨l, ns, i, b, c, e, h.F _ _ q, z⟩
theorem Ctn.some {K : PySem.W.Frag} {W : Wd} {c : Ct} {o : Option HO} (r : Ctn K W c o) : ∃ u, o = some u := by
  cases c with
  | lst ds => obtain ⟨xs, e, q⟩ := r; exact ⟨_, e⟩
  | dct ks vs => obtain ⟨xs, e, l, q⟩ := r; exact ⟨_, e⟩
  | dtt ks vs => obtain ⟨xs, e, l, q⟩ := r; exact ⟨_, e⟩
  | fdct ob ks vs => obtain ⟨xs, e, l, q⟩ := r; exact ⟨_, e⟩
  | fdtt ob ks vs => obtain ⟨xs, e, l, q⟩ := r; exact ⟨_, e⟩
  | ins C ns vs => obtain ⟨C', dx, xs, hc, e, l, q⟩ := r; exact ⟨_, e⟩
  | draw => obtain ⟨l, ns, i, b, c, e, q, z⟩ := r; exact ⟨_, e⟩
structure Rel (K : PySem.W.Frag) (fl : Wd) (W : Wd) (μ : Mu) (H : Hp) : Prop where
  sub : Same W.F H
  fin : ∃ n, ∀ k, n <= k -> W.b k = none
  cel : ∀ k c, μ k = some c -> ∃ a, W.b k = some a /\ W.F a = none /\ Ctn K W c (H a)
  inj : ∀ k k' c c' a, μ k = some c -> μ k' = some c' -> W.b k = some a -> W.b k' = some a -> k = k'
  up : fl.le W
def EnvR (K : PySem.W.Frag) (W : Wd) (ρ : DEnv) (σ : St) : Prop := ρ.length = σ.length /\ ∀ (i : Nat) d, ρ[i]? = some (some d) -> ∃ x, σ[i]? = some (some x) /\ Rep K W d x
section
variable {K : PySem.W.Frag} {fl : Wd} {W W' : Wd} {μ μ' : Mu} {H : Hp} {ρ : DEnv} {σ : St}
theorem Rel.floor {fl' : Wd} (r : Rel K fl W μ H) (h : fl'.le W) : Rel K fl' W μ H := ⟨r.sub, r.fin, r.cel, r.inj, h⟩
theorem EnvR.mono (h : W.le W') (r : EnvR K W ρ σ) : EnvR K W' ρ σ := ⟨r.1, fun i d e => by obtain ⟨x, e', q⟩ := r.2 i d e; exact ⟨x, e', q.mono h⟩⟩
theorem EnvR.set {i : Nat} {d : D} {x : V} (r : EnvR K W ρ σ) (q : Rep K W d x) : EnvR K W (ρ.set i (some d)) (σ.set i (some x)) := ⟨by simp [r.1], fun j d' e => by
  by_cases hj : i = j
  . subst hj
    by_cases hl : i < ρ.length
    . rw [List.getElem?_set_self hl] at e
      cases e
      exact ⟨x, List.getElem?_set_self (r.1 ▸ hl), q⟩
    . rw [List.getElem?_eq_none (by simp; omega)] at e; cases e
  . rw [List.getElem?_set_ne hj] at e
    rw [List.getElem?_set_ne hj]
    exact r.2 j d' e⟩
theorem Rel.less (r : Rel K fl W μ' H) (h : MLe μ μ') : Rel K fl W μ H := ⟨r.sub, r.fin, fun k c e => r.cel k c (h k c e), fun k k' c c' a e e' => r.inj k k' c c' a (h _ _ e) (h _ _ e'), r.up⟩
theorem Rel.newF {p : Addr} {o : HO} (r : Rel K fl W μ H) (hp : H p = none) : Rel K fl ⟨W.b, upd W.F p o⟩ μ (upd H p o) /\ W.le ⟨W.b, upd W.F p o⟩ := by
  have hF : W.F p = none := by
    cases e : W.F p with
    | none => rfl
    | some u => rw [r.sub _ _ e] at hp; cases hp
  have le : W.le ⟨W.b, upd W.F p o⟩ := ⟨fun _ _ h => h, same_upd hF⟩
  refine ⟨⟨fun b u e => ?_, r.fin, fun k c e => ?_, r.inj, r.up.trans le⟩, le⟩
  . by_cases hb : b = p
    . subst hb; have e' : (upd W.F b o) b = some u := e; rw [upd_same] at e' ⊢; exact e'
    . have e' : (upd W.F p o) b = some u := e
      rw [upd_ne hb] at e' ⊢; exact r.sub _ _ e'
  . obtain ⟨a, e1, e2, q⟩ := r.cel k c e
    obtain ⟨u, eu⟩ := q.some
    have ha : a ≠ p := ne_of_none eu hp
    exact ⟨a, e1, by show upd W.F p o a = none; rw [upd_ne ha]; exact e2, by rw [upd_ne ha]; exact q.mono le⟩
theorem Rel.newC {p : Addr} {o : HO} {c : Ct} (r : Rel K fl W μ H) (hp : H p = none) (hc : Ctn K W c (some o)) : ∃ (k : Nat) (W' : Wd), μ k = none /\ W.le W' /\ Rel K fl W' (mset μ k c) (upd H p o) /\ W'.b k = some p := by
  obtain ⟨n, hn⟩ := r.fin
  have hF : W.F p = none := by
    cases e : W.F p with
    | none => rfl
    | some u => rw [r.sub _ _ e] at hp; cases hp
  have hk : μ n = none := by
    cases e : μ n with
    | none => rfl
    | some c => obtain ⟨a, e1, _⟩ := r.cel n c e; rw [hn n (Nat.le_refl _)] at e1; cases e1
  have le : W.le ⟨fun j => if j = n then some p else W.b j, W.F⟩ := ⟨fun k a e => by
    show (if k = n then some p else W.b k) = some a
    rw [if_neg (fun z => by rw [z, hn n (Nat.le_refl _)] at e; cases e)]; exact e, fun _ _ h => h⟩
  refine ⟨n, ⟨fun j => if j = n then some p else W.b j, W.F⟩, hk, le, ⟨fun b u e => ?_, ⟨n + 1, fun k hk => ?_⟩, fun k c' e => ?_, fun k k' c1 c2 a e e' q q' => ?_, r.up.trans le⟩, if_pos rfl⟩
  . have : b ≠ p := fun z => by
      have e' : W.F b = some u := e
      rw [z, hF] at e'; cases e'
    rw [upd_ne this]; exact r.sub _ _ e
  . show (if k = n then some p else W.b k) = none
    rw [if_neg (by omega)]; exact hn k (by omega)
  . by_cases ek : k = n
    . subst ek
      rw [mset_same] at e; cases e
      exact ⟨p, if_pos rfl, hF, by rw [upd_same]; exact hc.mono le⟩
    . rw [mset_ne ek] at e
      obtain ⟨a, e1, e2, q⟩ := r.cel k c' e
      obtain ⟨u, eu⟩ := q.some
      have ha : a ≠ p := ne_of_none eu hp
      exact ⟨a, by show (if k = n then some p else W.b k) = some a; rw [if_neg ek]; exact e1, e2, by rw [upd_ne ha]; exact q.mono le⟩
  . have key : ∀ k c, mset μ n c k = some c -> True := fun _ _ _ => trivial
    have at' : ∀ {j : Nat} {cj : Ct}, mset μ n c j = some cj -> j ≠ n -> (∃ a', W.b j = some a' /\ a' ≠ p) := fun {j cj} ej hj => by
      rw [mset_ne hj] at ej
      obtain ⟨a', e1, e2, q⟩ := r.cel j cj ej
      obtain ⟨u, eu⟩ := q.some
      exact ⟨a', e1, ne_of_none eu hp⟩
    have q1 : (if k = n then some p else W.b k) = some a := q
    have q2 : (if k' = n then some p else W.b k') = some a := q'
    by_cases ek : k = n
    . by_cases ek' : k' = n
      . rw [ek, ek']
      . rw [if_pos ek] at q1; rw [if_neg ek'] at q2
        obtain ⟨a', f1, f2⟩ := at' e' ek'
        rw [f1] at q2; cases q1; cases q2; exact absurd rfl f2
    . by_cases ek' : k' = n
      . rw [if_neg ek] at q1; rw [if_pos ek'] at q2
        obtain ⟨a', f1, f2⟩ := at' e ek
        rw [f1] at q1; cases q2; cases q1; exact absurd rfl f2
      . rw [if_neg ek] at q1; rw [if_neg ek'] at q2
        rw [mset_ne ek] at e; rw [mset_ne ek'] at e'
        exact r.inj k k' _ _ a e e' q1 q2
theorem Rel.setC {k : Nat} {a : Addr} {c c' : Ct} {o : HO} (r : Rel K fl W μ H) (hk : μ k = some c) (ha : W.b k = some a) (hc : Ctn K W c' (some o)) : Rel K fl W (mset μ k c') (upd H a o) := by
  obtain ⟨a', e1, e2, _⟩ := r.cel k c hk
  rw [ha] at e1; cases e1
  refine ⟨fun b u e => ?_, r.fin, fun j d e => ?_, fun j j' d d' x e e' => ?_, r.up⟩
  . rw [upd_ne (fun z => by rw [z, e2] at e; cases e)]; exact r.sub _ _ e
  . by_cases ek : j = k
    . subst ek; rw [mset_same] at e; cases e
      exact ⟨a, ha, e2, by rw [upd_same]; exact hc⟩
    . rw [mset_ne ek] at e
      obtain ⟨x, f1, f2, q⟩ := r.cel j d e
      have hx : x ≠ a := fun z => ek (r.inj j k _ _ a e hk (z ▸ f1) ha)
      exact ⟨x, f1, f2, by rw [upd_ne hx]; exact q⟩
  . have g : ∀ {j d}, mset μ k c' j = some d -> ∃ d, μ j = some d := fun {j d} e => by
      by_cases ek : j = k
      . subst ek; exact ⟨_, hk⟩
      . rw [mset_ne ek] at e; exact ⟨_, e⟩
    obtain ⟨d1, f1⟩ := g e
    obtain ⟨d2, f2⟩ := g e'
    exact r.inj j j' _ _ x f1 f2
theorem Rel.freeze {k : Nat} {a : Addr} {c : Ct} {o : HO} (r : Rel K fl W μ H) (hk : μ k = some c) (ha : W.b k = some a) (ho : H a = some o) : Rel K fl ⟨W.b, upd W.F a o⟩ (mdel μ k) H /\ W.le ⟨W.b, upd W.F a o⟩ := by
  obtain ⟨a', e1, e2, _⟩ := r.cel k c hk
  rw [ha] at e1; cases e1
  have le : W.le ⟨W.b, upd W.F a o⟩ := ⟨fun _ _ h => h, same_upd e2⟩
  have g : ∀ {j d}, mdel μ k j = some d -> j ≠ k /\ μ j = some d := fun {j d} e => by
    unfold mdel at e
    by_cases ek : j = k
    . rw [if_pos ek] at e; cases e
    . rw [if_neg ek] at e; exact ⟨ek, e⟩
  refine ⟨⟨fun b u e => ?_, r.fin, fun j d e => ?_, fun j j' d d' x e e' => r.inj j j' _ _ x (g e).2 (g e').2, r.up.trans le⟩, le⟩
  . by_cases hb : b = a
    . subst hb; have e' : (upd W.F b o) b = some u := e; rw [upd_same] at e'; cases e'; exact ho
    . have e' : (upd W.F a o) b = some u := e
      rw [upd_ne hb] at e'; exact r.sub _ _ e'
  . obtain ⟨hj, ej⟩ := g e
    obtain ⟨x, f1, f2, q⟩ := r.cel j d ej
    have hx : x ≠ a := fun z => hj (r.inj j k _ _ a ej hk (z ▸ f1) ha)
    exact ⟨x, f1, by show upd W.F a o x = none; rw [upd_ne hx]; exact f2, q.mono le⟩
end
end L2

namespace L2
open PySem PySem.Spec PyProof.Rows
abbrev DK := D -> Mu -> Prop
abbrev DE := DEnv -> Mu -> DK -> Prop
abbrev DT := DEnv -> Mu -> (Bool -> Mu -> Prop) -> Prop
abbrev DA := DEnv -> Mu -> (List D -> Mu -> Prop) -> Prop
structure DEnds where
  nx : DEnv -> Mu -> Prop
  rt : DK
  bk : DEnv -> Mu -> Prop := fun _ _ => False
  ct : DEnv -> Mu -> Prop := fun _ _ => False
abbrev DS := DEnds -> DEnv -> Mu -> Prop
abbrev DG := D -> DEnv -> Mu -> (DEnv -> Mu -> Prop) -> Prop
abbrev DGs := List D -> DEnv -> Mu -> (DEnv -> Mu -> Prop) -> Prop
abbrev DR2 := D -> D -> Mu -> DK -> Prop
abbrev DR1 := D -> Mu -> DK -> Prop
abbrev DRs := List D -> Mu -> DK -> Prop
abbrev DO := DEnv -> Mu -> (Option Int -> Mu -> Prop) -> Prop
abbrev DI := DEnv -> Mu -> (List D -> (Mu -> Prop) -> Mu -> Prop) -> Prop
abbrev DSp := List D -> Mu -> DK -> Prop

section
variable (K : PySem.W.Frag) (fl : Wd)
abbrev KV' (W : Wd) (Q : DK) (Q' : VK) : Prop := ∀ W' d μ' x H', W.le W' -> Rel K fl W' μ' H' -> Rep K W' d x -> Q d μ' -> Q' x H'
class SimE (t : TE) (w : DE) : Prop where
  run : ∀ {W ρ μ σ H Q Q'}, Rel K fl W μ H -> EnvR K W ρ σ -> w ρ μ Q -> KV' K fl W Q Q' -> t σ H Q'
class SimT (t : TT) (w : DT) : Prop where
  run : ∀ {W ρ μ σ H} {Q : Bool -> Mu -> Prop} {Q' : Bool -> Hp -> Prop}, Rel K fl W μ H -> EnvR K W ρ σ -> w ρ μ Q -> (∀ W' b μ' H', W.le W' -> Rel K fl W' μ' H' -> Q b μ' -> Q' b H') -> t σ H Q'
class SimA (t : TA) (w : DA) : Prop where
  run : ∀ {W ρ μ σ H} {Q : List D -> Mu -> Prop} {Q' : List V -> Hp -> Prop}, Rel K fl W μ H -> EnvR K W ρ σ -> w ρ μ Q -> (∀ W' ds μ' xs H', W.le W' -> Rel K fl W' μ' H' -> Reps K W' ds xs -> Q ds μ' -> Q' xs H') -> t σ H Q'
structure EndsR (W : Wd) (D' : DEnds) (D : Ends) : Prop where
  nx : ∀ W' ρ μ σ H, W.le W' -> Rel K fl W' μ H -> EnvR K W' ρ σ -> D'.nx ρ μ -> D.nx σ H
  bk : ∀ W' ρ μ σ H, W.le W' -> Rel K fl W' μ H -> EnvR K W' ρ σ -> D'.bk ρ μ -> D.bk σ H
  ct : ∀ W' ρ μ σ H, W.le W' -> Rel K fl W' μ H -> EnvR K W' ρ σ -> D'.ct ρ μ -> D.ct σ H
  rt : ∀ W' d μ x H, W.le W' -> Rel K fl W' μ H -> Rep K W' d x -> D'.rt d μ -> D.rt x H
class SimS (t : TS) (w : DS) : Prop where
  run : ∀ {W ρ μ σ H D' D}, Rel K fl W μ H -> EnvR K W ρ σ -> w D' ρ μ -> EndsR K fl W D' D -> t D σ H
class SimG (g : TG) (dg : DG) (S : outParam (List Nat)) : Prop where
  run : ∀ {W ρ μ σ H d x} {Q : DEnv -> Mu -> Prop} {Q' : St -> Hp -> Prop}, Rel K fl W μ H -> EnvR K W ρ σ -> Rep K W d x -> dg d ρ μ Q ->
    (∀ W' ρ' μ' σ' H', W.le W' -> Rel K fl W' μ' H' -> EnvR K W' ρ' σ' -> σ'.length = σ.length -> (∀ i, i ∉ S -> σ'[i]? = σ[i]?) -> Q ρ' μ' -> Q' σ' H') -> g x σ H Q'
class SimGs (g : TGs) (dg : DGs) (S : outParam (List Nat)) : Prop where
  run : ∀ {W ρ μ σ H ds xs} {Q : DEnv -> Mu -> Prop} {Q' : St -> Hp -> Prop}, Rel K fl W μ H -> EnvR K W ρ σ -> Reps K W ds xs -> dg ds ρ μ Q ->
    (∀ W' ρ' μ' σ' H', W.le W' -> Rel K fl W' μ' H' -> EnvR K W' ρ' σ' -> σ'.length = σ.length -> (∀ i, i ∉ S -> σ'[i]? = σ[i]?) -> Q ρ' μ' -> Q' σ' H') -> g xs σ H Q'
class SimR2 (r : R2) (q : DR2) : Prop where
  run : ∀ {W μ H d e x y Q Q'}, Rel K fl W μ H -> Rep K W d x -> Rep K W e y -> q d e μ Q -> KV' K fl W Q Q' -> r x y H Q'
class SimR1 (r : V -> Hp -> VK -> Prop) (q : DR1) : Prop where
  run : ∀ {W μ H d x Q Q'}, Rel K fl W μ H -> Rep K W d x -> q d μ Q -> KV' K fl W Q Q' -> r x H Q'
class SimRs (r : List V -> Hp -> VK -> Prop) (q : DRs) : Prop where
  run : ∀ {W μ H ds xs Q Q'}, Rel K fl W μ H -> Reps K W ds xs -> q ds μ Q -> KV' K fl W Q Q' -> r xs H Q'
class SimO (t : TO) (w : DO) : Prop where
  run : ∀ {W ρ μ σ H} {Q : Option Int -> Mu -> Prop} {Q' : Option Int -> Hp -> Prop}, Rel K fl W μ H -> EnvR K W ρ σ -> w ρ μ Q -> (∀ W' b μ' H', W.le W' -> Rel K fl W' μ' H' -> Q b μ' -> Q' b H') -> t σ H Q'
def ItR (W : Wd) (J : It) (ds : List D) (Pm : Mu -> Prop) : Prop := ∀ W1 μ H, W.le W1 -> Rel K fl W1 μ H -> Pm μ -> ∀ i : Nat, (∀ d, ds[i]? = some d -> J.go i H /\ ∀ x H', J.yld i H x H' -> ∃ W2, W1.le W2 /\ Rel K fl W2 μ H' /\ Rep K W2 d x) /\ (ds.length <= i -> J.stop i H)
class SimI (t : TI) (w : DI) : Prop where
  run : ∀ {W ρ μ σ H} {Q : List D -> (Mu -> Prop) -> Mu -> Prop} {Q' : It -> Hp -> Prop}, Rel K fl W μ H -> EnvR K W ρ σ -> w ρ μ Q -> (∀ W' J ds Pm μ' H', W.le W' -> Rel K fl W' μ' H' -> ItR K fl W' J ds Pm -> Q ds Pm μ' -> Q' J H') -> t σ H Q'
end
def dVar (i : Nat) : DE := fun ρ μ Q => match ρ[i]? with
  | some (some d) => Q d μ
  | _ => False
def dC (d : D) : DE := fun _ μ Q => Q d μ
section
variable {K : PySem.W.Frag} {fl : Wd}
instance {i : Nat} : SimE K fl (tVar i) (dVar i) := ⟨fun {W ρ μ σ H Q Q'} r e h k => by
  unfold dVar at h
  split at h
  . rename_i d hd
    obtain ⟨x, ex, q⟩ := e.2 i d hd
    exact ⟨x, ex, k W d μ x H (.refl W) r q h⟩
  . exact h.elim⟩
instance {i : Int} : SimE K fl (tC (.int i)) (dC (.int i)) := ⟨fun {W ρ μ σ H Q Q'} r e h k => k W _ μ _ H (.refl W) r .i h⟩
instance {i : Str} : SimE K fl (tC (.str i)) (dC (.str i)) := ⟨fun {W ρ μ σ H Q Q'} r e h k => k W _ μ _ H (.refl W) r .s h⟩
instance {i : Bool} : SimE K fl (tC (.bl i)) (dC (.bl i)) := ⟨fun {W ρ μ σ H Q Q'} r e h k => k W _ μ _ H (.refl W) r .b h⟩
instance {i : String} : SimE K fl (tC (.ty i)) (dC (.ty i)) := ⟨fun {W ρ μ σ H Q Q'} r e h k => k W _ μ _ H (.refl W) r .t h⟩
class IsCls (K : PySem.W.Frag) (c : Str) (C : Addr) : Prop where
  at_ : clsOf K c = some C
  cf : colF c = true := by decide +kernel
instance {c : Str} {C : Addr} [i : IsCls K c C] : SimE K fl (tC (.ref C)) (dC (.cls c)) := ⟨fun {W ρ μ σ H Q Q'} r e h k => k W _ μ _ H (.refl W) r (.g i.at_) h⟩
end
def dOp (q : DR2) (wa wb : DE) : DE := fun ρ μ Q => wa ρ μ fun d μ1 => wb ρ μ1 fun e μ2 => q d e μ2 Q
def dUn (q : DR1) (wa : DE) : DE := fun ρ μ Q => wa ρ μ fun d μ1 => q d μ1 Q
def dTest (w : DE) : DT := fun ρ μ Q => w ρ μ fun d μ1 => match d with
  | .bl b => Q b μ1
  | _ => False
def dAnd (t u : DT) : DT := fun ρ μ Q => t ρ μ fun c μ1 => if c = true then u ρ μ1 Q else Q false μ1
def dOr (t u : DT) : DT := fun ρ μ Q => t ρ μ fun c μ1 => if c = true then Q true μ1 else u ρ μ1 Q
def dNot (t : DT) : DT := fun ρ μ Q => t ρ μ fun c μ1 => Q (!c) μ1
def dAndV (ta tb : DE) : DE := fun ρ μ Q => dTest ta ρ μ fun c μ1 => if c = true then tb ρ μ1 Q else Q (.bl false) μ1
def dOrV (ta tb : DE) : DE := fun ρ μ Q => dTest ta ρ μ fun c μ1 => if c = true then Q (.bl true) μ1 else tb ρ μ1 Q
def dNotV (ta : DE) : DE := fun ρ μ Q => dTest ta ρ μ fun c μ1 => Q (.bl (!c)) μ1
def dIf (t : DT) (ta tb : DE) : DE := fun ρ μ Q => t ρ μ fun c μ1 => if c = true then ta ρ μ1 Q else tb ρ μ1 Q
def dChain (q q' : DR2) (wa wb wc : DE) : DE := fun ρ μ Q => wa ρ μ fun d μ1 => wb ρ μ1 fun e μ2 => q d e μ2 fun z μ3 => match z with
  | .bl k => if k = true then wc ρ μ3 fun f μ4 => q' e f μ4 Q else Q (.bl false) μ3
  | _ => False
section
variable {K : PySem.W.Frag} {fl : Wd} {r r' : R2} {q q' : DR2} {ta tb tc : TE} {wa wb wc : DE} {t u : TT} {v w : DT}
instance [a : SimE K fl ta wa] [b : SimE K fl tb wb] [o : SimR2 K fl r q] : SimE K fl (tOp r ta tb) (dOp q wa wb) := ⟨fun r e h k =>
  a.run r e h fun W1 d μ1 x H1 le1 r1 q1 h1 => b.run r1 (e.mono le1) h1 fun W2 d' μ2 y H2 le2 r2 q2 h2 => o.run r2 (q1.mono le2) q2 h2 fun W3 d3 μ3 z H3 le3 r3 q3 h3 => k W3 d3 μ3 z H3 (le1.trans (le2.trans le3)) r3 q3 h3⟩
instance {r : V -> Hp -> VK -> Prop} {q : DR1} [a : SimE K fl ta wa] [o : SimR1 K fl r q] : SimE K fl (tUn r ta) (dUn q wa) := ⟨fun r e h k =>
  a.run r e h fun W1 d μ1 x H1 le1 r1 q1 h1 => o.run r1 q1 h1 fun W3 d3 μ3 z H3 le3 r3 q3 h3 => k W3 d3 μ3 z H3 (le1.trans le3) r3 q3 h3⟩
theorem test_of [a : SimE K fl ta wa] {W ρ μ σ H} {Q : Bool -> Mu -> Prop} {Q' : Bool -> Hp -> Prop} (r : Rel K fl W μ H) (e : EnvR K W ρ σ) (h : dTest wa ρ μ Q) (k : ∀ W' b μ' H', W.le W' -> Rel K fl W' μ' H' -> Q b μ' -> Q' b H') : ta σ H fun x H' => ∃ k, x = .bl k /\ Q' k H' :=
  a.run r e h fun W1 d μ1 x H1 le1 r1 q1 h1 => by
    cases d <;> first | exact h1.elim | skip
    rename_i b
    exact ⟨b, q1.b', k W1 b μ1 H1 le1 r1 h1⟩
instance [a : SimE K fl ta wa] : SimT K fl (tTest ta) (dTest wa) := ⟨fun r e h k => test_of r e h k⟩
instance [a : SimE K fl ta wa] : SimT K fl (tB ta) (dTest wa) := ⟨fun r e h k => test_of r e h k⟩
instance [a : SimT K fl t v] [b : SimT K fl u w] : SimT K fl (tAnd t u) (dAnd v w) := ⟨fun r e h k => a.run r e h fun W1 c μ1 H1 le1 r1 h1 => by
  cases c with
  | true => exact b.run r1 (e.mono le1) h1 fun W2 c2 μ2 H2 le2 r2 h2 => k W2 c2 μ2 H2 (le1.trans le2) r2 h2
  | false => exact k W1 false μ1 H1 le1 r1 h1⟩
instance [a : SimT K fl t v] [b : SimT K fl u w] : SimT K fl (tOr t u) (dOr v w) := ⟨fun r e h k => a.run r e h fun W1 c μ1 H1 le1 r1 h1 => by
  cases c with
  | false => exact b.run r1 (e.mono le1) h1 fun W2 c2 μ2 H2 le2 r2 h2 => k W2 c2 μ2 H2 (le1.trans le2) r2 h2
  | true => exact k W1 true μ1 H1 le1 r1 h1⟩
instance [a : SimT K fl t v] : SimT K fl (tNot t) (dNot v) := ⟨fun r e h k => a.run r e h fun W1 c μ1 H1 le1 r1 h1 => k W1 (!c) μ1 H1 le1 r1 h1⟩
instance [a : SimE K fl ta wa] [b : SimE K fl tb wb] : SimE K fl (tAndV ta tb) (dAndV wa wb) := ⟨fun r e h k => test_of r e h fun W1 c μ1 H1 le1 r1 h1 => by
  cases c with
  | true => exact b.run r1 (e.mono le1) h1 fun W2 c2 μ2 x H2 le2 r2 q2 h2 => k W2 c2 μ2 x H2 (le1.trans le2) r2 q2 h2
  | false => exact k W1 (.bl false) μ1 _ H1 le1 r1 .b h1⟩
instance [a : SimE K fl ta wa] : SimE K fl (tNotV ta) (dNotV wa) := ⟨fun r e h k => test_of r e h fun W1 c μ1 H1 le1 r1 h1 => k W1 (.bl (!c)) μ1 _ H1 le1 r1 .b h1⟩
end
def dNil : DA := fun _ μ Q => Q [] μ
def dCons (wa : DE) (wr : DA) : DA := fun ρ μ Q => wa ρ μ fun d μ1 => wr ρ μ1 fun ds μ2 => Q (d :: ds) μ2
def dTup (w : DA) : DE := fun ρ μ Q => w ρ μ fun ds μ1 => ds.length <= sizeLine /\ Q (.tup ds) μ1
def dLst (w : DA) : DE := fun ρ μ Q => w ρ μ fun ds μ1 => ds.length <= sizeLine /\ Q (.lst ds) μ1
def dLstC (w : DA) : DE := fun ρ μ Q => w ρ μ fun ds μ1 => ds.length <= sizeLine /\ ∀ k, μ1 k = none -> Q (.cell k) (mset μ1 k (.lst ds))
def dInts (ks : List Int) : DA := fun _ μ Q => Q (ks.map D.int) μ
def tThaw (t : TE) : TE := t
section
variable {K : PySem.W.Frag} {fl : Wd} {ta : TE} {wa : DE} {t : TA} {w : DA}
instance : SimA K fl tNil dNil := ⟨fun {W ρ μ σ H Q Q'} r e h k => k W [] μ [] H (.refl W) r .nil h⟩
instance [a : SimE K fl ta wa] [b : SimA K fl t w] : SimA K fl (tCons ta t) (dCons wa w) := ⟨fun r e h k =>
  a.run r e h fun W1 d μ1 x H1 le1 r1 q1 h1 => b.run r1 (e.mono le1) h1 fun W2 ds μ2 xs H2 le2 r2 q2 h2 => k W2 (d :: ds) μ2 (x :: xs) H2 (le1.trans le2) r2 (.cons (q1.mono le2) q2) h2⟩
theorem Reps.of_ints {W : Wd} : ∀ ns : List Int, Reps K W (ns.map D.int) (ns.map V.int)
  | [] => .nil
  | _ :: r => .cons .i (Reps.of_ints r)
theorem Reps.of_strs {W : Wd} : ∀ ns : List Str, Reps K W (ns.map D.str) (ns.map V.str)
  | [] => .nil
  | _ :: r => .cons .s (Reps.of_strs r)
instance [a : SimA K fl t w] : SimE K fl (tTup t) (dTup w) := ⟨fun r e h k => a.run r e h fun W1 ds μ1 xs H1 le1 r1 q1 h1 => ⟨by rw [q1.length]; exact h1.1, fun p hp => by
  obtain ⟨r2, le2⟩ := r1.newF (o := .tup xs) hp
  exact k _ _ _ _ _ (le1.trans le2) r2 (.tup (SqT.of upd_same) (q1.mono le2)) h1.2⟩⟩
instance [a : SimA K fl t w] : SimE K fl (tLst t) (dLst w) := ⟨fun r e h k => a.run r e h fun W1 ds μ1 xs H1 le1 r1 q1 h1 => ⟨by rw [q1.length]; exact h1.1, fun p hp => by
  obtain ⟨r2, le2⟩ := r1.newF (o := .lst xs) hp
  exact k _ _ _ _ _ (le1.trans le2) r2 (.lst upd_same (q1.mono le2)) h1.2⟩⟩
theorem new_cell {W W1 : Wd} {μ1 : Mu} {H1 : Hp} {p : Addr} {xs : List V} {ds : List D} {Q : DK} {Q' : VK} (le1 : W.le W1) (r1 : Rel K fl W1 μ1 H1) (q1 : Reps K W1 ds xs) (hp : H1 p = none) (k : KV' K fl W Q Q') (h : ∀ k, μ1 k = none -> Q (.cell k) (mset μ1 k (.lst ds))) : Q' (.ref p) (upd H1 p (.lst xs)) := by
  obtain ⟨c, W2, hk, le2, r2, e2⟩ := r1.newC (o := .lst xs) (c := .lst ds) hp ⟨xs, rfl, q1⟩
  exact k W2 (.cell c) _ _ _ (le1.trans le2) r2 (by unfold Rep; exact ⟨p, rfl, e2⟩) (h c hk)
instance [a : SimA K fl t w] : SimE K fl (tThaw (tLst t)) (dLstC w) := ⟨fun r e h k => a.run r e h fun W1 ds μ1 xs H1 le1 r1 q1 h1 => ⟨by rw [q1.length]; exact h1.1, fun p hp => new_cell le1 r1 q1 hp k h1.2⟩⟩
end
def dNext : DS := fun D ρ μ => D.nx ρ μ
def dSeq (t u : DS) : DS := fun D ρ μ => t { D with nx := u D } ρ μ
def dBreak : DS := fun D ρ μ => D.bk ρ μ
def dCont : DS := fun D ρ μ => D.ct ρ μ
def dDrop (w : DE) : DS := fun D ρ μ => w ρ μ fun _ μ1 => D.nx ρ μ1
def dRet (w : DE) : DS := fun D ρ μ => w ρ μ D.rt
def dRetN : DS := fun D _ μ => D.rt .non μ
def dIfS (c : DT) (t u : DS) : DS := fun D ρ μ => c ρ μ fun b μ1 => if b = true then t D ρ μ1 else u D ρ μ1
def dNever : DS := fun _ _ _ => False
def dgName (i : Nat) : DG := fun d ρ μ Q => Q (ρ.set i (some d)) μ
def dgNil : DGs := fun ds ρ μ Q => ds = [] /\ Q ρ μ
def dgCons (g : DG) (gs : DGs) : DGs := fun ds ρ μ Q => match ds with
  | d :: r => g d ρ μ fun ρ' μ' => gs r ρ' μ' Q
  | [] => False
def dgTup (n : Nat) (gs : DGs) : DG := fun d ρ μ Q => match d with
  | .tup ds => ds.length = n /\ gs ds ρ μ Q
  | _ => False
def dAsg (w : DE) (g : DG) : DS := fun D ρ μ => w ρ μ fun d μ1 => g d ρ μ1 D.nx
def dPar (i j : Nat) (w : DA) : DS := fun D ρ μ => w ρ μ fun ds μ1 => match ds with
  | [d, e] => D.nx ((ρ.set i (some d)).set j (some e)) μ1
  | _ => False
def dAug (i : Nat) (w : DE) (q : DR2) : DS := fun D ρ μ => dVar i ρ μ fun x _ => w ρ μ fun y μ1 => q x y μ1 fun z μ2 => D.nx (ρ.set i (some z)) μ2
def tFreeze (i : Nat) (t : TS) : TS := t
theorem qss_freeze {X : Cx} {sts : List Stmt} {t : TS} (i : Nat) (h : WSs X sts t) : WSs X sts (tFreeze i t) := h
theorem qe_thaw {X : Cx} {e : Expr} {t : TE} (h : WE X e t) : WE X e (tThaw t) := h
def frzD (μ : Mu) (d : D) (Q : DK) : Prop := match d with
  | .cell k => match μ k with
    | some (.lst ds) => Q (.lst ds) (mdel μ k)
    | some (.dct ks vs) => Q (.dct ks vs) (mdel μ k)
    | some (.dtt ks vs) => Q (.dtt ks vs) (mdel μ k)
    | some (.ins C ns vs) => Q (.obj C ns vs) (mdel μ k)
    | _ => False
  | _ => False
def dFreeze (i : Nat) (w : DS) : DS := fun D ρ μ => match ρ[i]? with
  | some (some d) => frzD μ d fun d' μ' => w D (ρ.set i (some d')) μ'
  | _ => False
section
variable {K : PySem.W.Frag} {fl : Wd} {ta : TE} {wa : DE} {t u : TS} {v w : DS}
theorem EndsR.mono {W W' : Wd} {D' : DEnds} {D : Ends} (le : W.le W') (h : EndsR K fl W D' D) : EndsR K fl W' D' D :=
  ⟨fun W2 ρ μ σ H l => h.nx W2 ρ μ σ H (le.trans l), fun W2 ρ μ σ H l => h.bk W2 ρ μ σ H (le.trans l), fun W2 ρ μ σ H l => h.ct W2 ρ μ σ H (le.trans l), fun W2 ρ μ σ H l => h.rt W2 ρ μ σ H (le.trans l)⟩
instance : SimS K fl tNext dNext := ⟨fun {W ρ μ σ H D' D} r e h k => k.nx W ρ μ σ H (.refl W) r e h⟩
instance : SimS K fl tNever dNever := ⟨fun r e h k => h.elim⟩
instance [a : SimS K fl t v] [b : SimS K fl u w] : SimS K fl (tSeq t u) (dSeq v w) := ⟨fun r e h k => a.run r e h ⟨fun W1 ρ1 μ1 σ1 H1 le1 r1 e1 h1 => b.run r1 e1 h1 (k.mono le1), k.bk, k.ct, k.rt⟩⟩
instance [a : SimE K fl ta wa] : SimS K fl (tDrop ta) (dDrop wa) := ⟨fun r e h k => a.run r e h fun W1 d μ1 x H1 le1 r1 q1 h1 => k.nx W1 _ μ1 _ H1 le1 r1 (e.mono le1) h1⟩
instance [a : SimE K fl ta wa] : SimS K fl (tRet ta) (dRet wa) := ⟨fun r e h k => a.run r e h fun W1 d μ1 x H1 le1 r1 q1 h1 => k.rt W1 d μ1 x H1 le1 r1 q1 h1⟩
instance {c : TT} {wc : DT} [a : SimT K fl c wc] [x : SimS K fl t v] [y : SimS K fl u w] : SimS K fl (tIfS c t u) (dIfS wc v w) := ⟨fun r e h k => a.run r e h fun W1 b μ1 H1 le1 r1 h1 => by
  cases b with
  | true => exact x.run r1 (e.mono le1) h1 (k.mono le1)
  | false => exact y.run r1 (e.mono le1) h1 (k.mono le1)⟩
instance {i : Nat} : SimG K fl (gName i) (dgName i) [i] := ⟨fun {W ρ μ σ H d x Q Q'} r e q h k => k W _ μ _ H (.refl W) r (e.set q) (by simp) (fun j hj => by rw [List.getElem?_set_ne (fun z => hj (by simp [z]))]) h⟩
instance : SimGs K fl gNil dgNil [] := ⟨fun {W ρ μ σ H ds xs Q Q'} r e q h k => by obtain ⟨rfl, h⟩ := h; exact ⟨q.nil', k W _ μ _ H (.refl W) r e rfl (fun _ _ => rfl) h⟩⟩
instance {g : TG} {dg : DG} {S S' : List Nat} {gs : TGs} {dgs : DGs} [a : SimG K fl g dg S] [b : SimGs K fl gs dgs S'] : SimGs K fl (gCons g gs) (dgCons dg dgs) (S ++ S') := ⟨fun {W ρ μ σ H ds xs Q Q'} r e q h k => by
  cases ds with
  | nil => exact h.elim
  | cons d ds =>
    obtain ⟨x, xs, rfl, q1, q2⟩ := q.uncons
    exact ⟨x, xs, rfl, a.run r e q1 h fun W1 ρ1 μ1 σ1 H1 le1 r1 e1 l1 s1 h1 => b.run r1 e1 (q2.mono le1) h1 fun W2 ρ2 μ2 σ2 H2 le2 r2 e2 l2 s2 h2 => k W2 ρ2 μ2 σ2 H2 (le1.trans le2) r2 e2 (l2.trans l1) (fun i hi => by rw [s2 i (fun z => hi (List.mem_append_right _ z)), s1 i (fun z => hi (List.mem_append_left _ z))]) h2⟩⟩
instance {n : Nat} {gs : TGs} {dgs : DGs} {S : List Nat} [b : SimGs K fl gs dgs S] : SimG K fl (gTup K n gs) (dgTup n dgs) S := ⟨fun {W ρ μ σ H d x Q Q'} r e q h k => by
  cases d <;> first | exact h.elim | skip
  obtain ⟨a, xs, rfl, hs, q1⟩ := q.tup'
  exact ⟨a, xs, rfl, hs.sm r.sub, by rw [q1.length]; exact h.1, b.run r e q1 h.2 k⟩⟩
instance {g : TG} {dg : DG} {S : List Nat} [a : SimE K fl ta wa] [b : SimG K fl g dg S] : SimS K fl (tAsg ta g) (dAsg wa dg) := ⟨fun r e h k => a.run r e h fun W1 d μ1 x H1 le1 r1 q1 h1 => b.run r1 (e.mono le1) q1 h1 fun W2 ρ2 μ2 σ2 H2 le2 r2 e2 _ _ h2 => k.nx W2 ρ2 μ2 σ2 H2 (le1.trans le2) r2 e2 h2⟩
theorem frz_run {W : Wd} {μ : Mu} {H : Hp} {d : D} {x : V} {Q : DK} (r : Rel K fl W μ H) (q : Rep K W d x) (h : frzD μ d Q) : ∃ W' d' μ', W.le W' /\ Rel K fl W' μ' H /\ Rep K W' d' x /\ Q d' μ' := by
  unfold frzD at h
  split at h
  . rename_i k
    obtain ⟨a, rfl, hb⟩ := q.cell'
    split at h
    . rename_i ds hk
      obtain ⟨a', e1, e2, xs, e3, q3⟩ := r.cel k _ hk
      rw [hb] at e1; cases e1
      obtain ⟨r2, le2⟩ := r.freeze hk hb e3
      exact ⟨_, _, _, le2, r2, .lst upd_same (q3.mono le2), h⟩
    . rename_i ks vs hk
      obtain ⟨a', e1, e2, xs, e3, l3, q3⟩ := r.cel k _ hk
      rw [hb] at e1; cases e1
      obtain ⟨r2, le2⟩ := r.freeze hk hb e3
      exact ⟨_, _, _, le2, r2, by unfold Rep; exact ⟨a, xs, rfl, upd_same, l3, q3.mono le2⟩, h⟩
    . rename_i ks vs hk
      obtain ⟨a', e1, e2, xs, e3, l3, q3⟩ := r.cel k _ hk
      rw [hb] at e1; cases e1
      obtain ⟨r2, le2⟩ := r.freeze hk hb e3
      exact ⟨_, _, _, le2, r2, by unfold Rep; exact ⟨a, xs, rfl, upd_same, l3, q3.mono le2⟩, h⟩
    . rename_i C ns vs hk
      obtain ⟨a', e1, e2, C', dx, xs, hc, e3, l3, q3⟩ := r.cel k _ hk
      rw [hb] at e1; cases e1
      obtain ⟨r2, le2⟩ := r.freeze hk hb e3
      exact ⟨_, _, _, le2, r2, by unfold Rep; exact ⟨C', a, dx, xs, hc, rfl, upd_same, l3, q3.mono le2⟩, h⟩
    . exact h.elim
  . exact h.elim
theorem EnvR.set_left {W : Wd} {ρ : DEnv} {σ : St} {i : Nat} {d : D} {x : V} (r : EnvR K W ρ σ) (hx : σ[i]? = some (some x)) (q : Rep K W d x) : EnvR K W (ρ.set i (some d)) σ := ⟨by simp [r.1], fun j d' e => by
  by_cases hj : i = j
  . subst hj
    by_cases hl : i < ρ.length
    . rw [List.getElem?_set_self hl] at e
      cases e
      exact ⟨x, hx, q⟩
    . rw [List.getElem?_eq_none (by simp; omega)] at e; cases e
  . rw [List.getElem?_set_ne hj] at e
    exact r.2 j d' e⟩
instance {i : Nat} [a : SimS K fl t v] : SimS K fl (tFreeze i t) (dFreeze i v) := ⟨fun {W ρ μ σ H D' D} r e h k => by
  unfold dFreeze at h
  split at h
  . rename_i d hd
    obtain ⟨x, ex, qx⟩ := e.2 i d hd
    obtain ⟨W', d', μ', le, r', q', h'⟩ := frz_run r qx h
    exact a.run r' ((e.mono le).set_left ex q') h' (k.mono le)
  . exact h.elim⟩
end
def dLoop (g : DG) (wb : DS) (D : DEnds) (Pm : Mu -> Prop) : List L2.D -> DEnv -> Mu -> Prop
  | [], ρ, μ => Pm μ /\ D.nx ρ μ
  | d :: r, ρ, μ => Pm μ /\ g d ρ μ fun ρ2 μ2 => wb { D with nx := dLoop g wb D Pm r, ct := dLoop g wb D Pm r, bk := D.nx } ρ2 μ2
def dFor (wi : DI) (g : DG) (wb : DS) : DS := fun D ρ μ => wi ρ μ fun ds Pm μ1 => dLoop g wb D Pm ds ρ μ1
section
variable {K : PySem.W.Frag} {fl : Wd} {tb : TS} {wb : DS}
instance {wi : TI} {di : DI} {g : TG} {dg : DG} {S : List Nat} [a : SimI K fl wi di] [b : SimG K fl g dg S] [c : SimS K fl tb wb] : SimS K fl (tFor wi g tb) (dFor di dg wb) := ⟨fun {W ρ μ σ H D' D} r e h k =>
  a.run r e h fun W1 J ds Pm μ1 H1 le1 r1 it1 h1 => by
    refine ⟨fun i m σ H => ∃ W2 ρ2 μ2, W1.le W2 /\ Rel K fl W2 μ2 H /\ EnvR K W2 ρ2 σ /\ m = ds.length - i /\ dLoop dg wb D' Pm (ds.drop i) ρ2 μ2, ⟨_, W1, ρ, μ1, .refl _, r1, e.mono le1, rfl, h1⟩, ?_⟩
    rintro i m σ2 H2 ⟨W2, ρ2, μ2, le2, r2, e2, rfl, h2⟩
    have hPm : Pm μ2 := by
      cases hdr : ds.drop i with
      | nil => rw [hdr] at h2; exact h2.1
      | cons _ _ => rw [hdr] at h2; exact h2.1
    obtain ⟨go, stop⟩ := it1 W2 μ2 H2 le2 r2 hPm i
    by_cases hi : i < ds.length
    . refine .inr ?_
      have hd : ds[i]? = some ds[i] := List.getElem?_eq_getElem hi
      obtain ⟨g1, g2⟩ := go _ hd
      rw [List.drop_eq_getElem_cons hi] at h2
      obtain ⟨_, h2⟩ := h2
      refine ⟨g1, fun σ' H' => ∃ W3 ρ3 μ3, W1.le W3 /\ Rel K fl W3 μ3 H' /\ EnvR K W3 ρ3 σ' /\ dLoop dg wb D' Pm (ds.drop (i + 1)) ρ3 μ3, fun σ' H' ⟨W3, ρ3, μ3, l3, r3, e3, h3⟩ => ⟨ds.length - (i + 1), by omega, W3, ρ3, μ3, l3, r3, e3, rfl, h3⟩, fun x H' y => ?_⟩
      obtain ⟨W3, le3, r3, q3⟩ := g2 x H' y
      refine b.run r3 (e2.mono le3) q3 h2 fun W4 ρ4 μ4 σ4 H4 le4 r4 e4 _ _ h4 => c.run r4 e4 h4 ⟨fun W5 ρ5 μ5 σ5 H5 le5 r5 e5 h5 => ?_, fun W5 ρ5 μ5 σ5 H5 le5 r5 e5 h5 => ?_, fun W5 ρ5 μ5 σ5 H5 le5 r5 e5 h5 => ?_, fun W5 d5 μ5 x5 H5 le5 r5 e5 h5 => ?_⟩
      . exact ⟨W5, ρ5, μ5, le2.trans (le3.trans (le4.trans le5)), r5, e5, h5⟩
      . exact k.nx W5 ρ5 μ5 σ5 H5 (le1.trans (le2.trans (le3.trans (le4.trans le5)))) r5 e5 h5
      . exact ⟨W5, ρ5, μ5, le2.trans (le3.trans (le4.trans le5)), r5, e5, h5⟩
      . exact k.rt W5 d5 μ5 x5 H5 (le1.trans (le2.trans (le3.trans (le4.trans le5)))) r5 e5 h5
    . rw [List.drop_eq_nil_of_le (by omega)] at h2
      exact .inl ⟨stop (by omega), k.nx W2 ρ2 μ2 σ2 H2 (le1.trans le2) r2 e2 h2.2⟩⟩
end
def takeD (ρ : DEnv) (fr : List Nat) : DEnv := fr.map fun j => (ρ[j]?).join
def dCLoop (g : DG) (wc : DT) (we : DE) (ρb : DEnv) (Pm : Mu -> Prop) (Fin : List D -> Mu -> Prop) : List D -> List D -> Mu -> Prop
  | [], ys, μ => Pm μ /\ Fin ys μ
  | d :: r, ys, μ => Pm μ /\ ys.length < sizeLine /\ g d ρb μ fun ρ2 μ2 => wc ρ2 μ2 fun b μ3 => if b = true then we ρ2 μ3 fun v μ4 => dCLoop g wc we ρb Pm Fin r (ys ++ [v]) μ4 else dCLoop g wc we ρb Pm Fin r ys μ3
def dNoT : DT := fun _ μ Q => Q true μ
instance {K : PySem.W.Frag} {fl : Wd} : SimT K fl tNoT dNoT := ⟨fun {W ρ μ σ H Q Q'} r e h k => k W _ μ H (.refl W) r h⟩
def dComp (own : List Str) (fr : List Nat) (S : List Nat) (wi : DI) (g : DG) (wc : DT) (we : DE) : DE := fun ρ μ Q => (S.all fun i => decide (i < own.length)) = true /\ wi ρ μ fun ds Pm μ1 =>
  dCLoop g wc we (List.replicate own.length none ++ takeD ρ fr) Pm (fun ys μ2 => Q (.lst ys) μ2) ds [] μ1
def dCompC (own : List Str) (fr : List Nat) (S : List Nat) (wi : DI) (g : DG) (wc : DT) (we : DE) : DE := fun ρ μ Q => (S.all fun i => decide (i < own.length)) = true /\ wi ρ μ fun ds Pm μ1 =>
  dCLoop g wc we (List.replicate own.length none ++ takeD ρ fr) Pm (fun ys μ2 => ∀ k, μ2 k = none -> Q (.cell k) (mset μ2 k (.lst ys))) ds [] μ1
section
variable {K : PySem.W.Frag} {fl : Wd} {te : TE} {we : DE} {tc : TT} {wc : DT} {wi : TI} {di : DI} {g : TG} {dg : DG} {S : List Nat}
theorem EnvR.comp {W : Wd} {ρ : DEnv} {σ : St} (e : EnvR K W ρ σ) (own : List Str) (fr : List Nat) : EnvR K W (List.replicate own.length none ++ takeD ρ fr) (own.map (fun _ => none) ++ takeFrom σ fr) := by
  refine ⟨by simp [takeD, takeFrom], fun i d h => ?_⟩
  by_cases hi : i < own.length
  . rw [List.getElem?_append_left (by simp; exact hi), List.getElem?_replicate] at h
    rw [if_pos hi] at h; cases h
  . rw [List.getElem?_append_right (by simp; omega)] at h
    rw [List.getElem?_append_right (by simp; omega)]
    simp only [List.length_replicate, takeD, List.getElem?_map] at h
    simp only [List.length_map, takeFrom, List.getElem?_map]
    cases hj : fr[i - own.length]? with
    | none => rw [hj] at h; cases h
    | some j =>
      rw [hj] at h
      simp only [Option.map_some, Option.some.injEq] at h ⊢
      cases hd : ρ[j]? with
      | none => rw [hd] at h; cases h
      | some o =>
        rw [hd] at h
        obtain ⟨x, hx, q⟩ := e.2 j d (by rw [hd]; simpa using h)
        exact ⟨x, by rw [hx]; rfl, q⟩
theorem comp_sim (own : List Str) (fr : List Nat) [b : SimG K fl g dg S] [c : SimT K fl tc wc] [v : SimE K fl te we] {W1 : Wd} {ρ : DEnv} {μ1 : Mu} {σ : St} {H1 : Hp} {J : It} {ds : List D} {Pm : Mu -> Prop} {Fin : List D -> Mu -> Prop} {Fin' : List V -> Hp -> Prop} (e : EnvR K W1 ρ σ) (r1 : Rel K fl W1 μ1 H1) (it1 : ItR K fl W1 J ds Pm)
    (hS : (S.all fun i => decide (i < own.length)) = true) (h : dCLoop dg wc we (List.replicate own.length none ++ takeD ρ fr) Pm Fin ds [] μ1)
    (hF : ∀ W2 ys μ2 xs H2, W1.le W2 -> Rel K fl W2 μ2 H2 -> Reps K W2 ys xs -> Fin ys μ2 -> Fin' xs H2) :
    ∃ W : Nat -> Nat -> List V -> Hp -> Prop, (∃ m, W 0 m [] H1) /\ CompTurns J g tc te (own.map (fun _ => none) ++ takeFrom σ fr) Fin' W := by
  refine ⟨fun i m xs H => ∃ W2 ys μ2, W1.le W2 /\ Rel K fl W2 μ2 H /\ Reps K W2 ys xs /\ m = ds.length - i /\ dCLoop dg wc we (List.replicate own.length none ++ takeD ρ fr) Pm Fin (ds.drop i) ys μ2, ⟨_, W1, [], μ1, .refl _, r1, .nil, rfl, h⟩, ?_⟩
  rintro i m xs H2 ⟨W2, ys, μ2, le2, r2, q2, rfl, h2⟩
  have hPm : Pm μ2 := by
    cases hdr : ds.drop i with
    | nil => rw [hdr] at h2; exact h2.1
    | cons _ _ => rw [hdr] at h2; exact h2.1
  obtain ⟨go, stop⟩ := it1 W2 μ2 H2 le2 r2 hPm i
  by_cases hi : i < ds.length
  . refine .inr ?_
    have hd : ds[i]? = some ds[i] := List.getElem?_eq_getElem hi
    obtain ⟨g1, g2⟩ := go _ hd
    rw [List.drop_eq_getElem_cons hi] at h2
    obtain ⟨_, hz, h2⟩ := h2
    refine ⟨g1, by rw [q2.length]; exact hz, fun xs' H' => ∃ W3 ys3 μ3, W1.le W3 /\ Rel K fl W3 μ3 H' /\ Reps K W3 ys3 xs' /\ dCLoop dg wc we (List.replicate own.length none ++ takeD ρ fr) Pm Fin (ds.drop (i + 1)) ys3 μ3, fun xs' H' ⟨W3, ρ3, μ3, l3, r3, e3, h3⟩ => ⟨ds.length - (i + 1), by omega, W3, ρ3, μ3, l3, r3, e3, rfl, h3⟩, fun x H' y => ?_⟩
    obtain ⟨W3, le3, r3, q3⟩ := g2 x H' y
    refine b.run r3 (((e.comp own fr).mono le2).mono le3) q3 h2 fun W4 ρ4 μ4 σ4 H4 le4 r4 e4 l4 s4 h4 => ⟨⟨l4.symm, fun j v hj => ?_⟩, ?_⟩
    . by_cases hjS : j ∈ S
      . have : j < own.length := of_decide_eq_true (List.all_eq_true.mp hS j hjS)
        rw [List.getElem?_append_left (by simp; exact this), List.getElem?_map, List.getElem?_eq_getElem this] at hj
        cases hj
      . rw [s4 j hjS]; exact hj
    . refine c.run r4 e4 h4 fun W5 bb μ5 H5 le5 r5 h5 => ?_
      cases bb with
      | true => exact v.run r5 (e4.mono le5) h5 fun W6 d6 μ6 x6 H6 le6 r6 q6 h6 => ⟨W6, _, μ6, le2.trans (le3.trans (le4.trans (le5.trans le6))), r6, (q2.mono (le3.trans (le4.trans (le5.trans le6)))).append (.cons q6 .nil), h6⟩
      | false => exact ⟨W5, ys, μ5, le2.trans (le3.trans (le4.trans le5)), r5, q2.mono (le3.trans (le4.trans le5)), h5⟩
  . rw [List.drop_eq_nil_of_le (by omega)] at h2
    exact .inl ⟨stop (by omega), hF W2 ys μ2 xs H2 le2 r2 q2 h2.2⟩
instance {own : List Str} {fr : List Nat} [a : SimI K fl wi di] [b : SimG K fl g dg S] [c : SimT K fl tc wc] [v : SimE K fl te we] : SimE K fl (tComp own fr wi g tc te) (dComp own fr S di dg wc we) := ⟨fun {W ρ μ σ H Q Q'} r e h k =>
  a.run r e h.2 fun W1 J ds Pm μ1 H1 le1 r1 it1 h1 => comp_sim own fr (e.mono le1) r1 it1 h.1 h1 fun W2 ys μ2 xs H2 le2 r2 q2 h2 p hp => by
    obtain ⟨r3, le3⟩ := r2.newF (o := .lst xs) hp
    exact k _ _ _ _ _ (le1.trans (le2.trans le3)) r3 (.lst upd_same (q2.mono le3)) h2⟩
end
def lift (K : PySem.W.Frag) (dsp : DSp) : Sp := fun vs H Q _ => ∃ fl W μ ds Q0, Rel K fl W μ H /\ Reps K W ds vs /\ dsp ds μ Q0 /\ KV' K fl W Q0 Q
def dCall (dsp : DSp) (w : DA) : DE := fun ρ μ Q => w ρ μ fun ds μ1 => dsp ds μ1 Q
instance {K : PySem.W.Frag} {fl : Wd} {dsp : DSp} {E : XK} {t : TA} {w : DA} [a : SimA K fl t w] : SimE K fl (tCall (lift K dsp) [] E t) (dCall dsp w) := ⟨fun {W ρ μ σ H Q Q'} r e h k =>
  a.run r e h fun W1 ds μ1 xs H1 le1 r1 q1 h1 => ⟨fl, W1, μ1, ds, Q, r1, by rw [List.append_nil]; exact q1, h1, fun W2 d μ2 x H2 le2 => k W2 d μ2 x H2 (le1.trans le2)⟩⟩
def startD (N : List Str) (ds : List D) : DEnv := ds.map some ++ List.replicate (N.length - ds.length) none
theorem EnvR.start {K : PySem.W.Frag} {W : Wd} {N : List Str} {ds : List D} {vs : List V} (h : Reps K W ds vs) : EnvR K W (startD N ds) (start N vs) := by
  refine ⟨by simp [startD, start0, h.length], fun i d e => ?_⟩
  unfold startD at e
  rw [start0]
  by_cases hi : i < ds.length
  . rw [List.getElem?_append_left (by simp; exact hi), List.getElem?_map, List.getElem?_eq_getElem hi] at e
    simp only [Option.map_some, Option.some.injEq] at e
    obtain ⟨x, hx, q⟩ := h.get (i := i) (d := d) (by rw [List.getElem?_eq_getElem hi, e])
    exact ⟨x, by rw [List.getElem?_append_left (by simp [h.length]; exact hi), List.getElem?_map, hx]; rfl, q⟩
  . rw [List.getElem?_append_right (by simp; omega), List.getElem?_replicate] at e
    split at e <;> cases e
section
variable {P : Program} {w : World} {K : PySem.W.Frag} {fl : Wd} {mg : Str -> Option Value} {base : Heap}
end
end L2

namespace L2
open PySem PySem.Spec PyProof.Rows
section
variable {X : Cx}
end
def lookL (μ : Mu) : D -> Option (List D)
  | .lst ds => some ds
  | .cell k => match μ k with
    | some (.lst ds) => some ds
    | _ => none
  | _ => none
def lookQ (μ : Mu) : D -> Option (List D)
  | .tup ds => some ds
  | d => lookL μ d
section
variable {K : PySem.W.Frag} {fl : Wd} {W : Wd} {μ : Mu} {H : Hp} {d : D} {x : V} {ds : List D}
theorem lookL_run (r : Rel K fl W μ H) (q : Rep K W d x) (h : lookL μ d = some ds) : ∃ a xs, x = .ref a /\ H a = some (.lst xs) /\ Reps K W ds xs := by
  unfold lookL at h
  split at h
  . cases h
    obtain ⟨a, xs, rfl, e, z⟩ := q.lst'
    exact ⟨a, xs, rfl, r.sub _ _ e, z⟩
  . rename_i k
    obtain ⟨a, rfl, hb⟩ := q.cell'
    split at h
    . rename_i ds' hk
      cases h
      obtain ⟨a', e1, e2, xs, e3, q3⟩ := r.cel k _ hk
      rw [hb] at e1; cases e1
      exact ⟨a, xs, rfl, e3, q3⟩
    . cases h
  . cases h
theorem lookQ_run (r : Rel K fl W μ H) (q : Rep K W d x) (h : lookQ μ d = some ds) : ∃ a xs, x = .ref a /\ (SqL K H a xs \/ SqT K H a xs) /\ Reps K W ds xs := by
  unfold lookQ at h
  split at h
  . cases h
    obtain ⟨a, xs, rfl, e, z⟩ := q.tup'
    exact ⟨a, xs, rfl, .inr (e.sm r.sub), z⟩
  . obtain ⟨a, xs, rfl, e, z⟩ := lookL_run r q h
    exact ⟨a, xs, rfl, .inl (SqL.of e), z⟩
end
section
variable {X : Cx}
end
def rAddS : R2 := fun x y H Q => ∃ i j, x = .str i /\ y = .str j /\ i.length + j.length <= sizeLine /\ Q (.str (i ++ j)) H
def rAddI : R2 := rI0 fun i j => .int (i + j)
def rAddG (K : PySem.W.Frag) : R2 := fun x y H Q => rAddI x y H Q \/ rAddS x y H Q \/ rCat x y H Q \/ rCatT K x y H Q
theorem op_addG {X : Cx} (K : PySem.W.Frag) (h : X.K = K := by rfl) : OpR X (binaryOp .Add) (rAddG K) := h ▸ op_add.or (op_add_str.or (op_cat.or op_catT))
def dAdd : DR2 := fun d e μ Q => match d, e with
  | .int i, .int j => Q (.int (i + j)) μ
  | .str a, .str b => a.length + b.length <= sizeLine /\ Q (.str (a ++ b)) μ
  | .tup a, .tup b => a ≠ [] /\ a.length + b.length <= sizeLine /\ Q (.tup (a ++ b)) μ
  | d, e => ∃ a b, lookL μ d = some a /\ lookL μ e = some b /\ a.length + b.length <= sizeLine /\ Q (.lst (a ++ b)) μ
instance {K : PySem.W.Frag} {fl : Wd} : SimR2 K fl (rAddG K) dAdd := ⟨fun {W μ H d e x y Q Q'} r q1 q2 h k => by
  unfold dAdd at h
  split at h
  . rw [q1.i', q2.i']; exact .inl ⟨_, _, rfl, rfl, k _ _ _ _ _ (.refl _) r .i h⟩
  . rw [q1.s', q2.s']; exact .inr (.inl ⟨_, _, rfl, rfl, h.1, k _ _ _ _ _ (.refl _) r .s h.2⟩)
  . rename_i a b
    obtain ⟨p, xs, rfl, s1, z1⟩ := q1.tup'
    obtain ⟨p', ys, rfl, s2, z2⟩ := q2.tup'
    obtain ⟨hn, hz, h⟩ := h
    refine .inr (.inr (.inr ⟨p, p', xs, ys, rfl, rfl, s1.sm r.sub, s2.sm r.sub, fun z => ?_, by rw [z1.length, z2.length]; exact hz, fun z => ?_, fun _ q hq => ?_⟩))
    . have := z1.length
      rw [z] at this
      exact hn (List.length_eq_zero_iff.mp this.symm)
    . have := z2.length
      rw [z] at this
      have e : b = [] := List.length_eq_zero_iff.mp this.symm
      subst e
      rw [List.append_nil] at h
      exact k _ _ _ _ _ (.refl _) r q1 h
    . obtain ⟨r2, le2⟩ := r.newF (o := .tup (xs ++ ys)) hq
      exact k _ _ _ _ _ le2 r2 (.tup (SqT.of upd_same) ((z1.mono le2).append (z2.mono le2))) h
  . obtain ⟨a, b, e1, e2, hz, h⟩ := h
    obtain ⟨p, xs, rfl, s1, z1⟩ := lookL_run r q1 e1
    obtain ⟨p', ys, rfl, s2, z2⟩ := lookL_run r q2 e2
    refine .inr (.inr (.inl ⟨p, p', xs, ys, rfl, rfl, s1, s2, by rw [z1.length, z2.length]; exact hz, fun q hq => ?_⟩))
    obtain ⟨r2, le2⟩ := r.newF (o := .lst (xs ++ ys)) hq
    exact k _ _ _ _ _ le2 r2 (.lst upd_same ((z1.mono le2).append (z2.mono le2))) h⟩
def dI (C : Int -> Int -> Prop) (g : Int -> Int -> D) : DR2 := fun d e μ Q => match d, e with
  | .int i, .int j => C i j /\ Q (g i j) μ
  | _, _ => False
def dI0 (g : Int -> Int -> D) : DR2 := fun d e μ Q => match d, e with
  | .int i, .int j => Q (g i j) μ
  | _, _ => False
section
variable {K : PySem.W.Frag} {fl : Wd}
theorem dI_sim {C : Int -> Int -> Prop} {g : Int -> Int -> V} {g' : Int -> Int -> D} (hg : ∀ W i j, Rep K W (g' i j) (g i j)) : SimR2 K fl (rI C g) (dI C g') := ⟨fun {W μ H d e x y Q Q'} r q1 q2 h k => by
  unfold dI at h
  split at h
  . rw [q1.i', q2.i']; exact ⟨_, _, rfl, rfl, h.1, k _ _ _ _ _ (.refl _) r (hg _ _ _) h.2⟩
  . exact h.elim⟩
theorem dI0_sim {g : Int -> Int -> V} {g' : Int -> Int -> D} (hg : ∀ W i j, Rep K W (g' i j) (g i j)) : SimR2 K fl (rI0 g) (dI0 g') := ⟨fun {W μ H d e x y Q Q'} r q1 q2 h k => by
  unfold dI0 at h
  split at h
  . rw [q1.i', q2.i']; exact ⟨_, _, rfl, rfl, k _ _ _ _ _ (.refl _) r (hg _ _ _) h⟩
  . exact h.elim⟩
end
def dSub : DR2 := dI0 fun i j => .int (i - j)
def dFdiv : DR2 := dI CDivB fun i j => .int (i / j)
def dMod : DR2 := dI (fun _ j => 0 < j) fun i j => .int (i % j)
def dPow : DR2 := dI CPow fun i j => .int (i ^ j.toNat)
def dLt : DR2 := dI0 fun i j => .bl (decide (i < j))
def dLe : DR2 := dI0 fun i j => .bl (decide (i <= j))
def dGt : DR2 := dI0 fun i j => .bl (decide (j < i))
def dGe : DR2 := dI0 fun i j => .bl (decide (j <= i))
def dNeg : DR1 := fun d μ Q => match d with
  | .int i => Q (.int (-i)) μ
  | _ => False
section
variable {K : PySem.W.Frag} {fl : Wd}
instance : SimR2 K fl (rI0 fun i j => .int (i - j)) dSub := dI0_sim fun _ _ _ => .i
instance : SimR2 K fl (rI CDivB fun i j => .int (i / j)) dFdiv := dI_sim fun _ _ _ => .i
instance : SimR2 K fl (rI (fun _ j => 0 < j) fun i j => .int (i % j)) dMod := dI_sim fun _ _ _ => .i
instance : SimR1 K fl (rU fun i => .int (-i)) dNeg := ⟨fun {W μ H d x Q Q'} r q h k => by
  unfold dNeg at h
  split at h
  . rw [q.i']; exact ⟨_, rfl, k _ _ _ _ _ (.refl _) r .i h⟩
  . exact h.elim⟩
end
def rMulI : R2 := rI CMul fun i j => .int (i * j)
def rMulG : R2 := fun x y H Q => rMulI x y H Q \/ rRep x y H Q
theorem op_mulG {X : Cx} : OpR X (binaryOp .Mult) rMulG := op_mul.or op_rep
def dMul : DR2 := fun d e μ Q => match d, e with
  | .int i, .int j => CMul i j /\ Q (.int (i * j)) μ
  | d, .int j => ∃ a, lookL μ d = some a /\ -(2 ^ 63) <= j /\ j < 2 ^ 63 /\ a.length * j.toNat <= sizeLine /\ Q (.lst (List.replicate j.toNat a).flatten) μ
  | _, _ => False
theorem Reps.rep {K : PySem.W.Frag} {W : Wd} {ds : List D} {xs : List V} (h : Reps K W ds xs) : ∀ n : Nat, Reps K W (List.replicate n ds).flatten (List.replicate n xs).flatten
  | 0 => .nil
  | n + 1 => by rw [List.replicate_succ, List.replicate_succ, List.flatten_cons, List.flatten_cons]; exact h.append (Reps.rep h n)
instance {K : PySem.W.Frag} {fl : Wd} : SimR2 K fl rMulG dMul := ⟨fun {W μ H d e x y Q Q'} r q1 q2 h k => by
  unfold dMul at h
  split at h
  . rw [q1.i', q2.i']; exact .inl ⟨_, _, rfl, rfl, h.1, k _ _ _ _ _ (.refl _) r .i h.2⟩
  . rename_i j _
    obtain ⟨a, e1, h1, h2, hz, h⟩ := h
    obtain ⟨p, xs, rfl, s1, z1⟩ := lookL_run r q1 e1
    rw [q2.i']
    refine .inr ⟨p, _, xs, rfl, rfl, s1, h1, h2, by rw [z1.length]; exact hz, fun q hq => ?_⟩
    obtain ⟨r2, le2⟩ := r.newF (o := .lst (List.replicate j.toNat xs).flatten) hq
    exact k _ _ _ _ _ le2 r2 (.lst upd_same ((z1.mono le2).rep _)) h
  . exact h.elim⟩
def dIAdd : DR2 := fun d e μ Q => match d, e with
  | .int i, .int j => Q (.int (i + j)) μ
  | .cell k, e => ∃ a b, μ k = some (.lst a) /\ lookL μ e = some b /\ a.length + b.length <= sizeLine /\ Q (.cell k) (mset μ k (.lst (a ++ b)))
  | _, _ => False
def dISub : DR2 := dI0 fun i j => .int (i - j)
def dIMul : DR2 := dI CMul fun i j => .int (i * j)
theorem Reps.atI {K : PySem.W.Frag} {W : Wd} {ds : List D} {xs : List V} {i : Int} {d : D} (h : Reps K W ds xs) (e : L2.atI ds i = some d) : ∃ x, L2.atI xs i = some x /\ Rep K W d x := by
  unfold L2.atI at *
  rw [h.length]
  cases hn : ixN ds.length i with
  | none => rw [hn] at e; cases e
  | some j =>
    rw [hn] at e
    exact h.get e
def dIx : DR2 := fun d e μ Q => match d, e with
  | .str z, .int i => z.length <= sizeLine /\ (match L2.atI z.cps.toList i with
    | some c => Q (.str ⟨#[c]⟩) μ
    | none => False)
  | d, .int i => match lookQ μ d with
    | some ds => match L2.atI ds i with
      | some v => Q v μ
      | none => False
    | none => False
  | _, _ => False
instance {K : PySem.W.Frag} {fl : Wd} : SimR2 K fl (rIx K) dIx := ⟨fun {W μ H d e x y Q Q'} r q1 q2 h k => by
  unfold dIx at h
  split at h
  . rename_i z i
    obtain ⟨hz, h⟩ := h
    split at h
    . rename_i c hc
      rw [q1.s', q2.i']
      exact .inr (.inr ⟨z, i, c, rfl, rfl, hz, hc, k _ _ _ _ _ (.refl _) r .s h⟩)
    . exact h.elim
  . rename_i i _
    split at h
    . rename_i ds hds
      obtain ⟨p, xs, rfl, s1, z1⟩ := lookQ_run r q1 hds
      split at h
      . rename_i v hv
        obtain ⟨w, ew, qw⟩ := z1.atI hv
        rw [q2.i']
        rcases s1 with s1 | s1
        . exact .inl ⟨p, xs, i, w, rfl, rfl, s1, ew, k _ _ _ _ _ (.refl _) r qw h⟩
        . exact .inr (.inl ⟨p, xs, i, w, rfl, rfl, s1, ew, k _ _ _ _ _ (.refl _) r qw h⟩)
      . exact h.elim
    . exact h.elim
  . exact h.elim⟩
theorem ix_seqK {X : Cx} (K : PySem.W.Frag) (h : X.K = K := by rfl) : IxR X (rIx K) := h ▸ ix_seq
def dNoPart : DO := fun _ μ Q => Q none μ
def dPart (w : DE) : DO := fun ρ μ Q => w ρ μ fun d μ1 => match d with
  | .int i => Q (some i) μ1
  | _ => False
abbrev DSl := D -> Option Int -> Option Int -> Mu -> DK -> Prop
class SimSl (K : PySem.W.Frag) (fl : Wd) (r : V -> Option Int -> Option Int -> Hp -> VK -> Prop) (q : DSl) : Prop where
  run : ∀ {W μ H d x lo hi Q Q'}, Rel K fl W μ H -> Rep K W d x -> q d lo hi μ Q -> KV' K fl W Q Q' -> r x lo hi H Q'
def dSl (q : DSl) (we : DE) (wl wh : DO) : DE := fun ρ μ Q => we ρ μ fun d μ1 => wl ρ μ1 fun l μ2 => wh ρ μ2 fun u μ3 => q d l u μ3 Q
section
variable {K : PySem.W.Frag} {fl : Wd} {te : TE} {we : DE} {tl th : TO} {wl wh : DO}
instance : SimO K fl tNoPart dNoPart := ⟨fun {W ρ μ σ H Q Q'} r e h k => k W _ μ H (.refl W) r h⟩
instance [a : SimE K fl te we] : SimO K fl (tPart te) (dPart we) := ⟨fun r e h k => a.run r e h fun W1 d μ1 x H1 le1 r1 q1 h1 => by
  cases d <;> first | exact h1.elim | skip
  exact ⟨_, q1.i', k W1 _ μ1 H1 le1 r1 h1⟩⟩
instance {r : V -> Option Int -> Option Int -> Hp -> VK -> Prop} {q : DSl} [a : SimE K fl te we] [b : SimO K fl tl wl] [c : SimO K fl th wh] [o : SimSl K fl r q] : SimE K fl (tSl r te tl th) (dSl q we wl wh) := ⟨fun r e h k =>
  a.run r e h fun W1 d μ1 x H1 le1 r1 q1 h1 => b.run r1 (e.mono le1) h1 fun W2 l μ2 H2 le2 r2 h2 => c.run r2 (e.mono (le1.trans le2)) h2 fun W3 u μ3 H3 le3 r3 h3 => o.run r3 (q1.mono (le2.trans le3)) h3 fun W4 d4 μ4 x4 H4 le4 r4 q4 h4 => k W4 d4 μ4 x4 H4 (le1.trans (le2.trans (le3.trans le4))) r4 q4 h4⟩
end
def cutD {α : Type} (xs : List α) (lo hi : Option Int) : List α := (xs.drop (HT.sIx xs.length 0 lo)).take (HT.sIx xs.length xs.length hi - HT.sIx xs.length 0 lo)
theorem Reps.cut {K : PySem.W.Frag} {W : Wd} {ds : List D} {xs : List V} (h : Reps K W ds xs) (lo hi : Option Int) : Reps K W (cutD ds lo hi) (cutV xs lo hi) := by
  unfold cutD cutV
  rw [h.length]
  exact (h.drop _).take _
def rSlG (K : PySem.W.Frag) : V -> Option Int -> Option Int -> Hp -> VK -> Prop := fun x lo hi H Q => rSlL K x lo hi H Q \/ rSlT K x lo hi H Q
theorem sl_seqK {X : Cx} (K : PySem.W.Frag) (h : X.K = K := by rfl) : SlR X (rSlG K) := h ▸ sl_list.or sl_tup
def dSlG : DSl := fun d lo hi μ Q => match d with
  | .tup ds => ¬ (HT.sIx ds.length 0 lo = 0 /\ HT.sIx ds.length ds.length hi = ds.length) /\ Q (.tup (cutD ds lo hi)) μ
  | d => match lookL μ d with
    | some ds => Q (.lst (cutD ds lo hi)) μ
    | none => False
instance {K : PySem.W.Frag} {fl : Wd} : SimSl K fl (rSlG K) dSlG := ⟨fun {W μ H d x lo hi Q Q'} r q1 h k => by
  unfold dSlG at h
  split at h
  . obtain ⟨p, xs, rfl, s1, z1⟩ := q1.tup'
    refine .inr ⟨p, xs, rfl, s1.sm r.sub, by rw [z1.length]; exact h.1, fun q hq => ?_⟩
    obtain ⟨r2, le2⟩ := r.newF (o := .tup (cutV xs lo hi)) hq
    exact k _ _ _ _ _ le2 r2 (.tup (SqT.of upd_same) ((z1.mono le2).cut _ _)) h.2
  . split at h
    . rename_i ds hds
      obtain ⟨p, xs, rfl, s1, z1⟩ := lookL_run r q1 hds
      refine .inl ⟨p, xs, rfl, SqL.of s1, fun q hq => ?_⟩
      obtain ⟨r2, le2⟩ := r.newF (o := .lst (cutV xs lo hi)) hq
      exact k _ _ _ _ _ le2 r2 (.lst upd_same ((z1.mono le2).cut _ _)) h
    . exact h.elim⟩
mutual
def toPy : D -> Option PyData
  | .non => some .none
  | .bl b => some (.bool b)
  | .int i => some (.int i)
  | .str x => some (.str x)
  | .tup ds => (toPys ds).map .tuple
  | .lst ds => (toPys ds).map .list
  | _ => none
def toPys : List D -> Option (List PyData)
  | [] => some []
  | d :: ds => match toPy d, toPys ds with
    | some p, some ps => some (p :: ps)
    | _, _ => none
end
def toPyM (μ : Mu) : D -> Option PyData
  | .cell k => match μ k with
    | some (.lst ds) => (toPys ds).map .list
    | _ => none
  | d => toPy d
section
variable {K : PySem.W.Frag} {fl : Wd} {W : Wd} {H : Hp}
mutual
theorem toPy_run (s : Same W.F H) : ∀ {d : D} {p : PyData} {x : V}, toPy d = some p -> Rep K W d x -> Dat K H p x
  | .non, _, _, e, q => by unfold toPy at e; cases e; rw [q.n']; exact .n
  | .bl _, _, _, e, q => by unfold toPy at e; cases e; rw [q.b']; exact .b
  | .int _, _, _, e, q => by unfold toPy at e; cases e; rw [q.i']; exact .i
  | .str _, _, _, e, q => by unfold toPy at e; cases e; rw [q.s']; exact .s
  | .tup ds, _, _, e, q => by
    unfold toPy at e
    obtain ⟨a, xs, rfl, h, z⟩ := q.tup'
    cases e1 : toPys ds with
    | none => rw [e1] at e; cases e
    | some ps => rw [e1] at e; cases e; exact .tup (h.sm s) (toPys_run s e1 z)
  | .lst ds, _, _, e, q => by
    unfold toPy at e
    obtain ⟨a, xs, rfl, h, z⟩ := q.lst'
    cases e1 : toPys ds with
    | none => rw [e1] at e; cases e
    | some ps => rw [e1] at e; cases e; exact .lst (SqL.of (s _ _ h)) (toPys_run s e1 z)
  | .ty _, _, _, e, _ => by unfold toPy at e; cases e
  | .cls _, _, _, e, _ => by unfold toPy at e; cases e
  | .scr _, _, _, e, _ => by unfold toPy at e; cases e
  | .cell _, _, _, e, _ => by unfold toPy at e; cases e
  | .dct _ _, _, _, e, _ => by unfold toPy at e; cases e
  | .dtt _ _, _, _, e, _ => by unfold toPy at e; cases e
  | .obj _ _ _, _, _, e, _ => by unfold toPy at e; cases e
theorem toPys_run (s : Same W.F H) : ∀ {ds : List D} {ps : List PyData} {xs : List V}, toPys ds = some ps -> Reps K W ds xs -> Dats K H ps xs
  | [], _, _, e, q => by unfold toPys at e; cases e; rw [q.nil']; exact .nil
  | d :: ds, _, _, e, q => by
    unfold toPys at e
    obtain ⟨x, r, rfl, q1, q2⟩ := q.uncons
    cases e1 : toPy d with
    | none => rw [e1] at e; cases e
    | some p =>
      cases e2 : toPys ds with
      | none => rw [e1, e2] at e; cases e
      | some ps => rw [e1, e2] at e; cases e; exact .cons (toPy_run s e1 q1) (toPys_run s e2 q2)
end
theorem toPyM_run {μ : Mu} {d : D} {p : PyData} {x : V} (r : Rel K fl W μ H) (e : toPyM μ d = some p) (q : Rep K W d x) : Dat K H p x := by
  unfold toPyM at e
  split at e
  . rename_i k
    obtain ⟨a, rfl, hb⟩ := q.cell'
    split at e
    . rename_i ds hk
      obtain ⟨a', e1, e2, xs, e3, q3⟩ := r.cel k _ hk
      rw [hb] at e1; cases e1
      cases e4 : toPys ds with
      | none => rw [e4] at e; cases e
      | some ps => rw [e4] at e; cases e; exact .lst (SqL.of e3) (toPys_run r.sub e4 q3)
    . cases e
  . exact toPy_run r.sub e q
end
def rEqD (K : PySem.W.Frag) (neg : Bool) : R2 := fun x y H Q => ∃ d d', Dat K H d x /\ Dat K H d' y /\ EqOk d /\ EqOk d' /\ Q (.bl (if neg then !PyData.eqv d d' else PyData.eqv d d')) H
def rEqG (K : PySem.W.Frag) : R2 := fun x y H Q => rEq x y H Q \/ rEqD K false x y H Q
def rNeG (K : PySem.W.Frag) : R2 := fun x y H Q => rNe x y H Q \/ rEqD K true x y H Q
theorem op_eqG {X : Cx} (K : PySem.W.Frag) {k : Nat} {cm : Bool} (hr : RoomC cm k X.A) (h : X.K = K := by rfl) : OpR X (compareOp .Eq) (rEqG K) := op_eq.or (op_eqK K hr h)
theorem op_neG {X : Cx} (K : PySem.W.Frag) {k : Nat} {cm : Bool} (hr : RoomC cm k X.A) (h : X.K = K := by rfl) : OpR X (compareOp .NotEq) (rNeG K) := op_ne.or (op_neK K hr h)
def dEqN (neg : Bool) : DR2 := fun d e μ Q => match d, e with
  | .int i, .int j => Q (.bl (neg ^^ decide (i = j))) μ
  | .str i, .str j => Q (.bl (neg ^^ decide (i = j))) μ
  | .bl i, .bl j => Q (.bl (neg ^^ decide (i = j))) μ
  | d, e => match toPyM μ d, toPyM μ e with
    | some p, some q => EqOk p /\ EqOk q /\ Q (.bl (neg ^^ PyData.eqv p q)) μ
    | _, _ => False
def dEq : DR2 := dEqN false
def dNe : DR2 := dEqN true
theorem dV_int (i j : Int) : decide (V.int i = V.int j) = decide (i = j) := by by_cases h : i = j <;> simp [h]
theorem dV_str (i j : Str) : decide (V.str i = V.str j) = decide (i = j) := by by_cases h : i = j <;> simp [h]
theorem dV_bl (i j : Bool) : decide (V.bl i = V.bl j) = decide (i = j) := by by_cases h : i = j <;> simp [h]
instance {K : PySem.W.Frag} {fl : Wd} : SimR2 K fl (rEqG K) dEq := ⟨fun {W μ H d e x y Q Q'} r q1 q2 h k => by
  unfold dEq dEqN at h
  simp only [Bool.false_xor] at h
  split at h
  . rw [q1.i', q2.i']; exact .inl ⟨rfl, k _ _ _ _ _ (.refl _) r (by rw [dV_int]; exact .b) h⟩
  . rw [q1.s', q2.s']; exact .inl ⟨rfl, k _ _ _ _ _ (.refl _) r (by rw [dV_str]; exact .b) h⟩
  . rw [q1.b', q2.b']; exact .inl ⟨rfl, k _ _ _ _ _ (.refl _) r (by rw [dV_bl]; exact .b) h⟩
  . split at h
    . rename_i p q e1 e2
      exact .inr ⟨p, q, toPyM_run r e1 q1, toPyM_run r e2 q2, h.1, h.2.1, k _ _ _ _ _ (.refl _) r .b h.2.2⟩
    . exact h.elim⟩
instance {K : PySem.W.Frag} {fl : Wd} : SimR2 K fl (rNeG K) dNe := ⟨fun {W μ H d e x y Q Q'} r q1 q2 h k => by
  unfold dNe dEqN at h
  simp only [Bool.true_xor] at h
  split at h
  . rw [q1.i', q2.i']; exact .inl ⟨rfl, k _ _ _ _ _ (.refl _) r (by rw [dV_int]; exact .b) h⟩
  . rw [q1.s', q2.s']; exact .inl ⟨rfl, k _ _ _ _ _ (.refl _) r (by rw [dV_str]; exact .b) h⟩
  . rw [q1.b', q2.b']; exact .inl ⟨rfl, k _ _ _ _ _ (.refl _) r (by rw [dV_bl]; exact .b) h⟩
  . split at h
    . rename_i p q e1 e2
      exact .inr ⟨p, q, toPyM_run r e1 q1, toPyM_run r e2 q2, h.1, h.2.1, k _ _ _ _ _ (.refl _) r .b h.2.2⟩
    . exact h.elim⟩
def isNon : D -> Bool
  | .non => true
  | _ => false
def dIs : DR2 := fun d e μ Q => match e with
  | .non => Q (.bl (isNon d)) μ
  | _ => False
def dIsNot : DR2 := fun d e μ Q => match e with
  | .non => Q (.bl (!isNon d)) μ
  | _ => False
def flatD : D -> Option V
  | .non => some .non
  | .bl b => some (.bl b)
  | .int i => some (.int i)
  | .str x => some (.str x)
  | _ => none
def flatDs : List D -> Option (List V)
  | [] => some []
  | d :: ds => match flatD d, flatDs ds with
    | some x, some xs => some (x :: xs)
    | _, _ => none
theorem flatD_run {K : PySem.W.Frag} {W : Wd} {d : D} {x v : V} (e : flatD d = some v) (q : Rep K W d x) : x = v /\ flatV v = true := by
  cases d <;> simp only [flatD, Option.some.injEq, reduceCtorEq] at e
  . rw [<- e]; exact ⟨q.n', rfl⟩
  . rw [<- e]; exact ⟨q.b', rfl⟩
  . rw [<- e]; exact ⟨q.i', rfl⟩
  . rw [<- e]; exact ⟨q.s', rfl⟩
theorem flatDs_run {K : PySem.W.Frag} {W : Wd} : ∀ {ds : List D} {xs vs : List V}, flatDs ds = some vs -> Reps K W ds xs -> xs = vs /\ vs.all flatV = true
  | [], _, _, e, q => by unfold flatDs at e; cases e; exact ⟨q.nil', rfl⟩
  | d :: ds, _, _, e, q => by
    unfold flatDs at e
    obtain ⟨x, r, rfl, q1, q2⟩ := q.uncons
    cases e1 : flatD d with
    | none => rw [e1] at e; cases e
    | some v =>
      cases e2 : flatDs ds with
      | none => rw [e1, e2] at e; cases e
      | some vs =>
        rw [e1, e2] at e; cases e
        obtain ⟨a, b⟩ := flatD_run e1 q1
        obtain ⟨c, f⟩ := flatDs_run e2 q2
        exact ⟨by rw [a, c], by rw [List.all_cons, b, f]; rfl⟩
def dInN (neg : Bool) : DR2 := fun d e μ Q => match lookQ μ e with
  | some ds => match flatD d, flatDs ds with
    | some v, some vs => Q (.bl (if neg then !inV v vs else inV v vs)) μ
    | _, _ => False
  | none => False
instance {K : PySem.W.Frag} {fl : Wd} {neg : Bool} : SimR2 K fl (rIn K neg) (dInN neg) := ⟨fun {W μ H d e x y Q Q'} r q1 q2 h k => by
  unfold dInN at h
  split at h
  . rename_i ds hds
    obtain ⟨p, xs, rfl, s1, z1⟩ := lookQ_run r q2 hds
    split at h
    . rename_i v vs e1 e2
      obtain ⟨a, b⟩ := flatD_run e1 q1
      obtain ⟨c, f⟩ := flatDs_run e2 z1
      subst a c
      exact ⟨p, _, rfl, s1, b, f, k _ _ _ _ _ (.refl _) r .b h⟩
    . exact h.elim
  . exact h.elim⟩
end L2

namespace L2
open PySem PySem.Spec PyProof.Rows
def dCB (q : DRs) (w : DA) : DE := fun ρ μ Q => w ρ μ fun ds μ1 => q ds μ1 Q
instance {K : PySem.W.Frag} {fl : Wd} {r : List V -> Hp -> VK -> Prop} {q : DRs} {t : TA} {w : DA} [a : SimA K fl t w] [o : SimRs K fl r q] : SimE K fl (tCB r t) (dCB q w) := ⟨fun r e h k =>
  a.run r e h fun W1 ds μ1 xs H1 le1 r1 q1 h1 => o.run r1 q1 h1 fun W2 d μ2 x H2 le2 => k W2 d μ2 x H2 (le1.trans le2)⟩
section
variable {X : Cx} (K : PySem.W.Frag)
def rLenQ : List V -> Hp -> VK -> Prop := fun xs H Q => ∃ p ys, xs = [.ref p] /\ (SqL K H p ys \/ SqT K H p ys) /\ Q (.int ys.length) H
def rLenS : List V -> Hp -> VK -> Prop := fun xs H Q => ∃ z, xs = [.str z] /\ z.length <= sizeLine /\ Q (.int z.length) H
def rLenG : List V -> Hp -> VK -> Prop := fun xs H Q => rLenQ K xs H Q \/ rLenS xs H Q
theorem call_lenG (h : X.K = K := by rfl) : CallR X (.builtin "len") (rLenG K) := h ▸ call_len_seq.or call_len_str
def rIsI : List V -> Hp -> VK -> Prop := fun xs H Q => ∃ x c t b, xs = [x, c] /\ TyOf K H x t /\ (∀ u, RelV c u -> PySem.W.kitOne K t u = some b) /\ Q (.bl b) H
def rList : List V -> Hp -> VK -> Prop := fun xs H Q => ∃ p ys, xs = [.ref p] /\ (SqL K H p ys \/ SqT K H p ys) /\ ∀ l, H l = none -> Q (.ref l) (upd H l (.lst ys))
def rTuple : List V -> Hp -> VK -> Prop := fun xs H Q => ∃ p ys, xs = [.ref p] /\ ((SqL K H p ys /\ ∀ l, H l = none -> Q (.ref l) (upd H l (.tup ys))) \/ (SqT K H p ys /\ Q (.ref p) H))
theorem call_isiG (h : X.K = K := by rfl) : CallR X (.builtin "isinstance") (rIsI K) := call_isinstK K h
theorem call_listG (h : X.K = K := by rfl) : CallR X (.type "list") (rList K) := call_listK K h
theorem call_tupleG (h : X.K = K := by rfl) : CallR X (.type "tuple") (rTuple K) := call_tupleK K h
end
def dLen : DRs := fun ds μ Q => match ds with
  | [.str z] => z.length <= sizeLine /\ Q (.int z.length) μ
  | [d] => match lookQ μ d with
    | some es => Q (.int es.length) μ
    | none => False
  | _ => False
def dAbs : DRs := fun ds μ Q => match ds with
  | [.int i] => Q (.int (if i < 0 then -i else i)) μ
  | _ => False
def intsOf : List D -> Option (List Int)
  | [] => some []
  | .int i :: r => match intsOf r with
    | some l => some (i :: l)
    | none => none
  | _ => none
def blsOf : List D -> Option (List Bool)
  | [] => some []
  | .bl i :: r => match blsOf r with
    | some l => some (i :: l)
    | none => none
  | _ => none
def dMax : DRs := fun ds μ Q => match ds with
  | [.int i, .int j] => Q (.int (if j > i then j else i)) μ
  | [d] => match (lookL μ d).bind intsOf with
    | some ns => ns ≠ [] /\ ∀ M ∈ ns, (∀ a ∈ ns, a <= M) -> Q (.int M) μ
    | none => False
  | _ => False
def dMin : DRs := fun ds μ Q => match ds with
  | [.int i, .int j] => Q (.int (if j < i then j else i)) μ
  | [d] => match (lookL μ d).bind intsOf with
    | some ns => ns ≠ [] /\ ∀ M ∈ ns, (∀ a ∈ ns, M <= a) -> Q (.int M) μ
    | none => False
  | _ => False
def dSum : DRs := fun ds μ Q => match ds with
  | [d] => match (lookL μ d).bind intsOf with
    | some ns => Q (.int ns.sum) μ
    | none => False
  | _ => False
def dAll : DRs := fun ds μ Q => match ds with
  | [d] => match (lookL μ d).bind blsOf with
    | some bs => Q (.bl (bs.all id)) μ
    | none => False
  | _ => False
def dAny : DRs := fun ds μ Q => match ds with
  | [d] => match (lookL μ d).bind blsOf with
    | some bs => Q (.bl (bs.any id)) μ
    | none => False
  | _ => False
def dList : DRs := fun ds μ Q => match ds with
  | [d] => match lookQ μ d with
    | some es => Q (.lst es) μ
    | none => False
  | _ => False
def dListC : DRs := fun ds μ Q => match ds with
  | [d] => match lookQ μ d with
    | some es => ∀ k, μ k = none -> Q (.cell k) (mset μ k (.lst es))
    | none => False
  | _ => False
def dTuple : DRs := fun ds μ Q => match ds with
  | [d] => match lookQ μ d with
    | some es => Q (.tup es) μ
    | none => False
  | _ => False
def tyD (μ : Mu) : D -> Option String
  | .non => some "NoneType"
  | .bl _ => some "bool"
  | .int _ => some "int"
  | .str _ => some "str"
  | .lst _ => some "list"
  | .cell k => match μ k with
    | some (.lst _) => some "list"
    | some (.dct _ _) => some "dict"
    | some (.dtt _ _) => some "dict"
    | _ => none
  | .dct _ _ => some "dict"
  | .dtt _ _ => some "dict"
  | _ => none
def tyNames : List String := ["int", "bool", "str", "list", "tuple", "dict"]
def isTy (t T : String) : Bool := t == T || (t == "bool" && T == "int")
def dIsI : DRs := fun ds μ Q => match ds with
  | [d, .ty T] => match tyD μ d with
    | some t => T ∈ tyNames /\ Q (.bl (isTy t T)) μ
    | none => False
  | _ => False
section
variable {K : PySem.W.Frag} {fl : Wd} {W : Wd} {μ : Mu} {H : Hp}
theorem Reps.one {d : D} {xs : List V} (h : Reps K W [d] xs) : ∃ x, xs = [x] /\ Rep K W d x := by
  obtain ⟨x, r, rfl, q, z⟩ := h.uncons
  rw [z.nil']; exact ⟨x, rfl, q⟩
theorem Reps.two {d e : D} {xs : List V} (h : Reps K W [d, e] xs) : ∃ x y, xs = [x, y] /\ Rep K W d x /\ Rep K W e y := by
  obtain ⟨x, r, rfl, q, z⟩ := h.uncons
  obtain ⟨y, rfl, q2⟩ := z.one
  exact ⟨x, y, rfl, q, q2⟩
instance : SimRs K fl (rLenG K) dLen := ⟨fun {W μ H ds xs Q Q'} r z h k => by
  unfold dLen at h
  split at h
  . obtain ⟨x, rfl, q⟩ := z.one
    rw [q.s']; exact .inr ⟨_, rfl, h.1, k _ _ _ _ _ (.refl _) r .i h.2⟩
  . obtain ⟨x, rfl, q⟩ := z.one
    split at h
    . rename_i es he
      obtain ⟨p, ys, rfl, s1, z1⟩ := lookQ_run r q he
      exact .inl ⟨p, ys, rfl, s1, k _ _ _ _ _ (.refl _) r (by rw [z1.length]; exact .i) h⟩
    . exact h.elim
  . exact h.elim⟩
instance {t : TA} {w : DA} [a : SimA K fl t w] : SimE K fl (tThaw (tCB (rList K) t)) (dCB dListC w) := ⟨fun r e h k =>
  a.run r e h fun W1 ds μ1 xs H1 le1 r1 z h => by
    unfold dListC at h
    split at h
    . obtain ⟨x, rfl, q⟩ := z.one
      split at h
      . rename_i es he
        obtain ⟨p, ys, rfl, s1, z1⟩ := lookQ_run r1 q he
        exact ⟨p, ys, rfl, s1, fun l hl => new_cell le1 r1 z1 hl k h⟩
      . exact h.elim
    . exact h.elim⟩
instance : SimRs K fl (rTuple K) dTuple := ⟨fun {W μ H ds xs Q Q'} r z h k => by
  unfold dTuple at h
  split at h
  . obtain ⟨x, rfl, q⟩ := z.one
    split at h
    . rename_i es he
      unfold lookQ at he
      split at he
      . cases he
        obtain ⟨p, ys, rfl, t, z2⟩ := q.tup'
        exact ⟨p, ys, rfl, .inr ⟨t.sm r.sub, k _ _ _ _ _ (.refl _) r q h⟩⟩
      . obtain ⟨p, ys, rfl, t, z2⟩ := lookL_run r q he
        refine ⟨p, ys, rfl, .inl ⟨SqL.of t, fun l hl => ?_⟩⟩
        obtain ⟨r2, le2⟩ := r.newF (o := .tup ys) hl
        exact k _ _ _ _ _ le2 r2 (.tup (SqT.of upd_same) (z2.mono le2)) h
    . exact h.elim
  . exact h.elim⟩
theorem ty_run {d : D} {x : V} {t : String} (r : Rel K fl W μ H) (q : Rep K W d x) (h : tyD μ d = some t) : TyOf K H x (.type t) := by
  unfold tyD at h
  split at h <;> try cases h
  . rw [q.n']; exact .non
  . rw [q.b']; exact .bl _
  . rw [q.i']; exact .int _
  . rw [q.s']; exact .str _
  . obtain ⟨a, xs, rfl, e, z⟩ := q.lst'; exact .lst (r.sub _ _ e)
  . rename_i k
    obtain ⟨a, rfl, hb⟩ := q.cell'
    split at h <;> try cases h
    . rename_i ds hk
      obtain ⟨a', e1, e2, xs, e3, q3⟩ := r.cel k _ hk
      rw [hb] at e1; cases e1
      exact .lst e3
    . rename_i ks vs hk
      obtain ⟨a', e1, e2, xs, e3, l3, q3⟩ := r.cel k _ hk
      rw [hb] at e1; cases e1
      exact .dK e3
    . rename_i ks vs hk
      obtain ⟨a', e1, e2, xs, e3, l3, q3⟩ := r.cel k _ hk
      rw [hb] at e1; cases e1
      exact .dT e3
  . unfold Rep at q; obtain ⟨a, xs, rfl, e, _⟩ := q; exact .dK (r.sub _ _ e)
  . unfold Rep at q; obtain ⟨a, xs, rfl, e, _⟩ := q; exact .dT (r.sub _ _ e)
theorem ty_names {d : D} {t : String} (h : tyD μ d = some t) : t ∈ ["NoneType", "bool", "int", "str", "list", "dict"] := by
  unfold tyD at h
  split at h <;> (try cases h) <;> (try decide)
  split at h <;> (try cases h) <;> decide
theorem kit_ty {t T : String} (h : t ∈ ["NoneType", "bool", "int", "str", "list", "dict"]) (h' : T ∈ tyNames) : PySem.W.kitOne K (.type t) (.type T) = some (isTy t T) := by
  simp only [tyNames, List.mem_cons, List.not_mem_nil, or_false] at h h'
  rcases h with rfl | rfl | rfl | rfl | rfl | rfl <;> rcases h' with rfl | rfl | rfl | rfl | rfl | rfl <;> rfl
instance : SimRs K fl (rIsI K) dIsI := ⟨fun {W μ H ds xs Q Q'} r z h k => by
  unfold dIsI at h
  split at h
  . rename_i d T
    obtain ⟨x, y, rfl, q1, q2⟩ := z.two
    split at h
    . rename_i t ht
      unfold Rep at q2
      subst q2
      exact ⟨x, .ty T, .type t, isTy t T, rfl, ty_run r q1 ht, fun u hu => by cases hu; exact kit_ty (ty_names ht) h.1, k _ _ _ _ _ (.refl _) r .b h.2⟩
    . exact h.elim
  . exact h.elim⟩
end
def iSeq (K : PySem.W.Frag) (tl : TE) : TI := fun σ H R => tl σ H fun x H1 => (∃ a, x = .ref a /\ (∃ xs, SqL K H1 a xs) /\ R (Itl K a) H1) \/ (∃ a, x = .ref a /\ (∃ xs, SqT K H1 a xs) /\ R (Itt K a) H1) \/ ∃ y, x = .str y /\ y.cps.all (· < 128) = true /\ R (Its y) H1
theorem qi_seqK {X : Cx} {tg l : Expr} {tl : TE} (K : PySem.W.Frag) (hl : WE X l tl) (h : X.K = K := by rfl) : WI X tg l (iSeq K tl) := ⟨by
  subst h
  intro pins s σ H R I h
  refine thn (hl.out pins s σ H _ I h) fun v s1 ⟨x, H1, I1, r1, q1⟩ => ?_
  rcases q1 with ⟨a, e, ⟨xs, hq⟩, q⟩ | ⟨a, e, ⟨xs, hq⟩, q⟩ | ⟨y, e, ha, q⟩
  . subst e
    cases r1
    obtain ⟨its, rv, p, hz⟩ := I1.list hq
    refine wpAny_pyIter_list p.isList ?_
    refine ⟨s1.heap.objs.size, [s1.heap.objs.size], _, _, H1, rfl, I1.kept (t' := s1.toks) fun b o e => Heap.get?_push_of_some _ e, turn_list a _, ⟨_, Heap.get?_push_size _ rfl, rfl, rfl⟩, fun b hb => ?_, q⟩
    have e : b = s1.heap.objs.size := by simpa using hb
    subst e
    exact I1.fpOk (Nat.le_refl _) (I1.hok.fresh (Nat.le_refl _))
  . subst e
    cases r1
    obtain ⟨its, rv, p, hz⟩ := I1.tuple hq
    refine wpAny_pyIter_tuple (show s1.heap.IsTuple a its.toArray from p) ?_
    refine ⟨s1.heap.objs.size, [s1.heap.objs.size], _, _, H1, rfl, I1.kept (t' := s1.toks) fun b o e => Heap.get?_push_of_some _ e, turn_tuple a _, ⟨_, Heap.get?_push_size _ rfl, rfl, rfl⟩, fun b hb => ?_, q⟩
    have e : b = s1.heap.objs.size := by simpa using hb
    subst e
    exact I1.fpOk (Nat.le_refl _) (I1.hok.fresh (Nat.le_refl _))
  . subst e
    obtain ⟨t, rfl⟩ := r1
    refine wpAny_pyIter_ascii ha ?_
    refine ⟨s1.heap.objs.size, [s1.heap.objs.size], _, _, H1, rfl, I1.kept (t' := s1.toks) fun b o e => Heap.get?_push_of_some _ e, turn_str _ y t, ⟨_, Heap.get?_push_size _ rfl, rfl, rfl⟩, fun b hb => ?_, q⟩
    have e : b = s1.heap.objs.size := by simpa using hb
    subst e
    exact I1.fpOk (Nat.le_refl _) (I1.hok.fresh (Nat.le_refl _))⟩
def seqD : D -> Option (List D)
  | .lst ds => some ds
  | .tup ds => some ds
  | .str y => if y.cps.all (· < 128) = true then some (y.cps.toList.map fun c => .str ⟨#[c]⟩) else none
  | _ => none
def seqM (μ : Mu) (d : D) (Q : List D -> (Mu -> Prop) -> Prop) : Prop := match d with
  | .cell k => match μ k with
    | some (.lst ds) => Q ds fun μ' => μ' k = some (.lst ds)
    | _ => False
  | d => match seqD d with
    | some ds => Q ds fun _ => True
    | none => False
def diSeq (w : DE) : DI := fun ρ μ Q => w ρ μ fun d μ1 => seqM μ1 d fun ds Pm => Q ds Pm μ1
def diRng1 (w : DA) : DI := fun ρ μ Q => w ρ μ fun ds μ1 => match ds with
  | [.int j] => -(2 ^ 62) <= j /\ j < 2 ^ 62 /\ Q ((rangeL 0 j.toNat).map D.int) (fun _ => True) μ1
  | _ => False
def diRng2 (w : DA) : DI := fun ρ μ Q => w ρ μ fun ds μ1 => match ds with
  | [.int i, .int j] => (-(2 ^ 62) <= i /\ i < 2 ^ 62 /\ -(2 ^ 62) <= j /\ j < 2 ^ 62) /\ Q ((rangeL i (j - i).toNat).map D.int) (fun _ => True) μ1
  | _ => False
section
variable {K : PySem.W.Frag} {fl : Wd} {te : TE} {we : DE} {ta : TA} {wa : DA}
theorem it_range (W : Wd) (lo : Int) (n : Nat) (Pm : Mu -> Prop) : ItR K fl W (Itr lo n) ((rangeL lo n).map D.int) Pm := fun W1 μ H le r _ i => by
  constructor
  . intro d hd
    rw [List.getElem?_map] at hd
    by_cases hi : i < n
    . rw [rangeL_get hi] at hd
      cases hd
      refine ⟨hi, fun x H' y => ?_⟩
      obtain ⟨e, y⟩ := y
      subst e y
      exact ⟨W1, .refl _, r, .i⟩
    . rw [List.getElem?_eq_none (by rw [rangeL_length]; omega)] at hd
      cases hd
  . intro h
    rw [List.length_map, rangeL_length] at h
    exact h
theorem it_list {W : Wd} {p : Addr} {xs : List V} {ds : List D} {Pm : Mu -> Prop} (z1 : Reps K W ds xs) (hp : ∀ W1 μ H, W.le W1 -> Rel K fl W1 μ H -> Pm μ -> H p = some (.lst xs)) : ItR K fl W (Itl K p) ds Pm := fun W2 μ2 H2 le2 r2 pm i => by
  have s2 := hp W2 μ2 H2 le2 r2 pm
  constructor
  . intro d hd
    obtain ⟨x, ex, qx⟩ := z1.get hd
    refine ⟨⟨xs, x, SqL.of s2, ex⟩, fun y H' hy => ?_⟩
    obtain ⟨e', y'⟩ := hy
    have ey := y' xs (SqL.of s2)
    rw [ex] at ey; cases ey
    exact ⟨W2, .refl _, e' ▸ r2, qx.mono le2⟩
  . intro hl
    exact ⟨xs, SqL.of s2, by rw [z1.length]; exact hl⟩
theorem cell_list {W : Wd} {μ : Mu} {H : Hp} {k : Nat} {a : Addr} {ds : List D} (r : Rel K fl W μ H) (hb : W.b k = some a) (hk : μ k = some (.lst ds)) : ∃ xs, H a = some (.lst xs) /\ Reps K W ds xs := by
  obtain ⟨a', e1, e2, xs, e3, q3⟩ := r.cel k _ hk
  rw [hb] at e1; cases e1
  exact ⟨xs, e3, q3⟩
theorem it_cell {W : Wd} {k : Nat} {a : Addr} {ds : List D} (hb : W.b k = some a) : ItR K fl W (Itl K a) ds (fun μ' => μ' k = some (.lst ds)) := fun W2 μ2 H2 le2 r2 pm i => by
  obtain ⟨xs, s2, z1⟩ := cell_list r2 (le2.b _ _ hb) pm
  constructor
  . intro d hd
    obtain ⟨x, ex, qx⟩ := z1.get hd
    refine ⟨⟨xs, x, SqL.of s2, ex⟩, fun y H' hy => ?_⟩
    obtain ⟨e', y'⟩ := hy
    have ey := y' xs (SqL.of s2)
    rw [ex] at ey; cases ey
    exact ⟨W2, .refl _, e' ▸ r2, qx⟩
  . intro hl
    exact ⟨xs, SqL.of s2, by rw [z1.length]; exact hl⟩
instance [a : SimE K fl te we] : SimI K fl (iSeq K te) (diSeq we) := ⟨fun {W ρ μ σ H Q Q'} r e h k => a.run r e h fun W1 d μ1 x H1 le1 r1 q1 h1 => by
  unfold seqM at h1
  split at h1
  . rename_i c
    obtain ⟨p, rfl, hb⟩ := q1.cell'
    split at h1
    . rename_i ds hk
      obtain ⟨xs, s1, z1⟩ := cell_list r1 hb hk
      exact .inl ⟨p, rfl, ⟨xs, SqL.of s1⟩, k W1 _ ds _ μ1 H1 le1 r1 (it_cell hb) h1⟩
    . exact h1.elim
  . cases hd : seqD d with
    | none => rw [hd] at h1; exact h1.elim
    | some ds =>
      rw [hd] at h1
      have h1 : Q ds (fun _ => True) μ1 := h1
      unfold seqD at hd
      split at hd
      . cases hd
        obtain ⟨p, xs, rfl, s1, z1⟩ := q1.lst'
        exact .inl ⟨p, rfl, ⟨xs, SqL.of (r1.sub _ _ s1)⟩, k W1 _ ds _ μ1 H1 le1 r1 (it_list z1 fun W2 μ2 H2 le2 r2 _ => r2.sub _ _ (le2.F _ _ s1)) h1⟩
      . cases hd
        obtain ⟨p, xs, rfl, s1, z1⟩ := q1.tup'
        refine .inr (.inl ⟨p, rfl, ⟨xs, s1.sm r1.sub⟩, k W1 _ ds _ μ1 H1 le1 r1 (fun W2 μ2 H2 le2 r2 _ i => ?_) h1⟩)
        have s2 : SqT K H2 p xs := (s1.sm le2.F).sm r2.sub
        constructor
        . intro d hd
          obtain ⟨x, ex, qx⟩ := z1.get hd
          refine ⟨⟨xs, x, s2, ex⟩, fun y H' hy => ?_⟩
          obtain ⟨e', y'⟩ := hy
          have ey := y' xs s2
          rw [ex] at ey; cases ey
          exact ⟨W2, .refl _, e' ▸ r2, qx.mono le2⟩
        . intro hl
          exact ⟨xs, s2, by rw [z1.length]; exact hl⟩
      . rename_i y _
        split at hd
        . rename_i ha
          cases hd
          rw [q1.s']
          refine .inr (.inr ⟨y, rfl, ha, k W1 _ _ _ μ1 H1 le1 r1 (fun W2 μ2 H2 le2 r2 _ i => ?_) h1⟩)
          constructor
          . intro d hd
            rw [List.getElem?_map] at hd
            cases hc : y.cps.toList[i]? with
            | none => rw [hc] at hd; cases hd
            | some c =>
              rw [hc] at hd
              cases hd
              have hi : i < y.cps.size := by have := (List.getElem?_eq_some_iff.mp hc).1; rwa [Array.length_toList] at this
              refine ⟨hi, fun x H' hy => ?_⟩
              obtain ⟨e', c', hc', rfl⟩ := hy
              rw [hc] at hc'; cases hc'
              exact ⟨W2, .refl _, e' ▸ r2, .s⟩
          . intro hl
            rw [List.length_map, Array.length_toList] at hl
            exact hl
        . cases hd
      . cases hd⟩
instance [a : SimA K fl ta wa] : SimI K fl (iRng1 ta) (diRng1 wa) := ⟨fun {W ρ μ σ H Q Q'} r e h k => a.run r e h fun W1 ds μ1 xs H1 le1 r1 q1 h1 => by
  split at h1
  . obtain ⟨x, rfl, q⟩ := q1.one
    rw [q.i']
    exact ⟨_, rfl, h1.1, h1.2.1, k W1 _ _ _ μ1 H1 le1 r1 (it_range _ _ _ _) h1.2.2⟩
  . exact h1.elim⟩
end
abbrev DM := D -> List D -> Mu -> DK -> Prop
class SimM (K : PySem.W.Frag) (fl : Wd) (T : String) (r : V -> List V -> Hp -> VK -> Prop) (q : DM) : Prop where
  run : ∀ {W μ H d x ds xs Q Q'}, Rel K fl W μ H -> Rep K W d x -> Reps K W ds xs -> q d ds μ Q -> KV' K fl W Q Q' -> r x xs H Q'
def tyM (T : String) (μ : Mu) (d : D) : Prop := tyD μ d = some T
def dBM (T : String) (q : DM) (wo : DE) (w : DA) : DE := fun ρ μ Q => wo ρ μ fun d μ1 => tyM T μ1 d /\ w ρ μ1 fun ds μ2 => q d ds μ2 Q
def dBM0 (T : String) (q : DM) (wo : DE) : DE := fun ρ μ Q => wo ρ μ fun d μ1 => tyM T μ1 d /\ q d [] μ1 Q
theorem tyM_run {K : PySem.W.Frag} {fl : Wd} {W : Wd} {μ : Mu} {H : Hp} {d : D} {x : V} {T : String} (hT : T = "list" \/ T = "str" \/ T = "dict") (r : Rel K fl W μ H) (q : Rep K W d x) (h : tyM T μ d) : tyV K T x H := by
  have ty := ty_run r q h
  cases ty with
  | non => rcases hT with h | h | h <;> exact absurd h (by decide)
  | bl => rcases hT with h | h | h <;> exact absurd h (by decide)
  | int => rcases hT with h | h | h <;> exact absurd h (by decide)
  | str => rfl
  | flt => rcases hT with h | h | h <;> exact absurd h (by decide)
  | lst e => exact .inl ⟨rfl, _, SqL.of e⟩
  | frz e => exact .inl ⟨rfl, _, .inl (.inr ⟨_, e⟩)⟩
  | tup => rcases hT with h | h | h <;> exact absurd h (by decide)
  | dK e => exact .inr (.inr (.inl ⟨rfl, .inl ⟨_, e⟩⟩))
  | dT e => exact .inr (.inr (.inl ⟨rfl, .inr ⟨_, e⟩⟩))
section
variable {K : PySem.W.Frag} {fl : Wd} {to : TE} {wo : DE} {t : TA} {w : DA} {r : V -> List V -> Hp -> VK -> Prop} {q : DM}
theorem bm_sim {T : String} (hT : T = "list" \/ T = "str" \/ T = "dict") [a : SimE K fl to wo] [b : SimA K fl t w] [o : SimM K fl T r q] : SimE K fl (tBM K T r to t) (dBM T q wo w) := ⟨fun r e h k => a.run r e h fun W1 d μ1 x H1 le1 r1 q1 h1 =>
  ⟨tyM_run hT r1 q1 h1.1, b.run r1 (e.mono le1) h1.2 fun W2 ds μ2 xs H2 le2 r2 q2 h2 => o.run r2 (q1.mono le2) q2 h2 fun W3 d3 μ3 x3 H3 le3 => k W3 d3 μ3 x3 H3 (le1.trans (le2.trans le3))⟩⟩
instance [a : SimE K fl to wo] [b : SimA K fl t w] [o : SimM K fl "list" r q] : SimE K fl (tBM K "list" r to t) (dBM "list" q wo w) := bm_sim (.inl rfl)
instance [a : SimE K fl to wo] [b : SimA K fl t w] [o : SimM K fl "str" r q] : SimE K fl (tBM K "str" r to t) (dBM "str" q wo w) := bm_sim (.inr (.inl rfl))
end
def cellL (μ : Mu) (d : D) (Q : Nat -> List D -> Prop) : Prop := match d with
  | .cell k => match μ k with
    | some (.lst ds) => Q k ds
    | _ => False
  | _ => False
theorem cellL_run {K : PySem.W.Frag} {fl : Wd} {W : Wd} {μ : Mu} {H : Hp} {d : D} {x : V} {Q : Nat -> List D -> Prop} (r : Rel K fl W μ H) (q : Rep K W d x) (h : cellL μ d Q) : ∃ k ds a xs, x = .ref a /\ W.b k = some a /\ μ k = some (.lst ds) /\ H a = some (.lst xs) /\ Reps K W ds xs /\ Q k ds := by
  unfold cellL at h
  split at h
  . rename_i k
    obtain ⟨a, rfl, hb⟩ := q.cell'
    split at h
    . rename_i ds hk
      obtain ⟨a', e1, e2, xs, e3, q3⟩ := r.cel k _ hk
      rw [hb] at e1; cases e1
      exact ⟨k, ds, a, xs, rfl, hb, hk, e3, q3, h⟩
    . exact h.elim
  . exact h.elim
def dAppend : DM := fun d es μ Q => match es with
  | [e] => cellL μ d fun k ds => ds.length < sizeLine /\ Q .non (mset μ k (.lst (ds ++ [e])))
  | _ => False
def dPopM : DM := fun d es μ Q => match es with
  | [] => cellL μ d fun k ds => match ds[ds.length - 1]? with
    | some y => Q y (mset μ k (.lst ds.dropLast))
    | none => False
  | [.int i] => cellL μ d fun k ds => -(2 ^ 63) <= i /\ i < 2 ^ 63 /\ match ixN ds.length i with
    | some j => match ds[j]? with
      | some y => Q y (mset μ k (.lst (ds.eraseIdx j)))
      | none => False
    | none => False
  | _ => False
def dSetIx : D -> D -> D -> Mu -> (Mu -> Prop) -> Prop := fun d i v μ Q => match i with
  | .int i => cellL μ d fun k ds => match ixN ds.length i with
    | some j => Q (mset μ k (.lst (ds.set j v)))
    | none => False
  | _ => False
def dgSub (wo wi : DE) (q : D -> D -> D -> Mu -> (Mu -> Prop) -> Prop) : DG := fun v ρ μ Q => wo ρ μ fun d μ1 => wi ρ μ1 fun i μ2 => q d i v μ2 fun μ3 => Q ρ μ3
section
variable {K : PySem.W.Frag} {fl : Wd}
instance : SimM K fl "list" rAppend dAppend := ⟨fun {W μ H d x ds xs Q Q'} r q z h k => by
  unfold dAppend at h
  split at h
  . obtain ⟨y, rfl, qy⟩ := z.one
    obtain ⟨c, es, a, ys, rfl, hb, hk, ha, z2, hz, h⟩ := cellL_run r q h
    exact ⟨a, ys, y, rfl, rfl, ha, by rw [z2.length]; exact hz, k _ _ _ _ _ (.refl _) (r.setC (c' := .lst _) hk hb ⟨_, rfl, z2.append (.cons qy .nil)⟩) .n h⟩
  . exact h.elim⟩
end
theorem draw_cell {K : PySem.W.Frag} {fl : Wd} {W : Wd} {μ : Mu} {H : Hp} {k : Nat} {a : Addr} (r : Rel K fl W μ H) (hk : μ k = some .draw) (ha : W.b k = some a) : ∃ l, DrawAt H a l /\ W.F a = none /\ (∃ ns : List Int, W.F l = some (.lst (ns.map V.int))) /\
    ∀ H', DrawAt H' a l -> OnlyAt a H H' -> Rel K fl W μ H' := by
  obtain ⟨a', e1, e2, l, ns, i, b, c, e3, e4, hi, hb⟩ := r.cel k _ hk
  rw [ha] at e1; cases e1
  have hal : a ≠ l := fun z => by rw [<- z, e2] at e4; cases e4
  refine ⟨l, ⟨ns, i, b, c, e3, r.sub _ _ e4, hi, hb, hal⟩, e2, ⟨ns, e4⟩, fun H' d o => ⟨fun x u e => ?_, r.fin, fun j ct e => ?_, r.inj, r.up⟩⟩
  . rw [o x (fun z => by rw [z, e2] at e; cases e)]; exact r.sub _ _ e
  . by_cases hj : j = k
    . subst hj
      rw [hk] at e; cases e
      obtain ⟨ns', i', b', c', f1, f2, f3, f4, f5⟩ := d
      exact ⟨a, ha, e2, l, ns, i', b', c', f1, e4, f3, f4⟩
    . obtain ⟨x, f1, f2, q⟩ := r.cel j ct e
      have hx : x ≠ a := fun z => hj (r.inj j k _ _ a e hk (z ▸ f1) ha)
      exact ⟨x, f1, f2, by rw [o x hx]; exact q⟩
class SimSp (K : PySem.W.Frag) (fl : Wd) (sp : Sp) (dsp : DSp) : Prop where
  run : ∀ {W μ H ds vs Q Q'} (E : XK), Rel K fl W μ H -> Reps K W ds vs -> dsp ds μ Q -> KV' K fl W Q Q' -> sp vs H Q' E
instance {K : PySem.W.Frag} {fl : Wd} {sp : Sp} {dsp : DSp} {E : XK} {t : TA} {w : DA} [a : SimA K fl t w] [o : SimSp K fl sp dsp] : SimE K fl (tCall sp [] E t) (dCall dsp w) := ⟨fun {W ρ μ σ H Q Q'} r e h k =>
  a.run r e h fun W1 ds μ1 xs H1 le1 r1 q1 h1 => o.run E r1 (by rw [List.append_nil]; exact q1) h1 fun W2 d μ2 x H2 le2 => k W2 d μ2 x H2 (le1.trans le2)⟩
def dspDraw : DSp := fun ds μ Q => match ds with
  | [.cell k, .int many] => μ k = some .draw /\ 0 < many /\ many < 2 ^ 250 /\ ∀ v, 0 <= v -> v < many -> Q (.int v) μ
  | _ => False
instance {K : PySem.W.Frag} {fl : Wd} : SimSp K fl spDrawL dspDraw := ⟨fun {W μ H ds vs Q Q'} E r z h k => by
  unfold dspDraw at h
  split at h
  . rename_i c many
    obtain ⟨x, y, rfl, q1, q2⟩ := z.two
    obtain ⟨a, rfl, hb⟩ := q1.cell'
    rw [q2.i']
    obtain ⟨hk, h1, h2, h⟩ := h
    obtain ⟨l, d, _, _, fin⟩ := draw_cell r hk hb
    exact ⟨a, l, many, rfl, d, h1, h2, fun v H' l1 l2 d' o => k W _ μ _ H' (.refl _) (fin H' d' o) .i (h v l1 l2)⟩
  . exact h.elim⟩
def dspStart : DSp := fun ds μ Q => match ds with
  | [.scr _] => ∀ k, μ k = none -> Q (.cell k) (mset μ k .draw)
  | _ => False
end L2

namespace L2
open PySem PySem.Spec PyProof.Rows
section
variable {K : PySem.W.Frag} {fl : Wd} {W W' : Wd} {μ μ' : Mu} {H H' : Hp}
theorem Rel.same (r : Rel K fl W μ H) (s : Same H H') : Rel K fl W μ H' := ⟨fun b o e => s _ _ (r.sub _ _ e), r.fin, fun k c e => by
  obtain ⟨a, e1, e2, q⟩ := r.cel k c e
  obtain ⟨u, eu⟩ := q.some
  exact ⟨a, e1, e2, by rw [s _ _ eu, <- eu]; exact q⟩, r.inj, r.up⟩
theorem Rel.newAt {p : Addr} (r : Rel K fl W μ H) (hp : H p = none) : W.F p = none /\ ∀ k c, μ k = some c -> W.b k ≠ some p := by
  constructor
  . cases e : W.F p with
    | none => rfl
    | some u => rw [r.sub _ _ e] at hp; cases hp
  . intro k c e h
    obtain ⟨a, e1, _, q⟩ := r.cel k c e
    obtain ⟨u, eu⟩ := q.some
    rw [h] at e1; cases e1
    rw [hp] at eu; cases eu
theorem Rel.adoptF {p : Addr} {o : HO} (r : Rel K fl W μ H) (hp : H p = some o) (hF : W.F p = none) (hc : ∀ k c, μ k = some c -> W.b k ≠ some p) : Rel K fl ⟨W.b, upd W.F p o⟩ μ H /\ W.le ⟨W.b, upd W.F p o⟩ := by
  have le : W.le ⟨W.b, upd W.F p o⟩ := ⟨fun _ _ h => h, same_upd hF⟩
  refine ⟨⟨fun b u e => ?_, r.fin, fun k c e => ?_, r.inj, r.up.trans le⟩, le⟩
  . have e' : (upd W.F p o) b = some u := e
    by_cases hb : b = p
    . subst hb; rw [upd_same] at e'; cases e'; exact hp
    . rw [upd_ne hb] at e'; exact r.sub _ _ e'
  . obtain ⟨a, e1, e2, q⟩ := r.cel k c e
    have ha : a ≠ p := fun z => hc k c e (z ▸ e1)
    exact ⟨a, e1, by show upd W.F p o a = none; rw [upd_ne ha]; exact e2, q.mono le⟩
theorem Rel.adoptC {p : Addr} {c : Ct} (r : Rel K fl W μ H) (hF : W.F p = none) (hc : ∀ k c, μ k = some c -> W.b k ≠ some p) (hq : Ctn K W c (H p)) : ∃ (k : Nat) (W' : Wd), μ k = none /\ W.le W' /\ Rel K fl W' (mset μ k c) H /\ W'.b k = some p := by
  obtain ⟨n, hn⟩ := r.fin
  have hk : μ n = none := by
    cases e : μ n with
    | none => rfl
    | some c => obtain ⟨a, e1, _⟩ := r.cel n c e; rw [hn n (Nat.le_refl _)] at e1; cases e1
  have le : W.le ⟨fun j => if j = n then some p else W.b j, W.F⟩ := ⟨fun k a e => by
    show (if k = n then some p else W.b k) = some a
    rw [if_neg (fun z => by rw [z, hn n (Nat.le_refl _)] at e; cases e)]; exact e, fun _ _ h => h⟩
  refine ⟨n, ⟨fun j => if j = n then some p else W.b j, W.F⟩, hk, le, ⟨r.sub, ⟨n + 1, fun k hk => ?_⟩, fun k c' e => ?_, fun k k' c1 c2 a e e' q q' => ?_, r.up.trans le⟩, if_pos rfl⟩
  . show (if k = n then some p else W.b k) = none
    rw [if_neg (by omega)]; exact hn k (by omega)
  . by_cases ek : k = n
    . subst ek
      rw [mset_same] at e; cases e
      exact ⟨p, if_pos rfl, hF, hq.mono le⟩
    . rw [mset_ne ek] at e
      obtain ⟨a, e1, e2, q⟩ := r.cel k c' e
      exact ⟨a, by show (if k = n then some p else W.b k) = some a; rw [if_neg ek]; exact e1, e2, q.mono le⟩
  . have q1 : (if k = n then some p else W.b k) = some a := q
    have q2 : (if k' = n then some p else W.b k') = some a := q'
    by_cases ek : k = n
    . by_cases ek' : k' = n
      . rw [ek, ek']
      . rw [if_pos ek] at q1; rw [if_neg ek'] at q2
        rw [mset_ne ek'] at e'
        cases q1
        exact absurd q2 (hc _ _ e')
    . by_cases ek' : k' = n
      . rw [if_neg ek] at q1; rw [if_pos ek'] at q2
        rw [mset_ne ek] at e
        cases q2
        exact absurd q1 (hc _ _ e)
      . rw [if_neg ek] at q1; rw [if_neg ek'] at q2
        rw [mset_ne ek] at e; rw [mset_ne ek'] at e'
        exact r.inj k k' _ _ a e e' q1 q2
end
instance {K : PySem.W.Frag} {fl : Wd} : SimSp K fl (spStartL K) dspStart := ⟨fun {W μ H ds vs Q Q'} E r z h k => by
  unfold dspStart at h
  split at h
  . rename_i ns
    obtain ⟨x, rfl, q⟩ := z.one
    unfold Rep at q
    obtain ⟨a, rfl, hs⟩ := q
    refine ⟨a, ns, rfl, hs.sm r.sub, fun p l H' hp hl d sm => ?_⟩
    obtain ⟨ns', i, b, c, e1, e2, hi, hb, hne⟩ := d
    have r1 := r.same sm
    obtain ⟨f1, g1⟩ := r.newAt hl
    obtain ⟨r2, le2⟩ := r1.adoptF e2 f1 g1
    obtain ⟨f2, g2⟩ := r.newAt hp
    have f2' : (upd W.F l (.lst (ns'.map V.int))) p = none := by rw [upd_ne hne]; exact f2
    obtain ⟨j, W3, hj, le3, r3, e3⟩ := r2.adoptC (c := .draw) (p := p) f2' g2 ⟨l, ns', i, b, c, e1, upd_same, hi, hb⟩
    exact k W3 _ _ _ _ (le2.trans le3) r3 (by unfold Rep; exact ⟨p, rfl, e3⟩) (h j hj)
  . exact h.elim⟩
def dspLaw : DSp := fun ds μ Q => ∃ ns, ds = [.scr ns] /\ ns.length <= 63 /\ ∀ μ', Q (.bl true) μ'
def spLaw (K : PySem.W.Frag) : Sp := fun vs H Q _ => ∃ (a : Addr) (ns : List Int), vs = [.ref a] /\ SqL K H a (ns.map V.int) /\ ns.length <= 63 /\ ∀ H', Q (.bl true) H'
theorem law_lift {K : PySem.W.Frag} (vs : List V) (H : Hp) (Q : VK) (E : XK) (h : spLaw K vs H Q E) : lift K dspLaw vs H Q E := by
  obtain ⟨a, ns, rfl, hs, hl, q⟩ := h
  refine ⟨⟨fun _ => none, fun _ => none⟩, ⟨fun _ => none, fun b => if b = a then H a else none⟩, fun _ => none, [.scr ns], fun d _ => d = .bl true, ⟨fun b o e => ?_, ⟨0, fun _ _ => rfl⟩, fun k c e => (by cases e), fun k k' c c' x e => (by cases e), ⟨fun _ _ e => (by cases e), fun _ _ e => (by cases e)⟩⟩, .cons ?_ .nil, ⟨ns, rfl, hl, fun _ => rfl⟩, fun W' d μ' x H' _ _ r e => ?_⟩
  . have e' : (if b = a then H a else none) = some o := e
    by_cases hb : b = a
    . rw [if_pos hb] at e'; rw [hb]; exact e'
    . rw [if_neg hb] at e'; cases e'
  . unfold Rep
    refine ⟨a, rfl, ?_⟩
    rcases hs with h | h
    . refine .inl ?_
      rcases h with h | ⟨o, h⟩
      . exact .inl (by show (if a = a then H a else none) = _; rw [if_pos rfl]; exact h)
      . exact .inr ⟨o, by show (if a = a then H a else none) = _; rw [if_pos rfl]; exact h⟩
    . exact .inr h
  . subst e
    rw [r.b']
    exact q H'
theorem qs_asgThaw {X : Cx} {s : Stmt} {t : TE} {g : TG} (h : WS X s (tAsg t g)) : WS X s (tAsg (tThaw t) g) := h
theorem op_notInG {X : Cx} (K : PySem.W.Frag) {k : Nat} {cm : Bool} (hr : RoomC cm k X.A) (h : X.K = K := by rfl) : OpR X (compareOp .NotIn) (rIn K true) := op_notInK K h
end L2
namespace L2
open PySem PySem.Spec PyProof.Rows
def ends (Q : DK) : DEnds := { nx := fun _ μ' => ∃ μ'', MLe μ'' μ' /\ Q .non μ'', rt := fun d μ' => ∃ μ'', MLe μ'' μ' /\ Q d μ'' }
def bodySp (w : DS) (N : List Str) (n : Nat) : DSp := fun ds μ Q => ds.length = n /\ w (ends Q) (startD N ds) μ
section
variable {P : Program} {w : World} {K : PySem.W.Frag} {fl : Wd} {mg : Str -> Option Value} {base : Heap}
theorem Fun.okB {x qual : Str} {st : Stmt} {f : Addr} {fd : FuncData} {N ps : List Str} {k n : Nat} (dw : DS) (F : Fun K x qual st f fd) (S : FnScope N ps (defScope st)) (len : ps.length = n)
    (hbody : ∀ (cdv : Value) (A : Around) (outer : List Env) (s : Shared) (H : Hp) (E : XK), Room k (A.deeper (envOfC qual (defScope st) s.heap.objs.size f cdv)) ->
      ∃ t, WSs (cxOf CX0 P w K mg base N qual (defScope st) f cdv A outer s H E).nox (defBody st) t /\ ∀ fl, SimS K fl t dw) : FnOk P w K mg base CX0 (k + 1) f fd ps (lift K (bodySp dw N n)) := by
  refine F.okq S (fun vs H Q E h => ?_) (fun cdv A outer s H vs Q E hr h => ?_)
  . obtain ⟨_, W, μ, ds, Q0, _, r, h, _⟩ := h
    rw [r.length, h.1, len]
  . obtain ⟨fl, W, μ, ds, Q0, rel, r, h, k⟩ := h
    obtain ⟨t, ht, sm⟩ := hbody cdv A outer s H E hr
    refine ⟨t, ht, (sm W).run (rel.floor (.refl W)) (.start r) h.2 ⟨fun W' ρ μ σ H le rr ee hh => ?_, fun _ _ _ _ _ _ _ _ hh => hh.elim, fun _ _ _ _ _ _ _ _ hh => hh.elim, fun W' d μ x H le rr ee hh => ?_⟩⟩
    . obtain ⟨μ'', l, hh⟩ := hh
      exact k W' .non μ'' _ H le ((rr.floor (rel.up.trans le)).less l) .n hh
    . obtain ⟨μ'', l, hh⟩ := hh
      exact k W' d μ'' x H le ((rr.floor (rel.up.trans le)).less l) ee hh
end
theorem lift_imp {K : PySem.W.Frag} {dsp dsp' : DSp} (h : ∀ ds μ Q, dsp ds μ Q -> dsp' ds μ Q) {vs : List V} {H : Hp} {Q : VK} {E : XK} (q : lift K dsp vs H Q E) : lift K dsp' vs H Q E := by
  obtain ⟨fl, W, μ, ds, Q0, a, b, c, d⟩ := q
  exact ⟨fl, W, μ, ds, Q0, a, b, h _ _ _ c, d⟩
end L2

namespace L2
open PySem PySem.Spec PyProof.Rows
section
variable {Pm : Mu -> Prop} {g : DG} {wb : DS} {D' : DEnds} {ds : List D} {ρ : DEnv} {μ : Mu} {wc : DT} {we : DE} {ρb : DEnv} {Fin : List D -> Mu -> Prop} {ys : List D}
theorem dLoop_by (I : Nat -> DEnv -> Mu -> Prop) (h0 : I 0 ρ μ)
    (step : ∀ i d ρ μ, ds[i]? = some d -> I i ρ μ -> ∀ N : DEnv -> Mu -> Prop, (∀ ρ' μ', I (i + 1) ρ' μ' -> N ρ' μ') -> g d ρ μ fun ρ2 μ2 => wb { D' with nx := N, ct := N, bk := D'.nx } ρ2 μ2)
    (fin : ∀ ρ μ, I ds.length ρ μ -> D'.nx ρ μ) (hP : ∀ i ρ μ, I i ρ μ -> Pm μ := by exact fun _ _ _ _ => trivial) : dLoop g wb D' Pm ds ρ μ := by
  have key : ∀ (n i : Nat) ρ μ, i + n = ds.length -> I i ρ μ -> dLoop g wb D' Pm (ds.drop i) ρ μ := by
    intro n
    induction n with
    | zero =>
      intro i ρ μ hi hI
      rw [List.drop_eq_nil_of_le (by omega)]
      have : i = ds.length := by omega
      subst this
      exact ⟨hP _ _ _ hI, fin ρ μ hI⟩
    | succ n ih =>
      intro i ρ μ hi hI
      rw [List.drop_eq_getElem_cons (by omega)]
      exact ⟨hP _ _ _ hI, step i _ ρ μ (List.getElem?_eq_getElem (by omega)) hI _ fun ρ' μ' h => ih (i + 1) ρ' μ' (by omega) h⟩
  exact key ds.length 0 ρ μ (by omega) h0
theorem dCLoop_by (I : Nat -> List D -> Mu -> Prop) (h0 : I 0 ys μ)
    (step : ∀ i d ys μ, ds[i]? = some d -> I i ys μ -> ys.length < sizeLine /\ ∀ N : List D -> Mu -> Prop, (∀ ys' μ', I (i + 1) ys' μ' -> N ys' μ') -> g d ρb μ fun ρ2 μ2 => wc ρ2 μ2 fun b μ3 => if b = true then we ρ2 μ3 fun v μ4 => N (ys ++ [v]) μ4 else N ys μ3)
    (fin : ∀ ys μ, I ds.length ys μ -> Fin ys μ) (hP : ∀ i ys μ, I i ys μ -> Pm μ := by exact fun _ _ _ _ => trivial) : dCLoop g wc we ρb Pm Fin ds ys μ := by
  have key : ∀ (n i : Nat) ys μ, i + n = ds.length -> I i ys μ -> dCLoop g wc we ρb Pm Fin (ds.drop i) ys μ := by
    intro n
    induction n with
    | zero =>
      intro i ys μ hi hI
      rw [List.drop_eq_nil_of_le (by omega)]
      have : i = ds.length := by omega
      subst this
      exact ⟨hP _ _ _ hI, fin ys μ hI⟩
    | succ n ih =>
      intro i ys μ hi hI
      rw [List.drop_eq_getElem_cons (by omega)]
      obtain ⟨hz, st⟩ := step i _ ys μ (List.getElem?_eq_getElem (by omega)) hI
      exact ⟨hP _ _ _ hI, hz, st (fun ys' μ' => dCLoop g wc we ρb Pm Fin (ds.drop (i + 1)) ys' μ') fun ys' μ' h => ih (i + 1) ys' μ' (by omega) h⟩
  exact key ds.length 0 ys μ (by omega) h0
end
theorem rangeL_get? {lo : Int} {n i : Nat} {d : D} (h : ((rangeL lo n).map D.int)[i]? = some d) : i < n /\ d = .int (lo + i) := by
  rw [List.getElem?_map] at h
  by_cases hi : i < n
  . rw [rangeL_get hi] at h; cases h; exact ⟨hi, rfl⟩
  . rw [List.getElem?_eq_none (by rw [rangeL_length]; omega)] at h; cases h
theorem rangeD_length (lo : Int) (n : Nat) : ((rangeL lo n).map D.int).length = n := by rw [List.length_map, rangeL_length]
theorem dEq_int {i j : Int} {μ : Mu} {Q : DK} : dEq (.int i) (.int j) μ Q = Q (.bl (decide (i = j))) μ := by simp [dEq, dEqN]
theorem dNe_int {i j : Int} {μ : Mu} {Q : DK} : dNe (.int i) (.int j) μ Q = Q (.bl (!decide (i = j))) μ := by simp [dNe, dEqN]
theorem dNe_str {i j : Str} {μ : Mu} {Q : DK} : dNe (.str i) (.str j) μ Q = Q (.bl (!decide (i = j))) μ := by simp [dNe, dEqN]
theorem lookL_lst {μ : Mu} {ds : List D} : lookL μ (.lst ds) = some ds := rfl
theorem lookQ_cell {μ : Mu} {k : Nat} {ds : List D} (h : μ k = some (.lst ds)) : lookQ μ (.cell k) = some ds := by simp [lookQ, lookL, h]
end L2
namespace L2
open PySem PySem.Spec PyProof.Rows
def Pl : Nat -> D -> Prop
  | _, .non => True
  | _, .bl _ => True
  | _, .int _ => True
  | _, .str x => PyData.strOk x = true
  | n + 1, .tup ds => ∀ d ∈ ds, Pl n d
  | n + 1, .lst ds => ∀ d ∈ ds, Pl n d
  | _, _ => False
theorem Pl.pys {n : Nat} (ih : ∀ d, Pl n d -> ∃ p, toPy d = some p /\ p.canLay0 = true /\ p.depth <= n) : ∀ ds : List D, (∀ d ∈ ds, Pl n d) -> ∃ ps, toPys ds = some ps /\ PyData.canLayAll0 ps = true /\ PyData.depthAll ps <= n
  | [], _ => ⟨[], by unfold toPys; rfl, by unfold PyData.canLayAll0; rfl, by unfold PyData.depthAll; omega⟩
  | d :: ds, h => by
    obtain ⟨p, e, c, b⟩ := ih d (h d List.mem_cons_self)
    obtain ⟨ps, e', c', b'⟩ := Pl.pys ih ds fun x hx => h x (List.mem_cons_of_mem _ hx)
    refine ⟨p :: ps, by unfold toPys; rw [e, e'], by unfold PyData.canLayAll0; rw [c, c']; rfl, ?_⟩
    unfold PyData.depthAll
    omega
theorem Pl.py : ∀ (n : Nat) (d : D), Pl n d -> ∃ p, toPy d = some p /\ p.canLay0 = true /\ p.depth <= n := by
  intro n
  induction n with
  | zero =>
    intro d h
    cases d <;> first | exact h.elim | skip
    . exact ⟨_, by unfold toPy; rfl, by simp [PyData.canLay0], by simp [PyData.depth]⟩
    . exact ⟨_, by unfold toPy; rfl, by simp [PyData.canLay0], by simp [PyData.depth]⟩
    . exact ⟨_, by unfold toPy; rfl, by simp [PyData.canLay0], by simp [PyData.depth]⟩
    . exact ⟨_, by unfold toPy; rfl, by rw [PyData.canLay0]; exact h, by simp [PyData.depth]⟩
  | succ n ih =>
    intro d h
    cases d <;> first | exact h.elim | skip
    . exact ⟨_, by unfold toPy; rfl, by simp [PyData.canLay0], by simp [PyData.depth]⟩
    . exact ⟨_, by unfold toPy; rfl, by simp [PyData.canLay0], by simp [PyData.depth]⟩
    . exact ⟨_, by unfold toPy; rfl, by simp [PyData.canLay0], by simp [PyData.depth]⟩
    . exact ⟨_, by unfold toPy; rfl, by rw [PyData.canLay0]; exact h, by simp [PyData.depth]⟩
    . rename_i ds
      obtain ⟨ps, e, c, b⟩ := Pl.pys ih ds h
      exact ⟨.tuple ps, by unfold toPy; rw [e]; rfl, by rw [PyData.canLay0]; exact c, by rw [PyData.depth]; omega⟩
    . rename_i ds
      obtain ⟨ps, e, c, b⟩ := Pl.pys ih ds h
      exact ⟨.list ps, by unfold toPy; rw [e]; rfl, by rw [PyData.canLay0]; exact c, by rw [PyData.depth]; omega⟩
theorem toPyM_of {μ : Mu} {d : D} {p : PyData} (h : toPy d = some p) : toPyM μ d = some p := by
  cases d <;> first | exact h | (unfold toPy at h; cases h)
end L2
namespace L2
open PySem PySem.Spec PyProof.Rows
section
variable {D' : DEnds} {ρ : DEnv} {μ : Mu}
end
theorem cutD_hi {α : Type} (xs : List α) (n : Nat) : cutD xs none (some (n : Int)) = xs.take n := by
  unfold cutD
  rw [HT.sIx_none, HT.sIx_nat, List.drop_zero, Nat.sub_zero]
  rcases Nat.le_total n xs.length with h | h
  . rw [Nat.min_eq_left h]
  . rw [Nat.min_eq_right h, List.take_length, List.take_of_length_le h]
theorem cutD_lo {α : Type} (xs : List α) (n : Nat) : cutD xs (some (n : Int)) none = xs.drop n := by
  unfold cutD
  rw [HT.sIx_none, HT.sIx_nat]
  rcases Nat.le_total n xs.length with h | h
  . rw [Nat.min_eq_left h, List.take_of_length_le (by rw [List.length_drop]; omega)]
  . rw [Nat.min_eq_right h, Nat.sub_self, List.take_zero, List.drop_eq_nil_of_le h]
end L2

namespace L2
open PySem PySem.Spec PyProof.Rows
section
variable {X : Cx} {pins : List (Addr × Obj)} {σ : St} {H : Hp} {s : Shared} {h' : Heap}
end
def lsM (μ : Mu) (d : D) (Q : List D -> (Mu -> Prop) -> Prop) : Prop := match d with
  | .cell k => match μ k with
    | some (.lst ds) => Q ds fun μ' => μ' k = some (.lst ds)
    | _ => False
  | .lst ds => Q ds fun _ => True
  | _ => False
def pairD (p : D × D) : D := .tup [p.1, p.2]
def diZip (w : DA) : DI := fun ρ μ Q => w ρ μ fun es μ1 => match es with
  | [d, e] => lsM μ1 d fun ds P1 => lsM μ1 e fun es P2 => Q ((ds.zip es).map pairD) (fun μ' => P1 μ' /\ P2 μ') μ1
  | _ => False
end L2

namespace L2
open PySem PySem.Spec PyProof.Rows
section
variable {μ : Mu} {Q : DK} {α : Type}
theorem dIx_tup {ds : List D} {i : Int} : dIx (.tup ds) (.int i) μ Q = match atI ds i with
    | some v => Q v μ
    | none => False := rfl
theorem dIx_lst {ds : List D} {i : Int} : dIx (.lst ds) (.int i) μ Q = match atI ds i with
    | some v => Q v μ
    | none => False := rfl
theorem atI_0 {a : α} {r : List α} : atI (a :: r) 0 = some a := atI_nat (j := 0) rfl
theorem atI_1 {a b : α} {r : List α} : atI (a :: b :: r) 1 = some b := atI_nat (j := 1) rfl
theorem atI_2 {a b c : α} {r : List α} : atI (a :: b :: c :: r) 2 = some c := atI_nat (j := 2) rfl
theorem atI_3 {a b c d : α} {r : List α} : atI (a :: b :: c :: d :: r) 3 = some d := atI_nat (j := 3) rfl
theorem atI_4 {a b c d e : α} {r : List α} : atI (a :: b :: c :: d :: e :: r) 4 = some e := atI_nat (j := 4) rfl
theorem atI_m1 {a : α} : atI [a] (-1) = some a := rfl
theorem atI_m2 {a b : α} : atI [a, b] (-1) = some b := rfl
theorem atI_m3 {a b c : α} : atI [a, b, c] (-1) = some c := rfl
theorem atI_m4 {a b c d : α} : atI [a, b, c, d] (-1) = some d := rfl
theorem atI_m5 {a b c d e : α} : atI [a, b, c, d, e] (-1) = some e := rfl
theorem atI_neg1 {xs : List α} : atI xs (-1) = xs.getLast? := by
  rcases List.eq_nil_or_concat xs with rfl | ⟨ys, v, rfl⟩
  . rfl
  . rw [List.concat_eq_append, atI_last]; simp
end
theorem cut1 {s1 u : DS} {D' : DEnds} {ρ : DEnv} {μ : Mu} (R : DEnv -> Mu -> Prop) (h1 : ∀ N : DEnv -> Mu -> Prop, (∀ ρ' μ', R ρ' μ' -> N ρ' μ') -> s1 { D' with nx := N } ρ μ) (h2 : ∀ ρ' μ', R ρ' μ' -> u D' ρ' μ') : dSeq s1 u D' ρ μ := h1 _ h2
end L2

namespace L2
open PySem PySem.Spec PyProof.Rows
def blK (Q : Bool -> Mu -> Prop) : DK := fun d μ => match d with
  | .bl b => Q b μ
  | _ => False
def intK (Q : Int -> Mu -> Prop) : DK := fun d μ => match d with
  | .int b => Q b μ
  | _ => False
def chK (q' : DR2) (e : D) (wc : DE) (ρ : DEnv) (Q : DK) : DK := fun z μ3 => match z with
  | .bl k => if k = true then wc ρ μ3 fun f μ4 => q' e f μ4 Q else Q (.bl false) μ3
  | _ => False
def cellK (c : Option Ct) (Q : List D -> Prop) : Prop := match c with
  | some (.lst ds) => Q ds
  | _ => False
def optK {α : Type} (o : Option α) (Q : α -> Prop) : Prop := match o with
  | some a => Q a
  | none => False
def optM {α β : Type} (o : Option α) (f : α -> β) : Option β := match o with
  | some a => some (f a)
  | none => none
theorem optM_some {α β : Type} {a : α} {f : α -> β} : optM (some a) f = some (f a) := rfl
def frzK (c : Option Ct) (Q : DK) (μ : Mu) : Prop := match c with
  | some (.lst ds) => Q (.lst ds) μ
  | some (.dct ks vs) => Q (.dct ks vs) μ
  | some (.dtt ks vs) => Q (.dtt ks vs) μ
  | some (.ins C ns vs) => Q (.obj C ns vs) μ
  | _ => False
def tyC (T : String) (c : Option Ct) : Prop := match c with
  | some (.lst _) => "list" = T
  | some (.dct _ _) => "dict" = T
  | some (.dtt _ _) => "dict" = T
  | _ => False
section
variable {μ μ' : Mu} {Q : DK} {ρ : DEnv} {w wa wb wc : DE} {k : Nat} {d e : D} {ds es : List D} {i j : Int} {q q' : DR2} {α : Type} {D' : DEnds}
theorem blK_bl {b : Bool} {R : Bool -> Mu -> Prop} : blK R (.bl b) μ = R b μ := rfl
theorem intK_int {R : Int -> Mu -> Prop} : intK R (.int i) μ = R i μ := rfl
theorem chK_bl {b : Bool} : chK q' e wc ρ Q (.bl b) μ = if b = true then wc ρ μ fun f μ4 => q' e f μ4 Q else Q (.bl false) μ := rfl
theorem cellK_lst {R : List D -> Prop} : cellK (some (.lst ds)) R = R ds := rfl
theorem optK_some {a : α} {R : α -> Prop} : optK (some a) R = R a := rfl
theorem frzK_lst : frzK (some (.lst ds)) Q μ = Q (.lst ds) μ := rfl
theorem frzK_dct {ks : List Key} : frzK (some (.dct ks ds)) Q μ = Q (.dct ks ds) μ := rfl
theorem frzK_dtt {ks : List (List Key)} : frzK (some (.dtt ks ds)) Q μ = Q (.dtt ks ds) μ := rfl
theorem frzK_ins {C : Str} {ns : List Str} : frzK (some (.ins C ns ds)) Q μ = Q (.obj C ns ds) μ := rfl
theorem tyC_lst : tyC "list" (some (.lst ds)) = True := eq_true rfl
theorem e_test {R : Bool -> Mu -> Prop} : dTest w ρ μ R = w ρ μ (blK R) := rfl
theorem e_chain : dChain q q' wa wb wc ρ μ Q = wa ρ μ fun d μ1 => wb ρ μ1 fun e μ2 => q d e μ2 (chK q' e wc ρ Q) := rfl
theorem e_part {R : Option Int -> Mu -> Prop} : dPart w ρ μ R = w ρ μ (intK fun i => R (some i)) := rfl
theorem e_gcons {g : DG} {gs : DGs} {R : DEnv -> Mu -> Prop} : dgCons g gs (d :: ds) ρ μ R = g d ρ μ fun ρ' μ' => gs ds ρ' μ' R := rfl
theorem e_gtup {n : Nat} {gs : DGs} {R : DEnv -> Mu -> Prop} : dgTup n gs (.tup ds) ρ μ R = (ds.length = n /\ gs ds ρ μ R) := rfl
def parK (i j : Nat) (D0 : DEnds) (ρ : DEnv) : List D -> Mu -> Prop := fun ds μ1 => match ds with
  | [d, e] => D0.nx ((ρ.set i (some d)).set j (some e)) μ1
  | _ => False
theorem e_par {i j : Nat} {wA : DA} : dPar i j wA D' ρ μ = wA ρ μ (parK i j D' ρ) := rfl
theorem parK_two {i j : Nat} : parK i j D' ρ [d, e] μ = D'.nx ((ρ.set i (some d)).set j (some e)) μ := rfl
theorem e_frz : frzD μ (.cell k) Q = frzK (μ k) Q (mdel μ k) := by
  unfold frzD frzK
  cases h : μ k with
  | none => simp [h]
  | some c => cases c <;> simp [h]
theorem e_i0 {g : Int -> Int -> D} : dI0 g (.int i) (.int j) μ Q = Q (g i j) μ := rfl
theorem e_i {C : Int -> Int -> Prop} {g : Int -> Int -> D} : dI C g (.int i) (.int j) μ Q = (C i j /\ Q (g i j) μ) := rfl
theorem e_neg : dNeg (.int i) μ Q = Q (.int (-i)) μ := rfl
theorem e_add : dAdd (.int i) (.int j) μ Q = Q (.int (i + j)) μ := rfl
theorem e_adds {a b : Str} : dAdd (.str a) (.str b) μ Q = (a.length + b.length <= sizeLine /\ Q (.str (a ++ b)) μ) := rfl
theorem e_addt : dAdd (.tup ds) (.tup es) μ Q = (ds ≠ [] /\ ds.length + es.length <= sizeLine /\ Q (.tup (ds ++ es)) μ) := rfl
theorem e_addl : dAdd (.lst ds) (.lst es) μ Q = (ds.length + es.length <= sizeLine /\ Q (.lst (ds ++ es)) μ) := by
  show (∃ a b, lookL μ (.lst ds) = some a /\ lookL μ (.lst es) = some b /\ a.length + b.length <= sizeLine /\ Q (.lst (a ++ b)) μ) = _
  simp only [lookL_lst, Option.some.injEq]
  refine propext ⟨fun ⟨a, b, e1, e2, h⟩ => by subst e1 e2; exact h, fun h => ⟨_, _, rfl, rfl, h⟩⟩
theorem e_mul : dMul (.int i) (.int j) μ Q = (CMul i j /\ Q (.int (i * j)) μ) := rfl
theorem e_iadd : dIAdd (.int i) (.int j) μ Q = Q (.int (i + j)) μ := rfl
theorem e_ixt : dIx (.tup ds) (.int i) μ Q = optK (atI ds i) fun v => Q v μ := by
  rw [dIx_tup]; cases atI ds i <;> rfl
theorem e_ixl : dIx (.lst ds) (.int i) μ Q = optK (atI ds i) fun v => Q v μ := by
  rw [dIx_lst]; cases atI ds i <;> rfl
theorem e_ixs {z : Str} : dIx (.str z) (.int i) μ Q = (z.length <= sizeLine /\ optK (L2.atI z.cps.toList i) fun c => Q (.str ⟨#[c]⟩) μ) := by
  show (z.length <= sizeLine /\ (match L2.atI z.cps.toList i with | some c => Q (.str ⟨#[c]⟩) μ | none => False)) = _
  cases L2.atI z.cps.toList i <;> rfl
theorem e_slt {lo hi : Option Int} : dSlG (.tup ds) lo hi μ Q = (¬ (HT.sIx ds.length 0 lo = 0 /\ HT.sIx ds.length ds.length hi = ds.length) /\ Q (.tup (cutD ds lo hi)) μ) := rfl
theorem e_sll {lo hi : Option Int} : dSlG (.lst ds) lo hi μ Q = Q (.lst (cutD ds lo hi)) μ := rfl
theorem e_lens {z : Str} : dLen [.str z] μ Q = (z.length <= sizeLine /\ Q (.int z.length) μ) := rfl
theorem e_lenl : dLen [.lst ds] μ Q = Q (.int ds.length) μ := rfl
theorem e_lent : dLen [.tup ds] μ Q = Q (.int ds.length) μ := rfl
theorem e_listl : dList [.lst ds] μ Q = Q (.lst ds) μ := rfl
theorem e_listt : dList [.tup ds] μ Q = Q (.lst ds) μ := rfl
theorem e_listCl : dListC [.lst ds] μ Q = ∀ k, μ k = none -> Q (.cell k) (mset μ k (.lst ds)) := rfl
theorem e_listCt : dListC [.tup ds] μ Q = ∀ k, μ k = none -> Q (.cell k) (mset μ k (.lst ds)) := rfl
theorem e_tuplel : dTuple [.lst ds] μ Q = Q (.tup ds) μ := rfl
theorem e_tuplet : dTuple [.tup ds] μ Q = Q (.tup ds) μ := rfl
theorem e_abs : dAbs [.int i] μ Q = Q (.int (if i < 0 then -i else i)) μ := rfl
theorem e_max2 : dMax [.int i, .int j] μ Q = Q (.int (if j > i then j else i)) μ := rfl
theorem e_min2 : dMin [.int i, .int j] μ Q = Q (.int (if j < i then j else i)) μ := rfl
theorem e_maxl : dMax [.lst ds] μ Q = optK (intsOf ds) fun ns => ns ≠ [] /\ ∀ M ∈ ns, (∀ a ∈ ns, a <= M) -> Q (.int M) μ := by
  unfold dMax optK
  simp only [lookL_lst, Option.bind_some]
  cases intsOf ds <;> rfl
theorem e_minl : dMin [.lst ds] μ Q = optK (intsOf ds) fun ns => ns ≠ [] /\ ∀ M ∈ ns, (∀ a ∈ ns, M <= a) -> Q (.int M) μ := by
  unfold dMin optK
  simp only [lookL_lst, Option.bind_some]
  cases intsOf ds <;> rfl
theorem e_suml : dSum [.lst ds] μ Q = optK (intsOf ds) fun ns => Q (.int ns.sum) μ := by
  unfold dSum optK
  simp only [lookL_lst, Option.bind_some]
  cases intsOf ds <;> rfl
theorem e_alll : dAll [.lst ds] μ Q = optK (blsOf ds) fun ns => Q (.bl (ns.all id)) μ := by
  unfold dAll optK
  simp only [lookL_lst, Option.bind_some]
  cases blsOf ds <;> rfl
theorem e_anyl : dAny [.lst ds] μ Q = optK (blsOf ds) fun ns => Q (.bl (ns.any id)) μ := by
  unfold dAny optK
  simp only [lookL_lst, Option.bind_some]
  cases blsOf ds <;> rfl
theorem intsOf_nil : intsOf [] = some [] := rfl
theorem intsOf_cons : intsOf (.int i :: ds) = optM (intsOf ds) (fun l => i :: l) := by
  unfold optM
  simp only [intsOf]
  cases intsOf ds <;> rfl
theorem blsOf_nil : blsOf [] = some [] := rfl
theorem blsOf_cons {b : Bool} : blsOf (.bl b :: ds) = optM (blsOf ds) (fun l => b :: l) := by
  unfold optM
  simp only [blsOf]
  cases blsOf ds <;> rfl
theorem e_seql {R : List D -> (Mu -> Prop) -> Prop} : seqM μ (.lst ds) R = R ds fun _ => True := rfl
theorem e_seqt {R : List D -> (Mu -> Prop) -> Prop} : seqM μ (.tup ds) R = R ds fun _ => True := rfl
theorem e_lsl {R : List D -> (Mu -> Prop) -> Prop} : lsM μ (.lst ds) R = R ds fun _ => True := rfl
def rng1K (R : List D -> (Mu -> Prop) -> Mu -> Prop) : List D -> Mu -> Prop := fun ds μ1 => match ds with
  | [.int j] => -(2 ^ 62) <= j /\ j < 2 ^ 62 /\ R ((rangeL 0 j.toNat).map D.int) (fun _ => True) μ1
  | _ => False
def rng2K (R : List D -> (Mu -> Prop) -> Mu -> Prop) : List D -> Mu -> Prop := fun ds μ1 => match ds with
  | [.int i, .int j] => (-(2 ^ 62) <= i /\ i < 2 ^ 62 /\ -(2 ^ 62) <= j /\ j < 2 ^ 62) /\ R ((rangeL i (j - i).toNat).map D.int) (fun _ => True) μ1
  | _ => False
theorem e_rng1 {wA : DA} {R : List D -> (Mu -> Prop) -> Mu -> Prop} : diRng1 wA ρ μ R = wA ρ μ (rng1K R) := rfl
theorem rng1K_e {R : List D -> (Mu -> Prop) -> Mu -> Prop} : rng1K R [.int j] μ = (-(2 ^ 62) <= j /\ j < 2 ^ 62 /\ R ((rangeL 0 j.toNat).map D.int) (fun _ => True) μ) := rfl
theorem e_rng2 {wA : DA} {R : List D -> (Mu -> Prop) -> Mu -> Prop} : diRng2 wA ρ μ R = wA ρ μ (rng2K R) := rfl
theorem rng2K_e {R : List D -> (Mu -> Prop) -> Mu -> Prop} : rng2K R [.int i, .int j] μ = ((-(2 ^ 62) <= i /\ i < 2 ^ 62 /\ -(2 ^ 62) <= j /\ j < 2 ^ 62) /\ R ((rangeL i (j - i).toNat).map D.int) (fun _ => True) μ) := rfl
def zipK (R : List D -> (Mu -> Prop) -> Mu -> Prop) : List D -> Mu -> Prop := fun es μ1 => match es with
  | [d, e] => lsM μ1 d fun ds P1 => lsM μ1 e fun es P2 => R ((ds.zip es).map pairD) (fun μ' => P1 μ' /\ P2 μ') μ1
  | _ => False
theorem e_zip {wA : DA} {R : List D -> (Mu -> Prop) -> Mu -> Prop} : diZip wA ρ μ R = wA ρ μ (zipK R) := rfl
theorem zipK_e {R : List D -> (Mu -> Prop) -> Mu -> Prop} : zipK R [d, e] μ = lsM μ d fun ds P1 => lsM μ e fun es P2 => R ((ds.zip es).map pairD) (fun μ' => P1 μ' /\ P2 μ') μ := rfl
theorem e_draw {many : Int} : dspDraw [.cell k, .int many] μ Q = (μ k = some .draw /\ 0 < many /\ many < 2 ^ 250 /\ ∀ v, 0 <= v -> v < many -> Q (.int v) μ) := rfl
theorem e_start {ns : List Int} : dspStart [.scr ns] μ Q = ∀ k, μ k = none -> Q (.cell k) (mset μ k .draw) := rfl
theorem e_tyc {T : String} : tyM T μ (.cell k) = tyC T (μ k) := by
  unfold tyM tyD tyC
  cases h : μ k with
  | none => simp [h]
  | some c => cases c <;> simp [h]
theorem e_tyl : tyM "list" μ (.lst ds) = True := eq_true rfl
theorem e_tys {z : Str} : tyM "str" μ (.str z) = True := eq_true rfl
theorem e_cellL {R : Nat -> List D -> Prop} : cellL μ (.cell k) R = cellK (μ k) (R k) := by
  unfold cellL cellK
  cases h : μ k with
  | none => simp [h]
  | some c => cases c <;> simp [h]
theorem e_append : dAppend d [e] μ Q = cellL μ d fun k ds => ds.length < sizeLine /\ Q .non (mset μ k (.lst (ds ++ [e]))) := rfl
theorem e_pop0 : dPopM d [] μ Q = cellL μ d fun k ds => optK ds[ds.length - 1]? fun y => Q y (mset μ k (.lst ds.dropLast)) := by
  refine congrArg (cellL μ d) (funext fun k => funext fun ds => ?_)
  cases ds[ds.length - 1]? <;> rfl
theorem e_pop1 : dPopM d [.int i] μ Q = cellL μ d fun k ds => -(2 ^ 63) <= i /\ i < 2 ^ 63 /\ optK (ixN ds.length i) fun j => optK ds[j]? fun y => Q y (mset μ k (.lst (ds.eraseIdx j))) := by
  refine congrArg (cellL μ d) (funext fun k => funext fun ds => ?_)
  refine congrArg (And _) (congrArg (And _) ?_)
  unfold optK
  cases ixN ds.length i with
  | none => rfl
  | some j =>
    generalize ds.eraseIdx j = ee
    simp only
    cases ds[j]? <;> rfl
theorem e_setix {R : Mu -> Prop} : dSetIx d (.int i) e μ R = cellL μ d fun k ds => optK (ixN ds.length i) fun j => R (mset μ k (.lst (ds.set j e))) := by
  refine congrArg (cellL μ d) (funext fun k => funext fun ds => ?_)
  cases ixN ds.length i <;> rfl
theorem e_is : dIs d .non μ Q = Q (.bl (isNon d)) μ := rfl
theorem e_isnot : dIsNot d .non μ Q = Q (.bl (!isNon d)) μ := rfl
end
end L2

namespace L2
open PySem PySem.Spec PyProof.Rows
def enumD (ds : List D) : List D := ((List.range ds.length).zip ds).map fun p => .tup [.int p.1, p.2]
def enumK (R : List D -> (Mu -> Prop) -> Mu -> Prop) : List D -> Mu -> Prop := fun es μ1 => match es with
  | [d] => lsM μ1 d fun ds P1 => R (enumD ds) P1 μ1
  | _ => False
def diEnum (w : DA) : DI := fun ρ μ Q => w ρ μ (enumK Q)
theorem enumK_e {d : D} {μ : Mu} {R : List D -> (Mu -> Prop) -> Mu -> Prop} : enumK R [d] μ = lsM μ d fun ds P1 => R (enumD ds) P1 μ := rfl
section
variable {X : Cx} (K : PySem.W.Frag)
def rIsT : List V -> Hp -> VK -> Prop := fun xs H Q => ∃ a ys c b, xs = [.ref a, c] /\ SqT K H a ys /\ (∀ u, RelV c u -> PySem.W.kitOne K (.type "tuple") u = some b) /\ Q (.bl b) H
def rIsG : List V -> Hp -> VK -> Prop := fun xs H Q => rIsI K xs H Q \/ rIsT K xs H Q
theorem call_isiT (h : X.K = K := by rfl) : CallR X (.builtin "isinstance") (rIsT K) := by
  subst h
  intro pins s σ H xs us Q I r h
  obtain ⟨a, ys, c, b, rfl, hq, hk, q⟩ := h
  obtain ⟨u, w, rfl, ra, rc⟩ := vals2 r
  cases ra
  obtain ⟨its, rv, p, hz⟩ := I.tuple hq
  obtain ⟨o, h1, h2, _⟩ := p
  exact PySem.W.kia_one PySem.W.kitx_tuple I.kIn ⟨o, h1, h2⟩ (hk w rc) (fun z => nomatch z) fun tk => ⟨.bl b, H, I.tok _, rfl, q⟩
theorem call_isiG2 (h : X.K = K := by rfl) : CallR X (.builtin "isinstance") (rIsG K) := (call_isiG K h).or (call_isiT K h)
end
def dIsT : DRs := fun ds μ Q => match ds with
  | [.tup _, .ty T] => T ∈ tyNames /\ Q (.bl (isTy "tuple" T)) μ
  | ds => dIsI ds μ Q
theorem kit_tup {K : PySem.W.Frag} {T : String} (h' : T ∈ tyNames) : PySem.W.kitOne K (.type "tuple") (.type T) = some (isTy "tuple" T) := by
  simp only [tyNames, List.mem_cons, List.not_mem_nil, or_false] at h'
  rcases h' with rfl | rfl | rfl | rfl | rfl | rfl <;> rfl
instance {K : PySem.W.Frag} {fl : Wd} : SimRs K fl (rIsG K) dIsT := ⟨fun {W μ H ds xs Q Q'} r z h k => by
  unfold dIsT at h
  split at h
  . rename_i es T
    obtain ⟨x, y, rfl, q1, q2⟩ := z.two
    obtain ⟨a, ys, rfl, hs, _⟩ := q1.tup'
    unfold Rep at q2
    subst q2
    exact .inr ⟨a, ys, .ty T, isTy "tuple" T, rfl, hs.sm r.sub, fun u hu => by cases hu; exact kit_tup h.1, k _ _ _ _ _ (.refl _) r .b h.2⟩
  . exact .inl (SimRs.run (K := K) r z h k)⟩
inductive Src where
  | p (i : Nat) | k (i : Nat) | c (i : Nat)
def pick {α : Type} (d : α) (cs us ws : List α) : Src -> α
  | .p i => us.getD i d
  | .k i => ws.getD i d
  | .c i => cs.getD i d
def sel {α : Type} (n m : Nat) (pat : List Src) (d : α) (cs us ws : List α) : List α := bif (us.length == n && ws.length == m) then pat.map (pick d cs us ws) else []
theorem Vals.getD {vs : List V} {us : List Value} (h : Vals vs us) (i : Nat) : RelV (vs.getD i .non) (us.getD i .none) := by
  rw [List.getD_eq_getElem?_getD, List.getD_eq_getElem?_getD]
  cases e : vs[i]? with
  | none =>
    have : us[i]? = none := by
      rw [List.getElem?_eq_none_iff] at e ⊢
      rw [<- h.length]; exact e
    rw [this]; rfl
  | some v =>
    obtain ⟨u, hu, rv⟩ := h.get e
    rw [hu]; exact rv
theorem Vals.mapS {f : Src -> V} {g : Src -> Value} (h : ∀ x, RelV (f x) (g x)) : ∀ pat : List Src, Vals (pat.map f) (pat.map g)
  | [] => .nil
  | x :: r => .cons (h x) (Vals.mapS h r)
theorem sel_vals {n m : Nat} {pat : List Src} {csV vs zs : List V} {csU us ws : List Value} (hc : Vals csV csU) (h1 : Vals vs us) (h2 : Vals zs ws) : Vals (sel n m pat .non csV vs zs) (sel n m pat .none csU us ws) := by
  unfold sel
  rw [h1.length, h2.length]
  cases (us.length == n && ws.length == m) with
  | false => exact .nil
  | true =>
    refine Vals.mapS (fun x => ?_) pat
    cases x with
    | p i => exact h1.getD i
    | k i => exact h2.getD i
    | c i => exact hc.getD i
section
variable {K : PySem.W.Frag} {fl : Wd} {W : Wd}
theorem Reps.getD {ds : List D} {xs : List V} (h : Reps K W ds xs) (i : Nat) : Rep K W (ds.getD i .non) (xs.getD i .non) := by
  rw [List.getD_eq_getElem?_getD, List.getD_eq_getElem?_getD]
  cases e : ds[i]? with
  | none =>
    have : xs[i]? = none := by
      rw [List.getElem?_eq_none_iff] at e ⊢
      rw [h.length]; exact e
    rw [this]; exact .n
  | some v =>
    obtain ⟨u, hu, rv⟩ := h.get e
    rw [hu]; exact rv
theorem Reps.mapS {f : Src -> D} {g : Src -> V} (h : ∀ x, Rep K W (f x) (g x)) : ∀ pat : List Src, Reps K W (pat.map f) (pat.map g)
  | [] => .nil
  | x :: r => .cons (h x) (Reps.mapS h r)
theorem sel_reps {n m : Nat} {pat : List Src} {csV vs zs : List V} {csD ds es : List D} (hc : Reps K W csD csV) (h1 : Reps K W ds vs) (h2 : Reps K W es zs) : Reps K W (sel n m pat .non csD ds es) (sel n m pat .non csV vs zs) := by
  unfold sel
  rw [h1.length, h2.length]
  cases (ds.length == n && es.length == m) with
  | false => exact .nil
  | true =>
    refine Reps.mapS (fun x => ?_) pat
    cases x with
    | p i => exact h1.getD i
    | k i => exact h2.getD i
    | c i => exact hc.getD i
end
theorem kb_sel {K : PySem.W.Frag} {fd : FuncData} {ps ks : List Str} {n m : Nat} {pat : List Src} {csV : List V} {csU : List Value} (hc : Vals csV csU) (hp : ps.length ≠ 0)
    (h : ∀ (S : Setting) (us ws : List Value), us.length = n -> ws.length = m -> PySem.W.peek K S (bindArgs fd ⟨us, ks.zip ws⟩) = some (ps.zip (sel n m pat .none csU us ws))) : KBinds K fd ps ks (sel n m pat .none csU) (sel n m pat .non csV) where
  to := fun s us ws hK hl => by
    by_cases c : us.length = n /\ ws.length = m
    . exact PySem.W.kp_binds hK fun S => h S us ws c.1 c.2
    . have : (us.length == n && ws.length == m) = false := by
        rw [Bool.and_eq_false_iff]
        by_cases c1 : us.length = n
        . exact .inr (by rw [beq_eq_false_iff_ne]; exact fun z => c ⟨c1, z⟩)
        . exact .inl (by rw [beq_eq_false_iff_ne]; exact c1)
      unfold sel at hl
      rw [this] at hl
      exact absurd hl.symm hp
  rel := fun r rz => sel_vals hc r rz
class CRep (K : PySem.W.Frag) (ds : List D) (xs : List V) : Prop where
  run : ∀ W, Reps K W ds xs
instance {K : PySem.W.Frag} : CRep K [] [] := ⟨fun _ => .nil⟩
instance {K : PySem.W.Frag} {i : Int} {ds : List D} {xs : List V} [a : CRep K ds xs] : CRep K (.int i :: ds) (.int i :: xs) := ⟨fun W => .cons .i (a.run W)⟩
def dCallS (dsp : DSp) (n m : Nat) (pat : List Src) (cs : List D) (w wk : DA) : DE := fun ρ μ Q => w ρ μ fun ds μ1 => wk ρ μ1 fun es μ2 => dsp (sel n m pat .non cs ds es) μ2 Q
end L2

namespace L2
open PySem PySem.Spec PyProof.Rows
theorem vals_strs' : ∀ {us : List Value} {ns : List Str}, StrsAre us ns -> Vals (ns.map V.str) us
  | _, _, .nil => .nil
  | _, _, .cons n t h => .cons ⟨t, rfl⟩ (vals_strs' h)
theorem vals_ints' : ∀ {us : List Value} {ns : List Int}, IntsAre us ns -> Vals (ns.map V.int) us
  | _, _, .nil => .nil
  | _, _, .cons n t h => .cons ⟨t, rfl⟩ (vals_ints' h)
theorem strs_vals' : ∀ {ns : List Str} {us : List Value}, Vals (ns.map V.str) us -> StrsAre us ns
  | [], _, h => by cases h; exact .nil
  | y :: r, _, h => by
    cases h with
    | cons a b => obtain ⟨t, rfl⟩ := a; exact .cons y t (strs_vals' b)
section
variable {X : Cx} (K : PySem.W.Frag)
def rSortI : List V -> Hp -> VK -> Prop := fun xs H Q => ∃ p ns, xs = [.ref p] /\ SqL K H p (ns.map V.int) /\ ns.length < 64 /\ ∀ ns' l, List.Perm ns' ns -> List.Pairwise (· <= ·) ns' -> H l = none -> Q (.ref l) (upd H l (.lst (ns'.map V.int)))
def rSortS : List V -> Hp -> VK -> Prop := fun xs H Q => ∃ p ns, xs = [.ref p] /\ SqL K H p (ns.map V.str) /\ ns.length < 64 /\ ∀ ns' l, List.Perm ns' ns -> sortedS ns' = true -> H l = none -> Q (.ref l) (upd H l (.lst (ns'.map V.str)))
theorem call_sortI (h : X.K = K := by rfl) : CallR X (.builtin "sorted") (rSortI K) := by
  subst h
  intro pins s σ H xs us Q I r h
  obtain ⟨p, ns, rfl, hl, hz, q⟩ := h
  obtain ⟨u, rfl, rx⟩ := vals1 r
  cases rx
  obtain ⟨its, r', pl, hz'⟩ := I.list hl
  have hi := items_vals r'
  refine sorted_ints pl.isList hi (by rw [<- r'.length, List.length_map]; exact hz) fun out ns' h1 h2 h3 => ?_
  obtain ⟨e, he⟩ := sortedAll_at s.heap its out
  have hf : H (s.heap.objs.size + 1) = none := I.hok.fresh (Nat.le_succ _)
  refine ⟨.ref (s.heap.objs.size + 1), _, I.laid (a := s.heap.objs.size + 1) (o := .lst (ns'.map V.int)) (t' := s.toks) (fun b o e => sortedAll_old e) (Nat.le_succ _) ?_, rfl, q ns' _ h2 h3 hf⟩
  refine ⟨by rw [List.length_map, h2.length_eq]; exact Nat.le_trans (Nat.le_of_lt hz) (by decide), out.toList, e, vals_ints' h1, ?_⟩
  rw [he]
theorem call_sortS (h : X.K = K := by rfl) : CallR X (.builtin "sorted") (rSortS K) := by
  subst h
  intro pins s σ H xs us Q I r h
  obtain ⟨p, ns, rfl, hl, hz, q⟩ := h
  obtain ⟨u, rfl, rx⟩ := vals1 r
  cases rx
  obtain ⟨its, r', pl, hz'⟩ := I.list hl
  have hi := strs_vals' r'
  refine sorted_strs pl.isList hi (by rw [<- r'.length, List.length_map]; exact hz) fun out ns' h1 h2 h3 => ?_
  obtain ⟨e, he⟩ := sortedAll_at s.heap its out
  have hf : H (s.heap.objs.size + 1) = none := I.hok.fresh (Nat.le_succ _)
  refine ⟨.ref (s.heap.objs.size + 1), _, I.laid (a := s.heap.objs.size + 1) (o := .lst (ns'.map V.str)) (t' := s.toks) (fun b o e => sortedAll_old e) (Nat.le_succ _) ?_, rfl, q ns' _ h2 h3 hf⟩
  refine ⟨by rw [List.length_map, h2.length_eq]; exact Nat.le_trans (Nat.le_of_lt hz) (by decide), out.toList, e, vals_strs' h1, ?_⟩
  rw [he]
def rSortG : List V -> Hp -> VK -> Prop := fun xs H Q => rSortI K xs H Q \/ rSortS K xs H Q
theorem call_sortedG (h : X.K = K := by rfl) : CallR X (.builtin "sorted") (rSortG K) := (call_sortI K h).or (call_sortS K h)
end
def dSorted : DRs := fun ds μ Q => match ds with
  | [d] => (∃ ns, lookL μ d = some (ns.map D.int) /\ ns.length < 64 /\ ∀ ns', List.Perm ns' ns -> List.Pairwise (· <= ·) ns' -> Q (.lst (ns'.map D.int)) μ) \/
      (∃ ns, lookL μ d = some (ns.map D.str) /\ ns.length < 64 /\ ∀ ns', List.Perm ns' ns -> sortedS ns' = true -> Q (.lst (ns'.map D.str)) μ)
  | _ => False
instance {K : PySem.W.Frag} {fl : Wd} : SimRs K fl (rSortG K) dSorted := ⟨fun {W μ H ds xs Q Q'} r z h k => by
  unfold dSorted at h
  split at h
  . obtain ⟨x, rfl, q⟩ := z.one
    rcases h with ⟨ns, hl, hz, h⟩ | ⟨ns, hl, hz, h⟩
    . obtain ⟨a, xs, rfl, e1, z1⟩ := lookL_run r q hl
      rw [z1.ints] at e1
      refine .inl ⟨a, ns, rfl, SqL.of e1, hz, fun ns' l h1 h2 hl => ?_⟩
      obtain ⟨r2, le2⟩ := r.newF (o := .lst (ns'.map V.int)) hl
      exact k _ _ _ _ _ le2 r2 (.lst upd_same (.of_ints ns')) (h ns' h1 h2)
    . obtain ⟨a, xs, rfl, e1, z1⟩ := lookL_run r q hl
      rw [z1.strs] at e1
      refine .inr ⟨a, ns, rfl, SqL.of e1, hz, fun ns' l h1 h2 hl => ?_⟩
      obtain ⟨r2, le2⟩ := r.newF (o := .lst (ns'.map V.str)) hl
      exact k _ _ _ _ _ le2 r2 (.lst upd_same (.of_strs ns')) (h ns' h1 h2)
  . exact h.elim⟩
theorem isNon_non : isNon .non = true := rfl
theorem isNon_int {i : Int} : isNon (.int i) = false := rfl
theorem isNon_str {i : Str} : isNon (.str i) = false := rfl
theorem isNon_bl {i : Bool} : isNon (.bl i) = false := rfl
theorem isNon_lst {i : List D} : isNon (.lst i) = false := rfl
theorem isNon_tup {i : List D} : isNon (.tup i) = false := rfl
theorem isNon_cell {i : Nat} : isNon (.cell i) = false := rfl
section
variable {μ : Mu} {Q : DK}
theorem ist_tup_int {x : List D} : dIsT [.tup x, .ty "int"] μ Q = Q (.bl false) μ := by show ("int" ∈ tyNames /\ Q (.bl (isTy "tuple" "int")) μ) = _; rw [show ("int" ∈ tyNames) = True from eq_true (by decide), true_and]; rfl
theorem ist_tup_bool {x : List D} : dIsT [.tup x, .ty "bool"] μ Q = Q (.bl false) μ := by show ("bool" ∈ tyNames /\ Q (.bl (isTy "tuple" "bool")) μ) = _; rw [show ("bool" ∈ tyNames) = True from eq_true (by decide), true_and]; rfl
theorem ist_tup_str {x : List D} : dIsT [.tup x, .ty "str"] μ Q = Q (.bl false) μ := by show ("str" ∈ tyNames /\ Q (.bl (isTy "tuple" "str")) μ) = _; rw [show ("str" ∈ tyNames) = True from eq_true (by decide), true_and]; rfl
theorem ist_tup_list {x : List D} : dIsT [.tup x, .ty "list"] μ Q = Q (.bl false) μ := by show ("list" ∈ tyNames /\ Q (.bl (isTy "tuple" "list")) μ) = _; rw [show ("list" ∈ tyNames) = True from eq_true (by decide), true_and]; rfl
theorem ist_tup_tuple {x : List D} : dIsT [.tup x, .ty "tuple"] μ Q = Q (.bl true) μ := by show ("tuple" ∈ tyNames /\ Q (.bl (isTy "tuple" "tuple")) μ) = _; rw [show ("tuple" ∈ tyNames) = True from eq_true (by decide), true_and]; rfl
theorem ist_tup_dict {x : List D} : dIsT [.tup x, .ty "dict"] μ Q = Q (.bl false) μ := by show ("dict" ∈ tyNames /\ Q (.bl (isTy "tuple" "dict")) μ) = _; rw [show ("dict" ∈ tyNames) = True from eq_true (by decide), true_and]; rfl
end
end L2

namespace L2
open PySem PySem.Spec PyProof.Rows
theorem stp {s u : DS} {D' : DEnds} {ρ : DEnv} {μ : Mu} (h : ∀ N : DEnv -> Mu -> Prop, (∀ ρ' μ', u D' ρ' μ' -> N ρ' μ') -> s { D' with nx := N } ρ μ) : dSeq s u D' ρ μ := h _ fun _ _ z => z
section
variable {Pm : Mu -> Prop} {g : DG} {we : DE} {ρb : DEnv} {Fin : List D -> Mu -> Prop} {d : D} {r ys : List D} {μ : Mu}
end
end L2

namespace L2
open PySem PySem.Spec PyProof.Rows
abbrev Tab := List (Str × List Str)
def inTab (tab : Tab) (c f : Str) : Bool := tab.any fun p => p.1 == c && p.2.contains f
class TabOk (K : PySem.W.Frag) (tab : Tab) : Prop where
  run : ∀ c f C, inTab tab c f = true -> clsOf K c = some C -> Cls K C /\ NoAttr K C f
def fldO (tab : Tab) (f c : Str) (ns : List Str) (vs : List D) (R : D -> Prop) : Prop := inTab tab c f = true /\ optK ((ns.zip vs).lookup f) R
def insK (c : Option Ct) (R : Str -> List Str -> List D -> Prop) : Prop := match c with
  | some (.ins c ns vs) => R c ns vs
  | _ => False
def insM (μ : Mu) (d : D) (R : Str -> List Str -> List D -> Prop) : Prop := match d with
  | .obj c ns vs => R c ns vs
  | .cell k => insK (μ k) R
  | _ => False
theorem insK_ins {c : Str} {ns : List Str} {vs : List D} {R : Str -> List Str -> List D -> Prop} : insK (some (.ins c ns vs)) R = R c ns vs := rfl
theorem insK_run {o : Option Ct} {R : Str -> List Str -> List D -> Prop} (h : insK o R) : ∃ c ns vs, o = some (.ins c ns vs) /\ R c ns vs := by
  unfold insK at h
  split at h
  . exact ⟨_, _, _, rfl, h⟩
  . exact h.elim
theorem insM_obj {μ : Mu} {c : Str} {ns : List Str} {vs : List D} {R : Str -> List Str -> List D -> Prop} : insM μ (.obj c ns vs) R = R c ns vs := rfl
theorem insM_cell {μ : Mu} {k : Nat} {R : Str -> List Str -> List D -> Prop} : insM μ (.cell k) R = insK (μ k) R := rfl
def fldK (tab : Tab) (f : Str) (Q : DK) : DK := fun d μ => insM μ d fun c ns vs => fldO tab f c ns vs fun v => Q v μ
def dFld (tab : Tab) (w : DE) (f : Str) : DE := fun ρ μ Q => w ρ μ (fldK tab f Q)
section
variable {K : PySem.W.Frag} {fl : Wd} {W : Wd} {μ : Mu} {H : Hp}
theorem insM_run {d : D} {x : V} {R : Str -> List Str -> List D -> Prop} (r : Rel K fl W μ H) (q : Rep K W d x) (h : insM μ d R) : ∃ c C a dx ns vs xs, clsOf K c = some C /\ x = .ref a /\ H a = some (.ins C dx (ns.zip xs)) /\ ns.length = xs.length /\ Reps K W vs xs /\ R c ns vs := by
  unfold insM at h
  split at h
  . rename_i c ns vs
    unfold Rep at q
    obtain ⟨C, a, dx, xs, hc, rfl, e, l, z⟩ := q
    exact ⟨c, C, a, dx, ns, vs, xs, hc, rfl, r.sub _ _ e, l, z, h⟩
  . rename_i k
    obtain ⟨a, rfl, hb⟩ := q.cell'
    unfold insK at h
    split at h
    . rename_i c ns vs hk
      obtain ⟨a', e1, e2, C, dx, xs, hc, e3, l3, q3⟩ := r.cel k _ hk
      rw [hb] at e1; cases e1
      exact ⟨c, C, a, dx, ns, vs, xs, hc, rfl, e3, l3, q3, h⟩
    . exact h.elim
  . exact h.elim
theorem Reps.lookup {f : Str} : ∀ {ns : List Str} {vs : List D} {xs : List V} {v : D}, Reps K W vs xs -> (ns.zip vs).lookup f = some v -> ∃ x, (ns.zip xs).lookup f = some x /\ Rep K W v x
  | [], _, _, _, _, h => by simp at h
  | _ :: _, [], _, _, _, h => by simp at h
  | n :: ns, d :: vs, xs, v, r, h => by
    obtain ⟨x, xs, rfl, q, z⟩ := r.uncons
    simp only [List.zip_cons_cons, List.lookup_cons] at h ⊢
    cases e : (f == n) with
    | true => rw [e] at h; cases h; exact ⟨x, rfl, q⟩
    | false => rw [e] at h; exact Reps.lookup z h
theorem Reps.lookup_none {f : Str} : ∀ {ns : List Str} {vs : List D} {xs : List V}, Reps K W vs xs -> (ns.zip vs).lookup f = none -> (ns.zip xs).lookup f = none
  | [], _, _, _, _ => by simp
  | _ :: _, [], _, r, _ => by rw [r.nil']; simp
  | n :: ns, d :: vs, xs, r, h => by
    obtain ⟨x, xs, rfl, q, z⟩ := r.uncons
    simp only [List.zip_cons_cons, List.lookup_cons] at h ⊢
    cases e : (f == n) with
    | true => rw [e] at h; cases h
    | false => rw [e] at h; exact Reps.lookup_none z h
instance {tab : Tab} {ta : TE} {wa : DE} {f : Str} [t : TabOk K tab] [a : SimE K fl ta wa] : SimE K fl (tFld K ta f) (dFld tab wa f) := ⟨fun {W ρ μ σ H Q Q'} r e h k => a.run r e h fun W1 d μ1 x H1 le1 r1 q1 h1 => by
  obtain ⟨c, C, a, dx, ns, vs, xs, hc, rfl, ea, l, z, hi, hl⟩ := insM_run r1 q1 h1
  unfold optK at hl
  split at hl
  . rename_i v hv
    obtain ⟨x, hx, q⟩ := z.lookup hv
    obtain ⟨c1, c2⟩ := t.run c f C hi hc
    exact ⟨a, C, dx, _, x, rfl, ea, c1, c2, hx, k _ _ _ _ _ le1 r1 q hl⟩
  . exact hl.elim⟩
end
def putN (f : Str) : List Str -> List Str
  | [] => [f]
  | g :: r => if g = f then g :: r else g :: putN f r
def putD (f : Str) (v : D) : List Str -> List D -> List D
  | g :: r, x :: xs => if g = f then v :: xs else x :: putD f v r xs
  | _, _ => [v]
def setO (tab : Tab) (f : Str) (v : D) (c : Str) (ns : List Str) (vs : List D) (R : List Str -> List D -> Prop) : Prop := inTab tab c f = true /\ ns.length < 1000 /\ R (putN f ns) (putD f v ns vs)
def dSetF (tab : Tab) (wo w : DE) (f : Str) : DS := fun D ρ μ => w ρ μ fun v μ1 => wo ρ μ1 fun d μ2 => match d with
  | .cell k => insK (μ2 k) fun c ns vs => setO tab f v c ns vs fun ns' vs' => D.nx ρ (mset μ2 k (.ins c ns' vs'))
  | _ => False
def setK (tab : Tab) (f : Str) (v : D) (D0 : DEnds) (ρ : DEnv) : DK := fun d μ2 => match d with
  | .cell k => insK (μ2 k) fun c ns vs => setO tab f v c ns vs fun ns' vs' => D0.nx ρ (mset μ2 k (.ins c ns' vs'))
  | _ => False
theorem e_setf {tab : Tab} {wo w : DE} {f : Str} {D0 : DEnds} {ρ : DEnv} {μ : Mu} : dSetF tab wo w f D0 ρ μ = w ρ μ fun v μ1 => wo ρ μ1 (setK tab f v D0 ρ) := rfl
theorem setK_cell {tab : Tab} {f : Str} {v : D} {D0 : DEnds} {ρ : DEnv} {k : Nat} {μ : Mu} : setK tab f v D0 ρ (.cell k) μ = insK (μ k) fun c ns vs => setO tab f v c ns vs fun ns' vs' => D0.nx ρ (mset μ k (.ins c ns' vs')) := rfl
section
variable {K : PySem.W.Frag} {fl : Wd} {W : Wd}
theorem put_zip {f : Str} {y : V} : ∀ {ns : List Str} {xs : List V}, ns.length = xs.length -> ∃ xs', putF f y (ns.zip xs) = (putN f ns).zip xs' /\ (putN f ns).length = xs'.length /\ ∀ {vs : List D} {v : D}, Reps K W vs xs -> Rep K W v y -> Reps K W (putD f v ns vs) xs'
  | [], [], _ => ⟨[y], rfl, rfl, fun {vs v} r q => by
      cases vs with
      | nil => exact .cons q .nil
      | cons d vs => obtain ⟨x, r', e, _⟩ := r.uncons; cases e⟩
  | [], _ :: _, h => by simp at h
  | _ :: _, [], h => by simp at h
  | n :: ns, x :: xs, h => by
    obtain ⟨xs', e1, e2, e3⟩ := put_zip (f := f) (y := y) (ns := ns) (xs := xs) (by simpa using h)
    by_cases hn : n = f
    . refine ⟨y :: xs, ?_, ?_, fun {vs v} r q => ?_⟩
      . simp [putF, putN, hn]
      . simp only [putN, if_pos hn]; simpa using h
      . cases vs with
        | nil => have := r.nil'; cases this
        | cons d vs =>
          obtain ⟨x', r', e, q1, z⟩ := r.uncons
          cases e
          simp only [putD, if_pos hn]
          exact .cons q z
    . refine ⟨x :: xs', ?_, ?_, fun {vs v} r q => ?_⟩
      . simp only [List.zip_cons_cons, putF, putN, if_neg hn, e1]
      . simp only [putN, if_neg hn, List.length_cons, e2]
      . cases vs with
        | nil => have := r.nil'; cases this
        | cons d vs =>
          obtain ⟨x', r', e, q1, z⟩ := r.uncons
          cases e
          simp only [putD, if_neg hn]
          exact .cons q1 (e3 z q)
instance {tab : Tab} {ta tv : TE} {wa wv : DE} {f : Str} [t : TabOk K tab] [a : SimE K fl ta wa] [b : SimE K fl tv wv] : SimS K fl (sFld K ta tv f) (dSetF tab wa wv f) := ⟨fun {W ρ μ σ H D' D} r e h k => b.run r e h fun W1 v μ1 y H1 le1 r1 qv h1 => a.run r1 (e.mono le1) h1 fun W2 d μ2 x H2 le2 r2 q2 h2 => by
  cases d <;> first | exact h2.elim | skip
  rename_i kk
  obtain ⟨a, rfl, hb⟩ := q2.cell'
  obtain ⟨c, ns, vs, hk, h2⟩ := insK_run (o := μ2 kk) h2
  obtain ⟨a', e1, e2, C, dx, xs, hc, e3, l3, q3⟩ := r2.cel kk _ hk
  rw [hb] at e1; cases e1
  obtain ⟨hi, hz, h2⟩ := h2
  obtain ⟨c1, c2⟩ := t.run c f C hi hc
  obtain ⟨xs', p1, p2, p3⟩ := put_zip (K := K) (W := W2) (f := f) (y := y) l3
  refine ⟨a, C, dx, _, rfl, e3, c1, c2, by rw [List.length_zip, <- l3, Nat.min_self]; exact hz, ?_⟩
  rw [p1]
  exact k.nx W2 ρ _ σ _ (le1.trans le2) (r2.setC (c' := .ins c (putN f ns) (putD f v ns vs)) hk hb ⟨C, dx, xs', hc, rfl, p2, p3 q3 (qv.mono le2)⟩) (e.mono (le1.trans le2)) h2⟩
end
structure HasMt (P : Program) (w : World) (K : PySem.W.Frag) (mg : Str -> Option Value) (base : Heap) (CX : CXT) (c m : Str) (k : Nat) (ps : List Str) (sp : Sp) (ks : List Str) (gV : List V -> List V -> List V) : Prop where
  ex : ∃ C f fd g, clsOf K c = some C /\ Cls K C /\ Meth K C m f /\ FnOk P w K mg base CX k f fd ps sp /\ KBinds K fd ps ks g gV
def tMethC (K : PySem.W.Frag) (c m : Str) (sp : Sp) (gV : List V -> List V -> List V) (E : XK) (ta : TE) (t tk : TA) : TE := fun σ H Q => ta σ H fun x H1 => ∃ C a dx fs, clsOf K c = some C /\ x = .ref a /\ H1 a = some (.ins C dx fs) /\ fs.lookup m = none /\
  t σ H1 fun vs H2 => tk σ H2 fun zs H3 => sp (gV (x :: vs) zs) H3 Q E
section
variable {X : Cx} {CX : CXT} {j k : Nat} {ps ks : List Str} {sp : Sp} {E : XK} {c m : Str} {pos apos : Pos} {e o : Expr} {es : List Expr} {ta : TE} {t tk : TA} {kws : List Keyword} {gV : List V -> List V -> List V}
theorem qe_methK {pl : Sem Bool} (K : PySem.W.Frag) (hh : HasMt X.prog X.w X.K X.mg X.base CX c m j ps sp ks gV) (hr : Room k X.A) (he : WE X o ta) (ha : WA X (e :: es) t) (hkw : WK X kws tk) (hK : X.K = K := by rfl) (hj : j <= k := by decide) (hx : Passes CX X E := by exact pass0)
    (hall : (backToKw pos (keywordEach kws X.env)).all (·.1.isSome) = true := by rfl) (hks : (backToKw pos (keywordEach kws X.env)).filterMap (·.1) = ks := by rfl)
    (hst : starEach (e :: es) X.env = (false, eval e X.env) :: starEach es X.env := by rfl)
    (hpl : ((backTo pos (starEach (e :: es) X.env)).any (·.1) || (backToKw pos (keywordEach kws X.env)).any (·.1.isNone)) = false := by rfl)
    (ht : eval (.Call (.Attribute o m apos) (e :: es) kws pos) X.env = (do
      let ov <- eval o X.env
      standAt apos.atName
      let (f, first) <- holding [ov] (getMethod ov m pl)
      callWith pos f first (backTo pos (starEach (e :: es) X.env)) (backToKw pos (keywordEach kws X.env))) := by rfl) :
    WE X (.Call (.Attribute o m apos) (e :: es) kws pos) (tMethC K c m sp gV E ta t tk) := ⟨by
  subst hK
  obtain ⟨C0, f, fd, g, hc0, hcl, hm, F, hb⟩ := hh.ex
  intro pins s σ H Q I h
  refine PySem.W.methodCall_KW (pl := pl) (thn (he.out pins s σ H _ I h) fun u s1 ⟨x, H1, I1, rx, C, a, dx, fs, hc, ex, ea, l, q⟩ => ?_) ht
  rw [hc0] at hc; cases hc
  subst ex
  obtain rfl : u = Value.ref a := rx
  refine getmeth_ok I1 ea hcl hm l ?_
  refine PySem.W.callWith_KW (first := [.ref a]) (h₀ := X.base) I.ok.mod.kin hm.kp hall (thn (ha.out pos pins s1 σ H1 _ I1 q) fun us s2 ⟨vs, H2, I2, r, q2⟩ => ?_) hpl hst
  refine thn (hkw.out pos pins s2 σ H2 _ I2 q2) fun ws s3 ⟨zs, H3, I3, rz, q3⟩ => ⟨I3.kIn, ?_⟩
  rw [hks]
  exact run_fnk (us := .ref a :: us) (vs := .ref a :: vs) (F.mono hj) hr hb hx I3 (.cons rfl r) rz q3⟩
theorem qe_methK0 {pl : Sem Bool} (K : PySem.W.Frag) (hh : HasMt X.prog X.w X.K X.mg X.base CX c m j ps sp [] gV) (hr : Room k X.A) (he : WE X o ta) (hK : X.K = K := by rfl) (hj : j <= k := by decide) (hx : Passes CX X E := by exact pass0)
    (ht : eval (.Call (.Attribute o m apos) [] [] pos) X.env = (do
      let ov <- eval o X.env
      standAt apos.atName
      let (f, first) <- holding [ov] (getMethod ov m pl)
      callWith pos f first (backTo pos (starEach [] X.env)) (backToKw pos (keywordEach [] X.env))) := by rfl) :
    WE X (.Call (.Attribute o m apos) [] [] pos) (tMethC K c m sp gV E ta tNil tNil) := ⟨by
  subst hK
  obtain ⟨C0, f, fd, g, hc0, hcl, hm, F, hb⟩ := hh.ex
  intro pins s σ H Q I h
  refine PySem.W.methodCall_KW (pl := pl) (thn (he.out pins s σ H _ I h) fun u s1 ⟨x, H1, I1, rx, C, a, dx, fs, hc, ex, ea, l, q⟩ => ?_) ht
  rw [hc0] at hc; cases hc
  subst ex
  obtain rfl : u = Value.ref a := rx
  refine getmeth_ok I1 ea hcl hm l ?_
  exact PySem.W.callWith_K0 (first := [.ref a]) I1.kIn hm.kp (run_fnk (us := [.ref a]) (vs := [.ref a]) (ws := []) (zs := []) (F.mono hj) hr hb hx I1 (.cons rfl .nil) .nil q)⟩
end
def dMeth (c m : Str) (dsp : DSp) (n j : Nat) (pat : List Src) (cs : List D) (wo : DE) (w wk : DA) : DE := fun ρ μ Q => wo ρ μ fun d μ1 => (insM μ1 d fun c' ns vs => c' = c /\ (ns.zip vs).lookup m = none) /\ w ρ μ1 fun ds μ2 => wk ρ μ2 fun es μ3 => dsp (sel n j pat .non cs (d :: ds) es) μ3 Q
instance {K : PySem.W.Frag} {fl : Wd} {c m : Str} {dsp : DSp} {n j : Nat} {pat : List Src} {csD : List D} {csV : List V} {E : XK} {ta : TE} {wa : DE} {t tk : TA} {w wk : DA} [o : SimE K fl ta wa] [a : SimA K fl t w] [b : SimA K fl tk wk] [cr : CRep K csD csV] : SimE K fl (tMethC K c m (lift K dsp) (sel n j pat .non csV) E ta t tk) (dMeth c m dsp n j pat csD wa w wk) := ⟨fun {W ρ μ σ H Q Q'} r e h k =>
  o.run r e h fun W1 d μ1 x H1 le1 r1 q1 h1 => by
    obtain ⟨c', C, p, dx, ns, vs, xs, hc, rfl, ea, l, z, rfl, hl⟩ := insM_run r1 q1 h1.1
    refine ⟨C, p, dx, _, hc, rfl, ea, z.lookup_none hl, a.run r1 (e.mono le1) h1.2 fun W2 ds μ2 xs H2 le2 r2 q2 h2 => b.run r2 (e.mono (le1.trans le2)) h2 fun W3 es μ3 ys H3 le3 r3 q3 h3 => ?_⟩
    exact ⟨fl, W3, μ3, _, Q, r3, sel_reps (cr.run W3) (.cons (q1.mono (le2.trans le3)) (q2.mono le3)) q3, h3, fun W4 d4 μ4 x4 H4 le4 => k W4 d4 μ4 x4 H4 (le1.trans (le2.trans (le3.trans le4)))⟩⟩
structure HasMk (P : Program) (w : World) (K : PySem.W.Frag) (mg : Str -> Option Value) (base : Heap) (CX : CXT) (c : Str) (k : Nat) (ps : List Str) (sp : Sp) (ks : List Str) (gV : List V -> List V -> List V) : Prop where
  ex : ∃ C f fd g, clsOf K c = some C /\ Mk K C f /\ FnOk P w K mg base CX k f fd ps sp /\ KBinds K fd ps ks g gV /\ mg c = some (.ref C)
def tMakeC (K : PySem.W.Frag) (c : Str) (sp : Sp) (gV : List V -> List V -> List V) (E : XK) (t tk : TA) : TE := fun σ H Q => t σ H fun vs H1 => tk σ H1 fun zs H2 => ∀ C x dx, clsOf K c = some C -> H2 x = none -> H2 dx = none -> dx ≠ x ->
  sp (gV (.ref x :: vs) zs) (upd (upd H2 dx (.own x)) x (.ins C dx [])) (fun v H3 => v = .non /\ Q (.ref x) H3) E
section
variable {X : Cx} {CX : CXT} {j k : Nat} {ps ks : List Str} {sp : Sp} {E : XK} {c : Str} {p pos : Pos} {e : Expr} {es : List Expr} {t tk : TA} {kws : List Keyword} {gV : List V -> List V -> List V}
theorem qe_makeC (K : PySem.W.Frag) (h : HasMk X.prog X.w X.K X.mg X.base CX c j ps sp ks gV) (hr : Room k X.A) (ha : WA X (e :: es) t) (hkw : WK X kws tk) (hK : X.K = K := by rfl) (hj : j + 1 <= k := by decide) (hg : Gl X c := by rfl) (hx : Passes CX X E := by exact pass0)
    (hall : (backToKw pos (keywordEach kws X.env)).all (·.1.isSome) = true := by rfl) (hks : (backToKw pos (keywordEach kws X.env)).filterMap (·.1) = ks := by rfl)
    (hdb : (c == ("__debug__" : Str)) = false := by decide) (he : starEach (e :: es) X.env = (false, eval e X.env) :: starEach es X.env := by rfl)
    (hpl : ((backTo pos (starEach (e :: es) X.env)).any (·.1) || (backToKw pos (keywordEach kws X.env)).any (·.1.isNone)) = false := by rfl) : WE X (.Call (.Name c p) (e :: es) kws pos) (tMakeC K c sp gV E t tk) := ⟨by
  subst hK
  obtain ⟨C, f, fd, g, hc, M, F, b, m⟩ := h.ex
  intro pins s σ H Q I h
  refine wpAny_Call_Name_kw (ld_glob I hg m ?_ hdb)
  refine PySem.W.callWith_KW (h₀ := X.base) I.ok.mod.kin M.kp hall (thn (ha.out pos pins s σ H _ I h) fun us s1 ⟨vs, H1, I1, r, q⟩ => ?_) hpl he
  refine thn (hkw.out pos pins s1 σ H1 _ I1 q) fun ws s2 ⟨zs, H2, I2, rz, q2⟩ => ⟨I2.kIn, ?_⟩
  rw [hks]
  exact run_makeK M F (hr.mono hj) b hx I2 r rz fun x dx h1 h2 h3 => q2 C x dx hc h1 h2 h3⟩
theorem qe_makeC0 (K : PySem.W.Frag) (h : HasMk X.prog X.w X.K X.mg X.base CX c j ps sp [] gV) (hr : Room k X.A) (hK : X.K = K := by rfl) (hj : j + 1 <= k := by decide) (hg : Gl X c := by rfl) (hx : Passes CX X E := by exact pass0)
    (hdb : (c == ("__debug__" : Str)) = false := by decide) : WE X (.Call (.Name c p) [] [] pos) (tMakeC K c sp gV E tNil tNil) := ⟨by
  subst hK
  obtain ⟨C, f, fd, g, hc, M, F, b, m⟩ := h.ex
  intro pins s σ H Q I h
  refine wpAny_Call_Name_kw (ld_glob I hg m ?_ hdb)
  exact PySem.W.callWith_K0 I.kIn M.kp (run_makeK (us := []) (vs := []) (ws := []) (zs := []) M F (hr.mono hj) b hx I .nil .nil fun x dx h1 h2 h3 => h C x dx hc h1 h2 h3)⟩
end
def dMake (c : Str) (dsp : DSp) (n j : Nat) (pat : List Src) (cs : List D) (w wk : DA) : DE := fun ρ μ Q => w ρ μ fun ds μ1 => wk ρ μ1 fun es μ2 => ∀ k, μ2 k = none -> dsp (sel n j pat .non cs (.cell k :: ds) es) (mset μ2 k (.ins c [] [])) fun d μ3 => d = .non /\ Q (.cell k) μ3
def dMakeF (c : Str) (dsp : DSp) (n j : Nat) (pat : List Src) (cs : List D) (w wk : DA) : DE := fun ρ μ Q => w ρ μ fun ds μ1 => wk ρ μ1 fun es μ2 => ∀ k, μ2 k = none -> dsp (sel n j pat .non cs (.cell k :: ds) es) (mset μ2 k (.ins c [] [])) fun d μ3 => d = .non /\ frzD μ3 (.cell k) Q
section
variable {K : PySem.W.Frag} {fl : Wd} {c : Str} {dsp : DSp} {n j : Nat} {pat : List Src} {csD : List D} {csV : List V} {E : XK} {t tk : TA} {w wk : DA}
theorem new_ins {W : Wd} {μ : Mu} {H : Hp} {C x dx : Addr} (r : Rel K fl W μ H) (hc : clsOf K c = some C) (h1 : H x = none) (h2 : H dx = none) (h3 : dx ≠ x) : ∃ (k : Nat) (W' : Wd), μ k = none /\ W.le W' /\ Rel K fl W' (mset μ k (.ins c [] [])) (upd (upd H dx (.own x)) x (.ins C dx [])) /\ W'.b k = some x := by
  have r1 : Rel K fl W μ (upd H dx (.own x)) := r.same (same_upd h2)
  have hx : upd H dx (.own x) x = none := by rw [upd_ne (Ne.symm h3)]; exact h1
  exact r1.newC (o := .ins C dx []) (c := .ins c [] []) hx ⟨C, dx, [], hc, rfl, rfl, .nil⟩
theorem make_frz [a : SimA K fl t w] [b : SimA K fl tk wk] [cr : CRep K csD csV] : SimE K fl (tMakeC K c (lift K dsp) (sel n j pat .non csV) E t tk) (dMakeF c dsp n j pat csD w wk) := ⟨fun {W ρ μ σ H Q Q'} r e h k =>
  a.run r e h fun W1 ds μ1 xs H1 le1 r1 q1 h1 => b.run r1 (e.mono le1) h1 fun W2 es μ2 ys H2 le2 r2 q2 h2 C x dx hc g1 g2 g3 => by
    obtain ⟨kk, W3, hk, le3, r3, e3⟩ := new_ins r2 hc g1 g2 g3
    refine ⟨fl, W3, _, _, _, r3, sel_reps (cr.run W3) (.cons (by unfold Rep; exact ⟨x, rfl, e3⟩) (q1.mono (le2.trans le3))) (q2.mono le3), h2 kk hk, fun W4 d4 μ4 x4 H4 le4 r4 q4 h4 => ?_⟩
    obtain ⟨rfl, h4⟩ := h4
    obtain ⟨W5, d5, μ5, le5, r5, q5, h5⟩ := frz_run r4 (x := .ref x) (d := .cell kk) (by unfold Rep; exact ⟨x, rfl, le4.b _ _ e3⟩) h4
    exact ⟨q4.n', k W5 d5 μ5 _ H4 (le1.trans (le2.trans (le3.trans (le4.trans le5)))) r5 q5 h5⟩⟩
instance [a : SimA K fl t w] [b : SimA K fl tk wk] [cr : CRep K csD csV] : SimE K fl (tMakeC K c (lift K dsp) (sel n j pat .non csV) E t tk) (dMakeF c dsp n j pat csD w wk) := make_frz
end
theorem clsOf_of {K : PySem.W.Frag} {c : Str} {C : Addr} (h : PySem.W.nsIn K mainGlobals c = some (some (.ref C))) : clsOf K c = some C := by unfold clsOf; rw [h]
theorem tabOk_nil {K : PySem.W.Frag} : TabOk K [] := ⟨fun _ _ _ h => by simp [inTab] at h⟩
theorem tabOk_cons {K : PySem.W.Frag} {c : Str} {fs : List Str} {tab : Tab} {C : Addr} (hc : clsOf K c = some C) (cl : Cls K C) (hf : ∀ f ∈ fs, NoAttr K C f) (t : TabOk K tab) : TabOk K ((c, fs) :: tab) := ⟨fun c' f C' hi h => by
  simp only [inTab, List.any_cons, Bool.or_eq_true, Bool.and_eq_true] at hi
  rcases hi with ⟨h1, h2⟩ | h1
  . have e := eq_of_beq h1
    subst e
    rw [hc] at h; cases h
    exact ⟨cl, hf f (List.contains_iff_mem.mp h2)⟩
  . exact t.run c' f C' h1 h⟩
end L2

namespace L2
open PySem PySem.Spec PyProof.Rows
def rJoinL (K : PySem.W.Frag) : V -> List V -> Hp -> VK -> Prop := fun x xs H Q => ∃ sep p ys, x = .str sep /\ xs = [.ref p] /\ (SqL K H p (ys.map V.str) \/ SqT K H p (ys.map V.str)) /\ sep.length <= 16 /\ weightS ys <= 1048576 /\ Q (.str (Str.join sep ys)) H
theorem mt_joinG {X : Cx} (K : PySem.W.Frag) (h : X.K = K := by rfl) : MtR X "str.join" (rJoinL K) := mt_joinL K h
def dJoin : DM := fun d es μ Q => match d, es with
  | .str sep, [e] => ∃ ys, lookQ μ e = some (ys.map D.str) /\ sep.length <= 16 /\ weightS ys <= 1048576 /\ Q (.str (Str.join sep ys)) μ
  | _, _ => False
instance {K : PySem.W.Frag} {fl : Wd} : SimM K fl "str" (rJoinL K) dJoin := ⟨fun {W μ H d x ds xs Q Q'} r q z h k => by
  unfold dJoin at h
  split at h
  . obtain ⟨y, rfl, qy⟩ := z.one
    obtain ⟨ys, hl, h1, h2, h⟩ := h
    obtain ⟨a, vs, rfl, e1, z1⟩ := lookQ_run r qy hl
    rw [z1.strs] at e1
    rw [q.s']
    exact ⟨_, a, ys, rfl, rfl, e1, h1, h2, k _ _ _ _ _ (.refl _) r .s h⟩
  . exact h.elim⟩
def rMulS : R2 := fun x y H Q => ∃ c n, x = .str ⟨#[c]⟩ /\ y = .int n /\ 0 <= n /\ n <= 1000 /\ ∀ z : Str, z.cps.toList = List.replicate n.toNat c -> Q (.str z) H
def rMulG2 : R2 := fun x y H Q => rMulG x y H Q \/ rMulS x y H Q
theorem op_mulG2 {X : Cx} : OpR X (binaryOp .Mult) rMulG2 := op_mulG.or op_mul_str
def dMul2 : DR2 := fun d e μ Q => match d, e with
  | .str z, .int n => ∃ c, z = ⟨#[c]⟩ /\ 0 <= n /\ n <= 1000 /\ ∀ y : Str, y.cps.toList = List.replicate n.toNat c -> Q (.str y) μ
  | d, e => dMul d e μ Q
instance {K : PySem.W.Frag} {fl : Wd} : SimR2 K fl rMulG2 dMul2 := ⟨fun {W μ H d e x y Q Q'} r q1 q2 h k => by
  unfold dMul2 at h
  split at h
  . obtain ⟨c, rfl, h1, h2, h⟩ := h
    rw [q1.s', q2.i']
    exact .inr ⟨c, _, rfl, rfl, h1, h2, fun z hz => k _ _ _ _ _ (.refl _) r .s (h z hz)⟩
  . exact .inl (SimR2.run (K := K) (r := rMulG) (q := dMul) r q1 q2 h k)⟩
section
variable {μ : Mu} {Q : DK} {i j : Int} {ds : List D}
theorem e2_mul : dMul2 (.int i) (.int j) μ Q = (CMul i j /\ Q (.int (i * j)) μ) := rfl
theorem e2_muls {c : Nat} : dMul2 (.str ⟨#[c]⟩) (.int j) μ Q = (0 <= j /\ j <= 1000 /\ ∀ y : Str, y.cps.toList = List.replicate j.toNat c -> Q (.str y) μ) := by
  show (∃ c', (⟨#[c]⟩ : Str) = ⟨#[c']⟩ /\ 0 <= j /\ j <= 1000 /\ ∀ y : Str, y.cps.toList = List.replicate j.toNat c' -> Q (.str y) μ) = _
  refine propext ⟨fun ⟨c', e, h⟩ => ?_, fun h => ⟨c, rfl, h⟩⟩
  have : c = c' := by
    have := congrArg (fun s : Str => s.cps.toList) e
    simpa using this
  subst this; exact h
end
theorem dCLoopN_by {Pm : Mu -> Prop} {g : DG} {ds : List D} {μ : Mu} {we : DE} {ρb : DEnv} {Fin : List D -> Mu -> Prop} {ys : List D} (I : Nat -> List D -> Mu -> Prop) (h0 : I 0 ys μ)
    (step : ∀ i d ys μ, ds[i]? = some d -> I i ys μ -> ys.length < sizeLine /\ ∀ N : List D -> Mu -> Prop, (∀ ys' μ', I (i + 1) ys' μ' -> N ys' μ') -> g d ρb μ fun ρ2 μ2 => we ρ2 μ2 fun v μ4 => N (ys ++ [v]) μ4)
    (fin : ∀ ys μ, I ds.length ys μ -> Fin ys μ) (hP : ∀ i ys μ, I i ys μ -> Pm μ := by exact fun _ _ _ _ => trivial) : dCLoop g dNoT we ρb Pm Fin ds ys μ :=
  dCLoop_by I h0 (fun i d ys μ hd hI => ⟨(step i d ys μ hd hI).1, fun N hN => (step i d ys μ hd hI).2 N hN⟩) fin hP
theorem dCLoop_filtM {α : Type} {Pm : Mu -> Prop} {g : DG} {μ : Mu} {wc : DT} {we : DE} {ρb : DEnv} {Fin : List D -> Mu -> Prop} (xs : List α) (f : α -> D) (p : α -> Bool) (f' : α -> D) (hl : xs.length <= sizeLine)
    (step : ∀ x ∈ xs, ∀ (Y : DK) (Z : Mu -> Prop), (p x = true -> Y (f' x) μ) -> (p x = false -> Z μ) -> g (f x) ρb μ fun ρ2 μ2 => wc ρ2 μ2 fun b μ3 => if b = true then we ρ2 μ3 Y else Z μ3)
    (fin : Fin ((xs.filter p).map f') μ) (hP : Pm μ := by exact trivial) : dCLoop g wc we ρb Pm Fin (xs.map f) [] μ := by
  refine dCLoop_by (fun i ys μ' => μ' = μ /\ ys = ((xs.take i).filter p).map f') ⟨rfl, by simp⟩ (fun i d ys μ' hd hI => ?_) (fun ys μ' hI => ?_) (fun i ys μ' h => h.1 ▸ hP)
  . obtain ⟨rfl, rfl⟩ := hI
    rw [List.getElem?_map] at hd
    cases hx : xs[i]? with
    | none => rw [hx] at hd; cases hd
    | some x =>
      rw [hx] at hd
      cases hd
      have hi := (List.getElem?_eq_some_iff.mp hx).1
      refine ⟨?_, fun N hN => ?_⟩
      . have := List.length_filter_le p (xs.take i)
        rw [List.length_map]
        rw [List.length_take] at this
        omega
      . refine step x (List.mem_of_getElem? hx) (fun v μ4 => N (((xs.take i).filter p).map f' ++ [v]) μ4) (fun μ3 => N (((xs.take i).filter p).map f') μ3) (fun hp => hN _ _ ⟨rfl, ?_⟩) (fun hp => hN _ _ ⟨rfl, ?_⟩)
        . rw [List.take_add_one, hx]; simp [hp]
        . rw [List.take_add_one, hx]; simp [hp]
  . obtain ⟨rfl, rfl⟩ := hI
    rw [List.length_map, List.take_length]; exact fin
theorem flatDs_strs : ∀ xs : List Str, flatDs (xs.map D.str) = some (xs.map V.str)
  | [] => rfl
  | x :: r => by rw [List.map_cons, flatDs, flatDs_strs r]; rfl
theorem in_strs {x : Str} {xs : List Str} {μ : Mu} {Q : DK} {neg : Bool} {e : D} (h : lookQ μ e = some (xs.map D.str)) : dInN neg (.str x) e μ Q = Q (.bl (neg ^^ decide (x ∈ xs))) μ := by
  have h2 : flatD (.str x) = some (.str x) := rfl
  unfold dInN
  simp only [h, h2, flatDs_strs, inV_strs]
  cases neg <;> simp
theorem in_strs_c {x : Str} {xs : List Str} {μ : Mu} {Q : DK} {neg : Bool} {k : Nat} (h : μ k = some (.lst (xs.map D.str))) : dInN neg (.str x) (.cell k) μ Q = Q (.bl (neg ^^ decide (x ∈ xs))) μ := in_strs (lookQ_cell h)
end L2

namespace L2
open PySem PySem.Spec PyProof.Rows
class KTup (K : PySem.W.Frag) (a : Addr) (ns : List Int) : Prop where
  at_ : ∀ H, SqT K H a (ns.map V.int)
def isInS (signs x : Str) : Bool := !(Builtin.Str.occurrences signs x 0 signs.length 1).isEmpty
def dInS : DR2 := fun d e μ Q => match d, e with
  | .str i, .str j => Q (.bl (isInS j i)) μ
  | _, _ => False
theorem e_ins {i j : Str} {μ : Mu} {Q : DK} : dInS (.str i) (.str j) μ Q = Q (.bl (isInS j i)) μ := rfl
def dLenSet (w : DE) : DE := fun ρ μ Q => w ρ μ fun d μ1 => match d with
  | .tup ds => ∃ ys, ds = ys.map D.str /\ ys.length <= 100 /\ Q (.int (manyS ys : Nat)) μ1
  | _ => False
structure ClsI (K : PySem.W.Frag) (C : Addr) : Prop where
  cl : Cls K C
  ha : PySem.W.findIn K (.ref C) "__class__" = some (some (.builtin "object.__class__"))
  hn : PySem.W.specialIn K (.builtin "object.__class__") "__get__" = some (some (.builtin "getset_descriptor.__get__"))
  htk : PySem.W.takesIn K (.builtin "object.__class__") = some true
  hm : PySem.W.mroIn K C (.type "object") = some true
  self : PySem.W.kitOne K (.ref C) (.ref C) = some true
  str : PySem.W.kitOne K (.type "str") (.ref C) = some false
  int : PySem.W.kitOne K (.type "int") (.ref C) = some false
class IsI (K : PySem.W.Frag) (c : Str) : Prop where
  ex : ∃ C, clsOf K c = some C /\ ClsI K C
def dIsO (c : Str) : DRs := fun ds μ Q => match ds with
  | [.str _, .cls c'] => c' = c /\ Q (.bl false) μ
  | [.int _, .cls c'] => c' = c /\ Q (.bl false) μ
  | [d, .cls c'] => c' = c /\ insM μ d fun c2 _ _ => c2 = c /\ Q (.bl true) μ
  | _ => False
instance {K : PySem.W.Frag} {fl : Wd} {c : Str} [i : IsI K c] : SimRs K fl (rIsI K) (dIsO c) := ⟨fun {W μ H ds xs Q Q'} r z h k => by
  obtain ⟨C, hC, ci⟩ := i.ex
  have cls : ∀ {y : V}, Rep K W (.cls c) y -> y = .ref C := fun {y} q => by
    unfold Rep at q
    obtain ⟨C', e, rfl⟩ := q
    rw [hC] at e; cases e; rfl
  unfold dIsO at h
  split at h
  . obtain ⟨x, y, rfl, q1, q2⟩ := z.two
    obtain ⟨rfl, h⟩ := h
    rw [q1.s', cls q2]
    exact ⟨_, _, _, false, rfl, .str _, fun u hu => by cases hu; exact ci.str, k _ _ _ _ _ (.refl _) r .b h⟩
  . obtain ⟨x, y, rfl, q1, q2⟩ := z.two
    obtain ⟨rfl, h⟩ := h
    rw [q1.i', cls q2]
    exact ⟨_, _, _, false, rfl, .int _, fun u hu => by cases hu; exact ci.int, k _ _ _ _ _ (.refl _) r .b h⟩
  . obtain ⟨x, y, rfl, q1, q2⟩ := z.two
    obtain ⟨rfl, h⟩ := h
    obtain ⟨c2, C2, a, dx, ns, vs, xs, hc2, rfl, ea, l, z1, e5, h5⟩ := insM_run r q1 h
    subst e5
    rw [hC] at hc2; cases hc2
    rw [cls q2]
    exact ⟨_, _, _, true, rfl, .ins ea ci.cl ci.ha ci.hn ci.htk ci.hm, fun u hu => by cases hu; exact ci.self, k _ _ _ _ _ (.refl _) r .b h5⟩
  . exact h.elim⟩
section
variable {μ : Mu} {Q : DK} {c : Str}
theorem e_iso_str {x : Str} : dIsO c [.str x, .cls c] μ Q = Q (.bl false) μ := by show (c = c /\ _) = _; simp
theorem e_iso_obj {ns : List Str} {vs : List D} : dIsO c [.obj c ns vs, .cls c] μ Q = Q (.bl true) μ := by
  show (c = c /\ c = c /\ _) = _; simp
end
structure HasEqC (P : Program) (w : World) (K : PySem.W.Frag) (mg : Str -> Option Value) (base : Heap) (CX : CXT) (c : Str) (k : Nat) (ps : List Str) (sp : Sp) : Prop where
  ex : ∃ C, clsOf K c = some C /\ HasEq P w K mg base CX C k ps sp /\ PySem.W.notFirst K C (.type "str") = true /\ PySem.W.notFirst K C (.type "int") = true
def rEqO (K : PySem.W.Frag) (c : Str) (sp : Sp) (E : XK) : R2 := fun x y H Q => ∃ C a dx fs, clsOf K c = some C /\ x = .ref a /\ H a = some (.ins C dx fs) /\ ((∃ b dx fs, y = .ref b /\ H b = some (.ins C dx fs)) \/ (∃ z, y = .str z) \/ (∃ z, y = .int z)) /\ sp [x, y] H Q E
theorem op_eqO {X : Cx} {CX : CXT} (K : PySem.W.Frag) {c : Str} {j k : Nat} {ps : List Str} {sp : Sp} {E : XK} (h : HasEqC X.prog X.w X.K X.mg X.base CX c j ps sp) (hr : Room k X.A) (hK : X.K = K := by rfl) (hj : j <= k := by decide) (hx : Passes CX X E := by exact pass0) : OpR X (compareOp .Eq) (rEqO K c sp E) := by
  subst hK
  obtain ⟨C, hC, hE, n1, n2⟩ := h.ex
  intro pins s σ H x y v u Q I rx ry q
  obtain ⟨C', a, dx, fs, hC', rfl, ea, ho, q⟩ := q
  rw [hC] at hC'; cases hC'
  exact op_eqI hE hr hj hx pins s σ H _ y v u Q I rx ry ⟨a, dx, fs, rfl, ea, ho.imp id (Or.imp (fun z => ⟨z, n1⟩) fun z => ⟨z, n2⟩), q⟩
def dEqO (c : Str) (dsp : DSp) : DR2 := fun d e μ Q => (insM μ d fun c' _ _ => c' = c) /\ (match e with
  | .str _ => True
  | .int _ => True
  | e => insM μ e fun c' _ _ => c' = c) /\ dsp [d, e] μ Q
instance {K : PySem.W.Frag} {fl : Wd} {c : Str} {dsp : DSp} {E : XK} : SimR2 K fl (rEqO K c (lift K dsp) E) (dEqO c dsp) := ⟨fun {W μ H d e x y Q Q'} r q1 q2 h k => by
  obtain ⟨h1, h2, h3⟩ := h
  obtain ⟨c2, C, a, dx, ns, vs, xs, hC, rfl, ea, l, z, rfl⟩ := insM_run r q1 h1
  refine ⟨C, a, dx, _, hC, rfl, ea, ?_, fl, W, μ, [d, e], Q, r, .cons q1 (.cons q2 .nil), h3, fun W2 d2 μ2 x2 H2 le2 => k W2 d2 μ2 x2 H2 le2⟩
  split at h2
  . exact .inr (.inl ⟨_, q2.s'⟩)
  . exact .inr (.inr ⟨_, q2.i'⟩)
  . obtain ⟨c3, C3, a3, dx3, ns3, vs3, xs3, hC3, rfl, ea3, l3, z3, rfl⟩ := insM_run r q2 h2
    rw [hC] at hC3; cases hC3
    exact .inl ⟨a3, dx3, _, rfl, ea3⟩⟩
end L2

namespace L2
open PySem PySem.Spec PyProof.Rows
def SI : Nat -> D -> Prop
  | _, .int _ => True
  | _, .str x => PyData.strOk x = true
  | n + 1, .tup ds => ∀ d ∈ ds, SI n d
  | n + 1, .lst ds => ∀ d ∈ ds, SI n d
  | _, _ => False
theorem SI.pl : ∀ {n : Nat} {d : D}, SI n d -> Pl n d := by
  intro n
  induction n with
  | zero => intro d h; cases d <;> first | exact h.elim | exact h
  | succ n ih => intro d h; cases d <;> first | exact h.elim | exact h | exact fun x hx => ih (h x hx)
theorem SI.eqvs {n : Nat} (ih : ∀ d e p q, SI n d -> SI n e -> toPy d = some p -> toPy e = some q -> (PyData.eqv p q = true ↔ d = e)) : ∀ (ds es : List D) (ps qs : List PyData), (∀ d ∈ ds, SI n d) -> (∀ d ∈ es, SI n d) -> toPys ds = some ps -> toPys es = some qs -> (PyData.eqvAll ps qs = true ↔ ds = es)
  | [], [], ps, qs, _, _, h1, h2 => by
    unfold toPys at h1 h2; cases h1; cases h2; simp [PyData.eqvAll]
  | [], e :: es, ps, qs, _, _, h1, h2 => by
    unfold toPys at h1 h2
    split at h2
    . cases h1; cases h2; simp [PyData.eqvAll]
    . cases h2
  | d :: ds, [], ps, qs, _, _, h1, h2 => by
    unfold toPys at h1 h2
    split at h1
    . cases h1; cases h2; simp [PyData.eqvAll]
    . cases h1
  | d :: ds, e :: es, ps, qs, s1, s2, h1, h2 => by
    unfold toPys at h1 h2
    split at h1
    . rename_i p ps' e1 e2
      split at h2
      . rename_i q qs' e3 e4
        cases h1; cases h2
        have a := ih d e p q (s1 d List.mem_cons_self) (s2 e List.mem_cons_self) e1 e3
        have b := SI.eqvs ih ds es ps' qs' (fun x hx => s1 x (List.mem_cons_of_mem _ hx)) (fun x hx => s2 x (List.mem_cons_of_mem _ hx)) e2 e4
        unfold PyData.eqvAll
        rw [Bool.and_eq_true, a, b, List.cons.injEq]
      . cases h2
    . cases h1
theorem SI.eqv : ∀ (n : Nat) (d e : D) (p q : PyData), SI n d -> SI n e -> toPy d = some p -> toPy e = some q -> (PyData.eqv p q = true ↔ d = e) := by
  intro n
  induction n with
  | zero =>
    intro d e p q h1 h2 t1 t2
    cases d <;> first | exact h1.elim | skip
    all_goals cases e <;> first | exact h2.elim | skip
    all_goals (unfold toPy at t1 t2; cases t1; cases t2; simp [PyData.eqv])
  | succ n ih =>
    intro d e p q h1 h2 t1 t2
    cases d <;> first | exact h1.elim | skip
    all_goals cases e <;> first | exact h2.elim | skip
    all_goals unfold toPy at t1 t2
    all_goals first
      | (cases t1; cases t2; simp [PyData.eqv]; done)
      | (cases t1
         obtain ⟨qs, e2, rfl⟩ := Option.map_eq_some_iff.mp t2
         simp [PyData.eqv]; done)
      | (cases t2
         obtain ⟨ps, e1, rfl⟩ := Option.map_eq_some_iff.mp t1
         simp [PyData.eqv]; done)
      | (obtain ⟨ps, e1, rfl⟩ := Option.map_eq_some_iff.mp t1
         obtain ⟨qs, e2, rfl⟩ := Option.map_eq_some_iff.mp t2
         first
           | (simp [PyData.eqv]; done)
           | (unfold PyData.eqv
              rw [SI.eqvs ih _ _ ps qs h1 h2 e1 e2]
              simp))
theorem dEqN_si {neg : Bool} {d e : D} {μ : Mu} {Q : DK} {n : Nat} (h1 : SI n d) (h2 : SI n e) (hn : n <= 60) (q : ∀ b : Bool, (b = true ↔ d = e) -> Q (.bl (neg ^^ b)) μ) : dEqN neg d e μ Q := by
  obtain ⟨p, t1, c1, b1⟩ := Pl.py n d h1.pl
  obtain ⟨p', t2, c2, b2⟩ := Pl.py n e h2.pl
  unfold dEqN
  split
  . exact q _ (by simp)
  . exact q _ (by simp)
  . exact q _ (by simp)
  . rw [toPyM_of t1, toPyM_of t2]
    exact ⟨⟨c1, by omega⟩, ⟨c2, by omega⟩, q _ (SI.eqv n d e p p' h1 h2 t1 t2)⟩
theorem dEq_si {d e : D} {μ : Mu} {Q : DK} {n : Nat} (h1 : SI n d) (h2 : SI n e) (hn : n <= 60) (q : ∀ b : Bool, (b = true ↔ d = e) -> Q (.bl b) μ) : dEq d e μ Q := dEqN_si h1 h2 hn fun b hb => by rw [Bool.false_xor]; exact q b hb
theorem dNe_si {d e : D} {μ : Mu} {Q : DK} {n : Nat} (h1 : SI n d) (h2 : SI n e) (hn : n <= 60) (q : ∀ b : Bool, (b = true ↔ d = e) -> Q (.bl (!b)) μ) : dNe d e μ Q := dEqN_si h1 h2 hn fun b hb => by rw [Bool.true_xor]; exact q b hb
theorem dNe_same {d : D} {μ : Mu} {Q : DK} {n : Nat} (h1 : SI n d) (hn : n <= 60) (q : Q (.bl false) μ) : dNe d d μ Q := dNe_si h1 h1 hn fun b hb => by rw [hb.mpr rfl]; exact q
def mkFK (c : Str) (dsp : DSp) (n j : Nat) (pat : List Src) (cs ds es : List D) (μ : Mu) (Q : DK) : Prop := ∀ k, μ k = none -> dsp (sel n j pat .non cs (.cell k :: ds) es) (mset μ k (.ins c [] [])) fun d μ3 => d = .non /\ frzD μ3 (.cell k) Q
theorem e_makeF {c : Str} {dsp : DSp} {n j : Nat} {pat : List Src} {cs : List D} {w wk : DA} {ρ : DEnv} {μ : Mu} {Q : DK} : dMakeF c dsp n j pat cs w wk ρ μ Q = w ρ μ fun ds μ1 => wk ρ μ1 fun es μ2 => mkFK c dsp n j pat cs ds es μ2 Q := rfl
theorem sl6_to2 {a b c d e f : D} {μ : Mu} {Q : DK} : dSlG (.tup [a, b, c, d, e, f]) none (some 2) μ Q = Q (.tup [a, b]) μ := by
  rw [e_slt]
  simp only [show cutD [a, b, c, d, e, f] none (some 2) = [a, b] from cutD_hi _ 2, eq_iff_iff, and_iff_right_iff_imp]
  intro _ ⟨_, h⟩
  have h3 : HT.sIx 6 6 (some 2) = 2 := HT.sIx_nat 6 6 2
  have h2 : HT.sIx 6 6 (some 2) = 6 := h
  rw [h3] at h2; omega
theorem sl6_to3 {a b c d e f : D} {μ : Mu} {Q : DK} : dSlG (.tup [a, b, c, d, e, f]) none (some 3) μ Q = Q (.tup [a, b, c]) μ := by
  rw [e_slt]
  simp only [show cutD [a, b, c, d, e, f] none (some 3) = [a, b, c] from cutD_hi _ 3, eq_iff_iff, and_iff_right_iff_imp]
  intro _ ⟨_, h⟩
  have h3 : HT.sIx 6 6 (some 3) = 3 := HT.sIx_nat 6 6 3
  have h2 : HT.sIx 6 6 (some 3) = 6 := h
  rw [h3] at h2; omega
theorem sl6_to4 {a b c d e f : D} {μ : Mu} {Q : DK} : dSlG (.tup [a, b, c, d, e, f]) none (some 4) μ Q = Q (.tup [a, b, c, d]) μ := by
  rw [e_slt]
  simp only [show cutD [a, b, c, d, e, f] none (some 4) = [a, b, c, d] from cutD_hi _ 4, eq_iff_iff, and_iff_right_iff_imp]
  intro _ ⟨_, h⟩
  have h3 : HT.sIx 6 6 (some 4) = 4 := HT.sIx_nat 6 6 4
  have h2 : HT.sIx 6 6 (some 4) = 6 := h
  rw [h3] at h2; omega
theorem sl6_to5 {a b c d e f : D} {μ : Mu} {Q : DK} : dSlG (.tup [a, b, c, d, e, f]) none (some 5) μ Q = Q (.tup [a, b, c, d, e]) μ := by
  rw [e_slt]
  simp only [show cutD [a, b, c, d, e, f] none (some 5) = [a, b, c, d, e] from cutD_hi _ 5, eq_iff_iff, and_iff_right_iff_imp]
  intro _ ⟨_, h⟩
  have h3 : HT.sIx 6 6 (some 5) = 5 := HT.sIx_nat 6 6 5
  have h2 : HT.sIx 6 6 (some 5) = 6 := h
  rw [h3] at h2; omega
theorem sl6_from1 {a b c d e f : D} {μ : Mu} {Q : DK} : dSlG (.tup [a, b, c, d, e, f]) (some 1) none μ Q = Q (.tup [b, c, d, e, f]) μ := by
  rw [e_slt]
  simp only [show cutD [a, b, c, d, e, f] (some 1) none = [b, c, d, e, f] from cutD_lo _ 1, eq_iff_iff, and_iff_right_iff_imp]
  intro _ ⟨h, _⟩
  have h3 : HT.sIx 6 0 (some 1) = 1 := HT.sIx_nat 6 0 1
  have h2 : HT.sIx 6 0 (some 1) = 0 := h
  rw [h3] at h2; omega
theorem sl6_from2 {a b c d e f : D} {μ : Mu} {Q : DK} : dSlG (.tup [a, b, c, d, e, f]) (some 2) none μ Q = Q (.tup [c, d, e, f]) μ := by
  rw [e_slt]
  simp only [show cutD [a, b, c, d, e, f] (some 2) none = [c, d, e, f] from cutD_lo _ 2, eq_iff_iff, and_iff_right_iff_imp]
  intro _ ⟨h, _⟩
  have h3 : HT.sIx 6 0 (some 2) = 2 := HT.sIx_nat 6 0 2
  have h2 : HT.sIx 6 0 (some 2) = 0 := h
  rw [h3] at h2; omega
theorem sl6_from4 {a b c d e f : D} {μ : Mu} {Q : DK} : dSlG (.tup [a, b, c, d, e, f]) (some 4) none μ Q = Q (.tup [e, f]) μ := by
  rw [e_slt]
  simp only [show cutD [a, b, c, d, e, f] (some 4) none = [e, f] from cutD_lo _ 4, eq_iff_iff, and_iff_right_iff_imp]
  intro _ ⟨h, _⟩
  have h3 : HT.sIx 6 0 (some 4) = 4 := HT.sIx_nat 6 0 4
  have h2 : HT.sIx 6 0 (some 4) = 0 := h
  rw [h3] at h2; omega
theorem sl6_from5 {a b c d e f : D} {μ : Mu} {Q : DK} : dSlG (.tup [a, b, c, d, e, f]) (some 5) none μ Q = Q (.tup [f]) μ := by
  rw [e_slt]
  simp only [show cutD [a, b, c, d, e, f] (some 5) none = [f] from cutD_lo _ 5, eq_iff_iff, and_iff_right_iff_imp]
  intro _ ⟨h, _⟩
  have h3 : HT.sIx 6 0 (some 5) = 5 := HT.sIx_nat 6 0 5
  have h2 : HT.sIx 6 0 (some 5) = 0 := h
  rw [h3] at h2; omega
theorem atI_5 {α : Type} {a b c d e f : α} {r : List α} : atI (a :: b :: c :: d :: e :: f :: r) 5 = some f := atI_nat (j := 5) rfl
end L2

namespace L2
open PySem PySem.Spec PyProof.Rows
def Ev (w : DE) (ρ : DEnv) (μ : Mu) (d : D) : Prop := ∀ Q : DK, Q d μ -> w ρ μ Q
def Evs (w : DA) (ρ : DEnv) (μ : Mu) (ds : List D) : Prop := ∀ Q : List D -> Mu -> Prop, Q ds μ -> w ρ μ Q
def EvO (q : DR2) (d e : D) (μ : Mu) (v : D) : Prop := ∀ Q : DK, Q v μ -> q d e μ Q
def EvB (q : DRs) (ds : List D) (μ : Mu) (v : D) : Prop := ∀ Q : DK, Q v μ -> q ds μ Q
section
variable {w wa wb : DE} {wr : DA} {ρ : DEnv} {μ : Mu} {d e v : D} {ds es : List D} {i : Nat} {q : DR2} {D' : DEnds}
theorem ev_var (h : ρ[i]? = some (some d)) : Ev (dVar i) ρ μ d := fun Q z => by unfold dVar; rw [h]; exact z
theorem ev_c : Ev (dC d) ρ μ d := fun Q z => z
theorem ev_op (h1 : Ev wa ρ μ d) (h2 : Ev wb ρ μ e) (h3 : EvO q d e μ v) : Ev (dOp q wa wb) ρ μ v := fun Q z => h1 _ (h2 _ (h3 _ z))
theorem evs_nil : Evs dNil ρ μ [] := fun Q z => z
theorem evs_cons (h1 : Ev wa ρ μ d) (h2 : Evs wr ρ μ ds) : Evs (dCons wa wr) ρ μ (d :: ds) := fun Q z => h1 _ (h2 _ z)
theorem ev_tup (h : Evs wr ρ μ ds) (hl : ds.length <= 1000) : Ev (dTup wr) ρ μ (.tup ds) := fun Q z => h _ ⟨Nat.le_trans hl (by decide), z⟩
theorem ev_lst (h : Evs wr ρ μ ds) (hl : ds.length <= 1000) : Ev (dLst wr) ρ μ (.lst ds) := fun Q z => h _ ⟨Nat.le_trans hl (by decide), z⟩
theorem ev_cb {q : DRs} (h : Evs wr ρ μ ds) (h3 : EvB q ds μ v) : Ev (dCB q wr) ρ μ v := fun Q z => h _ (h3 _ z)
theorem ev_ixt {j : Int} (h : atI ds j = some v) : EvO dIx (.tup ds) (.int j) μ v := fun Q z => by rw [e_ixt, h]; exact z
theorem ev_ixl {j : Int} (h : atI ds j = some v) : EvO dIx (.lst ds) (.int j) μ v := fun Q z => by rw [e_ixl, h]; exact z
theorem ev_addt (h1 : ds ≠ []) (hl : ds.length + es.length <= 1000) : EvO dAdd (.tup ds) (.tup es) μ (.tup (ds ++ es)) := fun Q z => by
  rw [e_addt]; exact ⟨h1, Nat.le_trans hl (by decide), z⟩
theorem ev_add {a b : Int} : EvO dAdd (.int a) (.int b) μ (.int (a + b)) := fun Q z => by rw [e_add]; exact z
theorem ev_eqi {a b : Int} : EvO dEq (.int a) (.int b) μ (.bl (decide (a = b))) := fun Q z => by rw [dEq_int]; exact z
theorem ev_tuplel : EvB dTuple [.lst ds] μ (.tup ds) := fun Q z => by rw [e_tuplel]; exact z
theorem ev_slto {n : Nat} {m : Int} (h : Ev w ρ μ (.tup ds)) (hm : m = n) (hl : n < ds.length) : Ev (dSl dSlG w dNoPart (dPart (dC (.int m)))) ρ μ (.tup (ds.take n)) := fun Q z => h _ (by
  subst hm
  show dSlG (.tup ds) none (some (n : Int)) μ Q
  rw [e_slt, cutD_hi]
  refine ⟨fun ⟨_, h2⟩ => ?_, z⟩
  rw [HT.sIx_nat] at h2
  omega)
theorem ev_slfrom {n : Nat} {m : Int} (h : Ev w ρ μ (.tup ds)) (hm : m = n) (h0 : 0 < n) (hl : n < ds.length) : Ev (dSl dSlG w (dPart (dC (.int m))) dNoPart) ρ μ (.tup (ds.drop n)) := fun Q z => h _ (by
  subst hm
  show dSlG (.tup ds) (some (n : Int)) none μ Q
  rw [e_slt, cutD_lo]
  refine ⟨fun ⟨h2, _⟩ => ?_, z⟩
  rw [HT.sIx_nat] at h2
  omega)
theorem ev_to1 (h : Ev w ρ μ (.tup ds)) (hl : 1 < ds.length) : Ev (dSl dSlG w dNoPart (dPart (dC (.int 1)))) ρ μ (.tup (ds.take 1)) := ev_slto h rfl hl
theorem ev_to2 (h : Ev w ρ μ (.tup ds)) (hl : 2 < ds.length) : Ev (dSl dSlG w dNoPart (dPart (dC (.int 2)))) ρ μ (.tup (ds.take 2)) := ev_slto h rfl hl
theorem ev_to3 (h : Ev w ρ μ (.tup ds)) (hl : 3 < ds.length) : Ev (dSl dSlG w dNoPart (dPart (dC (.int 3)))) ρ μ (.tup (ds.take 3)) := ev_slto h rfl hl
theorem ev_to4 (h : Ev w ρ μ (.tup ds)) (hl : 4 < ds.length) : Ev (dSl dSlG w dNoPart (dPart (dC (.int 4)))) ρ μ (.tup (ds.take 4)) := ev_slto h rfl hl
theorem ev_to5 (h : Ev w ρ μ (.tup ds)) (hl : 5 < ds.length) : Ev (dSl dSlG w dNoPart (dPart (dC (.int 5)))) ρ μ (.tup (ds.take 5)) := ev_slto h rfl hl
theorem ev_from1 (h : Ev w ρ μ (.tup ds)) (hl : 1 < ds.length) : Ev (dSl dSlG w (dPart (dC (.int 1))) dNoPart) ρ μ (.tup (ds.drop 1)) := ev_slfrom h rfl (by decide) hl
theorem ev_from2 (h : Ev w ρ μ (.tup ds)) (hl : 2 < ds.length) : Ev (dSl dSlG w (dPart (dC (.int 2))) dNoPart) ρ μ (.tup (ds.drop 2)) := ev_slfrom h rfl (by decide) hl
theorem ev_from3 (h : Ev w ρ μ (.tup ds)) (hl : 3 < ds.length) : Ev (dSl dSlG w (dPart (dC (.int 3))) dNoPart) ρ μ (.tup (ds.drop 3)) := ev_slfrom h rfl (by decide) hl
theorem ev_from4 (h : Ev w ρ μ (.tup ds)) (hl : 4 < ds.length) : Ev (dSl dSlG w (dPart (dC (.int 4))) dNoPart) ρ μ (.tup (ds.drop 4)) := ev_slfrom h rfl (by decide) hl
theorem ev_from5 (h : Ev w ρ μ (.tup ds)) (hl : 5 < ds.length) : Ev (dSl dSlG w (dPart (dC (.int 5))) dNoPart) ρ μ (.tup (ds.drop 5)) := ev_slfrom h rfl (by decide) hl
end
end L2

namespace L2
open PySem PySem.Spec PyProof.Rows
end L2

namespace L2
open PySem PySem.Spec PyProof.Rows
def dKey : D -> Option Key
  | .int i => some (.inl i)
  | .str x => some (.inr x)
  | _ => none
def dctC (c : Option Ct) (R : List Key -> List D -> Prop) : Prop := match c with
  | some (.dct ks vs) => R ks vs
  | _ => False
def dctM (μ : Mu) (d : D) (R : List Key -> List D -> Prop) : Prop := match d with
  | .cell k => dctC (μ k) R
  | .dct ks vs => R ks vs
  | _ => False
section
variable {K : PySem.W.Frag} {fl : Wd} {W : Wd}
theorem dct_run {μ : Mu} {H : Hp} {d : D} {x : V} {R : List Key -> List D -> Prop} (r : Rel K fl W μ H) (q : Rep K W d x) (h : dctM μ d R) : ∃ a ks vs xs, x = .ref a /\ H a = some (.dK (ks.zip xs)) /\ ks.length = xs.length /\ Reps K W vs xs /\ R ks vs := by
  unfold dctM at h
  split at h
  . rename_i k
    obtain ⟨a, rfl, hb⟩ := q.cell'
    unfold dctC at h
    split at h
    . rename_i ks vs hk
      obtain ⟨a', e1, e2, xs, e3, l, z⟩ := r.cel k _ hk
      rw [hb] at e1; cases e1
      exact ⟨a, ks, vs, xs, rfl, e3, l, z, h⟩
    . exact h.elim
  . unfold Rep at q
    obtain ⟨a, xs, rfl, e, l, z⟩ := q
    exact ⟨a, _, _, xs, rfl, r.sub _ _ e, l, z, h⟩
  . exact h.elim
theorem key_run {e : D} {y : V} {k : Key} (q : Rep K W e y) (h : dKey e = some k) : y = kV k := by
  unfold dKey at h
  split at h <;> cases h
  . rw [q.i']; rfl
  . rw [q.s']; rfl
theorem optK_run {α : Type} {o : Option α} {R : α -> Prop} (h : optK o R) : ∃ a, o = some a /\ R a := by
  cases o with
  | none => exact h.elim
  | some a => exact ⟨a, rfl, h⟩
end
section
variable {X : Cx} {o i e value : Expr} {pos pos' apos cpos : Pos} {td ty tv : TE}
theorem qe_dgetK (hu : X.A.units + 1 < cLine) (ho : WE X o td) (hi : WE X i ty) (hs : NoSl i := by exact fun _ _ => rfl) : WE X (.Subscript o i pos) (tDGet td ty) := ⟨pe_dget hu ho.out hi.out hs⟩
def rDNotIn : R2 := fun y x H Q => ∃ a o, x = .ref a /\ DGet H a y o /\ Q (.bl (!o.isSome)) H
theorem op_dnotin (hu : X.A.units + 1 < cLine) : OpR X (compareOp .NotIn) rDNotIn := by
  intro pins s σ H x y v u Q I rx ry h
  obtain ⟨a, o, rfl, g, q⟩ := h
  cases ry
  exact d_notIn hu I g rx fun s3 I3 => ⟨.bl (!o.isSome), H, I3, rfl, q⟩
end
section
variable {K : PySem.W.Frag} {fl : Wd}
end
end L2

namespace L2
open PySem PySem.Spec PyProof.Rows
section
variable {prog : Program} {w : World} {A : Around} {E : Value -> Shared -> Prop} {s : Shared}
theorem sorted_srcS {v : Value} {ss : List Str} {Q : Value -> Shared -> Prop}
    (hc : ∀ R : List Value -> Shared -> Prop, (∀ (h' : Heap) (tk : Nat) (vs : List Value), (∀ b o, s.heap.get? b = some o -> h'.get? b = some o) -> StrsAre vs ss -> R vs { s with heap := h', toks := tk }) -> wpAny (model prog w) A.in1 (collect v) R E s) (h64 : ss.length < 64)
    (h : ∀ (h1 h2 : Heap) (tk : Nat) (out : Array Value) (ss' : List Str) (e : Nat), (∀ b o, s.heap.get? b = some o -> h1.get? b = some o) -> (∀ b o, h1.get? b = some o -> h2.get? b = some o) -> h2.get? h1.objs.size = some (seqObj "list" out e) -> StrsAre out.toList ss' -> ss'.Perm ss -> sortedS ss' = true -> Q (.ref h1.objs.size) { s with heap := h2, toks := tk }) :
    wpAny (model prog w) A (call (.builtin "sorted") [v]) Q E s := by
  refine Calls.call_function_entry kind_sorted plain_sorted entry_sorted (args_sorted1 _) ?_
  unfold Builtin.«sorted»
  refine wpAny_bind (m := checkCount "sorted" 1 1 _) (wpAny_pure ?_)
  refine wpAny_bind (hc _ fun h' tk vs hk hS => ?_)
  have hl : vs.length = ss.length := by
    clear h hc h64
    induction hS with
    | nil => rfl
    | cons _ _ _ ih => simp [ih]
  refine wpAny_bind (wpAny_newList ?_ (by rw [hl]; exact Nat.le_trans (Nat.le_of_lt h64) (by decide)))
  have hoL : (h'.push (seqObj "list" vs.toArray 0)).get? h'.objs.size = some (seqObj "list" vs.toArray 0) := Heap.get?_push_size _ rfl
  refine wpAny_bind (wpAny_holding (wpAny_call_entry slot_list_sort ⟨_, hoL, rfl⟩ entry_list_sort (list_sort_treeK strKind_oneLt hoL hS.keysOf (fun v₁ v₂ rest e => keyKind_strs (by rw [<- e]; exact hS)) (by rw [hl]; exact h64) fun st' a1 a2 => ⟨_, rfl, ?_⟩) (args_list_sort _)))
  obtain ⟨ss', h1, h2, h3⟩ := sorted_out_str hS a1 a2
  obtain ⟨e, he⟩ := sortedHeap_at (out := (arrOf st').map (·.2)) hoL
  refine wpAny_pure ⟨_, rfl, h h' _ tk _ ss' e hk (fun b o q' => ?_) he h1 h2 h3⟩
  have hlt := Heap.lt_size q'
  rw [sortedHeap_old (Nat.ne_of_lt hlt) (by rw [size_push']; exact Nat.lt_succ_of_lt hlt), Heap.get?_push_ne _ _ _ (Nat.ne_of_lt hlt)]
  exact q'
end
section
variable {X : Cx} (K : PySem.W.Frag)
def rSortT : List V -> Hp -> VK -> Prop := fun xs H Q => ∃ p ns, xs = [.ref p] /\ SqT K H p (ns.map V.str) /\ ns.length < 64 /\ ∀ ns' l, List.Perm ns' ns -> sortedS ns' = true -> H l = none -> Q (.ref l) (upd H l (.lst (ns'.map V.str)))
def rSortD : List V -> Hp -> VK -> Prop := fun xs H Q => ∃ p kvs ns, xs = [.ref p] /\ H p = some (.dK kvs) /\ kvs.map (·.1) = ns.map Sum.inr /\ ns.length < 64 /\ ∀ ns' l, List.Perm ns' ns -> sortedS ns' = true -> H l = none -> Q (.ref l) (upd H l (.lst (ns'.map V.str)))
theorem srt_fin {pins : List (Addr × Obj)} {σ : St} {H : Hp} {s : Shared} {h2 : Heap} {tk : Nat} {ns ss' : List Str} {out : Array Value} {e : Nat} {Q : VK} (I : Inv X pins σ H s) (hz : ns.length < 64) (hk : ∀ b o, s.heap.get? b = some o -> h2.get? b = some o) (he : h2.get? s.heap.objs.size = some (seqObj "list" out e)) (g1 : StrsAre out.toList ss') (g2 : ss'.Perm ns) (g3 : sortedS ss' = true) (q : H s.heap.objs.size = none -> Q (.ref s.heap.objs.size) (upd H s.heap.objs.size (.lst (ss'.map V.str)))) : EP X pins σ Q (.ref s.heap.objs.size) { s with heap := h2, toks := tk } := by
  have hf : H s.heap.objs.size = none := I.hok.fresh (Nat.le_refl _)
  refine ⟨.ref s.heap.objs.size, _, I.laid (a := s.heap.objs.size) (o := .lst (ss'.map V.str)) (t' := tk) hk (Nat.le_refl _) ?_, rfl, q hf⟩
  refine ⟨by rw [List.length_map, g2.length_eq]; exact Nat.le_trans (Nat.le_of_lt hz) (by decide), out.toList, e, vals_strs' g1, ?_⟩
  rw [he]
theorem strs_at {P : Program} {w : World} : ∀ {kvs : List (Key × V)} {vs : List (Key × Value)} {ns : List Str} {acc : Array Value}, ItemsOf (fun i v => ∃ k x, vs[i]? = some (k, x) /\ (mixKind P w).is k v = true) acc vs.length -> KV kvs vs -> kvs.map (·.1) = ns.map Sum.inr -> StrsAre acc.toList ns := by
  intro kvs vs ns acc hacc rel hn
  have hk : vs.map (·.1) = ns.map Sum.inr := by
    rw [<- hn]
    clear hn hacc
    induction rel with
    | nil => rfl
    | cons a _ ih => simp only [List.map_cons, ih, a.1]
  have hl : vs.length = ns.length := by
    have := congrArg List.length hk
    simpa using this
  have hat : ∀ (i : Nat) (v : Value), acc.toList[i]? = some v -> ∃ y t, ns[i]? = some y /\ v = .str y t := fun i v hv => by
    obtain ⟨k, x, hx, hi⟩ := hacc.2 i v (by rw [<- Array.getElem?_toList]; exact hv)
    have h1 : (vs.map (·.1))[i]? = some k := by rw [List.getElem?_map, hx]; rfl
    rw [hk, List.getElem?_map] at h1
    obtain ⟨y, hy, rfl⟩ := Option.map_eq_some_iff.mp h1
    have : keyIs (.inr y) v = true := hi
    obtain ⟨t, rfl⟩ : ∃ t, v = .str y t := by
      rcases keyIs_shape this with ⟨i, t, e, _⟩ | ⟨x', t, e, rfl⟩
      . cases e
      . cases e; exact ⟨t, rfl⟩
    exact ⟨y, t, hy, rfl⟩
  have hsz : acc.toList.length = ns.length := by rw [Array.length_toList, hacc.1, hl]
  clear hacc rel hn hk hl
  generalize acc.toList = l at hat hsz
  induction l generalizing ns with
  | nil => cases ns with
    | nil => exact .nil
    | cons y r => simp at hsz
  | cons v l ih => cases ns with
    | nil => simp at hsz
    | cons y r =>
      obtain ⟨y', t, e1, rfl⟩ := hat 0 v rfl
      cases e1
      exact .cons y t (ih (fun i v hv => hat (i + 1) v (by simpa using hv)) (by simpa using hsz))
theorem call_sortT (h : X.K = K := by rfl) : CallR X (.builtin "sorted") (rSortT K) := by
  subst h
  intro pins s σ H xs us Q I r h
  obtain ⟨p, ns, rfl, hl, hz, q⟩ := h
  obtain ⟨u, rfl, rx⟩ := vals1 r
  cases rx
  obtain ⟨its, r', ⟨o, ho, hcl, n, hd⟩, hz'⟩ := I.tuple hl
  refine sorted_srcS (ss := ns) (fun R hR => ?_) hz fun h1 h2 tk out ss' e k1 k2 he g1 g2 g3 => ?_
  . refine wpAny_collect_seq p (.inr rfl) ho hcl hd (fun h' hk => ?_) (by rw [List.size_toArray, <- r'.length, List.length_map]; exact Nat.le_trans (Nat.le_of_lt hz) (by decide))
    have := hR h' s.toks its hk (strs_vals' r')
    simpa using this
  . exact srt_fin (I.kept (t' := tk) k1) hz k2 he g1 g2 g3 (q ss' h1.objs.size g2 g3)
theorem call_sortD (hc : X.calm = true := by rfl) : CallR X (.builtin "sorted") rSortD := by
  intro pins s σ H xs us Q I r h
  obtain ⟨p, kvs, ns, rfl, hp, hn, hz, q⟩ := h
  obtain ⟨u, rfl, rx⟩ := vals1 r
  cases rx
  obtain ⟨z, hd, vs, rel, dd⟩ := dk_rd I.hok (.inl hp)
  obtain ⟨ep, dd⟩ := dd.dictAt
  have hlen : vs.length = ns.length := by
    have e1 := Paired.length rel
    have e2 := congrArg List.length hn
    simp only [List.length_map] at e2
    omega
  refine sorted_srcS (ss := ns) (fun R hR => ?_) hz fun h1 h2 tk out ss' e k1 k2 he g1 g2 g3 => ?_
  . refine PySem.W.kdu_collect (PySem.W.kdl_dict hd) (by first | exact I.ok.hd hc | exact (I.ok.hd hc)) dd (by rw [hlen]; exact Nat.le_trans (Nat.le_of_lt hz) (by decide)) fun h' tk acc hk hacc => ?_
    refine hR h' tk acc.toList hk ?_
    exact strs_at hacc rel hn
  . exact srt_fin (I.kept (t' := tk) k1) hz k2 he g1 g2 g3 (q ss' h1.objs.size g2 g3)
def rSort3 : List V -> Hp -> VK -> Prop := fun xs H Q => (rSortG K xs H Q \/ rSortT K xs H Q) \/ rSortD xs H Q
theorem call_sort3 (h : X.K = K := by rfl) (hc : X.calm = true := by rfl) : CallR X (.builtin "sorted") (rSort3 K) := ((call_sortedG K h).or (call_sortT K h)).or (call_sortD hc)
end
def dSort3 : DRs := fun ds μ Q => dSorted ds μ Q \/ match ds with
  | [.tup es] => ∃ ns, es = ns.map D.str /\ ns.length < 64 /\ ∀ ns', List.Perm ns' ns -> sortedS ns' = true -> Q (.lst (ns'.map D.str)) μ
  | [d] => dctM μ d fun ks _ => ∃ ns, ks = ns.map Sum.inr /\ ns.length < 64 /\ ∀ ns', List.Perm ns' ns -> sortedS ns' = true -> Q (.lst (ns'.map D.str)) μ
  | _ => False
instance {K : PySem.W.Frag} {fl : Wd} : SimRs K fl (rSort3 K) dSort3 := ⟨fun {W μ H ds xs Q Q'} r z h k => by
  have fin : ∀ ns' : List Str, Q (.lst (ns'.map D.str)) μ -> ∀ l, H l = none -> Q' (.ref l) (upd H l (.lst (ns'.map V.str))) := fun ns' hq l hl => by
    obtain ⟨r2, le⟩ := r.newF (o := .lst (ns'.map V.str)) hl
    exact k _ _ _ _ _ le r2 (.lst upd_same (Reps.of_strs ns')) hq
  rcases h with h | h
  . exact .inl (.inl (SimRs.run (K := K) (r := rSortG K) (q := dSorted) r z h k))
  . split at h
    . obtain ⟨ns, rfl, hz, h⟩ := h
      obtain ⟨y, rfl, qy⟩ := z.one
      obtain ⟨p, xs, rfl, s1, z1⟩ := qy.tup'
      rw [z1.strs] at s1
      exact .inl (.inr ⟨p, ns, rfl, s1.sm r.sub, hz, fun ns' l g1 g2 hl => fin ns' (h ns' g1 g2) l hl⟩)
    . obtain ⟨y, rfl, qy⟩ := z.one
      obtain ⟨p, ks, vs, xs, rfl, ea, l, z1, h3⟩ := dct_run r qy h
      obtain ⟨ns, rfl, hz, h⟩ := h3
      refine .inr ⟨p, _, ns, rfl, ea, ?_, hz, fun ns' l g1 g2 hl => fin ns' (h ns' g1 g2) l hl⟩
      rw [List.map_fst_zip]
      omega
    . exact h.elim⟩
end L2

namespace L2
open PySem PySem.Spec PyProof.Rows
section
variable {P : Program} {w : World} {H : Hp} {h : Heap} {a : Addr} {u u' : HO}
end
section
variable {X : Cx} {pins : List (Addr × Obj)} {σ : St} {H : Hp} {s : Shared} {a : Addr} {u u' : HO}
end
section
variable {K : PySem.W.Frag} {fl : Wd} {tl : TE} {w : DE}
end
end L2

namespace L2
open PySem PySem.Spec PyProof.Rows
def stepL {α : Type} (xs : List α) (lo hi : Option Int) (st : Int) : List α := (sliceRange (sliceBounds lo hi (some st) xs.length).1 (sliceBounds lo hi (some st) xs.length).2.1 (sliceBounds lo hi (some st) xs.length).2.2).filterMap (xs[·]?)
def stepT {α : Type} (xs : List α) (lo hi : Option Int) (st : Int) : List α := (List.range (Builtin.Slice.slicePlaces (Builtin.Slice.sliceAdjust lo hi st xs.length).1 (Builtin.Slice.sliceAdjust lo hi st xs.length).2 st)).filterMap fun (m : Nat) => xs[((Builtin.Slice.sliceAdjust lo hi st xs.length).1 + (m : Int) * st).toNat]?
theorem Vals.pick {xs : List V} {us : List Value} (r : Vals xs us) : ∀ (ix : List Nat), Vals (ix.filterMap (xs[·]?)) (ix.filterMap (us[·]?))
  | [] => .nil
  | i :: ix => by
    have ih := Vals.pick r ix
    rw [List.filterMap_cons, List.filterMap_cons]
    cases e : xs[i]? with
    | some x =>
      obtain ⟨u, eu, ru⟩ := r.get e
      rw [eu]
      exact .cons ru ih
    | none =>
      have hl : us[i]? = none := by
        rw [List.getElem?_eq_none_iff] at e ⊢
        rw [<- r.length]; exact e
      rw [hl]
      exact ih
theorem Reps.pick {K : PySem.W.Frag} {W : Wd} {ds : List D} {xs : List V} (r : Reps K W ds xs) : ∀ (ix : List Nat), Reps K W (ix.filterMap (ds[·]?)) (ix.filterMap (xs[·]?))
  | [] => .nil
  | i :: ix => by
    have ih := Reps.pick r ix
    rw [List.filterMap_cons, List.filterMap_cons]
    cases e : ds[i]? with
    | some x =>
      obtain ⟨u, eu, ru⟩ := r.get e
      rw [eu]
      exact .cons ru ih
    | none =>
      have hl : xs[i]? = none := by
        rw [List.getElem?_eq_none_iff] at e ⊢
        rw [r.length]; exact e
      rw [hl]
      exact ih
theorem Reps.stepL {K : PySem.W.Frag} {W : Wd} {ds : List D} {xs : List V} (r : Reps K W ds xs) (lo hi : Option Int) (st : Int) : Reps K W (L2.stepL ds lo hi st) (L2.stepL xs lo hi st) := by
  unfold L2.stepL
  rw [r.length]
  exact r.pick _
theorem stepT_pick {α : Type} (xs : List α) (lo hi : Option Int) (st : Int) : stepT xs lo hi st = ((List.range (Builtin.Slice.slicePlaces (Builtin.Slice.sliceAdjust lo hi st xs.length).1 (Builtin.Slice.sliceAdjust lo hi st xs.length).2 st)).map fun (m : Nat) => ((Builtin.Slice.sliceAdjust lo hi st xs.length).1 + (m : Int) * st).toNat).filterMap (xs[·]?) := by
  unfold stepT
  rw [List.filterMap_map]
  rfl
theorem Reps.stepT {K : PySem.W.Frag} {W : Wd} {ds : List D} {xs : List V} (r : Reps K W ds xs) (lo hi : Option Int) (st : Int) : Reps K W (L2.stepT ds lo hi st) (L2.stepT xs lo hi st) := by
  rw [stepT_pick, stepT_pick, r.length]
  exact r.pick _
theorem Vals.stepT {xs : List V} {us : List Value} (r : Vals xs us) (lo hi : Option Int) (st : Int) : Vals (L2.stepT xs lo hi st) (L2.stepT us lo hi st) := by
  rw [stepT_pick, stepT_pick, r.length]
  exact r.pick _
theorem stepL_size (us : List Value) (lo hi : Option Int) (st : Int) : (slicePick us.toArray lo hi (some st)) = (stepL us lo hi st).toArray := by
  unfold slicePick stepL
  simp only [List.size_toArray, List.getElem?_toArray]
section
variable {prog : Program} {w : World} {A : Around} {E : Value -> Shared -> Prop} {s : Shared}
theorem sliceApplied_st {sl : Addr} {vl vu vk : Value} {lo hi : Option Int} {st : Int} {n : Nat} {Q : Int × Int × Nat -> Shared -> Prop} (hs : s.heap.IsSliceOf sl vl vu vk) (pl : IsPart vl lo) (pu : IsPart vu hi) (pk : IsPart vk (some st)) (h0 : st ≠ 0)
    (h : Q ((Builtin.Slice.sliceAdjust lo hi st n).1, st, Builtin.Slice.slicePlaces (Builtin.Slice.sliceAdjust lo hi st n).1 (Builtin.Slice.sliceAdjust lo hi st n).2 st) s) : wpAny (model prog w) A (Builtin.Slice.sliceApplied (.ref sl) (pure (n : Int))) Q E s := by
  obtain ⟨os, hos, hcs, hds⟩ := id hs
  unfold Builtin.Slice.sliceApplied Builtin.Slice.sliceFields
  refine wpAny_bind (wpAny_bind (wpAny_field hos hds (x := vl) rfl (wpAny_bind (wpAny_field hos hds (x := vu) rfl (wpAny_bind (wpAny_field hos hds (x := vk) rfl (wpAny_pure ?_)))))))
  refine wpAny_bind (HT.slicePart_ pk ?_)
  show wpAny _ _ (if (st == 0) = true then _ else _) _ _ s
  rw [if_neg (by simpa using h0)]
  refine wpAny_bind (HT.slicePart_ pl (wpAny_bind (HT.slicePart_ pu (wpAny_bind (wpAny_pure ?_)))))
  exact wpAny_pure h
theorem getItem_tuple_st {t sl : Addr} {items : Array Value} {vl vu vk : Value} {lo hi : Option Int} {st : Int} {Q : Value -> Shared -> Prop} (ht : IsTup s.heap t items) (hs : s.heap.IsSliceOf sl vl vu vk) (pl : IsPart vl lo) (pu : IsPart vu hi) (pk : IsPart vk (some st)) (h0 : st ≠ 0) (h1 : st ≠ 1)
    (h : Q (.ref s.heap.objs.size) { s with heap := s.heap.push { cls := .type "tuple", data := .seq (stepT items.toList lo hi st).toArray } })
    (hsz : (stepT items.toList lo hi st).length <= sizeLine) : wpAny (model prog w) A (getItem (.ref t) (.ref sl)) Q E s := by
  have htake : sizeOk (.seq (stepT items.toList lo hi st).toArray) := by
    show (stepT items.toList lo hi st).toArray.size <= sizeLine
    rw [List.size_toArray]; exact hsz
  obtain ⟨os, hos, hcs, hds⟩ := id hs
  have hTs : s.TypeIs (.ref sl) "slice" := ⟨os, hos, hcs⟩
  unfold getItem
  try with_reducible refine wpAny_holding ?_
  first | refine wpAny_bind (wpAny_pure ?_) | skip
  refine wpAny_bind (wpAny_sequenceKey ht.typeIs (by decide) ?_)
  refine wpAny_bind (wpAny_callSpecial?_slot (name := Str.ofString "__getitem__") ht.typeIs PyProof.Rows.slot_tuple_getitem
    (wpAny_call_entry PyProof.Rows.slot_tuple_getitem ht.typeIs entry_tuple_getitem ?_ (args_tuple_getitem _ _)))
  show wpAny _ _ (Builtin.Tuple.tupleItemsOf (.ref t) >>= _) _ _ s
  refine wpAny_bind (tupleItemsOf_ ht ?_)
  refine wpAny_bind (wpAny_typeOf hTs ?_)
  rw [if_pos (by decide)]
  refine wpAny_bind (sliceApplied_st hs pl pu pk h0 ?_)
  have hno : ∀ b c : Bool, ¬ ((b && (st == 1) && c) = true) := by
    intro b c q
    rw [Bool.and_eq_true, Bool.and_eq_true] at q
    exact h1 (eq_of_beq q.1.2)
  show wpAny _ _ (if ((_ == _) && (st == 1) && (_ == _)) = true then _ else _) _ _ s
  rw [if_neg (hno _ _)]
  have e : ((List.range (Builtin.Slice.slicePlaces (Builtin.Slice.sliceAdjust lo hi st items.size).1 (Builtin.Slice.sliceAdjust lo hi st items.size).2 st)).filterMap fun (m : Nat) => items[((Builtin.Slice.sliceAdjust lo hi st items.size).1 + (m : Int) * st).toNat]?).toArray = (stepT items.toList lo hi st).toArray := by
    unfold stepT
    simp only [Array.length_toList, Array.getElem?_toList]
  rw [e]
  first
    | exact wpAny_bind (m := Builtin.Tuple.tupleExact _) (wpAny_newObj_type (wpAny_pure ⟨_, rfl, wpAny_pure h⟩) htake)
    | exact wpAny_bind (m := Builtin.Tuple.tupleExact _) (wpAny_newObj_type (wpAny_bind (wpAny_pure (wpAny_pure ⟨_, rfl, wpAny_pure h⟩))) htake)
    | exact wpAny_bind (wpAny_bind (m := Builtin.Tuple.tupleExact _) (wpAny_newObj_type (wpAny_pure (wpAny_pure ⟨_, rfl, wpAny_pure h⟩)) htake))
    | exact wpAny_bind (wpAny_bind (m := Builtin.Tuple.tupleExact _) (wpAny_newObj_type (wpAny_pure ⟨_, rfl, wpAny_pure h⟩) htake))
end
section
variable {X : Cx} {e ke : Expr} {lo hi : Option Expr} {te : TE} {tl th tk : TO} {p2 pos : Pos}
def Sl3 (X : Cx) (r : V -> Option Int -> Option Int -> Int -> Hp -> VK -> Prop) : Prop :=
  ∀ (pins : List (Addr × Obj)) (s : Shared) (σ : St) (H : Hp) (x : V) (v vl vu vk : Value) (lo hi : Option Int) (st : Int) (sl : Addr) (Q : VK), Inv X pins σ H s -> RelV x v -> s.heap.IsSliceOf sl vl vu vk -> IsPart vl lo -> IsPart vu hi -> IsPart vk (some st) -> r x lo hi st H Q ->
    ∃ T id, typeLookup (.type T) "__getitem__" = pure (some (.builtin id)) /\ s.TypeIs v T /\ wpAny (model X.prog X.w) X.A (getItem v (.ref sl)) (EP X pins σ Q) X.xe s
def tSl3 (r : V -> Option Int -> Option Int -> Int -> Hp -> VK -> Prop) (te : TE) (tl th tk : TO) : TE := fun σ H Q => te σ H fun x H1 => tl σ H1 fun l H2 => th σ H2 fun u H3 => tk σ H3 fun k H4 => ∃ st, k = some st /\ r x l u st H4 Q
theorem pe_slice3 {r : V -> Option Int -> Option Int -> Int -> Hp -> VK -> Prop} (hr : Sl3 X r) (he : PE X e te) (hl : PO X lo tl) (hu : PO X hi th) (hk : PO X (some ke) tk) : PE X (.Subscript e (.Slice lo hi (some ke) p2) pos) (tSl3 r te tl th tk) := by
  intro pins s σ H Q I h
  refine Subscript_ (thn (he pins s σ H _ I h) fun v s1 ⟨x, H1, I1, r1, q1⟩ => ?_)
  refine wpAny_Slice (thn (hl pins s1 σ H1 _ I1 q1) fun vl s2 ⟨l, H2, I2, pl, q2⟩ => thn (hu pins s2 σ H2 _ I2 q2) fun vu s3 ⟨u, H3, I3, pu, q3⟩ => thn (hk pins s3 σ H3 _ I3 q3) fun vk s4 ⟨k, H4, I4, pk, st, ek, q4⟩ => ?_)
  subst ek
  have I5 : Inv X pins σ H4 { s4 with heap := s4.heap.push { cls := .type "slice", data := .fields #[vl, vu, vk] } } := I4.kept (t' := s4.toks) fun b ob q => Heap.get?_push_of_some _ q
  obtain ⟨T, id, hT, ht, hg⟩ := hr pins { s4 with heap := s4.heap.push { cls := .type "slice", data := .fields #[vl, vu, vk] } } σ H4 x v vl vu vk l u st s4.heap.objs.size Q I5 r1 (Heap.IsSliceOf.new ..) pl pu pk q4
  show wpAny (model X.prog X.w) X.A (subscriptTail e (.Slice lo hi (some ke) p2) v (.ref s4.heap.objs.size)) (EP X pins σ Q) X.xe { s4 with heap := s4.heap.push { cls := .type "slice", data := .fields #[vl, vu, vk] } }
  exact tail_any (ops := [v, .ref s4.heap.objs.size]) ht hT hg (by with_unfolding_all rfl)
def rSt (K : PySem.W.Frag) : V -> Option Int -> Option Int -> Int -> Hp -> VK -> Prop := fun x lo hi st H Q => (∃ a xs, x = .ref a /\ SqL K H a xs /\ st ≠ 0 /\ (stepL xs lo hi st).length <= sizeLine /\ ∀ p, H p = none -> Q (.ref p) (upd H p (.lst (stepL xs lo hi st)))) \/
  (∃ a xs, x = .ref a /\ SqT K H a xs /\ st ≠ 0 /\ st ≠ 1 /\ (stepT xs lo hi st).length <= sizeLine /\ ∀ p, H p = none -> Q (.ref p) (upd H p (.tup (stepT xs lo hi st))))
theorem sl3_seq (K : PySem.W.Frag) (hK : X.K = K := by rfl) : Sl3 X (rSt K) := by
  subst hK
  intro pins s σ H x v vl vu vk lo hi st sl Q I rx hs pl pu pk h
  rcases h with ⟨a, xs, rfl, hx, h0, hl, q⟩ | ⟨a, xs, rfl, hx, h0, h1, hl, q⟩
  . cases rx
    obtain ⟨its, r, ht, hz⟩ := I.list hx
    have hlen := r.length
    refine ⟨"list", _, slot_list_getitem.lookup, ht.isList.typeIs, ?_⟩
    refine wpAny_getItem_list_slice ht.isList hs pl pu pk (fun z => h0 (Option.some.inj z)) ?_ (by rw [List.size_toArray] <;> omega)
    rw [stepL_size]
    refine ⟨.ref s.heap.objs.size, _, I.laid (t' := s.toks) (o := .lst (stepL xs lo hi st)) (fun b ob q => Heap.get?_push_of_some _ q) (Nat.le_refl _) ?_, rfl, q _ (I.hok.fresh (Nat.le_refl _))⟩
    have rv : Vals (stepL xs lo hi st) (stepL its lo hi st) := by
      unfold stepL
      rw [r.length]
      exact r.pick _
    exact ⟨hl, _, 0, rv, Heap.get?_push_size _ rfl⟩
  . cases rx
    obtain ⟨its, r, ht, hz⟩ := I.tuple hx
    have rv := r.stepT lo hi st
    refine ⟨"tuple", _, PyProof.Rows.slot_tuple_getitem.lookup, ht.typeIs, ?_⟩
    refine getItem_tuple_st ht hs pl pu pk h0 h1 ?_ (by simpa [<- rv.length] using hl)
    refine ⟨.ref s.heap.objs.size, _, I.laid (t' := s.toks) (o := .tup (stepT xs lo hi st)) (fun b ob q => Heap.get?_push_of_some _ q) (Nat.le_refl _) ?_, rfl, q _ (I.hok.fresh (Nat.le_refl _))⟩
    exact ⟨hl, _, rv, IsTup.new _ _⟩
theorem qe_slice3 {r : V -> Option Int -> Option Int -> Int -> Hp -> VK -> Prop} (hr : Sl3 X r) (he : WE X e te) (hl : WO X lo tl) (hu : WO X hi th) (hk : WO X (some ke) tk) : WE X (.Subscript e (.Slice lo hi (some ke) p2) pos) (tSl3 r te tl th tk) := ⟨pe_slice3 hr he.out hl.out hu.out hk.out⟩
end
def dSt : D -> Option Int -> Option Int -> Int -> Mu -> DK -> Prop := fun d lo hi st μ Q => match d with
  | .tup ds => (st ≠ 0 /\ st ≠ 1 /\ (stepT ds lo hi st).length <= sizeLine) /\ Q (.tup (stepT ds lo hi st)) μ
  | d => match lookL μ d with
    | some ds => (st ≠ 0 /\ (stepL ds lo hi st).length <= sizeLine) /\ Q (.lst (stepL ds lo hi st)) μ
    | none => False
def dSl3 (we : DE) (wl wh wk : DO) : DE := fun ρ μ Q => we ρ μ fun d μ1 => wl ρ μ1 fun l μ2 => wh ρ μ2 fun u μ3 => wk ρ μ3 fun k μ4 => optK k fun st => dSt d l u st μ4 Q
instance {K : PySem.W.Frag} {fl : Wd} {te : TE} {we : DE} {tl th tk : TO} {wl wh wk : DO} [a : SimE K fl te we] [b : SimO K fl tl wl] [c : SimO K fl th wh] [c2 : SimO K fl tk wk] : SimE K fl (tSl3 (rSt K) te tl th tk) (dSl3 we wl wh wk) := ⟨fun r e h k =>
  a.run r e h fun W1 d μ1 x H1 le1 r1 q1 h1 => b.run r1 (e.mono le1) h1 fun W2 l μ2 H2 le2 r2 h2 => c.run r2 (e.mono (le1.trans le2)) h2 fun W3 u μ3 H3 le3 r3 h3 => c2.run r3 (e.mono (le1.trans (le2.trans le3))) h3 fun W4 kk μ4 H4 le4 r4 h4 => by
    obtain ⟨st, rfl, h4⟩ := optK_run h4
    refine ⟨st, rfl, ?_⟩
    have q4 := q1.mono (le2.trans (le3.trans le4))
    have fin : ∀ xs ds, Reps K W4 ds xs -> st ≠ 0 /\ (stepL ds l u st).length <= sizeLine -> ∀ Q, (_ : Q (D.lst (stepL ds l u st)) μ4) -> ∀ Q', KV' K fl _ Q Q' -> ∀ p, H4 p = none -> Q' (.ref p) (upd H4 p (.lst (stepL xs l u st))) := fun xs ds z hz Q hq Q' kk p hp => by
      obtain ⟨r5, le5⟩ := r4.newF (o := .lst (stepL xs l u st)) hp
      exact kk _ _ _ _ _ (le1.trans (le2.trans (le3.trans (le4.trans le5)))) r5 (.lst upd_same ((z.stepL l u st).mono le5)) hq
    unfold dSt at h4
    split at h4
    . rename_i ds
      obtain ⟨⟨h0, h1', hl⟩, hq⟩ := h4
      obtain ⟨p, xs, rfl, s1, z1⟩ := q4.tup'
      have z2 := z1.stepT l u st
      refine .inr ⟨p, xs, rfl, s1.sm r4.sub, h0, h1', by rw [z2.length]; exact hl, fun p' hp => ?_⟩
      obtain ⟨r5, le5⟩ := r4.newF (o := .tup (stepT xs l u st)) hp
      exact k _ _ _ _ _ (le1.trans (le2.trans (le3.trans (le4.trans le5)))) r5 (.tup (SqT.of upd_same) (z2.mono le5)) hq
    . cases hd : lookL μ4 d with
      | none => rw [hd] at h4; exact h4.elim
      | some ds =>
        rw [hd] at h4
        obtain ⟨hz, hq⟩ := h4
        obtain ⟨p, xs, rfl, s1, z1⟩ := lookL_run r4 q4 hd
        refine .inl ⟨p, xs, rfl, SqL.of s1, hz.1, by rw [(z1.stepL l u st).length]; exact hz.2, fun p' hp => fin xs ds z1 hz _ hq _ k p' hp⟩⟩
end L2

namespace L2
open PySem PySem.Spec PyProof.Rows
def rInD (K : PySem.W.Frag) (neg : Bool) : R2 := fun x y H Q => ∃ d ps, Dat K H d x /\ (Dat K H (.list ps) y \/ Dat K H (.tuple ps) y) /\ EqOk d /\ EqOk (.list ps) /\ Q (.bl (neg ^^ ps.any fun p => PyData.eqv p d)) H
section
variable {X : Cx} {k : Nat} (K : PySem.W.Frag)
theorem lay_list {ps : List PyData} (h : (PyData.list ps).canLay0 = true) : PyData.canLayAll0 ps = true := by rw [PyData.canLay0] at h; exact h
theorem op_notInD {cm : Bool} (hr : RoomC cm k X.A) (h : X.K = K := by rfl) : OpR X (compareOp .NotIn) (rInD K true) := by
  subst h
  intro pins s σ H x y v u Q I rx ry h
  obtain ⟨d, ps, h1, h2, o1, o2, q⟩ := h
  obtain ⟨as, r1⟩ := h1.reads I rx
  have hu : X.A.units + 1 + min (PyData.depthAll ps) d.depth < cLine := by
    have := hr.units
    have := o1.deep
    omega
  rw [Bool.true_xor] at q
  rcases h2 with h2 | h2
  . obtain ⟨bs, r2⟩ := h2.reads I ry
    exact SeqAt.notIn_list_reads r2 r1 (lay_list o2.lay) o1.lay hu ⟨.bl _, H, I, rfl, q⟩
  . obtain ⟨bs, r2⟩ := h2.reads I ry
    exact SeqAt.notIn_tuple_reads r2 r1 (lay_list o2.lay) o1.lay hu ⟨.bl _, H, I, rfl, q⟩
end
def dInD (neg : Bool) : DR2 := fun d e μ Q => ∃ p ps, toPyM μ d = some p /\ (toPyM μ e = some (.list ps) \/ toPyM μ e = some (.tuple ps)) /\ EqOk p /\ EqOk (.list ps) /\ Q (.bl (neg ^^ ps.any fun q => PyData.eqv q p)) μ
instance {K : PySem.W.Frag} {fl : Wd} {neg : Bool} : SimR2 K fl (rInD K neg) (dInD neg) := ⟨fun {W μ H d e x y Q Q'} r q1 q2 h k => by
  obtain ⟨p, ps, e1, e2, o1, o2, q⟩ := h
  refine ⟨p, ps, toPyM_run r e1 q1, ?_, o1, o2, k _ _ _ _ _ (.refl _) r .b q⟩
  rcases e2 with e2 | e2
  . exact .inl (toPyM_run r e2 q2)
  . exact .inr (toPyM_run r e2 q2)⟩
theorem any_si {n : Nat} {d : D} {p : PyData} (h : SI n d) (e : toPy d = some p) : ∀ (ds : List D) (ps : List PyData), (∀ x ∈ ds, SI n x) -> toPys ds = some ps -> ((ps.any fun q => PyData.eqv q p) = true ↔ d ∈ ds)
  | [], ps, _, t => by
    unfold toPys at t; cases t; simp
  | x :: ds, ps, hs, t => by
    unfold toPys at t
    cases t1 : toPy x with
    | none => rw [t1] at t; cases t
    | some q =>
      cases t2 : toPys ds with
      | none => rw [t1, t2] at t; cases t
      | some qs =>
        rw [t1, t2] at t; cases t
        rw [List.any_cons, Bool.or_eq_true, List.mem_cons, any_si h e ds qs (fun y hy => hs y (List.mem_cons_of_mem _ hy)) t2, SI.eqv n x d q p (hs x List.mem_cons_self) h t1 e]
        exact ⟨fun z => z.imp Eq.symm id, fun z => z.imp Eq.symm id⟩
theorem inD_si {neg : Bool} {n : Nat} {d e : D} {ds : List D} {μ : Mu} {Q : DK} (hn : n <= 59) (h : SI n d) (hs : ∀ x ∈ ds, SI n x) (he : lookQ μ e = some ds) (q : ∀ b : Bool, (b = true ↔ d ∈ ds) -> Q (.bl (neg ^^ b)) μ) : dInD neg d e μ Q := by
  obtain ⟨p, t1, c1, b1⟩ := Pl.py n d h.pl
  obtain ⟨ps, t2, c2, b2⟩ := Pl.pys (Pl.py n) ds fun x hx => (hs x hx).pl
  refine ⟨p, ps, toPyM_of t1, ?_, ⟨c1, by omega⟩, ⟨by rw [PyData.canLay0]; exact c2, by rw [PyData.depth]; omega⟩, q _ (any_si h t1 ds ps hs t2)⟩
  cases e with
  | tup es =>
    have he : some es = some ds := he
    cases he
    refine .inr ?_
    show toPy (.tup ds) = _
    unfold toPy
    rw [t2]; rfl
  | lst es =>
    have he : some es = some ds := he
    cases he
    refine .inl ?_
    show toPy (.lst ds) = _
    unfold toPy
    rw [t2]; rfl
  | cell kk =>
    refine .inl ?_
    simp only [lookQ, lookL] at he
    cases hk : μ kk with
    | none => rw [hk] at he; cases he
    | some c =>
      rw [hk] at he
      cases c <;> simp at he
      subst he
      simp [toPyM, hk, t2]
  | _ => simp [lookQ, lookL] at he
end L2

namespace L2
open PySem PySem.Spec PyProof.Rows
section
variable {X : Cx} {CX : CXT} {k : Nat} {f : Addr} {fd : FuncData} {ps : List Str} {sp : Sp} {ds : List Value} {dvs : List V} {E : XK}
theorem run_fn1 {pins : List (Addr × Obj)} {σ : St} {H : Hp} {s : Shared} {Q : VK} {us : List Value} {vs : List V} (F : FnOk X.prog X.w X.K X.mg X.base CX k f fd ps sp) (hr : Room (k + 1) X.A) (hb : Binds X.K fd ps ds) (hd : Vals dvs ds) (hx : Passes CX X E)
    (I : Inv X pins σ H s) (r : Vals vs us) (h : sp (vs ++ dvs) H Q E) : wpAny (model X.prog X.w) X.A.in1 (call (.ref f) us) (EP X pins σ Q) X.xe s := by
  have r2 : Vals (vs ++ dvs) (us ++ ds) := r.append hd
  have hl : (us ++ ds).length = ps.length := by rw [<- r2.length]; exact F.len _ _ _ _ h
  refine wpAny_call (codeAny_mono (F.run X.A.in1 X.stack s H ⟨us, []⟩ (us ++ ds) (vs ++ dvs) Q E hr.in1 I.env0.in1 (hb s us I.kIn hl) r2 h) fun r s' hq => ?_)
  cases r with
  | error e => exact hx pins σ H s e s' I hq
  | ok fl =>
    cases fl with
    | ret u => exact I.after hq
    | next => exact False.elim hq
    | brk => exact False.elim hq
    | cont => exact False.elim hq
end
structure HasLn (P : Program) (w : World) (K : PySem.W.Frag) (mg : Str -> Option Value) (base : Heap) (CX : CXT) (c : Str) (k : Nat) (ps : List Str) (sp : Sp) : Prop where
  ex : ∃ C f fd, clsOf K c = some C /\ FnOk P w K mg base CX k f fd ps sp /\ Binds K fd ps [] /\ PySem.W.findIn K (.ref C) "__len__" = some (some (.ref f)) /\ PySem.W.isFn K (.ref f) = true
def rLenO (K : PySem.W.Frag) (c : Str) (sp : Sp) (E : XK) : List V -> Hp -> VK -> Prop := fun xs H Q => ∃ C a dx fs, clsOf K c = some C /\ xs = [.ref a] /\ H a = some (.ins C dx fs) /\ sp [.ref a] H (fun v H' => ∃ n : Int, v = .int n /\ 0 <= n /\ n < 2 ^ 63 /\ Q (.int n) H') E
theorem call_lenO {X : Cx} {CX : CXT} (K : PySem.W.Frag) {c : Str} {j k : Nat} {ps : List Str} {sp : Sp} {E : XK} (h : HasLn X.prog X.w X.K X.mg X.base CX c j ps sp) (hr : Room k X.A) (hK : X.K = K := by rfl) (hj : j + 1 <= k := by decide) (hx : Passes CX X E := by exact pass0) : CallR X (.builtin "len") (rLenO K c sp E) := by
  subst hK
  obtain ⟨C, f, fd, hC, F, b, hs, hf⟩ := h.ex
  intro pins s σ H xs us Q I r q
  obtain ⟨C', a, dx, fs, hC', rfl, ea, q⟩ := q
  rw [hC] at hC'; cases hC'
  obtain ⟨u, rfl, ru⟩ := vals1 r
  cases ru
  obtain ⟨mA, O, _, _, _, _⟩ := ins_get I.hok ea
  obtain ⟨od, ia, _⟩ := O.look
  have call := run_fn1 (us := [.ref a]) (vs := [.ref a]) (ds := []) (dvs := []) F (hr.mono hj) b .nil hx I (.cons rfl .nil) q
  refine Calls.call_function_entry kind_len plain_len entry_len (args_len1 _) ?_
  unfold Builtin.«len»
  refine wpAny_bind (m := oneArg "len" _) (wpAny_pure ?_)
  refine wpAny_bind (m := callSpecial? (.ref a) (Str.ofString "__len__")) (PySem.W.special_fn I.kIn ia hs (beq_iff_eq.mp hf) (wpAny_mono call (fun r s' hr => ?_) fun _ _ y => y))
  obtain ⟨v, H', I', rv, n, rfl, h0, h1, hq⟩ := hr
  obtain ⟨t, rfl⟩ := rv
  refine wpAny_bind (wpAny_holding (wpAny_pure ?_))
  refine wpAny_bind (wpAny_letGo ?_)
  show wpAny _ _ (if n < 0 then _ else _) _ _ _
  rw [if_neg (by omega)]
  show wpAny _ _ (if n ≥ 2 ^ 63 then _ else _) _ _ _
  rw [if_neg (by omega)]
  exact wpAny_bind (wpAny_mkInt (wpAny_pure ⟨_, rfl, ⟨.int n, H', I'.tok _, ⟨_, rfl⟩, hq⟩⟩))
def dLenO (c : Str) (dsp : DSp) : DRs := fun ds μ Q => match ds with
  | [d] => (insM μ d fun c' _ _ => c' = c) /\ dsp [d] μ fun v μ' => ∃ n : Int, v = .int n /\ 0 <= n /\ n < 2 ^ 63 /\ Q (.int n) μ'
  | _ => False
instance {K : PySem.W.Frag} {fl : Wd} {c : Str} {dsp : DSp} {E : XK} : SimRs K fl (rLenO K c (lift K dsp) E) (dLenO c dsp) := ⟨fun {W μ H ds xs Q Q'} r z h k => by
  unfold dLenO at h
  split at h
  . rename_i d
    obtain ⟨h1, h2⟩ := h
    obtain ⟨y, rfl, qy⟩ := z.one
    obtain ⟨c2, C, a, dx, ns, vs, xs, hC, rfl, ea, l, z1, rfl⟩ := insM_run r qy h1
    refine ⟨C, a, dx, _, hC, rfl, ea, fl, W, μ, [d], _, r, .cons qy .nil, h2, fun W2 d2 μ2 x2 H2 le2 r2 q2 hh => ?_⟩
    obtain ⟨n, rfl, h0, h1', hq⟩ := hh
    exact ⟨n, q2.i', h0, h1', k W2 _ μ2 _ H2 le2 r2 .i hq⟩
  . exact h.elim⟩
end L2

namespace L2
open PySem PySem.Spec PyProof.Rows
section
variable {prog : Program} {w : World} {A : Around} {E : Value -> Shared -> Prop} {s : Shared}
end
end L2

namespace L2
open PySem PySem.Spec PyProof.Rows
theorem dEqN_cl {neg : Bool} {k : Nat} {ds es : List D} {e : D} {n : Nat} {μ : Mu} {Q : DK} (hk : μ k = some (.lst ds)) (he : lookL μ e = some es) (h1 : ∀ d ∈ ds, SI n d) (h2 : ∀ d ∈ es, SI n d) (hn : n <= 59) (q : ∀ b : Bool, (b = true ↔ ds = es) -> Q (.bl (neg ^^ b)) μ) : dEqN neg (.cell k) e μ Q := by
  obtain ⟨ps, t1, c1, b1⟩ := Pl.pys (Pl.py n) ds fun x hx => (h1 x hx).pl
  obtain ⟨qs, t2, c2, b2⟩ := Pl.pys (Pl.py n) es fun x hx => (h2 x hx).pl
  have e1 : toPyM μ (.cell k) = some (.list ps) := by simp [toPyM, hk, t1]
  have e2 : toPyM μ e = some (.list qs) := by
    cases e with
    | lst xs =>
      have he : some xs = some es := he
      cases he
      show toPy (.lst es) = _
      unfold toPy
      rw [t2]; rfl
    | cell kk =>
      simp only [lookL] at he
      cases hkk : μ kk with
      | none => rw [hkk] at he; cases he
      | some c =>
        rw [hkk] at he
        cases c <;> simp at he
        subst he
        simp [toPyM, hkk, t2]
    | _ => simp [lookL] at he
  unfold dEqN
  simp only [e1, e2]
  refine ⟨⟨by rw [PyData.canLay0]; exact c1, by rw [PyData.depth]; omega⟩, ⟨by rw [PyData.canLay0]; exact c2, by rw [PyData.depth]; omega⟩, q _ ?_⟩
  rw [eqv_list]
  exact SI.eqvs (SI.eqv n) ds es ps qs h1 h2 t1 t2
theorem dNe_cl_same {k : Nat} {ds : List D} {e : D} {n : Nat} {μ : Mu} {Q : DK} (hk : μ k = some (.lst ds)) (he : lookL μ e = some ds) (h1 : ∀ d ∈ ds, SI n d) (hn : n <= 59) (q : Q (.bl false) μ) : dNe (.cell k) e μ Q := dEqN_cl hk he h1 h1 hn fun b hb => by rw [hb.mpr rfl]; exact q
theorem dEq_cl_same {k : Nat} {ds : List D} {e : D} {n : Nat} {μ : Mu} {Q : DK} (hk : μ k = some (.lst ds)) (he : lookL μ e = some ds) (h1 : ∀ d ∈ ds, SI n d) (hn : n <= 59) (q : Q (.bl true) μ) : dEq (.cell k) e μ Q := dEqN_cl hk he h1 h1 hn fun b hb => by rw [hb.mpr rfl]; exact q
end L2

namespace L2
open PySem PySem.Spec PyProof.Rows
section
variable {X : Cx} {pins : List (Addr × Obj)} {σ : St} {H : Hp} {s : Shared} {a : Addr} {y v : V} {u r : Value} {A : Around} {E : Value -> Shared -> Prop}
theorem d_dictSet {H' : Hp} {Q : Unit -> Shared -> Prop} (hu : A.units + 1 < cLine) (I : Inv X pins σ H s) (g : DPut H a y v H') (ry : RelV y u) (rv : RelV v r) (h : ∀ s', Inv X pins σ H' s' -> Q () s') :
    wpAny (model X.prog X.w) A (dictSet a u r) Q E s := by
  rcases g with ⟨kvs, k, e, ey, l, eH⟩ | ⟨kvs, k, b, e, ey, eb, l, eH⟩
  . subst ey eH
    obtain ⟨z, hd, vs, rel, dd⟩ := dk_of I.hok e
    have hz : vs.length <= sizeLine := by rw [<- rel.length]; exact z
    have hl : (putK kvs k v).length <= sizeLine := by have := length_putK kvs k v; omega
    refine wpAny_dictSet_pairs (hsz := hz) (kV_is ry) dd fun h' dd' hs => h _ ?_
    have he : ∃ q, h'.get? a = some q := let ⟨q, _, _, hq, _⟩ := dd'; ⟨q, hq⟩
    exact d_write I (by rw [e]; exact True.intro) hs he (dk_new hl hd (rel.put k rv) dd')
  . subst ey eH
    cases (show u = Value.ref b from ry)
    obtain ⟨z, hd, xs, rel, dd⟩ := dt_of I.hok e
    have hz : xs.length <= sizeLine := by rw [<- Paired.length rel]; exact z
    have hl : (putK kvs k v).length <= sizeLine := by have := length_putK kvs k v; omega
    refine wpAny_dictSet_heap (hsz := hz) (show (tupleKind (mixKind X.prog X.w)).room A from Nat.lt_of_succ_lt hu) (key_of I.hok eb) dd fun h' dd' hs => h _ ?_
    obtain ⟨q, es, ep, hq, h2, h3, h4, _, h5⟩ := dd'
    refine d_write I (by rw [e]; exact True.intro) hs ⟨q, hq⟩ ⟨hl, hd, _, (rel.put k eb rv).keeps fun c ys ec => ?_, q, es, ep, hq, h2, h3, h4, h5⟩
    rw [upd_ne (ne_of ec e (fun z => nomatch z))]
    exact ec
end
theorem compLoopD_any {prog : Program} {w : World} {A : Around} {R : Result -> Shared -> Prop} {s : Shared} {kx vx target iter : Expr} {ifs : List Expr} {scope : Scope} {pos : Pos} {it : Value} {D : Addr} {env : Env} (I : Nat -> Shared -> Prop)
    (turn : ∀ n s, I n s -> wpAny (model prog w) A (pyNext it) (fun r s₁ => match r with
      | none => R (.ok .next) s₁
      | some v => wpAny (model prog w) A (letOwnedTupleGo target it v) (fun _ s₁' => wpAny (model prog w) A (assign target env v) (fun _ s₂ =>
          wpAny (model prog w) A (forIn ifs true fun c r => if r = true then do let ok <- isTrue c env (eval c env); pure (ForInStep.yield ok) else pure (ForInStep.yield r)) (fun ok s₃ =>
            if ok = true then wpAny (model prog w) A (eval kx env) (fun kv s₄ => wpAny (model prog w) A (eval vx env) (fun vv s₅ =>
              wpAny (model prog w) A (dictSet D kv vv) (fun _ s₆ => ∃ m, m < n /\ I m s₆) (notedBy (model prog w) A env fun e s' => R (.error e) s') s₅) (notedBy (model prog w) A env fun e s' => R (.error e) s') s₄) (notedBy (model prog w) A env fun e s' => R (.error e) s') s₃
            else ∃ m, m < n /\ I m s₃) (notedBy (model prog w) A env fun e s' => R (.error e) s') s₂) (notedBy (model prog w) A env fun e s' => R (.error e) s') s₁') (notedBy (model prog w) A env fun e s' => R (.error e) s') s₁) (notedBy (model prog w) A env fun e s' => R (.error e) s') s)
    (n : Nat) (h : I n s) :
    codeAny (model prog w) A (.compLoop (.DictComp kx vx [⟨target, iter, ifs, 0⟩] scope pos) 0 it (.ref D) env) R s := by
  refine codeAny_loop rfl I (fun n s hI => ?_) n h
  show wpAny _ A ((compTurn (.DictComp kx vx [⟨target, iter, ifs, 0⟩] scope pos) 0 it (.ref D) env).onRaise (fun x => do noteFrame x env; theTreesLotGoes x)) _ _ s
  refine wpAny_noted ?_
  rw [compTurn_dict]
  refine wpAny_bind (wpAny_standAt (wpAny_bind (wpAny_mono (turn n s hI) (fun r s₁ h₁ => ?_) fun _ _ z => z)))
  cases r with
  | none => exact wpAny_pure h₁
  | some v =>
    refine wpAny_bind (wpAny_mono h₁ (fun _ s₁' h₁' => ?_) fun _ _ z => z)
    refine wpAny_bind (wpAny_mono h₁' (fun _ s₂ h₂ => wpAny_bind (wpAny_mono h₂ (fun ok s₃ h₃ => ?_) fun _ _ z => z)) fun _ _ z => z)
    cases ok with
    | false => exact wpAny_pure ⟨rfl, h₃⟩
    | true =>
      refine wpAny_bind (wpAny_bind (wpAny_mono h₃ (fun kv s₄ h₄ => ?_) fun _ _ z => z))
      refine wpAny_bind (wpAny_holding (wpAny_mono h₄ (fun vv s₅ h₅ => wpAny_bind (wpAny_standAt (wpAny_holding (wpAny_mono h₅ (fun _ s₆ h₆ => wpAny_pure ⟨rfl, h₆⟩) fun _ _ z => z)))) fun _ _ z => z))
section
variable {X : Cx} {tg iter kx vx : Expr} {ifs : List Expr} {scope : Scope} {pos : Pos} {own free : List Str} {fr : List Nat}
def CompTurnsD (D : Addr) (J : It) (g : TG) (tc : TT) (tk tv : TE) (σb : St) (Fin : Hp -> Prop) (W : Nat -> Nat -> Hp -> Prop) : Prop :=
  ∀ i m H, W i m H -> (J.stop i H /\ Fin H) \/ (J.go i H /\ ∃ N : Hp -> Prop, (∀ H', N H' -> ∃ m', m' < m /\ W (i + 1) m' H') /\ ∀ x H', J.yld i H x H' -> g x σb H' fun σ2 H3 => Sub σb σ2 /\ tc σ2 H3 fun b H4 =>
    if b = true then tk σ2 H4 fun k H5 => tv σ2 H5 fun v H6 => ∃ H7, DPut H6 D k v H7 /\ N H7 else N H4)
theorem comp_runD {pins : List (Addr × Obj)} {σ : St} {H2 : Hp} {s2 : Shared} {J : It} {fp : List Addr} {it : Addr} {tn : Nat -> Heap -> Prop} {g : TG} {tc : TT} {tk tv : TE} {o0 : HO}
    {RR : Value -> Addr -> Result -> Shared -> Prop} {E : Value -> Shared -> Prop} {Fin : Addr -> Hp -> Prop}
    (S : CompSc X scope) (hc : X.calm = true) (hu : X.A.units + 1 < cLine) (hfr : fr.map (fun j => X.N[j]?) = free.map some) (hff : ∀ x ∈ free, scope.names.lookup x = some .free)
    (hg : ∀ C s H ex, PG (compCx X (own ++ free) scope C s H ex) tg g) (ht : ∀ C s H ex, PTs (compCx X (own ++ free) scope C s H ex) ifs tc) (hk : ∀ C s H ex, PE (compCx X (own ++ free) scope C s H ex) kx tk) (hv : ∀ C s H ex, PE (compCx X (own ++ free) scope C s H ex) vx tv)
    (I2 : Inv X pins σ H2 s2) (T : Turn X.prog X.w X.K tg J fp it tn) (st2 : tn 0 s2.heap) (f2 : ∀ b ∈ fp, FpOk X pins H2 b) (ho0 : o0 = .dK [] \/ o0 = .dT [])
    (turns : ∀ D, H2 D = none -> ∃ W : Nat -> Nat -> Hp -> Prop, (∃ m, W 0 m (upd H2 D o0)) /\ CompTurnsD D J g tc tk tv (own.map (fun _ => none) ++ takeFrom σ fr) (Fin D) W)
    (hRR : ∀ D C H' s1 s', Inv X pins σ (upd H2 D o0) s1 -> (∀ b ∈ fp, FpOk X pins (upd H2 D o0) b) -> Inv (compCx X (own ++ free) scope C s1 (upd H2 D o0) fp) [] (own.map (fun _ => none) ++ takeFrom σ fr) H' s' -> Fin D H' -> RR (.ref D) C (.ok .next) s') :
    wpAny (model X.prog X.w) X.A newDict (fun acc s₃ => wpAny (model X.prog X.w) X.A (newFunctionEnv scope X.env.globals (closOf X.env scope.names []) [] X.env.qual none .none (some X.env)) (fun cenv s₄ =>
      codeAny (model X.prog X.w) X.A (.compStart (.DictComp kx vx [⟨tg, iter, ifs, 0⟩] scope pos) 0 (.ref it) acc { cenv with scope := relabel scope X.env }) (RR acc cenv.locals) s₄) E s₃) E s2 := by
  refine wpAny_newObj_type (newCompEnv ?_)
  have hob : ∀ b ∈ fp, ∃ o, s2.heap.get? b = some o := fun b hb => by obtain ⟨o, e, _⟩ := T.obj _ _ st2 b hb; exact ⟨o, e⟩
  have fplt : ∀ b ∈ fp, b < s2.heap.objs.size := fun b hb => by obtain ⟨o, e⟩ := hob b hb; exact Heap.lt_size e
  have hsys : sysModules < s2.heap.objs.size := I2.big
  generalize hs3 : ({ s2 with heap := s2.heap.push { cls := .type "dict", dict := none, data := .dict #[] } } : Shared) = s3
  have hh3 : s3.heap = s2.heap.push { cls := .type "dict", dict := none, data := .dict #[] } := by rw [<- hs3]
  have keep3 : ∀ b o, s2.heap.get? b = some o -> s3.heap.get? b = some o := fun b o e => by rw [hh3]; exact Heap.get?_push_of_some _ e
  have hf : H2 s2.heap.objs.size = none := I2.hok.fresh (Nat.le_refl _)
  have I3 : Inv X pins σ (upd H2 s2.heap.objs.size o0) s3 := by
    rw [<- hs3]
    refine I2.laid (t' := s2.toks) (o := o0) (fun b o e => Heap.get?_push_of_some _ e) (Nat.le_refl _) ?_
    rcases ho0 with rfl | rfl
    . exact dk_empty _ hsys
    . exact dt_empty _ hsys
  have f3 : ∀ b ∈ fp, FpOk X pins (upd H2 s2.heap.objs.size o0) b := fun b hb => by
    obtain ⟨a1, a2⟩ := f2 b hb
    exact ⟨by rw [upd_ne (Nat.ne_of_lt (fplt b hb))]; exact a1, a2⟩
  have hob3 : ∀ b ∈ fp, ∃ o, s3.heap.get? b = some o := fun b hb => by obtain ⟨o, e⟩ := hob b hb; exact ⟨o, keep3 b o e⟩
  have st3 : tn 0 s3.heap := T.keep _ _ _ st2 fun b hb o e => keep3 b o e
  obtain ⟨W, ⟨m0, w0⟩, turn⟩ := turns s2.heap.objs.size hf
  have hDlt : s2.heap.objs.size < s3.heap.objs.size := by rw [hh3, Heap.size_push]; exact Nat.lt_succ_self _
  generalize hDD : s2.heap.objs.size = D at *
  generalize hHH : upd H2 D o0 = H3 at *
  have I4 := comp_inv (own := own) (ex := fp) (s3 := s3) S I3 f3 hob3 hfr hff (fun _ _ e => e) (Nat.le_refl _) rfl rfl
  generalize hs4 : ({ s3 with heap := pushCells (s3.heap.push { cls := .type "dict", data := .dict #[] }) scope.names } : Shared) = s4 at I4
  have keep4 : ∀ b o, s3.heap.get? b = some o -> s4.heap.get? b = some o := fun b o e => by rw [<- hs4]; exact pushCells_keeps _ _ b o (Heap.get?_push_of_some _ e)
  have fpOk : ∀ {σ' H' s'}, Inv (compCx X (own ++ free) scope s3.heap.objs.size s3 H3 fp) [] σ' H' s' -> (∀ b ∈ fp, H' b = none) -> ∀ b ∈ fp, FpOk (compCx X (own ++ free) scope s3.heap.objs.size s3 H3 fp) [] H' b := fun {σ' H' s'} I hn b hb =>
    ⟨hn b hb, (I.ok.exf b hb).1, I.ok.exfs b hb, .inl hb, (I.ok.exf b hb).2, fun p hp => absurd hp (by simp [compCx])⟩
  have stn4 : tn 0 s4.heap := T.keep _ _ _ st3 fun b hb o e => keep4 b o e
  have loop : ∀ s', s' = s4 -> codeAny (model X.prog X.w) X.A (.compLoop (.DictComp kx vx [⟨tg, iter, ifs, 0⟩] scope pos) 0 (.ref it) (.ref D) (compEnv2 scope s3.heap.objs.size X.env)) (RR (.ref D) s3.heap.objs.size) s' := by
    rintro s' rfl
    refine compLoopD_any (fun k s' => ∃ i H', Inv (compCx X (own ++ free) scope s3.heap.objs.size s3 H3 fp) [] (own.map (fun _ => none) ++ takeFrom σ fr) H' s' /\ tn i s'.heap /\ (∀ b ∈ fp, H' b = none) /\ W i k H') ?_ m0 ⟨0, H3, I4, stn4, fun b hb => (f3 b hb).1, w0⟩
    rintro k s5 ⟨i, H5, I5, st5, fr5, w5⟩
    rcases turn i k H5 w5 with ⟨stop, fin⟩ | ⟨go, N, hN, step⟩
    . refine wpAny_mono (T.done (compCx X (own ++ free) scope s3.heap.objs.size s3 H3 fp) rfl rfl rfl hc i _ s5 _ H5 (fun _ _ => False) I5 (fpOk I5 fr5) st5 stop) (fun r s6 ⟨hr, I6⟩ => ?_) fun _ _ f => f.elim
      subst hr
      exact hRR D _ H5 s3 s6 (by rw [hHH]; exact I3) (by rw [hHH]; exact f3) (by rw [hHH]; exact I6) fin
    . refine wpAny_mono (T.item (compCx X (own ++ free) scope s3.heap.objs.size s3 H3 fp) rfl rfl rfl hc i _ s5 _ H5 (fun _ _ => False) I5 (fpOk I5 fr5) st5 go) (fun r s6 ⟨u, hr, h6⟩ => ?_) fun _ _ f => f.elim
      subst hr
      refine wpAny_mono h6 (fun _ s7 ⟨x, H7, I7, r7, y7, st7, fr7⟩ => ?_) fun _ _ f => f.elim
      have I7' := I7.pinned (fpOk I7 fr7) (T.obj _ _ st7)
      refine wpAny_mono (hg _ _ _ _ _ s7 _ H7 x u _ I7' r7 (step x H7 y7)) (fun _ s8 ⟨σ8, H8, I8, sub8, q8⟩ => ?_) fun _ _ f => f.elim
      refine wpAny_mono (ht _ _ _ _ _ s8 σ8 H8 _ I8 q8) (fun b s9 ⟨H9, I9, q9⟩ => ?_) fun _ _ f => f.elim
      have back : ∀ {H' s'}, Inv (compCx X (own ++ free) scope s3.heap.objs.size s3 H3 fp) ([] ++ pinsAt fp s7.heap) σ8 H' s' -> tn (i + 1) s'.heap /\ (∀ b ∈ fp, H' b = none) := fun {H' s'} I => by
        refine ⟨T.keep _ _ _ st7 fun b hb o e => (I.pin (b, o) (List.mem_append_right _ (List.mem_append_right _ (mem_pinsAt hb e)))).1, fun b hb => ?_⟩
        obtain ⟨o, e, d⟩ := T.obj _ _ st7 b hb
        exact (I.pin (b, o) (List.mem_append_right _ (List.mem_append_right _ (mem_pinsAt hb e)))).2.1
      cases b with
      | false =>
        obtain ⟨m', hm, w9⟩ := hN _ q9
        obtain ⟨st9, fr9⟩ := back I9
        exact ⟨m', hm, i + 1, H9, I9.unpinned.weak sub8.1 sub8.2, st9, fr9, w9⟩
      | true =>
        refine wpAny_mono (hk _ _ _ _ _ s9 σ8 H9 _ I9 q9) (fun kv s10 ⟨y, H10, I10, r10, q10⟩ => ?_) fun _ _ f => f.elim
        refine wpAny_mono (hv _ _ _ _ _ s10 σ8 H10 _ I10 q10) (fun vv s11 ⟨z, H11, I11, r11, H12, put, q11⟩ => ?_) fun _ _ f => f.elim
        refine d_dictSet (X := compCx X (own ++ free) scope s3.heap.objs.size s3 H3 fp) hu I11 put r10 r11 fun s12 I12 => ?_
        obtain ⟨m', hm, w12⟩ := hN _ q11
        obtain ⟨st12, fr12⟩ := back I12
        exact ⟨m', hm, i + 1, H12, I12.unpinned.weak sub8.1 sub8.2, st12, fr12, w12⟩
  exact codeAny_compStart_dict (loop _ rfl) (T.self X.A 0 _ _ _ stn4 (loop _ rfl))
theorem comp_outD {pins : List (Addr × Obj)} {σ σ' : St} {H2 H' : Hp} {s2 s' : Shared} {fp : List Addr} {C : Addr} {N : List Str} {h'' : Heap}
    (I2 : Inv X pins σ H2 s2) (f2 : ∀ b ∈ fp, FpOk X pins H2 b) (I : Inv (compCx X N scope C s2 H2 fp) [] σ' H' s') (hs : Heap.SameBut C s'.heap h'') :
    Inv X pins σ H' { s' with heap := h'' } := by
  have hCs : s2.heap.objs.size <= C := I.ok.above
  have u : Un (frs X.stack) fp H2 H' s2.heap s'.heap := I.base
  have lt2 : ∀ b o, s2.heap.get? b = some o -> b ≠ C := fun b o e => Nat.ne_of_lt (Nat.lt_of_lt_of_le (Heap.lt_size e) hCs)
  have hC' : ∀ b o, H' b = some o -> b ≠ C := fun b o e z => by
    have := I.free
    rw [show (compCx X N scope C s2 H2 fp).env.locals = C from rfl, <- z, e] at this
    cases this
  have hok1 : HOk X.prog X.w H' h'' := fun a o e => (I.hok a o e).stay (fun b ob hb eb => by
      rcases hb with hb | hb
      . rw [hb]; rw [hb] at eb; exact hs.extBut _ _ (hC' a o e) eb
      . exact hs.extBut _ _ (hC' b _ hb) eb) (fun _ h => h) (fun _ _ h => h)
  have u2 : Un (frs X.stack) fp H2 H' s2.heap h'' :=
    { keep := fun b o e hn hf hx => hs.extBut b o (lt2 b o e) (u.keep b o e hn hf hx)
      slot := fun b o e hn hf hx => by
        obtain ⟨sl, q⟩ := u.slot b o e hn hf hx
        exact ⟨sl, hs.extBut b _ (lt2 b o e) q⟩
      free := fun b o e hn hx => u.free b o e hn hx
      there := fun b o e hx => by
        obtain ⟨o', q⟩ := u.there b o e hx
        exact ⟨o', hs.extBut b _ (lt2 b o e) q⟩
      tups := u.tups
      frzs := u.frzs
      tbls := u.tbls }
  refine I2.call' (s' := { s' with heap := h'' }) (ch := fp) I.os u2 hok1 I.bare fun b hb => ?_
  have q := f2 b hb
  exact ⟨q.2.2.2.1, q.2.1, q.2.2.2.2.1, q.2.2.2.2.2⟩
def tDComp (o0 : HO) (own : List Str) (fr : List Nat) (wi : TI) (g : TG) (tc : TT) (tk tv : TE) : TE := fun σ H Q => wi σ H fun J H1 => ∀ D, H1 D = none -> ∃ W : Nat -> Nat -> Hp -> Prop, (∃ m, W 0 m (upd H1 D o0)) /\
  CompTurnsD D J g tc tk tv (own.map (fun _ => none) ++ takeFrom σ fr) (fun H' => Q (.ref D) H') W
theorem pe_dcomp {wi : TI} {g : TG} {tc : TT} {tk tv : TE} {o0 : HO} (own free : List Str) (fr : List Nat) (ho0 : o0 = .dK [] \/ o0 = .dT []) (hu : X.A.units + 1 < cLine) (S : CompSc X scope) (hc : X.calm = true) (hfr : fr.map (fun j => X.N[j]?) = free.map some) (hff : ∀ x ∈ free, scope.names.lookup x = some .free)
    (hi : PI X tg iter wi)
    (hg : ∀ C s H ex, PG (compCx X (own ++ free) scope C s H ex) tg g) (ht : ∀ C s H ex, PTs (compCx X (own ++ free) scope C s H ex) ifs tc) (hk : ∀ C s H ex, PE (compCx X (own ++ free) scope C s H ex) kx tk) (hv : ∀ C s H ex, PE (compCx X (own ++ free) scope C s H ex) vx tv)
    (hs : ∀ x, foldedSetIterable iter X.env x = pure x := by intro _; rfl) :
    PE X (.DictComp kx vx [⟨tg, iter, ifs, 0⟩] scope pos) (tDComp o0 own fr wi g tc tk tv) := by
  intro pins s σ H Q I h
  have hcl : closureFor scope X.env = pure (closOf X.env scope.names []) := closureFor_of fun x hx e => by
    obtain ⟨c, hc⟩ := I.ok.has x.1 (S.free x hx e)
    rw [hc]; rfl
  rw [arm_eval_DictComp]
  refine wpAny_comprehension_free (use := none) rfl hs hcl S.kind (fun x hx e => by have := lookup_uniq S.nd (show (x.1, x.2) ∈ scope.names from hx); rw [this, e]) (thn (hi pins s σ H _ I h) fun v s1 h1 => thn h1 fun itv s2 h2 => ?_)
  obtain ⟨it, fp, tn, J, H2, e, I2, T, st2, f2, turns⟩ := h2
  subst e
  refine comp_runD (Fin := fun D H' => Q (.ref D) H') (RR := fun acc C => compPost (model X.prog X.w) X.A X.xe none (EP X pins σ Q) acc C) S hc hu hfr hff hg ht hk hv I2 T st2 f2 ho0 turns ?_
  intro D C H' s3 s' I3 f3 I' fin
  obtain ⟨m, hm, _⟩ := I'.loc
  refine ⟨m, hm, fun h'' hsb => ?_⟩
  exact ⟨.ref D, _, comp_outD I3 f3 I' hsb, rfl, fin⟩
end
section
variable {X : Cx} {tg iter kx vx : Expr} {ifs : List Expr} {scope : Scope} {pos : Pos} {wi : TI} {g : TG} {tc : TT} {tk tv : TE} {o0 : HO}
theorem qe_dcomp (own free : List Str) (fr : List Nat) (ho0 : o0 = .dK [] \/ o0 = .dT []) (hu : X.A.units + 1 < cLine) (S : CompSc X scope) (hc : X.calm = true) (hfr : fr.map (fun j => X.N[j]?) = free.map some) (hff : ∀ x ∈ free, scope.names.lookup x = some .free)
    (hi : WI X tg iter wi) (hg : ∀ C s H ex, WG (compCx X (own ++ free) scope C s H ex) tg g) (ht : ∀ C s H ex, WTs (compCx X (own ++ free) scope C s H ex) ifs tc) (hk : ∀ C s H ex, WE (compCx X (own ++ free) scope C s H ex) kx tk) (hv : ∀ C s H ex, WE (compCx X (own ++ free) scope C s H ex) vx tv)
    (hs : ∀ x, foldedSetIterable iter X.env x = pure x := by intro _; rfl) : WE X (.DictComp kx vx [⟨tg, iter, ifs, 0⟩] scope pos) (tDComp o0 own fr wi g tc tk tv) := ⟨pe_dcomp own free fr ho0 hu S hc hfr hff hi.out (fun C s H ex => (hg C s H ex).out) (fun C s H ex => (ht C s H ex).out) (fun C s H ex => (hk C s H ex).out) (fun C s H ex => (hv C s H ex).out) hs⟩
end
section
variable {K : PySem.W.Frag} {fl : Wd} {tk tv : TE} {wk wv : DE} {tc : TT} {wc : DT} {wi : TI} {di : DI} {g : TG} {dg : DG} {S : List Nat}
end
end L2

namespace L2
open PySem PySem.Spec PyProof.Rows
def two (a b : Int) : Nat := ((b - a + 1) / 2).toNat
section
variable {X : Cx} {tg : Expr}
end
end L2

namespace L2
open PySem PySem.Spec PyProof.Rows
end L2

namespace L2
open PySem PySem.Spec PyProof.Rows
section
variable {X : Cx} {CX : CXT} {k : Nat} {f : Addr} {fd : FuncData} {ps : List Str} {sp : Sp} {ds : List Value} {dvs : List V} {E : XK}
end
section
open PySem.Builtin PySem.Builtin.Str
end
end L2

namespace L2
open PySem PySem.Spec PyProof.Rows
section
variable {prog : Program} {w : World} {A : Around} {E : Value -> Shared -> Prop} {s : Shared} {b b1 b2 : Bool}
end
section
variable {wA : DA} {ρ : DEnv} {μ : Mu} {R : List D -> (Mu -> Prop) -> Mu -> Prop} {d e : D} {ds : List D} {Q : List D -> (Mu -> Prop) -> Prop}
end
end L2

namespace L2
open PySem PySem.Spec PyProof.Rows
section
variable {X : Cx} {pins : List (Addr × Obj)} {σ : St} {H : Hp} {s : Shared}
end
end L2

namespace L2
open PySem PySem.Spec PyProof.Rows
section
variable {prog : Program} {w : World} {A : Around} {E : Value -> Shared -> Prop} {s : Shared} {b : Bool}
end
end L2

namespace L2
open PySem PySem.Spec PyProof.Rows
abbrev gN (p : Array Nat) (i : Nat) : Nat := p.getD i 0
theorem gN_eq (p : Array Nat) (i : Nat) : gN p i = (p[i]?).getD 0 := by
  show p.getD i 0 = _
  by_cases h : i < p.size <;> simp [Array.getD, h]
def okW {α : Type} (n : Nat) (lt : Nat -> Nat -> Bool) : PySem.W.KasT α -> (α -> Prop) -> Prop
  | .ret a, P => P a
  | .ask i j k, P => i < n /\ j < n /\ i ≠ j /\ okW n lt (k (lt i j)) P
section
variable {n : Nat} {lt : Nat -> Nat -> Bool}
theorem okW_bind {α β : Type} {f : α -> PySem.W.KasT β} {P : β -> Prop} : ∀ (t : PySem.W.KasT α), okW n lt t (fun a => okW n lt (f a) P) -> okW n lt (t.bind f) P
  | .ret a, h => h
  | .ask i j k, h => ⟨h.1, h.2.1, h.2.2.1, okW_bind (k (lt i j)) h.2.2.2⟩
theorem okW_mono {α : Type} {P Q : α -> Prop} (q : ∀ a, P a -> Q a) : ∀ (t : PySem.W.KasT α), okW n lt t P -> okW n lt t Q
  | .ret a, h => q a h
  | .ask i j k, h => ⟨h.1, h.2.1, h.2.2.1, okW_mono q (k (lt i j)) h.2.2.2⟩
theorem okW_wp {α : Type} {cmp : Nat -> Nat -> (Bool -> Shared -> Prop) -> Shared -> Prop} {I : Shared -> Prop} {Q : α -> Shared -> Prop} {P : α -> Prop}
    (hc : ∀ i j C s, i < n -> j < n -> i ≠ j -> I s -> (∀ s', I s' -> C (lt i j) s') -> cmp i j C s) (q : ∀ a s, P a -> I s -> Q a s) : ∀ (t : PySem.W.KasT α) (s : Shared), okW n lt t P -> I s -> t.kasWp cmp Q s
  | .ret a, s, h, hi => q a s h hi
  | .ask i j k, s, h, hi => hc i j _ s h.1 h.2.1 h.2.2.1 hi fun s' hi' => okW_wp hc q (k (lt i j)) s' h.2.2.2 hi'
def Srt (lt : Nat -> Nat -> Bool) (p : Array Nat) (m : Nat) : Prop := ∀ i j, i < j -> j < m -> lt (gN p j) (gN p i) = false
def Dsc (lt : Nat -> Nat -> Bool) (p : Array Nat) (m : Nat) : Prop := ∀ i j, i < j -> j < m -> lt (gN p i) (gN p j) = false
def PN (n : Nat) (p : Array Nat) : Prop := p.toList.Perm (List.range n)
theorem PN.sz {p : Array Nat} (h : PN n p) : p.size = n := by
  have := h.length_eq; simpa using this
theorem PN.lp {p : Array Nat} (h : PN n p) {i : Nat} (hi : i < n) : gN p i < n := by
  have hs := h.sz
  have hi' : i < p.size := by omega
  have e : gN p i = p[i] := by show p.getD i 0 = _; simp [Array.getD, hi']
  rw [e]
  have m : p[i] ∈ p.toList := by simp
  exact List.mem_range.mp (h.mem_iff.mp m)
theorem PN.ne {p : Array Nat} (h : PN n p) {i j : Nat} (hi : i < n) (hj : j < n) (d : i ≠ j) : gN p i ≠ gN p j := by
  have hs := h.sz
  have hi' : i < p.size := by omega
  have hj' : j < p.size := by omega
  have e : gN p i = p.toList[i] := by show p.getD i 0 = _; simp [Array.getD, hi']
  have e2 : gN p j = p.toList[j] := by show p.getD j 0 = _; simp [Array.getD, hj']
  have nd : p.toList.Nodup := h.nodup_iff.mpr List.nodup_range
  rw [e, e2]
  intro q
  have hl : p.toList.length = p.size := by simp
  rcases Nat.lt_or_gt_of_ne d with z | z
  . exact (List.pairwise_iff_getElem.mp nd) i j (by omega) (by omega) z q
  . exact (List.pairwise_iff_getElem.mp nd) j i (by omega) (by omega) z q.symm
theorem PN.rev {p : Array Nat} (h : PN n p) (i j : Nat) : PN n (PySem.W.kas_rev p i j) := (mirror_perm p i j _).toList.trans h
theorem PN.bub {p : Array Nat} (h : PN n p) (k d : Nat) : PN n (bubble p k d) := (bubble_perm p k d).toList.trans h
theorem gN_rev {p : Array Nat} {i j : Nat} (hj : j <= p.size) (k : Nat) : gN (PySem.W.kas_rev p i j) k = if i <= k /\ k < j then gN p (i + j - 1 - k) else gN p k := by
  rw [gN_eq, gN_eq, gN_eq]
  show ((mirror p i j ((j - i) / 2))[k]?).getD 0 = _
  rw [getElem?_mirror_all hj]
  split <;> rfl
theorem gN_bub {p : Array Nat} {k l : Nat} (hk : k < p.size) (hl : l <= k) (m : Nat) : gN (bubble p k (k - l)) m = if m = l then gN p k else if l < m /\ m <= k then gN p (m - 1) else gN p m := by
  rw [gN_eq, gN_eq, gN_eq, gN_eq, getElem?_bubble hk _ (by omega)]
  have e : k - (k - l) = l := by omega
  rw [e]
  split
  . rfl
  . split <;> rfl
structure Ord (lt : Nat -> Nat -> Bool) : Prop where
  as : ∀ a b, lt a b = true -> lt b a = false
  tr : ∀ a b c, lt b a = false -> lt c b = false -> lt c a = false
variable (O : Ord lt)
include O
theorem asc_ok {p : Array Nat} (hp : PN n p) : ∀ (f m : Nat), 1 <= m -> m + f <= n -> Srt lt p m -> okW n lt (PySem.W.kas_asc p f m) (fun r => m <= r /\ r <= m + f /\ Srt lt p r /\ (r < m + f -> lt (gN p r) (gN p (r - 1)) = true))
  | 0, m, _, _, hs => ⟨Nat.le_refl _, Nat.le_refl _, hs, fun h => absurd h (Nat.lt_irrefl _)⟩
  | f + 1, m, h1, h2, hs => by
    refine ⟨hp.lp (by omega), hp.lp (by omega), hp.ne (by omega) (by omega) (by omega), ?_⟩
    show okW n lt (if lt (gN p m) (gN p (m - 1)) = true then _ else _) _
    by_cases hc : lt (gN p m) (gN p (m - 1)) = true
    . rw [if_pos hc]
      exact ⟨Nat.le_refl _, by omega, hs, fun _ => hc⟩
    . rw [if_neg hc]
      have hc' : lt (gN p m) (gN p (m - 1)) = false := by simpa using hc
      refine okW_mono (fun r h => ⟨by omega, by omega, h.2.2.1, fun hr => h.2.2.2 (by omega)⟩) _ (asc_ok hp f (m + 1) (by omega) (by omega) fun i j hij hj => ?_)
      by_cases e : j = m
      . subst e
        by_cases e2 : i = j - 1
        . rw [e2]; exact hc'
        . exact O.tr _ _ _ (hs i (j - 1) (by omega) (by omega)) hc'
      . exact hs i j hij (by omega)
def Flat (lt : Nat -> Nat -> Bool) (p : Array Nat) (a b : Nat) : Prop := ∀ i j, a <= i -> i < b -> a <= j -> j < b -> lt (gN p i) (gN p j) = false
theorem Dsc_rev {p : Array Nat} {a b m : Nat} (hd : Dsc lt p m) (hf : Flat lt p a b) (hb : b <= m) (hm : m <= p.size) : Dsc lt (PySem.W.kas_rev p a b) m := by
  intro i j hij hj
  rw [gN_rev (by omega), gN_rev (by omega)]
  by_cases hi' : a <= i /\ i < b
  . rw [if_pos hi']
    by_cases hj' : a <= j /\ j < b
    . rw [if_pos hj']
      exact hf _ _ (by omega) (by omega) (by omega) (by omega)
    . rw [if_neg hj']
      exact hd _ _ (by omega) hj
  . rw [if_neg hi']
    by_cases hj' : a <= j /\ j < b
    . rw [if_pos hj']
      exact hd _ _ (by omega) (by omega)
    . rw [if_neg hj']
      exact hd _ _ hij hj
theorem desc_ok : ∀ (f : Nat) (p : Array Nat) (m q : Nat), PN n p -> 1 <= m -> m + f <= n -> q < m -> Dsc lt p m -> Flat lt p (m - (q + 1)) m -> okW n lt (PySem.W.kas_desc f p m q)
      (fun r => PN n r.1 /\ m <= r.2.1 /\ r.2.1 <= n /\ r.2.2 < r.2.1 /\ Dsc lt r.1 r.2.1 /\ Flat lt r.1 (r.2.1 - (r.2.2 + 1)) r.2.1)
  | 0, p, m, q, hp, h1, h2, hq, hd, hf => ⟨hp, Nat.le_refl _, by show m <= n; omega, hq, hd, hf⟩
  | f + 1, p, m, q, hp, h1, h2, hq, hd, hf => by
    have hz := hp.sz
    have irr : ∀ a, lt a a = false := fun a => by
      by_cases h : lt a a = true
      . have := O.as _ _ h; rw [this] at h; cases h
      . simpa using h
    refine ⟨hp.lp (by omega), hp.lp (by omega), hp.ne (by omega) (by omega) (by omega), ?_⟩
    show okW n lt (if lt (gN p m) (gN p (m - 1)) = true then _ else _) _
    by_cases hc : lt (gN p m) (gN p (m - 1)) = true
    . rw [if_pos hc]
      have hc1 := O.as _ _ hc
      have hd1 : Dsc lt p (m + 1) := fun i j hij hj => by
        by_cases e : j = m
        . subst e
          by_cases e2 : i = j - 1
          . rw [e2]; exact hc1
          . exact O.tr _ _ _ hc1 (hd i (j - 1) (by omega) (by omega))
        . exact hd i j hij (by omega)
      have fl : ∀ p', Flat lt p' (m + 1 - (0 + 1)) (m + 1) := fun p' i j a1 a2 a3 a4 => by
        have : i = j := by omega
        rw [this]; exact irr _
      by_cases hq0 : q > 0
      . rw [if_pos hq0]
        refine okW_mono (fun r h => ⟨h.1, by omega, h.2.2.1, h.2.2.2.1, h.2.2.2.2⟩) _ (desc_ok f _ (m + 1) 0 (hp.rev _ _) (by omega) (by omega) (by omega) (Dsc_rev O hd1 hf (by omega) (by omega)) (fl _))
      . rw [if_neg hq0]
        exact okW_mono (fun r h => ⟨h.1, by omega, h.2.2.1, h.2.2.2.1, h.2.2.2.2⟩) _ (desc_ok f _ (m + 1) 0 hp (by omega) (by omega) (by omega) hd1 (fl _))
    . rw [if_neg hc]
      have hc' : lt (gN p m) (gN p (m - 1)) = false := by simpa using hc
      refine ⟨hp.lp (by omega), hp.lp (by omega), hp.ne (by omega) (by omega) (by omega), ?_⟩
      show okW n lt (if lt (gN p (m - 1)) (gN p m) = true then _ else _) _
      by_cases hb : lt (gN p (m - 1)) (gN p m) = true
      . rw [if_pos hb]
        exact ⟨hp, Nat.le_refl _, by show m <= n; omega, hq, hd, hf⟩
      . rw [if_neg hb]
        have hb' : lt (gN p (m - 1)) (gN p m) = false := by simpa using hb
        refine okW_mono (fun r h => ⟨h.1, by omega, h.2.2.1, h.2.2.2.1, h.2.2.2.2⟩) _ (desc_ok f p (m + 1) (q + 1) hp (by omega) (by omega) (by omega) (fun i j hij hj => ?_) (fun i j a1 a2 a3 a4 => ?_))
        . by_cases e : j = m
          . subst e
            by_cases e2 : i = j - 1
            . rw [e2]; exact hb'
            . exact O.tr _ _ _ hb' (hd i (j - 1) (by omega) (by omega))
          . exact hd i j hij (by omega)
        . by_cases ei : i = m
          . subst ei
            by_cases ej : j = i
            . rw [ej]; exact irr _
            . exact O.tr _ _ _ (hf (i - 1) j (by omega) (by omega) (by omega) (by omega)) hc'
          . by_cases ej : j = m
            . subst ej
              exact O.tr _ _ _ hb' (hf i (j - 1) (by omega) (by omega) (by omega) (by omega))
            . exact hf i j (by omega) (by omega) (by omega) (by omega)
theorem tail3_ok {m nrem : Nat} {p : Array Nat} (hp : PN nrem p) (h1 : 1 <= m) (hm : m <= nrem) (hd : Dsc lt p m) : okW nrem lt (PySem.W.kas_tail3 m nrem p) (fun r => PN nrem r.2 /\ 1 <= r.1 /\ r.1 <= nrem /\ Srt lt r.2 r.1) := by
  refine okW_bind _ (okW_mono (fun r h => ?_) _ (asc_ok O (hp.rev 0 m) (nrem - m) m h1 (by omega) fun i j hij hj => ?_))
  . exact ⟨hp.rev 0 m, by omega, by omega, h.2.2.1⟩
  . have hz := hp.sz
    rw [gN_rev (by omega), gN_rev (by omega), if_pos ⟨Nat.zero_le _, hj⟩, if_pos ⟨Nat.zero_le _, by omega⟩]
    exact hd _ _ (by omega) (by omega)
theorem descPart_ok {m nrem : Nat} {p : Array Nat} (hp : PN nrem p) (h1 : 1 <= m) (hm : m + 1 <= nrem) (hd : Dsc lt p (m + 1)) : okW nrem lt (PySem.W.kas_descPart m nrem p) (fun r => PN nrem r.2 /\ 1 <= r.1 /\ r.1 <= nrem /\ Srt lt r.2 r.1) := by
  have irr : ∀ a, lt a a = false := fun a => by
    by_cases h : lt a a = true
    . have := O.as _ _ h; rw [this] at h; cases h
    . simpa using h
  refine okW_bind _ (okW_mono (fun r h => ?_) _ (desc_ok O (nrem - (m + 1)) p (m + 1) 0 hp (by omega) (by omega) (by omega) hd fun i j a1 a2 a3 a4 => ?_))
  . obtain ⟨p', m', q'⟩ := r
    obtain ⟨hp', b1, b2, b3, b4, b5⟩ := h
    dsimp only at hp' b1 b2 b3 b4 b5 ⊢
    have hz := hp'.sz
    split
    . exact tail3_ok O (hp'.rev _ _) (by omega) b2 (Dsc_rev O b4 b5 (Nat.le_refl _) (by omega))
    . exact tail3_ok O hp' (by omega) b2 b4
  . have : i = j := by omega
    rw [this]; exact irr _
theorem count_ok {nrem : Nat} {p : Array Nat} (hp : PN nrem p) (h1 : 1 <= nrem) : okW nrem lt (PySem.W.kas_count nrem p) (fun r => PN nrem r.2 /\ 1 <= r.1 /\ r.1 <= nrem /\ Srt lt r.2 r.1) := by
  have hz := hp.sz
  refine okW_bind _ (okW_mono (fun m h => ?_) _ (asc_ok O hp (nrem - 1) 1 (Nat.le_refl _) (by omega) fun i j hij hj => by omega))
  obtain ⟨b1, b2, b3, b4⟩ := h
  by_cases e : m = nrem
  . rw [if_pos (by simp [e])]
    exact ⟨hp, b1, by show m <= nrem; omega, b3⟩
  . rw [if_neg (by simp [e])]
    have hl := b4 (by omega)
    have hl' := O.as _ _ hl
    by_cases hm : m > 1
    . rw [if_pos hm]
      refine ⟨hp.lp (by omega), hp.lp (by omega), hp.ne (by omega) (by omega) (by omega), ?_⟩
      show okW nrem lt (if lt (gN p 0) (gN p (m - 1)) = true then _ else _) _
      by_cases hc : lt (gN p 0) (gN p (m - 1)) = true
      . rw [if_pos hc]
        exact ⟨hp, b1, by show m <= nrem; omega, b3⟩
      . rw [if_neg hc]
        have hc' : lt (gN p 0) (gN p (m - 1)) = false := by simpa using hc
        have irr : ∀ a, lt a a = false := fun a => by
          by_cases h : lt a a = true
          . have := O.as _ _ h; rw [this] at h; cases h
          . simpa using h
        have up : ∀ i, i < m -> lt (gN p i) (gN p (m - 1)) = false := fun i hi => by
          by_cases e0 : i = 0
          . rw [e0]; exact hc'
          . exact O.tr _ _ _ hc' (b3 0 i (by omega) hi)
        have dn : ∀ i, i < m -> lt (gN p (m - 1)) (gN p i) = false := fun i hi => by
          by_cases e0 : i = m - 1
          . rw [e0]; exact irr _
          . exact b3 i (m - 1) (by omega) (by omega)
        refine descPart_ok O (hp.rev 0 m) b1 (by omega) fun i j hij hj => ?_
        rw [gN_rev (by omega), gN_rev (by omega), if_pos ⟨Nat.zero_le _, by omega⟩]
        by_cases ej : j < m
        . rw [if_pos ⟨Nat.zero_le _, ej⟩]
          exact O.tr _ _ _ (dn _ (by omega)) (up _ (by omega))
        . have ej' : j = m := by omega
          rw [if_neg (by omega), ej']
          exact O.tr _ _ _ hl' (up _ (by omega))
    . rw [if_neg hm]
      have e1 : m = 1 := by omega
      subst e1
      refine descPart_ok O hp (Nat.le_refl _) (by omega) fun i j hij hj => ?_
      have ei : i = 0 := by omega
      have ej : j = 1 := by omega
      subst ei; subst ej
      exact hl'
theorem place_ok {p : Array Nat} {k : Nat} (hp : PN n p) (hk : k < n) (hs : Srt lt p k) : ∀ (f l r : Nat), r <= k -> l <= r -> r - l <= f -> (∀ i, i < l -> lt (gN p k) (gN p i) = false) -> (∀ i, r <= i -> i < k -> lt (gN p i) (gN p k) = false) ->
    okW n lt (PySem.W.kas_place p k f l r) (fun x => x <= k /\ (∀ i, i < x -> lt (gN p k) (gN p i) = false) /\ (∀ i, x <= i -> i < k -> lt (gN p i) (gN p k) = false))
  | 0, l, r, h1, h2, h3, a, b => ⟨by omega, a, fun i h => b i (by omega)⟩
  | f + 1, l, r, h1, h2, h3, a, b => by
    unfold PySem.W.kas_place
    by_cases e : l ≥ r
    . rw [if_pos e]
      exact ⟨by omega, a, fun i h => b i (by omega)⟩
    . rw [if_neg e]
      refine ⟨hp.lp hk, hp.lp (by omega), hp.ne hk (by omega) (by omega), ?_⟩
      show okW n lt (if lt (gN p k) (gN p ((l + r) / 2)) = true then _ else _) _
      by_cases hc : lt (gN p k) (gN p ((l + r) / 2)) = true
      . rw [if_pos hc]
        refine place_ok hp hk hs f l _ (by omega) (by omega) (by omega) a fun i hi hik => ?_
        by_cases ei : i = (l + r) / 2
        . rw [ei]; exact O.as _ _ hc
        . exact O.tr _ _ _ (O.as _ _ hc) (hs _ _ (by omega) hik)
      . rw [if_neg hc]
        have hc' : lt (gN p k) (gN p ((l + r) / 2)) = false := by simpa using hc
        refine place_ok hp hk hs f _ r h1 (by omega) (by omega) (fun i hi => ?_) b
        by_cases ei : i = (l + r) / 2
        . rw [ei]; exact hc'
        . exact O.tr _ _ _ (hs i _ (by omega) (by omega)) hc'
theorem bin_ok : ∀ (f : Nat) (p : Array Nat) (k : Nat), PN n p -> k + f = n -> Srt lt p k -> okW n lt (PySem.W.kas_bin f p k) (fun r => PN n r /\ Srt lt r n)
  | 0, p, k, hp, h, hs => ⟨hp, by rw [<- h]; exact hs⟩
  | f + 1, p, k, hp, h, hs => by
    have hz := hp.sz
    refine okW_bind _ (okW_mono (fun l hl => ?_) _ (place_ok O hp (by omega) hs k 0 k (Nat.le_refl _) (Nat.zero_le _) (by omega) (fun i hi => by omega) (fun i a b => by omega)))
    obtain ⟨c1, c2, c3⟩ := hl
    refine bin_ok f _ (k + 1) (hp.bub _ _) (by omega) fun i j hij hj => ?_
    rw [gN_bub (by omega) c1, gN_bub (by omega) c1]
    by_cases ej : j = l
    . rw [if_pos ej, if_neg (by omega), if_neg (by omega)]
      exact c2 i (by omega)
    . rw [if_neg ej]
      by_cases ei : i = l
      . rw [if_pos ei, if_pos ⟨by omega, by omega⟩]
        exact c3 _ (by omega) (by omega)
      . rw [if_neg ei]
        by_cases hj' : l < j /\ j <= k
        . rw [if_pos hj']
          by_cases hi' : l < i /\ i <= k
          . rw [if_pos hi']
            exact hs _ _ (by omega) (by omega)
          . rw [if_neg hi']
            exact hs _ _ (by omega) (by omega)
        . rw [if_neg hj', if_neg (by omega)]
          exact hs _ _ hij (by omega)
theorem kas_sort_ok (h1 : 1 <= n) : okW n lt (PySem.W.kas_sort n) (fun r => PN n r /\ Srt lt r n) := by
  refine okW_bind _ (okW_mono (fun r h => ?_) _ (count_ok O (p := List.toArray (List.range n)) (List.Perm.refl _) h1))
  obtain ⟨hp, b1, b2, b3⟩ := h
  by_cases e : r.1 < n
  . rw [if_pos e]
    have em : max r.1 1 = r.1 := by omega
    rw [em]
    exact bin_ok O _ _ _ hp (by omega) b3
  . rw [if_neg e]
    have en : r.1 = n := by omega
    exact ⟨hp, by rw [<- en]; exact b3⟩
end
end L2
namespace L2
open PySem PySem.Spec PyProof.Rows
def Kept (h0 h : Heap) : Prop := ∀ b o, h0.get? b = some o -> h.get? b = some o
structure SortQ (prog : Program) (w : World) (h0 : Heap) (s : Shared) (vs : List Value) (κ : SortKind) (lt : Nat -> Nat -> Bool) : Prop where
  kind : ∀ (A : Around) (h' : Heap), Kept h0 h' -> 2 <= vs.length -> ∀ (Q : SortKind -> Shared -> Prop) (E : Value -> Shared -> Prop), Q κ { s with heap := h' } -> wpAny (model prog w) A (keyKind' vs.toArray) Q E { s with heap := h' }
  ask : ∀ (A : Around) (h' : Heap), Kept h0 h' -> ∀ i j, i < vs.length -> j < vs.length -> i ≠ j -> ∀ (C : Bool -> Shared -> Prop), C (lt i j) { s with heap := h' } -> wpAny (model prog w) A (keyLt' κ (vs.getD i .none) (vs.getD j .none)) C (fun _ _ => False) { s with heap := h' }
section
variable {prog : Program} {w : World} {A : Around} {E : Value -> Shared -> Prop} {s : Shared} {κ : SortKind} {lt : Nat -> Nat -> Bool} {h0 : Heap}
theorem list_sort_gen {a : Addr} {vs : List Value} {n : Nat} {P : PySem.Fin -> Shared -> Prop} (ho : s.heap.get? a = some (seqObj "list" vs.toArray n))
    (k0 : Kept h0 s.heap) (ha0 : h0.get? a = none) (O : Ord lt) (sq : SortQ prog w h0 s vs κ lt) (h64 : vs.length < 64)
    (h : ∀ (p : Array Nat), PN vs.length p -> Srt lt p vs.length -> P (.done (.ret .none)) { s with heap := sortedHeap s.heap a vs (p.toList.map fun i => vs.getD i .none).toArray }) :
    wpAny (model prog w) A (Builtin.«list.sort» ⟨[.ref a], []⟩) P E s := by
  rw [list_sort_plain]
  have ha : a < s.heap.objs.size := Heap.lt_size ho
  refine wpAny_bind (listItems_at ho rfl ?_)
  refine wpAny_bind (listUpdate_at ho rfl ?_ (by rw [List.size_toArray, sizeLine_eq]; omega) (Nat.zero_le _))
  obtain ⟨e1, ho1⟩ : ∃ e1, (s.heap.update a (Obj.mapSeq fun _ => (#[] : Array Value))).get? a = some (seqObj "list" #[] e1) := ⟨_, get?_update_seq ho (fun _ => #[])⟩
  refine wpAny_bind (seqEpoch_at ho1 rfl ?_)
  refine wpAny_bind (wpAny_newTuple ?_ (by show vs.length <= _; rw [sizeLine_eq]; omega))
  refine wpAny_bind (wpAny_newList ?_ (Nat.zero_le _))
  refine wpAny_holding ?_
  have ho6 : (((s.heap.update a (Obj.mapSeq fun _ => (#[] : Array Value))).push (seqObj "tuple" vs.toArray 0)).push (seqObj "list" #[] 0)).get? a = some (seqObj "list" #[] e1) := by
    rw [Heap.get?_push_ne _ _ _ (by rw [size_push', Heap.size_update]; exact Nat.ne_of_lt (Nat.lt_succ_of_lt ha)), Heap.get?_push_ne _ _ _ (by rw [Heap.size_update]; exact Nat.ne_of_lt ha)]
    exact ho1
  have kk : Kept h0 (((s.heap.update a (Obj.mapSeq fun _ => (#[] : Array Value))).push (seqObj "tuple" vs.toArray 0)).push (seqObj "list" #[] 0)) := fun b o e => by
    refine Heap.get?_push_of_some _ (Heap.get?_push_of_some _ ?_)
    have hb : b ≠ a := fun q => by rw [q, ha0] at e; cases e
    rw [Heap.get?_update_ne _ _ _ _ hb]
    exact k0 b o e
  show wpAny (model prog w) A _ P E { s with heap := ((s.heap.update a (Obj.mapSeq fun _ => (#[] : Array Value))).push (seqObj "tuple" vs.toArray 0)).push (seqObj "list" #[] 0) }
  dsimp only
  have hsz : vs.toArray.size = vs.length := by simp
  by_cases h2 : vs.toArray.size < 2
  . rw [if_pos h2, if_pos h2]
    refine wpAny_bind (wpAny_pure ?_)
    rw [StateT.run_pure]
    refine wpAny_bind (wpAny_pure ?_)
    dsimp only
    have eo : (arrOf (SortSt.mk' general' (vs.toArray.zip vs.toArray) #[] 7 none)).map (·.2) = vs.toArray := by
      apply Array.toList_inj.mp
      show ((vs.toArray.zip vs.toArray).map (·.2)).toList = vs.toArray.toList
      simp
      match vs, hsz, h2 with
      | [], _, _ => rfl
      | [_], _, _ => rfl
      | _ :: _ :: r, _, h2 => simp at h2; omega
    refine wpAny_bind (seqEpoch_at ho6 rfl ?_)
    refine wpAny_bind (listUpdate_at ho6 rfl ?_ (Nat.zero_le _) (by rw [eo, List.size_toArray, sizeLine_eq]; omega))
    rw [eo]
    simp only [bne_self_eq_false, Bool.false_eq_true, if_false]
    have hl2 : vs.length < 2 := by rw [hsz] at h2; exact h2
    have q := h (List.range vs.length).toArray (by show List.Perm _ _; rw [List.toList_toArray]) (fun i j hij hj => by
      exfalso; omega)
    have ev : ((List.range vs.length).toArray.toList.map fun i => vs.getD i .none).toArray = vs.toArray := by
      match vs, hl2 with
      | [], _ => rfl
      | [_], _ => rfl
    rw [ev] at q
    exact wpAny_pure q
  . rw [if_neg h2, if_neg h2]
    have hl2 : 2 <= vs.length := by rw [hsz] at h2; omega
    refine wpAny_bind (sq.kind A _ kk hl2 _ _ ?_)
    have ask : (PySem.W.kas_sort vs.length).kasWp (PySem.W.kas_ask prog w A κ vs) (fun p s' => s' = { s with heap := ((s.heap.update a (Obj.mapSeq fun _ => (#[] : Array Value))).push (seqObj "tuple" vs.toArray 0)).push (seqObj "list" #[] 0) } /\ PN vs.length p /\ Srt lt p vs.length)
        { s with heap := ((s.heap.update a (Obj.mapSeq fun _ => (#[] : Array Value))).push (seqObj "tuple" vs.toArray 0)).push (seqObj "list" #[] 0) } :=
      okW_wp (I := fun s' => s' = { s with heap := ((s.heap.update a (Obj.mapSeq fun _ => (#[] : Array Value))).push (seqObj "tuple" vs.toArray 0)).push (seqObj "list" #[] 0) })
        (fun i j C s' hi hj hne e hC => by subst e; exact sq.ask A _ kk i j hi hj hne C (hC _ rfl)) (fun p s' hp e => ⟨e, hp.1, hp.2⟩) _ _ (kas_sort_ok O (n := vs.length) (by omega)) rfl
    refine wpAny_bind (wpAny_mono (PySem.W.kat_run (Q := fun st' s' => ∃ p : Array Nat, arrOf st' = p.map (PySem.W.kas_item (vs.toArray.zip vs.toArray)) /\ failedOf st' = none /\ (s' = { s with heap := ((s.heap.update a (Obj.mapSeq fun _ => (#[] : Array Value))).push (seqObj "tuple" vs.toArray 0)).push (seqObj "list" #[] 0) } /\ PN vs.length p /\ Srt lt p vs.length))
      rfl hl2 h64 (fun p' st' s' a1 a2 a3 a4 => ⟨p', a2, a3, a4⟩) ask) ?_ fun _ _ e => e)
    rintro ⟨⟨⟩, st'⟩ s' ⟨p, har, hf, rfl, hp, hs⟩
    dsimp only
    have hout := PySem.W.kat_snds rfl har
    have hz2 : (List.toArray (p.toList.map fun i => vs.getD i Value.none)).size = vs.length := by rw [List.size_toArray, List.length_map, Array.length_toList, hp.sz]
    rw [hout]
    refine wpAny_bind (seqEpoch_at ho6 rfl ?_)
    refine wpAny_bind (listUpdate_at ho6 rfl ?_ (Nat.zero_le _) (by rw [hz2, sizeLine_eq]; omega))
    rw [hf]
    simp only [bne_self_eq_false, Bool.false_eq_true, if_false]
    exact wpAny_pure (h p hp hs)
theorem collect_tup {l : Addr} {vs : List Value} {Q : List Value -> Shared -> Prop} (hl : IsTup s.heap l vs.toArray)
    (h : Q vs { s with heap := (s.heap.push (seqObj "list" #[] 0)).update s.heap.objs.size (Obj.mapSeq (· ++ vs.toArray)) }) (hsz : vs.length <= sizeLine) :
    wpAny (model prog w) A (collect (.ref l)) Q E s := by
  obtain ⟨o, ho, hc, n, hd⟩ := id hl
  unfold collect
  refine wpAny_bind (wpAny_runValue (codeAny_builtin entry_proto_collect' ?_))
  show wpAny _ _ (do again (.builtin "list.__iadd__" ⟨[<- newList [], .ref l], []⟩)) _ _ s
  refine wpAny_bind (wpAny_newList (wpAny_pure ⟨Code.quiet_builtin _ (by decide +kernel), codeAny_builtin entry_list_iadd' ?_⟩) (Nat.zero_le _))
  show wpAny _ _ (Builtin.List.listExtendWith (.ref s.heap.objs.size) (.ref l) (.ref s.heap.objs.size)) _ _ { s with heap := s.heap.push (seqObj "list" #[] 0) }
  unfold Builtin.List.listExtendWith
  have ho' : (s.heap.push (seqObj "list" #[] 0)).get? l = some o := Heap.get?_push_of_some _ ho
  refine wpAny_bind (wpAny_typeOf (T := "tuple") ⟨o, ho', hc⟩ ?_)
  have ht : (Value.type "tuple" == Value.type "tuple") = true := by rfl
  rw [if_pos (by rw [ht]; simp)]
  refine wpAny_bind (listItems_at ho' hd ?_)
  refine wpAny_bind (listItems_at (xs := #[]) (n := 0) (Heap.get?_push_size _ rfl) rfl ?_)
  rw [if_neg (by simp)]
  refine wpAny_bind (listUpdate_at (xs := #[]) (n := 0) (Heap.get?_push_size _ rfl) rfl ?_ (Nat.zero_le _) (by show (#[] ++ vs.toArray).size <= sizeLine + 1; simp only [Array.size_append, List.size_toArray, List.length_nil]; omega))
  refine wpAny_pure ?_
  show wpAny (model prog w) A (do
      let o <- load s.heap.objs.size
      match o.data with
      | .seq xs _ => pure xs.toList
      | _ => unsupported "internal:collect") Q E { s with heap := (s.heap.push (seqObj "list" #[] 0)).update s.heap.objs.size (Obj.mapSeq (· ++ vs.toArray)) }
  refine wpAny_bind (wpAny_load (get?_update_seq (Heap.get?_push_size _ rfl) _) ?_)
  show wpAny _ _ (pure ((#[] : Array Value) ++ vs.toArray).toList) Q E _
  rw [show ((#[] : Array Value) ++ vs.toArray).toList = vs by simp]
  exact wpAny_pure h
theorem sorted_gen {l : Addr} {vs : List Value} {Q : Value -> Shared -> Prop} (hl : s.heap.IsList l vs.toArray \/ IsTup s.heap l vs.toArray) (O : Ord lt) (sq : SortQ prog w s.heap s vs κ lt) (h64 : vs.length < 64)
    (h : ∀ (p : Array Nat), PN vs.length p -> Srt lt p vs.length -> Q (.ref (s.heap.objs.size + 1)) { s with heap := sortedAll s.heap vs (p.toList.map fun i => vs.getD i .none).toArray }) :
    wpAny (model prog w) A (call (.builtin "sorted") [.ref l]) Q E s := by
  refine Calls.call_function_entry kind_sorted plain_sorted entry_sorted (args_sorted1 _) ?_
  unfold Builtin.«sorted»
  refine wpAny_bind (m := checkCount "sorted" 1 1 _) (wpAny_pure ?_)
  have g : ∀ {A' : Around} {E' : Value -> Shared -> Prop} (R : List Value -> Shared -> Prop), R vs { s with heap := (s.heap.push (seqObj "list" #[] 0)).update s.heap.objs.size (Obj.mapSeq (· ++ vs.toArray)) } -> wpAny (model prog w) A' (collect (.ref l)) R E' s :=
    fun R r => hl.elim (fun q => collect_list q r (by rw [sizeLine_eq]; omega)) fun q => collect_tup q r (by rw [sizeLine_eq]; omega)
  refine wpAny_bind (g _ ?_)
  refine wpAny_bind (wpAny_newList ?_ (by rw [sizeLine_eq]; omega))
  have hsz : ((s.heap.push (seqObj "list" #[] 0)).update s.heap.objs.size (Obj.mapSeq (· ++ vs.toArray))).objs.size = s.heap.objs.size + 1 := by
    rw [Heap.size_update, size_push']
  have hoL : (((s.heap.push (seqObj "list" #[] 0)).update s.heap.objs.size (Obj.mapSeq (· ++ vs.toArray))).push (seqObj "list" vs.toArray 0)).get? (s.heap.objs.size + 1) = some (seqObj "list" vs.toArray 0) := by
    rw [<- hsz]; exact Heap.get?_push_size _ rfl
  have keep : Kept s.heap (((s.heap.push (seqObj "list" #[] 0)).update s.heap.objs.size (Obj.mapSeq (· ++ vs.toArray))).push (seqObj "list" vs.toArray 0)) := fun b o q => by
    have hlt : b < s.heap.objs.size := Heap.lt_size q
    rw [Heap.get?_push_ne _ _ _ (by rw [hsz]; exact Nat.ne_of_lt (Nat.lt_succ_of_lt hlt)), Heap.get?_update_ne _ _ _ _ (Nat.ne_of_lt hlt), Heap.get?_push_ne _ _ _ (Nat.ne_of_lt hlt)]
    exact q
  show wpAny _ _ _ _ _ { s with heap := ((s.heap.push (seqObj "list" #[] 0)).update s.heap.objs.size (Obj.mapSeq (· ++ vs.toArray))).push (seqObj "list" vs.toArray 0) }
  rw [hsz]
  refine wpAny_bind (wpAny_holding (wpAny_call_entry slot_list_sort ⟨_, hoL, rfl⟩ entry_list_sort
    (list_sort_gen (s := { s with heap := ((s.heap.push (seqObj "list" #[] 0)).update s.heap.objs.size (Obj.mapSeq (· ++ vs.toArray))).push (seqObj "list" vs.toArray 0) }) (h0 := s.heap) (κ := κ) (lt := lt) hoL keep (Heap.get?_none_of_le (Nat.le_succ _)) O ⟨sq.kind, sq.ask⟩ h64 fun p a1 a2 => ⟨_, rfl, ?_⟩) (args_list_sort _)))
  exact wpAny_pure ⟨_, rfl, h p a1 a2⟩
end
end L2

namespace L2
open PySem PySem.Spec PyProof.Rows
def sLt (a b : Str) : Bool := decide (a.cps.toList < b.cps.toList)
theorem sLt_as {a b : Str} (h : sLt a b = true) : sLt b a = false := by
  unfold sLt at *; rw [decide_eq_true_eq] at h; rw [decide_eq_false_iff_not]; exact List.lt_asymm h
theorem sLt_tr {a b c : Str} (h : sLt b a = false) (h' : sLt c b = false) : sLt c a = false := by
  unfold sLt at *; rw [decide_eq_false_iff_not] at *
  exact List.le_trans (show a.cps.toList <= b.cps.toList from h) h'
theorem sLt_eq {a b : Str} (h : sLt a b = false) (h' : sLt b a = false) : a = b := by
  unfold sLt at *; rw [decide_eq_false_iff_not] at *
  have e : a.cps.toList = b.cps.toList := List.le_antisymm (show a.cps.toList <= b.cps.toList from h') h
  cases a; cases b
  simp only [Str.mk.injEq]
  exact Array.toList_inj.mp e
def vLt : List V -> List V -> Option Bool
  | [], [] => some false
  | [], _ :: _ => some true
  | _ :: _, [] => some false
  | .str a :: xs, .str b :: ys => if a = b then vLt xs ys else some (sLt a b)
  | .int a :: xs, .int b :: ys => if a = b then vLt xs ys else some (decide (a < b))
  | _ :: _, _ :: _ => none
theorem vLt_as : ∀ {x y : List V}, vLt x y = some true -> vLt y x = some false
  | [], [], h => by simp [vLt] at h
  | [], _ :: _, h => rfl
  | _ :: _, [], h => by simp [vLt] at h
  | u :: x, v :: y, h => by
    cases u <;> cases v <;> first | (simp [vLt] at h; done) | skip
    case int a b =>
      unfold vLt at h ⊢
      by_cases e : a = b
      . rw [if_pos e] at h; rw [if_pos e.symm]; exact vLt_as h
      . rw [if_neg e] at h; rw [if_neg fun z => e z.symm]
        have : a < b := by simpa using h
        simp; omega
    case str a b =>
      unfold vLt at h ⊢
      by_cases e : a = b
      . rw [if_pos e] at h; rw [if_pos e.symm]; exact vLt_as h
      . rw [if_neg e] at h; rw [if_neg fun z => e z.symm]
        rw [sLt_as (by simpa using h)]
theorem vLt_tr : ∀ {x y z : List V}, vLt y x = some false -> vLt z y = some false -> vLt z x = some false
  | [], y, z, h, h' => by
    cases z with
    | nil =>
      rfl
    | cons _ _ => rfl
  | u :: x, [], z, h, h' => by simp [vLt] at h
  | u :: x, v :: y, [], h, h' => by simp [vLt] at h'
  | u :: x, v :: y, t :: z, h, h' => by
    cases u <;> cases v <;> first | (simp [vLt] at h; done) | skip
    case int a b =>
      cases t <;> first | (simp [vLt] at h'; done) | skip
      rename_i c
      unfold vLt at h h' ⊢
      by_cases e : b = a
      . rw [if_pos e] at h; subst e
        by_cases e2 : c = b
        . rw [if_pos e2] at h' ⊢; exact vLt_tr h h'
        . rw [if_neg e2] at h' ⊢; exact h'
      . rw [if_neg e] at h
        have h1 : ¬ b < a := by simpa using h
        by_cases e2 : c = b
        . subst e2; rw [if_neg e]; exact h
        . rw [if_neg e2] at h'
          have h2 : ¬ c < b := by simpa using h'
          rw [if_neg (by omega)]
          simp; omega
    case str a b =>
      cases t <;> first | (simp [vLt] at h'; done) | skip
      rename_i c
      unfold vLt at h h' ⊢
      by_cases e : b = a
      . rw [if_pos e] at h; subst e
        by_cases e2 : c = b
        . rw [if_pos e2] at h' ⊢; exact vLt_tr h h'
        . rw [if_neg e2] at h' ⊢; exact h'
      . rw [if_neg e] at h
        have h1 : sLt b a = false := by simpa using h
        by_cases e2 : c = b
        . subst e2; rw [if_neg e]; exact h
        . rw [if_neg e2] at h'
          have h2 : sLt c b = false := by simpa using h'
          have h3 := sLt_tr h1 h2
          have e3 : c ≠ a := fun z => by
            subst z
            exact e (sLt_eq h1 h2)
          rw [if_neg e3, h3]
def vAt (rs : List (List V)) (i j : Nat) : Bool := vLt (rs.getD i []) (rs.getD j []) == some true
theorem vAt_ord {rs : List (List V)} (h : ∀ i j, i ≠ j -> (vLt (rs.getD i []) (rs.getD j [])).isSome) : Ord (vAt rs) where
  as := fun a b e => by
    have e' : vLt (rs.getD a []) (rs.getD b []) = some true := by simpa [vAt] using e
    show (_ == _) = false
    rw [vLt_as e']; rfl
  tr := fun a b c e e' => by
    by_cases hab : a = b
    . subst hab; exact e'
    . by_cases hbc : b = c
      . subst hbc; exact e
      . have f : ∀ {i j}, i ≠ j -> vAt rs i j = false -> vLt (rs.getD i []) (rs.getD j []) = some false := fun {i j} hij q => by
          have s := h i j hij
          have q' : (vLt (rs.getD i []) (rs.getD j []) == some true) = false := q
          cases z : vLt (rs.getD i []) (rs.getD j []) with
          | none => rw [z] at s; cases s
          | some b => cases b with
            | true => rw [z] at q'; exact absurd q' (by decide)
            | false => rfl
        have r := vLt_tr (f (fun z => hab z.symm) e) (f (fun z => hbc z.symm) e')
        show (_ == _) = false
        rw [r]; rfl
end L2
namespace L2
open PySem PySem.Spec PyProof.Rows
section
variable {prog : Program} {w : World} {A : Around} {E : Value -> Shared -> Prop} {s : Shared}
theorem vLt_lex {Q : Bool -> Shared -> Prop} {c : Bool} : ∀ {xs ys : List V} {us ws : List Value} {i : Nat} {fin : Bool}, Vals xs us -> Vals ys ws -> fin = decide (xs.length < ys.length) -> vLt xs ys = some c -> Q c s ->
    PySem.W.KatLex prog w A true fin Q (us.zip ws) i s
  | [], [], _, _, i, fin, .nil, .nil, hf, h, q => by
    simp [vLt] at h; subst h; subst hf
    exact PySem.W.kat_nil q
  | [], _ :: _, _, _, i, fin, .nil, .cons _ _, hf, h, q => by
    simp [vLt] at h; subst h; subst hf
    exact PySem.W.kat_nil (by simpa using q)
  | _ :: _, [], _, _, i, fin, .cons _ _, .nil, hf, h, q => by
    simp [vLt] at h; subst h; subst hf
    exact PySem.W.kat_nil (by simpa using q)
  | u :: x, v :: y, _, _, i, fin, .cons a ta, .cons b tb, hf, h, q => by
    cases u <;> cases v <;> first | (simp [vLt] at h; done) | skip
    case int m n =>
      obtain ⟨t, rfl⟩ := a
      obtain ⟨t', rfl⟩ := b
      unfold vLt at h
      refine PySem.W.kat_cons (wpAny_eqBool_int ?_)
      by_cases e : m = n
      . rw [if_pos e] at h
        rw [show (m == n) = true by simpa using e]
        exact PySem.W.kat_yes (vLt_lex ta tb (by rw [hf]; simp) h q)
      . rw [if_neg e] at h
        rw [show (m == n) = false by simpa using e]
        have hc : decide (m < n) = c := by simpa using h
        refine PySem.W.kat_no ?_
        cases i with
        | zero => exact oneLt_int (by rw [hc]; exact q)
        | succ i => exact PySem.W.kat_one _ _ (lt_int (show PySem.W.BoolBack Q (.bool _) s from by show Q _ s; rw [hc]; exact q))
    case str m n =>
      obtain ⟨t, rfl⟩ := a
      obtain ⟨t', rfl⟩ := b
      unfold vLt at h
      refine PySem.W.kat_cons (wpAny_eqBool_str ?_)
      by_cases e : m = n
      . rw [if_pos e] at h
        rw [show decide (m = n) = true by simpa using e]
        exact PySem.W.kat_yes (vLt_lex ta tb (by rw [hf]; simp) h q)
      . rw [if_neg e] at h
        rw [show decide (m = n) = false by simpa using e]
        have hc : decide (m.cps.toList < n.cps.toList) = c := by simpa [sLt] using h
        refine PySem.W.kat_no ?_
        cases i with
        | zero => exact oneLt_str (by rw [hc]; exact q)
        | succ i => exact PySem.W.kat_one _ _ (lt_str (show PySem.W.BoolBack Q (.bool _) s from by show Q _ s; rw [hc]; exact q))
end
def Fst (rs : List (List V)) : Prop := (∀ r ∈ rs, ∃ x t, r = .str x :: t) \/ (∀ r ∈ rs, ∃ x t, r = .int x :: t)
def RowsT (K : PySem.W.Frag) (H : Hp) : List Addr -> List (List V) -> Prop := Paired fun a ys => SqT K H a ys
section
variable {X : Cx} {pins : List (Addr × Obj)} {σ : St} {H : Hp} {s : Shared}
theorem rows_tups {h' : Heap} (k : Kept s.heap h') (I : Inv X pins σ H s) {T : String} : ∀ {as : List Addr} {rs : List (List V)}, RowsT X.K H as rs -> (∀ r ∈ rs, ∃ x t, r = x :: t /\ ∀ u, RelV x u -> (typeOf u = (pure (.type T) : Sem Value))) ->
    ∃ fs, PySem.W.KatTups h' (as.map Value.ref) fs /\ fs.length = as.length /\ ∀ v ∈ fs, typeOf v = (pure (.type T) : Sem Value)
  | _, _, .nil, _ => ⟨[], .nil, rfl, fun _ h => by cases h⟩
  | a :: as, ys :: rs, .cons q t, f => by
    obtain ⟨x, r, rfl, hx⟩ := f _ (.head _)
    obtain ⟨its, v, ⟨o, ho, hc, n, hd⟩, _⟩ := I.tuple q
    obtain ⟨fs, h1, h2, h3⟩ := rows_tups k I t fun r hr => f r (.tail _ hr)
    cases v with
    | cons a1 a2 =>
      rename_i u us
      refine ⟨u :: fs, .cons (k _ _ ho) hc hd (by simp) h1, by simp [h2], fun v hv => ?_⟩
      rcases List.mem_cons.mp hv with rfl | hv
      . exact hx _ a1
      . exact h3 _ hv
theorem rows_get {as : List Addr} {rs : List (List V)} {i : Nat} : RowsT X.K H as rs -> i < as.length -> ∃ a ys, as[i]? = some a /\ rs.getD i [] = ys /\ SqT X.K H a ys := fun r hi => by
  induction r generalizing i with
  | nil => simp at hi
  | cons q t ih =>
    cases i with
    | zero => exact ⟨_, _, rfl, rfl, q⟩
    | succ i =>
      obtain ⟨a, ys, e, e2, z⟩ := ih (i := i) (by simpa using hi)
      exact ⟨a, ys, by simpa using e, by simpa using e2, z⟩
end
section
variable {X : Cx} (K : PySem.W.Frag)
def rSortR : List V -> Hp -> VK -> Prop := fun xs H Q => ∃ p as rs, xs = [.ref p] /\ (SqL K H p (as.map V.ref) \/ SqT K H p (as.map V.ref)) /\ RowsT K H as rs /\ as.length < 64 /\ Fst rs /\ (∀ i j, i ≠ j -> (vLt (rs.getD i []) (rs.getD j [])).isSome) /\
  ∀ (q : Array Nat) l, PN as.length q -> Srt (vAt rs) q as.length -> H l = none -> Q (.ref l) (upd H l (.lst (q.toList.map fun i => V.ref (as.getD i 0))))
theorem vals_refs : ∀ {as : List Addr} {us : List Value}, Vals (as.map V.ref) us -> us = as.map Value.ref
  | [], _, h => by cases h; rfl
  | a :: as, _, h => by
    cases h with
    | cons a1 a2 => rw [show _ = Value.ref a from a1, vals_refs a2]; rfl
theorem refs_vals : ∀ (as : List Addr), Vals (as.map V.ref) (as.map Value.ref)
  | [] => .nil
  | a :: as => .cons rfl (refs_vals as)
theorem call_sortR (h : X.K = K := by rfl) : CallR X (.builtin "sorted") (rSortR K) := by
  subst h
  intro pins s σ H xs us Q I r h
  obtain ⟨p, as, rs, rfl, hl, hr, hz, hF, hS, q⟩ := h
  obtain ⟨u, rfl, rx⟩ := vals1 r
  cases rx
  have hv : s.heap.IsList p (as.map Value.ref).toArray \/ IsTup s.heap p (as.map Value.ref).toArray := by
    rcases hl with hl | hl
    . obtain ⟨its, r', pl, _⟩ := I.list hl
      rw [vals_refs r'] at pl
      exact .inl pl.isList
    . obtain ⟨its, r', pl, _⟩ := I.tuple hl
      rw [vals_refs r'] at pl
      exact .inr pl
  have hlen : (as.map Value.ref).length = as.length := List.length_map ..
  have tT : ∃ T : String, (Value.type T != Value.type "tuple") = true /\ (Value.type T == Value.type T) = true /\ ∀ r ∈ rs, ∃ x t, r = x :: t /\ ∀ u, RelV x u -> (typeOf u = (pure (.type T) : Sem Value)) := by
    rcases hF with hF | hF
    . refine ⟨"str", by decide, by decide, fun r hr => ?_⟩
      obtain ⟨x, t, rfl⟩ := hF r hr
      exact ⟨_, t, rfl, fun u hu => by obtain ⟨t, rfl⟩ := hu; rfl⟩
    . refine ⟨"int", by decide, by decide, fun r hr => ?_⟩
      obtain ⟨x, t, rfl⟩ := hF r hr
      exact ⟨_, t, rfl, fun u hu => by obtain ⟨t, rfl⟩ := hu; rfl⟩
  obtain ⟨T, hT1, hT2, hT3⟩ := tT
  refine sorted_gen (κ := tuples' true) (lt := vAt rs) hv (vAt_ord hS) ⟨fun A h' k h2 Q E hq => ?_, fun A h' k i j hi hj hij C hC => ?_⟩ (by rw [hlen]; exact hz) fun p' h1 h2 => ?_
  . obtain ⟨fs, f1, f2, f3⟩ := rows_tups k I hr hT3
    refine PySem.W.kat_kind f1 (by rw [f2]; rw [hlen] at h2; omega) (fun v hv => PySem.W.Looks.of_pure (f3 v hv)) hT2 ?_
    rw [hT1]; exact hq
  . rw [hlen] at hi hj
    obtain ⟨a, ys, e1, e2, z⟩ := rows_get hr hi
    obtain ⟨b, zs, e3, e4, z'⟩ := rows_get hr hj
    obtain ⟨its, v, ⟨o, ho, hc, n, hd⟩, _⟩ := I.tuple z
    obtain ⟨its', v', ⟨o', ho', hc', n', hd'⟩, _⟩ := I.tuple z'
    rw [show (as.map Value.ref).getD i .none = .ref a by simp [e1], show (as.map Value.ref).getD j .none = .ref b by simp [e3]]
    refine PySem.W.kat_lt (s := { s with heap := h' }) (k _ _ ho) hd (k _ _ ho') hd' ?_
    have hs := hS i j hij
    have hval : vLt ys zs = some (vAt rs i j) := by
      unfold vAt
      rw [e2, e4] at hs ⊢
      cases w : vLt ys zs with
      | none => rw [w] at hs; cases hs
      | some b => cases b <;> rfl
    exact vLt_lex (xs := ys) (ys := zs) (by simpa using v) (by simpa using v') (by simp [v.length, v'.length]) hval hC
  . rw [hlen] at h1 h2
    obtain ⟨e, he⟩ := sortedAll_at s.heap (as.map Value.ref) (p'.toList.map fun i => (as.map Value.ref).getD i .none).toArray
    have hf : H (s.heap.objs.size + 1) = none := I.hok.fresh (Nat.le_succ _)
    have hout : (p'.toList.map fun i => (as.map Value.ref).getD i .none) = (p'.toList.map fun i => as.getD i 0).map Value.ref := by
      rw [List.map_map]
      refine List.map_congr_left fun i hi => ?_
      have hi' : i < as.length := List.mem_range.mp (h1.mem_iff.mp hi)
      simp [hi']
    refine ⟨.ref (s.heap.objs.size + 1), _, I.laid (a := s.heap.objs.size + 1) (o := .lst (p'.toList.map fun i => V.ref (as.getD i 0))) (t' := s.toks) (fun b o e => sortedAll_old e) (Nat.le_succ _) ?_, rfl, q p' _ h1 h2 hf⟩
    refine ⟨by rw [List.length_map, Array.length_toList, h1.sz]; exact Nat.le_trans (Nat.le_of_lt hz) (by decide), (p'.toList.map fun i => as.getD i 0).map Value.ref, e, ?_, ?_⟩
    . have := refs_vals (p'.toList.map fun i => as.getD i 0)
      rw [List.map_map] at this
      exact this
    . rw [he, hout]
end
end L2
namespace L2
open PySem PySem.Spec PyProof.Rows
def dRow : List D -> List D -> Option Bool
  | [], [] => some false
  | [], _ :: _ => some true
  | _ :: _, [] => some false
  | .str a :: xs, .str b :: ys => if a = b then dRow xs ys else some (sLt a b)
  | .int a :: xs, .int b :: ys => if a = b then dRow xs ys else some (decide (a < b))
  | _ :: _, _ :: _ => none
section
variable {K : PySem.W.Frag} {W : Wd}
theorem dRow_run {c : Bool} : ∀ {ds es : List D} {xs ys : List V}, Reps K W ds xs -> Reps K W es ys -> dRow ds es = some c -> vLt xs ys = some c
  | [], [], _, _, a, b, h => by rw [a.nil', b.nil']; simp [dRow] at h; subst h; rfl
  | [], _ :: _, _, _, a, b, h => by obtain ⟨y, r, rfl, _⟩ := b.uncons; rw [a.nil']; simp [dRow] at h; subst h; rfl
  | _ :: _, [], _, _, a, b, h => by obtain ⟨y, r, rfl, _⟩ := a.uncons; rw [b.nil']; simp [dRow] at h; subst h; rfl
  | d :: ds, e :: es, _, _, a, b, h => by
    obtain ⟨x, xs, rfl, qx, a'⟩ := a.uncons
    obtain ⟨y, ys, rfl, qy, b'⟩ := b.uncons
    cases d <;> cases e <;> first | (simp [dRow] at h; done) | skip
    case int m n =>
      rw [qx.i', qy.i']
      unfold dRow at h; unfold vLt
      by_cases z : m = n
      . rw [if_pos z] at h ⊢; exact dRow_run a' b' h
      . rw [if_neg z] at h ⊢; exact h
    case str m n =>
      rw [qx.s', qy.s']
      unfold dRow at h; unfold vLt
      by_cases z : m = n
      . rw [if_pos z] at h ⊢; exact dRow_run a' b' h
      . rw [if_neg z] at h ⊢; exact h
theorem rows_rep : ∀ {rows : List (List D)} {xs : List V}, Reps K W (rows.map D.tup) xs -> ∃ as rs, xs = as.map V.ref /\ RowsT K W.F as rs /\ Paired (fun ds ys => Reps K W ds ys) rows rs
  | [], _, h => ⟨[], [], by rw [h.nil']; rfl, .nil, .nil⟩
  | _ :: _, _, h => by
    obtain ⟨x, r, rfl, q, z⟩ := h.uncons
    obtain ⟨a, ys, rfl, e, q⟩ := q.tup'
    obtain ⟨as, rs, rfl, h1, h2⟩ := rows_rep z
    exact ⟨a :: as, ys :: rs, rfl, .cons e h1, .cons q h2⟩
theorem rows_at {i : Nat} : ∀ {rows : List (List D)} {as : List Addr} {rs : List (List V)}, RowsT K W.F as rs -> Paired (fun ds ys => Reps K W ds ys) rows rs -> i < as.length ->
    ∃ a, as.getD i 0 = a /\ SqT K W.F a (rs.getD i []) /\ Reps K W (rows.getD i []) (rs.getD i []) := fun {rows as rs} h g hi => by
  induction h generalizing i rows with
  | nil => simp at hi
  | cons q t ih =>
    cases g with
    | cons g1 g2 =>
      cases i with
      | zero => exact ⟨_, rfl, q, g1⟩
      | succ i => obtain ⟨a, e1, e2, e3⟩ := ih g2 (i := i) (by simpa using hi); exact ⟨a, by simpa using e1, by simpa using e2, by simpa using e3⟩
theorem rows_all : ∀ {rows : List (List D)} {rs : List (List V)}, Paired (fun ds ys => Reps K W ds ys) rows rs -> ∀ i, Reps K W (rows.getD i []) (rs.getD i []) := fun {rows rs} g => by
  induction g with
  | nil => intro i; simp [Reps.nil]
  | cons g1 _ ih =>
    intro i
    cases i with
    | zero => exact g1
    | succ i => simpa using ih i
end
def FstD (rs : List (List D)) : Prop := (∀ r ∈ rs, ∃ x t, r = .str x :: t) \/ (∀ r ∈ rs, ∃ x t, r = .int x :: t)
theorem fst_run {K : PySem.W.Frag} {W : Wd} : ∀ {rows : List (List D)} {rs : List (List V)}, Paired (fun ds ys => Reps K W ds ys) rows rs -> FstD rows -> Fst rs := fun {rows rs} g h => by
  rcases h with h | h
  . refine .inl ?_
    induction g with
    | nil => intro r hr; cases hr
    | cons g1 _ ih =>
      intro r hr
      rcases List.mem_cons.mp hr with rfl | hr
      . obtain ⟨x, t, rfl⟩ := h _ (.head _)
        obtain ⟨y, s, rfl, q, _⟩ := g1.uncons
        exact ⟨x, s, by rw [q.s']⟩
      . exact ih (fun r hr => h r (.tail _ hr)) r hr
  . refine .inr ?_
    induction g with
    | nil => intro r hr; cases hr
    | cons g1 _ ih =>
      intro r hr
      rcases List.mem_cons.mp hr with rfl | hr
      . obtain ⟨x, t, rfl⟩ := h _ (.head _)
        obtain ⟨y, s, rfl, q, _⟩ := g1.uncons
        exact ⟨x, s, by rw [q.i']⟩
      . exact ih (fun r hr => h r (.tail _ hr)) r hr
def rLe (a b : List D) : Prop := dRow b a ≠ some true
def dSortR : DRs := fun ds μ Q => match ds with
  | [d] => ∃ rows : List (List D), (lookL μ d = some (rows.map D.tup) \/ d = .tup (rows.map D.tup)) /\ rows.length < 64 /\ FstD rows /\ (∀ i j, i ≠ j -> (dRow (rows.getD i []) (rows.getD j [])).isSome) /\
      ∀ rows', List.Perm rows' rows -> List.Pairwise rLe rows' -> Q (.lst (rows'.map D.tup)) μ
  | _ => False
instance {K : PySem.W.Frag} {fl : Wd} : SimRs K fl (rSortR K) dSortR := ⟨fun {W μ H ds xs Q Q'} r z h k => by
  unfold dSortR at h
  split at h
  . obtain ⟨x, rfl, q⟩ := z.one
    obtain ⟨rows, hl, hz, hF, hS, h⟩ := h
    have hx : ∃ p xs, x = .ref p /\ (SqL K H p xs \/ SqT K H p xs) /\ Reps K W (rows.map D.tup) xs := by
      rcases hl with hl | rfl
      . obtain ⟨a, xs, rfl, e1, z1⟩ := lookL_run r q hl
        exact ⟨a, xs, rfl, .inl (SqL.of e1), z1⟩
      . obtain ⟨a, xs, rfl, e1, z1⟩ := q.tup'
        exact ⟨a, xs, rfl, .inr (e1.sm r.sub), z1⟩
    obtain ⟨p, xs, rfl, hp, z1⟩ := hx
    obtain ⟨as, rs, rfl, g1, g2⟩ := rows_rep z1
    have la : as.length = rows.length := by have a := Paired.length g1; have b := Paired.length g2; omega
    have iSm : ∀ {o : Option Bool}, o.isSome -> ∃ c, o = some c := fun {o} h => by cases o with
      | none => cases h
      | some c => exact ⟨c, rfl⟩
    refine ⟨p, as, rs, rfl, hp, Paired.mapP g1 fun a ys e => e.sm r.sub, by omega, fst_run g2 hF, fun i j hij => ?_, fun qq l h1 h2 hl => ?_⟩
    . obtain ⟨c, hc⟩ := iSm (hS i j hij)
      rw [dRow_run (rows_all g2 i) (rows_all g2 j) hc]; rfl
    . have mem : ∀ i ∈ qq.toList, i < as.length := fun i hi => List.mem_range.mp (h1.mem_iff.mp hi)
      obtain ⟨r2, le2⟩ := r.newF (o := .lst (qq.toList.map fun i => V.ref (as.getD i 0))) hl
      refine k _ (.lst ((qq.toList.map fun i => rows.getD i []).map D.tup)) _ _ _ le2 r2 (.lst upd_same ?_) (h _ ?_ ?_)
      . have go : ∀ l : List Nat, (∀ i ∈ l, i < as.length) -> Reps K W ((l.map fun i => rows.getD i []).map D.tup) (l.map fun i => V.ref (as.getD i 0)) := fun l => by
          induction l with
          | nil => intro _; exact .nil
          | cons i l ih =>
            intro hm
            obtain ⟨a, e1, e2, e3⟩ := rows_at g1 g2 (hm i (.head _))
            refine .cons ?_ (ih fun j hj => hm j (.tail _ hj))
            dsimp only; rw [e1]; exact .tup e2 e3
        exact (go _ mem).mono le2
      . have e : rows = (List.range as.length).map fun i => rows.getD i [] := by
          apply List.ext_getElem?
          intro i
          rw [la]
          by_cases hi : i < rows.length
          . simp [hi]
          . simp [hi, Nat.le_of_not_lt hi]
        have h1' : List.Perm (qq.toList.map fun i => rows.getD i []) ((List.range as.length).map fun i => rows.getD i []) := h1.map _
        rw [<- e] at h1'; exact h1'
      . rw [List.pairwise_map, List.pairwise_iff_getElem]
        intro i j hi hj hij
        have hn : qq.toList.length = as.length := by rw [Array.length_toList, h1.sz]
        have gi : gN qq i = qq.toList[i] := (by
          have z : i < qq.size := (by simpa using hi)
          show qq.getD i 0 = _
          simp [Array.getD, z])
        have gj : gN qq j = qq.toList[j] := (by
          have z : j < qq.size := (by simpa using hj)
          show qq.getD j 0 = _
          simp [Array.getD, z])
        have := h2 i j hij (by omega)
        rw [gi, gj] at this
        intro hd
        unfold vAt at this
        rw [dRow_run (rows_all g2 _) (rows_all g2 _) hd] at this
        exact absurd this (by decide)
  . exact h.elim⟩
end L2
namespace L2
open PySem PySem.Spec PyProof.Rows
def rSort4 (K : PySem.W.Frag) : List V -> Hp -> VK -> Prop := fun xs H Q => rSort3 K xs H Q \/ rSortR K xs H Q
theorem call_sort4 {X : Cx} (K : PySem.W.Frag) (h : X.K = K := by rfl) (hc : X.calm = true := by rfl) : CallR X (.builtin "sorted") (rSort4 K) := (call_sort3 K h hc).or (call_sortR K h)
def dSort4 : DRs := fun ds μ Q => dSort3 ds μ Q \/ dSortR ds μ Q
instance {K : PySem.W.Frag} {fl : Wd} : SimRs K fl (rSort4 K) dSort4 := ⟨fun {W μ H ds xs Q Q'} r z h k => by
  rcases h with h | h
  . exact .inl (SimRs.run (K := K) (r := rSort3 K) (q := dSort3) r z h k)
  . exact .inr (SimRs.run (K := K) (r := rSortR K) (q := dSortR) r z h k)⟩
theorem sort4_rows {rows : List (List D)} {d : D} {μ : Mu} {Q : DK} (hl : lookL μ d = some (rows.map D.tup) \/ d = .tup (rows.map D.tup)) (hz : rows.length < 64) (hF : FstD rows) (hS : ∀ i j, i ≠ j -> (dRow (rows.getD i []) (rows.getD j [])).isSome) (h : ∀ rows', List.Perm rows' rows -> List.Pairwise rLe rows' -> Q (.lst (rows'.map D.tup)) μ) : dSort4 [d] μ Q := .inr ⟨rows, hl, hz, hF, hS, h⟩
end L2

namespace L2
open PySem PySem.Spec PyProof.Rows
abbrev KeyT := List Key
instance decKeyT (k : KeyT) (ks : List KeyT) : Decidable (k ∈ ks) := @List.instDecidableMemOfLawfulBEq KeyT instBEqOfDecidableEq inferInstance k ks
def dKeys : List D -> Option KeyT
  | [] => some []
  | d :: r => match dKey d, dKeys r with
    | some k, some ks => some (k :: ks)
    | _, _ => none
def tlook : List KeyT -> List D -> KeyT -> Option D
  | k :: ks, v :: vs, q => if k = q then some v else tlook ks vs q
  | _, _, _ => none
def tputN (ks : List KeyT) (k : KeyT) : List KeyT := if k ∈ ks then ks else ks ++ [k]
def tputV (ks : List KeyT) (vs : List D) (k : KeyT) (v : D) : List D := if k ∈ ks then List.zipWith (fun k' v' => if k' = k then v else v') ks vs else vs ++ [v]
def dttC (c : Option Ct) (R : List KeyT -> List D -> Prop) : Prop := match c with
  | some (.dtt ks vs) => R ks vs
  | _ => False
def dttR (μ : Mu) (d : D) (R : List KeyT -> List D -> Prop) : Prop := match d with
  | .cell k => dttC (μ k) R
  | .dtt ks vs => R ks vs
  | _ => False
theorem dttC_e {ks : List KeyT} {vs : List D} {R : List KeyT -> List D -> Prop} : dttC (some (.dtt ks vs)) R = R ks vs := rfl
theorem dttR_c {μ : Mu} {k : Nat} {R : List KeyT -> List D -> Prop} : dttR μ (.cell k) R = dttC (μ k) R := rfl
def dTGet (wo : DE) (w : DA) : DE := fun ρ μ Q => wo ρ μ fun d μ1 => w ρ μ1 fun ds μ2 => ds.length <= 1000 /\ dttR μ2 d fun ks vs => optK (dKeys ds) fun k => optK (tlook ks vs k) fun v => Q v μ2
def dTIn (neg : Bool) (w : DA) (wo : DE) : DE := fun ρ μ Q => w ρ μ fun ds μ1 => ds.length <= 1000 /\ wo ρ μ1 fun d μ2 => dttR μ2 d fun ks vs => optK (dKeys ds) fun k => Q (.bl (neg ^^ decide (k ∈ ks))) μ2
section
variable {K : PySem.W.Frag} {fl : Wd} {W : Wd}
theorem keys_run {k : KeyT} : ∀ {ds : List D} {xs : List V}, Reps K W ds xs -> dKeys ds = some k -> xs = k.map kV := fun {ds} => by
  induction ds generalizing k with
  | nil => intro xs r h; unfold dKeys at h; cases h; exact r.nil'
  | cons d t ih =>
    intro xs r h
    obtain ⟨x, xs', rfl, q, r⟩ := r.uncons
    unfold dKeys at h
    split at h
    . rename_i k0 ks e1 e2
      cases h
      rw [key_run q e1, ih r e2]; rfl
    . cases h
theorem tlook_run {k : KeyT} : ∀ {ks : List KeyT} {vs : List D} {xs : List V}, ks.length = xs.length -> Reps K W vs xs -> (∀ v, tlook ks vs k = some v -> ∃ y, valV (ks.zip xs) k = some y /\ Rep K W v y) /\ (tlook ks vs k = none -> valV (ks.zip xs) k = none)
  | [], vs, xs, _, _ => ⟨fun v h => by cases vs <;> simp [tlook] at h, fun _ => rfl⟩
  | q :: ks, [], xs, h, r => by rw [r.nil'] at h; simp at h
  | q :: ks, d :: vs, xs, h, r => by
    obtain ⟨x, t, rfl, q1, q2⟩ := r.uncons
    have ih := tlook_run (k := k) (ks := ks) (vs := vs) (xs := t) (by simpa using h) q2
    by_cases e : q = k
    . have hv : valV ((q :: ks).zip (x :: t)) k = some x := by rw [List.zip_cons_cons]; exact valV_pos (p := (q, x)) e
      rw [hv]
      exact ⟨fun v hl => by rw [tlook, if_pos e] at hl; cases hl; exact ⟨x, rfl, q1⟩, fun hl => by rw [tlook, if_pos e] at hl; cases hl⟩
    . have hv : valV ((q :: ks).zip (x :: t)) k = valV (ks.zip t) k := by rw [List.zip_cons_cons]; exact valV_neg (p := (q, x)) e
      rw [hv, tlook, if_neg e]
      exact ih
theorem tlook_mem {k : KeyT} : ∀ {ks : List KeyT} {vs : List D}, ks.length = vs.length -> (tlook ks vs k).isSome = decide (k ∈ ks)
  | [], vs, _ => by simp [tlook]
  | q :: ks, [], h => by simp at h
  | q :: ks, d :: vs, h => by
    have ih := tlook_mem (k := k) (ks := ks) (vs := vs) (by simpa using h)
    by_cases e : q = k
    . simp [tlook, e]
    . have e' : ¬ k = q := fun z => e z.symm
      simp [tlook, e, e', ih]
theorem tin_run {k : KeyT} {ks : List KeyT} {vs : List D} {xs : List V} (h : ks.length = xs.length) (r : Reps K W vs xs) : (valV (ks.zip xs) k).isSome = decide (k ∈ ks) := by
  have hl : ks.length = vs.length := by rw [h, r.length]
  rw [<- tlook_mem hl]
  obtain ⟨a, b⟩ := tlook_run (k := k) h r
  cases e : tlook ks vs k with
  | none => rw [b e]; rfl
  | some v => obtain ⟨y, ey, _⟩ := a v e; rw [ey]; rfl
theorem tzip_any {k : KeyT} : ∀ {ks : List KeyT} {xs : List V}, ks.length = xs.length -> ((ks.zip xs).any fun kv => decide (kv.1 = k)) = decide (k ∈ ks)
  | [], _, _ => by simp
  | q :: ks, [], h => by simp at h
  | q :: ks, x :: xs, h => by
    have ih := tzip_any (k := k) (ks := ks) (xs := xs) (by simpa using h)
    rw [List.zip_cons_cons, List.any_cons, ih]
    by_cases e : q = k
    . simp [e]
    . have e' : ¬ k = q := fun z => e z.symm
      simp [e, e']
theorem tput_run {k : KeyT} {y : V} {v : D} {ks : List KeyT} {vs : List D} {xs : List V} (h : ks.length = xs.length) (r : Reps K W vs xs) (q : Rep K W v y) : ∃ xs', putK (ks.zip xs) k y = (tputN ks k).zip xs' /\ (tputN ks k).length = xs'.length /\ Reps K W (tputV ks vs k v) xs' := by
  unfold putK tputN tputV
  rw [tzip_any h]
  by_cases m : k ∈ ks
  . rw [if_pos (decide_eq_true m), if_pos m, if_pos m]
    clear m
    induction ks generalizing vs xs with
    | nil => exact ⟨[], rfl, rfl, by simp [Reps.nil]⟩
    | cons a ks ih =>
      cases xs with
      | nil => simp at h
      | cons x xs =>
        cases vs with
        | nil => rw [r.nil'] at h; simp at h
        | cons d vs =>
          obtain ⟨x', t, e, q1, q2⟩ := r.uncons
          cases e
          obtain ⟨xs', e1, e2, e3⟩ := ih (by simpa using h) q2
          refine ⟨(if a = k then y else x) :: xs', ?_, by simp [e2], ?_⟩
          . rw [List.zip_cons_cons, List.map_cons, e1]
            by_cases e : a = k
            . simp [e]
            . simp [e]
          . rw [List.zipWith_cons_cons]
            refine .cons ?_ e3
            by_cases e : a = k
            . simp only [if_pos e]; exact q
            . simp only [if_neg e]; exact q1
  . rw [if_neg (by simpa using m), if_neg m, if_neg m]
    refine ⟨xs ++ [y], ?_, by simp [h], r.append (.cons q .nil)⟩
    rw [List.zip_append h]; rfl
theorem dttR_run {μ : Mu} {H : Hp} {d : D} {x : V} {R : List KeyT -> List D -> Prop} (r : Rel K fl W μ H) (q : Rep K W d x) (h : dttR μ d R) : ∃ a ks vs xs, x = .ref a /\ H a = some (.dT (ks.zip xs)) /\ ks.length = xs.length /\ Reps K W vs xs /\ R ks vs := by
  unfold dttR at h
  split at h
  . rename_i k
    obtain ⟨a, rfl, hb⟩ := q.cell'
    unfold dttC at h
    split at h
    . rename_i ks vs hk
      obtain ⟨a', e1, e2, xs, e3, l, z⟩ := r.cel k _ hk
      rw [hb] at e1; cases e1
      exact ⟨a, ks, vs, xs, rfl, e3, l, z, h⟩
    . exact h.elim
  . unfold Rep at q
    obtain ⟨a, xs, rfl, e, l, z⟩ := q
    exact ⟨a, _, _, xs, rfl, r.sub _ _ e, l, z, h⟩
  . exact h.elim
theorem lay_key {μ : Mu} {H : Hp} {p : Addr} {xs : List V} {ds : List D} {k : KeyT} (r : Rel K fl W μ H) (q : Reps K W ds xs) (hp : H p = none) (hk : dKeys ds = some k) : ∃ W', W.le W' /\ Rel K fl W' μ (upd H p (.tup xs)) /\ (upd H p (.tup xs)) p = some (.tup (k.map kV)) := by
  obtain ⟨r2, le2⟩ := r.newF (o := .tup xs) hp
  exact ⟨_, le2, r2, by rw [upd_same, keys_run q hk]⟩
instance {ta : TE} {t : TA} {wa : DE} {w : DA} [a : SimE K fl ta wa] [b : SimA K fl t w] : SimE K fl (tDGet ta (tTup t)) (dTGet wa w) := ⟨fun {W ρ μ σ H Q Q'} r e h k => a.run r e h fun W1 d μ1 x H1 le1 r1 q1 h1 => b.run r1 (e.mono le1) h1 fun W2 ds μ2 ys H2 le2 r2 q2 h2 => by
  obtain ⟨hz, h3⟩ := h2
  refine ⟨by rw [q2.length]; exact Nat.le_trans hz (by decide), fun p hp => ?_⟩
  obtain ⟨c, ks, vs, xs, rfl, ea, l, z, h3⟩ := dttR_run r2 (q1.mono le2) h3
  obtain ⟨kk, ek, h3⟩ := optK_run h3
  obtain ⟨v, ev, h3⟩ := optK_run h3
  obtain ⟨y', ey, qy⟩ := (tlook_run (k := kk) l z).1 v ev
  obtain ⟨W3, le3, r3, ep⟩ := lay_key r2 q2 hp ek
  refine ⟨c, y', rfl, ?_, k W3 v μ2 y' _ (le1.trans (le2.trans le3)) r3 (qy.mono le3) h3⟩
  rw [<- ey]
  exact DGet.t (by rw [upd_ne (ne_of_none ea hp)]; exact ea) ep⟩
theorem tin_sim {neg : Bool} {ta : TE} {t : TA} {wa : DE} {w : DA} (a : SimE K fl ta wa) (b : SimA K fl t w) {W ρ μ σ H Q} {Q' : VK} (r : Rel K fl W μ H) (e : EnvR K W ρ σ) (h : dTIn neg w wa ρ μ Q) (k : KV' K fl W Q Q') :
    tTup t σ H fun y H1 => ta σ H1 fun x H2 => ∃ a o, x = .ref a /\ DGet H2 a y o /\ Q' (.bl (neg ^^ o.isSome)) H2 := b.run r e h fun W1 ds μ1 ys H1 le1 r1 q1 h1 => by
  obtain ⟨hz, h2⟩ := h1
  refine ⟨by rw [q1.length]; exact Nat.le_trans hz (by decide), fun p hp => ?_⟩
  obtain ⟨r1', le1'⟩ := r1.newF (o := .tup ys) hp
  refine a.run r1' (e.mono (le1.trans le1')) h2 fun W2 d μ2 x H2 le2 r2 q2 h3 => ?_
  obtain ⟨c, ks, vs, xs, rfl, ea, l, z, h3⟩ := dttR_run r2 q2 h3
  obtain ⟨kk, ek, h3⟩ := optK_run h3
  have ep : H2 p = some (.tup (kk.map kV)) := by
    rw [r2.sub _ _ (le2.F _ _ (show upd W1.F p (.tup ys) p = some (.tup ys) from upd_same)), keys_run q1 ek]
  refine ⟨c, _, rfl, DGet.t ea ep, ?_⟩
  rw [tin_run l z]
  exact k W2 _ μ2 _ H2 (le1.trans (le1'.trans le2)) r2 .b h3
instance {ta : TE} {t : TA} {wa : DE} {w : DA} [a : SimE K fl ta wa] [b : SimA K fl t w] : SimE K fl (tOp rDNotIn (tTup t) ta) (dTIn true w wa) := ⟨fun {W ρ μ σ H Q Q'} r e h k => by
  have g := tin_sim a b r e h k
  simp only [Bool.true_xor] at g
  exact g⟩
end
end L2
namespace L2
open PySem PySem.Spec PyProof.Rows
def dTLoop (c : Nat) (g : DG) (wc : DT) (w : DA) (wv : DE) (ρb : DEnv) (Pm : Mu -> Prop) (Fin : Mu -> Prop) : List D -> Mu -> Prop
  | [], μ => Pm μ /\ Fin μ
  | d :: r, μ => Pm μ /\ g d ρb μ fun ρ2 μ2 => wc ρ2 μ2 fun b μ3 => if b = true then w ρ2 μ3 fun es μ4 => es.length <= 1000 /\ wv ρ2 μ4 fun v μ5 => dttC (μ5 c) fun ks vs => optK (dKeys es) fun kk => ks.length <= 1000 /\ dTLoop c g wc w wv ρb Pm Fin r (mset μ5 c (.dtt (tputN ks kk) (tputV ks vs kk v))) else dTLoop c g wc w wv ρb Pm Fin r μ3
def dTComp (own : List Str) (fr : List Nat) (S : List Nat) (wi : DI) (g : DG) (wc : DT) (w : DA) (wv : DE) : DE := fun ρ μ Q => (S.all fun i => decide (i < own.length)) = true /\ wi ρ μ fun ds Pm μ1 => ∀ c, μ1 c = none ->
  dTLoop c g wc w wv (List.replicate own.length none ++ takeD ρ fr) Pm (fun μ2 => Q (.cell c) μ2) ds (mset μ1 c (.dtt [] []))
section
variable {K : PySem.W.Frag} {fl : Wd} {t : TA} {tv : TE} {w : DA} {wv : DE} {tc : TT} {wc : DT} {wi : TI} {di : DI} {g : TG} {dg : DG} {S : List Nat}
instance {own : List Str} {fr : List Nat} [a : SimI K fl wi di] [b : SimG K fl g dg S] [c : SimT K fl tc wc] [v1 : SimA K fl t w] [v2 : SimE K fl tv wv] : SimE K fl (tDComp (.dT []) own fr wi g tc (tTup t) tv) (dTComp own fr S di dg wc w wv) := ⟨fun {W ρ μ σ H Q Q'} r e h k =>
  a.run r e h.2 fun W0 J ds Pm μ1 H1 le0 r0 it0 h1 D hD => by
    have hz : (1001 : Nat) <= sizeLine := by decide
    obtain ⟨cc, W1, hcc, le01, r1, eb⟩ := r0.newC (o := .dT []) (c := .dtt [] []) hD ⟨[], rfl, rfl, .nil⟩
    have le1 := le0.trans le01
    have e1 : EnvR K W1 ρ σ := e.mono le1
    have hS := h.1
    refine ⟨fun i m H => ∃ W2 μ2, W1.le W2 /\ Rel K fl W2 μ2 H /\ m = ds.length - i /\ dTLoop cc dg wc w wv (List.replicate own.length none ++ takeD ρ fr) Pm (fun μ2 => Q (.cell cc) μ2) (ds.drop i) μ2, ⟨_, W1, _, .refl _, r1, rfl, h1 cc hcc⟩, ?_⟩
    rintro i m H2 ⟨W2, μ2, le2, r2, rfl, h2⟩
    have hPm : Pm μ2 := by
      cases hdr : ds.drop i with
      | nil => rw [hdr] at h2; exact h2.1
      | cons _ _ => rw [hdr] at h2; exact h2.1
    obtain ⟨go, stop⟩ := it0 W2 μ2 H2 (le01.trans le2) r2 hPm i
    by_cases hi : i < ds.length
    . refine .inr ?_
      have hd : ds[i]? = some ds[i] := List.getElem?_eq_getElem hi
      obtain ⟨g1, g2⟩ := go _ hd
      rw [List.drop_eq_getElem_cons hi] at h2
      obtain ⟨_, h2⟩ := h2
      refine ⟨g1, fun H' => ∃ W3 μ3, W1.le W3 /\ Rel K fl W3 μ3 H' /\ dTLoop cc dg wc w wv (List.replicate own.length none ++ takeD ρ fr) Pm (fun μ2 => Q (.cell cc) μ2) (ds.drop (i + 1)) μ3, fun H' ⟨W3, μ3, l3, r3, h3⟩ => ⟨ds.length - (i + 1), by omega, W3, μ3, l3, r3, rfl, h3⟩, fun x H' y => ?_⟩
      obtain ⟨W3, le3, r3, q3⟩ := g2 x H' y
      refine b.run r3 (((e1.comp own fr).mono le2).mono le3) q3 h2 fun W4 ρ4 μ4 σ4 H4 le4 r4 e4 l4 s4 h4 => ⟨⟨l4.symm, fun j v hj => ?_⟩, ?_⟩
      . by_cases hjS : j ∈ S
        . have : j < own.length := of_decide_eq_true (List.all_eq_true.mp hS j hjS)
          rw [List.getElem?_append_left (by simp; exact this), List.getElem?_map, List.getElem?_eq_getElem this] at hj
          cases hj
        . rw [s4 j hjS]; exact hj
      . refine c.run r4 e4 h4 fun W5 bb μ5 H5 le5 r5 h5 => ?_
        cases bb with
        | true =>
          refine v1.run r5 (e4.mono le5) h5 fun W6 es μ6 ys H6 le6 r6 q6 h6 => ?_
          obtain ⟨hzs, h6⟩ := h6
          refine ⟨by rw [q6.length]; exact Nat.le_trans hzs (by decide), fun p hp => ?_⟩
          obtain ⟨r6', le6'⟩ := r6.newF (o := .tup ys) hp
          refine v2.run r6' (e4.mono (le5.trans (le6.trans le6'))) h6 fun W7 d7 μ7 x7 H7 le7 r7 q7 h7 => ?_
          have leAll := le2.trans (le3.trans (le4.trans (le5.trans (le6.trans (le6'.trans le7)))))
          have hb7 : W7.b cc = some D := leAll.b _ _ eb
          unfold dttC at h7
          split at h7
          . rename_i ks vs hk
            obtain ⟨a', f1, f2, xs, f3, l, z⟩ := r7.cel cc _ hk
            rw [hb7] at f1; cases f1
            obtain ⟨kk, ek, hl, h8⟩ := optK_run h7
            have ep : H7 p = some (.tup (kk.map kV)) := by
              rw [r7.sub _ _ (le7.F _ _ (show upd W6.F p (.tup ys) p = some (.tup ys) from upd_same)), keys_run q6 ek]
            obtain ⟨xs', p1, p2, p3⟩ := tput_run (k := kk) l z q7
            refine ⟨_, DPut.t f3 ep (by rw [List.length_zip, <- l, Nat.min_self]; omega), ?_⟩
            rw [p1]
            exact ⟨W7, _, leAll, r7.setC (c' := .dtt (tputN ks kk) (tputV ks vs kk d7)) hk hb7 ⟨xs', rfl, p2, p3⟩, h8⟩
          . exact h7.elim
        | false => exact ⟨W5, μ5, le2.trans (le3.trans (le4.trans le5)), r5, h5⟩
    . rw [List.drop_eq_nil_of_le (by omega)] at h2
      exact .inl ⟨stop (by omega), k W2 (.cell cc) μ2 _ H2 (le1.trans le2) r2 (by unfold Rep; exact ⟨D, rfl, le2.b _ _ eb⟩) h2.2⟩⟩
end
end L2

namespace L2
open PySem PySem.Spec PyProof.Rows
section
variable {prog : Program} {w : World} {A : Around} {R : Result -> Shared -> Prop} {I : Addr} {fp wr : List Addr} {n : Nat} {P : Nat -> Value -> Prop} {St : Nat -> Heap -> Prop} {h0 : Heap}
end
section
variable {prog : Program} {w : World} {A : Around} {E : Value -> Shared -> Prop} {s : Shared}
end
end L2

namespace L2
open PySem PySem.Spec PyProof.Rows
section
variable {X : Cx} (K : PySem.W.Frag)
end
end L2

namespace L2
open PySem PySem.Spec PyProof.Rows
end L2

namespace L2
open PySem PySem.Spec PyProof.Rows
theorem ObjOk.there {P : Program} {w : World} {H : Hp} {h : Heap} {a : Addr} {o : HO} (x : ObjOk P w H h a o) : ∃ u, h.get? a = some u := by
  cases o with
  | lst xs => obtain ⟨_, _, _, _, e⟩ := x; exact ⟨_, e⟩
  | tup xs => obtain ⟨_, _, _, o, e, _⟩ := x; exact ⟨_, e⟩
  | dK kvs => obtain ⟨_, _, _, _, o, _, _, e, _⟩ := x; exact ⟨_, e⟩
  | dT kvs => obtain ⟨_, _, _, _, o, _, _, e, _⟩ := x; exact ⟨_, e⟩
  | set S n => obtain ⟨o, _, _, _, e, _⟩ := x; exact ⟨_, e⟩
  | ins C dx fs => obtain ⟨_, _, _, e, _⟩ := x; exact ⟨_, e⟩
  | own y => obtain ⟨_, e⟩ := x; exact ⟨_, e⟩
  | xd fs => obtain ⟨_, ⟨_, _, _, e, _⟩, _⟩ := x; exact ⟨_, e⟩
  | rng lo hi => obtain ⟨_, _, _, e⟩ := x; exact ⟨_, e⟩
  | frz ob u => obtain ⟨e, _⟩ := x; exact ⟨_, e⟩
  | tbl ps => exact ⟨_, (show h.get? a = some _ from x)⟩
  | met f y => exact ⟨_, (show h.get? a = some _ from x)⟩
  | ext φ => obtain ⟨_, ⟨_, e⟩, _⟩ := x; exact ⟨_, e⟩
theorem HOk.keptT {P : Program} {w : World} {H : Hp} {h h' : Heap} (x : HOk P w H h) (k : ∀ b u, H b ≠ none -> h.get? b = some u -> h'.get? b = some u) : HOk P w H h' := fun a o e =>
  (x a o e).stay (fun b u hb q => k b u (hb.elim (fun z => by rw [z, e]; simp) fun z => by rw [z]; simp) q) (fun _ q => q) fun _ _ q => q
theorem note_run {M : Model} {A : Around} {E : Value -> Shared -> Prop} {s : Shared} {base : Heap} {env : Env} {outer : List Env} {L e : Addr} {oe : Obj} {vs : Array Value} {hd : Value} {Q : Unit -> Shared -> Prop}
    (hfr : A.frames = some (env :: outer)) (hL : env.frame = some L) (ff : s.heap.FunFrames base (env :: outer)) (he : s.heap.get? e = some oe) (hv : oe.data = .fields vs) (h1 : vs[1]? = some hd)
    (hhd : hd = .none \/ ∃ T oT ts f3, hd = .ref T /\ T ≠ e /\ s.heap.get? T = some oT /\ oT.data = .fields ts /\ ts[3]? = some f3 /\ (f3 == rawInt L) = false)
    (k : ∀ (h' : Heap) (tb : Addr), h'.get? e = some (Obj.mapFields (fun x => x.setIfInBounds 1 (.ref tb)) oe) -> tb ≠ e -> (∃ ts, h'.get? tb = some { cls := .type "traceback", data := .fields ts } /\ ts[3]? = some (rawInt L)) -> s.heap.get? tb = none ->
      (∀ b o, b ∉ frs (env :: outer) -> b ≠ e -> hd ≠ .ref b -> s.heap.get? b = some o -> h'.get? b = some o) -> (∀ b o, b ∈ frs (env :: outer) -> s.heap.get? b = some o -> ∃ sl, h'.get? b = some { o with slots := sl }) -> Q () { s with heap := h' }) :
    wpAny M A (noteFrame (.ref e) env) Q E s := by
  have nfe : e ∉ frs (env :: outer) := fun z => by
    obtain ⟨_, o, ho, nf⟩ := ff.mem (b := e) z
    rw [he] at ho; cases ho
    exact nf vs hv
  have main : ∀ (g : Heap), g.objs.size = s.heap.objs.size -> g.FunFrames base (env :: outer) -> g.get? e = some oe -> (∀ b o, b ≠ e -> hd ≠ .ref b -> s.heap.get? b = some o -> g.get? b = some o) ->
      (∀ b o, b ∈ frs (env :: outer) -> s.heap.get? b = some o -> g.get? b = some o) -> (∀ b, s.heap.get? b = none -> g.get? b = none) ->
      ∀ hn, wpAny M A (do
        let a <- PySem.frameOf env
        let pl <- entryPlaceOf L hn
        let b <- EntryCells.newEntry hd a Value.none (rawInt L) Value.none pl
        setField (.ref e) 1 b) Q E { s with heap := g } := fun g sz fg eg kg kf ng hn => by
    refine wpAny_bind (wpAny_frameOf_fun hfr fg hL fun h2 so => ?_)
    refine wpAny_bind (wpAny_entryPlaceOf fun pl hp => ?_)
    unfold EntryCells.newEntry newFields
    obtain ⟨so1, so2, so3⟩ := so
    have e2 : h2.get? e = some oe := by rw [so2 e nfe]; exact eg
    have hsz0 : sizeOk (Data.fields ([hd, Value.ref L, Value.none, rawInt L, Value.none] ++ if pl.isEmpty = true then List.replicate 6 Value.none else pl).toArray) := by
      rcases hp with rfl | ⟨_, _, _, _, _, _, _, rfl⟩
      . show 11 <= sizeLine + 2; decide
      . show 11 <= sizeLine + 2; decide
    refine wpAny_bind (wpAny_newObj_type ?_ hsz0)
    have hvs : 1 < vs.size := by
      rcases Nat.lt_or_ge 1 vs.size with z | z
      . exact z
      . rw [Array.getElem?_eq_none z] at h1; cases h1
    have htb : h2.objs.size = s.heap.objs.size := so1.trans sz
    have hne : h2.objs.size ≠ e := fun z => absurd (Heap.lt_size e2) (by rw [z]; exact Nat.lt_irrefl _)
    refine wpAny_setField (Heap.get?_push_of_some _ e2) hv hvs ?_
    refine k _ h2.objs.size ?_ hne ⟨([hd, Value.ref L, Value.none, rawInt L, Value.none] ++ if pl.isEmpty = true then List.replicate 6 Value.none else pl).toArray, ?_, ?_⟩ (Heap.get?_none_of_le (Nat.le_of_eq htb.symm)) (fun b o hb h1 h2' q => ?_) (fun b o hb q => ?_)
    . exact Heap.get?_update_self _ (Heap.get?_push_of_some _ e2) (by
        obtain ⟨c, d, dt, sl⟩ := oe
        have hv' : dt = .fields vs := hv
        subst hv'
        rfl)
    . rw [Heap.get?_update_other _ _ (Ne.symm hne)]
      exact Heap.get?_push_size _ rfl
    . rfl
    . rw [Heap.get?_update_other _ _ (Ne.symm h1)]
      exact Heap.get?_push_of_some _ (by rw [so2 b hb]; exact kg b o h1 h2' q)
    . have hbe : b ≠ e := fun z => nfe (z ▸ hb)
      obtain ⟨sl, q2⟩ := so3 b o (kf b o hb q)
      exact ⟨sl, by rw [Heap.get?_update_other _ _ (Ne.symm hbe)]; exact Heap.get?_push_of_some _ q2⟩
  unfold noteFrame
  rw [hL]
  refine wpAny_bind (wpAny_field he hv h1 ?_)
  rcases hhd with rfl | ⟨T, oT, ts, f3, rfl, hTe, hT, hTd, h3, hf3⟩
  . exact main s.heap rfl ff he (fun b o _ _ q => q) (fun b o _ q => q) (fun b q => q) _
  . refine (show wpAny M A (do
        let h3 <- field (.ref T) 3
        if (h3 == rawInt L) = true then pure () else do
          let _ <- setField (.ref T) 3 .none
          (do
            let a <- PySem.frameOf env
            let pl <- entryPlaceOf L true
            let b <- EntryCells.newEntry (.ref T) a Value.none (rawInt L) Value.none pl
            setField (.ref e) 1 b)) Q E s from ?_)
    refine wpAny_bind (wpAny_field hT hTd h3 ?_)
    rw [if_neg (by rw [hf3]; decide)]
    have hsz : 3 < ts.size := by
      rcases Nat.lt_or_ge 3 ts.size with z | z
      . exact z
      . rw [Array.getElem?_eq_none z] at h3; cases h3
    have nfT : T ∉ frs (env :: outer) := fun z => by
      obtain ⟨_, o, ho, nf⟩ := ff.mem (b := T) z
      rw [hT] at ho; cases ho
      exact nf ts hTd
    refine wpAny_bind (wpAny_setField hT hTd hsz ?_)
    refine main _ (Heap.size_update _ _ _) ?_ (by rw [Heap.get?_update_other _ _ hTe]; exact he) (fun b o _ hb q => ?_) (fun b o hb q => ?_) (fun b q => ?_) _
    . refine ff.of_keeps fun b o q nf => ⟨o, ?_, rfl⟩
      refine Heap.get?_update_of_ne _ (fun z => ?_) q
      subst z; rw [hT] at q; cases q; exact nf ts hTd
    . exact Heap.get?_update_of_ne _ (fun z => hb (by rw [z])) q
    . exact Heap.get?_update_of_ne _ (fun z => nfT (z ▸ hb)) q
    . rw [Heap.get?_update_other _ _ (fun z => by subst z; rw [hT] at q; cases q)]; exact q
def Fly (g : Heap) (H : Hp) (h : Heap) (e C : Addr) (dx : Option Addr) (f3 : Value) : Prop :=
  ∃ oe vs T oT ts, h.get? e = some oe /\ oe.cls = .ref C /\ oe.dict = dx /\ oe.data = .fields vs /\ vs[1]? = some (.ref T) /\ T ≠ e /\ h.get? T = some oT /\ oT.data = .fields ts /\ ts[3]? = some f3 /\ H e = none /\ H T = none /\ g.get? e = none /\ g.get? T = none
def Made (g : Heap) (H : Hp) (h : Heap) (e C : Addr) (dx : Option Addr) : Prop :=
  ∃ oe vs, h.get? e = some oe /\ oe.cls = .ref C /\ oe.dict = dx /\ oe.data = .fields vs /\ vs[1]? = some .none /\ H e = none /\ g.get? e = none
structure Stays (g : Heap) (H : Hp) (fs : List Addr) (h h' : Heap) : Prop where
  keep : ∀ b o, h.get? b = some o -> b ∉ fs -> (H b ≠ none \/ g.get? b ≠ none) -> h'.get? b = some o
  slot : ∀ b o, h.get? b = some o -> b ∈ fs -> ∃ sl, h'.get? b = some { o with slots := sl }
theorem Stays.trans {g : Heap} {H : Hp} {fs : List Addr} {h h1 h2 : Heap} (a : Stays g H fs h h1) (b : Stays g H fs h1 h2) : Stays g H fs h h2 := ⟨fun c o e n t => b.keep c o (a.keep c o e n t) n t, fun c o e n => by
  obtain ⟨sl, e1⟩ := a.slot c o e n
  obtain ⟨sl2, e2⟩ := b.slot c _ e1 n
  exact ⟨sl2, e2⟩⟩
theorem Stays.hok {P : Program} {w : World} {g : Heap} {H : Hp} {fs : List Addr} {h h' : Heap} (k : Stays g H fs h h') (hf : ∀ b ∈ fs, H b = none) (x : HOk P w H h) : HOk P w H h' :=
  x.keptT fun b u hb q => k.keep b u q (fun z => hb (hf b z)) (.inl hb)
theorem mapF {f : Array Value -> Array Value} {o : Obj} {vs : Array Value} (h : o.data = .fields vs) : (Obj.mapFields f o).cls = o.cls /\ (Obj.mapFields f o).dict = o.dict /\ (Obj.mapFields f o).data = .fields (f vs) /\ (Obj.mapFields f o).isFreed = false := by
  obtain ⟨c, d, dt, sl⟩ := o
  have h' : dt = .fields vs := h
  subst h'
  exact ⟨rfl, rfl, rfl, rfl⟩
theorem set_at {vs : Array Value} {i : Nat} {x y : Value} (h : vs[i]? = some y) : (vs.setIfInBounds i x)[i]? = some x := by
  have hi : i < vs.size := by
    rcases Nat.lt_or_ge i vs.size with z | z
    . exact z
    . rw [Array.getElem?_eq_none z] at h; cases h
  rw [Array.getElem?_setIfInBounds_self_of_lt hi]
section
variable {P : Program} {w : World} {M : Model} {A : Around} {E : Value -> Shared -> Prop} {s : Shared} {base g : Heap} {env : Env} {outer : List Env} {L e C : Addr} {dx : Option Addr} {H : Hp} {f3 : Value}
theorem note_fly {oe : Obj} {vs : Array Value} {hd : Value} {Q : Unit -> Shared -> Prop} (hfr : A.frames = some (env :: outer)) (hL : env.frame = some L) (ff : s.heap.FunFrames base (env :: outer)) (hok : HOk P w H s.heap) (hg : ∀ b, s.heap.get? b = none -> g.get? b = none)
    (he : s.heap.get? e = some oe) (hc : oe.cls = .ref C) (hd' : oe.dict = dx) (hv : oe.data = .fields vs) (h1 : vs[1]? = some hd) (hHe : H e = none) (hge : g.get? e = none)
    (hhd : hd = .none \/ ∃ T oT ts f3, hd = .ref T /\ T ≠ e /\ s.heap.get? T = some oT /\ oT.data = .fields ts /\ ts[3]? = some f3 /\ (f3 == rawInt L) = false /\ H T = none /\ g.get? T = none)
    (k : ∀ h', Fly g H h' e C dx (rawInt L) -> Stays g H (frs (env :: outer)) s.heap h' -> Q () { s with heap := h' }) : wpAny M A (noteFrame (.ref e) env) Q E s := by
  refine note_run hfr hL ff he hv h1 (hhd.imp_right fun ⟨T, oT, ts, f3, a, b, c, d, f, f', _, _⟩ => ⟨T, oT, ts, f3, a, b, c, d, f, f'⟩) fun h' tb e1 ne ⟨ts', t1, t2⟩ tn kp sl => ?_
  obtain ⟨m1, m2, m3, _⟩ := mapF (f := fun x => x.setIfInBounds 1 (.ref tb)) hv
  have hT : H tb = none := by
    cases r : H tb with
    | none => rfl
    | some o => obtain ⟨u, hu⟩ := (hok tb o r).there; rw [tn] at hu; cases hu
  refine k h' ⟨_, _, tb, _, ts', e1, m1.trans hc, m2.trans hd', m3, set_at h1, ne, t1, rfl, t2, hHe, hT, hge, hg tb tn⟩ ⟨fun b o q hb hn => kp b o hb (fun z => ?_) (fun z => ?_) q, fun b o q hb => sl b o hb q⟩
  . subst z
    rcases hn with n | n
    . exact n hHe
    . exact n hge
  . rcases hhd with h0 | ⟨T, oT, ts, f3, h0, _, _, _, _, _, n1, n2⟩
    . rw [h0] at z; cases z
    . rw [h0] at z; cases z
      rcases hn with n | n
      . exact n n1
      . exact n n2
theorem fly_note {Q : Unit -> Shared -> Prop} (hfr : A.frames = some (env :: outer)) (hL : env.frame = some L) (ff : s.heap.FunFrames base (env :: outer)) (hok : HOk P w H s.heap) (hg : ∀ b, s.heap.get? b = none -> g.get? b = none) (F : Fly g H s.heap e C dx .none)
    (k : ∀ h', Fly g H h' e C dx (rawInt L) -> Stays g H (frs (env :: outer)) s.heap h' -> Q () { s with heap := h' }) : wpAny M A (noteFrame (.ref e) env) Q E s := by
  obtain ⟨oe, vs, T, oT, ts, h1, h2, h3, h4, h5, h6, h7, h8, h9, h10, h11, h12, h13⟩ := F
  exact note_fly (P := P) (w := w) hfr hL ff hok hg h1 h2 h3 h4 h5 h10 h12 (.inr ⟨T, oT, ts, _, rfl, h6, h7, h8, h9, rfl, h11, h13⟩) k
theorem fly_set {Q : Unit -> Shared -> Prop} {l : List Env} (ff : s.heap.FunFrames base l) (F : Fly g H s.heap e C dx f3)
    (k : ∀ h', Fly g H h' e C dx .none -> Stays g H (frs l) s.heap h' -> (∀ b, s.heap.get? b = none -> h'.get? b = none) -> h'.FunFrames base l -> Q () { s with heap := h' }) : wpAny M A (setFlight (.ref e) none) Q E s := by
  obtain ⟨oe, vs, T, oT, ts, h1, h2, h3, h4, h5, h6, h7, h8, h9, h10, h11, h12, h13⟩ := F
  have hsz : 3 < ts.size := by
    rcases Nat.lt_or_ge 3 ts.size with z | z
    . exact z
    . rw [Array.getElem?_eq_none z] at h9; cases h9
  obtain ⟨m1, m2, m3, m4⟩ := mapF (f := fun x => x.setIfInBounds 3 .none) h8
  refine wpAny_setFlight_none h1 h4 h5 h7 h8 hsz (k _ ⟨oe, vs, T, _, _, ?_, h2, h3, h4, h5, h6, Heap.get?_update_self _ h7 m4, m3, set_at h9, h10, h11, h12, h13⟩ ⟨fun b o q hb hn => ?_, fun b o q hb => ?_⟩ (fun b q => ?_) ?_)
  . rw [Heap.get?_update_other _ _ h6]; exact h1
  . refine Heap.get?_update_of_ne _ (fun z => ?_) q
    subst z
    rcases hn with n | n
    . exact n h11
    . exact n h13
  . obtain ⟨_, o2, ho2, nf⟩ := ff.mem (b := b) hb
    refine ⟨o.slots, Heap.get?_update_of_ne _ (fun z => ?_) q⟩
    subst z; rw [h7] at ho2; cases ho2; exact nf ts h8
  . rw [Heap.get?_update_other _ _ (fun z => by subst z; rw [h7] at q; cases q)]; exact q
  . refine ff.of_keeps fun b o q nf => ⟨o, Heap.get?_update_of_ne _ (fun z => ?_) q, rfl⟩
    subst z; rw [h7] at q; cases q; exact nf ts h8
theorem Stays.ff {l : List Env} {h h' : Heap} (k : Stays g H (frs l) h h') (ff : h.FunFrames base l) : h'.FunFrames base l := by
  have all : ∀ l' : List Env, (∀ b ∈ frs l', b ∈ frs l) -> h.FunFrames base l' -> h'.FunFrames base l' := by
    intro l'
    induction l' with
    | nil => intro _ _; trivial
    | cons env r ih =>
      intro hs hl
      obtain ⟨hk, ⟨L, o, hf, hn, ho, hd⟩, hr⟩ := hl
      have hL : L ∈ frs l := hs L (by unfold frs; rw [List.filterMap_cons, hf]; exact List.mem_cons_self)
      obtain ⟨sl, e⟩ := k.slot L o ho hL
      exact ⟨hk, ⟨L, _, hf, hn, e, hd⟩, ih (fun b hb => hs b (by unfold frs; rw [List.filterMap_cons, hf]; exact List.mem_cons_of_mem _ hb)) hr⟩
  exact all l (fun _ h => h) ff
theorem made_leave {Q : Unit -> Shared -> Prop} (hfr : A.frames = some (env :: outer)) (hL : env.frame = some L) (ff : s.heap.FunFrames base (env :: outer)) (hok : HOk P w H s.heap) (hg : ∀ b, s.heap.get? b = none -> g.get? b = none) (F : Made g H s.heap e C dx)
    (k : ∀ h', Fly g H h' e C dx .none -> Stays g H (frs (env :: outer)) s.heap h' -> Q () { s with heap := h' }) : wpAny M A (leaving env (.ref e)) Q E s := by
  obtain ⟨oe, vs, h1, h2, h3, h4, h5, h6, h7⟩ := F
  unfold leaving
  refine wpAny_bind (note_fly (P := P) (w := w) hfr hL ff hok hg h1 h2 h3 h4 h5 h6 h7 (.inl rfl) fun h1 F1 S1 => ?_)
  exact fly_set (S1.ff ff) F1 fun h2 F2 S2 _ _ => k h2 F2 (S1.trans S2)
end
structure ExcC (K : W.Frag) (D : Addr) : Prop where
  ga : W.findIn K (.ref D) "__getattribute__" = some (some (.builtin "BaseException.__getattribute__"))
  gh : W.findIn K (.ref D) "__getattr__" = some none
  hb : W.mroIn K D (.type "BaseException") = some true
  ho : W.mroIn K D (.type "object") = some true
  fc : W.findIn K (.ref D) "__class__" = some (some (.builtin "object.__class__"))
  sp : W.specialIn K (.builtin "object.__class__") "__get__" = some (some (.builtin "getset_descriptor.__get__"))
  tk : W.takesIn K (.builtin "object.__class__") = some true
  hk : W.kitCls K (.ref D) (.ref D) = some true
end L2

namespace L2
open PySem PySem.Spec PyProof.Rows
def CX1 (P : Program) (w : World) : CXT := fun outer H s E e s' => ∃ a C dx H', e = .ref a /\ s'.os = s.os /\ AllBare s'.gens /\ Un (frs outer) [] H H' s.heap s'.heap /\ HOk P w H' s'.heap /\ Fly s.heap H' s'.heap a C dx .none /\ E (.ref C) dx H'
theorem Fly.old {g g' : Heap} {H : Hp} {h : Heap} {e C : Addr} {dx : Option Addr} {f3 : Value} (F : Fly g H h e C dx f3) (k : ∀ b, g.get? b = none -> g'.get? b = none) : Fly g' H h e C dx f3 := by
  obtain ⟨oe, vs, T, oT, ts, h1, h2, h3, h4, h5, h6, h7, h8, h9, h10, h11, h12, h13⟩ := F
  exact ⟨oe, vs, T, oT, ts, h1, h2, h3, h4, h5, h6, h7, h8, h9, h10, h11, k _ h12, k _ h13⟩
structure Fr0 (X : Cx) (pins : List (Addr × Obj)) (g : Heap) : Prop where
  loc : g.get? X.env.locals ≠ none
  cell : ∀ x c, X.env.cells.lookup x = some c -> g.get? c ≠ none
  pin : ∀ p ∈ X.pn ++ pins, g.get? p.1 ≠ none
  old : ∀ b o, X.s₀.heap.get? b = some o -> g.get? b ≠ none
section
variable {X : Cx} {pins : List (Addr × Obj)} {σ : St} {H : Hp} {s : Shared} {g h' : Heap}
theorem Inv.fr0 (I : Inv X pins σ H s) (hx : ∀ b ∈ X.ex, ∃ o, (b, o) ∈ X.pn) : Fr0 X pins s.heap where
  loc := by obtain ⟨m, ⟨o, es, ep, ho, _⟩, _⟩ := I.loc; rw [ho]; simp
  cell := fun x c e => by obtain ⟨v, o, ho, _⟩ := I.cell x c e; rw [ho]; simp
  pin := fun p hp => by rw [(I.pin p hp).1]; simp
  old := fun b o e => by
    by_cases hb : b ∈ X.ex
    . obtain ⟨o', ho⟩ := hx b hb
      rw [(I.pin (b, o') (List.mem_append_left _ ho)).1]; simp
    . obtain ⟨o', e'⟩ := I.base.there b o e hb; rw [e']; simp
theorem Fr0.none (F0 : Fr0 X pins g) : ∀ b, g.get? b = none -> X.s₀.heap.get? b = none := fun b q => by
  cases r : X.s₀.heap.get? b with
  | none => rfl
  | some o => exact absurd q (F0.old b o r)
theorem Inv.noted {t' : Nat} (I : Inv X pins σ H s) (F0 : Fr0 X pins g) (S : Stays g H (frs X.stack) s.heap h') : Inv X pins σ H { s with heap := h', toks := t' } := by
  have kp : ∀ b o, s.heap.get? b = some o -> b ∉ frs X.stack -> g.get? b ≠ none -> h'.get? b = some o := fun b o e n hg => S.keep b o e n (.inr hg)
  have sl : ∀ b o, s.heap.get? b = some o -> g.get? b ≠ none -> ∃ sl, h'.get? b = some { o with slots := sl } := fun b o e hg => by
    by_cases hb : b ∈ frs X.stack
    . exact S.slot b o e hb
    . exact ⟨o.slots, kp b o e hb hg⟩
  have cellK : ∀ x c, X.env.cells.lookup x = some c -> ∀ v, s.heap.IsCell c v -> h'.IsCell c v := fun x c e v ⟨o, ho, hd⟩ => by
    obtain ⟨sl, q⟩ := sl c o ho (F0.cell x c e)
    exact ⟨_, q, hd⟩
  have neL : ∀ b o, X.s₀.heap.get? b = some o -> b ≠ X.env.locals := fun b o e => Nat.ne_of_lt (Nat.lt_of_lt_of_le (Heap.lt_size e) I.ok.above)
  have nst : ∀ b, b ≠ X.env.locals -> b ∉ X.fs -> b ∉ frs X.stack := fun b h1 h2 z => (List.mem_cons.mp (I.stkSub b z)).elim h1 h2
  refine ⟨I.ok, I.os, I.bare, ⟨fun b o e n hb hx => kp b o (I.base.keep b o e n hb hx) (nst b (neL b o e) hb) (F0.old b o e), fun b o e n hb hx => ?_, I.base.free, fun b o e hx => ?_, I.base.tups, I.base.frzs, I.base.tbls⟩, ?_, fun x c e => ?_, I.free, I.freeC, fun p hp => ?_, S.hok I.stkFree I.hok, I.len⟩
  . obtain ⟨sl1, e1⟩ := I.base.slot b o e n hb hx
    obtain ⟨sl2, e2⟩ := sl b _ e1 (F0.old b o e)
    exact ⟨sl2, e2⟩
  . obtain ⟨o1, e1⟩ := I.base.there b o e hx
    obtain ⟨sl2, e2⟩ := sl b _ e1 (F0.old b o e)
    exact ⟨_, e2⟩
  . obtain ⟨m, ⟨o, es, ep, ho, r⟩, hl⟩ := I.loc
    obtain ⟨sl2, e2⟩ := sl _ o ho F0.loc
    refine ⟨m, ⟨_, es, ep, e2, r⟩, fun i x v e1 e2 e3 => ?_⟩
    obtain ⟨u, r, l⟩ := hl i x v e1 e2 e3
    refine ⟨u, r, ?_⟩
    rcases l with l | ⟨k, c, e, z⟩
    . exact .inl l
    . exact .inr ⟨k, c, e, cellK x c e _ z⟩
  . obtain ⟨v, z⟩ := I.cell x c e
    exact ⟨v, cellK x c e v z⟩
  . obtain ⟨e, n, ne, nf, d⟩ := I.pin p hp
    exact ⟨kp p.1 p.2 e (nst _ ne nf) (F0.pin p hp), n, ne, nf, d⟩
theorem Inv.track {a : Addr} {o : HO} (I : Inv X pins σ H s) (F0 : Fr0 X pins g) (hg : g.get? a = none) (hn : H a = none) (new : ObjOk X.prog X.w (upd H a o) s.heap a o) : Inv X pins σ (upd H a o) s := by
  have ne : ∀ b, g.get? b ≠ none -> b ≠ a := fun b h z => h (z ▸ hg)
  refine ⟨I.ok, I.os, I.bare, ⟨I.base.keep, I.base.slot, fun b o e n hx => by rw [upd_ne (ne b (F0.old b o e))]; exact I.base.free b o e n hx, I.base.there, fun b xs e => by rw [upd_ne (ne_of_none (I.base.tups b xs e) hn)]; exact I.base.tups b xs e, fun b o u e => by rw [upd_ne (ne_of_none (I.base.frzs b o u e) hn)]; exact I.base.frzs b o u e, fun b ps e => ?_⟩, I.loc, I.cell, ?_, fun x c e => ?_, fun p hp => ?_, fun b u e => ?_, I.len⟩
  . obtain ⟨m, e1⟩ := I.base.tbls b ps e
    exact ⟨m, by rw [upd_ne (ne_of_none e1 hn)]; exact e1⟩
  . rw [upd_ne (ne _ F0.loc)]; exact I.free
  . rw [upd_ne (ne _ (F0.cell x c e))]; exact I.freeC x c e
  . obtain ⟨e, n, q⟩ := I.pin p hp
    exact ⟨e, by rw [upd_ne (ne _ (F0.pin p hp))]; exact n, q⟩
  . by_cases hb : b = a
    . subst hb; rw [upd_same] at e; cases e; exact new
    . rw [upd_ne hb] at e
      exact (I.hok b u e).stay (fun c v _ q => q) (fun c q => by rw [upd_ne (ne_of_none q hn)]; exact q) fun c xs q => by rw [upd_ne (ne_of_none q hn)]; exact q
theorem Inv.unset {i : Nat} {x : Str} {v : Option Value} {m : Str -> Option Value} {t' : Nat} (I : Inv X pins σ H s) (hN : X.N.Nodup) (hi : X.N[i]? = some x) (hx : X.env.scope.names.lookup x = some .local)
    (hm : ∀ (i : Nat) (y : Str) (w : V), X.N[i]? = some y -> σ[i]? = some (some w) -> Vis X.env.scope y -> ∃ u, RelV w u /\ Look X.env s.heap m y u)
    (hn : h'.Ns X.env.locals fun y => if y = x then v else m y) (sb : Heap.SameBut X.env.locals s.heap h') : Inv X pins (σ.set i none) H { s with heap := h', toks := t' } := by
  have kp : ∀ b o, b ≠ X.env.locals -> s.heap.get? b = some o -> h'.get? b = some o := fun b o n e => (sb.2 b n).trans e
  have neL : ∀ b o, X.s₀.heap.get? b = some o -> b ≠ X.env.locals := fun b o e => Nat.ne_of_lt (Nat.lt_of_lt_of_le (Heap.lt_size e) I.ok.above)
  have cellK : ∀ x c, X.env.cells.lookup x = some c -> ∀ v, s.heap.IsCell c v -> h'.IsCell c v := fun x c e v ⟨o, ho, hd⟩ => ⟨o, kp c o (I.cne x c e) ho, hd⟩
  refine ⟨I.ok, I.os, I.bare, ⟨fun b o e n hb hx => kp b o (neL b o e) (I.base.keep b o e n hb hx), fun b o e n hb hx => ?_, I.base.free, fun b o e hx => ?_, I.base.tups, I.base.frzs, I.base.tbls⟩, ⟨_, hn, fun j y w e1 e2 e3 => ?_⟩, fun x c e => ?_, I.free, I.freeC, fun p hp => ?_, fun b u e => ?_, by simp [I.len]⟩
  . obtain ⟨sl1, e1⟩ := I.base.slot b o e n hb hx
    exact ⟨sl1, kp b _ (neL b o e) e1⟩
  . obtain ⟨o1, e1⟩ := I.base.there b o e hx
    exact ⟨o1, kp b _ (neL b o e) e1⟩
  . have hij : i ≠ j := fun z => by
      subst z
      by_cases hl : i < σ.length
      . rw [List.getElem?_set_self hl] at e2; cases e2
      . rw [List.getElem?_eq_none (by simp; omega)] at e2; cases e2
    rw [List.getElem?_set_ne hij] at e2
    obtain ⟨u, r, l⟩ := hm j y w e1 e2 e3
    refine ⟨u, r, ?_⟩
    have hyx : y ≠ x := fun z => by
      subst z
      obtain ⟨a1, b1⟩ := List.getElem?_eq_some_iff.mp hi
      obtain ⟨a2, b2⟩ := List.getElem?_eq_some_iff.mp e1
      exact hij ((List.getElem_inj hN).mp (b1.trans b2.symm))
    rcases l with ⟨k, l⟩ | ⟨k, c, e, z⟩
    . exact .inl ⟨k, by show (if y = x then v else m y) = _; rw [if_neg hyx]; exact l⟩
    . exact .inr ⟨k, c, e, cellK y c e _ z⟩
  . obtain ⟨v, z⟩ := I.cell x c e
    exact ⟨v, cellK x c e v z⟩
  . obtain ⟨e, n, ne, nf, d⟩ := I.pin p hp
    exact ⟨kp p.1 p.2 ne e, n, ne, nf, d⟩
  . refine (I.hok b u e).stay (fun c w hc q => kp c w (fun z => ?_) q) (fun _ q => q) fun _ _ q => q
    have hf := I.free
    rw [<- z] at hf
    rcases hc with rfl | hc
    . rw [hf] at e; cases e
    . rw [hf] at hc; cases hc
end
structure XOk (X : Cx) (E : St -> XK) : Prop where
  ex : ∀ b ∈ X.ex, ∃ o, (b, o) ∈ X.pn
  fly : ∀ {pins σ H s g e C dx}, Inv X pins σ H s -> Fr0 X pins g -> (∀ b, s.heap.get? b = none -> g.get? b = none) -> Fly g H s.heap e C dx .none -> E σ (.ref C) dx H -> X.xe (.ref e) s
structure XMk (X : Cx) (E : St -> XK) : Prop where
  ex : ∀ b ∈ X.ex, ∃ o, (b, o) ∈ X.pn
  made : ∀ {pins σ H s g e C dx}, Inv X pins σ H s -> Fr0 X pins g -> (∀ b, s.heap.get? b = none -> g.get? b = none) -> Made g H s.heap e C dx -> E σ (.ref C) dx H -> X.xe (.ref e) s
theorem XOk.pass {X : Cx} {E : St -> XK} (x : XOk X E) {pins σ H s e s'} (I : Inv X pins σ H s) (h : CX1 X.prog X.w X.stack H s (E σ) e s') : X.xe e s' := by
  obtain ⟨a, C, dx, H', rfl, os, bare, un, hok, fl, hE⟩ := h
  have I' := I.call' (ch := []) os un hok bare (fun b z => absurd z (by simp))
  exact x.fly I' (I.fr0 x.ex) (fun b q => by
    cases r : s.heap.get? b with
    | none => rfl
    | some o => obtain ⟨o', e⟩ := un.there b o r (by simp); rw [q] at e; cases e) fl hE
section
variable {P : Program} {w : World} {K : PySem.W.Frag} {mg : Str -> Option Value} {base : Heap} {N : List Str} {qual : Str} {scope : Scope} {f : Addr} {cd : Value} {A : Around} {outer : List Env} {s : Shared} {H : Hp} {E : XK} {cm : Bool}
theorem xmk_cx : XMk (cxOf (CX1 P w) P w K mg base N qual scope f cd A outer s H E cm) (fun _ => E) := ⟨(fun _ z => nomatch z), fun {pins σ H1 s1 g e C dx} I F0 hg F hE => by
  refine made_leave (P := P) (w := w) (outer := outer) I.ok.frames rfl I.stack I.hok hg F fun h' F' S => ?_
  have I1 := I.noted (t' := s1.toks) F0 S
  exact ⟨e, C, dx, H1, rfl, I1.os, I1.bare, I1.base, I1.hok, F'.old F0.none, hE⟩⟩
end
end L2

namespace L2
open PySem PySem.Spec PyProof.Rows
abbrev bmV : List Value := [.type "ValueError", .type "Exception", .type "BaseException", .type "object"]
abbrev newV : String := "ValueError.__new__"
section
variable {X : Cx} {E : St -> XK} {x : Str} {C : Addr} {np cpos pos : Pos} {a : Expr} {as : List Expr} {t : TA}
end
section
variable {X : Cx} {E : St -> XK} {k j : Nat} {f C : Addr} {fd : FuncData} {ps ks : List Str} {sp : Sp} {x c m : Str} {p pos apos : Pos} {e o : Expr} {es : List Expr} {kws : List Keyword} {ta : TE} {t tk : TA} {g : List Value -> List Value -> List Value} {gV : List V -> List V -> List V}
theorem run_fnkX {pins : List (Addr × Obj)} {σ : St} {H : Hp} {s : Shared} {Q : VK} {us ws : List Value} {vs zs : List V} (F : FnOk X.prog X.w X.K X.mg X.base (CX1 X.prog X.w) k f fd ps sp) (hr : Room k X.A) (hb : KBinds X.K fd ps ks g gV) (hx : XOk X E)
    (I : Inv X pins σ H s) (r : Vals vs us) (rz : Vals zs ws) (h : sp (gV vs zs) H Q (E σ)) : wpAny (model X.prog X.w) X.A (call (.ref f) us (ks.zip ws)) (EP X pins σ Q) X.xe s := by
  have r2 := hb.rel r rz
  have hl : (g us ws).length = ps.length := by rw [<- r2.length]; exact F.len _ _ _ _ h
  refine wpAny_call (codeAny_mono (F.run X.A X.stack s H ⟨us, ks.zip ws⟩ (g us ws) (gV vs zs) Q (E σ) hr I.env0 (hb.to s us ws I.kIn hl) r2 h) fun r s' hq => ?_)
  cases r with
  | error e => exact hx.pass I hq
  | ok fl =>
    cases fl with
    | ret u => exact I.after hq
    | next => exact False.elim hq
    | brk => exact False.elim hq
    | cont => exact False.elim hq
def tMethX (K : PySem.W.Frag) (c m : Str) (sp : Sp) (gV : List V -> List V -> List V) (E : St -> XK) (ta : TE) (t tk : TA) : TE := fun σ H Q => ta σ H fun x H1 => ∃ C a dx fs, clsOf K c = some C /\ x = .ref a /\ H1 a = some (.ins C dx fs) /\ fs.lookup m = none /\
  t σ H1 fun vs H2 => tk σ H2 fun zs H3 => sp (gV (x :: vs) zs) H3 Q (E σ)
theorem qe_methX {pl : Sem Bool} (K : PySem.W.Frag) (hh : HasMt X.prog X.w X.K X.mg X.base (CX1 X.prog X.w) c m j ps sp ks gV) (hr : Room k X.A) (hx : XOk X E) (he : WE X o ta) (ha : WA X (e :: es) t) (hkw : WK X kws tk) (hK : X.K = K := by rfl) (hj : j <= k := by decide)
    (hall : (backToKw pos (keywordEach kws X.env)).all (·.1.isSome) = true := by rfl) (hks : (backToKw pos (keywordEach kws X.env)).filterMap (·.1) = ks := by rfl)
    (hst : starEach (e :: es) X.env = (false, eval e X.env) :: starEach es X.env := by rfl)
    (hpl : ((backTo pos (starEach (e :: es) X.env)).any (·.1) || (backToKw pos (keywordEach kws X.env)).any (·.1.isNone)) = false := by rfl)
    (ht : eval (.Call (.Attribute o m apos) (e :: es) kws pos) X.env = (do
      let ov <- eval o X.env
      standAt apos.atName
      let (f, first) <- holding [ov] (getMethod ov m pl)
      callWith pos f first (backTo pos (starEach (e :: es) X.env)) (backToKw pos (keywordEach kws X.env))) := by rfl) :
    WE X (.Call (.Attribute o m apos) (e :: es) kws pos) (tMethX K c m sp gV E ta t tk) := ⟨by
  subst hK
  obtain ⟨C0, f, fd, g, hc0, hcl, hm, F, hb⟩ := hh.ex
  intro pins s σ H Q I h
  refine PySem.W.methodCall_KW (pl := pl) (thn (he.out pins s σ H _ I h) fun u s1 ⟨x, H1, I1, rx, C, a, dx, fs, hc, ex, ea, l, q⟩ => ?_) ht
  rw [hc0] at hc; cases hc
  subst ex
  obtain rfl : u = Value.ref a := rx
  refine getmeth_ok I1 ea hcl hm l ?_
  refine PySem.W.callWith_KW (first := [.ref a]) (h₀ := X.base) I.ok.mod.kin hm.kp hall (thn (ha.out pos pins s1 σ H1 _ I1 q) fun us s2 ⟨vs, H2, I2, r, q2⟩ => ?_) hpl hst
  refine thn (hkw.out pos pins s2 σ H2 _ I2 q2) fun ws s3 ⟨zs, H3, I3, rz, q3⟩ => ⟨I3.kIn, ?_⟩
  rw [hks]
  exact run_fnkX (us := .ref a :: us) (vs := .ref a :: vs) (F.mono hj) hr hb hx I3 (.cons rfl r) rz q3⟩
end
abbrev Cx.tr (X : Cx) (xe : Value -> Shared -> Prop) (pn : List (Addr × Obj)) : Cx := { X with xe := xe, pn := pn }
abbrev Cx.hand (X : Cx) (e : Addr) : Cx := { X with A := X.A.mark (some (.ref e)), calm := false, xe := fun _ _ => False }
section
variable {X : Cx} {pins pn : List (Addr × Obj)} {σ : St} {H : Hp} {s : Shared} {xe : Value -> Shared -> Prop} {e : Addr} {g : Heap}
theorem Cx.Ok.tr (ok : X.Ok) : (X.tr xe pn).Ok := ⟨ok.mod, ok.kind, ok.glob, ok.blt, ok.above, ok.inj, ok.has, ok.cab, ok.hd, ok.frames, ok.stk, ok.exf, ok.bs, ok.bsz, ok.noex, ok.exfs, ok.funs, ok.frf⟩
theorem Cx.Ok.untr (ok : (X.tr xe pn).Ok) : X.Ok := ⟨ok.mod, ok.kind, ok.glob, ok.blt, ok.above, ok.inj, ok.has, ok.cab, ok.hd, ok.frames, ok.stk, ok.exf, ok.bs, ok.bsz, ok.noex, ok.exfs, ok.funs, ok.frf⟩
theorem Inv.tr (I : Inv X pins σ H s) : Inv (X.tr xe (X.pn ++ pins)) [] σ H s := ⟨I.ok.tr, I.os, I.bare, I.base, I.loc, I.cell, I.free, I.freeC, fun p hp => I.pin p (by simpa using hp), I.hok, I.len⟩
theorem Inv.untr {pins' : List (Addr × Obj)} (I : Inv (X.tr xe (X.pn ++ pins)) pins' σ H s) : Inv X pins σ H s := ⟨I.ok.untr, I.os, I.bare, I.base, I.loc, I.cell, I.free, I.freeC, fun p hp => I.pin p (List.mem_append_left _ hp), I.hok, I.len⟩
theorem Fr0.untr {pins' : List (Addr × Obj)} (F : Fr0 (X.tr xe (X.pn ++ pins)) pins' g) : Fr0 X pins g := ⟨F.loc, F.cell, fun p hp => F.pin p (List.mem_append_left _ hp), F.old⟩
theorem SP.untr {D : Ends} {f : Flow} {s' : Shared} (h : SP (X.tr xe (X.pn ++ pins)) [] D f s') : SP X pins D f s' := by
  cases f with
  | next => obtain ⟨σ', H', I, q⟩ := h; exact ⟨σ', H', I.untr, q⟩
  | brk => obtain ⟨σ', H', I, q⟩ := h; exact ⟨σ', H', I.untr, q⟩
  | cont => obtain ⟨σ', H', I, q⟩ := h; exact ⟨σ', H', I.untr, q⟩
  | ret u => obtain ⟨v, σ', H', I, r, q⟩ := h; exact ⟨v, σ', H', I.untr, r, q⟩
theorem Inv.hand (I : Inv X pins σ H s) : Inv (X.hand e) pins σ H s := ⟨⟨I.ok.mod, I.ok.kind, I.ok.glob, I.ok.blt, I.ok.above, I.ok.inj, I.ok.has, I.ok.cab, fun z => (nomatch z), I.ok.frames, I.ok.stk, I.ok.exf, I.ok.bs, I.ok.bsz, I.ok.noex, I.ok.exfs, I.ok.funs, I.ok.frf⟩, I.os, I.bare, I.base, I.loc, I.cell, I.free, I.freeC, I.pin, I.hok, I.len⟩
theorem Inv.unhand (ok : X.Ok) (I : Inv (X.hand e) pins σ H s) : Inv X pins σ H s := ⟨ok, I.os, I.bare, I.base, I.loc, I.cell, I.free, I.freeC, I.pin, I.hok, I.len⟩
end
def hEnds (D : Ends) (i : Nat) : Ends := { nx := fun σ' H' => D.nx (σ'.set i none) H', rt := D.rt, bk := fun σ' H' => D.bk (σ'.set i none) H', ct := fun σ' H' => D.ct (σ'.set i none) H' }
def hRun (K : PySem.W.Frag) (Ch : Addr) (i : Nat) (th : TS) (D : Ends) : St -> XK := fun σ c dx H => ∃ C, c = .ref C /\ W.exmOne K (.ref C) (.ref Ch) = some true /\ ∀ a, H a = none -> th (hEnds D i) (σ.set i (some (.ref a))) (upd H a (ExcO a C dx))
def tTry (K : PySem.W.Frag) (Ch : Addr) (i : Nat) (tb : (St -> XK) -> TS) (th : TS) : TS := fun D σ0 H0 => tb (hRun K Ch i th D) D σ0 H0
section
variable {X : Cx} {i : Nat} {n x : Str} {Ch : Addr} {body suite : List Stmt} {b₀ : Stmt} {np hpos pos : Pos} {tb : (St -> XK) -> TS} {th : TS}
theorem ps_try (hx : X.ex = []) (hs : X.stack = X.env :: X.outer) (hL : X.env.frame = some X.env.locals) (hN : X.N.Nodup) (hi : X.N[i]? = some n) (hn : X.env.scope.names.lookup n = some .local) (hg : Gl X x) (hm : X.mg x = some (.ref Ch))
    (hb : ∀ E xe pn, XOk (X.tr xe pn) E -> PSs (X.tr xe pn) body (tb E)) (hh : ∀ a, PSs (X.hand a) (b₀ :: suite) th) (hdb : (x == ("__debug__" : Str)) = false := by decide) :
    PS X (.Try body [.ExceptHandler (some (.Name x np)) (some n) (b₀ :: suite) hpos] [] [] pos) (tTry X.K Ch i tb th) := by
  intro pins s σ0 H0 D I h
  have ok := I.ok
  refine wpAny_Try_except ?_
  have xo : XOk (X.tr (fun e s1 => ∃ σ H g a C dx, e = .ref a /\ Inv X pins σ H s1 /\ Fr0 X pins g /\ (∀ b, s1.heap.get? b = none -> g.get? b = none) /\ Fly g H s1.heap a C dx .none /\ hRun X.K Ch i th D σ (.ref C) dx H) (X.pn ++ pins)) (hRun X.K Ch i th D) :=
    ⟨(fun b z => by rw [show (X.tr _ _).ex = X.ex from rfl, hx] at z; cases z), fun {pins' σ H s g e C dx} I F0 hg F hE => ⟨σ, H, g, e, C, dx, rfl, I.untr, F0.untr, hg, F, hE⟩⟩
  refine wpAny_mono (hb _ _ _ xo [] s σ0 H0 D I.tr h) (fun f s1 hf => ?_) (fun e s1 he => ?_)
  . have hf' := SP.untr hf
    cases f with
    | next => obtain ⟨σ', H', I', q⟩ := hf'; exact pss_nil pins s1 σ' H' D I' q
    | brk => exact hf'
    | cont => exact hf'
    | ret u => exact hf'
  . obtain ⟨σ, H, g, a, C, dx, rfl, I1, F0, hg1, F, C', eC, hex, hE⟩ := he
    cases eC
    have hfr : X.A.frames = some (X.env :: X.outer) := by rw [<- hs]; exact I1.ok.frames
    have ff : s1.heap.FunFrames X.base (X.env :: X.outer) := by rw [<- hs]; exact I1.stack
    have fE : frs (X.env :: X.outer) = frs X.stack := by rw [hs]
    refine fly_note (P := X.prog) (w := X.w) hfr hL ff I1.hok hg1 F fun h2 F2 S2 => ?_
    rw [fE] at S2
    have I2 := I1.noted (t' := s1.toks) F0 S2
    have ff2 : h2.FunFrames X.base (X.env :: X.outer) := by rw [<- hs]; exact I2.stack
    refine fly_set ff2 F2 fun h3 F3 S3 _ _ => ?_
    rw [fE] at S3
    have I3 := I2.noted (t' := s1.toks) F0 S3
    have ff3 : h3.FunFrames X.base (X.env :: X.outer) := by rw [<- hs]; exact I3.stack
    refine wpAny_handleBy_cons (codeAny_handlers_test ?_) (fun z => nomatch z)
    refine ld_glob (X := X.hand a) I3.hand hg hm ?_ hdb
    have ty : W.Looks (model X.prog X.w) h3 (typeOf (.ref a)) (.ref C) := by
      obtain ⟨oe, vs, T, oT, ts, e1, e2, e3, e4, _⟩ := F3
      exact e2 ▸ (W.Looks.ld e1).andThen .now
    refine (W.exm_one I3.kIn ty hex).at ?_
    refine codeAny_handlers_suite_as ?_
    refine fly_set ff3 F3 fun h4 F4 S4 _ _ => ?_
    rw [fE] at S4
    have I4 := I3.noted (t' := s1.toks) F0 S4
    obtain ⟨oe, vs, T, oT, ts, e1, e2, e3, e4, _, _, _, _, _, hHa, _, hga, _⟩ := F4
    have I5 : Inv X pins σ (upd H a (ExcO a C dx)) _ := I4.track (o := ExcO a C dx) F0 hga hHa ⟨⟨oe, e1, e2, e3, by unfold W.notCls; rw [e4]⟩, ⟨oe, e1⟩, fun h1 h2 ⟨ox, q1, q2⟩ k => ⟨ox, k _ q1, q2⟩⟩
    refine store_ok I5 hN hi (.inl hn) (show RelV (.ref a) (.ref a) from rfl) (fun s6 I6 => ?_) (.inr hn)
    refine wpAny_mono (hh a pins s6 _ _ _ I6.hand (hE a hHa)) (fun f s7 hf => ?_) (fun _ _ z => z.elim)
    have fin : ∀ {σ7 : St} {H7 : Hp} {Q : Unit -> Shared -> Prop}, Inv (X.hand a) pins σ7 H7 s7 -> (∀ s8, Inv X pins (σ7.set i none) H7 s8 -> Q () s8) -> wpAny (model X.prog X.w) X.A (do
        bindName X.env n Value.none
        unbindBehindTheSuite X.env n hpos) Q X.xe s7 := fun {σ7 H7 Q} I7 k => by
      have I7' := I7.unhand ok
      obtain ⟨m, hns, hl⟩ := I7'.loc
      refine wpAny_nameGoes_keeps hn hns (by rw [ok.kind]; rfl) fun h8 v n8 sb => k _ (I7'.unset (t' := s7.toks + 1) hN hi hn hl n8 sb)
    cases f with
    | next => obtain ⟨σ7, H7, I7, q⟩ := hf; exact fin I7 fun s8 I8 => ⟨_, _, I8, q⟩
    | brk => obtain ⟨σ7, H7, I7, q⟩ := hf; exact fin I7 fun s8 I8 => ⟨_, _, I8, q⟩
    | cont => obtain ⟨σ7, H7, I7, q⟩ := hf; exact fin I7 fun s8 I8 => ⟨_, _, I8, q⟩
    | ret u => obtain ⟨v, σ7, H7, I7, r, q⟩ := hf; exact fin I7 fun s8 I8 => ⟨v, _, _, I8, r, q⟩
end
end L2

namespace L2
open PySem PySem.Spec PyProof.Rows
section
variable {X : Cx} {cm : Bool} {j k : Nat} {f : Addr} {fd : FuncData} {ps : List Str} {sp : Sp} {x : Str} {p pos : Pos} {e : Expr} {es : List Expr} {t : TA}
end
section
variable {P : Program} {w : World} {K : PySem.W.Frag} {fl : Wd} {mg : Str -> Option Value} {base : Heap}
end
def excOk (K : PySem.W.Frag) (D : Addr) : Bool :=
  W.findIn K (.ref D) "__getattribute__" == some (some (.builtin "BaseException.__getattribute__")) && W.findIn K (.ref D) "__getattr__" == some none && W.mroIn K D (.type "BaseException") == some true && W.mroIn K D (.type "object") == some true &&
  W.findIn K (.ref D) "__class__" == some (some (.builtin "object.__class__")) && W.specialIn K (.builtin "object.__class__") "__get__" == some (some (.builtin "getset_descriptor.__get__")) && W.takesIn K (.builtin "object.__class__") == some true && W.kitCls K (.ref D) (.ref D) == some true
theorem ExcC.of {K : PySem.W.Frag} {D : Addr} (h : excOk K D = true) : ExcC K D := by
  unfold excOk at h
  simp only [Bool.and_eq_true, beq_iff_eq] at h
  obtain ⟨⟨⟨⟨⟨⟨⟨h1, h2⟩, h3⟩, h4⟩, h5⟩, h6⟩, h7⟩, h8⟩ := h
  exact ⟨h1, h2, h3, h4, h5, h6, h7, h8⟩
def excTab (K : PySem.W.Frag) (es ps ks hs : List Str) : Bool := es.all fun c => match clsOf K c with
  | none => false
  | some C => colF c && excOk K C && (!ps.contains c || W.excIn K C bmV newV) && W.kitOne K (.ref C) (.type "ValueError") == some true &&
    (ks.all fun k => match clsOf K k with
      | none => false
      | some D => W.kitOne K (.ref C) (.ref D) == some (c == k)) &&
    hs.all fun k => match clsOf K k with
      | none => false
      | some D => W.exmOne K (.ref C) (.ref D) == some true
class ETab (K : PySem.W.Frag) (es : List Str) (ps : outParam (List Str)) (ks : List Str) (hs : outParam (List Str)) : Prop where
  ok : excTab K es ps ks hs = true
section
variable {K : PySem.W.Frag} {es ps ks hs : List Str} {c k : Str} {C D : Addr}
theorem ETab.row (t : ETab K es ps ks hs) (hc : c ∈ es) (h : clsOf K c = some C) : (colF c = true /\ ExcC K C) /\ (c ∈ ps -> W.excIn K C bmV newV = true) /\ W.kitOne K (.ref C) (.type "ValueError") = some true /\
    (∀ k ∈ ks, ∀ D, clsOf K k = some D -> W.kitOne K (.ref C) (.ref D) = some (c == k)) /\ ∀ k ∈ hs, ∀ D, clsOf K k = some D -> W.exmOne K (.ref C) (.ref D) = some true := by
  have e := t.ok
  unfold excTab at e
  have e := List.all_eq_true.mp e c hc
  rw [h] at e
  simp only [Bool.and_eq_true, beq_iff_eq, List.all_eq_true, Bool.or_eq_true, Bool.not_eq_true'] at e
  obtain ⟨⟨⟨⟨⟨e0, e1⟩, e2⟩, e3⟩, e4⟩, e5⟩ := e
  refine ⟨⟨e0, .of e1⟩, fun hp => e2.resolve_left (by rw [List.contains_iff_mem.mpr hp]; simp), e3, fun k hk D hD => ?_, fun k hk D hD => ?_⟩
  . have := e4 k hk; rw [hD] at this; simpa using this
  . have := e5 k hk; rw [hD] at this; simpa using this
theorem ETab.cf (t : ETab K es ps ks hs) (hc : c ∈ es) : colF c = true := by
  have e := t.ok
  unfold excTab at e
  have e := List.all_eq_true.mp e c hc
  cases h : clsOf K c with
  | none => rw [h] at e; cases e
  | some C => exact (t.row hc h).1.1
end
def dIsE (es ks : List Str) : DRs := fun ds μ Q => match ds with
  | [.exc c, .cls k] => c ∈ es /\ k ∈ ks /\ Q (.bl (c == k)) μ
  | [.exc c, .ty n] => c ∈ es /\ n = "ValueError" /\ Q (.bl true) μ
  | _ => False
abbrev DX := Str -> Mu -> Prop
abbrev DXE := DEnv -> DX
abbrev DSpX := List D -> Mu -> DK -> DX -> Prop
class XR (K : PySem.W.Frag) (fl : Wd) (Ex : DXE) (E : St -> XK) : Prop where
  run : ∀ {W ρ μ σ H c C dx}, Rel K fl W μ H -> EnvR K W ρ σ -> Ex ρ c μ -> XAt K W c C dx -> E σ (.ref C) dx H
def liftX (K : PySem.W.Frag) (dsp : DSpX) : Sp := fun vs H Q E => ∃ fl W μ ds Q0 X0, Rel K fl W μ H /\ Reps K W ds vs /\ dsp ds μ Q0 X0 /\ KV' K fl W Q0 Q /\ ∀ W' c C μ' H' dx, W.le W' -> Rel K fl W' μ' H' -> X0 c μ' -> XAt K W' c C dx -> E (.ref C) dx H'
def dRaise (c : Str) (Ex : DXE) (w : DA) : DS := fun _ ρ μ => w ρ μ fun ds μ1 => ds.length <= sizeLine /\ Ex ρ c μ1
def dCallX (dsp : DSpX) (Ex : DXE) (n m : Nat) (pat : List Src) (cs : List D) (w wk : DA) : DE := fun ρ μ Q => w ρ μ fun ds μ1 => wk ρ μ1 fun es μ2 => dsp (sel n m pat .non cs ds es) μ2 Q (Ex ρ)
def dMethX (c m : Str) (dsp : DSpX) (Ex : DXE) (n j : Nat) (pat : List Src) (cs : List D) (wo : DE) (w wk : DA) : DE := fun ρ μ Q => wo ρ μ fun d μ1 => (insM μ1 d fun c' ns vs => c' = c /\ (ns.zip vs).lookup m = none) /\ w ρ μ1 fun ds μ2 => wk ρ μ2 fun es μ3 => dsp (sel n j pat .non cs (d :: ds) es) μ3 Q (Ex ρ)
def hEndsD (D : DEnds) (i : Nat) : DEnds := { nx := fun ρ μ => D.nx (ρ.set i none) μ, rt := D.rt, bk := fun ρ μ => D.bk (ρ.set i none) μ, ct := fun ρ μ => D.ct (ρ.set i none) μ }
def dTry (es : List Str) (i : Nat) (wb : DXE -> DS) (wh : DS) : DS := fun D ρ μ => wb (fun ρ' c μ' => c ∈ es /\ wh (hEndsD D i) (ρ'.set i (some (.exc c))) μ') D ρ μ
section
variable {K : PySem.W.Frag} {fl : Wd} {Ex : DXE} {E : St -> XK} {t tk : TA} {w wk : DA} {n j m : Nat} {pat : List Src} {csD : List D} {csV : List V} {c : Str} {C : Addr} {dsp : DSpX}
instance {mt : Str} {ta : TE} {wa : DE} [x : XR K fl Ex E] [o : SimE K fl ta wa] [a : SimA K fl t w] [b : SimA K fl tk wk] [cr : CRep K csD csV] : SimE K fl (tMethX K c mt (liftX K dsp) (sel n j pat .non csV) E ta t tk) (dMethX c mt dsp Ex n j pat csD wa w wk) := ⟨fun {W ρ μ σ H Q Q'} r e h k =>
  o.run r e h fun W1 d μ1 xx H1 le1 r1 q1 h1 => by
    obtain ⟨c', C, p, dx, ns, vs, xs, hc, rfl, ea, l, z, rfl, hl⟩ := insM_run r1 q1 h1.1
    refine ⟨C, p, dx, _, hc, rfl, ea, z.lookup_none hl, a.run r1 (e.mono le1) h1.2 fun W2 ds μ2 xs H2 le2 r2 q2 h2 => b.run r2 (e.mono (le1.trans le2)) h2 fun W3 es μ3 ys H3 le3 r3 q3 h3 => ?_⟩
    exact ⟨fl, W3, μ3, _, Q, _, r3, sel_reps (cr.run W3) (.cons (q1.mono (le2.trans le3)) (q2.mono le3)) q3, h3, fun W4 d4 μ4 x4 H4 le4 => k W4 d4 μ4 x4 H4 (le1.trans (le2.trans (le3.trans le4))),
      fun W4 c C μ4 H4 dx4 le4 r4 h4 hc => x.run r4 (e.mono (le1.trans (le2.trans (le3.trans le4)))) h4 hc⟩⟩
theorem EnvR.unset {W : Wd} {ρ : DEnv} {σ : St} {i : Nat} (e : EnvR K W ρ σ) : EnvR K W (ρ.set i none) (σ.set i none) := ⟨by simp [e.1], fun j d h => by
  by_cases hj : i = j
  . subst hj
    by_cases hl : i < ρ.length
    . rw [List.getElem?_set_self hl] at h; cases h
    . rw [List.getElem?_eq_none (by simp; omega)] at h; cases h
  . rw [List.getElem?_set_ne hj] at h ⊢
    exact e.2 j d h⟩
theorem EndsR.hEnds {W : Wd} {D' : DEnds} {D : Ends} {i : Nat} (k : EndsR K fl W D' D) : EndsR K fl W (hEndsD D' i) (hEnds D i) :=
  ⟨fun W' ρ μ σ H le r e h => k.nx W' _ μ _ H le r e.unset h, fun W' ρ μ σ H le r e h => k.bk W' _ μ _ H le r e.unset h, fun W' ρ μ σ H le r e h => k.ct W' _ μ _ H le r e.unset h, k.rt⟩
theorem EndsR.lower {W : Wd} {fl' : Wd} {D' : DEnds} {D : Ends} (k : EndsR K fl W D' D) (h : fl.le W) : EndsR K fl' W D' D :=
  ⟨fun W' ρ μ σ H le r e hh => k.nx W' _ μ _ H le (r.floor (h.trans le)) e hh, fun W' ρ μ σ H le r e hh => k.bk W' _ μ _ H le (r.floor (h.trans le)) e hh, fun W' ρ μ σ H le r e hh => k.ct W' _ μ _ H le (r.floor (h.trans le)) e hh, fun W' d μ x H le r e hh => k.rt W' d μ x H le (r.floor (h.trans le)) e hh⟩
end
class IsHd (K : PySem.W.Frag) (es : List Str) (Ch : Addr) : Prop where
  run : ∀ c ∈ es, ∀ C, clsOf K c = some C -> W.exmOne K (.ref C) (.ref Ch) = some true
  cf : ∀ c ∈ es, colF c = true
theorem ETab.hd {K : PySem.W.Frag} {es ps ks hs : List Str} {h : Str} {Ch : Addr} (t : ETab K es ps ks hs) (i : IsCls K h Ch) (hh : h ∈ hs) : IsHd K es Ch := ⟨fun c hc C hC => (t.row hc hC).2.2.2.2 h hh Ch i.at_, fun c hc => t.cf hc⟩
structure XP (K : PySem.W.Frag) (fl : Wd) where
  Ex : DXE
  E : St -> XK
  ok : XR K fl Ex E
instance {K : PySem.W.Frag} {fl : Wd} (p : XP K fl) : XR K fl p.Ex p.E := p.ok
def bodySpX (w : DXE -> DS) (N : List Str) (n : Nat) : DSpX := fun ds μ Q X0 => ds.length = n /\ w (fun _ c μ' => ∃ μ'', MLe μ'' μ' /\ X0 c μ'') (ends Q) (startD N ds) μ
section
variable {P : Program} {w : World} {K : PySem.W.Frag} {fl : Wd} {mg : Str -> Option Value} {base : Heap}
theorem Fun.okX {x qual : Str} {st : Stmt} {f : Addr} {fd : FuncData} {N ps : List Str} {k n : Nat} (dw : DXE -> DS) (F : Fun K x qual st f fd) (S : FnScope N ps (defScope st)) (len : ps.length = n)
    (hbody : ∀ (cdv : Value) (A : Around) (outer : List Env) (s : Shared) (H : Hp) (E : XK), Room k (A.deeper (envOfC qual (defScope st) s.heap.objs.size f cdv)) ->
      ∃ t, WSs (cxOf (CX1 P w) P w K mg base N qual (defScope st) f cdv A outer s H E) (defBody st) t /\ ∀ fl Ex, XR K fl Ex (fun _ => E) -> SimS K fl t (dw Ex)) : FnOk P w K mg base (CX1 P w) (k + 1) f fd ps (liftX K (bodySpX dw N n)) := by
  obtain ⟨oc, od, kV, doc, pm, an, cdv, ct, osl, rfl, lk, hcd⟩ := F.ex
  refine fn_of lk hcd S (fun vs H Q E h => ?_) fun A outer s H vs Q E hr h => ?_
  . obtain ⟨_, W, μ, ds, Q0, X0, _, r, h, _⟩ := h
    rw [r.length, h.1, len]
  . obtain ⟨fl, W, μ, ds, Q0, X0, rel, r, h, k, kx⟩ := h
    obtain ⟨t, ht, sm⟩ := hbody cdv A outer s H E hr
    refine ⟨t, ht.out, (sm W _ ⟨fun {W1 ρ1 μ1 σ1 H1 c C dx} r1 e1 ⟨μ'', l, h1⟩ hC => kx W1 c C μ'' H1 dx r1.up ((r1.floor (rel.up.trans r1.up)).less l) h1 hC⟩).run (rel.floor (.refl W)) (.start r) h.2 ⟨fun W' ρ μ σ H le rr ee hh => ?_, fun _ _ _ _ _ _ _ _ hh => hh.elim, fun _ _ _ _ _ _ _ _ hh => hh.elim, fun W' d μ x H le rr ee hh => ?_⟩⟩
    . obtain ⟨μ'', l, hh⟩ := hh
      exact k W' .non μ'' _ H le ((rr.floor (rel.up.trans le)).less l) .n hh
    . obtain ⟨μ'', l, hh⟩ := hh
      exact k W' d μ'' x H le ((rr.floor (rel.up.trans le)).less l) ee hh
end
section
variable {X : Cx} {E : St -> XK}
theorem qs_try {i : Nat} {n x : Str} {Ch : Addr} {body suite : List Stmt} {b₀ : Stmt} {np hpos pos : Pos} {tb : (St -> XK) -> TS} {th : TS} (K : PySem.W.Frag) (hN : X.N.Nodup) (hm : X.mg x = some (.ref Ch))
    (hb : ∀ E xe pn, XOk (X.tr xe pn) E -> WSs (X.tr xe pn) body (tb E)) (hh : ∀ a, WSs (X.hand a) (b₀ :: suite) th) (hK : X.K = K := by rfl) (hx : X.ex = [] := by rfl) (hs : X.stack = X.env :: X.outer := by rfl) (hL : X.env.frame = some X.env.locals := by rfl) (hi : X.N[i]? = some n := by rfl) (hn : X.env.scope.names.lookup n = some .local := by rfl) (hg : Gl X x := by rfl) (hdb : (x == ("__debug__" : Str)) = false := by decide) :
    WS X (.Try body [.ExceptHandler (some (.Name x np)) (some n) (b₀ :: suite) hpos] [] [] pos) (tTry K Ch i tb th) := hK ▸ ⟨ps_try hx hs hL hN hi hn hg hm (fun E xe pn xo => (hb E xe pn xo).out) (fun a => (hh a).out) hdb⟩
end
end L2

namespace L2
open PySem PySem.Spec PyProof.Rows
section
variable {P : Program} {w : World} {K : PySem.W.Frag} {mg : Str -> Option Value} {base : Heap}
end
section
variable {P : Program} {w : World} {K : PySem.W.Frag} {mg : Str -> Option Value} {base : Heap} {N : List Str} {qual : Str} {scope : Scope} {f : Addr} {cd : Value} {A : Around} {outer : List Env} {s : Shared} {H : Hp} {E : XK} {cm : Bool}
end
section
variable {K : PySem.W.Frag} {fl : Wd}
end
theorem e_isE1 {es ks : List Str} {c k : Str} {μ : Mu} {Q : DK} : dIsE es ks [.exc c, .cls k] μ Q = (c ∈ es /\ k ∈ ks /\ Q (.bl (c == k)) μ) := rfl
theorem e_isE2 {es ks : List Str} {c : Str} {n : String} {μ : Mu} {Q : DK} : dIsE es ks [.exc c, .ty n] μ Q = (c ∈ es /\ n = "ValueError" /\ Q (.bl true) μ) := rfl
def dIsB : DR2 := fun d e μ Q => match d, e with
  | .int _, .bl _ => Q (.bl false) μ
  | .bl a, .bl b => Q (.bl (a == b)) μ
  | _, _ => False
theorem e_isBi {i : Int} {b : Bool} {μ : Mu} {Q : DK} : dIsB (.int i) (.bl b) μ Q = Q (.bl false) μ := rfl
theorem e_isBb {a b : Bool} {μ : Mu} {Q : DK} : dIsB (.bl a) (.bl b) μ Q = Q (.bl (a == b)) μ := rfl
end L2

namespace L2
open PySem PySem.Spec PyProof.Rows
section
variable {X : Cx} {E : St -> XK} {j k : Nat} {f C : Addr} {fd : FuncData} {ps ks : List Str} {sp : Sp} {c : Str} {p pos : Pos} {e : Expr} {es : List Expr} {t tk : TA} {kws : List Keyword} {g : List Value -> List Value -> List Value} {gV : List V -> List V -> List V}
end
def dMakeX (c : Str) (dsp : DSpX) (Ex : DXE) (n j : Nat) (pat : List Src) (cs : List D) (w wk : DA) : DE := fun ρ μ Q => w ρ μ fun ds μ1 => wk ρ μ1 fun es μ2 => ∀ k, μ2 k = none -> dsp (sel n j pat .non cs (.cell k :: ds) es) (mset μ2 k (.ins c [] [])) (fun d μ3 => d = .non /\ Q (.cell k) μ3) (fun x μ3 => ∃ μ4, MLe μ4 μ3 /\ Ex ρ x μ4)
def dMakeFX (c : Str) (dsp : DSpX) (Ex : DXE) (n j : Nat) (pat : List Src) (cs : List D) (w wk : DA) : DE := fun ρ μ Q => w ρ μ fun ds μ1 => wk ρ μ1 fun es μ2 => ∀ k, μ2 k = none -> dsp (sel n j pat .non cs (.cell k :: ds) es) (mset μ2 k (.ins c [] [])) (fun d μ3 => d = .non /\ frzD μ3 (.cell k) Q) (fun x μ3 => ∃ μ4, MLe μ4 μ3 /\ Ex ρ x μ4)
section
variable {K : PySem.W.Frag} {fl : Wd} {Ex : DXE} {E : St -> XK} {c : Str} {dsp : DSpX} {n j : Nat} {pat : List Src} {csD : List D} {csV : List V} {t tk : TA} {w wk : DA}
end
def dMulB : DR2 := fun d e μ Q => match d, e with
  | .int i, .bl b => Q (.int (i * if b = true then 1 else 0)) μ
  | d, e => dMul2 d e μ Q
theorem e_mulBb {i : Int} {b : Bool} {μ : Mu} {Q : DK} : dMulB (.int i) (.bl b) μ Q = Q (.int (i * if b = true then 1 else 0)) μ := rfl
theorem e_mulBi {i j : Int} {μ : Mu} {Q : DK} : dMulB (.int i) (.int j) μ Q = (CMul i j /\ Q (.int (i * j)) μ) := rfl
end L2

namespace L2
open PySem PySem.Spec PyProof.Rows
abbrev TJ := St -> Hp -> Str -> (Str -> Hp -> Prop) -> Prop
section
variable {X : Cx} {e e2 : Expr} {es : List Expr} {te : TE} {t : TJ} {pos : Pos}
end
abbrev DJ := DEnv -> Mu -> Str -> (Str -> Mu -> Prop) -> Prop
def djNil : DJ := fun _ μ acc R => R acc μ
def djCons (w : DE) (r : DJ) : DJ := fun ρ μ acc R => w ρ μ fun d μ1 => match d with
  | .str y => (acc ++ y).length <= sizeLine /\ r ρ μ1 (acc ++ y) R
  | _ => False
def dFmt (w : DE) : DE := fun ρ μ Q => w ρ μ fun d μ1 => match d with
  | .str y => y.length <= sizeLine /\ Q (.str y) μ1
  | _ => False
def dFStr (l : DJ) : DE := fun ρ μ Q => l ρ μ Str.empty fun out μ1 => out.length <= sizeLine /\ Q (.str out) μ1
section
variable {K : PySem.W.Frag} {fl : Wd} {te : TE} {we : DE} {t : TJ} {w : DJ}
end
end L2

namespace L2
open PySem PySem.Spec PyProof.Rows
section
variable {X : Cx} {tg iter elt : Expr} {ifs : List Expr} {scope : Scope} {pos : Pos} {own free : List Str} {fr : List Nat}
end
section
variable {X : Cx} {pos pos' : Pos}
end

section
variable {K : PySem.W.Frag} {fl : Wd} {te : (St -> XK) -> TE} {we : DXE -> DE} {tc : TT} {wc : DT} {wi : TI} {di : DI} {g : TG} {dg : DG} {S : List Nat} {Ex : DXE} {E : St -> XK}
end
end L2

set_option maxHeartbeats 1000000
namespace L2
open PySem PySem.Spec PyProof.Rows
section
variable {prog : Program} {w : World} {A : Around} {E : Value -> Shared -> Prop} {h : Heap} {g : Array GenState} {d : Drawn} {t : Nat} {os : OsState}
variable {nm q : Str} {C N : Addr} {bs bm bmB : List Value} {hdct : Bool} {sn : List Str} {sub : List Value} {ab : Bool} {col : Option Bool} {dd : Option Addr} {k0 k1 k2 k3 k5 : Option Value} {B newId initId : String}
theorem type_call_init (F : ExcBaseFacts B newId initId bmB) (T : OwnTail h bmB bm) {mN : Str -> Option Value} {rest : List Value} {fI : Addr} {oI : Obj} {Q : Fin -> Shared -> Prop}
    (hC : h.get? C = some (excClassObj nm q C N bs bm hdct sn sub ab col dd k0 k1 k2 k3 k5 newId)) (hn : h.Ns N mN) (hi : mN "__init__" = some (.ref fI))
    (hfI : h.get? fI = some oI) (hfc : oI.cls = .type "function")
    (hq : ∀ h' e, Heap.MadeExcOf h h' e (.ref C) rest ->
      wpAny (model prog w) A (call (.ref fI) (.ref e :: rest)) (fun r s' => r = .none /\ Q (.done (.ret (.ref e))) s') E ⟨h', g, d, t, os⟩) (hrest : rest.length <= sizeLine) :
    wpAny (model prog w) A (Builtin.«type.__call__» ⟨.ref C :: rest, []⟩) Q E ⟨h, g, d, t, os⟩ := by
  repeat (first | with_reducible refine wpAny_loadPart_at hC ?_ | with_reducible refine wpAny_madeBy_exc hC ?_ | wp_step)
  refine codeAny_call_builtin_code (Code.quiet_builtin _ F.quiet) (wpAny_check_new_subT F T hC ?_)
  refine codeAny_exc_new_subT F T hC ?_ hrest
  show wpAny _ _ _ _ _ _
  have hC₁ := Heap.get?_push_of_some { cls := .ref C, data := .fields #[.ref h.objs.size, .none, .none, .none, .bool false, .none] }
    (Heap.get?_push_of_some { cls := .type "tuple", data := .seq rest.toArray } hC)
  have hfI₁ := Heap.get?_push_of_some { cls := .ref C, data := .fields #[.ref h.objs.size, .none, .none, .none, .bool false, .none] }
    (Heap.get?_push_of_some { cls := .type "tuple", data := .seq rest.toArray } hfI)
  have hn₁ : ((h.push { cls := .type "tuple", data := .seq rest.toArray }).push { cls := .ref C, data := .fields #[.ref h.objs.size, .none, .none, .none, .bool false, .none] }).Ns N mN :=
    let ⟨o, es, ep, e, r⟩ := hn; ⟨o, es, ep, Heap.get?_push_of_some _ (Heap.get?_push_of_some _ e), r⟩
  have hget : ((h.push { cls := .type "tuple", data := .seq rest.toArray }).push
      { cls := .ref C, data := .fields #[.ref h.objs.size, .none, .none, .none, .bool false, .none] }).get? (h.objs.size + 1) = some
      { cls := .ref C, data := .fields #[.ref h.objs.size, .none, .none, .none, .bool false, .none] } := by heap_get
  have hcC : (Value.ref C :: bm).contains (.ref C) = true := by simp
  have T₁ := T.keeps (h' := (h.push { cls := .type "tuple", data := .seq rest.toArray }).push { cls := .ref C, data := .fields #[.ref h.objs.size, .none, .none, .none, .bool false, .none] })
    fun b o e => Heap.get?_push_of_some _ (Heap.get?_push_of_some _ e)
  unfold isInstance
  repeat (first | with_reducible refine wpAny_loadPart_at hget ?_ | (with_reducible refine wpAny_isSubtype_exc hC₁ ?_; rw [hcC]) | wp_step)
  show wpAny _ _ (typeLookup (.ref C) _) _ _ _
  refine wpAny_typeLookup_tail hC₁ hn₁ T₁ F.mroIs F.init.lookup ?_
  rw [hi]
  refine wpAny_holding (wpAny_bind ?_)
  unfold bindSpecial
  refine wpAny_bind (wpAny_typeOf (T := "function") ⟨_, hfI₁, hfc⟩ ?_)
  rw [if_pos (by decide)]
  refine wpAny_pure (wpAny_bind (wpAny_mono (hq _ (h.objs.size + 1) ⟨fun b o hb => Heap.get?_push_of_some _ (Heap.get?_push_of_some _ hb), Heap.get?_none_of_le (Nat.le_succ _), h.objs.size, hget, Heap.get?_none_of_le (Nat.le_refl _), ?_⟩) (fun r s' hr => ?_) fun _ _ x => x))
  . exact Heap.get?_push_of_some _ (Heap.get?_push_at rfl rfl)
  . obtain ⟨rfl, hQ⟩ := hr
    wp_walk
    exact hQ
theorem call_exc_init (F : ExcBaseFacts B newId initId bmB) (T : OwnTail h bmB bm) {mN : Str -> Option Value} {rest : List Value} {fI : Addr} {oI : Obj} {Q : Value -> Shared -> Prop}
    (hC : h.get? C = some (excClassObj nm q C N bs bm hdct sn sub ab col dd k0 k1 k2 k3 k5 newId)) (hn : h.Ns N mN) (hi : mN "__init__" = some (.ref fI))
    (hfI : h.get? fI = some oI) (hfc : oI.cls = .type "function")
    (hq : ∀ h' e, Heap.MadeExcOf h h' e (.ref C) rest ->
      wpAny (model prog w) (A.under (.builtin "type.__call__" ⟨.ref C :: rest, []⟩)) (call (.ref fI) (.ref e :: rest)) (fun r s' => r = .none /\ Q (.ref e) s') E ⟨h', g, d, t, os⟩) (hrest : rest.length <= sizeLine) :
    wpAny (model prog w) A (call (.ref C) rest) Q E ⟨h, g, d, t, os⟩ := by
  have f1 := tc_lookup
  have f2 := tc_bind (.ref C)
  have hT : (⟨h, g, d, t, os⟩ : Shared).TypeIs (.ref C) "type" := ⟨_, hC, rfl⟩
  refine wpAny_call (codeAny_of_tree ?_)
  show wpAny _ _ (callAny (.ref C) _) _ _ _
  repeat (any_goals (first | assumption | with_reducible refine wpAny_loadPart_at hC ?_ | wp_step))
  refine ⟨rfl, ?_⟩
  refine codeAny_call_builtin_at (Code.quiet_builtin _ (by decide +kernel)) entry_typeCall (wpAny_check_type_call_sub hC (type_call_init (hrest := hrest) F T hC hn hi hfI hfc fun h' e hm => ?_))
  exact hq h' e hm
end
section
variable {M : Model} {A : Around} {E : Value -> Shared -> Prop} {env : Env}
variable {nm q : Str} {C N : Addr} {bs bm : List Value} {hdct : Bool} {sn : List Str} {sub : List Value} {ab : Bool} {col : Option Bool} {dd : Option Addr} {k0 k1 k2 k3 k5 : Option Value} {newId : String}
theorem raise_made {s : Shared} {x : Sem Value} {Q : Flow -> Shared -> Prop} (hbase : bm.contains (.type "BaseException") = true) (hh : A.handled = none)
    (h : wpAny M A x (fun v s₁ => ∃ e t od sl, v = .ref e /\ s₁.heap.get? C = some (excClassObj nm q C N bs bm hdct sn sub ab col dd k0 k1 k2 k3 k5 newId) /\
      s₁.heap.get? e = some { cls := .ref C, dict := od, data := .fields #[.ref t, .none, .none, .none, .bool false, .none], slots := sl } /\ E (.ref e) s₁) E s) :
    wpAny M A (raiseStmt env (some x) none) Q E s := by
  have hcB : (Value.ref C :: bm).contains (.type "BaseException") = true := by rw [List.contains_cons, hbase, Bool.or_true]
  unfold raiseStmt
  refine wpAny_bind (wpAny_mono h (fun v s₁ h₁ => ?_) fun _ _ x => x)
  obtain ⟨e, t, od, sl, rfl, hC, he, hE⟩ := h₁
  obtain ⟨hp, g, d, tk, os⟩ := s₁
  repeat (first | with_reducible refine wpAny_loadPart_at he ?_ | with_reducible refine wpAny_loadPart_at hC ?_ | (with_reducible refine wpAny_isSubtype_exc hC ?_; rw [hcB]) | wp_step)
  exact wpAny_raiseNew_none hh hE
end
theorem slot_wd_get : Slot "wrapper_descriptor" "__get__" "wrapper_descriptor.__get__" := .of (owner := "wrapper_descriptor") (n := "__get__") (by rw [typeLookup_type, builtinLookup_eq_fast]; kernel_rfl) (by decide +kernel) (by decide +kernel) (by decide +kernel)
  (by first | exact .inl (by decide +kernel) | exact .inr (by decide +kernel)) (by rw [isSubtype_type]; kernel_rfl)
theorem entry_wd_get : entryFor table "wrapper_descriptor.__get__" = some Builtin.«wrapper_descriptor.__get__» := entryFor_of_tree (by kernel_rfl)
theorem wd_args (a b c : Value) : argsOk "wrapper_descriptor.__get__" ⟨[a, b, c], []⟩ := by unfold argsOk; kernel_rfl
theorem type_vi : typeOf (.builtin "ValueError.__init__") = pure (.type "wrapper_descriptor") := by kernel_rfl
theorem owner_vi : ".".intercalate ("ValueError.__init__".cutAt '.').dropLast = "ValueError" := by decide +kernel
section
variable {prog : Program} {w : World} {M : Model} {A : Around} {E : Value -> Shared -> Prop} {h : Heap} {g : Array GenState} {d : Drawn} {t : Nat} {os : OsState}
theorem super_ga_vi {so D x C : Addr} {l₀ l : List Value} {K : W.Frag} {name : Str} {tk : Tok} {Q : Fin -> Shared -> Prop}
    (hso : h.get? so = some { cls := .type "super", dict := none, data := .fields #[.ref D, .ref x, .ref C], slots := #[] }) (hno : W.Looks (model prog w) h (opaqueClassAbove (.ref C)) none)
    (hC : W.Looks (model prog w) h (mroOf (.ref C)) l₀) (hl : (l₀.dropWhile (· != .ref D)).drop 1 = l) (X : K.In h) (hx : W.Looks (model prog w) h (typeOf (.ref x)) (.ref C)) (hv : W.Looks (model prog w) h (isSubtype (.ref C) (.type "ValueError")) true)
    (hf : W.alongIn K name l = some (some (.builtin "ValueError.__init__"))) (hxC : x ≠ C) (hn : (name == ("__class__" : Str)) = false)
    (hq : Q (.done (.ret (.ref h.objs.size))) ⟨h.push { cls := .type "method-wrapper", data := .fields #[.builtin "ValueError.__init__", .ref x] }, g, d, t, os⟩) :
    wpAny (model prog w) A (Builtin.«super.__getattribute__» ⟨[.ref so, .str name tk], []⟩) Q E ⟨h, g, d, t, os⟩ := by
  have hlk := slot_wd_get.lookup
  have hne : (Value.ref x == Value.ref C) = false := by simp [hxC]
  have hTf : (⟨h, g, d, t, os⟩ : Shared).TypeIs (.builtin "ValueError.__init__") "wrapper_descriptor" := type_vi
  have hdt : ({ cls := .type "super", dict := none, data := .fields #[.ref D, .ref x, .ref C], slots := #[] } : Obj).data = .fields #[.ref D, .ref x, .ref C] := rfl
  have f0 : (#[.ref D, .ref x, .ref C] : Array Value)[0]? = some (.ref D) := rfl
  have f1 : (#[.ref D, .ref x, .ref C] : Array Value)[1]? = some (.ref x) := rfl
  have f2 : (#[.ref D, .ref x, .ref C] : Array Value)[2]? = some (.ref C) := rfl
  have hov := owner_vi
  unfold Builtin.«super.__getattribute__»
  repeat (first
    | (with_reducible refine wpAny_field hso hdt f0 ?_) | (with_reducible refine wpAny_field hso hdt f1 ?_) | (with_reducible refine wpAny_field hso hdt f2 ?_)
    | (with_reducible refine ks_wpAny_notOpaque hno ?_)
    | (with_reducible refine W.Looks.at hC ?_; rw [hl])
    | (with_reducible refine W.Looks.at hx ?_)
    | (rw [owner_vi]; with_reducible refine W.Looks.at hv ?_)
    | (refine ks_forIn_along X (fun _ _ => rfl) rfl ?_ hf)
    | (with_reducible refine wpAny_typeOf hTf ?_)
    | (with_reducible refine wpAny_call_entry slot_wd_get hTf entry_wd_get ?_ (wd_args _ _ _))
    | (with_reducible refine ⟨_, rfl, ?_⟩)
    | (simp only [hn, hne, Bool.or_false, Bool.false_eq_true, if_false])
    | wp_step
    | dsimp only)
  all_goals exact hq
end
def passE : List Value -> Bool
  | .ref _ :: r => passE r
  | l => l == bmV
theorem passE_loop (self : Value) : ∀ {l : List Value}, passE l = true -> refuseLoop self "__setattr__" l = pure ()
  | .ref c :: r, e => by rw [refuseLoop_ref]; exact passE_loop self e
  | [], e => nomatch (show ([] : List Value) = bmV from beq_iff_eq.mp e)
  | .type n :: r, e => by rw [show Value.type n :: r = bmV from beq_iff_eq.mp e]; kernel_rfl
  | .none :: r, e => nomatch (show Value.none :: r = bmV from beq_iff_eq.mp e)
  | .bool b :: r, e => nomatch (show Value.bool b :: r = bmV from beq_iff_eq.mp e)
  | .int i t :: r, e => nomatch (show Value.int i t :: r = bmV from beq_iff_eq.mp e)
  | .float i t :: r, e => nomatch (show Value.float i t :: r = bmV from beq_iff_eq.mp e)
  | .str i t :: r, e => nomatch (show Value.str i t :: r = bmV from beq_iff_eq.mp e)
  | .builtin i :: r, e => nomatch (show Value.builtin i :: r = bmV from beq_iff_eq.mp e)
  | .bytes i t :: r, e => nomatch (show Value.bytes i t :: r = bmV from beq_iff_eq.mp e)
  | .ellipsis :: r, e => nomatch (show Value.ellipsis :: r = bmV from beq_iff_eq.mp e)
section
variable {prog : Program} {w : World} {A : Around} {E : Value -> Shared -> Prop} {s : Shared} {K : W.Frag} {x C : Addr} {ox : Obj} {cd : ClassData} {name : Str} {v : Value}
theorem exc_osa {R : Result -> Shared -> Prop} {tk : Tok} (X : K.In s.heap) (I : W.InstAt s.heap x ox C none) (hc : W.clsIn K C = some cd) (hp : passE cd.mro = true) (ho : W.mroIn K C (.type "object") = some true) (ht : W.takerIn K C name = some none)
    (h : ∀ b, wpAny (model prog w) A.in1 (Builtin.ObjectAttr.storeInOwnDict (.ref x) (.ref C) (.str name tk) name v b)
      (fun fin s' => match fin with | .done f => R (.ok f) s' | .again c' => c'.quiet = true /\ codeAny (model prog w) A c' R s') (fun e s' => R (.error e) s') s) :
    codeAny (model prog w) A (.call (.builtin "object.__setattr__") ⟨[.ref x, .str name tk, v], []⟩) R s := by
  have SF := PySem.F.store_object
  have sub : W.Looks (model prog w) s.heap (isInstance (.ref x) (.type "object")) true := I.type.andThen (W.looks_mroIn X ho)
  refine codeAny_call_builtin SF.slot.plain SF.entry (@W.check_slot (model prog w) _ _ s "object.__setattr__" "object" "__setattr__" (.ref x) [.str name tk, v] [] _ SF.kind SF.split sub (SF.args (.ref x) (.str name tk) v) ?_)
  obtain ⟨attr, ha, hr⟩ := Option.bind_eq_some_iff.mp ht
  have hm : W.Looks (model prog w) s.heap (mroOf (.ref C)) cd.mro := (W.looks_clsIn X hc).andThen .now
  have L3 : W.Looks (model prog w) s.heap (Builtin.ObjectAttr.storeTaker? attr) none := by
    cases attr with
    | none => exact .now
    | some a =>
      obtain ⟨b, hb, hq⟩ := Option.map_eq_some_iff.mp hr
      refine (W.looks_takesIn X hb).andThen ?_
      cases b
      . exact .now
      . cases hq
  rw [W.osa_eq, refuse_eq]
  refine wpAny_bind (wpAny_bind (I.type.here (wpAny_bind (hm.here ?_))))
  rw [passE_loop _ hp]
  refine wpAny_pure (wpAny_bind (I.type.here (wpAny_bind ((W.looks_findIn X ha).here (wpAny_bind (L3.here ?_))))))
  exact h _
theorem exc_store {Q : Unit -> Shared -> Prop} (X : K.In s.heap) (I : W.InstAt s.heap x ox C none) (hc : W.clsIn K C = some cd) (hd : cd.hasDict = true) (hp : passE cd.mro = true) (ho : W.mroIn K C (.type "object") = some true) (ht : W.takerIn K C name = some none)
    (hs : W.findIn K (.ref C) "__setattr__" = some (some (.builtin "object.__setattr__")))
    (hq : ∀ (h' : Heap) (tk' : Nat), h'.get? x = some { ox with dict := some s.heap.objs.size } -> h'.Ns1 s.heap.objs.size (fun y => if y = name then some v else none) ->
      (∀ b o, b ≠ x -> s.heap.get? b = some o -> h'.get? b = some o) -> Q () { s with heap := h', toks := tk' }) :
    wpAny (model prog w) A (setAttr (.ref x) name v) Q E s := by
  refine W.set_plain X I hs (exc_osa (s := { s with toks := s.toks + 1 }) X I hc hp ho ht fun b => ?_)
  obtain ⟨hx, hxc, hno, hdn⟩ := id I
  obtain ⟨hh, g, d, t, os⟩ := s
  obtain ⟨oc, od, odt, osl⟩ := ox
  have hdn' : od = none := by cases od with | none => rfl | some _ => exact hdn.elim
  subst hdn'
  have hxc' : oc = .ref C := hxc
  subst hxc'
  have hx₁ : (hh.push { cls := .type "dict", data := .dict #[] }).get? x = some ⟨.ref C, none, odt, osl⟩ := Heap.get?_push_of_some _ hx
  have hxs : x ≠ hh.objs.size := Nat.ne_of_lt (Heap.lt_size hx)
  have hgd : ((hh.push { cls := .type "dict", data := .dict #[] }).update x fun o => { o with dict := some hh.objs.size }).get? hh.objs.size = some { cls := .type "dict", data := .dict #[] } :=
    (Heap.get?_update_ne _ _ _ _ hxs.symm).trans (Heap.get?_push_at rfl rfl)
  have hnd : ((hh.push { cls := .type "dict", data := .dict #[] }).update x fun o => { o with dict := some hh.objs.size }).Ns hh.objs.size (fun _ => none) :=
    ⟨_, #[], _, hgd, rfl, fun e he => absurd he (by simp), fun _ => rfl⟩
  refine wpAny_bind (wpAny_pure (wpAny_bind (wpAny_bind (wpAny_loadPart hx (wpAny_bind (PySem.W.Looks.here (s := ⟨hh, g, d, t + 1, os⟩) (PySem.W.looks_clsIn X hc) ?_))))))
  rw [hd]
  rw [if_neg (by decide)]
  dsimp only
  rw [if_neg (by simp [typeHasDict])]
  have go : ∀ {QQ : Option Addr -> Shared -> Prop} {EE : Value -> Shared -> Prop}, (QQ (some hh.objs.size) ⟨(hh.push { cls := .type "dict", data := .dict #[] }).update x fun o => { o with dict := some hh.objs.size }, g, d, t + 1, os⟩) ->
      wpAny (model prog w) A.in1 (do
        let d <- alloc { cls := Value.type "dict", data := Data.dict #[] }
        update x fun o => { cls := o.cls, dict := some d, data := o.data, slots := o.slots }
        dictMade (.ref C) x d) QQ EE ⟨hh, g, d, t + 1, os⟩ := fun h => wpAny_bind (wpAny_alloc (wpAny_bind (wpAny_update hx₁ (wpAny_pure h))))
  split
  . rename_i c
    exact absurd hno (by unfold W.notCls; simp)
  . refine go ?_
    show wpAny _ _ (Builtin.ObjectAttr.storeInDict hh.objs.size (.str name _) name v) _ _ _
    unfold Builtin.ObjectAttr.storeInDict Builtin.ObjectAttr.newKeyGuard
    refine wpAny_bind (wpAny_pure (wpAny_bind (wpAny_nsSet1 (Heap.Ns1.of_empty hnd) fun h' hn' hs => ?_)))
    obtain ⟨oD, esD, epD, hoD, hdD, hcD⟩ := hn'.count (Within.cons name v Within.nil)
    refine wpAny_bind (wpAny_lookBehind hoD (by rw [hdD]; exact pastItsLine_dict (Nat.le_trans hcD (by rw [List.length_cons, List.length_nil, sizeLine_eq]; omega))) ?_)
    refine wpAny_pure (hq h' (t + 1 + 1) ((hs.2 x hxs).trans (Heap.get?_update_self _ hx₁ ?_)) hn' fun b o hbx hb => (hs.2 b (Nat.ne_of_lt (Heap.lt_size hb))).trans ((Heap.get?_update_ne _ _ _ _ hbx).trans (Heap.get?_push_of_some _ hb)))
    have hfr := (Heap.get?_some_iff.mp hx).2
    cases odt <;> first | rfl | exact hfr
end
section
variable {prog : Program} {w : World} {M : Model} {A : Around} {E : Value -> Shared -> Prop} {h : Heap} {g : Array GenState} {d : Drawn} {t : Nat} {os : OsState}
theorem super_meth_vi {so D x C : Addr} {l₀ l : List Value} {K : W.Frag} {name : Str} {pl : Sem Bool} {Q : Value × List Value -> Shared -> Prop}
    (hso : h.get? so = some { cls := .type "super", dict := none, data := .fields #[.ref D, .ref x, .ref C], slots := #[] }) (hno : W.Looks (model prog w) h (opaqueClassAbove (.ref C)) none)
    (hC : W.Looks (model prog w) h (mroOf (.ref C)) l₀) (hl : (l₀.dropWhile (· != .ref D)).drop 1 = l) (X : K.In h) (hx : W.Looks (model prog w) h (typeOf (.ref x)) (.ref C)) (hv : W.Looks (model prog w) h (isSubtype (.ref C) (.type "ValueError")) true)
    (hf : W.alongIn K name l = some (some (.builtin "ValueError.__init__"))) (hxC : x ≠ C) (hn : (name == ("__class__" : Str)) = false)
    (hq : Q (.ref h.objs.size, []) ⟨h.push { cls := .type "method-wrapper", data := .fields #[.builtin "ValueError.__init__", .ref x] }, g, d, t + 1, os⟩) :
    wpAny (model prog w) A (getMethod (.ref so) name pl) Q E ⟨h, g, d, t, os⟩ := by
  have hlk := F.ks_slot_super_ga.lookup
  have hcan := F.ks_canon_super_ga
  have hT : ∀ t', (⟨h, g, d, t', os⟩ : Shared).TypeIs (.ref so) "super" := fun _ => ⟨_, hso, rfl⟩
  unfold getMethod
  refine wpAny_bind (wpAny_specialOf (hT _) hlk ?_)
  show wpAny _ _ (if (Manifest.canonical "super.__getattribute__" != "object.__getattribute__") = true then _ else _) _ _ _
  rw [if_pos hcan]
  unfold getAttr getAttrBy
  refine wpAny_bind (wpAny_bind (wpAny_mkText (wpAny_holding (wpAny_bind (wpAny_typeOf (hT _) (wpAny_bind (wpAny_of_eq hlk ?_)))))))
  show wpAny _ _ (getAttrByItsOwn (.ref so) (.str name t) (.type "super") (.builtin "super.__getattribute__") true false) _ _ _
  unfold getAttrByItsOwn hookBefore callGetattribute boundAndCalled
  refine wpAny_bind (wpAny_of_eq (show (if onTheHeap (.type "super") then typeLookup (.type "super") "__getattr__" else pure none) = pure none from rfl) ?_)
  refine wpAny_bind (wpAny_attempt (wpAny_holding ?_))
  show wpAny _ _ (bindSpecial (.builtin "super.__getattribute__") (.ref so) >>= _) _ _ _
  refine wpAny_bind (wpAny_of_eq (F.ks_slot_super_ga.bind _) ?_)
  refine wpAny_mono (Q := fun v s' => v = .ref h.objs.size /\ s' = ⟨h.push { cls := .type "method-wrapper", data := .fields #[.builtin "ValueError.__init__", .ref x] }, g, d, t + 1, os⟩) (E := fun _ _ => False)
    (wpAny_call_entry F.ks_slot_super_ga (hT _) F.ks_entry_super_ga (super_ga_vi hso hno hC hl X hx hv hf hxC hn ⟨_, rfl, rfl, rfl⟩) (F.ks_gaArgs_super _ _)) (fun v s' hv => ?_) fun _ _ z => z.elim
  obtain ⟨rfl, rfl⟩ := hv
  exact wpAny_pure (wpAny_pure hq)
theorem cb_vi {nm q : Str} {C N x : Addr} {bs bm : List Value} {hdct : Bool} {sn : List Str} {sub : List Value} {ab : Bool} {col : Option Bool} {dd : Option Addr} {k0 k1 k2 k3 k5 : Option Value} {newId : String} {ox : Obj} {a : Value} {Q : Unit -> Shared -> Prop}
    (hC : h.get? C = some (excClassObj nm q C N bs bm hdct sn sub ab col dd k0 k1 k2 k3 k5 newId)) (T : OwnTail h bmV bm) (he : h.get? x = some ox) (hcls : ox.cls = .ref C) (hq : Q () ⟨h, g, d, t, os⟩) :
    wpAny M A (checkBoundCall "ValueError.__init__" ⟨[.ref x, a], []⟩) Q E ⟨h, g, d, t, os⟩ := by
  have F := F.excBase_ValueError
  have hcB : (Value.ref C :: bm).contains (.type "ValueError") = true := by rw [List.contains_cons, T.hasType F.hasB, Bool.or_true]
  have hshort := F.noStar
  simp only [checkBoundCall, F.initKind, F.initRow]
  repeat (first | (with_reducible refine wpAny_loadPart_at he ?_; rw [hcls]) | with_reducible refine wpAny_loadPart_at hC ?_ | (with_reducible refine wpAny_isSubtype_exc hC ?_; rw [hcB]) | wp_step)
  exact hq
theorem call_wrap_vi {nm qn : Str} {N : Addr} {bs bm : List Value} {hdct : Bool} {sn : List Str} {sub : List Value} {ab : Bool} {col : Option Bool} {dd : Option Addr} {k0 k1 k2 k3 k5 : Option Value} {newId : String} {q x C : Addr} {t0 : Addr} {a : Value} {ox : Obj} {vs : Array Value} {Q : Value -> Shared -> Prop} (hC : h.get? C = some (excClassObj nm qn C N bs bm hdct sn sub ab col dd k0 k1 k2 k3 k5 newId)) (T : OwnTail h bmV bm) (hxc : ox.cls = .ref C) (hq : h.get? q = some { cls := .type "method-wrapper", data := .fields #[.builtin "ValueError.__init__", .ref x] })
    (hx : h.get? x = some ox) (hd : ox.data = .fields vs) (h0 : vs[0]? = some (.ref t0))
    (k : Q .none ⟨(h.push { cls := .type "tuple", data := .seq #[a] }).update x (Obj.mapFields fun y => y.setIfInBounds 0 (.ref h.objs.size)), g, d, t, os⟩) :
    wpAny (model prog w) A (call (.ref q) [a]) Q E ⟨h, g, d, t, os⟩ := by
  refine wpAny_call (codeAny_of_tree ?_)
  show wpAny _ A.in1 (callAny (.ref q) ⟨[a], []⟩) _ _ _
  unfold callAny
  refine wpAny_bind (wpAny_load hq ?_)
  show wpAny _ _ (checkBoundCall "ValueError.__init__" ⟨[.ref x, a], []⟩ >>= fun _ => again (.builtin "ValueError.__init__" ⟨[.ref x, a], []⟩)) _ _ _
  refine wpAny_bind (cb_vi hC T hx hxc (wpAny_pure ⟨plainId_quiet (by decide +kernel) _, codeAny_builtin F.excBase_ValueError.initEntry ?_⟩))
  rw [Around.under_plainId (by decide +kernel) _]
  have hsz : 0 < vs.size := by
    rcases Nat.lt_or_ge 0 vs.size with z | z
    . exact z
    . rw [Array.getElem?_eq_none z] at h0; cases h0
  have hxp : (h.push { cls := .type "tuple", data := .seq #[a] }).get? x = some ox := Heap.get?_push_of_some _ hx
  unfold Builtin.«BaseException.__init__»
  dsimp only
  rw [if_neg (by decide)]
  refine wpAny_bind (wpAny_newObj_type ?_ (by size_fits))
  unfold Builtin.BaseException.bexcPut
  refine wpAny_bind (wpAny_bind (wpAny_field hxp hd h0 (wpAny_bind (wpAny_setField hxp hd hsz ?_))))
  wp_walk
  exact k
end
theorem call_mw {M : Model} {A : Around} {E : Value -> Shared -> Prop} {s : Shared} {env : Env} {pos : Pos} {q : Addr} {fs : Array Value} {arg : Expr} {Q : Value -> Shared -> Prop}
    (h : wpAny M A (eval arg env) (fun v s₁ => s₁.heap.get? q = some { cls := .type "method-wrapper", data := .fields fs } /\ wpAny M A (call (.ref q) [v]) Q E s₁) E s)
    (he : starEach [arg] env = [(false, eval arg env)] := by rfl) : wpAny M A (callWith pos (.ref q) [] (backTo pos (starEach [arg] env)) []) Q E s := by
  refine W.callWith_of (P := fun h => h.get? q = some { cls := .type "method-wrapper", data := .fields fs }) (by rw [he]; rfl) (fun h ho => ⟨.machine, .inr (.inl rfl), (W.Looks.ld (part := none) ho).andThen .now⟩) ?_
  rw [he]
  refine Calls.evalArgs_plain ?_
  show wpAny _ _ (spliced ((false, eval arg env) :: backTo pos [])) _ _ s
  exact Calls.spliced_cons (wpAny_mono h (fun v s₁ h₁ => wpAny_pure h₁) fun _ _ z => z)
def fText (x z : Str) : List Expr -> Str -> Option Str
  | [], acc => some acc
  | .Constant (.str y) _ _ :: r, acc => if (acc ++ y).length <= sizeLine then fText x z r (acc ++ y) else none
  | .FormattedValue (.Name n _) (-1) none _ :: r, acc => if n = x /\ (n == ("__debug__" : Str)) = false /\ (acc ++ z).length <= sizeLine /\ z.length <= sizeLine then fText x z r (acc ++ z) else none
  | _ :: _, _ => none
section
variable {prog : Program} {w : World} {A : Around} {E : Value -> Shared -> Prop} {env : Env} {m : Str -> Option Value} {x z out : Str} {tk : Tok} {Q : Value -> Shared -> Prop}
theorem joinF (hk : env.scope.kind = .function) (hl : env.kindOf x = some .local) (hv : m x = some (.str z tk)) : ∀ {es : List Expr} {acc : Str} {s : Shared}, s.heap.Ns env.locals m -> fText x z es acc = some out -> out.length <= sizeLine -> (∀ t1 t2, Q (.str out t1) { s with toks := t2 }) ->
    wpAny (model prog w) A (joinParts acc (evalEach es env)) Q E s
  | [], acc, s, hn, e, hz, h => by
    cases e
    exact joinParts_nil (h _ _) hz
  | e :: r, acc, s, hn, hf, hz, h => by
    refine (show wpAny (model prog w) A (joinParts acc (eval e env :: evalEach r env)) Q E s from joinParts_cons ?_)
    unfold fText at hf
    split at hf
    . rename_i he; cases he
    . rename_i y k p r' acc' he
      cases he
      split at hf
      . rename_i hle
        exact Calls.Constant_str ⟨hle, joinF hk hl hv (s := { s with toks := s.toks + 1 }) hn hf hz fun t1 t2 => h t1 t2⟩
      . cases hf
    . rename_i n p1 p2 r' acc' he
      cases he
      split at hf
      . rename_i hc
        obtain ⟨hx, hd, hle, hzl⟩ := hc
        rw [hx] at hd
        rw [hx]
        refine FormattedValue_plain (wpAny_Name (wpAny_loadName_local hk hl hn hv (formatField_str (fun t' tk' => ⟨hle, joinF hk hl hv (s := { s with toks := tk' }) hn hf hz fun t1 t2 => h t1 t2⟩) hzl)) hd)
      . cases hf
    . cases hf
theorem fstrF {e1 e2 : Expr} {es : List Expr} {pos : Pos} {s : Shared} (hk : env.scope.kind = .function) (hl : env.kindOf x = some .local) (hv : m x = some (.str z tk)) (hn : s.heap.Ns env.locals m) (hf : fText x z (e1 :: e2 :: es) Str.empty = some out) (hz : out.length <= sizeLine)
    (h : ∀ t1 t2, Q (.str out t1) { s with toks := t2 }) : wpAny (model prog w) A (eval (.JoinedStr (e1 :: e2 :: es) pos) env) Q E s := JoinedStr_many (joinF hk hl hv hn hf hz h)
end
abbrev initB (e1 e2 : Expr) (es : List Expr) (x : Str) (p0 p1 p2 p3 p4 p5 p6 p7 p8 p9 : Pos) : List Stmt :=
  [.Expr (.Call (.Attribute (.Call (.Name "super" p0) [] [] p1) "__init__" p2) [.JoinedStr (e1 :: e2 :: es) p3] [] p4) p5, .Assign [.Attribute (.Name "self" p6) x p7] (.Name x p8) p9]
abbrev excN (C t : Addr) : Obj := { cls := .ref C, data := .fields #[.ref t, .none, .none, .none, .bool false, .none] }
theorem meth_eq {o : Expr} {name : Str} {apos pos : Pos} {e : Expr} {env : Env} (hl : apos.endLine = pos.line) (he : starEach [e] env = [(false, eval e env)] := by rfl) : eval (.Call (.Attribute o name apos) [e] [] pos) env = (do
    let ov <- attributeBase o name env (eval o env)
    standAt apos.atName
    let (f, first) <- holding [ov] (getMethod ov name (do return (<- importBound o env).getD true))
    callWith pos f first (backTo pos (starEach [e] env)) []) := by
  have hpos : methodCallPos true o env apos pos = pure pos := by unfold methodCallPos; simp [hl]
  have hform : methodCallForm ([e].length + ([] : List Keyword).length) (backTo pos (starEach [e] env)) (backToKw pos (keywordEach [] env)) = true := by rw [he]; rfl
  rw [arm_eval_Call]
  unfold methodCall calleeOf
  rw [hform, hpos]
  simp only [if_true, pure_bind]
  rfl
section
variable {prog : Program} {w : World} {A : Around} {E : Value -> Shared -> Prop} {s : Shared} {K : W.Frag} {mg mb : Str -> Option Value} {e1 e2 : Expr} {es : List Expr} {x z out qual : Str} {tk : Tok} {p0 p1 p2 p3 p4 p5 p6 p7 p8 p9 : Pos} {Q : Value -> Shared -> Prop}
  {fI C cda cc e t : Addr} {od cdd cld an : Option Addr} {oc ccl cl dV kV doc pm ct : Value} {osl ccs csl : Array (Option Value)} {params : Arguments} {scope : Scope} {vs : Array Value} {file : Str} {tf : Tok} {cd : ClassData} {ar : Arg}
  {nm qn : Str} {N : Addr} {bs bm : List Value} {hdct : Bool} {sn : List Str} {sub : List Value} {ab : Bool} {col : Option Bool} {dd : Option Addr} {k0 k1 k2 k3 k5 : Option Value} {newId : String}
theorem init_run (X : K.In s.heap) (hg : s.heap.Ns mainGlobals mg) (hsup : mg "super" = none) (hb : s.heap.Ns builtinsNs mb) (hbs : mb "super" = some (.type "super")) (hlim : s.heap.NoLimit) (hroom : A.depth < recursionLimit)
    (lk : K.lookup fI = some ⟨oc, od, .func (W.ksFn "__init__" qual params (initB e1 e2 es x p0 p1 p2 p3 p4 p5 p6 p7 p8 p9) scope dV kV doc pm an (.ref cda) ct cc), osl⟩) (hcd : W.codeIn K (.ref cda) qual = true)
    (hcda : K.lookup cda = some ⟨ccl, cdd, .fields vs, ccs⟩) (hvs : vs[2]? = some (.str file tf)) (hfile : ((prog.main.file : Str) == file) = true) (htop : (prog.main.scope.names.lookup ("super" : Str)).isSome = false)
    (hcc : K.lookup cc = some ⟨cl, cld, .cell (some (.ref C)), csl⟩) (hC : W.clsIn K C = some cd) (hhd : cd.hasDict = true) (hpe : passE cd.mro = true) (hself : W.mroIn K C (.ref C) = some true) (hobj : W.mroIn K C (.type "object") = some true) (hve : W.mroIn K C (.type "ValueError") = some true)
    (hop : W.nsIn K cStatics "thirdparty.any" = some none) (hal : W.ks_superIn K C C "__init__" = some (some (.builtin "ValueError.__init__"))) (htk : W.takerIn K C x = some none) (hsa : W.findIn K (.ref C) "__setattr__" = some (some (.builtin "object.__setattr__")))
    (hcls : s.heap.get? C = some (excClassObj nm qn C N bs bm hdct sn sub ab col dd k0 k1 k2 k3 k5 newId)) (hT : OwnTail s.heap bmV bm) (hce : C ≠ e)
    (hbind : BindsTo s (W.ksFn "__init__" qual params (initB e1 e2 es x p0 p1 p2 p3 p4 p5 p6 p7 p8 p9) scope dV kV doc pm an (.ref cda) ct cc) ⟨[.ref e, .str z tk], []⟩ [("self", .ref e), (x, .str z tk)]) (hp : (params.posonlyargs ++ params.args).head? = some ar) (har : ar.arg = "self")
    (hks : scope.names.lookup ("super" : Str) = some .globalImplicit) (hkc : scope.names.lookup ("__class__" : Str) = some .free) (hsl : scope.names.lookup ("self" : Str) = some .local) (hxl : scope.names.lookup x = some .local) (hxs : x ≠ "self") (hxd : (x == ("__debug__" : Str)) = false)
    (hcell : ∀ y ∈ scope.names, y.2 ≠ .cell) (hk : scope.kind = .function) (hco : scope.isCoroutine = false) (hgen : scope.isGenerator = false)
    (hf : fText x z (e1 :: e2 :: es) Str.empty = some out) (hz : out.length <= sizeLine)
    (hx : s.heap.get? e = some (excN C t)) (hln : p2.endLine = p4.line) (hKe : K.lookup e = none)
    (q : ∀ (h' : Heap) (tk' : Nat) (t2 dx : Addr), h'.get? e = some { excN C t2 with dict := some dx } -> h'.Ns1 dx (fun y => if y = x then some (.str z tk) else none) -> s.heap.get? dx = none -> (∀ b o, b ≠ e -> s.heap.get? b = some o -> h'.get? b = some o) -> Q .none { s with heap := h', toks := tk' }) :
    wpAny (model prog w) A (call (.ref fI) [.ref e, .str z tk]) Q E s := by
  obtain ⟨sk, sns, sg, sco, smo⟩ := scope
  obtain rfl : sk = .function := hk
  obtain rfl : sg = false := hgen
  obtain rfl : sco = false := hco
  refine wpAny_call (ks_codeAny_call_defAt hroom (X _ _ lk) rfl hlim (W.codeRec_of X hcd) rfl hbind hcell (fun y hy => ?_) (fun h1 hns1 kp1 => ?_))
  . rcases List.mem_cons.mp hy with rfl | hy
    . exact hsl
    . rw [List.mem_singleton.mp hy]; exact hxl
  have hm1 : ∀ v, ([("self", Value.ref e), (x, v)] : List (Str × Value)).reverse.lookup ("self" : Str) = some (.ref e) := fun v => by
    simp [List.lookup_cons, beq_eq_false_iff_ne.mpr (Ne.symm hxs)]
  have hm2 : ∀ v, ([("self", Value.ref e), (x, v)] : List (Str × Value)).reverse.lookup x = some v := fun v => by simp [List.lookup_cons]
  have X1 : K.In h1 := X.keeps kp1
  have ksup : ∀ {Q' : Value -> Shared -> Prop} {E' : Value -> Shared -> Prop} {A' : Around} {s' : Shared}, (∀ b o, h1.get? b = some o -> s'.heap.get? b = some o) -> Q' (.type "super") s' -> wpAny (model prog w) A' (loadName (W.ksEnv qual ⟨.function, sns, false, false, smo⟩ s.heap.objs.size fI (.ref cda) cc) "super") Q' E' s' := fun k hq =>
    W.ks_loadName_global rfl hks (Calls.loadGlobal_builtin ((hg.keeps kp1).keeps k) hsup ((hb.keeps kp1).keeps k) hbs hq)
  obtain ⟨oD, hD1, hD2⟩ : ∃ oD, h1.get? C = some oD /\ oD.data = .cls cd := by
    unfold W.clsIn at hC
    split at hC
    . rename_i c d cd' sl ho
      cases hC
      exact ⟨_, X1 _ _ ho, rfl⟩
    . cases hC
  have I1 : W.InstAt h1 e (excN C t) C none := ⟨kp1 _ _ hx, rfl, rfl, trivial⟩
  refine ks_wpAt_execs_cons (ks_wpAt_Expr_any (ks_wpAt_MethodCall (he := meth_eq hln) (ks_wpAt_super_base (env := W.ksEnv qual ⟨.function, sns, false, false, smo⟩ s.heap.objs.size fI (.ref cda) cc) hks hkc (by decide +kernel) rfl (X1 _ _ lk) rfl hp rfl (X1 _ _ hcda) rfl hvs hfile htop ?_)))
  refine ksup (fun _ _ z => z) ⟨rfl, ?_⟩
  refine wpAny_loadName_free rfl hkc rfl ⟨_, X1 _ _ hcc, rfl⟩ ?_
  rw [har]
  refine wpAny_loadName_local rfl hsl hns1 (hm1 _) ?_
  refine ks_wpAny_isType_cls hD1 hD2 ⟨rfl, ?_⟩
  refine ks_wpAny_call_super hD1 hD2 I1.at_ rfl (fun c h => nomatch h) (W.looks_mroIn X1 hself) (fun h2 e2' k2 => ?_)
  have X2 : K.In h2 := X1.keeps k2
  have I2 : W.InstAt h2 e (excN C t) C none := ⟨k2 _ _ I1.at_, rfl, rfl, trivial⟩
  unfold W.ks_superIn at hal
  rw [hC] at hal
  refine super_meth_vi e2' (W.looks_opaque X2 hop) (l₀ := cd.mro) (fun A Q E s k q => wpAny_bind ((W.looks_clsIn X2 hC) A _ E s k (wpAny_pure q))) rfl X2 I2.type (W.looks_mroIn X2 hve) hal (Ne.symm hce) (by decide +kernel) ?_
  have hq3 : (h2.push { cls := .type "method-wrapper", data := .fields #[.builtin "ValueError.__init__", .ref e] }).get? h2.objs.size = some { cls := .type "method-wrapper", data := .fields #[.builtin "ValueError.__init__", .ref e] } := Heap.get?_push_size h2 rfl
  have k3 : ∀ b o, h2.get? b = some o -> (h2.push { cls := .type "method-wrapper", data := .fields #[.builtin "ValueError.__init__", .ref e] }).get? b = some o := fun b o q => Heap.get?_push_of_some _ q
  generalize (h2.push { cls := .type "method-wrapper", data := .fields #[.builtin "ValueError.__init__", .ref e] }) = h3 at hq3 k3 ⊢
  have k13 : ∀ b o, h1.get? b = some o -> h3.get? b = some o := fun b o q => k3 b o (k2 b o q)
  refine call_mw (fstrF rfl hxl (hm2 _) (hns1.keeps k13) hf hz fun t1 t2 => ⟨hq3, ?_⟩)
  refine call_wrap_vi (k13 _ _ (kp1 _ _ hcls)) ((hT.keeps kp1).keeps k13) (ox := excN C t) rfl hq3 (k13 _ _ I1.at_) rfl rfl ?_
  have hsz3 : h3.objs.size ≠ e := fun z => absurd (Heap.lt_size (k13 _ _ I1.at_)) (by rw [z]; exact Nat.lt_irrefl _)
  have he4 : ((h3.push { cls := .type "tuple", data := .seq #[Value.str out t1] }).update e (Obj.mapFields fun y => y.setIfInBounds 0 (.ref h3.objs.size))).get? e = some (excN C h3.objs.size) := Heap.get?_update_self _ (Heap.get?_push_of_some _ (k13 _ _ I1.at_)) rfl
  have k4 : ∀ b o, b ≠ e -> h3.get? b = some o -> ((h3.push { cls := .type "tuple", data := .seq #[Value.str out t1] }).update e (Obj.mapFields fun y => y.setIfInBounds 0 (.ref h3.objs.size))).get? b = some o := fun b o hb q => (Heap.get?_update_other _ _ (Ne.symm hb)).trans (Heap.get?_push_of_some _ q)
  generalize ((h3.push { cls := .type "tuple", data := .seq #[Value.str out t1] }).update e (Obj.mapFields fun y => y.setIfInBounds 0 (.ref h3.objs.size))) = h4 at he4 k4 ⊢
  have k14 : ∀ b o, b ≠ e -> h1.get? b = some o -> h4.get? b = some o := fun b o hb q => k4 b o hb (k13 b o q)
  have X4 : K.In h4 := fun a o ho => k14 a o (fun z => by subst z; rw [hKe] at ho; cases ho) (X1 a o ho)
  have hLe : s.heap.objs.size ≠ e := fun z => absurd (Heap.lt_size hx) (by rw [z]; exact Nat.lt_irrefl _)
  have hns4 : h4.Ns s.heap.objs.size (fun y => ([("self", Value.ref e), (x, Value.str z tk)] : List (Str × Value)).reverse.lookup y) := by
    obtain ⟨o, es', ep, ho, r⟩ := hns1
    exact ⟨o, es', ep, k14 _ _ hLe ho, r⟩
  refine ks_wpAt_execs_cons (ks_wpAt_Assign_Attr (wpAt_of_wpAny (wpAny_Name (wpAny_loadName_local rfl hxl hns4 (hm2 _) (wpAny_Name (wpAny_loadName_local rfl hsl hns4 (hm1 _) ?_))) hxd)))
  refine exc_store X4 (ox := excN C h3.objs.size) ⟨he4, rfl, rfl, trivial⟩ hC hhd hpe hobj htk hsa (fun h5 tk5 o5 n5 k5 => ?_)
  refine wpAt_of_wpAny (wpAny_pure ?_)
  refine q h5 tk5 h3.objs.size h4.objs.size o5 n5 ?_ fun b o hb e' => k5 b o hb (k14 b o hb (kp1 b o e'))
  cases r : s.heap.get? h4.objs.size with
  | none => rfl
  | some o => exact absurd (Heap.lt_size (k14 _ _ (fun z => absurd (Heap.lt_size he4) (by rw [<- z]; exact Nat.lt_irrefl _)) (kp1 _ _ r))) (Nat.lt_irrefl _)
end
end L2

namespace L2
open PySem PySem.Spec PyProof.Rows
theorem ns_some {K : W.Frag} {h : Heap} {N : Addr} {m : Str -> Option Value} {n : Str} {v : Value} (X : K.In h) (G : h.Ns N m) (e : W.nsIn K N n = some (some v)) : m n = some v := by
  obtain ⟨o, es, ep, ho, hd, _, hf⟩ := G
  unfold W.nsIn at e
  split at e
  . rename_i c d es' n' sl q
    have := X _ _ q
    rw [ho] at this
    cases this
    cases hd
    split at e
    . rename_i en he
      cases e
      rw [<- hf]
      unfold nsFind findBy
      rw [<- Array.find?_toList, he]
      rfl
    . split at e <;> cases e
  . cases e
def excInI (K : W.Frag) (C : Addr) (bmB : List Value) (newId : String) (fI : Addr) : Bool := match K.lookup C with
  | some ⟨.type "type", _, .cls cd, sl⟩ => (match cd.mro, sl.toList with
    | .ref C' :: bm, [_, _, _, _, some (.builtin n), _] => C' == C && n == newId && !cd.hasDel && W.tailIn K bmB bm && W.nsOkIn K cd.ns && W.nsIn K cd.ns "__init__" == some (some (.ref fI))
    | _, _ => false)
  | _ => false
theorem excObjI_of {K : W.Frag} {h : Heap} {C fI : Addr} {bmB : List Value} {newId : String} (KX : K.In h) (e : excInI K C bmB newId fI = true) :
    ∃ bm N nm q bs hdct sn sub ab col dd k0 k1 k2 k3 k5 mN, h.get? C = some (excClassObj nm q C N bs bm hdct sn sub ab col dd k0 k1 k2 k3 k5 newId) /\ h.Ns N mN /\ mN "__init__" = some (.ref fI) /\ OwnTail h bmB bm := by
  unfold excInI at e
  split at e
  . rename_i dict cd sl hl
    split at e
    . rename_i C' bm k0 k1 k2 k3 n k5 hm hs
      simp only [Bool.and_eq_true, beq_iff_eq, Bool.not_eq_true'] at e
      obtain ⟨⟨⟨⟨⟨e1, e2⟩, e3⟩, e4⟩, e5⟩, e6⟩ := e
      subst e1
      subst e2
      obtain ⟨nm, bs, mro, ns, qn, hdct, sn, sub, ab, col, hdel⟩ := cd
      have hm' : mro = .ref C' :: bm := hm
      have e3' : hdel = false := e3
      subst hm'; subst e3'
      have hsl : sl = #[k0, k1, k2, k3, some (.builtin n), k5] := by
        have := congrArg List.toArray hs
        simpa using this
      subst hsl
      have hN := Heap.Ns.of_isNs (W.isNs_of_in KX e5)
      exact ⟨bm, ns, nm, qn, bs, hdct, sn, sub, ab, col, dict, k0, k1, k2, k3, k5, h.nsMap ns, KX _ _ hl, hN, ns_some KX hN e6, W.tail_of_in KX e4⟩
    . cases e
  . cases e
structure IniX (P : Program) (w : World) (K : W.Frag) (mg : Str -> Option Value) (c fld : Str) (f : Str -> Option Str) : Prop where
  ex : ∃ C fI oI, clsOf K c = some C /\ mg c = some (.ref C) /\ excInI K C bmV newV fI = true /\ K.lookup fI = some oI /\ oI.cls = .type "function" /\ W.mroIn K C (.type "BaseException") = some true /\
    ∀ {A : Around} {E : Value -> Shared -> Prop} {s : Shared} {z out : Str} {tk : Tok} {e t : Addr} {Q : Value -> Shared -> Prop}, K.In s.heap -> s.heap.Ns mainGlobals mg -> (∃ mb, s.heap.Ns builtinsNs mb /\ ∀ x : Str, x ≠ "__name__" -> mb x = bootBuiltins x) -> s.heap.NoLimit -> A.depth < recursionLimit -> K.lookup e = none ->
      f z = some out -> out.length <= sizeLine -> s.heap.get? e = some (excN C t) ->
      (∀ (h' : Heap) (tk' : Nat) (t2 dx : Addr), h'.get? e = some { excN C t2 with dict := some dx } -> h'.Ns1 dx (fun y => if y = fld then some (.str z tk) else none) -> s.heap.get? dx = none -> (∀ b o, b ≠ e -> s.heap.get? b = some o -> h'.get? b = some o) -> Q .none { s with heap := h', toks := tk' }) ->
      wpAny (model P w) A (call (.ref fI) [.ref e, .str z tk]) Q E s
def tRaiseI (K : W.Frag) (c fld : Str) (f : Str -> Option Str) (E : St -> XK) (t : TE) : TS := fun _ σ H => t σ H fun v H1 => ∃ z out C, v = .str z /\ f z = some out /\ out.length <= sizeLine /\ clsOf K c = some C /\ ∀ dx, H1 dx = none -> E σ (.ref C) (some dx) (upd H1 dx (.xd [(fld, .str z)]))
section
variable {X : Cx} {E : St -> XK} {k : Nat} {c fld : Str} {f : Str -> Option Str} {np cpos pos : Pos} {a : Expr} {t : TE}
theorem ps_raiseI (xm : XMk X E) (hc : X.calm = true) (hI : IniX X.prog X.w X.K X.mg c fld f) (hr : Room (k + 1) X.A) (hg : Gl X c) (ha : PE X a t) (hdb : (c == ("__debug__" : Str)) = false := by decide)
    (hst : starEach [a] X.env = [(false, eval a X.env)] := by rfl) :
    PS X (.Raise (some (.Call (.Name c np) [a] [] cpos)) none pos) (tRaiseI X.K c fld f E t) := by
  intro pins s σ H D I h
  obtain ⟨C, fI, oI, hC, hm, hin, hfI, hfc, hbase, run⟩ := hI.ex
  obtain ⟨bm, N, nm, q, bs, hdct, sn, sub, ab, col, dd, k0, k1, k2, k3, k5, mN, o1, o2, o3, o4⟩ := excObjI_of I.ok.mod.kin hin
  have hb : bm.contains (Value.type "BaseException") = true := o4.hasType (by decide +kernel)
  rw [arm_exec_Raise]
  simp only [evalOpt, Option.map]
  refine wpAny_bind (wpAny_standAt (raise_made (C := C) (nm := nm) (q := q) (N := N) (bs := bs) (bm := bm) (hdct := hdct) (sn := sn) (sub := sub) (ab := ab) (col := col) (dd := dd) (k0 := k0) (k1 := k1) (k2 := k2) (k3 := k3) (k5 := k5) (newId := newV) hb (I.ok.hd hc) ?_))
  refine wpAny_bind (wpAny_mono (wpAny_Call_ofName (ld_glob I hg hm ?_ hdb)) (fun v s₃ h₃ => wpAny_bind (wpAny_standAt (wpAny_pure h₃))) fun _ _ x => x)
  refine W.callWith_of (P := fun h => h.get? C = some (excClassObj nm q C N bs bm hdct sn sub ab col dd k0 k1 k2 k3 k5 newV)) (by rw [hst]; rfl) (fun h ho => ⟨.machine, .inr (.inl rfl), fun A Q E s k q => by
    obtain ⟨hp, g, d, tk, os⟩ := s
    exact wpAny_keeperOf_exc (k _ _ ho) q⟩) ?_
  rw [hst]
  refine Calls.evalArgs_plain ?_
  show wpAny _ _ (spliced ((false, eval a X.env) :: backTo cpos [])) _ _ s
  refine Calls.spliced_cons (thn (ha pins s σ H _ I h) fun u s2 ⟨v, H2, I2, rv, z, out, C', e1, hf, hz, hC', hE⟩ => wpAny_pure ⟨I2.bk _ _ o1, ?_⟩)
  rw [hC] at hC'; cases hC'
  subst e1
  obtain ⟨tk, rfl⟩ := rv
  have o2' := o2.keeps I2.bk
  obtain ⟨hp2, g2, d2, tk2, os2⟩ := s2
  refine call_exc_init F.excBase_ValueError (o4.keeps I2.bk) (I2.bk _ _ o1) o2' o3 (I2.kIn _ _ hfI) hfc (fun h' e mk => ?_) (by simp [sizeLine_eq])
  obtain ⟨kp, nw, tt, he, _, _⟩ := mk
  have hKe : X.K.lookup e = none := by
    cases r : X.K.lookup e with
    | none => rfl
    | some o => have := I2.kIn _ _ r; rw [nw] at this; cases this
  obtain ⟨mb, hb1, hb2⟩ := I.ok.mod.blt
  refine run (fun a o r => kp _ _ (I2.kIn a o r)) ((I.ok.mod.glob.keeps I2.bk).keeps kp) ⟨mb, (hb1.keeps I2.bk).keeps kp, hb2⟩ (I2.nolimit.keeps kp) (hr.make C [.str z tk] []).depth hKe hf hz he (fun h5 tk5 t2 dx o5 n5 dn k5 => ⟨rfl, ?_⟩)
  have kA : ∀ b o, hp2.get? b = some o -> h5.get? b = some o := fun b o r => k5 b o (fun z => by subst z; rw [nw] at r; cases r) (kp b o r)
  have dn2 : hp2.get? dx = none := by
    cases r : hp2.get? dx with
    | none => rfl
    | some o => have := kp _ _ r; rw [dn] at this; cases this
  have hHe : H2 e = none := by
    cases r : H2 e with
    | none => rfl
    | some o => obtain ⟨u, hu⟩ := (I2.hok e o r).there; rw [nw] at hu; cases hu
  have hHd : H2 dx = none := by
    cases r : H2 dx with
    | none => rfl
    | some o => obtain ⟨u, hu⟩ := (I2.hok dx o r).there; rw [dn2] at hu; cases hu
  have hne : e ≠ dx := fun z => by subst z; rw [he] at dn; cases dn
  have F0 := I2.fr0 xm.ex
  have I5 : Inv X pins σ (upd H2 dx (.xd [(fld, .str z)])) _ := (I2.kept (t' := tk5) kA).track F0 dn2 hHd ⟨_, n5, fun y => ?_⟩
  . refine ⟨e, t2, some dx, #[], rfl, kA _ _ (I2.bk _ _ o1), o5, xm.made (g := hp2) I5 F0 (fun b zb => ?_) ⟨_, _, o5, rfl, rfl, rfl, rfl, ?_, nw⟩ (hE dx hHd)⟩
    . cases r : hp2.get? b with
      | none => rfl
      | some o => have e1 := kA b o r; rw [show h5.get? b = none from zb] at e1; cases e1
    . rw [upd_ne hne]; exact hHe
  . by_cases hy : y = fld
    . subst hy
      rw [if_pos rfl, List.lookup_cons, beq_self_eq_true]
      exact ⟨_, rfl⟩
    . rw [if_neg hy, List.lookup_cons, beq_eq_false_iff_ne.mpr hy]
      trivial
end
section
variable {P : Program} {w : World} {K : W.Frag} {mg : Str -> Option Value} {e1 e2 : Expr} {es : List Expr} {c x qual : Str} {p0 p1 p2 p3 p4 p5 p6 p7 p8 p9 : Pos}
  {fI C cda cc : Addr} {od cdd cld an : Option Addr} {oc ccl cl dV kV doc pm ct : Value} {osl ccs csl : Array (Option Value)} {params : Arguments} {scope : Scope} {vs : Array Value} {file : Str} {tf : Tok} {cd : ClassData} {ar : Arg}
theorem ini_mk (a : clsOf K c = some C) (hm : mg c = some (.ref C)) (_hfi : W.findIn K (.ref C) "__init__" = some (some (.ref fI))) (hin : excInI K C bmV newV fI = true) (hfn : oc = .type "function") (hbe : W.mroIn K C (.type "BaseException") = some true) (hsup : mg "super" = none)
    (lk : K.lookup fI = some ⟨oc, od, .func (W.ksFn "__init__" qual params (initB e1 e2 es x p0 p1 p2 p3 p4 p5 p6 p7 p8 p9) scope dV kV doc pm an (.ref cda) ct cc), osl⟩) (hcd : W.codeIn K (.ref cda) qual = true)
    (hcda : K.lookup cda = some ⟨ccl, cdd, .fields vs, ccs⟩) (hvs : vs[2]? = some (.str file tf)) (hfile : ((P.main.file : Str) == file) = true) (htop : (P.main.scope.names.lookup ("super" : Str)).isSome = false)
    (hcc : K.lookup cc = some ⟨cl, cld, .cell (some (.ref C)), csl⟩) (hC : W.clsIn K C = some cd) (hhd : cd.hasDict = true) (hpe : passE cd.mro = true) (hself : W.mroIn K C (.ref C) = some true) (hobj : W.mroIn K C (.type "object") = some true) (hve : W.mroIn K C (.type "ValueError") = some true)
    (hop : W.nsIn K cStatics "thirdparty.any" = some none) (hal : W.ks_superIn K C C "__init__" = some (some (.builtin "ValueError.__init__"))) (htk : W.takerIn K C x = some none) (hsa : W.findIn K (.ref C) "__setattr__" = some (some (.builtin "object.__setattr__")))
    (hbind : ∀ (s : Shared) (u v : Value), BindsTo s (W.ksFn "__init__" qual params (initB e1 e2 es x p0 p1 p2 p3 p4 p5 p6 p7 p8 p9) scope dV kV doc pm an (.ref cda) ct cc) ⟨[u, v], []⟩ [("self", u), (x, v)]) (hp : (params.posonlyargs ++ params.args).head? = some ar) (har : ar.arg = "self")
    (hks : scope.names.lookup ("super" : Str) = some .globalImplicit) (hkc : scope.names.lookup ("__class__" : Str) = some .free) (hsl : scope.names.lookup ("self" : Str) = some .local) (hxl : scope.names.lookup x = some .local) (hxs : x ≠ "self") (hxd : (x == ("__debug__" : Str)) = false)
    (hcell : ∀ y ∈ scope.names, y.2 ≠ .cell) (hk : scope.kind = .function) (hco : scope.isCoroutine = false) (hgen : scope.isGenerator = false) (hln : p2.endLine = p4.line) :
    IniX P w K mg c x (fun z => fText x z (e1 :: e2 :: es) Str.empty) := ⟨C, fI, _, a, hm, hin, lk, hfn, hbe, fun {A E s z out tk e t Q} X hg hbl hlim hroom hKe hf hz hx q => by
  obtain ⟨mb, hb, hbs⟩ := hbl
  obtain ⟨bm, N, nm, qn, bs, hdct, sn, sub, ab, col, dd, k0, k1, k2, k3, k5, mN, o1, o2, o3, o4⟩ := excObjI_of X hin
  have hce : C ≠ e := fun h => by subst h; rw [hx] at o1; cases o1
  exact init_run X hg hsup hb ((hbs _ (by decide +kernel)).trans (by decide +kernel)) hlim hroom lk hcd hcda hvs hfile htop hcc hC hhd hpe hself hobj hve hop hal htk hsa o1 o4 hce (hbind _ _ _) hp har hks hkc hsl hxl hxs hxd hcell hk hco hgen hf hz hx hln hKe q⟩
end
def jParts : List Stmt -> List Expr
  | .Expr (.Call _ [.JoinedStr l _] _ _) _ :: _ => l
  | _ => []
end L2

namespace L2
open PySem PySem.Spec PyProof.Rows
theorem exc_attr {prog : Program} {w : World} {A : Around} {E : Value -> Shared -> Prop} {s : Shared} {K : W.Frag} {x D : Addr} {ox : Obj} {odo : Option Obj} {name : Str} {v : Value} {expr : Bool} {Q : Value -> Shared -> Prop} (KX : K.In s.heap) (J : W.InstAt s.heap x ox D odo)
    (hga : W.findIn K (.ref D) "__getattribute__" = some (some (.builtin "BaseException.__getattribute__"))) (hgh : W.findIn K (.ref D) "__getattr__" = some none)
    (hb : W.mroIn K D (.type "BaseException") = some true) (hf : W.findObj K D odo name = some (.value v)) (hv : W.handedIn v = true)
    (q : Q v { s with toks := s.toks + 1 }) : wpAny (model prog w) A (getAttr (.ref x) name expr) Q E s := by
  unfold getAttr
  refine wpAny_bind (wpAny_mkText ?_)
  unfold getAttrBy
  refine wpAny_holding (wpAny_bind (J.type.at ?_))
  refine wpAny_bind ((W.looks_findIn KX hga).at ?_)
  refine (show wpAny (model prog w) A (getAttrByItsOwn (.ref x) (.str name s.toks) (.ref D) (.builtin "BaseException.__getattribute__") true expr) _ _ _ from ?_)
  unfold getAttrByItsOwn
  refine wpAny_bind ((W.looks_findIn KX hgh).at ?_)
  refine wpAny_bind (wpAny_attempt (wpAny_holding ?_))
  have e1 : callGetattribute (.ref x) (.str name s.toks) (.builtin "BaseException.__getattribute__") expr = boundAndCalled (.builtin "BaseException.__getattribute__") (.ref x) (.str name s.toks) := by
    unfold callGetattribute
    rw [show onTheHeap (.builtin "BaseException.__getattribute__") = false from rfl, Bool.and_false]
    rfl
  rw [e1]
  unfold boundAndCalled
  rw [F.excAttr_ValueError.ga.bind]
  refine wpAny_bind (wpAny_pure ?_)
  refine wpAny_call (codeAny_call_builtin (by decide +kernel) F.entry_bexc_ga ?_)
  have hck : ∀ {A : Around} {Q : Unit -> Shared -> Prop} {E : Value -> Shared -> Prop} {tk : Nat}, Q () { s with toks := tk } -> wpAny (model prog w) A (checkBuiltinCall "BaseException.__getattribute__" ⟨[.ref x, .str name s.toks], []⟩) Q E { s with toks := tk } := by
    intro A Q E tk hq
    refine (show wpAny (model prog w) A (isInstance (.ref x) (.type "BaseException") >>= _) _ _ _ from ?_)
    refine wpAny_bind ?_
    unfold isInstance
    refine wpAny_bind (J.type.at ((W.looks_mroIn KX hb).at ?_))
    have e : (match Manifest.signature? "BaseException.__getattribute__" with
      | some sig => Bind.checkArgs "BaseException.__getattribute__" sig ⟨[.ref x, .str name s.toks], []⟩
      | none => pure ()) = pure () := F.args_bexc_ga (.ref x) (.str name s.toks)
    refine (show wpAny (model prog w) A (match Manifest.signature? "BaseException.__getattribute__" with
      | some sig => Bind.checkArgs "BaseException.__getattribute__" sig ⟨[.ref x, .str name s.toks], []⟩
      | none => pure ()) _ _ _ from ?_)
    rw [e]
    exact wpAny_pure hq
  refine hck ?_
  unfold Builtin.«object.__getattribute__»
  refine wpAny_bind (show wpAny _ _ (pure (Value.ref x, [Value.str name s.toks])) _ _ _ from wpAny_pure ?_)
  refine wpAny_bind (show wpAny _ _ (pure name) _ _ _ from wpAny_pure ?_)
  refine wpAny_bind (J.type.at (wpAny_bind ((W.looks_find KX J hf).at ?_)))
  refine (show wpAny (model prog w) A.in1 (pure _) _ _ _ from wpAny_pure ?_)
  refine (show wpAny (model prog w) A (handedOut v) _ _ _ from ?_)
  rw [W.handedOut_of hv]
  exact wpAny_pure q
end L2

namespace L2
open PySem PySem.Spec PyProof.Rows
structure ExcNm (K : PySem.W.Frag) (D : Addr) : Prop where
  ga : W.findIn K (.ref D) "__getattribute__" = some (some (.builtin "BaseException.__getattribute__"))
  gh : W.findIn K (.ref D) "__getattr__" = some none
  hb : W.mroIn K D (.type "BaseException") = some true
  hd : W.hasDictIn K D = true
  nn : W.findIn K (.ref D) "name" = some none
def excNm (K : PySem.W.Frag) (D : Addr) : Bool := W.findIn K (.ref D) "__getattribute__" == some (some (.builtin "BaseException.__getattribute__")) && W.findIn K (.ref D) "__getattr__" == some none && W.mroIn K D (.type "BaseException") == some true && W.hasDictIn K D && W.findIn K (.ref D) "name" == some none
theorem ExcNm.of {K : PySem.W.Frag} {D : Addr} (h : excNm K D = true) : ExcNm K D := by
  unfold excNm at h
  simp only [Bool.and_eq_true, beq_iff_eq] at h
  obtain ⟨⟨⟨⟨h1, h2⟩, h3⟩, h4⟩, h5⟩ := h
  exact ⟨h1, h2, h3, h4, h5⟩
def tEName (K : PySem.W.Frag) (te : TE) : TE := fun σ H Q => te σ H fun v H1 => ∃ a C dx z, v = .ref a /\ H1 a = some (ExcO a C (some dx)) /\ H1 dx = some (.xd [("name", .str z)]) /\ ExcNm K C /\ Q (.str z) H1
section
variable {X : Cx} {e : Expr} {te : TE} {pos : Pos}
theorem pe_eName (he : PE X e te) (hb : attributeBase e "name" X.env (eval e X.env) = eval e X.env) : PE X (.Attribute e "name" pos) (tEName X.K te) := by
  intro pins s σ H Q I h
  refine attr_of hb (thn (he pins s σ H _ I h) fun u s1 ⟨x, H1, I1, rx, a, C, dx, z, ex, ea, ed, c, q⟩ => ?_)
  subst ex
  obtain rfl : u = Value.ref a := rx
  obtain ⟨⟨ox, o1, o2, o3, o4⟩, _⟩ := (show ObjOk X.prog X.w H1 s1.heap a (ExcO a C (some dx)) from I1.hok a _ ea)
  obtain ⟨mA, n1, n2⟩ := (show ObjOk X.prog X.w H1 s1.heap dx (.xd [("name", .str z)]) from I1.hok dx _ ed)
  obtain ⟨od, hod, hlk⟩ := lookIn_ns n1
  have J : W.InstAt s1.heap a ox C (some od) := ⟨o1, o2, o4, by rw [o3]; exact hod⟩
  obtain ⟨u, hu, ru⟩ := RelO.some_of (v := .str z) (o := mA "name") (by have := n2 "name"; rwa [List.lookup_cons, beq_self_eq_true] at this)
  exact exc_attr I1.kIn J c.ga c.gh c.hb (W.findObj_own c.hd c.nn rfl (by rw [hlk, hu])) (handed_of ru) ⟨.str z, H1, I1.tok _, ru, q⟩
theorem qe_eName (K : PySem.W.Frag) (he : WE X e te) (h : X.K = K := by rfl) (hb : attributeBase e "name" X.env (eval e X.env) = eval e X.env := by rfl) : WE X (.Attribute e "name" pos) (tEName K te) := h ▸ ⟨pe_eName he.out hb⟩
theorem qs_raiseI {E : St -> XK} {k : Nat} {c fld : Str} {f : Str -> Option Str} {np cpos : Pos} {a : Expr} {t : TE} (K : PySem.W.Frag) (xm : XMk X E) (hI : IniX X.prog X.w X.K X.mg c fld f) (hr : Room k X.A) (ha : WE X a t) (hK : X.K = K := by rfl) (hj : 1 <= k := by decide) (hc : X.calm = true := by rfl) (hg : Gl X c := by rfl) (hdb : (c == ("__debug__" : Str)) = false := by decide)
    (hst : starEach [a] X.env = [(false, eval a X.env)] := by rfl) : WS X (.Raise (some (.Call (.Name c np) [a] [] cpos)) none pos) (tRaiseI K c fld f E t) := hK ▸ ⟨ps_raiseI xm hc hI (k := 0) (hr.mono hj) hg ha.out hdb hst⟩
end
class LabC (K : PySem.W.Frag) (c : Str) : Prop where
  at_ : ∃ C, clsOf K c = some C
  cf : colF c = true := by decide +kernel
def dRaiseI (c : Str) (f : Str -> Option Str) (Ex : DXE) (w : DE) : DS := fun _ ρ μ => w ρ μ fun d μ1 => match d with
  | .str z => (∃ out, f z = some out /\ out.length <= sizeLine) /\ Ex ρ (mkLab c z) μ1
  | _ => False
def dEName (es : List Str) (w : DE) : DE := fun ρ μ Q => w ρ μ fun d μ1 => match d with
  | .exc lab => ∃ b z, lab = mkLab b z /\ colF b = true /\ b ∈ es /\ Q (.str z) μ1
  | _ => False
def dTryN (es : List Str) (i : Nat) (wb : DXE -> DS) (wh : DS) : DS := fun D ρ μ => wb (fun ρ' lab μ' => (lab ∈ es \/ ∃ b z, lab = mkLab b z /\ colF b = true /\ b ∈ es) /\ wh (hEndsD D i) (ρ'.set i (some (.exc lab))) μ') D ρ μ
class ENm (K : PySem.W.Frag) (es : List Str) : Prop where
  run : ∀ b ∈ es, ∀ C, clsOf K b = some C -> ExcNm K C
section
variable {K : PySem.W.Frag} {fl : Wd} {Ex : DXE} {E : St -> XK} {t : TE} {w : DE} {c : Str} {f : Str -> Option Str}
instance [x : XR K fl Ex E] [i : LabC K c] [a : SimE K fl t w] : SimS K fl (tRaiseI K c "name" f E t) (dRaiseI c f Ex w) := ⟨fun {W ρ μ σ H D' D} r e h k => a.run r e h fun W1 d μ1 v H1 le1 r1 q1 h1 => by
  cases d <;> first | exact h1.elim | skip
  rename_i z
  obtain ⟨⟨out, hf, hz⟩, hE⟩ := h1
  obtain ⟨C, hC⟩ := i.at_
  refine ⟨z, out, C, q1.s', hf, hz, hC, fun dx hd => ?_⟩
  obtain ⟨r2, le2⟩ := r1.newF (o := .xd [("name", .str z)]) hd
  exact x.run r2 ((e.mono le1).mono le2) hE (.inr ⟨c, z, dx, rfl, i.cf, hC, rfl, upd_same⟩)⟩
instance {es : List Str} [n : ENm K es] [a : SimE K fl t w] : SimE K fl (tEName K t) (dEName es w) := ⟨fun {W ρ μ σ H Q Q'} r e h k => a.run r e h fun W1 d μ1 v H1 le1 r1 q1 h1 => by
  cases d <;> first | exact h1.elim | skip
  rename_i lab
  obtain ⟨b, z, rfl, hb, hes, hQ⟩ := h1
  unfold Rep at q1
  obtain ⟨C, p, dx, rfl, ea, hX⟩ := q1
  rcases hX with ⟨_, _, h3⟩ | ⟨b', z', d, h1, h2, h3, h4, h5⟩
  . rw [colF_mk] at h3; cases h3
  . obtain ⟨rfl, rfl⟩ := mkLab_inj h1 hb h2
    subst h4
    exact ⟨p, C, d, z, rfl, r1.sub _ _ ea, r1.sub _ _ h5, n.run b hes C h3, k W1 (.str z) μ1 _ H1 le1 r1 .s hQ⟩⟩
instance {es : List Str} {Ch : Addr} {i : Nat} {tb : (St -> XK) -> TS} {th : TS} {wb : DXE -> DS} {wh : DS} [hd : IsHd K es Ch] [b : ∀ fl (p : XP K fl), SimS K fl (tb p.E) (wb p.Ex)] [a : SimS K fl th wh] : SimS K fl (tTry K Ch i tb th) (dTryN es i wb wh) := ⟨fun {W ρ μ σ H D' D} r e h k => by
  have xr : XR K W (fun ρ' lab μ' => (lab ∈ es \/ ∃ b z, lab = mkLab b z /\ colF b = true /\ b ∈ es) /\ wh (hEndsD D' i) (ρ'.set i (some (.exc lab))) μ') (hRun K Ch i th D) := ⟨fun {W1 ρ1 μ1 σ1 H1 c C dx} r1 e1 h1 hX => by
    have hex : PySem.W.exmOne K (.ref C) (.ref Ch) = some true := by
      rcases h1.1 with hc | ⟨b, z, rfl, cb, hb⟩
      . exact hd.run c hc C (hX.plain (hd.cf c hc)).1
      . rcases hX with ⟨_, _, h3⟩ | ⟨b', z', d, g1, g2, g3, _, _⟩
        . rw [colF_mk] at h3; cases h3
        . obtain ⟨rfl, rfl⟩ := mkLab_inj g1 cb g2
          exact hd.run b hb C g3
    refine ⟨C, rfl, hex, fun p hp => ?_⟩
    have r1' : Rel K fl W1 μ1 H1 := r1.floor (r.up.trans r1.up)
    obtain ⟨r2, le2⟩ := r1'.newF (o := ExcO p C dx) hp
    refine a.run r2 ((e1.mono le2).set (x := .ref p) (d := .exc c) ?_) h1.2 ((k.mono (r1.up.trans le2)).hEnds)
    unfold Rep
    exact ⟨C, p, dx, rfl, upd_same, hX.mono le2⟩⟩
  exact (b W ⟨_, hRun K Ch i th D, xr⟩).run (r.floor (.refl W)) e h (k.lower r.up)⟩
end
theorem ENm.nil {K : PySem.W.Frag} : ENm K [] := ⟨fun _ h => by cases h⟩
theorem ENm.cons {K : PySem.W.Frag} {c : Str} {C : Addr} {es : List Str} (a : clsOf K c = some C) (h : excNm K C = true) (t : ENm K es) : ENm K (c :: es) := ⟨fun b hb D hD => by
  rcases List.mem_cons.mp hb with rfl | hb
  . rw [a] at hD; cases hD; exact .of h
  . exact t.run b hb D hD⟩
end L2

namespace L2
open PySem PySem.Spec PyProof.Rows
instance {K : PySem.W.Frag} {a : Addr} {ds : List D} {xs : List V} [i : KTup K a []] [c : CRep K ds xs] : CRep K (.tup [] :: ds) (.ref a :: xs) := ⟨fun W => .cons (.tup (ds := []) (i.at_ _) .nil) (c.run W)⟩
def rCat0 (K : PySem.W.Frag) : R2 := fun x y H Q => ∃ a b ys, x = .ref a /\ y = .ref b /\ SqT K H a [] /\ SqT K H b ys /\ Q (.ref b) H
section
variable {prog : Program} {w : World} {A : Around} {E : Value -> Shared -> Prop} {s : Shared}
theorem cat_tup0 {t b : Addr} {ws : List Value} {Q : Value -> Shared -> Prop} (ht : IsTup s.heap t (#[] : Array Value)) (hb : IsTup s.heap b ws.toArray) (h : Q (.ref b) s) : wpAny (model prog w) A (binaryOp .Add (.ref t) (.ref b)) Q E s := by
  obtain ⟨⟨cls, dd, data, sl⟩, ho, hc, n, hd⟩ := id ht
  obtain ⟨⟨cls2, dd2, data2, sl2⟩, ho2, hc2, n2, hd2⟩ := id hb
  simp only at hc hd hc2 hd2
  subst hc hd hc2 hd2
  exact concat_meets ⟨_, ho, rfl⟩ ⟨_, ho2, rfl⟩ noFill_tuple_add seq_tuple_add PySem.F.slot_tuple_add PySem.F.entry_tuple_add (PySem.F.args_tuple_add_2 _ _)
    (tuple_addW0 t b #[] ws.toArray n n2 dd dd2 sl sl2 rfl) ⟨ho, ho2, h⟩
end
theorem op_cat0 {X : Cx} : OpR X (binaryOp .Add) (rCat0 X.K) := by
  intro pins s σ H x y v u Q I rx ry h
  obtain ⟨a, b, ys, rfl, rfl, ha, hb, q⟩ := h
  cases rx
  cases ry
  obtain ⟨its, r1, p1, _⟩ := I.tuple ha
  obtain ⟨its2, r2, p2, _⟩ := I.tuple hb
  obtain rfl := r1.nil_iff.mpr rfl
  exact cat_tup0 p1 p2 ⟨.ref b, H, I, rfl, q⟩
def rCatE (K : PySem.W.Frag) : R2 := fun x y H Q => rCatT K x y H Q \/ rCat0 K x y H Q
theorem op_catE {X : Cx} (K : PySem.W.Frag) (h : X.K = K := by rfl) : OpR X (binaryOp .Add) (rCatE K) := h ▸ op_catT.or op_cat0
def dAdd0 : DR2 := fun d e μ Q => match d, e with
  | .tup a, .tup b => a.length + b.length <= sizeLine /\ Q (.tup (a ++ b)) μ
  | _, _ => False
theorem e_add0 {a b : List D} {μ : Mu} {Q : DK} : dAdd0 (.tup a) (.tup b) μ Q = (a.length + b.length <= sizeLine /\ Q (.tup (a ++ b)) μ) := rfl
instance {K : PySem.W.Frag} {fl : Wd} : SimR2 K fl (rCatE K) dAdd0 := ⟨fun {W μ H d e x y Q Q'} r q1 q2 h k => by
  unfold dAdd0 at h
  split at h
  . rename_i a b
    obtain ⟨p, xs, rfl, s1, z1⟩ := q1.tup'
    obtain ⟨p', ys, rfl, s2, z2⟩ := q2.tup'
    obtain ⟨hz, h⟩ := h
    by_cases hn : xs = []
    . subst hn
      have e := z1.length
      have ea : a = [] := List.length_eq_zero_iff.mp e.symm
      subst ea
      exact .inr ⟨p, p', ys, rfl, rfl, s1.sm r.sub, s2.sm r.sub, k _ _ _ _ _ (.refl _) r q2 h⟩
    . refine .inl ⟨p, p', xs, ys, rfl, rfl, s1.sm r.sub, s2.sm r.sub, hn, by rw [z1.length, z2.length]; exact hz, fun z => ?_, fun _ q hq => ?_⟩
      . have := z2.length
        rw [z] at this
        have e : b = [] := List.length_eq_zero_iff.mp this.symm
        subst e
        rw [List.append_nil] at h
        exact k _ _ _ _ _ (.refl _) r q1 h
      . obtain ⟨r2, le2⟩ := r.newF (o := .tup (xs ++ ys)) hq
        exact k _ _ _ _ _ le2 r2 (.tup (SqT.of upd_same) ((z1.mono le2).append (z2.mono le2))) h
  . exact h.elim⟩
end L2

set_option maxHeartbeats 4000000
namespace L2
open PySem PySem.Spec PyProof.Rows
theorem sc_mk {N Q : List Str} {sc : Scope} (a : sc.kind = .function := by rfl) (b : sc.isCoroutine = false := by rfl) (c : sc.isGenerator = false := by rfl) (d : N.Nodup := by decide +kernel) (e : N.take Q.length = Q := by rfl)
    (f : ∀ x ∈ Q, sc.names.lookup x = some .local \/ sc.names.lookup x = some .cell := by decide +kernel) (g : ∀ y ∈ sc.names, y.2 ≠ .free := by decide +kernel) : FnScope N Q sc := ⟨a, b, c, d, e, f, g⟩
section
variable {p : List Value -> Prop}
theorem al0 (h : p []) : ∀ us, us.length = 0 -> p us := fun us e => match us, e with | [], _ => h
theorem alS {n : Nat} (h : ∀ a us, us.length = n -> p (a :: us)) : ∀ us, us.length = n + 1 -> p us := fun us e => match us, e with | a :: us, e => h a us (Nat.succ.inj e)
theorem al1 (h : ∀ a, p [a]) : ∀ us, us.length = 1 -> p us := alS fun a => al0 (h a)
theorem al2 (h : ∀ a b, p [a, b]) : ∀ us, us.length = 2 -> p us := alS fun a => al1 (p := fun us => p (a :: us)) (h a)
theorem al3 (h : ∀ a b c, p [a, b, c]) : ∀ us, us.length = 3 -> p us := alS fun a => al2 (p := fun us => p (a :: us)) (h a)
theorem al4 (h : ∀ a b c d, p [a, b, c, d]) : ∀ us, us.length = 4 -> p us := alS fun a => al3 (p := fun us => p (a :: us)) (h a)
theorem al5 (h : ∀ a b c d e, p [a, b, c, d, e]) : ∀ us, us.length = 5 -> p us := alS fun a => al4 (p := fun us => p (a :: us)) (h a)
theorem al6 (h : ∀ a b c d e f, p [a, b, c, d, e, f]) : ∀ us, us.length = 6 -> p us := alS fun a => al5 (p := fun us => p (a :: us)) (h a)
theorem al7 (h : ∀ a b c d e f g, p [a, b, c, d, e, f, g]) : ∀ us, us.length = 7 -> p us := alS fun a => al6 (p := fun us => p (a :: us)) (h a)
theorem al8 (h : ∀ a b c d e f g i, p [a, b, c, d, e, f, g, i]) : ∀ us, us.length = 8 -> p us := alS fun a => al7 (p := fun us => p (a :: us)) (h a)
end
section
variable {K : PySem.W.Frag} {x q m c : Str} {C f : Addr} {fd : FuncData} {st : Stmt} {fs : List Str}
/-- a def of a module, as the law's code stands -/
structure FunB (K : PySem.W.Frag) (x : Str) (st : Stmt) (f : Addr) (fd : FuncData) : Prop where
  at_ : PySem.W.nsIn K mainGlobals x = some (some (.ref f))
  F : Fun K x x st f fd
/-- .. without defaults by place -/
structure FunA (K : PySem.W.Frag) (x : Str) (st : Stmt) (f : Addr) (fd : FuncData) : Prop extends FunB K x st f fd where
  df : fd.defaults = .none
structure FunM (K : PySem.W.Frag) (C : Addr) (x q : Str) (st : Stmt) (f : Addr) (fd : FuncData) : Prop where
  at_ : PySem.W.findIn K (.ref C) x = some (some (.ref f))
  fn : PySem.W.isFn K (.ref f) = true
  F : Fun K x q st f fd
structure ClsA (K : PySem.W.Frag) (c : Str) (C : Addr) (fs : List Str) : Prop where
  at_ : PySem.W.nsIn K mainGlobals c = some (some (.ref C))
  cl : Cls K C
  ms : PySem.W.makesIn K C = true
  kp : PySem.W.keepIn K (.ref C) = true
  na : ∀ f ∈ fs, NoAttr K C f
theorem na_cons {f : Str} (h : PySem.W.findIn K (.ref C) f = some none) (t : ∀ x ∈ fs, NoAttr K C x) : ∀ x ∈ f :: fs, NoAttr K C x := List.forall_mem_cons.mpr ⟨h, t⟩
abbrev PeekK (K : PySem.W.Frag) (fd : FuncData) (ps ks : List Str) (n m : Nat) (pat : List Src) (cs : List Value) : Prop := ∀ (S : Setting) (us : List Value), us.length = n -> ∀ ws : List Value, ws.length = m -> PySem.W.peek K S (bindArgs fd ⟨us, ks.zip ws⟩) = some (ps.zip (sel n m pat .none cs us ws))
theorem kbk {ps ks : List Str} {n j : Nat} {pat : List Src} {csV : List V} {csU : List Value} (h : PeekK K fd ps ks n j pat csU) (hc : Vals csV csU) (hp : ps.length ≠ 0 := by decide) : KBinds K fd ps ks (sel n j pat .none csU) (sel n j pat .non csV) := kb_sel hc hp fun S us ws a b => h S us a ws b
variable {P : Program} {w : World} {mg : Str -> Option Value} {base h : Heap} {CX : CXT} {k : Nat} {ps ks : List Str} {sp : Sp} {g : List Value -> List Value -> List Value} {gV : List V -> List V -> List V}
theorem FunA.bd (A : FunA K x st f fd) (b : ∀ (kV doc pm : Value) (an : Option Addr) (cdv ct : Value) (us : List Value), us.length = ps.length -> bindArgs (PySem.W.fnOf x x (defArgs st) (defBody st) (defScope st) .none kV doc pm an cdv ct) ⟨us, []⟩ = pure (ps.zip us) := by intro _ _ _ _ _ _; first | exact al1 fun _ => rfl | exact al2 fun _ _ => rfl | exact al3 fun _ _ _ => rfl | exact al4 fun _ _ _ _ => rfl | exact al5 fun _ _ _ _ _ => rfl | exact al6 fun _ _ _ _ _ _ => rfl | exact al7 fun _ _ _ _ _ _ _ => rfl | exact al8 fun _ _ _ _ _ _ _ _ => rfl) : Binds K fd ps [] := A.F.binds b A.df
theorem FunB.has (A : FunB K x st f fd) (b : Binds K fd ps []) (X : K.In h) (G : h.Ns mainGlobals mg) (ok : FnOk P w K mg base CX k f fd ps sp) : Has P w K mg base CX x k ps sp := ⟨_, _, ok, b, A.F.kp, PySem.W.mg_of X G A.at_⟩
theorem FunM.hasT (A : FunM K C m q st f fd) (a : ClsA K c C fs) (ok : FnOk P w K mg base CX k f fd ps sp) (kb : KBinds K fd ps ks g gV) : HasMt P w K mg base CX c m k ps sp ks gV := ⟨⟨C, _, _, _, clsOf_of a.at_, a.cl, ⟨A.at_, A.fn, A.F.kp⟩, ok, kb⟩⟩
theorem FunM.hasM (A : FunM K C "__init__" q st f fd) (a : ClsA K c C fs) (X : K.In h) (G : h.Ns mainGlobals mg) (ok : FnOk P w K mg base CX k f fd ps sp) (kb : KBinds K fd ps ks g gV) : HasMk P w K mg base CX c k ps sp ks gV := ⟨⟨C, _, _, _, clsOf_of a.at_, ⟨a.ms, A.at_, A.fn, a.kp⟩, ok, kb, PySem.W.mg_of X G a.at_⟩⟩
end
section
variable {X : Cx} {a b e : Expr} {x : Str} {pos pos' : Pos} {ta tb te : TE}
theorem qS (i : Nat) (hN : X.N.Nodup) (he : WE X e te) (hi : X.N[i]? = some x := by rfl) (hx : Loc X.env.scope x := by first | exact Or.inl rfl | exact Or.inr rfl) (hs : swapsWith e (some (.Name x pos')) pos.line X.env = pure false := by rfl)
    (hf : X.fn x = true \/ X.env.scope.names.lookup x = some .local := by first | exact .inl rfl | exact .inr rfl | assumption) : WS X (.Assign [.Name x pos'] e pos) (tAsg te (gName i)) := qs_set hN hi hx he hs hf
theorem qG (i : Nat) (hN : X.N.Nodup) (hi : X.N[i]? = some x := by rfl) (hx : Loc X.env.scope x := by first | exact Or.inl rfl | exact Or.inr rfl) (hf : X.fn x = true \/ X.env.scope.names.lookup x = some .local := by first | exact .inl rfl | exact .inr rfl | assumption) : WG X (.Name x pos) (gName i) := qg_name hN hi hx hf
theorem qx (K : PySem.W.Frag) (ha : WE X a ta) (hb : WE X b tb) (h : X.K = K := by rfl) (hs : PlainIx b := by exact fun _ _ => rfl) : WE X (.Subscript a b pos) (tOp (rIx K) ta tb) := qe_ix (ix_seqK K h) ha hb hs
theorem qa1 (ha : WE X a ta) (h1 : starEach [a] X.env = (false, eval a X.env) :: starEach [] X.env := by rfl) : WA X [a] (tCons ta tNil) := qa_cons ha qa_nil h1
theorem qa2 (ha : WE X a ta) (hb : WE X b tb) (h1 : starEach [a, b] X.env = (false, eval a X.env) :: starEach [b] X.env := by rfl) (h2 : starEach [b] X.env = (false, eval b X.env) :: starEach [] X.env := by rfl) : WA X [a, b] (tCons ta (tCons tb tNil)) := qa_cons ha (qa_cons hb qa_nil h2) h1
end
end L2
set_option synthInstance.maxHeartbeats 4000000
set_option synthInstance.maxSize 100000
set_option maxHeartbeats 4000000
namespace M
open PySem L2
def top (i : Nat) : Stmt := PySem.Challenge.pw_slotwright_k27_table_told.main.body.getD i (.Pass ⟨0, 0, 0, 0⟩)
abbrev s_starts_by_way : Stmt := top 4
abbrev N_starts_by_way : List Str := ["rows"]
theorem sc_starts_by_way : FnScope N_starts_by_way ["rows"] (defScope s_starts_by_way) := sc_mk
abbrev s_TableD_initD : Stmt := inClass (top 6) 0
abbrev N_TableD_initD : List Str := ["self", "rows"]
theorem sc_TableD_initD : FnScope N_TableD_initD ["self", "rows"] (defScope s_TableD_initD) := sc_mk
abbrev s_Table_told : Stmt := inClass (top 6) 1
abbrev N_Table_told : List Str := ["self"]
theorem sc_Table_told : FnScope N_Table_told ["self"] (defScope s_Table_told) := sc_mk
abbrev s_Table_of : Stmt := inClass (top 6) 2
abbrev N_Table_of : List Str := ["self", "name", "way", "held"]
theorem sc_Table_of : FnScope N_Table_of ["self", "name", "way"] (defScope s_Table_of) := sc_mk
abbrev s_TableD_lenD : Stmt := inClass (top 6) 3
abbrev N_TableD_lenD : List Str := ["self"]
theorem sc_TableD_lenD : FnScope N_TableD_lenD ["self"] (defScope s_TableD_lenD) := sc_mk
abbrev s_TableD_eqD : Stmt := inClass (top 6) 4
abbrev N_TableD_eqD : List Str := ["self", "other"]
theorem sc_TableD_eqD : FnScope N_TableD_eqD ["self", "other"] (defScope s_TableD_eqD) := sc_mk
abbrev s_law_start : Stmt := top 8
theorem sc_law_start : FnScope ["_law_script"] ["_law_script"] (defScope s_law_start) := sc_mk
abbrev s_law_draw : Stmt := top 9
theorem sc_law_draw : FnScope ["_law_s", "_law_many", "_law_cell", "_law_found"] ["_law_s", "_law_many"] (defScope s_law_draw) := sc_mk
abbrev s_law_name : Stmt := top 10
abbrev N_law_name : List Str := ["_law_s", "_law_names", "_law_letters", "_law_turn", "_law_size", "_law_word", "_law_k"]
theorem sc_law_name : FnScope N_law_name ["_law_s", "_law_names"] (defScope s_law_name) := sc_mk
abbrev s_law_missing : Stmt := top 11
abbrev N_law_missing : List Str := ["_law_table", "_law_name_here", "_law_way", "_law_got", "e"]
theorem sc_law_missing : FnScope N_law_missing ["_law_table", "_law_name_here", "_law_way"] (defScope s_law_missing) := sc_mk
abbrev s_law_some : Stmt := top 12
abbrev N_law_some : List Str := ["_law_s", "_law_names", "_law_rows", "_law_k", "_law_name_here", "_law_way"]
theorem sc_law_some : FnScope N_law_some ["_law_s", "_law_names"] (defScope s_law_some) := sc_mk
abbrev s_law : Stmt := top 13
abbrev N_law : List Str := ["_law_script", "_law_s", "_law_names", "_law_rows", "_law_other", "_law_handed", "_law_table", "_law_again", "_law_good", "_law_told", "_law_name_here", "_law_way", "_law_starts", "_law_rest", "_law_changed"]
theorem sc_law : FnScope N_law ["_law_script"] (defScope s_law) := sc_mk
abbrev s_NoNameD_initD : Stmt := inClass (top 2) 0
end M

set_option synthInstance.maxHeartbeats 4000000
set_option synthInstance.maxSize 100000
set_option maxHeartbeats 4000000
namespace M
open PySem L2
/-! ### the law's own head: start, draws -/
section
variable {P : Program} {w : World} {K : PySem.W.Frag} {mg : Str -> Option Value} {base : Heap}
theorem ok_draw {f : Addr} {fd : FuncData} (F : Fun K "_law_draw" "_law_draw" s_law_draw f fd) (B : Blt mg) : FnOk P w K mg base CX0 1 f fd ["_law_s", "_law_many"] spDrawL := by
  refine F.okq sc_law_draw (fun vs H Q E h => ?_) (fun cdv A outer s H vs Q E hr h => ?_)
  . obtain ⟨a, l, m, rfl, _⟩ := h
    rfl
  obtain ⟨a, l, many, rfl, ⟨ns, i, b, c, ha, hl, hi, hb, hal⟩, hm, hm2, q⟩ := h
  refine ⟨_, (qss_cons (qs_if (qt_cmpR op_eq (qe_ix (ix_listK K) (qv 0) qe_int (fun _ _ => rfl)) qe_int (nomark _))
    (qss_cons (qs_set (i := 2) sc_law_draw.nd rfl (Or.inl rfl) qe_int)
    (qss_cons (qs_if (qt_cmpR op_lt (qe_ix (ix_listK K) (qv 0) qe_int (fun _ _ => rfl)) (qe_callB (call_lenK K) rfl B.len bb_len (qa_cons (qe_ix (ix_listK K) (qv 0) qe_int (fun _ _ => rfl)) qa_nil)) (nomark _))
    (qss_cons (qs_set (i := 2) sc_law_draw.nd rfl (Or.inl rfl) (qe_ix (ix_listK K) (qe_ix (ix_listK K) (qv 0) qe_int (fun _ _ => rfl)) (qe_ix (ix_listK K) (qv 0) qe_int (fun _ _ => rfl)) (fun _ _ => rfl)))
    (qss_one (qs_asg (qe_op op_add (qe_ix (ix_listK K) (qv 0) qe_int (fun _ _ => rfl)) qe_int) (qg_sub (qv 0) qe_int set_list))))
    qss_nil)
    (qss_one (qs_if (WW.qt (qw_or (qt_cmpR op_ge (qv 2) (qe_op op_pow qe_int qe_int) (nomark _)) (qw_or1 (qt_cmpR op_le (qv 2) (qe_un un_neg (qe_op op_pow qe_int qe_int)) (nomark _)))))
    (qss_one (qs_asg (qe_callB call_abs rfl B.abs bb_abs (qa_cons (qv 2) qa_nil)) (qg_sub (qv 0) qe_int set_list)))
    (qss_cons (qs_asg (qe_op op_mod (qe_op op_add (qe_op op_add (qe_op op_mul (qe_ix (ix_listK K) (qv 0) qe_int (fun _ _ => rfl)) qe_int) (qe_op op_mod (qv 2) qe_int)) qe_int) qe_int) (qg_sub (qv 0) qe_int set_list))
    (qss_one (qs_ret (qe_op op_mod (qe_op op_fdivB (qe_ix (ix_listK K) (qv 0) qe_int (fun _ _ => rfl)) qe_int) (qv 1)))))))))
    qss_nil)
    (qss_cons (qs_set (i := 3) sc_law_draw.nd rfl (Or.inl rfl) (qe_op op_mod (qe_ix (ix_listK K) (qv 0) qe_int (fun _ _ => rfl)) (qv 1)))
    (qss_cons (qs_asg (qe_op op_fdivB (qe_ix (ix_listK K) (qv 0) qe_int (fun _ _ => rfl)) (qv 1)) (qg_sub (qv 0) qe_int set_list))
    (qss_one (qs_ret (qv 3)))))), ?_⟩
  -- the end: from a great number
  have fin : ∀ (H1 : Hp) (i1 b1 c1 : Int) (x : Option V), H1 a = some (.lst [.ref l, .int i1, .int b1, .int c1]) -> 0 <= i1 -> 0 <= b1 -> OnlyAt a H H1 ->
      (tSeq (tAsg (tOp (rI (fun _ j => 0 < j) fun i j => .int (i % j)) (tOp (rIxL K) (tVar 0) (tC (.int 2))) (tVar 1)) (gName 3))
        (tSeq (tAsg (tOp (rI CDivB fun i j => .int (i / j)) (tOp (rIxL K) (tVar 0) (tC (.int 2))) (tVar 1)) (gSub (tVar 0) (tC (.int 2)) rSetL)) (tRet (tVar 3)))) { nx := fun _ H' => Q .non H', rt := Q } [some (.ref a), some (.int many), x, none] H1 := by
    intro H1 i1 b1 c1 x h1 hi1 hb1 o1
    refine ⟨_, rfl, _, _, _, _, rfl, rfl, SqL.of h1, rfl, _, rfl, _, _, rfl, rfl, hm, ?_⟩
    refine ⟨_, rfl, _, _, _, _, rfl, rfl, SqL.of h1, rfl, _, rfl, _, _, rfl, rfl, ⟨hm, hm2⟩, ?_⟩
    refine ⟨_, rfl, _, _, _, _, rfl, rfl, h1, rfl, ?_⟩
    refine ⟨_, rfl, ?_⟩
    refine q _ _ (Int.emod_nonneg _ (by omega)) (Int.emod_lt_of_pos _ hm) ⟨ns, i1, b1 / many, c1, upd_same, ?_, hi1, Int.ediv_nonneg hb1 (by omega), hal⟩ fun z hz => ?_
    . rw [upd_ne hal.symm, o1 _ hal.symm]; exact hl
    . rw [upd_ne hz]; exact o1 z hz
  refine ⟨_, rfl, _, _, _, _, rfl, rfl, SqL.of ha, rfl, rfl, _, rfl, ?_⟩
  refine ite2 (fun c0 => ?_) (fun c0 => ?_)
  . refine ⟨_, rfl, _, _, _, _, rfl, rfl, SqL.of ha, rfl, _, rfl, _, _, _, _, rfl, rfl, SqL.of ha, rfl, _, _, rfl, .inl (SqL.of hl), _, _, rfl, rfl, _, rfl, ?_⟩
    -- behind the cell
    have cellEnd : ∀ (H1 : Hp) (i1 cell : Int), H1 a = some (.lst [.ref l, .int i1, .int b, .int c]) -> 0 <= i1 -> OnlyAt a H H1 ->
      (tIfS (tOr (tTest (tOp (rI0 fun i j => .bl (decide (j <= i))) (tVar 2) (tOp (rI CPow fun i j => .int (i ^ j.toNat)) (tC (.int 10)) (tC (.int 18)))))
          (tTest (tOp (rI0 fun i j => .bl (decide (i <= j))) (tVar 2) (tUn (rU fun i => .int (-i)) (tOp (rI CPow fun i j => .int (i ^ j.toNat)) (tC (.int 10)) (tC (.int 18)))))))
        (tAsg (tCB (fun xs H Q => ∃ i, xs = [.int i] /\ Q (.int (if i < 0 then -i else i)) H) (tCons (tVar 2) tNil)) (gSub (tVar 0) (tC (.int 2)) rSetL))
        (tSeq (tAsg (tOp (rI (fun _ j => 0 < j) fun i j => .int (i % j)) (tOp (rI0 fun i j => .int (i + j)) (tOp (rI0 fun i j => .int (i + j)) (tOp (rI CMul fun i j => .int (i * j)) (tOp (rIxL K) (tVar 0) (tC (.int 3))) (tC (.int 48271))) (tOp (rI (fun _ j => 0 < j) fun i j => .int (i % j)) (tVar 2) (tC (.int 2147483647)))) (tC (.int 11))) (tC (.int 2147483647))) (gSub (tVar 0) (tC (.int 3)) rSetL))
          (tRet (tOp (rI (fun _ j => 0 < j) fun i j => .int (i % j)) (tOp (rI CDivB fun i j => .int (i / j)) (tOp (rIxL K) (tVar 0) (tC (.int 3))) (tC (.int 64))) (tVar 1)))))
        { nx := (tSeq (tAsg (tOp (rI (fun _ j => 0 < j) fun i j => .int (i % j)) (tOp (rIxL K) (tVar 0) (tC (.int 2))) (tVar 1)) (gName 3))
        (tSeq (tAsg (tOp (rI CDivB fun i j => .int (i / j)) (tOp (rIxL K) (tVar 0) (tC (.int 2))) (tVar 1)) (gSub (tVar 0) (tC (.int 2)) rSetL)) (tRet (tVar 3)))) { nx := fun _ H' => Q .non H', rt := Q }, rt := Q } [some (.ref a), some (.int many), some (.int cell), none] H1 := by
      intro H1 i1 cell h1 hi1 o1
      have big : (tAsg (tCB (fun xs H Q => ∃ i, xs = [.int i] /\ Q (.int (if i < 0 then -i else i)) H) (tCons (tVar 2) tNil)) (gSub (tVar 0) (tC (.int 2)) rSetL))
          { nx := (tSeq (tAsg (tOp (rI (fun _ j => 0 < j) fun i j => .int (i % j)) (tOp (rIxL K) (tVar 0) (tC (.int 2))) (tVar 1)) (gName 3))
        (tSeq (tAsg (tOp (rI CDivB fun i j => .int (i / j)) (tOp (rIxL K) (tVar 0) (tC (.int 2))) (tVar 1)) (gSub (tVar 0) (tC (.int 2)) rSetL)) (tRet (tVar 3)))) { nx := fun _ H' => Q .non H', rt := Q }, rt := Q } [some (.ref a), some (.int many), some (.int cell), none] H1 := by
        refine ⟨_, rfl, _, rfl, _, rfl, _, _, _, _, rfl, rfl, h1, rfl, ?_⟩
        exact fin _ i1 (if cell < 0 then -cell else cell) c _ upd_same hi1 (by split <;> omega) fun z hz => by rw [upd_ne hz]; exact o1 z hz
      refine ⟨_, rfl, _, _, rfl, rfl, ⟨by decide, by decide, by decide⟩, _, _, rfl, rfl, _, rfl, ?_⟩
      refine ite2 (fun c1 => ?_) (fun c1 => ?_)
      . exact iteT big
      . refine ⟨_, rfl, _, _, rfl, rfl, ⟨by decide, by decide, by decide⟩, _, rfl, _, _, rfl, rfl, _, rfl, ?_⟩
        refine ite2 (fun c2 => big) (fun c2 => ?_)
        refine ⟨_, rfl, _, _, _, _, rfl, rfl, SqL.of h1, rfl, _, _, rfl, rfl, .inr ⟨by decide, by decide⟩, _, rfl, _, _, rfl, rfl, (show (0 : Int) < 2147483647 by decide), _, _, rfl, rfl, _, _, rfl, rfl, _, _, rfl, rfl, (show (0 : Int) < 2147483647 by decide), ?_⟩
        refine ⟨_, rfl, _, _, _, _, rfl, rfl, h1, rfl, ?_⟩
        refine ⟨_, rfl, _, _, _, _, rfl, rfl, SqL.of upd_same, rfl, _, _, rfl, rfl, ⟨by decide, by decide⟩, _, rfl, _, _, rfl, rfl, hm, ?_⟩
        refine q _ _ (Int.emod_nonneg _ (by omega)) (Int.emod_lt_of_pos _ hm) ⟨ns, i1, b, _, upd_same, ?_, hi1, hb, hal⟩ fun z hz => ?_
        . rw [upd_ne hal.symm, o1 _ hal.symm]; exact hl
        . rw [upd_ne hz]; exact o1 z hz
    refine ite2 (fun c1 => ?_) (fun c1 => ?_)
    . have c1' : i < ((ns.map V.int).length : Int) := of_decide_eq_true c1
      rw [List.length_map] at c1'
      have hget : (ns.map V.int)[i.toNat]? = some (.int (ns[i.toNat]'(by omega))) := by rw [List.getElem?_map, List.getElem?_eq_getElem (by omega)]; rfl
      have hat := atI_nat hget
      rw [show ((i.toNat : Nat) : Int) = i by omega] at hat
      refine ⟨_, rfl, _, _, _, _, rfl, rfl, SqL.of ha, rfl, _, rfl, _, _, _, _, rfl, rfl, SqL.of ha, rfl, _, _, _, _, rfl, rfl, SqL.of hl, hat, ?_⟩
      refine ⟨_, rfl, _, _, _, _, rfl, rfl, SqL.of ha, rfl, _, _, rfl, rfl, _, rfl, _, _, _, _, rfl, rfl, ha, rfl, ?_⟩
      exact cellEnd _ (i + 1) _ upd_same (by omega) fun z hz => by rw [upd_ne hz]
    . exact cellEnd H i 0 ha hi fun z hz => rfl
  . exact fin H i b c none ha hi hb fun z hz => rfl

theorem ok_start {f : Addr} {fd : FuncData} (F : Fun K "_law_start" "_law_start" s_law_start f fd) (B : Blt mg) : FnOk P w K mg base CX0 1 f fd ["_law_script"] (spStartL K) := by
  refine F.okq sc_law_start (fun vs H Q E h => ?_) (fun cdv A outer s H vs Q E hr h => ?_)
  . obtain ⟨a, m, rfl, _⟩ := h
    rfl
  obtain ⟨a, ns, rfl, hS, q⟩ := h
  refine ⟨_, (qss_one (qs_ret (qe_lst (qa_cons (qe_callTy (call_listK K) rfl B.list bb_list (qa_cons (qe_slice (sl_listK K) (qv 0) qo_none (qo_some qe_int)) qa_nil)) (qa_cons qe_int (qa_cons qe_int (qa_cons qe_int qa_nil))))))), ?_⟩
  refine ⟨_, rfl, _, rfl, _, _, rfl, hS, fun p1 h1 => ?_⟩
  refine ⟨_, _, rfl, .inl (SqL.of upd_same), fun p2 h2 => ⟨by show 4 <= sizeLine; decide, fun p3 h3 => ?_⟩⟩
  have n21 : p2 ≠ p1 := fun z => by rw [z, upd_same] at h2; cases h2
  have n32 : p3 ≠ p2 := fun z => by rw [z, upd_same] at h3; cases h3
  rw [upd_ne n32] at h3
  have n31 : p3 ≠ p1 := fun z => by rw [z, upd_same] at h3; cases h3
  rw [upd_ne n31] at h3
  rw [upd_ne n21] at h2
  have cut : cutV (ns.map V.int) none (some 63) = ((ns.drop (HT.sIx (ns.map V.int).length 0 none)).take (HT.sIx (ns.map V.int).length (ns.map V.int).length (some 63) - HT.sIx (ns.map V.int).length 0 none)).map V.int := by
    unfold cutV; rw [List.map_take, List.map_drop]
  refine q p3 p2 _ h3 h2 ⟨((ns.drop (HT.sIx (ns.map V.int).length 0 none)).take (HT.sIx (ns.map V.int).length (ns.map V.int).length (some 63) - HT.sIx (ns.map V.int).length 0 none)), 0, 0, 90210, upd_same, ?_, by decide, by decide, n32⟩ fun b o e => ?_
  . rw [upd_ne n32.symm, upd_same, cut]
  . rw [upd_ne (ne_of_none e h3), upd_ne (ne_of_none e h2), upd_ne (ne_of_none e h1)]
    exact e

end
end M

set_option synthInstance.maxHeartbeats 4000000
set_option synthInstance.maxSize 100000
set_option maxHeartbeats 4000000
namespace M
open PySem L2
abbrev tab : Tab := [("Table", ["rows"])]
abbrev fs_Table : List Str := ["rows"]
theorem it_Table_rows : inTab tab "Table" "rows" = true := by decide +kernel
theorem fo_Table_rows {v0 : D} {R : D -> Prop} : fldO tab "rows" "Table" fs_Table [v0] R = R v0 := by
  simp only [fldO, it_Table_rows, true_and, List.zip_cons_cons, List.lookup_cons, beq_self_eq_true, optK_some]
theorem sp_Table_rows {w  : D} {R : List Str -> List D -> Prop} : setO tab "rows" w "Table" [] [] R = R ["rows"] [w] := by
  rw [setO, it_Table_rows, show putN "rows" [] = (["rows"] : List Str) from by simp only [putN, if_false], show putD "rows" w [] [] = [w] from by simp only [putD, if_false]]
  exact propext ⟨fun h => h.2.2, fun h => ⟨rfl, by show 0 < 1000; decide, h⟩⟩
theorem lm_Table_of {v0 : D} : List.lookup ("of" : Str) (fs_Table.zip [v0]) = none := by
  simp only [List.zip_cons_cons, List.zip_nil_left, List.lookup_cons, List.lookup_nil, show (("of" : Str) == "rows") = false from by decide +kernel]
theorem lm_Table_told {v0 : D} : List.lookup ("told" : Str) (fs_Table.zip [v0]) = none := by
  simp only [List.zip_cons_cons, List.zip_nil_left, List.lookup_cons, List.lookup_nil, show (("told" : Str) == "rows") = false from by decide +kernel]
abbrev excEs : List Str := ["NoName"]
abbrev excPs : List Str := []
abbrev excKs : List Str := []
abbrev excHs : List Str := ["NoName"]
abbrev excNs : List Str := ["NoName"]
def f_NoName (z : Str) : Option Str := fText "name" z (jParts (defBody s_NoNameD_initD)) Str.empty
@[reducible] def w_starts_by_way : DS := (dRet (dTComp ["name", "at", "starts"] [] ([0] ++ ([1] ++ ([2] ++ []))) (diSeq (dVar 0)) (dgTup 3 (dgCons (dgName 0) (dgCons (dgName 1) (dgCons (dgName 2) dgNil)))) dNoT (dCons (dVar 0) (dCons (dVar 1) dNil)) (dVar 2)))
def dsp_starts_by_way : DSp := bodySp w_starts_by_way N_starts_by_way 1
@[reducible] def w_TableD_initD : DS := (dSetF tab (dVar 0) (dCB dSort4 (dCons (dVar 1) dNil)) "rows")
def dsp_TableD_initD : DSp := bodySp w_TableD_initD N_TableD_initD 2
@[reducible] def w_Table_told : DS := (dRet (dCB dListC (dCons (dFld tab (dVar 0) "rows") dNil)))
def dsp_Table_told : DSp := bodySp w_Table_told N_Table_told 1
@[reducible] def w_TableD_lenD : DS := (dRet (dCB dLen (dCons (dFld tab (dVar 0) "rows") dNil)))
def dsp_TableD_lenD : DSp := bodySp w_TableD_lenD N_TableD_lenD 1
@[reducible] def w_TableD_eqD : DS := (dRet (dAndV (dCB (dIsO "Table") (dCons (dVar 1) (dCons (dC (.cls "Table")) dNil))) (dOp dEq (dFld tab (dVar 0) "rows") (dFld tab (dVar 1) "rows"))))
def dsp_TableD_eqD : DSp := bodySp w_TableD_eqD N_TableD_eqD 2
@[reducible] def w_Table_of : DS := (dSeq (dAsg (dCall dsp_starts_by_way (dCons (dFld tab (dVar 0) "rows") dNil)) (dgName 3))
    (dSeq (dIfS (dTest (dTIn true (dCons (dVar 1) (dCons (dVar 2) dNil)) (dVar 3)))
    dNever
    dNext)
    (dRet (dTGet (dVar 3) (dCons (dVar 1) (dCons (dVar 2) dNil))))))
def dsp_Table_of : DSp := bodySp w_Table_of N_Table_of 3
@[reducible] def w_Table_ofX (Ex : DXE) : DS := (dSeq (dAsg (dCall dsp_starts_by_way (dCons (dFld tab (dVar 0) "rows") dNil)) (dgName 3))
    (dSeq (dIfS (dTest (dTIn true (dCons (dVar 1) (dCons (dVar 2) dNil)) (dVar 3)))
    (dRaiseI "NoName" f_NoName Ex (dVar 1))
    dNext)
    (dRet (dTGet (dVar 3) (dCons (dVar 1) (dCons (dVar 2) dNil))))))
def dsp_Table_ofX : DSpX := bodySpX w_Table_ofX N_Table_of 3
@[reducible] def w_law_name : DS := (dSeq (dAsg (dC (.str "abcdefghijklmnopqrstuvwxyz")) (dgName 2))
    (dSeq (dFor (diRng1 (dCons (dC (.int 4)) dNil)) (dgName 3)
    (dSeq (dAsg (dOp dAdd (dC (.int 1)) (dCall dspDraw (dCons (dVar 0) (dCons (dC (.int 3)) dNil)))) (dgName 4))
    (dSeq (dIfS (dTest (dOp dEq (dVar 4) (dC (.int 3))))
    (dAsg (dOp dAdd (dC (.int 1)) (dCall dspDraw (dCons (dVar 0) (dCons (dC (.int 8)) dNil)))) (dgName 4))
    dNext)
    (dSeq (dAsg (dBM "str" dJoin (dC (.str "")) (dCons (dComp ["_law_k"] [2, 0] [0] (diRng1 (dCons (dVar 4) dNil)) (dgName 0) dNoT (dOp dIx (dVar 1) (dCall dspDraw (dCons (dVar 2) (dCons (dC (.int 26)) dNil))))) dNil)) (dgName 5))
    (dIfS (dTest (dOp (dInN true) (dVar 5) (dVar 1)))
    (dSeq (dDrop (dBM "list" dAppend (dVar 1) (dCons (dVar 5) dNil)))
    (dRet (dVar 5)))
    dNext)))))
    (dSeq (dFor (diRng1 (dCons (dC (.int 104)) dNil)) (dgName 6)
    (dSeq (dAsg (dOp dMul2 (dOp dIx (dVar 2) (dOp dMod (dVar 6) (dC (.int 26)))) (dOp dAdd (dC (.int 1)) (dOp dFdiv (dVar 6) (dC (.int 26))))) (dgName 5))
    (dIfS (dTest (dOp (dInN true) (dVar 5) (dVar 1)))
    (dSeq (dDrop (dBM "list" dAppend (dVar 1) (dCons (dVar 5) dNil)))
    (dRet (dVar 5)))
    dNext)))
    (dRet (dC (.str "zzzzzzzz"))))))
def dsp_law_name : DSp := bodySp w_law_name N_law_name 2
@[reducible] def w_law_missing : DS := (dSeq (dAsg (dC (.str "none")) (dgName 3))
    (dSeq (dTryN excEs 4 (fun Ex => (dDrop (dMethX "Table" "of" dsp_Table_ofX Ex 3 0 [.p 0, .p 1, .p 2] [] (dVar 0) (dCons (dVar 1) (dCons (dVar 2) dNil)) dNil)))
    (dAsg (dEName excNs (dVar 4)) (dgName 3)))
    (dRet (dVar 3))))
def dsp_law_missing : DSp := bodySp w_law_missing N_law_missing 3
@[reducible] def w_law_some : DS := (dSeq (dAsg (dLstC dNil) (dgName 2))
    (dSeq (dFor (diRng1 (dCons (dCall dspDraw (dCons (dVar 0) (dCons (dC (.int 5)) dNil))) dNil)) (dgName 3)
    (dSeq (dAsg (dCall dsp_law_name (dCons (dVar 0) (dCons (dVar 1) dNil))) (dgName 4))
    (dFor (diSeq (dOp dIx (dLst (dCons (dLst (dCons (dC (.int 0)) dNil)) (dCons (dLst (dCons (dC (.int 1)) dNil)) (dCons (dLst (dCons (dC (.int 1)) (dCons (dC (.int 0)) dNil))) (dCons (dLst (dCons (dC (.int 0)) (dCons (dC (.int 1)) dNil))) dNil))))) (dCall dspDraw (dCons (dVar 0) (dCons (dC (.int 4)) dNil))))) (dgName 5)
    (dDrop (dBM "list" dAppend (dVar 2) (dCons (dTup (dCons (dVar 4) (dCons (dVar 5) (dCons (dCB dTuple (dCons (dComp ["_law_h"] [0] [0] (diRng1 (dCons (dOp dAdd (dC (.int 1)) (dCall dspDraw (dCons (dVar 0) (dCons (dC (.int 3)) dNil)))) dNil)) (dgName 0) dNoT (dCall dspDraw (dCons (dVar 1) (dCons (dC (.int 500)) dNil)))) dNil)) dNil)))) dNil))))))
    (dFreeze 2 (dRet (dVar 2)))))
def dsp_law_some : DSp := bodySp w_law_some N_law_some 2
@[reducible] def w_law : DS := (dSeq (dAsg (dCall dspStart (dCons (dVar 0) dNil)) (dgName 1))
    (dSeq (dAsg (dLstC dNil) (dgName 2))
    (dSeq (dAsg (dCall dsp_law_some (dCons (dVar 1) (dCons (dVar 2) dNil))) (dgName 3))
    (dSeq (dAsg (dCall dsp_law_name (dCons (dVar 1) (dCons (dVar 2) dNil))) (dgName 4))
    (dSeq (dAsg (dCB dListC (dCons (dVar 3) dNil)) (dgName 5))
    (dSeq (dAsg (dMakeF "Table" dsp_TableD_initD 2 0 [.p 0, .p 1] [] (dCons (dVar 5) dNil) dNil) (dgName 6))
    (dSeq (dAsg (dMakeF "Table" dsp_TableD_initD 2 0 [.p 0, .p 1] [] (dCons (dCB dTuple (dCons (dSl3 (dVar 3) dNoPart dNoPart (dPart (dUn dNeg (dC (.int 1))))) dNil)) dNil) dNil) (dgName 7))
    (dSeq (dAsg (dOp dEq (dVar 5) (dVar 3)) (dgName 8))
    (dSeq (dDrop (dBM "list" dAppend (dVar 5) (dCons (dTup (dCons (dVar 4) (dCons (dC (.int 0)) (dCons (dTup (dCons (dC (.int 1)) dNil)) dNil)))) dNil)))
    (dSeq (dAsg (dMeth "Table" "told" dsp_Table_told 1 0 [.p 0] [] (dVar 6) dNil dNil) (dgName 9))
    (dSeq (dIfS (dOr (dNot (dTest (dVar 8))) (dOr (dNot (dTest (dCB dIsT (dCons (dVar 9) (dCons (dC (.ty "list")) dNil))))) (dOr (dTest (dOp dNe (dVar 9) (dCB dSort4 (dCons (dVar 3) dNil)))) (dOr (dTest (dOp dNe (dCB (dLenO "Table" dsp_TableD_lenD) (dCons (dVar 6) dNil)) (dCB dLen (dCons (dVar 3) dNil)))) (dNot (dTest (dOp (dEqO "Table" dsp_TableD_eqD) (dVar 6) (dVar 7))))))))
    (dRet (dC (.bl false)))
    dNext)
    (dSeq (dDrop (dBM "list" dAppend (dVar 9) (dCons (dTup (dCons (dVar 4) (dCons (dC (.int 0)) (dCons (dTup (dCons (dC (.int 1)) dNil)) dNil)))) dNil)))
    (dSeq (dIfS (dOr (dTest (dOp dNe (dMeth "Table" "told" dsp_Table_told 1 0 [.p 0] [] (dVar 6) dNil dNil) (dCB dSort4 (dCons (dVar 3) dNil)))) (dOr (dTest (dOp dNe (dCall dsp_law_missing (dCons (dVar 6) (dCons (dVar 4) (dCons (dC (.int 0)) dNil)))) (dVar 4))) (dTest (dOp (dEqO "Table" dsp_TableD_eqD) (dVar 6) (dC (.str "table"))))))
    (dRet (dC (.bl false)))
    dNext)
    (dSeq (dFor (diSeq (dVar 3)) (dgTup 3 (dgCons (dgName 10) (dgCons (dgName 11) (dgCons (dgName 12) dgNil))))
    (dSeq (dIfS (dOr (dTest (dOp dNe (dMeth "Table" "of" dsp_Table_of 3 0 [.p 0, .p 1, .p 2] [] (dVar 6) (dCons (dVar 10) (dCons (dVar 11) dNil)) dNil) (dVar 12))) (dAnd (dTest (dOp dEq (dVar 11) (dC (.int 0)))) (dTest (dOp dNe (dMeth "Table" "of" dsp_Table_of 2 0 [.p 0, .p 1, .c 0] [.int 0] (dVar 6) (dCons (dVar 10) dNil) dNil) (dVar 12)))))
    (dRet (dC (.bl false)))
    dNext)
    (dSeq (dIfS (dTest (dOp (dInD true) (dLst (dCons (dVar 10) (dCons (dOp dSub (dC (.int 1)) (dVar 11)) dNil))) (dComp ["_law_row"] [] [0] (diSeq (dVar 3)) (dgName 0) dNoT (dLst (dCons (dOp dIx (dVar 0) (dC (.int 0))) (dCons (dOp dIx (dVar 0) (dC (.int 1))) dNil))))))
    (dIfS (dTest (dOp dNe (dCall dsp_law_missing (dCons (dVar 6) (dCons (dVar 10) (dCons (dOp dSub (dC (.int 1)) (dVar 11)) dNil)))) (dVar 10)))
    (dRet (dC (.bl false)))
    dNext)
    dNext)
    (dSeq (dAsg (dComp ["_law_row"] [10, 12, 11] [0] (diSeq (dVar 3)) (dgName 0) (dTest (dOp dNe (dVar 0) (dTup (dCons (dVar 1) (dCons (dVar 3) (dCons (dVar 2) dNil)))))) (dVar 0)) (dgName 13))
    (dSeq (dAsg (dOp dAdd (dVar 13) (dLst (dCons (dTup (dCons (dVar 10) (dCons (dVar 11) (dCons (dOp dAdd0 (dSl dSlG (dVar 12) dNoPart (dPart (dUn dNeg (dC (.int 1))))) (dTup (dCons (dOp dAdd (dOp dIx (dVar 12) (dUn dNeg (dC (.int 1)))) (dC (.int 1))) dNil))) dNil)))) dNil))) (dgName 14))
    (dIfS (dOr (dTest (dOp (dEqO "Table" dsp_TableD_eqD) (dVar 6) (dMakeF "Table" dsp_TableD_initD 2 0 [.p 0, .p 1] [] (dCons (dVar 13) dNil) dNil))) (dTest (dOp (dEqO "Table" dsp_TableD_eqD) (dVar 6) (dMakeF "Table" dsp_TableD_initD 2 0 [.p 0, .p 1] [] (dCons (dVar 14) dNil) dNil))))
    (dRet (dC (.bl false)))
    dNext))))))
    (dRet (dAndV (dOp (dEqO "Table" dsp_TableD_eqD) (dVar 6) (dMakeF "Table" dsp_TableD_initD 2 0 [.p 0, .p 1] [] (dCons (dVar 3) dNil) dNil)) (dAndV (dNotV (dOp (dEqO "Table" dsp_TableD_eqD) (dVar 6) (dMakeF "Table" dsp_TableD_initD 2 0 [.p 0, .p 1] [] (dCons (dOp dAdd (dVar 3) (dLst (dCons (dTup (dCons (dVar 4) (dCons (dC (.int 0)) (dCons (dTup (dCons (dC (.int 1)) dNil)) dNil)))) dNil))) dNil) dNil))) (dOp dEq (dCB (dLenO "Table" dsp_TableD_lenD) (dCons (dMakeF "Table" dsp_TableD_initD 1 0 [.p 0, .c 0] [.tup []] dNil dNil) dNil)) (dC (.int 0))))))))))))))))))))
end M

set_option synthInstance.maxHeartbeats 4000000
set_option synthInstance.maxSize 100000
set_option maxHeartbeats 4000000
namespace M
open PySem L2
local macro_rules | `(tactic| rw_mod_cast [$rs,*]) => do
  let ts : Array (Lean.TSyntax `term) := rs.getElems.map fun r => ⟨r.raw[1]⟩
  let ids : Array (Lean.TSyntax `term) := (("dSeq dAsg dVar dC dOp dUn e_test dAnd dOr dNot dAndV dOrV dNotV dIf e_chain chK_bl blK_bl intK_int dNil dCons dInts dTup dLst dLstC dNext dBreak dCont dDrop dRet dRetN dIfS dNever dgName dgNil e_gcons e_gtup e_par parK_two dAug dFreeze e_frz frzK_lst frzK_dct frzK_dtt frzK_ins dFor dCall dCB dComp dCompC e_rng1 rng1K_e e_rng2 rng2K_e e_zip zipK_e diSeq e_seql e_seqt e_lsl cellK_lst optK_some optM_some dSl dNoPart e_part e_slt e_sll dNoT dgSub e_setix e_cellL dBM dBM0 e_append e_pop0 e_pop1 e_tyc tyC_lst e_tyl e_tys e_add e_adds e_addt e_addl dSub dFdiv dMod dPow dLt dGt dLe dGe dISub dIMul e_i0 e_i e_neg e_mul e_iadd e_ixt e_ixl e_ixs e_lens e_lenl e_lent e_listl e_listt e_listCl e_listCt e_tuplel e_tuplet e_abs e_max2 e_min2 e_maxl e_minl e_suml e_alll e_anyl intsOf_nil intsOf_cons blsOf_nil blsOf_cons e_is e_isnot isNon_non isNon_int isNon_str isNon_bl isNon_lst isNon_tup isNon_cell Nat.reduceAdd Int.cast_ofNat_Int Int.reduceEq decide_true decide_false List.all_cons List.all_nil List.any_cons List.any_nil id_eq Bool.and_true Bool.true_and Bool.or_false ist_tup_int ist_tup_bool ist_tup_str ist_tup_list ist_tup_tuple ist_tup_dict diEnum enumK_e dCallS dCallX dMethX dRaise dTry hEndsD e_isE1 e_isE2 e_isBi e_isBb dFStr djNil djCons dFmt dMakeX dMakeFX e_mulBb e_mulBi dLenSet e_ins e_iso_str e_iso_obj e2_mul e2_muls dFld fldK insM_obj insM_cell insK_ins e_setf setK_cell dMeth dMake e_makeF atI_5 fo_Table_rows sp_Table_rows lm_Table_of lm_Table_told sel pick List.getD_cons_zero List.getD_cons_succ beq_self_eq_true Bool.and_self cond_true dEq_int dNe_int dNe_str e_draw e_start startD ends takeD mset_same atI_0 atI_1 atI_2 atI_3 atI_4 atI_m1 atI_m2 atI_m3 atI_m4 atI_m5 List.length_cons List.length_nil List.map_cons List.map_nil List.set_cons_zero List.set_cons_succ List.getElem?_cons_zero List.getElem?_cons_succ List.cons_append List.nil_append List.replicate Option.join_some Option.join_none true_and and_true if_true Bool.true_eq_false Bool.false_eq_true if_false Bool.not_true Bool.not_false".splitOn " ").map fun s => (⟨Lean.mkIdent s.toName⟩ : Lean.TSyntax `term)).toArray
  let all := ids ++ ts
  `(tactic| simp only [↓sl6_to2, ↓sl6_to3, ↓sl6_to4, ↓sl6_to5, ↓sl6_from1, ↓sl6_from2, ↓sl6_from4, ↓sl6_from5, $[$all:term],*])
local macro_rules | `(tactic| walk_at "e") => `(tactic| rw_mod_cast [])
local macro_rules | `(tactic| walk_at "x") => `(tactic| repeat' first | exact ev_c | exact evs_nil | exact ev_var rfl | with_reducible apply evs_cons | with_reducible apply ev_op | exact ev_ixt atI_0 | exact ev_ixt atI_1 | exact ev_ixt atI_2 | exact ev_ixt atI_3 | exact ev_ixt atI_4 | exact ev_ixt atI_5 | exact ev_ixl atI_0 | exact ev_ixl atI_1 | exact ev_eqi | exact ev_add | apply ev_addt | with_reducible apply ev_tup | with_reducible apply ev_lst | with_reducible apply ev_cb | exact ev_tuplel | with_reducible apply ev_to1 | with_reducible apply ev_to2 | with_reducible apply ev_to3 | with_reducible apply ev_to4 | with_reducible apply ev_to5 | with_reducible apply ev_from1 | with_reducible apply ev_from2 | with_reducible apply ev_from3 | with_reducible apply ev_from4 | with_reducible apply ev_from5 | (show _ ≠ []; simp; done) | (show _ < List.length _; simp; done) | (show List.length _ <= 1000; simp; done) | (show List.length _ + List.length _ <= 1000; simp; done))
def letters : Str := "abcdefghijklmnopqrstuvwxyz"
theorem letters_get : ∀ i : _root_.Fin 26, letters.cps.toList[i.val]? = some (97 + i.val) := by decide +kernel
theorem letters_at {v : Int} (h0 : 0 <= v) (h1 : v < 26) : atI letters.cps.toList v = some (97 + v.toNat) := by
  have h := atI_nat (letters_get ⟨v.toNat, by omega⟩)
  rw [show ((v.toNat : Nat) : Int) = v by omega] at h
  exact h
def backWord (k : Nat) : Str := ⟨(List.replicate (1 + k / 26) (97 + k % 26)).toArray⟩
def backWords : List Str := (List.range 104).map backWord
theorem backWords_nodup : backWords.Nodup := by decide +kernel
theorem backWord_nm : ∀ k : _root_.Fin 104, ((backWord k.val).cps.toList.length <= 8 /\ 1 <= (backWord k.val).cps.toList.length) /\ (backWord k.val).cps.toList.all (fun c => decide (97 <= c /\ c <= 122)) = true := by decide +kernel
theorem some_left {ns : List Str} (h : ns.length < 104) (all : ∀ k, k < 104 -> backWord k ∈ ns) : False := by
  have hs : backWords ⊆ ns := fun x hx => by
    obtain ⟨k, hk, rfl⟩ := List.mem_map.mp hx
    exact all k (List.mem_range.mp hk)
  have := List.Nodup.length_le_of_subset backWords_nodup hs
  have e : backWords.length = 104 := by decide +kernel
  omega
/-! ### pick -/
/-! ### names -/
theorem cut_codes (cs : List Nat) : (Str.join (Str.ofString "") (cs.map fun c => (⟨#[c]⟩ : Str))).cps.toList = cs := by
  show (Str.join Str.empty (cs.map fun c => (⟨#[c]⟩ : Str))).cps.toList = cs
  rw [join_nil_codes, List.map_map]
  induction cs with
  | nil => rfl
  | cons c r ih => rw [List.map_cons, List.flatten_cons, ih]; rfl
theorem weight_codes (cs : List Nat) : weightS (cs.map fun c => (⟨#[c]⟩ : Str)) = cs.length + cs.length := by
  unfold weightS
  rw [List.map_map, List.length_map]
  congr 1
  induction cs with
  | nil => rfl
  | cons c r ih => rw [List.map_cons, List.sum_cons, ih, List.length_cons]; show 1 + r.length = _; omega
theorem name_ok {s na : Nat} {ns : List Str} {μ : Mu} {Q : DK} (hs : μ s = some .draw) (hn : μ na = some (.lst (ns.map D.str))) (hl : ns.length < 100) (q : ∀ x, Nm x -> x ∉ ns -> Q (.str x) (mset μ na (.lst ((ns ++ [x]).map D.str)))) : dsp_law_name [.cell s, .cell na] μ Q := by
  have hz : (200 : Nat) <= sizeLine := by decide
  have el : (Str.ofString "abcdefghijklmnopqrstuvwxyz") = letters := rfl
  have ll : letters.length <= sizeLine := by decide
  refine ⟨rfl, stp fun N1 h1 => ?_⟩
  walk_at "e"
  refine h1 _ _ (cut1 (fun ρ μ' => ∃ x3 x4 x5, ρ = [some (.cell s), some (.cell na), some (.str letters), x3, x4, x5, none] /\ μ' = μ) (fun N hN => ?_) ?_)
  . walk_at "e"
    refine ⟨by decide, by decide, ?_⟩
    refine dLoop_by (fun i ρ μ' => ∃ x3 x4 x5, ρ = [some (.cell s), some (.cell na), some (.str letters), x3, x4, x5, none] /\ μ' = μ) ⟨_, _, _, rfl, rfl⟩ ?_ (fun ρ μ' h => hN _ _ h)
    rintro i d ρ μ' hd ⟨x3, x4, x5, rfl, rfl⟩ M hM
    refine stp fun M1 g1 => ?_
    walk_at "e"
    refine ⟨hs, by decide, by decide, fun v v0 v1 => g1 _ _ (cut1 (fun ρ μ2 => ∃ x3 x5 size, ρ = [some (.cell s), some (.cell na), some (.str letters), x3, some (.int size), x5, none] /\ μ2 = μ' /\ 1 <= size /\ size <= 8) (fun N hN => ?_) ?_)⟩
    . walk_at "e"
      split
      . exact ⟨hs, by decide, by decide, fun v v0 v1 => hN _ _ ⟨_, _, _, rfl, rfl, by omega, by omega⟩⟩
      . exact hN _ _ ⟨_, _, _, rfl, rfl, by omega, by omega⟩
    rintro ρ μ2 ⟨y3, y5, size, rfl, rfl, z1, z8⟩
    refine stp fun M2 g2 => ?_
    walk_at "e"
    refine ⟨by decide, by omega, by omega, ?_⟩
    refine dCLoopN_by (fun i ys μ3 => μ3 = μ2 /\ ∃ cs : List Nat, ys = (cs.map fun c => (⟨#[c]⟩ : Str)).map D.str /\ cs.length = i /\ ∀ c ∈ cs, 97 <= c /\ c <= 122) ⟨rfl, [], rfl, rfl, fun c hc => by cases hc⟩ ?_ ?_
    . rintro i d ys μ3 hd ⟨rfl, cs, rfl, hc, hcs⟩
      obtain ⟨hi, rfl⟩ := rangeL_get? hd
      refine ⟨by rw [List.length_map, List.length_map]; omega, fun N hN => ?_⟩
      walk_at "e"
      refine ⟨hs, by decide, by decide, fun v v0 v1 => ?_⟩
      rw_mod_cast [letters_at v0 v1]
      refine ⟨ll, hN _ _ ⟨rfl, cs ++ [97 + v.toNat], by rw [List.map_append, List.map_append]; rfl, by rw [List.length_append, hc]; rfl, fun c h => ?_⟩⟩
      rcases List.mem_append.mp h with h | h
      . exact hcs c h
      . rw [List.mem_singleton.mp h]; omega
    rintro ys μ3 ⟨rfl, cs, rfl, hc, hcs⟩
    rw [rangeD_length] at hc
    refine ⟨cs.map fun c => (⟨#[c]⟩ : Str), rfl, by decide, by rw [weight_codes]; omega, g2 _ _ ?_⟩
    have nm : Nm (Str.join (Str.ofString "") (cs.map fun c => (⟨#[c]⟩ : Str))) := ⟨by rw [cut_codes]; omega, by rw [cut_codes]; omega, by rw [cut_codes]; exact hcs⟩
    generalize Str.join (Str.ofString "") (cs.map fun c => (⟨#[c]⟩ : Str)) = x at nm
    rw_mod_cast [in_strs_c hn, Bool.true_xor]
    split
    . rename_i c
      have c' : x ∉ ns := by simpa using c
      rw_mod_cast [hn]
      refine ⟨by rw [List.length_map]; omega, _, .refl _, ?_⟩
      have := q x nm c'
      rw [List.map_append] at this; exact this
    . exact hM _ _ ⟨_, _, _, rfl, rfl⟩
  rintro ρ μ' ⟨x3, x4, x5, rfl, rfl⟩
  refine stp fun M1 g1 => ?_
  walk_at "e"
  refine ⟨by decide, by decide, ?_⟩
  refine dLoop_by (fun i ρ μ2 => ∃ x5 x6, ρ = [some (.cell s), some (.cell na), some (.str letters), x3, x4, x5, x6] /\ μ2 = μ' /\ ∀ k, k < i -> backWord k ∈ ns) ⟨_, _, rfl, rfl, fun k hk => absurd hk (Nat.not_lt_zero k)⟩ ?_ ?_
  . rintro j d ρ μ2 hd ⟨x5, x6, rfl, rfl, hb⟩ M hM
    obtain ⟨hj, rfl⟩ := rangeL_get? hd
    have hj' : j < 104 := hj
    refine stp fun M2 g2 => ?_
    have e0 : (0 : Int) + (j : Int) = j := by omega
    rw [e0]
    rw_mod_cast [letters_at (v := (j : Int) % 26) (by omega) (by omega)]
    refine ⟨by decide, ll, ⟨by decide, by decide⟩, by omega, by omega, fun y hy => g2 _ _ ?_⟩
    have ex : y = backWord j := str_ext (by
      rw [hy]
      show List.replicate (1 + (j : Int) / 26).toNat (97 + ((j : Int) % 26).toNat) = List.replicate (1 + j / 26) (97 + j % 26)
      congr 1 <;> omega)
    subst ex
    have nm : Nm (backWord j) := by
      obtain ⟨⟨h8, h1⟩, ha⟩ := backWord_nm ⟨j, hj'⟩
      exact ⟨h1, h8, fun c hc => of_decide_eq_true (List.all_eq_true.mp ha c hc)⟩
    rw_mod_cast [in_strs_c hn, Bool.true_xor]
    split
    . rename_i c
      have c' : backWord j ∉ ns := by simpa using c
      rw_mod_cast [hn]
      refine ⟨by rw [List.length_map]; omega, _, .refl _, ?_⟩
      have := q _ nm c'
      rw [List.map_append] at this; exact this
    . rename_i c
      have c' : backWord j ∈ ns := by simpa using c
      refine hM _ _ ⟨_, _, rfl, rfl, fun k hk => ?_⟩
      by_cases e : k = j
      . rw [e]; exact c'
      . exact hb k (by omega)
  . rintro ρ μ2 ⟨x5, x6, rfl, rfl, hb⟩
    rw [rangeD_length] at hb
    exact (some_left (by omega) hb).elim
set_option synthInstance.maxHeartbeats 4000000
set_option synthInstance.maxSize 100000
set_option maxHeartbeats 4000000
/-! texts in order -/
set_option synthInstance.maxHeartbeats 4000000
set_option synthInstance.maxSize 100000
set_option maxHeartbeats 4000000
/-! tables of rows (name, way, starts) -/
abbrev TR := Str × Int × List Int
def trD (t : TR) : D := .tup [.str t.1, .int t.2.1, .tup (t.2.2.map D.int)]
def trL (t : TR) : List D := [.str t.1, .int t.2.1, .tup (t.2.2.map D.int)]
def trK (t : TR) : KeyT := [.inr t.1, .inl t.2.1]
def trV (t : TR) : D := .tup (t.2.2.map D.int)
theorem dTLoop_by {c : Nat} {g : DG} {w : DA} {wv : DE} {ρb : DEnv} {Pm : Mu -> Prop} {Fin : Mu -> Prop} {ds : List D} {μ : Mu} (I : Nat -> Mu -> Prop) (h0 : I 0 μ)
    (step : ∀ i d μ, ds[i]? = some d -> I i μ -> ∀ N : Mu -> Prop, (∀ μ', I (i + 1) μ' -> N μ') -> g d ρb μ fun ρ2 μ2 => w ρ2 μ2 fun es μ4 => es.length <= 1000 /\ wv ρ2 μ4 fun v μ5 => dttC (μ5 c) fun ks vs => optK (dKeys es) fun kk => ks.length <= 1000 /\ N (mset μ5 c (.dtt (tputN ks kk) (tputV ks vs kk v))))
    (fin : ∀ μ, I ds.length μ -> Fin μ) (hP : ∀ i μ, I i μ -> Pm μ) : dTLoop c g dNoT w wv ρb Pm Fin ds μ := by
  have key : ∀ (n i : Nat) μ, i + n = ds.length -> I i μ -> dTLoop c g dNoT w wv ρb Pm Fin (ds.drop i) μ := by
    intro n
    induction n with
    | zero =>
      intro i μ hi h
      rw [List.drop_eq_nil_of_le (by omega)]
      exact ⟨hP i μ h, fin μ (by rw [<- hi]; exact h)⟩
    | succ n ih =>
      intro i μ hi h
      have hlt : i < ds.length := by omega
      rw [List.drop_eq_getElem_cons hlt]
      exact ⟨hP i μ h, step i _ μ (List.getElem?_eq_getElem hlt) h _ fun μ' h' => ih (i + 1) μ' (by omega) h'⟩
  exact key ds.length 0 μ (by omega) h0
theorem tlook_tr {t : TR} : ∀ {ts : List TR}, t ∈ ts -> (ts.map trK).Nodup -> tlook (ts.map trK) (ts.map trV) (trK t) = some (trV t)
  | [], h, _ => by cases h
  | u :: ts, h, nd => by
    rw [List.map_cons, List.map_cons, tlook]
    obtain ⟨n1, n2⟩ := List.nodup_cons.mp nd
    rcases List.mem_cons.mp h with rfl | h
    . rw [if_pos rfl]
    . rw [if_neg (fun z : trK u = trK t => n1 (by rw [z]; exact List.mem_map.mpr ⟨t, h, rfl⟩))]
      exact tlook_tr h n2
theorem sbw_ok {ts : List TR} {μ : Mu} {Q : DK} (nd : (ts.map trK).Nodup) (hl : ts.length <= 900) (q : ∀ c, μ c = none -> Q (.cell c) (mset μ c (.dtt (ts.map trK) (ts.map trV)))) : dsp_starts_by_way [.lst (ts.map trD)] μ Q := by
  refine ⟨rfl, ?_⟩
  show dRet _ _ _ _
  unfold dTComp
  rw_mod_cast []
  refine ⟨by decide, fun c hc => ?_⟩
  refine dTLoop_by (fun i μ' => μ' = mset μ c (.dtt ((ts.take i).map trK) ((ts.take i).map trV))) rfl ?_ ?_ ?_
  . rintro i d μ' hd rfl N hN
    rw [List.getElem?_map] at hd
    obtain ⟨t, ht, rfl⟩ := Option.map_eq_some_iff.mp hd
    have hi := (List.getElem?_eq_some_iff.mp ht).1
    unfold trD
    rw_mod_cast [dttC_e, mset_mset]
    have eu : ts.take (i + 1) = ts.take i ++ [t] := by rw [List.take_add_one, ht]; rfl
    have hnew : trK t ∉ (ts.take i).map trK := by
      intro hm
      have hd2 : ((ts.take i).map trK ++ [trK t]).Nodup := by
        have : (ts.take (i + 1)).map trK = (ts.take i).map trK ++ [trK t] := by rw [eu, List.map_append]; rfl
        rw [<- this]
        exact ((List.take_sublist _ _).map _).nodup nd
      exact (List.nodup_append.mp hd2).2.2 _ hm _ (by simp) rfl
    refine ⟨by decide, ?_⟩
    have ek : dKeys [.str t.1, .int t.2.1] = some (trK t) := rfl
    rw [ek, optK_some]
    refine ⟨by rw [List.length_map, List.length_take]; omega, hN _ ?_⟩
    rw [eu, List.map_append, List.map_append]
    unfold tputN tputV
    rw [if_neg hnew, if_neg hnew]
    rfl
  . rintro μ' rfl
    rw [List.length_map, List.take_of_length_le (Nat.le_refl _)]
    exact ⟨_, .refl _, q c hc⟩
  . intro _ _ _
    trivial
theorem tof_ok {ts : List TR} {t : TR} {μ : Mu} {Q : DK} (nd : (ts.map trK).Nodup) (hl : ts.length <= 900) (ht : t ∈ ts) (q : Q (trV t) μ) : dsp_Table_of [.obj "Table" fs_Table [.lst (ts.map trD)], .str t.1, .int t.2.1] μ Q := by
  refine ⟨rfl, stp fun N1 h1 => ?_⟩
  rw_mod_cast [fo_Table_rows]
  refine sbw_ok nd hl fun c hc => h1 _ _ ?_
  refine stp fun N2 h2 => ?_
  unfold dTIn
  rw_mod_cast [dttR_c, dttC_e]
  have ek : dKeys [.str t.1, .int t.2.1] = some (trK t) := rfl
  have hm : trK t ∈ ts.map trK := List.mem_map.mpr ⟨t, ht, rfl⟩
  rw [ek]
  refine ⟨by decide, ?_⟩
  rw [optK_some, decide_eq_true hm]
  show (if (true ^^ true) = true then _ else _)
  rw [if_neg (by decide)]
  refine h2 _ _ ?_
  show dRet _ _ _ _
  unfold dTGet
  rw_mod_cast [dttR_c, dttC_e]
  refine ⟨by decide, ?_⟩
  rw [ek, optK_some, tlook_tr ht nd, optK_some]
  exact ⟨_, MLe.mset hc, q⟩
/-- Table(rows): some order of them -/
def tbO (ts : List TR) : D := .obj "Table" fs_Table [.lst (ts.map trD)]
theorem trow_some {ts : List TR} (nd : (ts.map trK).Nodup) : ∀ i j, i ≠ j -> (dRow ((ts.map trL).getD i []) ((ts.map trL).getD j [])).isSome := by
  intro i j hij
  have out : ∀ {n}, ¬ n < ts.length -> (ts.map trL).getD n [] = [] := fun {n} h => by simp [Nat.le_of_not_lt h]
  have inn : ∀ {n} (h : n < ts.length), (ts.map trL).getD n [] = trL ts[n] := fun {n} h => by simp [h]
  by_cases hi : i < ts.length
  . by_cases hj : j < ts.length
    . rw [inn hi, inn hj]
      unfold trL
      by_cases e1 : ts[i].1 = ts[j].1
      . by_cases e2 : ts[i].2.1 = ts[j].2.1
        . exfalso
          have hk : (ts.map trK)[i]'(by simpa using hi) = (ts.map trK)[j]'(by simpa using hj) := by
            rw [List.getElem_map, List.getElem_map]; unfold trK; rw [e1, e2]
          rcases Nat.lt_or_gt_of_ne hij with z | z
          . exact (List.pairwise_iff_getElem.mp nd) i j _ _ z hk
          . exact (List.pairwise_iff_getElem.mp nd) j i _ _ z hk.symm
        . simp [dRow, e1, e2]
      . simp [dRow, e1]
    . rw [out hj, inn hi]; rfl
  . rw [out hi]
    by_cases hj : j < ts.length
    . rw [inn hj]; rfl
    . rw [out hj]; rfl
theorem trD_L (ts : List TR) : ts.map trD = (ts.map trL).map D.tup := by rw [List.map_map]; rfl
theorem perm_map_inv {α β : Type} {f : α -> β} : ∀ {l : List α} {l' : List β}, List.Perm l' (l.map f) -> ∃ l2, List.Perm l2 l /\ l' = l2.map f := fun {l l'} h => by
  generalize hm : l.map f = m at h
  induction h generalizing l with
  | nil => cases l with
    | nil => exact ⟨[], .refl _, rfl⟩
    | cons _ _ => cases hm
  | cons x _ ih =>
    cases l with
    | nil => cases hm
    | cons a l =>
      cases hm
      obtain ⟨l2, p, rfl⟩ := ih rfl
      exact ⟨a :: l2, p.cons a, rfl⟩
  | swap x y _ =>
    match l, hm with
    | a :: b :: l, hm =>
      cases hm
      exact ⟨b :: a :: l, .swap _ _ _, rfl⟩
  | trans _ _ ih1 ih2 =>
    obtain ⟨l2, p, rfl⟩ := ih2 hm
    obtain ⟨l3, p3, rfl⟩ := ih1 rfl
    exact ⟨l3, p3.trans p, rfl⟩
set_option synthInstance.maxHeartbeats 4000000
set_option synthInstance.maxSize 100000
set_option maxHeartbeats 4000000
/-! ### k27: some rows -/
structure STR (ts : List TR) (ns : List Str) (i : Nat) : Prop where
  nd : (ts.map trK).Nodup
  nm : ∀ t ∈ ts, t.1 ∈ ns /\ Nm t.1
  wy : ∀ t ∈ ts, t.2.1 = 0 \/ t.2.1 = 1
  st : ∀ t ∈ ts, t.2.2 ≠ [] /\ t.2.2.length <= 3
  l : ts.length <= 2 * i
  n : ns.length = i
theorem mset_id {μ : Mu} {k : Nat} {c : Ct} (h : μ k = some c) : mset μ k c = μ := by
  funext j
  by_cases e : j = k
  . subst e; rw [mset_same, h]
  . rw [mset_ne e]
theorem mset_swp {μ : Mu} {a b : Nat} {x y z : Ct} (h : a ≠ b) : mset (mset (mset μ a x) b y) a z = mset (mset μ a z) b y := by
  funext j
  by_cases ja : j = a
  . subst ja; rw [mset_same, mset_ne h, mset_same]
  . by_cases jb : j = b
    . subst jb; rw [mset_ne ja, mset_same, mset_same]
    . rw [mset_ne ja, mset_ne jb, mset_ne ja, mset_ne jb, mset_ne ja]
theorem ways4 {v : Int} (h0 : 0 <= v) (h1 : v < 4) : ∃ ws : List Int, ws.Nodup /\ (∀ w ∈ ws, w = 0 \/ w = 1) /\ ws.length <= 2 /\ atI [D.lst [D.int 0], D.lst [D.int 1], D.lst [D.int 1, D.int 0], D.lst [D.int 0, D.int 1]] v = some (.lst (ws.map D.int)) := by
  have : v = 0 \/ v = 1 \/ v = 2 \/ v = 3 := by omega
  rcases this with rfl | rfl | rfl | rfl
  . exact ⟨[0], by decide, by decide, by decide, rfl⟩
  . exact ⟨[1], by decide, by decide, by decide, rfl⟩
  . exact ⟨[1, 0], by decide, by decide, by decide, rfl⟩
  . exact ⟨[0, 1], by decide, by decide, by decide, rfl⟩
theorem STR.more {ts us : List TR} {ns : List Str} {i : Nat} {x : Str} {ws : List Int} (R : STR ts ns i) (nx : Nm x) (xn : x ∉ ns) (w1 : ws.Nodup) (w2 : ∀ w ∈ ws, w = 0 \/ w = 1) (w3 : ws.length <= 2) (u1 : us.map trK = ws.map (fun w => [.inr x, .inl w])) (u2 : ∀ t ∈ us, t.2.2 ≠ [] /\ t.2.2.length <= 3) : STR (ts ++ us) (ns ++ [x]) (i + 1) := by
  have key : ∀ t ∈ us, t.1 = x /\ t.2.1 ∈ ws := fun t ht => by
    have : trK t ∈ ws.map (fun w => ([.inr x, .inl w] : KeyT)) := by rw [<- u1]; exact List.mem_map_of_mem ht
    obtain ⟨w, hw, e⟩ := List.mem_map.mp this
    unfold trK at e
    simp at e
    exact ⟨e.1.symm, e.2 ▸ hw⟩
  have ul : us.length = ws.length := by have := congrArg List.length u1; simpa using this
  refine ⟨?_, fun t ht => ?_, fun t ht => ?_, fun t ht => ?_, ?_, ?_⟩
  . rw [List.map_append, List.nodup_append]
    refine ⟨R.nd, ?_, fun a ha b hb z => ?_⟩
    . rw [u1]
      exact List.pairwise_map.mpr (w1.imp fun h e => h (by simpa using e))
    . obtain ⟨t, ht, rfl⟩ := List.mem_map.mp ha
      obtain ⟨t', ht', rfl⟩ := List.mem_map.mp hb
      unfold trK at z
      simp at z
      exact xn (by rw [<- (key t' ht').1, <- z.1]; exact (R.nm t ht).1)
  . rcases List.mem_append.mp ht with h | h
    . exact ⟨List.mem_append_left _ (R.nm t h).1, (R.nm t h).2⟩
    . rw [(key t h).1]; exact ⟨by simp, nx⟩
  . rcases List.mem_append.mp ht with h | h
    . exact R.wy t h
    . exact w2 _ (key t h).2
  . rcases List.mem_append.mp ht with h | h
    . exact R.st t h
    . exact u2 t h
  . have := R.l; rw [List.length_append]; omega
  . have := R.n; rw [List.length_append, this]; rfl
theorem some_ok {s na : Nat} {μ : Mu} {Q : DK} (hs : μ s = some .draw) (hn : μ na = some (.lst [])) (q : ∀ ts ns i, i <= 4 -> STR ts ns i -> Q (.lst (ts.map trD)) (mset μ na (.lst (ns.map D.str)))) : dsp_law_some [.cell s, .cell na] μ Q := by
  have hz : (200 : Nat) <= sizeLine := by decide
  have sna : s ≠ na := fun z => by rw [<- z, hs] at hn; cases hn
  refine ⟨rfl, stp fun N1 k1 => ?_⟩
  rw_mod_cast []
  refine ⟨by decide, fun c hc => k1 _ _ ?_⟩
  have nac : na ≠ c := fun z => by rw [<- z, hn] at hc; cases hc
  have sc : s ≠ c := fun z => by rw [<- z, hs] at hc; cases hc
  have e0 : mset μ c (.lst []) = mset (mset μ na (.lst (([] : List Str).map D.str))) c (.lst (([] : List TR).map trD)) := by
    show _ = mset (mset μ na (.lst [])) c (.lst [])
    rw [mset_id hn]
  rw [e0]
  refine stp fun N2 k2 => ?_
  rw_mod_cast []
  refine ⟨by rw [mset_ne sc, mset_ne sna]; exact hs, by decide, by decide, fun v v0 v1 => ⟨by omega, by omega, ?_⟩⟩
  refine dLoop_by (fun i ρ μ' => ∃ ts ns x3 x4 x5, ρ = [some (.cell s), some (.cell na), some (.cell c), x3, x4, x5] /\ μ' = mset (mset μ na (.lst (ns.map D.str))) c (.lst (ts.map trD)) /\ STR ts ns i) ⟨[], [], none, none, none, rfl, rfl, ⟨.nil, (fun _ h => by cases h), (fun _ h => by cases h), (fun _ h => by cases h), Nat.le_refl _, rfl⟩⟩ ?_ ?_
  . rintro i d ρ μ' hd ⟨ts, ns, x3, x4, x5, rfl, rfl, R⟩ N hN
    have hi := (List.getElem?_eq_some_iff.mp hd).1
    have hi4 : i < 4 := by have := (rangeL_get? hd).1; omega
    refine stp fun N3 k3 => ?_
    rw_mod_cast []
    refine name_ok (ns := ns) (by rw [mset_ne sc, mset_ne sna]; exact hs) (by rw [mset_ne nac, mset_same]) (by have := R.n; omega) fun x nx xn => ?_
    rw [mset_swp nac]
    refine k3 _ _ ?_
    rw_mod_cast []
    refine ⟨by omega, by omega, by omega, by omega, by omega, by rw [mset_ne sc, mset_ne sna]; exact hs, by decide, by decide, fun u u0 u1 => ?_⟩
    obtain ⟨ws, w1, w2, w3, w4⟩ := ways4 u0 u1
    rw [w4]
    rw_mod_cast []
    have xt : ∀ t ∈ ts, t.1 ≠ x := fun t ht z => xn (by rw [<- z]; exact (R.nm t ht).1)
    refine dLoop_by (fun j ρ μ' => ∃ us x5, ρ = [some (.cell s), some (.cell na), some (.cell c), some d, some (.str x), x5] /\ μ' = mset (mset μ na (.lst ((ns ++ [x]).map D.str))) c (.lst ((ts ++ us).map trD)) /\ us.map trK = (ws.take j).map (fun w => [.inr x, .inl w]) /\ ∀ t ∈ us, t.2.2 ≠ [] /\ t.2.2.length <= 3) ⟨[], _, rfl, by rw [List.append_nil], rfl, (fun _ h => by cases h)⟩ ?_ ?_
    . rintro j d2 ρ μ' hd2 ⟨us, x5, rfl, rfl, u1, u2⟩ N4 hN4
      rw [List.getElem?_map] at hd2
      obtain ⟨w, hw, rfl⟩ := Option.map_eq_some_iff.mp hd2
      rw_mod_cast []
      refine ⟨by decide, by rw [mset_ne sc, mset_ne sna]; exact hs, by decide, by decide, fun a a0 a1 => ⟨by omega, by omega, ?_⟩⟩
      generalize hμ2 : mset (mset μ na (.lst ((ns ++ [x]).map D.str))) c (.lst ((ts ++ us).map trD)) = μ2
      refine dCLoopN_by (fun i ys μ3 => μ3 = μ2 /\ ∃ st : List Int, ys = st.map D.int /\ st.length = i) ⟨rfl, [], rfl, rfl⟩ ?_ ?_
      . rintro i2 d2 ys μ3 hd2 ⟨rfl, st, rfl, hst⟩
        have hi2 := (rangeL_get? hd2).1
        refine ⟨by rw [List.length_map]; omega, fun N hN => ?_⟩
        rw_mod_cast []
        refine ⟨by rw [<- hμ2, mset_ne sc, mset_ne sna]; exact hs, by decide, by decide, fun v v0 v1 => hN _ _ ⟨rfl, st ++ [v], by rw [List.map_append]; rfl, by rw [List.length_append, hst]; rfl⟩⟩
      rintro ys μ3 ⟨rfl, st, rfl, hst⟩
      rw [List.length_map, rangeL_length] at hst
      subst hμ2
      have ul : us.length <= 2 := by have := congrArg List.length u1; simp at this; omega
      rw_mod_cast [mset_mset]
      refine ⟨by omega, by have := R.l; rw [List.length_map, List.length_append]; omega, hN4 _ _ ⟨us ++ [(x, w, st)], _, rfl, ?_, ?_, fun t ht => ?_⟩⟩
      . rw [<- List.append_assoc, List.map_append (l₁ := ts ++ us)]; rfl
      . rw [List.map_append, u1, List.take_add_one, hw, List.map_append]; rfl
      . rcases List.mem_append.mp ht with h | h
        . exact u2 t h
        . rw [List.mem_singleton.mp h]
          exact ⟨fun z => by subst z; simp at hst; omega, by show st.length <= 3; omega⟩
    . rintro ρ μ' ⟨us, x5, rfl, rfl, u1, u2⟩
      rw [List.length_map, List.take_of_length_le (Nat.le_refl _)] at u1
      refine hN _ _ ⟨_, _, _, _, _, rfl, rfl, R.more nx xn w1 w2 w3 u1 u2⟩
  . rintro ρ μ' ⟨ts, ns, x3, x4, x5, rfl, rfl, R⟩
    rw [List.length_map, rangeL_length] at R
    refine k2 _ _ ?_
    rw_mod_cast [mdel_mset (show mset μ na (.lst (ns.map D.str)) c = none by rw [mset_ne nac.symm]; exact hc)]
    exact ⟨_, .refl _, q ts ns _ (by omega) R⟩
set_option synthInstance.maxHeartbeats 4000000
set_option synthInstance.maxSize 100000
set_option maxHeartbeats 4000000
/-! ### k27: tables, their equality, names that are not there -/
theorem pw_uniqM {α : Type} {r : α -> α -> Prop} : ∀ {l1 l2 : List α}, List.Perm l1 l2 -> List.Pairwise r l1 -> List.Pairwise r l2 -> (∀ a ∈ l1, ∀ b ∈ l1, r a b -> r b a -> a = b) -> l1 = l2
  | [], l2, h, _, _, _ => h.nil_eq
  | a :: r1, [], h, _, _, _ => absurd h.length_eq (by simp)
  | a :: r1, b :: r2, h, h1, h2, anti => by
    obtain ⟨a1, p1⟩ := List.pairwise_cons.mp h1
    obtain ⟨b1, p2⟩ := List.pairwise_cons.mp h2
    have e : a = b := by
      rcases List.mem_cons.mp (h.mem_iff.mp List.mem_cons_self) with z | z
      . exact z
      . rcases List.mem_cons.mp (h.mem_iff.mpr (List.mem_cons_self (a := b))) with y | y
        . exact y.symm
        . exact anti a (.head _) b (.tail _ y) (a1 b y) (b1 a z)
    subst e
    rw [pw_uniqM (List.perm_cons a |>.mp h) p1 p2 fun x hx y hy => anti x (.tail _ hx) y (.tail _ hy)]
theorem trK_inj {ts : List TR} (nd : (ts.map trK).Nodup) {a b : TR} (ha : a ∈ ts) (hb : b ∈ ts) (e : trK a = trK b) : a = b := by
  obtain ⟨i, hi, rfl⟩ := List.getElem_of_mem ha
  obtain ⟨j, hj, rfl⟩ := List.getElem_of_mem hb
  by_cases h : i = j
  . subst h; rfl
  . exfalso
    have hk : (ts.map trK)[i]'(by simpa using hi) = (ts.map trK)[j]'(by simpa using hj) := by rw [List.getElem_map, List.getElem_map]; exact e
    rcases Nat.lt_or_gt_of_ne h with z | z
    . exact (List.pairwise_iff_getElem.mp nd) i j _ _ z hk
    . exact (List.pairwise_iff_getElem.mp nd) j i _ _ z hk.symm
theorem tr_anti {a b : TR} (h : rLe (trL a) (trL b)) (h' : rLe (trL b) (trL a)) : trK a = trK b := by
  unfold rLe trL at h h'
  unfold dRow at h h'
  unfold trK
  by_cases e : a.1 = b.1
  . rw [if_pos e.symm] at h
    rw [if_pos e] at h'
    unfold dRow at h h'
    by_cases e2 : a.2.1 = b.2.1
    . rw [e, e2]
    . exfalso
      rw [if_neg (fun z => e2 z.symm)] at h
      rw [if_neg e2] at h'
      simp at h h'
      omega
  . exfalso
    rw [if_neg (fun z => e z.symm)] at h
    rw [if_neg e] at h'
    simp at h h'
    exact e (sLt_eq h' h)
/-- the rows in order -/
structure Srt (ts l : List TR) : Prop where
  p : List.Perm l ts
  s : l.Pairwise fun a b => rLe (trL a) (trL b)
theorem Srt.uniq {ts l1 l2 : List TR} (nd : (ts.map trK).Nodup) (h1 : Srt ts l1) (h2 : Srt ts l2) : l1 = l2 :=
  pw_uniqM (h1.p.trans h2.p.symm) h1.s h2.s fun a ha b hb x y => trK_inj nd (h1.p.mem_iff.mp ha) (h1.p.mem_iff.mp hb) (tr_anti x y)
theorem srt_ok {ts : List TR} {d : D} {μ : Mu} {Q : DK} (hl : lookL μ d = some (ts.map trD) \/ d = .tup (ts.map trD)) (nd : (ts.map trK).Nodup) (hz : ts.length < 64) (q : ∀ l, Srt ts l -> Q (.lst (l.map trD)) μ) : dSort4 [d] μ Q := by
  refine sort4_rows (rows := ts.map trL) (by rw [<- trD_L]; exact hl) (by rw [List.length_map]; exact hz) (.inl fun r hr => ?_) (trow_some nd) fun rows' p s => ?_
  . obtain ⟨t, _, rfl⟩ := List.mem_map.mp hr
    exact ⟨_, _, rfl⟩
  . obtain ⟨ts', p', rfl⟩ := perm_map_inv p
    rw [<- trD_L]
    exact q ts' ⟨p', List.pairwise_map.mp s⟩
theorem tinitS_ok {ts : List TR} {d : D} {k : Nat} {μ : Mu} {Q : DK} (hl : lookL (mset μ k (.ins "Table" [] [])) d = some (ts.map trD) \/ d = .tup (ts.map trD)) (nd : (ts.map trK).Nodup) (hz : ts.length < 64)
    (q : ∀ l, Srt ts l -> Q .non (mset μ k (.ins "Table" fs_Table [.lst (l.map trD)]))) : dsp_TableD_initD [.cell k, d] (mset μ k (.ins "Table" [] [])) Q := by
  refine ⟨rfl, ?_⟩
  show dSetF _ _ _ _ _ _ _
  unfold dSetF
  rw_mod_cast []
  refine srt_ok hl nd hz fun l S => ?_
  rw_mod_cast [mset_mset]
  exact ⟨_, .refl _, q l S⟩
/-- Table(rows), made and kept -/
theorem mk_ok {ts : List TR} {d : D} {k : Nat} {μ : Mu} {Q : DK} (hk : μ k = none) (hl : lookL (mset μ k (.ins "Table" [] [])) d = some (ts.map trD) \/ d = .tup (ts.map trD)) (nd : (ts.map trK).Nodup) (hz : ts.length < 64)
    (q : ∀ l, Srt ts l -> Q (tbO l) μ) : dsp_TableD_initD [.cell k, d] (mset μ k (.ins "Table" [] [])) (fun d μ3 => d = .non /\ frzD μ3 (.cell k) Q) := by
  refine tinitS_ok hl nd hz fun l S => ⟨rfl, ?_⟩
  rw [e_frz, mset_same, frzK_ins, mdel_mset hk]
  exact q l S
theorem nm_strOk {x : Str} (h : Nm x) : PyData.strOk x = true := by
  unfold PyData.strOk
  rw [<- Array.all_toList]
  exact List.all_eq_true.mpr fun c hc => decide_eq_true (by have := h.az c hc; omega)
theorem si_tr (t : TR) (h : PyData.strOk t.1 = true) : SI 2 (trD t) := by
  intro d hd
  simp only [List.mem_cons, List.not_mem_nil, or_false] at hd
  rcases hd with rfl | rfl | rfl
  . exact h
  . trivial
  . intro e he
    obtain ⟨i, _, rfl⟩ := List.mem_map.mp he
    trivial
theorem si_trs {l : List TR} (h : ∀ t ∈ l, PyData.strOk t.1 = true) : SI 3 (.lst (l.map trD)) := by
  intro d hd
  obtain ⟨t, ht, rfl⟩ := List.mem_map.mp hd
  exact si_tr t (h t ht)
theorem trD_inj {a b : TR} (h : trD a = trD b) : a = b := by
  obtain ⟨a1, a2, a3⟩ := a
  obtain ⟨b1, b2, b3⟩ := b
  unfold trD at h
  simp at h
  obtain ⟨h1, h2, h3⟩ := h
  have : a3 = b3 := List.map_inj_right (fun x y e => by cases e; rfl) |>.mp h3
  rw [h1, h2, this]
theorem trs_inj {l l' : List TR} (h : D.lst (l.map trD) = .lst (l'.map trD)) : l = l' := List.map_inj_right (fun _ _ e => trD_inj e) |>.mp (by injection h)
theorem teq_ok {l l' : List TR} {μ : Mu} {Q : DK} (h : ∀ t ∈ l, PyData.strOk t.1 = true) (h' : ∀ t ∈ l', PyData.strOk t.1 = true) (q : ∀ b : Bool, (b = true ↔ l = l') -> Q (.bl b) μ) : dEqO "Table" dsp_TableD_eqD (tbO l) (tbO l') μ Q := by
  refine ⟨?_, ?_, rfl, ?_⟩
  . unfold tbO; rw_mod_cast []
  . show insM _ (tbO l') _
    unfold tbO; rw_mod_cast []
  . unfold tbO
    rw_mod_cast []
    refine dEq_si (si_trs h) (si_trs h') (by decide) fun b hb => ?_
    exact ⟨_, .refl _, q b ⟨fun z => trs_inj (hb.mp z), fun z => hb.mpr (by rw [z])⟩⟩
theorem teq_str {l : List TR} {x : Str} {μ : Mu} {Q : DK} (q : Q (.bl false) μ) : dEqO "Table" dsp_TableD_eqD (tbO l) (.str x) μ Q := by
  refine ⟨?_, trivial, rfl, ?_⟩
  . unfold tbO; rw_mod_cast []
  . unfold tbO
    rw_mod_cast []
    exact ⟨_, .refl _, q⟩
theorem tlen_ok {l : List TR} {μ : Mu} {Q : DK} (hl : l.length < 1000) (q : Q (.int l.length) μ) : dsp_TableD_lenD [tbO l] μ Q := by
  refine ⟨rfl, ?_⟩
  unfold tbO
  rw_mod_cast []
  rw [List.length_map]
  exact ⟨_, .refl _, q⟩
theorem told_ok {l : List TR} {μ : Mu} {Q : DK} (hl : l.length < 1000) (q : ∀ c, μ c = none -> Q (.cell c) (mset μ c (.lst (l.map trD)))) : dsp_Table_told [tbO l] μ Q := by
  refine ⟨rfl, ?_⟩
  unfold tbO
  rw_mod_cast []
  exact fun c hc => ⟨_, .refl _, q c hc⟩
theorem fno_ok {x : Str} (h : Nm x) : ∃ out, f_NoName x = some out /\ out.length <= sizeLine := by
  obtain ⟨a, b, c, d, e⟩ : ∃ a b c d, jParts (defBody s_NoNameD_initD) = [.Constant (.str "there is no such name: ") a b, .FormattedValue (.Name "name" c) (-1) none d] := ⟨_, _, _, _, rfl⟩
  have hl : x.length <= 8 := by have := h.l8; rw [Array.length_toList] at this; exact this
  have hz : (1000 : Nat) <= sizeLine := by decide
  have e1 : (Str.empty ++ Str.ofString "there is no such name: ").length = 23 := by decide +kernel
  have e2 : (Str.empty ++ Str.ofString "there is no such name: " ++ x).length = 23 + x.length := by
    show ((Str.empty ++ Str.ofString "there is no such name: ").cps ++ x.cps).size = _
    rw [Array.size_append]; exact congrArg (· + x.cps.size) e1
  refine ⟨Str.empty ++ Str.ofString "there is no such name: " ++ x, ?_, by omega⟩
  have s1 : ∀ (y z : Str) (r : List Expr) acc, fText "name" z (.Constant (.str y) a b :: r) acc = if (acc ++ y).length <= sizeLine then fText "name" z r (acc ++ y) else none := fun _ _ _ _ => rfl
  have s2 : ∀ (z : Str) (r : List Expr) acc, fText "name" z (.FormattedValue (.Name "name" c) (-1) none d :: r) acc = if Str.ofString "name" = Str.ofString "name" /\ (Str.ofString "name" == ("__debug__" : Str)) = false /\ (acc ++ z).length <= sizeLine /\ z.length <= sizeLine then fText "name" z r (acc ++ z) else none := fun _ _ _ => rfl
  unfold f_NoName
  rw [e, s1, if_pos (by omega), s2, if_pos ⟨rfl, by decide +kernel, by omega, by omega⟩]
  rfl
theorem tofX_bad {ts : List TR} {x out : Str} {k : Int} {μ : Mu} {Q : DK} {X0 : DX} (nd : (ts.map trK).Nodup) (hl : ts.length <= 900) (ht : ([.inr x, .inl k] : KeyT) ∉ ts.map trK) (hf : f_NoName x = some out) (hz : out.length <= sizeLine) (q : X0 (mkLab "NoName" x) μ) : dsp_Table_ofX [tbO ts, .str x, .int k] μ Q X0 := by
  unfold tbO
  refine ⟨rfl, stp fun N1 h1 => ?_⟩
  rw_mod_cast [fo_Table_rows]
  refine sbw_ok nd hl fun c hc => h1 _ _ ?_
  refine stp fun N2 h2 => ?_
  unfold dTIn
  rw_mod_cast [dttR_c, dttC_e]
  have ek : dKeys [.str x, .int k] = some ([.inr x, .inl k] : KeyT) := rfl
  rw [ek]
  refine ⟨by decide, ?_⟩
  rw [optK_some, decide_eq_false ht]
  show (if (true ^^ false) = true then _ else _)
  rw [if_pos (by decide)]
  rw_mod_cast [dRaiseI]
  exact ⟨⟨out, hf, hz⟩, _, MLe.mset hc, q⟩
theorem missing_ok {ts : List TR} {x : Str} {k : Int} {μ : Mu} {Q : DK} (nd : (ts.map trK).Nodup) (hl : ts.length <= 900) (ht : ([.inr x, .inl k] : KeyT) ∉ ts.map trK) (nx : Nm x) (q : Q (.str x) μ) : dsp_law_missing [tbO ts, .str x, .int k] μ Q := by
  obtain ⟨out, hf, hz⟩ := fno_ok nx
  refine ⟨rfl, stp fun N1 h1 => ?_⟩
  rw_mod_cast []
  refine h1 _ _ (stp fun N2 h2 => ?_)
  rw_mod_cast [dTryN]
  refine ⟨by unfold tbO; exact ⟨rfl, lm_Table_of⟩, tofX_bad nd hl ht hf hz ?_⟩
  refine ⟨.inr ⟨"NoName", x, rfl, by decide +kernel, by decide⟩, ?_⟩
  unfold dEName
  rw_mod_cast []
  refine ⟨"NoName", x, rfl, by decide +kernel, by decide, h2 _ _ ?_⟩
  rw_mod_cast []
  exact ⟨_, .refl _, q⟩
theorem back_ix : ∀ n : _root_.Fin 9, sliceRange (sliceBounds none none (some (-1)) n.val).1 (sliceBounds none none (some (-1)) n.val).2.1 (sliceBounds none none (some (-1)) n.val).2.2 = (List.range n.val).reverse := by decide +kernel
theorem ix_all {α : Type} : ∀ xs : List α, (List.range xs.length).filterMap (xs[·]?) = xs
  | [] => rfl
  | x :: xs => by
    rw [List.length_cons, List.range_succ_eq_map, List.filterMap_cons]
    show x :: List.filterMap _ _ = _
    rw [List.filterMap_map]
    congr 1
    exact ix_all xs
theorem back_ok {α : Type} {xs : List α} (h : xs.length <= 8) : List.Perm (stepL xs none none (-1)) xs := by
  unfold stepL
  rw [back_ix ⟨xs.length, by omega⟩, List.filterMap_reverse, ix_all]
  exact List.reverse_perm _
set_option synthInstance.maxHeartbeats 4000000
set_option synthInstance.maxSize 100000
set_option maxHeartbeats 4000000
/-! ### k27 -/
theorem ist_c {k : Nat} {ds : List D} {μ : Mu} {Q : DK} (h : μ k = some (.lst ds)) (q : Q (.bl true) μ) : dIsT [.cell k, .ty "list"] μ Q := by
  show dIsI [.cell k, .ty "list"] μ Q
  have e : tyD μ (.cell k) = some "list" := by simp [tyD, h]
  have b : isTy "list" "list" = true := by decide +kernel
  simp only [dIsI, e]
  exact ⟨by decide +kernel, by rw [b]; exact q⟩
theorem tlenO_ok {l : List TR} {μ : Mu} {Q : DK} (hl : l.length < 1000) (q : Q (.int l.length) μ) : dLenO "Table" dsp_TableD_lenD [tbO l] μ Q := by
  unfold dLenO
  refine ⟨by unfold tbO; exact rfl, tlen_ok hl ⟨_, rfl, by omega, by omega, q⟩⟩
theorem of_ok {l : List TR} {t : TR} {a : Str} {k : Int} {μ : Mu} {Q : DK} (nd : (l.map trK).Nodup) (hl : l.length <= 900) (ht : t ∈ l) (e1 : a = t.1) (e2 : k = t.2.1) (q : Q (trV t) μ) : dsp_Table_of [tbO l, .str a, .int k] μ Q := by
  subst e1 e2
  unfold tbO
  exact tof_ok nd hl ht q
theorem slv_ok {a : Str} {k v : Int} {us : List Int} {μ : Mu} {Q : DK} (q : Q (.tup (us.map D.int)) μ) : dSlG (trV (a, k, us ++ [v])) none (some (-1)) μ Q := by
  have e : (List.map D.int (us ++ [v])).length = us.length + 1 := by simp
  have e2 : HT.sIx (us.length + 1) (us.length + 1) (some (-1)) = us.length := by
    show (if (-1 : Int) < 0 then ((-1 : Int) + ((us.length + 1 : Nat) : Int)).toNat else min (-1 : Int).toNat (us.length + 1)) = _
    rw [if_pos (by decide)]; omega
  have e3 : cutD (List.map D.int (us ++ [v])) none (some (-1)) = us.map D.int := by
    unfold cutD
    rw [e, e2]
    show (List.drop 0 _).take (us.length - 0) = _
    rw [List.drop_zero, List.map_append, List.take_append_of_le_length (by simp), List.take_of_length_le (by simp)]
  show dSlG (.tup (List.map D.int (us ++ [v]))) none (some (-1)) μ Q
  rw [e_slt, e, e2, e3]
  exact ⟨fun z => by have := z.2; omega, q⟩
theorem ixv_ok {a : Str} {k v : Int} {us : List Int} {μ : Mu} {Q : DK} : dIx (trV (a, k, us ++ [v])) (.int (-1)) μ Q = Q (.int v) μ := by
  unfold trV
  rw [e_ixt, atI_neg1]
  show optK ((us ++ [v]).map D.int).getLast? _ = _
  simp
  rfl
def rkD (t : TR) : D := .lst [.str t.1, .int t.2.1]
theorem si_rk {t : TR} (h : PyData.strOk t.1 = true) : SI 1 (rkD t) := by
  intro d hd
  simp only [List.mem_cons, List.not_mem_nil, or_false] at hd
  rcases hd with rfl | rfl
  . exact h
  . trivial
theorem rd_law : ∀ ds μ Q, dspLaw ds μ Q -> bodySp w_law N_law 1 ds μ Q := by
  rintro ds μ Q ⟨ns0, rfl, hl0, q⟩
  have hz : (1000 : Nat) <= sizeLine := by decide
  refine ⟨rfl, stp fun N1 h1 => ?_⟩
  walk_at "e"
  intro s hs0
  refine h1 _ _ (stp fun N2 h2 => ?_)
  have hs : mset μ s .draw s = some .draw := mset_same
  generalize mset μ s .draw = μ1 at hs ⊢
  walk_at "e"
  refine ⟨by decide, fun na hna => ?_⟩
  refine h2 _ _ (stp fun N3 h3 => ?_)
  have sna : s ≠ na := fun z => by rw [<- z, hs] at hna; cases hna
  walk_at "e"
  refine some_ok (by rw [mset_ne sna]; exact hs) mset_same fun ts ns i hi R => h3 _ _ (stp fun N4 h4 => ?_)
  have tl := R.l
  rw_mod_cast [mset_mset]
  refine name_ok (ns := ns) (by rw [mset_ne sna]; exact hs) mset_same (by have := R.n; omega) fun x nx xn => h4 _ _ (stp fun N5 h5 => ?_)
  rw [mset_mset]
  generalize mset μ1 na (.lst ((ns ++ [x]).map D.str)) = μ2
  rw_mod_cast []
  intro c hc
  refine h5 _ _ (stp fun N6 h6 => ?_)
  rw_mod_cast []
  intro kt hkt
  have ckt : c ≠ kt := fun z => by rw [<- z, mset_same] at hkt; cases hkt
  refine mk_ok (ts := ts) hkt (.inl (by show lookL (mset (mset μ2 c _) kt _) (.cell c) = _; unfold lookL; show (match mset (mset μ2 c _) kt _ c with | some (.lst ds) => some ds | _ => none) = _; rw [mset_ne ckt, mset_same])) R.nd (by omega) fun l S => h6 _ _ (stp fun N7 h7 => ?_)
  clear hkt ckt kt
  rw_mod_cast []
  have lb := back_ok (xs := ts.map trD) (by rw [List.length_map]; omega)
  obtain ⟨tb, pb, eb⟩ := perm_map_inv lb
  have hd3 : ∀ ρ μ (Q : DK), ρ = [some (D.scr ns0), some (.cell s), some (.cell na), some (.lst (ts.map trD)), some (.str x), some (.cell c), some (tbO l), none, none, none, none, none, none, none, none] -> Q (.lst (tb.map trD)) μ -> dSl3 (dVar 3) dNoPart dNoPart (dPart (dUn dNeg (dC (D.int 1)))) ρ μ Q := fun ρ μ Q hρ hQ => by
    subst hρ
    unfold dSl3 dSt
    rw_mod_cast []
    rw [<- eb] at hQ
    refine ⟨⟨by decide, ?_⟩, hQ⟩
    rw [eb, List.length_map, pb.length_eq]; omega
  refine hd3 _ _ _ rfl ?_
  rw_mod_cast []
  intro kt hkt
  refine mk_ok (ts := tb) hkt (.inr rfl) ((pb.map trK).nodup_iff.mpr R.nd) (by rw [pb.length_eq]; omega) fun l2 S2 => h7 _ _ (stp fun N8 h8 => ?_)
  have S2' : Srt ts l2 := ⟨S2.p.trans pb, S2.s⟩
  obtain rfl := S.uniq R.nd S2'
  clear hkt kt hd3 lb S2 S2' eb pb tb
  rw_mod_cast []
  have kts : ∀ t ∈ ts, PyData.strOk t.1 = true := fun t ht => nm_strOk (R.nm t ht).2
  have siT : ∀ d ∈ ts.map trD, SI 2 d := fun d hd => by
    obtain ⟨t, ht, rfl⟩ := List.mem_map.mp hd
    exact si_tr t (kts t ht)
  refine dEq_cl_same mset_same rfl siT (by decide) ?_
  refine h8 _ _ (stp fun N9 h9 => ?_)
  rw_mod_cast [mset_mset]
  refine ⟨by omega, by omega, by rw [List.length_map]; omega, h9 _ _ (stp fun N10 h10 => ?_)⟩
  generalize mset μ2 c (.lst (ts.map trD ++ [.tup [.str x, .int 0, .tup [.int 1]]])) = μ3
  rw_mod_cast []
  have ll : l.length = ts.length := S.p.length_eq
  have klk : ∀ t ∈ l, PyData.strOk t.1 = true := fun t ht => kts t (S.p.mem_iff.mp ht)
  have siL : ∀ d ∈ l.map trD, SI 2 d := fun d hd => by
    obtain ⟨t, ht, rfl⟩ := List.mem_map.mp hd
    exact si_tr t (klk t ht)
  have ndl : (l.map trK).Nodup := (S.p.map trK).nodup_iff.mpr R.nd
  refine ⟨by unfold tbO; exact ⟨rfl, lm_Table_told⟩, told_ok (by omega) fun ct hct => h10 _ _ (stp fun N11 h11 => ?_)⟩
  generalize hμ4 : mset μ3 ct (.lst (l.map trD)) = μ4
  have m4 : μ4 ct = some (.lst (l.map trD)) := by rw [<- hμ4, mset_same]
  rw_mod_cast [m4]
  refine ist_c m4 ?_
  rw_mod_cast []
  refine srt_ok (.inl rfl) R.nd (by omega) fun l3 S3 => ?_
  obtain rfl := S.uniq R.nd S3
  clear S3
  refine dNe_cl_same m4 rfl siL (by decide) ?_
  rw_mod_cast []
  refine tlenO_ok (by omega) ?_
  rw_mod_cast [List.length_map, ll]
  refine teq_ok klk klk fun b hb => ?_
  obtain rfl := hb.mpr rfl
  clear hb
  rw_mod_cast []
  refine h11 _ _ (stp fun N12 h12 => ?_)
  rw_mod_cast [m4]
  refine ⟨by omega, by omega, by rw [List.length_map]; omega, h12 _ _ (stp fun N13 h13 => ?_)⟩
  generalize mset μ4 ct (.lst (l.map trD ++ [.tup [.str x, .int 0, .tup [.int 1]]])) = μ5
  have xk : ∀ k : Int, ([.inr x, .inl k] : KeyT) ∉ l.map trK := fun k hk => by
    obtain ⟨t, ht, e⟩ := List.mem_map.mp hk
    unfold trK at e
    simp at e
    exact xn (by rw [<- e.1]; exact (R.nm t (S.p.mem_iff.mp ht)).1)
  rw_mod_cast []
  refine ⟨by unfold tbO; exact ⟨rfl, lm_Table_told⟩, told_ok (by omega) fun c2 hc2 => ?_⟩
  have m6 : mset μ5 c2 (.lst (l.map trD)) c2 = some (.lst (l.map trD)) := mset_same
  generalize mset μ5 c2 (.lst (l.map trD)) = μ6 at m6 ⊢
  refine srt_ok (.inl rfl) R.nd (by omega) fun l3 S3 => ?_
  obtain rfl := S.uniq R.nd S3
  clear S3
  refine dNe_cl_same m6 rfl siL (by decide) ?_
  rw_mod_cast []
  refine missing_ok ndl (by omega) (xk 0) nx ?_
  rw_mod_cast []
  refine teq_str ?_
  rw_mod_cast []
  refine h13 _ _ (stp fun N14 h14 => ?_)
  clear hc2 m6 m4 hμ4 hct hc
  rw_mod_cast []
  refine dLoop_by (fun i ρ μ' => ∃ x10 x11 x12 x13 x14 : Option D, ρ = [some (.scr ns0), some (.cell s), some (.cell na), some (.lst (ts.map trD)), some (.str x), some (.cell c), some (tbO l), some (tbO l), some (.bl true), some (.cell ct), x10, x11, x12, x13, x14] /\ μ' = μ6) ⟨_, _, _, _, _, rfl, rfl⟩ ?_ ?_
  . rintro i2 d ρ μ' hd ⟨x10, x11, x12, x13, x14, rfl, rfl⟩ N hN
    rw [List.getElem?_map] at hd
    obtain ⟨t, ht, rfl⟩ := Option.map_eq_some_iff.mp hd
    have htm : t ∈ ts := List.mem_of_getElem? ht
    have htl : t ∈ l := S.p.mem_iff.mpr htm
    obtain ⟨s1, s3⟩ := R.st t htm
    have siV : SI 1 (trV t) := by
      intro e he
      obtain ⟨i, _, rfl⟩ := List.mem_map.mp he
      trivial
    obtain ⟨a, k, st⟩ := t
    dsimp only at s1 s3
    obtain ⟨us, v, rfl⟩ : ∃ us v, st = us ++ [v] := ⟨_, _, (List.dropLast_concat_getLast s1).symm⟩
    have tof : ∀ μ (Q : DK), Q (trV (a, k, us ++ [v])) μ -> dsp_Table_of [tbO l, .str a, .int k] μ Q := fun μ Q z => of_ok ndl (by omega) htl rfl rfl z
    have ism : ∀ μ, insM μ (tbO l) fun c' ns vs => c' = Str.ofString "Table" /\ List.lookup (Str.ofString "of") (ns.zip vs) = none := fun μ => by unfold tbO; exact ⟨rfl, lm_Table_of⟩
    unfold trD
    simp only [dgName, dgNil, e_gcons, e_gtup, List.length_cons, List.length_nil, true_and, List.set_cons_zero, List.set_cons_succ, Nat.reduceAdd]
    refine cut1 (fun ρ μ2 => ρ = [some (.scr ns0), some (.cell s), some (.cell na), some (.lst (ts.map trD)), some (.str x), some (.cell c), some (tbO l), some (tbO l), some (.bl true), some (.cell ct), some (.str a), some (.int k), some (trV (a, k, us ++ [v])), x13, x14] /\ μ2 = μ') (fun M1 g1 => ?_) ?_
    . rw_mod_cast []
      refine ⟨ism _, tof _ _ ?_⟩
      refine dNe_same siV (by decide) ?_
      rw_mod_cast []
      by_cases ek : k = 0
      . subst ek
        rw [if_pos (by decide)]
        refine ⟨ism _, tof _ _ ?_⟩
        refine dNe_same siV (by decide) ?_
        rw_mod_cast []
        exact g1 _ _ ⟨rfl, rfl⟩
      . rw [if_neg (by simpa using ek)]
        exact g1 _ _ ⟨rfl, rfl⟩
    rintro ρ μ2 ⟨rfl, rfl⟩
    refine cut1 (fun ρ μ3 => ρ = [some (.scr ns0), some (.cell s), some (.cell na), some (.lst (ts.map trD)), some (.str x), some (.cell c), some (tbO l), some (tbO l), some (.bl true), some (.cell ct), some (.str a), some (.int k), some (trV (a, k, us ++ [v])), x13, x14] /\ μ3 = μ2) (fun M1 g1 => ?_) ?_
    . have sa : PyData.strOk a = true := kts _ htm
      rw_mod_cast []
      refine ⟨by omega, by decide, ?_⟩
      refine dCLoopN_by (fun i ys μ3 => μ3 = μ2 /\ ys = (ts.take i).map rkD) ⟨rfl, rfl⟩ ?_ ?_
      . rintro i3 d3 ys μ3 hd3 ⟨rfl, rfl⟩
        rw [List.getElem?_map] at hd3
        obtain ⟨t3, ht3, rfl⟩ := Option.map_eq_some_iff.mp hd3
        refine ⟨by rw [List.length_map, List.length_take]; omega, fun N hN => ?_⟩
        unfold trD
        rw_mod_cast []
        refine ⟨by omega, hN _ _ ⟨rfl, ?_⟩⟩
        rw [List.take_add_one, ht3, List.map_append]; rfl
      rintro ys μ3 ⟨rfl, rfl⟩
      rw [List.length_map, List.take_of_length_le (Nat.le_refl _)]
      refine inD_si (n := 1) (by decide) (si_rk (t := (a, 1 - k, [])) sa) (fun d hd => ?_) rfl fun b hb => ?_
      . obtain ⟨t3, ht3, rfl⟩ := List.mem_map.mp hd
        exact si_rk (kts t3 ht3)
      cases b with
      | true =>
        rw_mod_cast []
        exact g1 _ _ ⟨rfl, rfl⟩
      | false =>
        rw_mod_cast []
        have no : ([.inr a, .inl (1 - k)] : KeyT) ∉ l.map trK := fun z => by
          obtain ⟨t3, ht3, e⟩ := List.mem_map.mp z
          unfold trK at e
          simp at e
          have : rkD t3 ∈ ts.map rkD := List.mem_map_of_mem (S.p.mem_iff.mp ht3)
          have := hb.mpr (by unfold rkD at this; rw [e.1, e.2] at this; exact this)
          cases this
        refine missing_ok ndl (by omega) no (R.nm _ htm).2 ?_
        rw_mod_cast []
        exact g1 _ _ ⟨rfl, rfl⟩
    rintro ρ μ3 ⟨rfl, rfl⟩
    have sa : PyData.strOk a = true := kts _ htm
    refine stp fun M2 g2 => ?_
    rw_mod_cast []
    refine ⟨by decide, ?_⟩
    refine dCLoop_filtM ts trD (fun r => !decide (r = (a, k, us ++ [v]))) trD (by omega) (fun r hr Y Z hY hZ => ?_) ?_
    . rw_mod_cast []
      refine ⟨by omega, dNe_si (si_tr r (kts r hr)) (si_tr (a, k, us ++ [v]) sa) (by decide) fun b hb => ?_⟩
      cases b with
      | true =>
        rw_mod_cast []
        exact hZ (by rw [trD_inj (a := r) (b := (a, k, us ++ [v])) (hb.mp rfl)]; simp)
      | false =>
        rw_mod_cast []
        exact hY (by
          have : r ≠ (a, k, us ++ [v]) := fun z => by
            have := hb.mpr (by rw [z]; rfl)
            cases this
          simpa using this)
    generalize hfl : ts.filter (fun r => !decide (r = (a, k, us ++ [v]))) = rest
    have rsub : rest.Sublist ts := by rw [<- hfl]; exact List.filter_sublist
    have rno : (a, k, us ++ [v]) ∉ rest := fun z => by rw [<- hfl, List.mem_filter] at z; simp at z
    have rnd : (rest.map trK).Nodup := (rsub.map trK).nodup R.nd
    have rl : rest.length <= ts.length := rsub.length_le
    refine g2 _ _ (stp fun M3 g3 => ?_)
    rw_mod_cast []
    refine slv_ok ?_
    rw [ixv_ok]
    have ul : us.length <= 2 := by rw [List.length_append] at s3; simp at s3; omega
    rw_mod_cast [e_add0, List.length_map]
    refine ⟨by omega, by omega, by omega, by omega, by omega, g3 _ _ ?_⟩
    have ech : List.map trD rest ++ [D.tup [D.str a, D.int k, D.tup (List.map D.int us ++ [D.int (v + 1)])]] = (rest ++ [(a, k, us ++ [v + 1])]).map trD := by
      rw [List.map_append]; simp [trD]
    rw [ech]
    have cnd : ((rest ++ [(a, k, us ++ [v + 1])]).map trK).Nodup := by
      rw [List.map_append, List.nodup_append]
      refine ⟨rnd, by simp, fun y hy z hz e => ?_⟩
      obtain ⟨t3, ht3, rfl⟩ := List.mem_map.mp hy
      simp at hz
      have := trK_inj R.nd (rsub.subset ht3) htm (by rw [e, hz]; rfl)
      rw [this] at ht3
      exact rno ht3
    rw_mod_cast []
    intro kt hkt
    refine mk_ok (ts := rest) hkt (.inl rfl) rnd (by omega) fun l3 S3 => ?_
    refine teq_ok klk (fun t ht => kts t (rsub.subset (S3.p.mem_iff.mp ht))) fun b hb => ?_
    have bf : b = false := by
      cases b with
      | false => rfl
      | true => exact absurd (S3.p.mem_iff.mp ((hb.mp rfl) ▸ htl)) rno
    subst bf
    rw_mod_cast []
    clear hkt kt S3 hb l3
    intro kt hkt
    refine mk_ok (ts := rest ++ [(a, k, us ++ [v + 1])]) hkt (.inl rfl) cnd (by rw [List.length_append]; simp; omega) fun l3 S3 => ?_
    refine teq_ok klk (fun t ht => ?_) fun b hb => ?_
    . rcases List.mem_append.mp (S3.p.mem_iff.mp ht) with z | z
      . exact kts t (rsub.subset z)
      . rw [List.mem_singleton.mp z]; exact sa
    have bf : b = false := by
      cases b with
      | false => rfl
      | true =>
        exfalso
        have m1 : (a, k, us ++ [v + 1]) ∈ l := (hb.mp rfl) ▸ (S3.p.mem_iff.mpr (by simp))
        have := trK_inj R.nd (S.p.mem_iff.mp m1) htm rfl
        simp at this
        omega
    subst bf
    rw_mod_cast []
    exact hN _ _ ⟨_, _, _, _, _, rfl, rfl⟩
  . rintro ρ μ' ⟨x10, x11, x12, x13, x14, rfl, rfl⟩
    refine h14 _ _ ?_
    rw_mod_cast []
    intro kt hkt
    refine mk_ok (ts := ts) hkt (.inl rfl) R.nd (by omega) fun l3 S3 => ?_
    obtain rfl := S.uniq R.nd S3
    clear hkt kt S3
    refine teq_ok klk klk fun b hb => ?_
    obtain rfl := hb.mpr rfl
    clear hb
    rw_mod_cast []
    have xnd : ((ts ++ [(x, 0, [1])]).map trK).Nodup := by
      rw [List.map_append, List.nodup_append]
      refine ⟨R.nd, by simp, fun y hy z hz e => ?_⟩
      simp at hz
      rw [e, hz] at hy
      exact xk 0 ((S.p.map trK).mem_iff.mpr hy)
    refine ⟨by omega, by omega, by omega, by rw [List.length_map]; omega, ?_⟩
    intro kt hkt
    refine mk_ok (ts := ts ++ [(x, 0, [1])]) hkt (.inl (by rw [List.map_append]; rfl)) xnd (by rw [List.length_append]; simp; omega) fun l3 S3 => ?_
    refine teq_ok klk (fun t ht => ?_) fun b hb => ?_
    . rcases List.mem_append.mp (S3.p.mem_iff.mp ht) with z | z
      . exact kts t z
      . rw [List.mem_singleton.mp z]; exact nm_strOk nx
    have bf : b = false := by
      cases b with
      | false => rfl
      | true =>
        exfalso
        have := S3.p.length_eq
        rw [<- hb.mp rfl, List.length_append] at this
        simp at this; omega
    subst bf
    rw_mod_cast []
    clear hkt kt S3 hb l3
    intro kt hkt
    refine mk_ok (ts := []) hkt (.inr rfl) List.nodup_nil (by decide) fun l3 S3 => ?_
    obtain rfl := S3.p.eq_nil
    refine tlenO_ok (by decide) ?_
    rw_mod_cast []
    exact ⟨_, .refl _, q _⟩
end M

set_option synthInstance.maxHeartbeats 4000000
set_option synthInstance.maxSize 100000
set_option maxHeartbeats 4000000
namespace M
open PySem L2
section
variable (P : Program) (w : World) (K : PySem.W.Frag) (mg : Str -> Option Value) (base : Heap)
abbrev T_starts_by_way : Prop := Has P w K mg base CX0 "starts_by_way" 1 ["rows"] (lift K dsp_starts_by_way)
abbrev T_law_draw : Prop := Has P w K mg base CX0 "_law_draw" 1 ["_law_s", "_law_many"] spDrawL
abbrev TS_Table_ofX_3 : Prop := HasMt P w K mg base (CX1 P w) "Table" "of" 2 ["self", "name", "way"] (liftX K dsp_Table_ofX) [] (sel 3 0 [.p 0, .p 1, .p 2] .non [])
abbrev T_law_name : Prop := Has P w K mg base CX0 "_law_name" 2 ["_law_s", "_law_names"] (lift K dsp_law_name)
abbrev T_law_start : Prop := Has P w K mg base CX0 "_law_start" 1 ["_law_script"] (spStartL K)
abbrev T_law_missing : Prop := Has P w K mg base CX0 "_law_missing" 3 ["_law_table", "_law_name_here", "_law_way"] (lift K dsp_law_missing)
abbrev T_law_some : Prop := Has P w K mg base CX0 "_law_some" 3 ["_law_s", "_law_names"] (lift K dsp_law_some)
abbrev TS_TableD_initD_2 : Prop := HasMk P w K mg base CX0 "Table" 1 ["self", "rows"] (lift K dsp_TableD_initD) [] (sel 2 0 [.p 0, .p 1] .non [])
abbrev TS_Table_told_1 : Prop := HasMt P w K mg base CX0 "Table" "told" 1 ["self"] (lift K dsp_Table_told) [] (sel 1 0 [.p 0] .non [])
abbrev TS_Table_of_3 : Prop := HasMt P w K mg base CX0 "Table" "of" 2 ["self", "name", "way"] (lift K dsp_Table_of) [] (sel 3 0 [.p 0, .p 1, .p 2] .non [])
abbrev TS_Table_of_2 : Prop := HasMt P w K mg base CX0 "Table" "of" 2 ["self", "name", "way"] (lift K dsp_Table_of) [] (sel 2 0 [.p 0, .p 1, .c 0] .non [.int 0])
abbrev TS_TableD_initD_1 (tk_TableD_initD_1_0 : Addr) : Prop := HasMk P w K mg base CX0 "Table" 1 ["self", "rows"] (lift K dsp_TableD_initD) [] (sel 1 0 [.p 0, .c 0] .non [.ref tk_TableD_initD_1_0])
end
section
variable {P : Program} {w : World} {K : PySem.W.Frag} {mg : Str -> Option Value} {base : Heap} {f : Addr} {fd : FuncData} [TabOk K tab]
theorem ok_starts_by_way (F : Fun K "starts_by_way" "starts_by_way" s_starts_by_way f fd) (B : Blt mg)   : FnOk P w K mg base CX0 1 f fd ["rows"] (lift K dsp_starts_by_way) :=
  F.okB w_starts_by_way sc_starts_by_way rfl fun _ _ _ _ _ _ hr => have nd := sc_starts_by_way.nd; ⟨_, (qss_one (qs_ret (qe_dcomp (o0 := .dT []) ["name", "at", "starts"] [] [] (.inr rfl) (hu_of hr) (.of rfl (by decide +kernel) rfl) rfl rfl (by decide +kernel) (qi_seqK K (qv 0)) (fun _ _ _ _ => (qg_tupK (n := 3) K rfl (qgs_cons (qg_name (i := 0) (show List.Nodup (["name", "at", "starts"] : List Str) by decide +kernel) rfl (Or.inl rfl)) (qgs_cons (qg_name (i := 1) (show List.Nodup (["name", "at", "starts"] : List Str) by decide +kernel) rfl (Or.inl rfl)) (qgs_cons (qg_name (i := 2) (show List.Nodup (["name", "at", "starts"] : List Str) by decide +kernel) rfl (Or.inl rfl)) qgs_nil))))) (fun _ _ _ _ => qts_nil) (fun _ _ _ _ => (qe_tup (qa2 (qv 0) (qv 1)))) (fun _ _ _ _ => (qv 2))))), fun _ => by infer_instance⟩
theorem ok_TableD_initD (F : Fun K "__init__" "Table.__init__" s_TableD_initD f fd) (B : Blt mg)   : FnOk P w K mg base CX0 1 f fd ["self", "rows"] (lift K dsp_TableD_initD) :=
  F.okB w_TableD_initD sc_TableD_initD rfl fun _ _ _ _ _ _ hr => have nd := sc_TableD_initD.nd; ⟨_, (qss_one (qs_fldK K (qv 0) (qe_callB (call_sort4 K) rfl B.sorted bb_sorted (qa1 (qv 1))))), fun _ => by infer_instance⟩
theorem ok_Table_told (F : Fun K "told" "Table.told" s_Table_told f fd) (B : Blt mg)   : FnOk P w K mg base CX0 1 f fd ["self"] (lift K dsp_Table_told) :=
  F.okB w_Table_told sc_Table_told rfl fun _ _ _ _ _ _ hr => have nd := sc_Table_told.nd; ⟨_, (qss_one (qs_ret (qe_thaw (qe_callTy (call_listG K) rfl B.list bb_list (qa1 (qe_fldK K (qv 0))))))), fun _ => by infer_instance⟩
theorem ok_TableD_lenD (F : Fun K "__len__" "Table.__len__" s_TableD_lenD f fd) (B : Blt mg)   : FnOk P w K mg base CX0 1 f fd ["self"] (lift K dsp_TableD_lenD) :=
  F.okB w_TableD_lenD sc_TableD_lenD rfl fun _ _ _ _ _ _ hr => have nd := sc_TableD_lenD.nd; ⟨_, (qss_one (qs_ret (qe_callB (call_lenG K) rfl B.len bb_len (qa1 (qe_fldK K (qv 0)))))), fun _ => by infer_instance⟩
theorem ok_TableD_eqD (F : Fun K "__eq__" "Table.__eq__" s_TableD_eqD f fd) (B : Blt mg)  {a_Table : Addr} (c_Table : mg "Table" = some (.ref a_Table)) [IsCls K "Table" a_Table] [IsI K "Table"] : FnOk P w K mg base CX0 1 f fd ["self", "other"] (lift K dsp_TableD_eqD) :=
  F.okB w_TableD_eqD sc_TableD_eqD rfl fun _ _ _ _ _ _ hr => have nd := sc_TableD_eqD.nd; ⟨_, (qss_one (qs_ret (qe_and (qe_callB (call_isiG K) rfl B.isinstance bb_isinstance (qa2 (qv 1) (qe_glob (v := .ref a_Table) rfl c_Table rfl))) (qe_one (qe_cmpR (op_eqG K hr) (qe_fldK K (qv 0)) (qe_fldK K (qv 1)) (nomark _)))))), fun _ => by infer_instance⟩
theorem ok_Table_of (F : Fun K "of" "Table.of" s_Table_of f fd) (B : Blt mg) (h_starts_by_way : T_starts_by_way P w K mg base)  : FnOk P w K mg base CX0 2 f fd ["self", "name", "way"] (lift K dsp_Table_of) :=
  F.okB w_Table_of sc_Table_of rfl fun _ _ _ _ _ _ hr => have nd := sc_Table_of.nd; ⟨_, (qss_cons (qS 3 nd (qe_callH h_starts_by_way hr (qa1 (qe_fldK K (qv 0)))))
    (qss_cons (qs_if (qt_cmpR (op_dnotin (hu_of hr)) (qe_tup (qa2 (qv 1) (qv 2))) (qv 3) (by with_unfolding_all rfl))
    (qss_one qs_never)
    qss_nil)
    (qss_one (qs_ret (qe_dgetK (hu_of hr) (qv 3) (qe_tup (qa2 (qv 1) (qv 2)))))))), fun _ => by infer_instance⟩
theorem ok_Table_ofX (F : Fun K "of" "Table.of" s_Table_of f fd) (B : Blt mg) (h_starts_by_way : T_starts_by_way P w K mg base) (n_NoName : IniX P w K mg "NoName" "name" f_NoName) [LabC K "NoName"] : FnOk P w K mg base (CX1 P w) 2 f fd ["self", "name", "way"] (liftX K dsp_Table_ofX) :=
  F.okX w_Table_ofX sc_Table_of rfl fun _ _ _ _ _ _ hr => have nd := sc_Table_of.nd; ⟨_, (qss_cons (qS 3 nd (qe_callH h_starts_by_way hr (qa1 (qe_fldK K (qv 0)))))
    (qss_cons (qs_if (qt_cmpR (op_dnotin (hu_of hr)) (qe_tup (qa2 (qv 1) (qv 2))) (qv 3) (by with_unfolding_all rfl))
    (qss_one (qs_raiseI K xmk_cx n_NoName hr (qv 1)))
    qss_nil)
    (qss_one (qs_ret (qe_dgetK (hu_of hr) (qv 3) (qe_tup (qa2 (qv 1) (qv 2)))))))), fun _ _ _ => by infer_instance⟩
theorem ok_law_name (F : Fun K "_law_name" "_law_name" s_law_name f fd) (B : Blt mg) (h_law_draw : T_law_draw P w K mg base)  : FnOk P w K mg base CX0 2 f fd ["_law_s", "_law_names"] (lift K dsp_law_name) :=
  F.okB w_law_name sc_law_name rfl fun _ _ _ _ _ _ hr => have nd := sc_law_name.nd; ⟨_, (qss_cons (qS 2 nd qe_str)
    (qss_cons (qs_for PassesOwn.never rfl (qi_range1 rfl B.range (qa1 qe_int)) (qG 3 nd)
    (qss_cons (qS 4 nd (qe_op (op_addG K) qe_int (qe_callH h_law_draw hr (qa2 (qv 0) qe_int))))
    (qss_cons (qs_if (qt_cmpR (op_eqG K hr) (qv 4) qe_int (nomark _))
    (qss_one (qS 4 nd (qe_op (op_addG K) qe_int (qe_callH h_law_draw hr (qa2 (qv 0) qe_int)))))
    qss_nil)
    (qss_cons (qS 5 nd (qe_bmK K PySem.F.plainAttrs_str PySem.F.slot_str_join PySem.F.type_str_join (mt_joinG K) qe_str (qa1 (qe_comp ["_law_k"] ["_law_letters", "_law_s"] [2, 0] (.of rfl (by decide +kernel) rfl) rfl rfl (by decide +kernel) (qi_range1 rfl B.range (qa1 (qv 4))) (fun _ _ _ _ => (qg_name (i := 0) (show List.Nodup (["_law_k", "_law_letters", "_law_s"] : List Str) by decide +kernel) rfl (Or.inl rfl))) (fun _ _ _ _ => qts_nil) (fun _ _ _ _ => (qx K (qv 1) (qe_callH h_law_draw hr (qa2 (qv 2) qe_int))))))))
    (qss_one (qs_if (qt_cmpR (op_notInG K hr) (qv 5) (qv 1) (by with_unfolding_all rfl))
    (qss_cons (qs_expr (qe_bmK K PySem.F.plainAttrs_list PySem.F.slot_list_append PySem.F.type_list_append mt_append (qv 1) (qa1 (qv 5))))
    (qss_one (qs_ret (qv 5))))
    qss_nil))))))
    (qss_cons (qs_for PassesOwn.never rfl (qi_range1 rfl B.range (qa1 qe_int)) (qG 6 nd)
    (qss_cons (qS 5 nd (qe_op op_mulG2 (qx K (qv 2) (qe_op op_mod (qv 6) qe_int)) (qe_op (op_addG K) qe_int (qe_op op_fdivB (qv 6) qe_int))))
    (qss_one (qs_if (qt_cmpR (op_notInG K hr) (qv 5) (qv 1) (by with_unfolding_all rfl))
    (qss_cons (qs_expr (qe_bmK K PySem.F.plainAttrs_list PySem.F.slot_list_append PySem.F.type_list_append mt_append (qv 1) (qa1 (qv 5))))
    (qss_one (qs_ret (qv 5))))
    qss_nil))))
    (qss_one (qs_ret qe_str))))), fun _ => by infer_instance⟩
theorem ok_law_missing (F : Fun K "_law_missing" "_law_missing" s_law_missing f fd) (B : Blt mg) (hT_Table_ofX_3 : TS_Table_ofX_3 P w K mg base) {a_NoName : Addr} (c_NoName : mg "NoName" = some (.ref a_NoName)) [IsCls K "NoName" a_NoName] [IsHd K excEs a_NoName] [ENm K excNs] : FnOk P w K mg base CX0 3 f fd ["_law_table", "_law_name_here", "_law_way"] (lift K dsp_law_missing) :=
  F.okB w_law_missing sc_law_missing rfl fun _ _ _ _ _ _ hr => have nd := sc_law_missing.nd; ⟨_, (qss_cons (qS 3 nd qe_str)
    (qss_cons (qs_try (i := 4) K nd c_NoName (fun E xe pn xo => (qss_one (qs_expr (qe_methX (pl := _) K hT_Table_ofX_3 hr xo (qv 0) (qa2 (qv 1) (qv 2)) qk_nil))))
    (fun a => (qss_one (qS 3 nd (qe_eName K (qv 4))))))
    (qss_one (qs_ret (qv 3))))), fun _ => by infer_instance⟩
theorem ok_law_some (F : Fun K "_law_some" "_law_some" s_law_some f fd) (B : Blt mg) (h_law_draw : T_law_draw P w K mg base) (h_law_name : T_law_name P w K mg base)  : FnOk P w K mg base CX0 3 f fd ["_law_s", "_law_names"] (lift K dsp_law_some) :=
  F.okB w_law_some sc_law_some rfl fun _ _ _ _ _ _ hr => have nd := sc_law_some.nd; ⟨_, (qss_cons (qs_asgThaw (qS 2 nd (qe_lst qa_nil)))
    (qss_cons (qs_for PassesOwn.never rfl (qi_range1 rfl B.range (qa1 (qe_callH h_law_draw hr (qa2 (qv 0) qe_int)))) (qG 3 nd)
    (qss_cons (qS 4 nd (qe_callH h_law_name hr (qa2 (qv 0) (qv 1))))
    (qss_one (qs_for PassesOwn.never rfl (qi_seqK K (qx K (qe_lst (qa_cons (qe_lst (qa1 qe_int)) (qa_cons (qe_lst (qa1 qe_int)) (qa2 (qe_lst (qa2 qe_int qe_int)) (qe_lst (qa2 qe_int qe_int)))))) (qe_callH h_law_draw hr (qa2 (qv 0) qe_int)))) (qG 5 nd)
    (qss_one (qs_expr (qe_bmK K PySem.F.plainAttrs_list PySem.F.slot_list_append PySem.F.type_list_append mt_append (qv 2) (qa1 (qe_tup (qa_cons (qv 4) (qa2 (qv 5) (qe_callTy (call_tupleG K) rfl B.tuple bb_tuple (qa1 (qe_comp ["_law_h"] ["_law_s"] [0] (.of rfl (by decide +kernel) rfl) rfl rfl (by decide +kernel) (qi_range1 rfl B.range (qa1 (qe_op (op_addG K) qe_int (qe_callH h_law_draw hr (qa2 (qv 0) qe_int))))) (fun _ _ _ _ => (qg_name (i := 0) (show List.Nodup (["_law_h", "_law_s"] : List Str) by decide +kernel) rfl (Or.inl rfl))) (fun _ _ _ _ => qts_nil) (fun _ _ _ _ => (qe_callH h_law_draw hr (qa2 (qv 1) qe_int)))))))))))))))))
    (qss_freeze 2 (qss_one (qs_ret (qv 2)))))), fun _ => by infer_instance⟩
def dsp_lawB : DSp := bodySp w_law N_law 1
theorem ok_law (F : Fun K "law" "law" s_law f fd) (B : Blt mg) (h_law_start : T_law_start P w K mg base) (h_law_name : T_law_name P w K mg base) (h_law_missing : T_law_missing P w K mg base) (h_law_some : T_law_some P w K mg base) (hM_TableD_initD_2 : TS_TableD_initD_2 P w K mg base) (hT_Table_told_1 : TS_Table_told_1 P w K mg base) (hT_Table_of_3 : TS_Table_of_3 P w K mg base) (hT_Table_of_2 : TS_Table_of_2 P w K mg base) {tk_TableD_initD_1_0 : Addr} [KTup K tk_TableD_initD_1_0 []] (hM_TableD_initD_1 : TS_TableD_initD_1 P w K mg base tk_TableD_initD_1_0) (hE_Table : HasEqC P w K mg base CX0 "Table" 1 ["self", "other"] (lift K dsp_TableD_eqD)) (hL_Table : HasLn P w K mg base CX0 "Table" 1 ["self"] (lift K dsp_TableD_lenD)) : FnOk P w K mg base CX0 4 f fd ["_law_script"] (lift K dsp_lawB) :=
  F.okB w_law sc_law rfl fun _ _ _ _ _ _ hr => have nd := sc_law.nd; ⟨_, (qss_cons (qS 1 nd (qe_callH h_law_start hr (qa1 (qv 0))))
    (qss_cons (qs_asgThaw (qS 2 nd (qe_lst qa_nil)))
    (qss_cons (qS 3 nd (qe_callH h_law_some hr (qa2 (qv 1) (qv 2))))
    (qss_cons (qS 4 nd (qe_callH h_law_name hr (qa2 (qv 1) (qv 2))))
    (qss_cons (qs_asgThaw (qS 5 nd (qe_callTy (call_listG K) rfl B.list bb_list (qa1 (qv 3)))))
    (qss_cons (qS 6 nd (qe_makeC K hM_TableD_initD_2 hr (qa1 (qv 5)) qk_nil))
    (qss_cons (qS 7 nd (qe_makeC K hM_TableD_initD_2 hr (qa1 (qe_callTy (call_tupleG K) rfl B.tuple bb_tuple (qa1 (qe_slice3 (sl3_seq K) (qv 3) qo_none qo_none (qo_some (qe_un un_neg qe_int)))))) qk_nil))
    (qss_cons (qS 8 nd (qe_cmpR (op_eqG K hr) (qv 5) (qv 3) (nomark _)))
    (qss_cons (qs_expr (qe_bmK K PySem.F.plainAttrs_list PySem.F.slot_list_append PySem.F.type_list_append mt_append (qv 5) (qa1 (qe_tup (qa_cons (qv 4) (qa2 qe_int (qe_tup (qa1 qe_int))))))))
    (qss_cons (qS 9 nd (qe_methK0 (pl := _) K hT_Table_told_1 hr (qv 6)))
    (qss_cons (qs_if (WW.qt (qw_or (qt_not (qt_val (qv 8))) (qw_or (qt_not (qt_val (qe_callB (call_isiG2 K) rfl B.isinstance bb_isinstance (qa2 (qv 9) (qe_bltn (v := .ty "list") rfl B.list bb_list rfl))))) (qw_or (qt_cmpR (op_neG K hr) (qv 9) (qe_callB (call_sort4 K) rfl B.sorted bb_sorted (qa1 (qv 3))) (nomark _)) (qw_or (qt_cmpR (op_neG K hr) (qe_callB (call_lenO K hL_Table hr) rfl B.len bb_len (qa1 (qv 6))) (qe_callB (call_lenG K) rfl B.len bb_len (qa1 (qv 3))) (nomark _)) (qw_or1 (qt_not (qt_cmpR (op_eqO K hE_Table hr) (qv 6) (qv 7) (nomark _)))))))))
    (qss_one (qs_ret qe_bl))
    qss_nil)
    (qss_cons (qs_expr (qe_bmK K PySem.F.plainAttrs_list PySem.F.slot_list_append PySem.F.type_list_append mt_append (qv 9) (qa1 (qe_tup (qa_cons (qv 4) (qa2 qe_int (qe_tup (qa1 qe_int))))))))
    (qss_cons (qs_if (WW.qt (qw_or (qt_cmpR (op_neG K hr) (qe_methK0 (pl := _) K hT_Table_told_1 hr (qv 6)) (qe_callB (call_sort4 K) rfl B.sorted bb_sorted (qa1 (qv 3))) (nomark _)) (qw_or (qt_cmpR (op_neG K hr) (qe_callH h_law_missing hr (qa_cons (qv 6) (qa2 (qv 4) qe_int))) (qv 4) (nomark _)) (qw_or1 (qt_cmpR (op_eqO K hE_Table hr) (qv 6) qe_str (nomark _))))))
    (qss_one (qs_ret qe_bl))
    qss_nil)
    (qss_cons (qs_for PassesOwn.never rfl (qi_seqK K (qv 3)) (qg_tupK (n := 3) K rfl (qgs_cons (qG 10 nd) (qgs_cons (qG 11 nd) (qgs_cons (qG 12 nd) qgs_nil))))
    (qss_cons (qs_if (WW.qt (qw_or (qt_cmpR (op_neG K hr) (qe_methK (pl := _) K hT_Table_of_3 hr (qv 6) (qa2 (qv 10) (qv 11)) qk_nil) (qv 12) (nomark _)) (qw_or1 (WW.qt (qw_and (qt_cmpR (op_eqG K hr) (qv 11) qe_int (nomark _)) (qw_and1 (qt_cmpR (op_neG K hr) (qe_methK (pl := _) K hT_Table_of_2 hr (qv 6) (qa1 (qv 10)) qk_nil) (qv 12) (nomark _))))))))
    (qss_one (qs_ret qe_bl))
    qss_nil)
    (qss_cons (qs_if (qt_cmpR (op_notInD K hr) (qe_lst (qa2 (qv 10) (qe_op op_sub qe_int (qv 11)))) (qe_comp ["_law_row"] [] [] (.of rfl (by decide +kernel) rfl) rfl rfl (by decide +kernel) (qi_seqK K (qv 3)) (fun _ _ _ _ => (qg_name (i := 0) (show List.Nodup (["_law_row"] : List Str) by decide +kernel) rfl (Or.inl rfl))) (fun _ _ _ _ => qts_nil) (fun _ _ _ _ => (qe_lst (qa2 (qx K (qv 0) qe_int) (qx K (qv 0) qe_int))))) (by with_unfolding_all rfl))
    (qss_one (qs_if (qt_cmpR (op_neG K hr) (qe_callH h_law_missing hr (qa_cons (qv 6) (qa2 (qv 10) (qe_op op_sub qe_int (qv 11))))) (qv 10) (nomark _))
    (qss_one (qs_ret qe_bl))
    qss_nil))
    qss_nil)
    (qss_cons (qs_setC ["_law_row"] ["_law_name_here", "_law_starts", "_law_way"] [10, 12, 11] (i := 13) nd rfl rfl (.of rfl (by decide +kernel) rfl) rfl rfl (by decide +kernel) (qi_seqK K (qv 3)) (fun _ _ _ _ => (qg_name (i := 0) (show List.Nodup (["_law_row", "_law_name_here", "_law_starts", "_law_way"] : List Str) by decide +kernel) rfl (Or.inl rfl))) (fun _ _ _ _ => (qts_one (qt_cmpR (op_neG K hr) (qv 0) (qe_tup (qa_cons (qv 1) (qa2 (qv 3) (qv 2)))) (nomark _)))) (fun _ _ _ _ => (qv 0)))
    (qss_cons (qS 14 nd (qe_op (op_addG K) (qv 13) (qe_lst (qa1 (qe_tup (qa_cons (qv 10) (qa2 (qv 11) (qe_op (op_catE K) (qe_slice (sl_seqK K) (qv 12) qo_none (qo_some (qe_un un_neg qe_int))) (qe_tup (qa1 (qe_op (op_addG K) (qx K (qv 12) (qe_un un_neg qe_int)) qe_int)))))))))))
    (qss_one (qs_if (WW.qt (qw_or (qt_cmpR (op_eqO K hE_Table hr) (qv 6) (qe_makeC K hM_TableD_initD_2 hr (qa1 (qv 13)) qk_nil) (nomark _)) (qw_or1 (qt_cmpR (op_eqO K hE_Table hr) (qv 6) (qe_makeC K hM_TableD_initD_2 hr (qa1 (qv 14)) qk_nil) (nomark _)))))
    (qss_one (qs_ret qe_bl))
    qss_nil)))))))
    (qss_one (qs_ret (qe_and (qe_cmpR (op_eqO K hE_Table hr) (qv 6) (qe_makeC K hM_TableD_initD_2 hr (qa1 (qv 3)) qk_nil) (nomark _)) (qe_and (qe_not (qe_cmpR (op_eqO K hE_Table hr) (qv 6) (qe_makeC K hM_TableD_initD_2 hr (qa1 (qe_op (op_addG K) (qv 3) (qe_lst (qa1 (qe_tup (qa_cons (qv 4) (qa2 qe_int (qe_tup (qa1 qe_int))))))))) qk_nil) (nomark _))) (qe_one (qe_cmpR (op_eqG K hr) (qe_callB (call_lenO K hL_Table hr) rfl B.len bb_len (qa1 (qe_makeC0 K hM_TableD_initD_1 hr))) qe_int (nomark _))))))))))))))))))))), fun _ => by infer_instance⟩
end
end M

set_option synthInstance.maxHeartbeats 4000000
set_option synthInstance.maxSize 100000
set_option maxHeartbeats 4000000
namespace M
open PySem L2
theorem all_mk {l : PySem.W.OpenLaw} {w : World} {K : PySem.W.Frag} {h : Heap} {mg : Str -> Option Value} {fa : Addr} (X : K.In h) (G : h.Ns mainGlobals mg) (hfa : mg "law" = some (.ref fa))
    {C_Table : Addr} (q_Table : ClsA K "Table" C_Table fs_Table)
    {C_NoName : Addr} (a_NoName : PySem.W.nsIn K mainGlobals "NoName" = some (some (.ref C_NoName)))
    (n_NoName : IniX l.prog w K mg "NoName" "name" f_NoName)
    (en_NoName : excNm K C_NoName = true)
    (et0 : excTab K excEs excPs excKs excHs = true)
    {f0 : Addr} {d0 : FuncData} (p0 : FunA K "starts_by_way" s_starts_by_way f0 d0)
    {f1 : Addr} {d1 : FuncData} (p1 : FunM K C_Table "__init__" "Table.__init__" s_TableD_initD f1 d1)
    {f2 : Addr} {d2 : FuncData} (p2 : FunM K C_Table "told" "Table.told" s_Table_told f2 d2)
    {f3 : Addr} {d3 : FuncData} (p3 : FunM K C_Table "of" "Table.of" s_Table_of f3 d3)
    {f4 : Addr} {d4 : FuncData} (p4 : FunM K C_Table "__len__" "Table.__len__" s_TableD_lenD f4 d4)
    (e4 : d4.defaults = .none)
    {f5 : Addr} {d5 : FuncData} (p5 : FunM K C_Table "__eq__" "Table.__eq__" s_TableD_eqD f5 d5)
    (e5 : d5.defaults = .none)
    {f6 : Addr} {d6 : FuncData} (p6 : FunA K "_law_start" s_law_start f6 d6)
    {f7 : Addr} {d7 : FuncData} (p7 : FunA K "_law_draw" s_law_draw f7 d7)
    {f8 : Addr} {d8 : FuncData} (p8 : FunA K "_law_name" s_law_name f8 d8)
    {f9 : Addr} {d9 : FuncData} (p9 : FunA K "_law_missing" s_law_missing f9 d9)
    {f10 : Addr} {d10 : FuncData} (p10 : FunA K "_law_some" s_law_some f10 d10)
    {f11 : Addr} {d11 : FuncData} (p11 : FunA K "law" s_law f11 d11)
    (z_len : PySem.W.nsIn K mainGlobals "len" = some none)
    (z_abs : PySem.W.nsIn K mainGlobals "abs" = some none)
    (z_max : PySem.W.nsIn K mainGlobals "max" = some none)
    (z_min : PySem.W.nsIn K mainGlobals "min" = some none)
    (z_all : PySem.W.nsIn K mainGlobals "all" = some none)
    (z_any : PySem.W.nsIn K mainGlobals "any" = some none)
    (z_sum : PySem.W.nsIn K mainGlobals "sum" = some none)
    (z_sorted : PySem.W.nsIn K mainGlobals "sorted" = some none)
    (z_isinstance : PySem.W.nsIn K mainGlobals "isinstance" = some none)
    (z_list : PySem.W.nsIn K mainGlobals "list" = some none)
    (z_tuple : PySem.W.nsIn K mainGlobals "tuple" = some none)
    (z_int : PySem.W.nsIn K mainGlobals "int" = some none)
    (z_bool : PySem.W.nsIn K mainGlobals "bool" = some none)
    (z_str : PySem.W.nsIn K mainGlobals "str" = some none)
    (z_set : PySem.W.nsIn K mainGlobals "set" = some none)
    (z_dict : PySem.W.nsIn K mainGlobals "dict" = some none)
    (z_zip : PySem.W.nsIn K mainGlobals "zip" = some none)
    (z_range : PySem.W.nsIn K mainGlobals "range" = some none)
    (z_enumerate : PySem.W.nsIn K mainGlobals "enumerate" = some none)
    (z_reversed : PySem.W.nsIn K mainGlobals "reversed" = some none)
    (z_repr : PySem.W.nsIn K mainGlobals "repr" = some none)
    (i1_Table : PySem.W.findIn K (.ref C_Table) "__class__" = some (some (.builtin "object.__class__")))
    (i2_Table : PySem.W.specialIn K (.builtin "object.__class__") "__get__" = some (some (.builtin "getset_descriptor.__get__")))
    (i3_Table : PySem.W.takesIn K (.builtin "object.__class__") = some true)
    (i4_Table : PySem.W.mroIn K C_Table (.type "object") = some true)
    (i5_Table : PySem.W.kitOne K (.ref C_Table) (.ref C_Table) = some true)
    (i6_Table : PySem.W.kitOne K (.type "str") (.ref C_Table) = some false)
    (i7_Table : PySem.W.kitOne K (.type "int") (.ref C_Table) = some false)
    (nf1_Table : PySem.W.notFirst K C_Table (.type "str") = true)
    (nf2_Table : PySem.W.notFirst K C_Table (.type "int") = true)
     (d_TableD_initD_2 : PeekK K d1 ["self", "rows"] [] 2 0 [.p 0, .p 1] [])
     (d_Table_told_1 : PeekK K d2 ["self"] [] 1 0 [.p 0] [])
     (d_Table_of_3 : PeekK K d3 ["self", "name", "way"] [] 3 0 [.p 0, .p 1, .p 2] [])
    {tk_Table_of_2_0 : Tok} (d_Table_of_2 : PeekK K d3 ["self", "name", "way"] [] 2 0 [.p 0, .p 1, .c 0] [Value.int 0 tk_Table_of_2_0])
     {tk_TableD_initD_1_0 : Addr} (d_TableD_initD_1 : PeekK K d1 ["self", "rows"] [] 1 0 [.p 0, .c 0] [Value.ref tk_TableD_initD_1_0])
    {oT_tk_TableD_initD_1_0 : Obj} (lo_tk_TableD_initD_1_0 : K.lookup tk_TableD_initD_1_0 = some oT_tk_TableD_initD_1_0)
    (ti_tk_TableD_initD_1_0 : tupInts oT_tk_TableD_initD_1_0 = some ([] : List Int))
     (d_Table_ofX_3 : PeekK K d3 ["self", "name", "way"] [] 3 0 [.p 0, .p 1, .p 2] [])
    : ∃ fd : FuncData, (∀ (s : Shared) (v : Value), BindsTo s fd ⟨[v], []⟩ [("_law_script", v)]) /\ ∀ base : Heap, K.In base -> base.Ns mainGlobals mg -> FnOk l.prog w K mg base CX0 4 fa fd ["_law_script"] (spLaw K) := by
  have e := hfa.symm.trans (PySem.W.mg_of X G p11.at_)
  cases e
  have B : Blt mg := ⟨PySem.W.mg_none_of X G z_len, PySem.W.mg_none_of X G z_abs, PySem.W.mg_none_of X G z_max, PySem.W.mg_none_of X G z_min, PySem.W.mg_none_of X G z_all, PySem.W.mg_none_of X G z_any, PySem.W.mg_none_of X G z_sum, PySem.W.mg_none_of X G z_sorted, PySem.W.mg_none_of X G z_isinstance, PySem.W.mg_none_of X G z_list, PySem.W.mg_none_of X G z_tuple, PySem.W.mg_none_of X G z_int, PySem.W.mg_none_of X G z_bool, PySem.W.mg_none_of X G z_str, PySem.W.mg_none_of X G z_set, PySem.W.mg_none_of X G z_dict, PySem.W.mg_none_of X G z_zip, PySem.W.mg_none_of X G z_range, PySem.W.mg_none_of X G z_enumerate, PySem.W.mg_none_of X G z_reversed, PySem.W.mg_none_of X G z_repr⟩
  haveI tk : TabOk K tab := tabOk_cons (clsOf_of q_Table.at_) q_Table.cl q_Table.na (tabOk_nil)
  haveI kt_tk_TableD_initD_1_0 : KTup K tk_TableD_initD_1_0 [] := ⟨fun H => sqt_of lo_tk_TableD_initD_1_0 ti_tk_TableD_initD_1_0 H⟩
  haveI ic_Table : IsCls K "Table" C_Table := ⟨clsOf_of q_Table.at_, by decide +kernel⟩
  haveI ic_NoName : IsCls K "NoName" C_NoName := ⟨clsOf_of a_NoName, by decide +kernel⟩
  haveI ii_Table : IsI K "Table" := ⟨C_Table, clsOf_of q_Table.at_, ⟨q_Table.cl, i1_Table, i2_Table, i3_Table, i4_Table, i5_Table, i6_Table, i7_Table⟩⟩
  haveI et : ETab K excEs excPs excKs excHs := ⟨et0⟩
  haveI lb_NoName : LabC K "NoName" := ⟨⟨_, clsOf_of a_NoName⟩, by decide +kernel⟩
  haveI ens : ENm K excNs := (.cons (clsOf_of a_NoName) en_NoName .nil)
  haveI hd_NoName : IsHd K excEs C_NoName := et.hd ic_NoName (by decide)
  refine ⟨d11, fun s v => by obtain ⟨e, y⟩ := p11; obtain ⟨_, _, kV, _, _, _, _, _, _, rfl, _, _⟩ := e.F.ex; have y1 : kV.1 = .none := y; exact .of_eq (by rw [y1]; rfl), fun base _ _ => ?_⟩
  have h_starts_by_way : T_starts_by_way l.prog w K mg base := p0.has p0.bd X G (ok_starts_by_way p0.F B )
  have hM_TableD_initD_2 : TS_TableD_initD_2 l.prog w K mg base := p1.hasM q_Table X G (ok_TableD_initD p1.F B ) (kbk d_TableD_initD_2 .nil)
  have hM_TableD_initD_1 : TS_TableD_initD_1 l.prog w K mg base tk_TableD_initD_1_0 := p1.hasM q_Table X G (ok_TableD_initD p1.F B ) (kbk d_TableD_initD_1 (.cons rfl .nil))
  have hT_Table_told_1 : TS_Table_told_1 l.prog w K mg base := p2.hasT q_Table (ok_Table_told p2.F B ) (kbk d_Table_told_1 .nil)
  have b4 := p4.F.binds (ps := ["self"]) (fun _ _ _ _ _ _ => al1 fun _ => rfl) e4
  have hL_Table : HasLn l.prog w K mg base CX0 "Table" 1 ["self"] (lift K dsp_TableD_lenD) := ⟨C_Table, _, _, clsOf_of q_Table.at_, ok_TableD_lenD p4.F B , b4, p4.at_, p4.fn⟩
  have b5 := p5.F.binds (ps := ["self", "other"]) (fun _ _ _ _ _ _ => al2 fun _ _ => rfl) e5
  have hE_Table : HasEqC l.prog w K mg base CX0 "Table" 1 ["self", "other"] (lift K dsp_TableD_eqD) := ⟨C_Table, clsOf_of q_Table.at_, ⟨_, _, ok_TableD_eqD p5.F B (PySem.W.mg_of X G q_Table.at_), b5, p5.at_, p5.fn⟩, nf1_Table, nf2_Table⟩
  have h_law_start : T_law_start l.prog w K mg base := p6.has p6.bd X G (ok_start p6.F B)
  have h_law_draw : T_law_draw l.prog w K mg base := p7.has p7.bd X G (ok_draw p7.F B)
  have hT_Table_of_3 : TS_Table_of_3 l.prog w K mg base := p3.hasT q_Table (ok_Table_of p3.F B h_starts_by_way) (kbk d_Table_of_3 .nil)
  have hT_Table_of_2 : TS_Table_of_2 l.prog w K mg base := p3.hasT q_Table (ok_Table_of p3.F B h_starts_by_way) (kbk d_Table_of_2 (.cons ⟨_, rfl⟩ .nil))
  have hT_Table_ofX_3 : TS_Table_ofX_3 l.prog w K mg base := p3.hasT q_Table (ok_Table_ofX p3.F B h_starts_by_way n_NoName) (kbk d_Table_ofX_3 .nil)
  have h_law_name : T_law_name l.prog w K mg base := p8.has p8.bd X G (ok_law_name p8.F B h_law_draw)
  have h_law_missing : T_law_missing l.prog w K mg base := p9.has p9.bd X G (ok_law_missing p9.F B hT_Table_ofX_3 (PySem.W.mg_of X G a_NoName))
  have h_law_some : T_law_some l.prog w K mg base := p10.has p10.bd X G (ok_law_some p10.F B h_law_draw h_law_name)
  exact (ok_law p11.F B h_law_start h_law_name h_law_missing h_law_some hM_TableD_initD_2 hT_Table_told_1 hT_Table_of_3 hT_Table_of_2 hM_TableD_initD_1 hE_Table hL_Table).imp fun vs H Q E h => lift_imp rd_law (law_lift vs H Q E h)
theorem walk {l : PySem.W.OpenLaw} {q : Program} {loose : List Str} {XP : (Str -> Option Value) -> Heap -> Prop} {YP : World -> Heap -> Prop} {d : DefRec} {K : Params -> PySem.W.Frag} (hn : l.most = some 63) (hdf : d.params.defaults = [])
    (hY : ∀ (w : World) (h : Heap), YP w h -> (K w.params).In h)
    (F : ∀ (w : World) (mg : Str -> Option Value) (fa : Addr) (h : Heap), (K w.params).In h -> h.Ns mainGlobals mg -> mg d.name = some (.ref fa) ->
      ∃ fd : FuncData, (∀ (s : Shared) (u : Value), BindsTo s fd ⟨[u], []⟩ [("_law_script", u)]) /\ ∀ base : Heap, (K w.params).In base -> base.Ns mainGlobals mg -> FnOk l.prog w (K w.params) mg base CX0 4 fa fd ["_law_script"] (spLaw (K w.params))) :
    PySem.W.WalkO q loose XP YP l.row.toRowW d [] (fun f vs => PySem.call f vs) :=
  L2.walk_of (n := 63) (k := 4) (x := "_law_script") (CX := fun _ => CX0) (sp := fun w => spLaw (K w.params)) hn (by decide) hdf ⟨fun _ => rfl, by decide, by decide, rfl⟩ hY F (fun _ _ a ns hl _ hS => ⟨a, ns, rfl, hS, hl, fun _ => rfl⟩) fun _ _ _ _ _ z => z
end M
open PySem PySem.W PyProof.Rows L2
set_option maxRecDepth 100000 in
set_option maxHeartbeats 0 in
theorem PySem.Challenge.cw_slotwright_k27_table_told_holds : PySem.Challenge.rw_slotwright_k27_table_told.Holds := by
  refine H0.hd0 ?_
  k_fill
  refine M.walk (l := PySem.Challenge.rw_slotwright_k27_table_told) rfl rfl (fun w h Y => PySem.W.kIn_of Y) ?F
  case F =>
    intro w mg fa h KX G hmg
    refine' M.all_mk KX G hmg ⟨?z0, ⟨?z1, ?z2, ?z3, ?z4⟩, ?z5, ?z6, (L2.na_cons ?z7 (List.forall_mem_nil _))⟩ ?z8 (L2.ini_mk (clsOf_of ?z8) (PySem.W.mg_of KX G ?z8) ?z9 ?z10 ?z11 ?z12 (PySem.W.mg_none_of KX G ?z13) ?z14 ?z15 ?z16 ?z17 ?z18 ?z19 ?z20 ?z21 ?z22 ?z23 ?z24 ?z25 ?z26 ?z27 ?z28 (L2.NoAttr.taker ?z29) ?z30 ?z31 ?z32 ?z33 ?z34 ?z35 ?z36 ?z37 ?z38 ?z39 ?z40 ?z41 ?z42 ?z43 ?z44) ?z45 ?z46 ⟨⟨?z47, fun_mk ?z48 ?z49 ?z50⟩, ?z51⟩ ⟨?z52, ?z53, fun_mk ?z54 ?z55 ?z56⟩ ⟨?z57, ?z58, fun_mk ?z59 ?z60 ?z61⟩ ⟨?z62, ?z63, fun_mk ?z64 ?z65 ?z66⟩ ⟨?z67, ?z68, fun_mk ?z69 ?z70 ?z71⟩ ?z72 ⟨?z73, ?z74, fun_mk ?z75 ?z76 ?z77⟩ ?z78 ⟨⟨?z79, fun_mk ?z80 ?z81 ?z82⟩, ?z83⟩ ⟨⟨?z84, fun_mk ?z85 ?z86 ?z87⟩, ?z88⟩ ⟨⟨?z89, fun_mk ?z90 ?z91 ?z92⟩, ?z93⟩ ⟨⟨?z94, fun_mk ?z95 ?z96 ?z97⟩, ?z98⟩ ⟨⟨?z99, fun_mk ?z100 ?z101 ?z102⟩, ?z103⟩ ⟨⟨?z104, fun_mk ?z105 ?z106 ?z107⟩, ?z108⟩ ?z109 ?z110 ?z111 ?z112 ?z113 ?z114 ?z115 ?z116 ?z117 ?z118 ?z119 ?z120 ?z121 ?z122 ?z123 ?z124 ?z125 ?z126 ?z127 ?z128 ?z129 ?z130 ?z131 ?z132 ?z133 ?z134 ?z135 ?z136 ?z137 ?z138 ?z139 ?z140 ?z141 ?z142 ?z143 ?z144 ?z145 ?z146
    case z0 | z1 | z2 | z3 | z4 | z5 | z6 | z7 | z8 | z9 | z14 => k_is
    case z10 => kernel_rfl
    case z11 => rfl
    case z12 | z13 | z15 | z16 => k_is
    case z17 => rfl
    case z18 | z19 => first | rfl | decide +kernel
    case z20 | z21 => k_is
    case z22 => rfl
    case z23 => first | rfl | decide +kernel
    case z24 | z25 | z26 | z27 => k_is
    case z28 => first | k_is | kernel_rfl
    case z29 => show _ = _; k_is
    case z30 => k_is
    case z31 => exact fun s u v => .of_eq rfl
    case z32 | z33 | z34 | z35 | z36 | z37 => rfl
    case z38 => decide +kernel
    case z39 => rfl
    case z40 => decide +kernel
    case z41 | z42 | z43 | z44 => rfl
    case z45 | z46 => kernel_rfl
    case z47 | z48 | z49 | z50 => k_is
    case z51 => rfl
    case z52 | z53 | z54 | z55 | z56 | z57 | z58 | z59 | z60 | z61 | z62 | z63 | z64 | z65 | z66 | z67 | z68 | z69 | z70 | z71 => k_is
    case z72 => rfl
    case z73 | z74 | z75 | z76 | z77 => k_is
    case z78 => rfl
    case z79 | z80 | z81 | z82 => k_is
    case z83 => rfl
    case z84 | z85 | z86 | z87 => k_is
    case z88 => rfl
    case z89 | z90 | z91 | z92 => k_is
    case z93 => rfl
    case z94 | z95 | z96 | z97 => k_is
    case z98 => rfl
    case z99 | z100 | z101 | z102 => k_is
    case z103 => rfl
    case z104 | z105 | z106 | z107 => k_is
    case z108 => rfl
    case z109 | z110 | z111 | z112 | z113 | z114 | z115 | z116 | z117 | z118 | z119 | z120 | z121 | z122 | z123 | z124 | z125 | z126 | z127 | z128 | z129 | z130 | z131 | z132 | z133 => k_is
    case z134 | z135 | z136 => kit_is
    case z137 | z138 => k_is
    case z139 => exact fun S => al2 fun _ _ => al0 <| by with_unfolding_all rfl
    case z140 => exact fun S => al1 fun _ => al0 <| by with_unfolding_all rfl
    case z141 => exact fun S => al3 fun _ _ _ => al0 <| by with_unfolding_all rfl
    case z142 => exact fun S => al2 fun _ _ => al0 <| by with_unfolding_all rfl
    case z143 => exact fun S => al1 fun _ => al0 <| by with_unfolding_all rfl
    case z144 => k_is
    case z145 => rfl
    case z146 => exact fun S => al3 fun _ _ _ => al0 <| by with_unfolding_all rfl

