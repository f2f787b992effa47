import PyProof.Rows.All
import Wide.All
import OpenK.AllK
import Wide.FinOn
import Lean
import PyProof.EqAt
import PyProof.EqKinds
import PyProof.TupleCall
import PyProof.P3In
import PyProof.DictCompW
import PyProof.Rows.ReprR
import PyProof.ReprLen
import PySem.Challenge.RW_slotwright_k66_masked_names_refused
set_option Elab.async false
open PySem.W (Frag nsIn mg_none_of mg_of findIn kia_one emptyDict instObj keepIn kitOne fnOf kla_obj tabObj tabIn KasT lookIn plainGet isFn callWith_KW kas_ask CodeHd methodObj hasDictIn plainGet_of takerIn makesIn codeIn methodCall_KW kas_rev kas_sort kat_nil kla_fn)
namespace H0
open PySem PySem.W PyProof.Rows
def topT(tb:String→Option Builtin)(p:Program)(w:World)(n0:Nat)(ann:Option Value):Nat→SharedT→Thread→Option SharedT
 |0,_,_=>none
 |n+1,s,t=>match through t with
  |true=>some s
  |false=>match stepOk n0 ann t with
   |false=>none
   |true=>match stepT (denote tb) p w s t with
    |some (s',t')=>topT tb p w n0 ann n s' t'
    |none=>none
theorem topT_run{tb:String→Option Builtin}{p:Program}{w:World}{n0:Nat}{ann:Option Value}:∀{n:Nat} {s s':SharedT} {t:Thread},topT tb p w n0 ann n s t=some s'→topRun tb p w n0 ann n s.abs t=some s'.abs:=by
 intro n;induction n with
 |zero=>intro s s' t h;cases h
 |succ n ih =>
  intro s s' t h;unfold topT at h;unfold topRun;cases ht:through t with
  |true=>rw[ht] at h;cases h;rfl
  |false =>
   rw[ht] at h;cases hk:stepOk n0 ann t with
   |false=>rw[hk] at h;cases h
   |true =>
    rw[hk] at h;cases hs:stepT (denote tb) p w s t with
    |none=>rw[hs] at h;cases h
    |some r=>obtain⟨s2,t2⟩:=r;rw[hs] at h;dsimp only;rw[stepT_spec hs];exact ih h
def treeOf:List Obj→BT→Nat→BT
 | [],t,_=>t
 |o::r,t,n=>treeOf r (t.ins n o) (n+1)
def looksAt(p:Program)(h0:Heap)(s:Shared):Bool:=staticsOk (importedModules p.main.body) h0 s.heap&&namesBound p s.heap&&gensDone s&&laidKept h0 s.heap
noncomputable def st0(m0:Nat)(w:World)(os:OsState):SharedT:=⟨treeOf (boot_heap w.params).objs.toList .nil 0,m0,(boot_heap w.params).life,Array.mk [],boot_drawn,boot_toks,os⟩
theorem left_tree{p q:Program}{loose:List Str}{Xt:Shared→Bool}{α:Type}{Yf:Shared→α}{Ya:World→α}{N:Nat}{g0:Bool}{m0:Nat}{ann:Option Value}
  (open_:∀w:World,(fencedOpening treeTable p w N).map (λs=>(s.heap,s.gens,s.drawn,s.toks))=some (boot_heap w.params,Array.mk [],boot_drawn,boot_toks))
  (tree:∀w:World,absHeap (treeOf (boot_heap w.params).objs.toList .nil 0) m0 (boot_heap w.params).life=boot_heap w.params)
  (size:∀w:World,((boot_heap w.params).isNs mainGlobals,(boot_heap w.params).objs.size,(boot_heap w.params).nsMap mainGlobals "__annotations__")=(true,m0,ann))
  (runA:∀(w:World) (os:OsState),(topT treeTable p w m0 ann N (st0 m0 w os) (topStub p)).map (λs=>(looksAt p (boot_heap w.params) s.abs,(openSeen q loose (importedModules p.main.body) Xt g0 s.abs).1,(openSeen q loose (importedModules p.main.body) Xt g0 s.abs).2.1,(openSeen q loose (importedModules p.main.body) Xt g0 s.abs).2.2.1))=some (true,(openGood q loose).1,(openGood q loose).2.1,(openGood q loose).2.2.1))
  (runB:∀(w:World) (os:OsState),(topT treeTable p w m0 ann N (st0 m0 w os) (topStub p)).map (λs=>(openSeen q loose (importedModules p.main.body) Xt g0 s.abs).2.2.2)=some (openGood q loose).2.2.2)
  (runC:∀(w:World) (os:OsState),(topT treeTable p w m0 ann N (st0 m0 w os) (topStub p)).map (λs=>Yf s.abs)=some (Ya w)) :
  LeftO p q loose Xt Yf Ya N g0:=λw=>by
 obtain⟨⟨h,gs,d,k,os⟩,e,e'⟩:=Option.map_eq_some_iff.mp (open_ w);obtain⟨rfl,rfl,rfl,rfl⟩:h=boot_heap w.params∧gs=Array.mk []∧d=boot_drawn∧k=boot_toks:=by simpa using e'
 obtain⟨z1,z2,z3⟩:_∧_∧_:=by simpa only[Prod.mk.injEq] using size w
 obtain⟨s,r,la⟩:=Option.map_eq_some_iff.mp (runA w os);obtain⟨s1,r1,lb⟩:=Option.map_eq_some_iff.mp (runB w os);obtain⟨s2,r2,lc⟩:=Option.map_eq_some_iff.mp (runC w os);have q1:s=s1:=Option.some.inj (r.symm.trans r1);have q2:s=s2:=Option.some.inj (r.symm.trans r2);subst q1 q2;obtain⟨l1,a1,a2,a3⟩:_∧_∧_∧_:=by simpa only[Prod.mk.injEq] using la
 unfold looksAt at l1;have l2:openSeen q loose (importedModules p.main.body) Xt g0 s.abs=openGood q loose:=Prod.ext a1 (Prod.ext a2 (Prod.ext a3 lb));have l3:Yf s.abs=Ya w:=lc;have r2:=topT_run r;have r3:topRun treeTable p w m0 ann N ⟨boot_heap w.params,Array.mk [],boot_drawn,boot_toks,os⟩ (topStub p)=some s.abs:=by
  rw[← r2];show _=topRun treeTable p w m0 ann N ⟨absHeap (treeOf (boot_heap w.params).objs.toList .nil 0) m0 (boot_heap w.params).life,Array.mk [],boot_drawn,boot_toks,os⟩ (topStub p);rw[tree w]
 have z4:((boot_heap w.params).isNs mainGlobals&&(Array.mk []:Array GenState).size==0)=true:=by rw[z1];rfl
 have t:topFrom treeTable p w N ⟨boot_heap w.params,Array.mk [],boot_drawn,boot_toks,os⟩=some s.abs:=by
  unfold topFrom;dsimp only;rw[z4,z2,z3,r3];show(match staticsOk (importedModules p.main.body) (boot_heap w.params) s.abs.heap&&namesBound p s.abs.heap&&gensDone s.abs&&laidKept (boot_heap w.params) s.abs.heap with|true=>_|false=>_)=_;rw[l1]
 unfold openEnds;rw[e];show(topFrom treeTable p w N _).map _=_;rw[t];exact congrArg some (Prod.ext l2 l3)
def bootSize:Nat:=11
def bootAnn:Option Value:=some (.ref 6)
theorem boot_tree:∀w:World,absHeap (treeOf (boot_heap w.params).objs.toList .nil 0) bootSize (boot_heap w.params).life=boot_heap w.params:=λw=>by kernel_rfl
theorem boot_size:∀w:World,((boot_heap w.params).isNs mainGlobals,(boot_heap w.params).objs.size,(boot_heap w.params).nsMap mainGlobals "__annotations__")=(true,bootSize,bootAnn):=λw=>by kernel_rfl
abbrev aa(i:Nat):Stmt:=PySem.Challenge.pw_slotwright_k66_masked_names_refused.main.body.getD i (.Pass ⟨0,0,0,0⟩)
def view0:Program:={PySem.Challenge.pw_slotwright_k66_masked_names_refused with main:={PySem.Challenge.pw_slotwright_k66_masked_names_refused.main with body:=[aa 0,aa 2,aa 3,aa 4,aa 5,aa 6,aa 7,aa 8,aa 9,aa 11,aa 12,aa 13,aa 14,aa 15,aa 16,aa 17,aa 18,aa 20,aa 21,aa 22,aa 23,aa 24,aa 25,aa 26,aa 27,aa 28,aa 30,aa 31,aa 32,aa 33,aa 34,aa 35,aa 36,aa 37,aa 39,aa 40,aa 42,aa 43,aa 44,aa 45,aa 47,aa 48,aa 49,aa 50,aa 51,aa 52,aa 53,aa 54,aa 55,aa 56,aa 57,aa 58,aa 59,aa 60,aa 61,aa 62]}}
set_option maxRecDepth 100000
set_option maxHeartbeats 0
theorem runA(w:World)(os:OsState):(topT treeTable PySem.Challenge.pw_slotwright_k66_masked_names_refused w bootSize bootAnn 8066 (st0 bootSize w os) (topStub PySem.Challenge.pw_slotwright_k66_masked_names_refused)).map (λs=>(looksAt PySem.Challenge.pw_slotwright_k66_masked_names_refused (boot_heap w.params) s.abs,(openSeen view0 [Str.ofString "Net",Str.ofString "Frame"] (importedModules PySem.Challenge.pw_slotwright_k66_masked_names_refused.main.body) (λs=>xlAt view0 [] s&&recOk (RowW.records (PySem.Challenge.rw_slotwright_k66_masked_names_refused.row.toRowW)) s) true s.abs).1,(openSeen view0 [Str.ofString "Net",Str.ofString "Frame"] (importedModules PySem.Challenge.pw_slotwright_k66_masked_names_refused.main.body) (λs=>xlAt view0 [] s&&recOk (RowW.records (PySem.Challenge.rw_slotwright_k66_masked_names_refused.row.toRowW)) s) true s.abs).2.1,(openSeen view0 [Str.ofString "Net",Str.ofString "Frame"] (importedModules PySem.Challenge.pw_slotwright_k66_masked_names_refused.main.body) (λs=>xlAt view0 [] s&&recOk (RowW.records (PySem.Challenge.rw_slotwright_k66_masked_names_refused.row.toRowW)) s) true s.abs).2.2.1))=some (true,(openGood view0 [Str.ofString "Net",Str.ofString "Frame"]).1,(openGood view0 [Str.ofString "Net",Str.ofString "Frame"]).2.1,(openGood view0 [Str.ofString "Net",Str.ofString "Frame"]).2.2.1):=by rewrite [PySem.W.Fast.te14364793385576792824];kernel_rfl
theorem runB(w:World)(os:OsState):(topT treeTable PySem.Challenge.pw_slotwright_k66_masked_names_refused w bootSize bootAnn 8066 (st0 bootSize w os) (topStub PySem.Challenge.pw_slotwright_k66_masked_names_refused)).map (λs=>(openSeen view0 [Str.ofString "Net",Str.ofString "Frame"] (importedModules PySem.Challenge.pw_slotwright_k66_masked_names_refused.main.body) (λs=>xlAt view0 [] s&&recOk (RowW.records (PySem.Challenge.rw_slotwright_k66_masked_names_refused.row.toRowW)) s) true s.abs).2.2.2)=some (openGood view0 [Str.ofString "Net",Str.ofString "Frame"]).2.2.2:=by rewrite [PySem.W.Fast.te14364793385576792824];kernel_rfl
local macro_rules | `(tactic| o_head $H)=> `(tactic| (refine holds_open (q:=view0) (loose:=[Str.ofString "Net",Str.ofString "Frame"]) (Xt:=λs=>xlAt view0 [] s&&recOk (RowW.records (PySem.Challenge.rw_slotwright_k66_masked_names_refused.row.toRowW)) s) (XP:=XL view0 []) (Yf:=Hook.obs $H) (Ya:=Hook.val $H) (YP:=Hook.says $H) (N:=8066) ?hl (Hook.of $H) (Hook.keeps $H) (λs e=>xl_of s (Bool.and_eq_true_iff.mp e).1) XL.keeps (by rfl) (by rfl) (by rfl) (λs e=>recFacts_of (Bool.and_eq_true_iff.mp e).2) (by rfl) (by first|assumption|decide+kernel) (by decide+kernel) ⟨rfl,rfl,rfl,rfl,rfl,by decide+kernel⟩ ?hw ?hc;(case hl=>exact left_tree (m0:=bootSize) (ann:=bootAnn) (boot_open (by kernel_rfl) (by decide+kernel) (λs=>by kernel_rfl)) boot_tree boot_size runA runB (λw os=>by rewrite [PySem.W.Fast.te14364793385576792824];kernel_rfl))))
set_option maxRecDepth 100000
set_option maxHeartbeats 0
open_top hd0 for PySem.Challenge.rw_slotwright_k66_masked_names_refused
end H0
set_option linter.all false
set_option maxRecDepth 100000
set_option maxHeartbeats 4000000
set_option synthInstance.maxHeartbeats 4000000
set_option synthInstance.maxSize 100000
namespace L2
open PySem PySem.Spec PyProof.Rows
variable{pins:List (Addr×Obj)}{pos:Pos}{A:Around}{u:Value}{w:World}{x m:Str}{K:Frag}{us:List Value}{a C f dx:Addr}{P:Program}{E Q:Value->Shared->Prop}{h base h':Heap}{t' j:Nat}{cm:Bool}{ps N:List Str}{es:List Expr}{tg:Expr}{op:CmpOp}{fd:FuncData}{mg mA:Str->Option Value}{kw:List (Str×Value)}{ch fp:List Addr}{M:Model}
abbrev Key:=Sum Int Str
def fk:Key->Value->Bool
 | .inl k,v=>Value.isInt k v
 | .inr x,v=>Value.isStrOf x v
def Am(w:World):Key->Int
 | .inl k=>hashInt k
 | .inr x=>hashStr w x
theorem de:∀{k:Key} {v:Value},fk k v=true->(∃i t,k=Sum.inl i/\v=Value.int i t)\/(∃x t,k=Sum.inr x/\v=Value.str x t)
 | .inl i,v,h=>by
  obtain⟨t,e⟩:=Value.isInt_shape (k:=i) (v:=v) h;exact .inl ⟨i,t,rfl,e⟩
 | .inr x,v,h=>by
  obtain⟨t,e⟩:=Value.isStrOf_shape (x:=x) (v:=v) h;exact .inr ⟨x,t,rfl,e⟩
theorem An(i:Int)(t:Tok):fk (.inl i) (.int i t)=true:=by simp[fk,Value.isInt]
theorem Ao(x:Str)(t:Tok):fk (.inr x) (.str x t)=true:=by simp[fk,Value.isStrOf]
theorem Ap(a b:Int):decide ((Sum.inl a:Key)=Sum.inl b)=(a==b):=by
 by_cases e:a=b
 .subst e;simp
 .have h:¬ (Sum.inl a:Key)=Sum.inl b:=λq=>e (Sum.inl.inj q)
  rw[decide_eq_false h];exact(beq_eq_false_iff_ne.mpr e).symm
theorem Aq(a b:Str):decide ((Sum.inr a:Key)=Sum.inr b)=decide (a=b):=by
 by_cases e:a=b
 .subst e;simp
 .have h:¬ (Sum.inr a:Key)=Sum.inr b:=λq=>e (Sum.inr.inj q)
  rw[decide_eq_false h,decide_eq_false e]
theorem Ar(a:Int)(b:Str):decide ((Sum.inl a:Key)=Sum.inr b)=false:=decide_eq_false (λq=>nomatch q)
theorem As(a:Str)(b:Int):decide ((Sum.inr a:Key)=Sum.inl b)=false:=decide_eq_false (λq=>nomatch q)
def bY(prog:Program)(w:World):PySem.KeyKind prog w Key where
 is:=fk
 hash:=Am w
 inj:=λv a b ha hb=>by
  rcases de ha with⟨i,t,rfl,rfl⟩|⟨x,t,rfl,rfl⟩
  .rcases de hb with⟨j,u,rfl,e⟩|⟨y,u,rfl,e⟩
   .injection e with e1 _;rw[e1]
   .exact nomatch e
  .rcases de hb with⟨j,u,rfl,e⟩|⟨y,u,rfl,e⟩
   .exact nomatch e
   .injection e with e1 _;rw[e1]
 byValue:=λk v h=>by
  rcases de h with⟨i,t,rfl,rfl⟩|⟨x,t,rfl,rfl⟩<;>rfl
 pyHash:=λhv h=>by
  rcases de hv with⟨i,t,rfl,rfl⟩|⟨x,t,rfl,rfl⟩
  .exact wpAny_pyHash_int h
  .exact wpAny_pyHash_str h
 eqBool:=λhu hv h=>by
  rcases de hu with⟨i,t,rfl,rfl⟩|⟨x,t,rfl,rfl⟩
  .rcases de hv with⟨j,u,rfl,rfl⟩|⟨y,u,rfl,rfl⟩
   .rw[Ap] at h;exact wpAny_eqBool_int h
   .rw[Ar] at h;exact SeqAt.EqAt.int_str i t y u _ _ _ _ h
  .rcases de hv with⟨j,u,rfl,rfl⟩|⟨y,u,rfl,rfl⟩
   .rw[As] at h;exact SeqAt.EqAt.str_int x t j u _ _ _ _ h
   .rw[Aq] at h;exact wpAny_eqBool_str h
 «strs»:= λk x t v h=>by
  rcases de h with⟨i,u,rfl,e⟩|⟨y,u,rfl,e⟩
  .exact nomatch e
  .injection e with e1 _;subst e1;cases v<;>rfl
theorem At(prog:Program)(w:World)(i:Int)(t:Tok):(bY prog w).is (.inl i) (.int i t)=true:=An i t
theorem Au(prog:Program)(w:World)(x:Str)(t:Tok):(bY prog w).is (.inr x) (.str x t)=true:=Ao x t
inductive V where
 |non|bl (b:Bool)|int (i:Int)|str (x:Str)|byt (b:Array UInt8)|flt (b:UInt64)|ref (a:Addr)|ty (n:String)
 deriving DecidableEq
variable{v y:V}{vs:List V}
def RelV:V->Value->Prop
 | .non,u=>u=Value.none
 | .bl b,u=>u=Value.bool b
 | .int i,u=>∃t,u=Value.int i t
 | .str x,u=>∃t,u=Value.str x t
 | .byt b,u=>∃t,u=Value.bytes b t
 | .flt b,u=>∃t,u=Value.float b t
 | .ref a,u=>u=Value.ref a
 | .ty n,u=>u=Value.type n
abbrev Vals:List V->List Value->Prop:=Paired RelV
theorem Vals.length{xs:List V}(r:Vals xs us):xs.length=us.length:=Paired.length r
theorem Vals.get:∀{xs:List V} {us:List Value} {i:Nat} {x:V},Vals xs us->xs[i]? = some x->∃u,us[i]? = some u/\RelV x u
 |_,_,_,_,.nil,e=>by simp at e
 |_,_,0,_,.cons r _,e=>by simp at e;subst e;exact⟨_,rfl,r⟩
 |_,_,i+1,x,.cons _ t,e=>by
  obtain⟨u,h1,h2⟩:=Vals.get (i:=i) (x:=x) t (by simpa using e);exact⟨u,by simpa using h1,h2⟩
theorem Vals.set{x:V}(r:RelV x u):∀{xs:List V} {us:List Value} (i:Nat),Vals xs us->Vals (xs.set i x) (us.set i u)
 |_,_,_,.nil=> .nil
 |_,_,0,.cons _ t=> .cons r t
 |_,_,i+1,.cons q t=> .cons q (Vals.set r i t)
theorem Vals.append:∀{xs ys:List V} {us ws:List Value},Vals xs us->Vals ys ws->Vals (xs++ys) (us++ws)
 |_,_,_,_,.nil,s=>s
 |_,_,_,_,.cons r t,s=> .cons r (Vals.append t s)
theorem Vals.take:∀{xs:List V} {us:List Value} (n:Nat),Vals xs us->Vals (xs.take n) (us.take n)
 |_,_,0,_=> .nil
 |_,_,_+1,.nil=> .nil
 |_,_,n+1,.cons r t=> .cons r (Vals.take n t)
theorem Vals.drop:∀{xs:List V} {us:List Value} (n:Nat),Vals xs us->Vals (xs.drop n) (us.drop n)
 |_,_,0,r=>r
 |_,_,_+1,.nil=> .nil
 |_,_,n+1,.cons _ t=>Vals.drop n t
def bx:Option V->Option Value->Prop
 |some v,some u=>RelV v u
 |none,none=>True
 |_,_=>False
def KV{κ:Type}:List (κ×V)->List (κ×Value)->Prop:=Paired λ(p:κ×V) (q:κ×Value)=>p.1=q.1/\RelV p.2 q.2
def kV:Key->V
 | .inl i=> .int i
 | .inr x=> .str x
inductive HO where
 |lst (xs:List V)
 |tup (xs:List V)
 |dK (kvs:List (Key×V))|dT (kvs:List (List Key×V))
 |set (S:Int->Bool) (n:Nat)
 |ins (C dx:Addr) (fs:List (Str×V))
 |own (x:Addr)
 |xd (fs:List (Str×V))
 |met (f x:Addr)
 |rng (lo hi:Int)
 |frz (o:Obj) (u:HO)
 |tbl (ps:Array Value)
 |ext (φ:Heap->Prop)
abbrev Hp:=Addr->Option HO
variable{H H':Hp}
def upd(H:Hp)(a:Addr)(o:HO):Hp:=λb=>if b=a then some o else H b
theorem zB{o:HO}:upd H a o a=some o:=by unfold upd;rw[if_pos rfl]
theorem zy{b:Addr}{o:HO}(h:b≠a):upd H a o b=H b:=by unfold upd;rw[if_neg h]
theorem Av{b:Addr}{o u:HO}(h:H a=some o)(h':H b=some u)(d:o≠u):a≠b:=by
 intro e;subst e;rw[h] at h';exact d (Option.some.inj h')
theorem zP{b:Addr}{o:HO}(h:H a=some o)(h':H b=none):a≠b:=by
 intro e;subst e;rw[h] at h';cases h'
section
variable(P:Program)(w:World)
def aw(H:Hp)(h:Heap)(a:Addr):HO->Prop
 | .lst xs=>xs.length<=sizeLine/\∃(its:List Value) (n:Nat),Vals xs its/\h.get? a=some {cls:= .type "list",data:= .seq its.toArray n}
 | .tup xs=>xs.length<=sizeLine/\∃its:List Value,Vals xs its/\IsTup h a its.toArray
 | .dK kvs=>kvs.length<=sizeLine/\(a==sysModules)=false/\∃vs,KV kvs vs/\h.DictOf (bY P w) a vs
 | .dT kvs=>kvs.length<=sizeLine/\(a==sysModules)=false/\∃xs:List (List Key×Addr×Value),
   Paired (λ(p:List Key×V) (q:List Key×Addr×Value)=>p.1=q.1/\H q.2.1=some (.tup (p.1.map kV))/\RelV p.2 q.2.2) kvs xs /\
   ∃o es ep,h.get? a=some o/\o.ExactDict/\o.data= .dict es ep/\es.toList=xs.map (entryOfKey (tupleKind (bY P w)))/\(xs.map (·.1)).Nodup
 | .set S n=>h.SetOf (intKind P w) a S n
 | .ins C dx fs=>H dx=some (.own a)/\fs.length<=1000/\dx≠a/\h.get? a=some (instObj C dx) /\
   ∃mA,h.Ns1 dx mA/\(∀f,bx (fs.lookup f) (mA f))/\PySem.Within mA (fs.map (·.1))
 | .own _=>∃o,h.get? a=some o
 | .xd fs=>∃mA,h.Ns1 a mA/\∀f,bx (fs.lookup f) (mA f)
 | .rng lo hi=>∃t u v,h.get? a=some {cls:= .type "range",data:= .fields #[.int lo t,.int hi u,.int 1 v]}
 | .frz o u=>h.get? a=some o/\aw H h a u
 | .tbl ps=>h.get? a=some {cls:= .none,data:= .fields ps}
 | .met f x=>h.get? a=some (methodObj (.ref f) (.ref x))
 | .ext φ=>φ h/\(∃o,h.get? a=some o)/\∀h1 h2:Heap,φ h1->(∀o,h1.get? a=some o->h2.get? a=some o)->φ h2
def HOk(H:Hp)(h:Heap):Prop:=∀a o,H a=some o->aw P w H h a o
end
section
variable{o:HO}
theorem aw.lt(x:aw P w H h a o):a < h.objs.size:=by
 cases o with
 |lst xs=>obtain⟨_,_,_,_,e⟩:=x;exact Heap.lt_size e
 |tup xs=>obtain⟨_,_,_,p⟩:=x;exact p.lt
 |dK kvs=>obtain⟨_,_,_,_,o,_,_,e,_⟩:=x;exact Heap.lt_size e
 |dT kvs=>obtain⟨_,_,_,_,o,_,_,e,_⟩:=x;exact Heap.lt_size e
 |set S n=>obtain⟨o,_,_,_,e,_⟩:=x;exact Heap.lt_size e
 |ins C dx fs=>obtain⟨_,_,_,e,_⟩:=x;exact Heap.lt_size e
 |own y=>obtain⟨_,e⟩:=x;exact Heap.lt_size e
 |xd fs=>obtain⟨_,⟨_,_,_,e,_⟩,_⟩:=x;exact Heap.lt_size e
 |rng lo hi=>obtain⟨_,_,_,e⟩:=x;exact Heap.lt_size e
 |frz ob u=>obtain⟨e,_⟩:=x;exact Heap.lt_size e
 |tbl ps=>exact Heap.lt_size (show h.get? a=some _ from x)
 |met f y=>exact Heap.lt_size (show h.get? a=some _ from x)
 |ext φ=>obtain⟨_,⟨_,e⟩,_⟩:=x;exact Heap.lt_size e
theorem Paired.mapP{α β:Type}{F G:α->β->Prop}:∀{l₁:List α} {l₂:List β},Paired F l₁ l₂->(∀a b,F a b->G a b)->Paired G l₁ l₂
 |_,_,.nil,_=> .nil
 |_,_,.cons r t,f=> .cons (f _ _ r) (Paired.mapP t f)
theorem aw.stay(x:aw P w H h a o)(k:∀b u,(b=a\/H b=some (.own a))->h.get? b=some u->h'.get? b=some u)
  (ho:∀b,H b=some (.own a)->H' b=some (.own a))(ht:∀b xs,H b=some (.tup xs)->H' b=some (.tup xs)):aw P w H' h' a o:=by
 induction o with
 |lst xs=>obtain⟨z,its,n,r,e⟩:=x;exact⟨z,its,n,r,k _ _ (.inl rfl) e⟩
 |tup xs=>obtain⟨z,its,r,ob,e,c⟩:=x;exact⟨z,its,r,ob,k _ _ (.inl rfl) e,c⟩
 |dK kvs=>obtain⟨z,y,vs,r,ob,es,ep,e,c⟩:=x;exact⟨z,y,vs,r,ob,es,ep,k _ _ (.inl rfl) e,c⟩
 |dT kvs =>
  obtain⟨z,y,xs,r,ob,es,ep,e,c⟩:=x;exact⟨z,y,xs,Paired.mapP r λp q z=>⟨z.1,ht _ _ z.2.1,z.2.2⟩,ob,es,ep,k _ _ (.inl rfl) e,c⟩
 |set S n=>obtain⟨ob,es,ep,t,e,c⟩:=x;exact⟨ob,es,ep,t,k _ _ (.inl rfl) e,c⟩
 |ins C dx fs =>
  obtain⟨d,z,ne,e,mA,⟨od,es,ep,e2,c⟩,r⟩:=x;exact⟨ho _ d,z,ne,k _ _ (.inl rfl) e,mA,⟨od,es,ep,k _ _ (.inr d) e2,c⟩,r⟩
 |own y=>obtain⟨ob,e⟩:=x;exact⟨ob,k _ _ (.inl rfl) e⟩
 |xd fs=>obtain⟨mA,⟨od,es,ep,e,c⟩,r⟩:=x;exact⟨mA,⟨od,es,ep,k _ _ (.inl rfl) e,c⟩,r⟩
 |rng lo hi=>obtain⟨t,u,v,e⟩:=x;exact⟨t,u,v,k _ _ (.inl rfl) e⟩
 |frz ob u ih=>obtain⟨e,q⟩:=x;exact⟨k _ _ (.inl rfl) e,ih q⟩
 |tbl ps =>
  have e:h.get? a=some {cls:= .none,data:= .fields ps}:=x;show h'.get? a=some {cls:= .none,data:= .fields ps};exact k a _ (.inl rfl) e
 |met f y =>
  have e:h.get? a=some (methodObj (.ref f) (.ref y)):=x;show h'.get? a=some (methodObj (.ref f) (.ref y));exact k a _ (.inl rfl) e
 |ext φ=>obtain⟨p,⟨o,e⟩,st⟩:=x;exact⟨st _ _ p λo q=>k _ _ (.inl rfl) q,⟨o,k _ _ (.inl rfl) e⟩,st⟩
theorem HOk.lt(x:HOk P w H h)(e:H a=some o):a < h.objs.size:=(x a o e).lt
theorem HOk.fresh(x:HOk P w H h)(e:h.objs.size<=a):H a=none:=by
 cases q:H a with
 |none=>rfl
 |some u=>exact absurd (Nat.lt_of_lt_of_le (x.lt q) e) (Nat.lt_irrefl _)
theorem HOk.kept(x:HOk P w H h)(k:∀b u,h.get? b=some u->h'.get? b=some u):HOk P w H h':=λa o e =>
 (x a o e).stay (λb u _ q=>k b u q) (λ_ q=>q) λ_ _ q=>q
theorem HOk.laid(x:HOk P w H h)(k:∀b u,h.get? b=some u->h'.get? b=some u)(hp:h.objs.size<=a)(new:aw P w (upd H a o) h' a o):HOk P w (upd H a o) h':=λb u e=>by
 have hn:=x.fresh hp;by_cases hb:b=a
 .subst hb;rw[zB] at e;cases e;exact new
 .rw[zy hb] at e;exact(x b u e).stay (λc v _ q=>k c v q) (λc q=>by rw[zy (zP q hn)];exact q) λc xs q=>by rw[zy (zP q hn)];exact q
end
def Rd(H:Hp)(a:Addr)(u:HO):Prop:=H a=some u\/∃o,H a=some (.frz o u)
theorem Rd.ok{u:HO}(r:Rd H a u)(x:HOk P w H h):aw P w H h a u:=by
 rcases r with r|⟨o,r⟩
 .exact x a u r
 .obtain⟨_,q⟩:=x a _ r;exact q
def Mut:Option HO->Prop
 |some (.lst _)=>True
 |some (.dK _)=>True
 |some (.dT _)=>True
 |some (.set _ _)=>True
 |some (.ins _ _ _)=>True
 |some (.ext _)=>True
 |_=>False
section
variable{x e:Addr}{o':HO}
theorem HOk.write(ok:HOk P w H h)(mu:Mut (H x))(he:e=x\/H e=some (.own x))(k:∀b u,b≠e->h.get? b=some u->h'.get? b=some u)(heo:∃u,h'.get? e=some u)
  (new:aw P w (upd H x o') h' x o'):HOk P w (upd H x o') h':=λb u q=>by
 have nown:∀c y,H c=some (.own y)->c≠x:=λc y r z=>by subst z;rw[r] at mu;exact mu
 have ntup:∀c xs,H c=some (.tup xs)->c≠x:=λc xs r z=>by subst z;rw[r] at mu;exact mu
 by_cases hb:b=x
 .subst hb;rw[zB] at q;cases q;exact new
 .rw[zy hb] at q;by_cases hbe:b=e
  .have q':H b=some (.own x):=by
    rcases he with z|z
    .exact absurd (hbe.trans z) hb
    .rw[hbe];exact z
   rw[q] at q';cases q';obtain⟨v,hv⟩:=heo;exact⟨v,by rw[hbe];exact hv⟩
  .refine(ok b u q).stay (λc v hc r=>k c v ?_ r) (λc r=>by rw[zy (nown c b r)];exact r) λc xs r=>by rw[zy (ntup c xs r)];exact r
   rcases hc with rfl|hc
   .exact hbe
   .rintro rfl;rcases he with z|z
    .exact nown c b hc z
    .rw[hc] at z;cases z;exact hb rfl
end
structure Un(fs ex:List Addr)(H H':Hp)(h h':Heap):Prop where
 keep:∀b o,h.get? b=some o->H b=none->b∉fs->b∉ex->h'.get? b=some o
 slot:∀b o,h.get? b=some o->H b=none->b∈fs->b∉ex->∃sl,h'.get? b=some {o with slots:=sl}
 free:∀b o,h.get? b=some o->H b=none->b∉ex->H' b=none
 there:∀b o,h.get? b=some o->b∉ex->∃o',h'.get? b=some o'
 tups:∀b xs,H b=some (.tup xs)->H' b=some (.tup xs)
 frzs:∀b o u,H b=some (.frz o u)->H' b=some (.frz o u)
 tbls:∀b ps,H b=some (.tbl ps)->∃more,H' b=some (.tbl (ps++more))
section
variable{fs fs' ex ex':List Addr}{H1 H2:Hp}{h1 h2:Heap}{x e:Addr}{o:HO}
theorem Un.any(u:Un fs ex H H1 h h1){b:Addr}{ob:Obj}(q:h.get? b=some ob)(n:H b=none)(hx:b∉ex):∃sl,h1.get? b=some {ob with slots:=sl}:=by
 by_cases hb:b∈fs
 .exact u.slot b ob q n hb hx
 .exact⟨ob.slots,u.keep b ob q n hb hx⟩
theorem Un.kept(k:∀b u,h.get? b=some u->h'.get? b=some u):Un fs ex H H h h' :=
 ⟨λb ob q _ _ _=>k b ob q,λb ob q _ _ _=>⟨ob.slots,k b ob q⟩,λ_ _ _ n _=>n,λb ob q _=>⟨ob,k b ob q⟩,λ_ _ q=>q,λ_ _ _ q=>q,λ_ ps q=>⟨#[],by rw[q];simp⟩⟩
theorem Un.refl:Un fs ex H H h h:=Un.kept λ_ _ q=>q
theorem Un.laid(k:∀b u,h.get? b=some u->h'.get? b=some u)(hp:h.objs.size<=a)(hn:H a=none):Un fs ex H (upd H a o) h h' where
 keep:=λb u q _ _ _=>k b u q
 slot:=λb u q _ _ _=>⟨u.slots,k b u q⟩
 free:=λb u q n _=>by rw[zy (Nat.ne_of_lt (Nat.lt_of_lt_of_le (Heap.lt_size q) hp))];exact n
 there:=λb u q _=>⟨u,k b u q⟩
 tups:=λb xs q=>by rw[zy (zP q hn)];exact q
 frzs:=λb u xs q=>by rw[zy (zP q hn)];exact q
 tbls:=λb ps q=>⟨#[],by rw[zy (zP q hn),q];simp⟩
theorem Un.write(mu:Mut (H x))(he:e=x\/H e=some (.own x))(k:∀b u,b≠e->h.get? b=some u->h'.get? b=some u)(heo:∃u,h'.get? e=some u):Un fs ex H (upd H x o) h h':=by
 have hx:∀b,H b=none->b≠x:=λb n z=>by subst z;rw[n] at mu;exact mu
 have hb:∀b,H b=none->b≠e:=λb n z=>by
  subst z;rcases he with r|r
  .exact hx b n r
  .rw[n] at r;cases r
 have hm:∀b u,H b=some u->¬ Mut (some u)->b≠x:=λb u q nm z=>by subst z;rw[q] at mu;exact nm mu
 refine⟨λb u q n _ _=>k b u (hb b n) q,λb u q n _ _=>⟨u.slots,k b u (hb b n) q⟩,λb u q n _=>by rw[zy (hx b n)];exact n,λb u q _=>?_,
  λb xs q=>by rw[zy (hm b _ q λz=>z)];exact q,λb u xs q=>by rw[zy (hm b _ q λz=>z)];exact q,λb ps q=>⟨#[],by rw[zy (hm b _ q λz=>z),q];simp⟩⟩
 by_cases hbe:b=e
 .subst hbe;exact heo
 .exact⟨u,k b u hbe q⟩
end
def trk(h:Heap)(H:Hp):List Addr:=(List.range h.objs.size).filter λa=>(H a).isSome
def dh(h:Heap)(H:Hp):Heap:=PySem.W.hideAll h (trk h H)
theorem Aw(h:Heap)(H:Hp):(dh h H).objs.size=h.objs.size:=PySem.W.hideAll_size _ _
theorem Ax{b:Addr}{o:Obj}(e:h.get? b=some o)(n:H b=none):(dh h H).get? b=some o :=
 PySem.W.hideAll_get _ e λhm=>by
  have q:(H b).isSome=true:=(List.mem_filter.mp hm).2;rw[n] at q;simp at q
theorem Ay{b:Addr}{o:Obj}(e:(dh h H).get? b=some o):h.get? b=some o/\H b=none:=by
 have e':h.get? b=some o:=PySem.W.of_hideAll (trk h H) e;refine⟨e',?_⟩;cases q:H b with
 |none=>rfl
 |some x =>
  have hm:b∈trk h H:=List.mem_filter.mpr ⟨List.mem_range.mpr (Heap.lt_size e'),by simp[q]⟩;have z:(dh h H).get? b=none:=PySem.W.hideAll_none (trk h H) hm;rw[z] at e;cases e
def Az(g h:Heap)(L:Addr):List (Addr×Obj):=(List.range h.objs.size).filterMap λa=>if a=L\/(g.get? a).isSome=true then none else(h.get? a).map λo=>(a,o)
def rest(g h:Heap)(L d:Addr):List (Addr×Obj):=(Az g h L).filter λp=>decide (p.1≠d)
structure Mod(K:Frag)(mg:Str->Option Value)(base:Heap):Prop where
 kin:K.In base
 glob:base.Ns mainGlobals mg
 blt:∃mb,base.Ns builtinsNs mb/\∀x:Str,x≠"__name__"->mb x=bootBuiltins x
 nolimit:base.NoLimit
structure Cx where
 prog:Program
 w:World
 K:Frag
 mg:Str->Option Value
 base:Heap
 A:Around
 N:List Str
 s₀:Shared
 H₀:Hp
 env:Env
 outer:List Env
 stack:List Env
 ex:List Addr
 fn:Str->Bool
 calm:Bool
 pn:List (Addr×Obj)
 xe:Value->Shared->Prop
variable{X:Cx}
def frs(l:List Env):List Addr:=l.filterMap (·.frame)
abbrev Cx.fs(X:Cx):List Addr:=frs X.outer
def Vis(sc:Scope)(x:Str):Prop:=sc.names.lookup x=some .local\/sc.names.lookup x=some .cell\/sc.names.lookup x=some .free
def Loc(sc:Scope)(x:Str):Prop:=sc.names.lookup x=some .local\/sc.names.lookup x=some .cell
def Look(env:Env)(h:Heap)(m:Str->Option Value)(x:Str)(u:Value):Prop :=
 (env.kindOf x=some .local/\m x=some u)\/((env.kindOf x=some .cell\/env.kindOf x=some .free)/\∃c,env.cells.lookup x=some c/\h.IsCell c (some u))
structure Cx.Ok(X:Cx):Prop where
 mod:Mod X.K X.mg X.base
 kind:X.env.scope.kind= .function
 glob:X.env.globals=mainGlobals
 blt:X.env.builtins=builtinsNs
 above:X.s₀.heap.objs.size<=X.env.locals
 inj:∀x y c,X.env.cells.lookup x=some c->X.env.cells.lookup y=some c->x=y
 has:∀x,(X.env.kindOf x=some .cell\/X.env.kindOf x=some .free)->∃c,X.env.cells.lookup x=some c
 cab:∀x c,X.fn x=true->X.env.cells.lookup x=some c->X.s₀.heap.objs.size<=c
 hd:X.calm=true->X.A.handled=none
 frames:X.A.frames=some X.stack
 stk:X.stack=X.outer\/(X.stack=X.env::X.outer/\X.env.frame=some X.env.locals)
 exf:∀b∈X.ex,b≠X.env.locals/\∀x c,X.env.cells.lookup x=some c->c≠b
 bs:∀b o,X.base.get? b=some o->X.s₀.heap.get? b=some o/\X.H₀ b=none
 bsz:X.base.objs.size<=X.s₀.heap.objs.size
 noex:∀b o,X.base.get? b=some o->b∉X.ex
 exfs:∀b∈X.ex,b∉X.fs
 funs:X.s₀.heap.FunFrames X.base X.outer
 frf:∀b∈X.fs,X.H₀ b=none
structure Inv(X:Cx)(pins:List (Addr×Obj))(σ:List (Option V))(H:Hp)(s:Shared):Prop where
 ok:X.Ok
 os:s.os=X.s₀.os
 bare:AllBare s.gens
 base:Un X.fs X.ex X.H₀ H X.s₀.heap s.heap
 loc:∃m,s.heap.Ns X.env.locals m/\∀(i:Nat) (x:Str) (v:V),X.N[i]? = some x->σ[i]? = some (some v)->Vis X.env.scope x->∃u,RelV v u/\Look X.env s.heap m x u
 cell:∀x c,X.env.cells.lookup x=some c->∃v,s.heap.IsCell c v
 free:H X.env.locals=none
 freeC:∀x c,X.env.cells.lookup x=some c->H c=none
 pin:∀p∈X.pn++pins,s.heap.get? p.1=some p.2/\H p.1=none/\p.1≠X.env.locals/\p.1∉X.fs/\∀v,p.2.data≠ .cell v
 hok:HOk X.prog X.w H s.heap
 len:σ.length=X.N.length
section
variable{σ:List (Option V)}{s:Shared}
theorem Cx.Ok.nofr(ok:X.Ok){b:Addr}{o:Obj}(e:X.base.get? b=some o):b∉X.fs:=λhb=>by
 have:=(ok.funs.mem hb).1;rw[e] at this;cases this
theorem Inv.bs(I:Inv X pins σ H s):∀b o,X.base.get? b=some o->s.heap.get? b=some o/\H b=none:=λb o e =>
 ⟨I.base.keep b o (I.ok.bs b o e).1 (I.ok.bs b o e).2 (I.ok.nofr e) (I.ok.noex b o e),I.base.free b o (I.ok.bs b o e).1 (I.ok.bs b o e).2 (I.ok.noex b o e)⟩
theorem Inv.bk(I:Inv X pins σ H s):∀b o,X.base.get? b=some o->s.heap.get? b=some o:=λb o e=>(I.bs b o e).1
theorem Inv.mod(I:Inv X pins σ H s):Mod X.K X.mg X.base:=I.ok.mod
theorem Inv.kIn(I:Inv X pins σ H s):X.K.In s.heap:=I.ok.mod.kin.keeps I.bk
theorem Inv.nolimit(I:Inv X pins σ H s):s.heap.NoLimit:=I.ok.mod.nolimit.keeps I.bk
theorem Inv.lt(I:Inv X pins σ H s):X.env.locals < s.heap.objs.size:=let ⟨_,hn,_⟩:=I.loc;hn.lt
theorem Inv.sz(I:Inv X pins σ H s):X.s₀.heap.objs.size<=s.heap.objs.size:=Nat.le_trans I.ok.above (Nat.le_of_lt I.lt)
theorem Inv.nofs(I:Inv X pins σ H s)(h:s.heap.objs.size<=a):a∉X.fs:=λhb=>by
 obtain⟨_,o,ho,_⟩:=I.ok.funs.mem hb;exact absurd (Nat.lt_of_lt_of_le (Heap.lt_size ho) (Nat.le_trans I.sz h)) (Nat.lt_irrefl _)
theorem Inv.cne(I:Inv X pins σ H s):∀x c,X.env.cells.lookup x=some c->c≠X.env.locals:=λx c e z=>by
 obtain⟨v,o,ho,hd⟩:=I.cell x c e;obtain⟨m,⟨o',es,ep,ho',hd',_⟩,_⟩:=I.loc;rw[z,ho'] at ho;cases ho;rw[hd'] at hd;cases hd
theorem Inv.funs(I:Inv X pins σ H s):s.heap.FunFrames X.base X.outer:=by
 have all:∀(l:List Env),(∀b∈frs l,b∈X.fs)->X.s₀.heap.FunFrames X.base l->s.heap.FunFrames X.base l:=by
  intro l;induction l with
  |nil=>intro _ _;trivial
  |cons env r ih =>
   intro hs hl;obtain⟨hk,⟨L,o,hf,hn,ho,hd⟩,hr⟩:=hl;have hL:L∈X.fs:=hs L (by unfold frs;rw[List.filterMap_cons,hf];exact List.mem_cons_self);obtain⟨sl,e⟩:=I.base.slot L o ho (I.ok.frf L hL) hL λz=>I.ok.exfs L z hL
   exact⟨hk,⟨L,_,hf,hn,e,hd⟩,ih (λb hb=>hs b (by unfold frs;rw[List.filterMap_cons,hf];exact List.mem_cons_of_mem _ hb)) hr⟩
 exact all X.outer (λ_ hb=>hb) I.ok.funs
theorem Inv.stack(I:Inv X pins σ H s):s.heap.FunFrames X.base X.stack:=by
 rcases I.ok.stk with e|⟨e,hf⟩
 .rw[e];exact I.funs
 .rw[e];obtain⟨m,hn,_⟩:=I.loc;refine .cons (by rw[I.ok.kind];decide) hf hn ?_ I.funs;exact Heap.get?_none_of_le (Nat.le_trans I.ok.bsz I.ok.above)
theorem Inv.stkSub(I:Inv X pins σ H s):∀b∈frs X.stack,b∈X.env.locals::X.fs:=λb hb=>by
 rcases I.ok.stk with e|⟨e,hf⟩
 .rw[e] at hb;exact List.mem_cons_of_mem _ hb
 .rw[e] at hb;unfold frs at hb;rw[List.filterMap_cons,hf] at hb;exact hb
theorem Inv.stkFree(I:Inv X pins σ H s):∀b∈frs X.stack,H b=none:=λb hb=>by
 rcases List.mem_cons.mp (I.stkSub b hb) with e|hb
 .rw[e];exact I.free
 .obtain⟨_,o,ho,_⟩:=I.ok.funs.mem hb;exact I.base.free b o ho (I.ok.frf b hb) λz=>I.ok.exfs b z hb
theorem Inv.step{g':Array GenState}{d':Drawn}(I:Inv X pins σ H s)
  (hch:∀b∈ch,(b∈X.ex\/X.s₀.heap.objs.size<=b)/\b≠X.env.locals/\(∀x c,X.env.cells.lookup x=some c->c≠b)/\∀p∈X.pn++pins,p.1≠b)
  (keep:∀b o,b≠X.env.locals->b∉X.fs->b∉ch->s.heap.get? b=some o->H b=none->h'.get? b=some o)
  (slot:∀b o,b≠X.env.locals->b∈X.fs->b∉ch->s.heap.get? b=some o->H b=none->∃sl,h'.get? b=some {o with slots:=sl})(free:∀b o,b∉ch->s.heap.get? b=some o->H b=none->H' b=none)
  (there:∀b o,b∉ch->s.heap.get? b=some o->∃o',h'.get? b=some o')
  (tups:∀b xs,H b=some (.tup xs)->H' b=some (.tup xs))(frzs:∀b o u,H b=some (.frz o u)->H' b=some (.frz o u))(tbls:∀b ps,H b=some (.tbl ps)->∃more,H' b=some (.tbl (ps++more)))
  (ns:∀m,s.heap.Ns X.env.locals m->h'.Ns X.env.locals m)(hok:HOk X.prog X.w H' h')(hg:AllBare g') :
  Inv X pins σ H' {s with heap:=h',gens:=g',drawn:=d',toks:=t'}:=by
 have neL:∀b o,X.s₀.heap.get? b=some o->b≠X.env.locals:=λb o e=>Nat.ne_of_lt (Nat.lt_of_lt_of_le (Heap.lt_size e) I.ok.above)
 have neC:∀b o,X.s₀.heap.get? b=some o->b∉X.ex->b∉ch:=λb o e hx hb=>by
  rcases(hch b hb).1 with z|z
  .exact hx z
  .exact absurd (Nat.lt_of_lt_of_le (Heap.lt_size e) z) (Nat.lt_irrefl _)
 have cellK:∀x c,X.env.cells.lookup x=some c->∀v,s.heap.IsCell c v->h'.IsCell c v:=λx c e v ⟨o,ho,hd⟩=>by
  have nch:c∉ch:=λz=>(hch c z).2.2.1 x c e rfl
  by_cases hc:c∈X.fs
  .obtain⟨sl,q⟩:=slot c o (I.cne x c e) hc nch ho (I.freeC x c e);exact⟨_,q,hd⟩
  .exact⟨o,keep c o (I.cne x c e) hc nch ho (I.freeC x c e),hd⟩
 refine⟨I.ok,I.os,hg,⟨λb o e n hb hx=>?_,λb o e n hb hx=>?_,λb o e n hx=>?_,λb o e hx=>?_,λb xs e=>tups b xs (I.base.tups b xs e),λb o xs e=>frzs b o xs (I.base.frzs b o xs e),λb ps e=>?_⟩,?_,λx c e=>?_,?_,λx c e=>?_,λp hp=>?_,hok,I.len⟩
 .exact keep b o (neL b o e) hb (neC b o e hx) (I.base.keep b o e n hb hx) (I.base.free b o e n hx)
 .obtain⟨sl,e1⟩:=I.base.slot b o e n hb hx;obtain⟨sl',e2⟩:=slot b _ (neL b o e) hb (neC b o e hx) e1 (I.base.free b o e n hx);exact⟨sl',e2⟩
 .obtain⟨o',e1⟩:=I.base.there b o e hx;exact free b o' (neC b o e hx) e1 (I.base.free b o e n hx)
 .obtain⟨o',e1⟩:=I.base.there b o e hx;exact there b o' (neC b o e hx) e1
 .obtain⟨m1,e1⟩:=I.base.tbls b ps e;obtain⟨m2,e2⟩:=tbls b _ e1;exact⟨m1++m2,by rw[e2,Array.append_assoc]⟩
 .obtain⟨m,hn,hl⟩:=I.loc;refine⟨m,ns m hn,λi x v e1 e2 e3=>?_⟩;obtain⟨u,r,l⟩:=hl i x v e1 e2 e3;refine⟨u,r,?_⟩;rcases l with l|⟨k,c,e,z⟩
  .exact .inl l
  .exact .inr ⟨k,c,e,cellK x c e _ z⟩
 .obtain⟨v,z⟩:=I.cell x c e;exact⟨v,cellK x c e v z⟩
 .obtain⟨m,⟨o,_,_,ho,_⟩,_⟩:=I.loc;exact free _ o (λz=>(hch _ z).2.1 rfl) ho I.free
 .obtain⟨v,o,ho,hd⟩:=I.cell x c e;exact free c o (λz=>(hch c z).2.2.1 x c e rfl) ho (I.freeC x c e)
 .obtain⟨e,n,ne,nf,d⟩:=I.pin p hp;have nch:p.1∉ch:=λz=>(hch p.1 z).2.2.2 p hp rfl
  exact⟨keep p.1 p.2 ne nf nch e n,free p.1 p.2 nch e n,ne,nf,d⟩
theorem Inv.un(I:Inv X pins σ H s)(u:Un X.fs [] H H' s.heap h')(hok:HOk X.prog X.w H' h'):Inv X pins σ H' {s with heap:=h',toks:=t'}:=by
 obtain⟨m,⟨o,es,ep,ho,r⟩,_⟩:=id I.loc;obtain⟨sl,hL⟩:=u.any ho I.free (by simp);exact I.step (g':=s.gens) (d':=s.drawn) (ch:=[]) (λ_ z=>nomatch z) (λb o _ hb _ e n=>u.keep b o e n hb (by simp)) (λb o _ hb _ e n=>u.slot b o e n hb (by simp)) (λb o _ e n=>u.free b o e n (by simp)) (λb o _ e=>u.there b o e (by simp)) u.tups u.frzs u.tbls (λm' hm=>by
  obtain⟨o',es',ep',ho',r'⟩:=hm;rw[ho] at ho';cases ho';exact⟨_,es',ep',hL,r'⟩) hok I.bare
theorem Inv.call{g':Array GenState}{d':Drawn}(I:Inv X pins σ H s)(u:Un (frs X.stack) ch H H' s.heap h')(hok:HOk X.prog X.w H' h')(hg:AllBare g')
  (hch:∀b∈ch,(b∈X.ex\/X.s₀.heap.objs.size<=b)/\b≠X.env.locals/\(∀x c,X.env.cells.lookup x=some c->c≠b)/\∀p∈X.pn++pins,p.1≠b) :
  Inv X pins σ H' {s with heap:=h',gens:=g',drawn:=d',toks:=t'}:=by
 obtain⟨m,⟨o,es,ep,ho,r⟩,_⟩:=id I.loc;obtain⟨sl,hL⟩:=u.any ho I.free λz=>(hch _ z).2.1 rfl
 exact I.step (ch:=ch) hch (λb o hL hb hc e n=>u.keep b o e n (λz=>(List.mem_cons.mp (I.stkSub b z)).elim hL hb) hc) (λb o _ _ hc e n=>u.any e n hc) (λb o hc e n=>u.free b o e n hc) (λb o hc e=>u.there b o e hc) u.tups u.frzs u.tbls (λm' hm=>by
  obtain⟨o',es',ep',ho',r'⟩:=hm;rw[ho] at ho';cases ho';exact⟨_,es',ep',hL,r'⟩) hok hg
theorem Inv.turned{it:Addr}(I:Inv X pins σ H s)(k:∀b o,b≠it->s.heap.get? b=some o->h'.get? b=some o)(hn:H it=none)(hL:it≠X.env.locals)
  (h1:it∈X.ex\/X.s₀.heap.objs.size<=it)(h2:∀x c,X.env.cells.lookup x=some c->c≠it)(h3:∀p∈X.pn++pins,p.1≠it):Inv X pins σ H {s with heap:=h',toks:=t'}:=by
 have nit:∀b u,H b=some u->b≠it:=λb u e z=>by rw[z,hn] at e;cases e
 refine I.step (g':=s.gens) (d':=s.drawn) (ch:=[it]) (λb hb=>?_) (λb o _ _ hc e _=>k b o (λz=>hc (by simp[z])) e) (λb o _ _ hc e _=>⟨o.slots,k b o (λz=>hc (by simp[z])) e⟩) (λ_ _ _ _ n=>n)
  (λb o hc e=>⟨o,k b o (λz=>hc (by simp[z])) e⟩) (λ_ _ e=>e) (λ_ _ _ e=>e) (λb ps e=>⟨#[],by rw[e];simp⟩) (λm hm=>?_) (λb u e=>?_) I.bare
 .have e:b=it:=by simpa using hb
  subst e;exact⟨h1,hL,h2,h3⟩
 .obtain⟨o,es,ep,ho,r⟩:=hm;exact⟨o,es,ep,k _ o (Ne.symm hL) ho,r⟩
 .refine(I.hok b u e).stay (λc v hc q=>k c v ?_ q) (λ_ q=>q) λ_ _ q=>q
  rcases hc with z|z
  .rw[z];exact nit b u e
  .exact nit c _ z
theorem Inv.tok(I:Inv X pins σ H s)(t:Nat):Inv X pins σ H {s with toks:=t}:=I.un (h':=s.heap) (t':=t) Un.refl I.hok
theorem Inv.kept(I:Inv X pins σ H s)(k:∀b u,s.heap.get? b=some u->h'.get? b=some u):Inv X pins σ H {s with heap:=h',toks:=t'}:=I.un (Un.kept k) (I.hok.kept k)
theorem Inv.laid{o:HO}(I:Inv X pins σ H s)(k:∀b u,s.heap.get? b=some u->h'.get? b=some u)(hp:s.heap.objs.size<=a)(new:aw X.prog X.w (upd H a o) h' a o) :
  Inv X pins σ (upd H a o) {s with heap:=h',toks:=t'}:=I.un (Un.laid k hp (I.hok.fresh hp)) (I.hok.laid k hp new)
theorem Inv.write{x e:Addr}{o:HO}(I:Inv X pins σ H s)(mu:Mut (H x))(he:e=x\/H e=some (.own x))(k:∀b u,b≠e->s.heap.get? b=some u->h'.get? b=some u)(heo:∃u,h'.get? e=some u)
  (new:aw X.prog X.w (upd H x o) h' x o):Inv X pins σ (upd H x o) {s with heap:=h',toks:=t'}:=I.un (Un.write mu he k heo) (I.hok.write mu he k heo new)
theorem Inv.weak{σ':List (Option V)}(I:Inv X pins σ H s)(hl:σ'.length=σ.length)(w:∀(i:Nat) v,σ'[i]? = some (some v)->σ[i]? = some (some v)):Inv X pins σ' H s :=
 ⟨I.ok,I.os,I.bare,I.base,let ⟨m,hn,hl'⟩:=I.loc;⟨m,hn,λi x v e1 e2 e3=>hl' i x v e1 (w i v e2) e3⟩,I.cell,I.free,I.freeC,I.pin,I.hok,hl.trans I.len⟩
theorem Inv.pins_of{pins':List (Addr×Obj)}(I:Inv X pins σ H s)(h:∀p∈pins',s.heap.get? p.1=some p.2/\H p.1=none/\p.1≠X.env.locals/\p.1∉X.fs/\∀v,p.2.data≠ .cell v):Inv X pins' σ H s :=
 ⟨I.ok,I.os,I.bare,I.base,I.loc,I.cell,I.free,I.freeC,λp hp=>(List.mem_append.mp hp).elim (λz=>I.pin p (List.mem_append_left _ z)) (h p),I.hok,I.len⟩
theorem qb(hN:N.Nodup){i:Nat}(a:N[i]? = some x)(b:N[j]? = some x):i=j:=by
 obtain⟨h1,e1⟩:=List.getElem?_eq_some_iff.mp a;obtain⟨h2,e2⟩:=List.getElem?_eq_some_iff.mp b;exact(List.getElem_inj hN).mp (e1.trans e2.symm)
theorem qc{i:Nat}{Q:Unit->Shared->Prop}(I:Inv X pins σ H s)(hN:X.N.Nodup)(hi:X.N[i]? = some x)(hx:Loc X.env.scope x)(r:RelV v u)
  (h:∀s',Inv X pins (σ.set i (some v)) H s'->(∃a,Heap.SameBut a s.heap s'.heap/\(a=X.env.locals\/X.env.cells.lookup x=some a))->Q () s')(hf:X.fn x=true\/X.env.scope.names.lookup x=some .local:=by first|exact .inl rfl|exact .inr rfl|assumption):wpAny M A (storeName X.env x u) Q E s:=by
 obtain⟨m,hn,hl⟩:=id I.loc;have hcls:(X.env.scope.kind== .class||(X.env.scope.kind== .module&&X.env.locals !=X.env.globals))=false:=by rw[I.ok.kind];rfl
 have hiσ:i < σ.length:=by rw[I.len];exact(List.getElem?_eq_some_iff.mp hi).1
 have cne:=I.cne;have tracked:∀{a:Addr} {h':Heap},(∃o,s.heap.get? a=some o/\H a=none)->Heap.SameBut a s.heap h'->HOk X.prog X.w H h':=λ{a h'} ha hs b ob e=>by
  obtain⟨_,_,hfree⟩:=ha;refine(I.hok b ob e).stay (λc w' hc q=>(hs.2 c ?_).trans q) (λ_ q=>q) λ_ _ q=>q
  rintro rfl;rcases hc with rfl|hc
  .rw[hfree] at e;cases e
  .rw[hfree] at hc;cases hc
 rcases hx with hk|hk
 .refine wpAny_storeName_local hk hn (λh' hn' hs=>?_) hcls;obtain⟨oL,_,_,hoL,_⟩:=id hn;refine h _ ⟨I.ok,I.os,I.bare,⟨λb o e n hb hx=>?_,λb o e n hb hx=>?_,I.base.free,λb o e hx=>?_,I.base.tups,I.base.frzs,I.base.tbls⟩,⟨_,hn',λj y v' e1 e2 e3=>?_⟩,λy c e=>?_,I.free,I.freeC,λp hp=>?_,tracked ⟨oL,hoL,I.free⟩ hs,by simpa using I.len⟩ ⟨_,hs,.inl rfl⟩
  .exact(hs.2 b (Nat.ne_of_lt (Nat.lt_of_lt_of_le (Heap.lt_size e) I.ok.above))).trans (I.base.keep b o e n hb hx)
  .obtain⟨sl,e1⟩:=I.base.slot b o e n hb hx;exact⟨sl,(hs.2 b (Nat.ne_of_lt (Nat.lt_of_lt_of_le (Heap.lt_size e) I.ok.above))).trans e1⟩
  .obtain⟨o',e1⟩:=I.base.there b o e hx;exact⟨o',(hs.2 b (Nat.ne_of_lt (Nat.lt_of_lt_of_le (Heap.lt_size e) I.ok.above))).trans e1⟩
  .by_cases hj:j=i
   .subst hj;rw[hi] at e1;cases e1;rw[List.getElem?_set_self hiσ] at e2;cases e2;exact⟨u,r,.inl ⟨hk,by simp⟩⟩
   .rw[List.getElem?_set_ne (Ne.symm hj)] at e2;obtain⟨u',r',q⟩:=hl j y v' e1 e2 e3;refine⟨u',r',?_⟩;rcases q with⟨k,e⟩|⟨k,c,e,z⟩
    .refine .inl ⟨k,?_⟩;have:y≠x:=λe=>hj (qb hN e1 (e▸hi))
     simp[this,e]
    .exact .inr ⟨k,c,e,z.sameBut hs (cne y c e)⟩
  .obtain⟨w',z⟩:=I.cell y c e;exact⟨w',z.sameBut hs (cne y c e)⟩
  .obtain⟨e,n,ne,nf,d⟩:=I.pin p hp;exact⟨(hs.2 p.1 ne).trans e,n,ne,nf,d⟩
 .have hfn:X.fn x=true:=by
   rcases hf with z|z
   .exact z
   .rw[z] at hk;cases hk
  obtain⟨c,hc⟩:=I.ok.has x (.inl hk);obtain⟨w',z⟩:=I.cell x c hc;refine wpAny_storeName_cell I.ok.kind hk hc z (λh' hc' hs=>?_);obtain⟨oc,hoc,hocd⟩:=id z;refine h {s with heap:=h'} ⟨I.ok,I.os,I.bare,⟨λb o e n hb hx=>?_,λb o e n hb hx=>?_,I.base.free,λb o e hx=>?_,I.base.tups,I.base.frzs,I.base.tbls⟩,⟨m,hn.sameBut hs (Ne.symm (cne x c hc)),λj y v' e1 e2 e3=>?_⟩,λy c' e=>?_,I.free,I.freeC,λp hp=>?_,tracked ⟨oc,hoc,I.freeC x c hc⟩ hs,by simpa using I.len⟩ ⟨c,hs,.inr hc⟩
  .exact(hs.2 b (Nat.ne_of_lt (Nat.lt_of_lt_of_le (Heap.lt_size e) (I.ok.cab x c hfn hc)))).trans (I.base.keep b o e n hb hx)
  .obtain⟨sl,e1⟩:=I.base.slot b o e n hb hx;exact⟨sl,(hs.2 b (Nat.ne_of_lt (Nat.lt_of_lt_of_le (Heap.lt_size e) (I.ok.cab x c hfn hc)))).trans e1⟩
  .obtain⟨o',e1⟩:=I.base.there b o e hx;exact⟨o',(hs.2 b (Nat.ne_of_lt (Nat.lt_of_lt_of_le (Heap.lt_size e) (I.ok.cab x c hfn hc)))).trans e1⟩
  .by_cases hj:j=i
   .subst hj;rw[hi] at e1;cases e1;rw[List.getElem?_set_self hiσ] at e2;cases e2;exact⟨u,r,.inr ⟨.inl hk,c,hc,hc'⟩⟩
   .rw[List.getElem?_set_ne (Ne.symm hj)] at e2;obtain⟨u',r',q⟩:=hl j y v' e1 e2 e3;refine⟨u',r',?_⟩;rcases q with q|⟨k,c',e,z'⟩
    .exact .inl q
    .refine .inr ⟨k,c',e,z'.sameBut hs ?_⟩;rintro rfl;exact hj (qb hN e1 (I.ok.inj _ _ _ e hc▸hi))
  .by_cases hcc:c'=c
   .subst hcc;exact⟨_,hc'⟩
   .obtain⟨w2,z2⟩:=I.cell y c' e;exact⟨w2,z2.sameBut hs hcc⟩
  .obtain⟨e,n,ne,nf,d⟩:=I.pin p hp;refine⟨(hs.2 p.1 ?_).trans e,n,ne,nf,d⟩;intro q;rw[q,hoc] at e;have q':oc=p.2:=Option.some.inj e;exact d w' (by rw[<- q'];exact hocd)
theorem lY{i:Nat}{Q:Unit->Shared->Prop}(I:Inv X pins σ H s)(hN:X.N.Nodup)(hi:X.N[i]? = some x)(hx:Loc X.env.scope x)(r:RelV v u)
  (h:∀s',Inv X pins (σ.set i (some v)) H s'->Q () s')(hf:X.fn x=true\/X.env.scope.names.lookup x=some .local:=by first|exact .inl rfl|exact .inr rfl|assumption):wpAny M A (storeName X.env x u) Q E s :=
 qc I hN hi hx r (λs' I' _=>h s' I') hf
theorem Inv.call'{s':Shared}(I:Inv X pins σ H s)(ho:s'.os=s.os)(u:Un (frs X.stack) ch H H' s.heap s'.heap)(hok:HOk X.prog X.w H' s'.heap)(hg:AllBare s'.gens)
  (hch:∀b∈ch,(b∈X.ex\/X.s₀.heap.objs.size<=b)/\b≠X.env.locals/\(∀x c,X.env.cells.lookup x=some c->c≠b)/\∀p∈X.pn++pins,p.1≠b):Inv X pins σ H' s':=by
 obtain⟨h',g',d',t',o'⟩:=s';have e:o'=s.os:=ho;subst e;exact I.call (g':=g') (t':=t') (d':=d') u hok hg hch
end
abbrev XK:=Value->Option Addr->Hp->Prop
abbrev St:=List (Option V)
variable{σ:St}
abbrev VK:=V->Hp->Prop
abbrev TE:=St->Hp->VK->Prop
variable{ta te tb:TE}
abbrev TT:=St->Hp->(Bool->Hp->Prop)->Prop
abbrev TA:=St->Hp->(List V->Hp->Prop)->Prop
structure Ends where
 nx:St->Hp->Prop
 rt:VK
 bk:St->Hp->Prop:=λ_ _=>False
 ct:St->Hp->Prop:=λ_ _=>False
abbrev TS:=Ends->St->Hp->Prop
def EP(X:Cx)(pins:List (Addr×Obj))(σ:St)(Q:VK)(u:Value)(s':Shared):Prop:=∃v H',Inv X pins σ H' s'/\RelV v u/\Q v H'
def TP(X:Cx)(pins:List (Addr×Obj))(σ:St)(Q:Bool->Hp->Prop)(b:Bool)(s':Shared):Prop:=∃H',Inv X pins σ H' s'/\Q b H'
def AP(X:Cx)(pins:List (Addr×Obj))(σ:St)(Q:List V->Hp->Prop)(us:List Value)(s':Shared):Prop:=∃vs H',Inv X pins σ H' s'/\Vals vs us/\Q vs H'
def SP(X:Cx)(pins:List (Addr×Obj))(D:Ends)(f:Flow)(s':Shared):Prop :=
 match f with
 | .next=>∃ σ' H',Inv X pins σ' H' s'/\D.nx σ' H'
 | .brk=>∃ σ' H',Inv X pins σ' H' s'/\D.bk σ' H'
 | .cont=>∃ σ' H',Inv X pins σ' H' s'/\D.ct σ' H'
 | .ret u=>∃v σ' H',Inv X pins σ' H' s'/\RelV v u/\D.rt v H'
def PE(X:Cx)(e:Expr)(t:TE):Prop :=
 ∀(pins:List (Addr×Obj)) (s:Shared) (σ:St) (H:Hp) (Q:VK),Inv X pins σ H s->t σ H Q->wpAny (model X.prog X.w) X.A (eval e X.env) (EP X pins σ Q) X.xe s
def PT(X:Cx)(e:Expr)(t:TT):Prop :=
 ∀(pins:List (Addr×Obj)) (s:Shared) (σ:St) (H:Hp) (Q:Bool->Hp->Prop),Inv X pins σ H s->t σ H Q->wpAny (model X.prog X.w) X.A (isTrue e X.env (eval e X.env)) (TP X pins σ Q) X.xe s
def PW(X:Cx)(e:Expr)(t:TT):Prop :=
 ∀(whole:Sem Value) (pins:List (Addr×Obj)) (s:Shared) (σ:St) (H:Hp) (Q:Bool->Hp->Prop),Inv X pins σ H s->t σ H Q->wpAny (model X.prog X.w) X.A (isTrue e X.env whole) (TP X pins σ Q) X.xe s
theorem PW.pt{e:Expr}{t:TT}(h:PW X e t):PT X e t:=h _
def PA(X:Cx)(es:List Expr)(t:TA):Prop :=
 ∀(pos:Pos) (pins:List (Addr×Obj)) (s:Shared) (σ:St) (H:Hp) (Q:List V->Hp->Prop),Inv X pins σ H s->t σ H Q->wpAny (model X.prog X.w) X.A (spliced (backTo pos (starEach es X.env))) (AP X pins σ Q) X.xe s
def PS(X:Cx)(st:Stmt)(t:TS):Prop :=
 ∀(pins:List (Addr×Obj)) (s:Shared) (σ:St) (H:Hp) (D:Ends),Inv X pins σ H s->t D σ H->wpAny (model X.prog X.w) X.A (exec st X.env) (SP X pins D) X.xe s
def PSs(X:Cx)(st:List Stmt)(t:TS):Prop :=
 ∀(pins:List (Addr×Obj)) (s:Shared) (σ:St) (H:Hp) (D:Ends),Inv X pins σ H s->t D σ H->wpAny (model X.prog X.w) X.A (execs st X.env) (SP X pins D) X.xe s
theorem thn{α:Type}{t:Sem α}{Q Q':α->Shared->Prop}{s:Shared}(h:wpAny M A t Q E s)(hQ:∀a s,Q a s->Q' a s):wpAny M A t Q' E s:=wpAny_mono h hQ λ_ _ x=>x
section
def aB(i:Nat):TE:=λσ H Q=>∃v,σ[i]? = some (some v)/\Q v H
def tC(v:V):TE:=λ_ H Q=>Q v H
theorem AA{i:Nat}(hN:X.N[i]? = some x)(hv:Vis X.env.scope x)(hd:(x==("__debug__":Str))=false:=by decide)(hcd:(x==("__classdict__":Str))=false:=by decide):PE X (.Name x pos) (aB i):=by
 intro pins s σ H Q I h;obtain⟨v,e,h⟩:=h;obtain⟨m,hn,hl⟩:=I.loc;obtain⟨u,r,l⟩:=hl i x v hN e hv;have fin:EP X pins σ Q u s:=⟨v,H,I,r,h⟩;rcases l with⟨hk,hm⟩|⟨hk,c,hc,hcell⟩
 .exact wpAny_Name (wpAny_loadName_local I.ok.kind hk hn hm fin) hd
 .rcases hk with hk|hk
  .exact wpAny_Name (wpAny_loadName_cell I.ok.kind hk hc hcell fin) hd
  .exact wpAny_Name (wpAny_loadName_free I.ok.kind hk hc hcell fin hcd) hd
theorem qd{i j pos}:PE X (.Constant (.int i) j pos) (tC (.int i)):=λ_ _ _ H _ I h=>wpAny_Constant_int ⟨.int i,H,I.tok _,⟨_,rfl⟩,h⟩
theorem AB{b j pos}:PE X (.Constant (.bool b) j pos) (tC (.bl b)):=λ_ _ _ H _ I h=>Constant_bool ⟨.bl b,H,I,rfl,h⟩
theorem AC{x j pos}:PE X (.Constant (.str x) j pos) (tC (.str x)):=λ_ _ _ H _ I h=>Calls.Constant_str ⟨.str x,H,I.tok _,⟨_,rfl⟩,h⟩
def Gl(X:Cx)(x:Str):Prop:=X.env.kindOf x=some .globalImplicit
theorem fm{s:Shared}(I:Inv X pins σ H s)(hg:Gl X x)(hm:X.mg x=some u)(h:Q u s)
  (hd:(x==("__debug__":Str))=false:=by decide):wpAny (model X.prog X.w) X.A (eval (.Name x pos) X.env) Q E s :=
 Calls.Name_function_global I.ok.kind hg (Calls.loadGlobal_global (by rw[I.ok.glob];exact I.mod.glob.keeps I.bk) hm h) hd
theorem hU{s:Shared}(I:Inv X pins σ H s)(hg:Gl X x)(hm:X.mg x=none)(hv:bootBuiltins x=some u)(h:Q u s)
  (hn:x≠"__name__":=by decide)(hd:(x==("__debug__":Str))=false:=by decide):wpAny (model X.prog X.w) X.A (eval (.Name x pos) X.env) Q E s:=by
 obtain⟨mb,h1,h2⟩:=I.mod.blt;exact Calls.Name_function_global I.ok.kind hg (Calls.loadGlobal_builtin (by rw[I.ok.glob];exact I.mod.glob.keeps I.bk) hm (by rw[I.ok.blt];exact h1.keeps I.bk) ((h2 x hn).trans hv) h) hd
theorem AD(hg:Gl X x)(hm:X.mg x=some u)(r:RelV v u)(hd:(x==("__debug__":Str))=false:=by decide):PE X (.Name x pos) (tC v) :=
 λ_ _ _ H _ I h=>fm I hg hm ⟨v,H,I,r,h⟩ hd
theorem AE(hg:Gl X x)(hm:X.mg x=none)(hv:bootBuiltins x=some u)(r:RelV v u)(hn:x≠"__name__":=by decide)(hd:(x==("__debug__":Str))=false:=by decide):PE X (.Name x pos) (tC v) :=
 λ_ _ _ H _ I h=>hU I hg hm hv ⟨v,H,I,r,h⟩ hn hd
variable{a b:Expr}
def tB(t:TE):TT:=λσ H Q=>t σ H λx H1=>∃c,x= .bl c/\Q c H1
theorem AF{e:Expr}{t:TE}(h:PE X e t)(he:∀whole,isTrue e X.env whole=(do let v<-whole;standAt e.pos;holding [v] (truthy v)):=by intro _;rfl):PT X e (tB t):=by
 intro pins s σ H Q I hw;refine isTrue_plain (thn (h pins s σ H _ I hw) λv s1 ⟨x,H1,I1,r1,q1⟩=>?_) (he _);obtain⟨d,rfl,q⟩:=q1;cases r1;exact wpAny_truthy_bool ⟨H1,I1,q⟩
variable{tA tB':TT}{rest:List Expr}
def lZ(t u:TT):TT:=λσ H Q=>t σ H λc H1=>if c=true then u σ H1 Q else Q false H1
def tOr(t u:TT):TT:=λσ H Q=>t σ H λc H1=>if c=true then Q true H1 else u σ H1 Q
def l5(t:TT):TT:=λσ H Q=>t σ H λc H1=>Q (!c) H1
theorem AG(ha:PT X a tA):PW X (.BoolOp .And [a] pos) tA:=by
 intro wh pins s σ H Q I h;refine isTrue_and (thn (ha pins s σ H Q I h) λc s1 e=>?_);cases c with
 |true=>exact isTrue_and_nil e
 |false=>exact e
theorem AH(ha:PT X a tA):PW X (.BoolOp .Or [a] pos) tA:=by
 intro wh pins s σ H Q I h;refine isTrue_or (thn (ha pins s σ H Q I h) λc s1 e=>?_);cases c with
 |false=>exact isTrue_or_nil e
 |true=>exact e
theorem AI(ha:PT X a tA)(hb:PW X (.BoolOp .And (b::rest) pos) tB'):PW X (.BoolOp .And (a::b::rest) pos) (lZ tA tB'):=by
 intro wh pins s σ H Q I h;refine isTrue_and (thn (ha pins s σ H _ I h) λc s1 ⟨H1,I1,q1⟩=>?_);cases c with
 |true=>exact hb wh pins s1 σ H1 Q I1 q1
 |false=>exact⟨H1,I1,q1⟩
theorem AJ(ha:PT X a tA)(hb:PW X (.BoolOp .Or (b::rest) pos) tB'):PW X (.BoolOp .Or (a::b::rest) pos) (tOr tA tB'):=by
 intro wh pins s σ H Q I h;refine isTrue_or (thn (ha pins s σ H _ I h) λc s1 ⟨H1,I1,q1⟩=>?_);cases c with
 |true=>exact⟨H1,I1,q1⟩
 |false=>exact hb wh pins s1 σ H1 Q I1 q1
theorem AK(ha:PT X a tA):PT X (.UnaryOp .Not a pos) (l5 tA):=by
 intro pins s σ H Q I h;exact isTrue_not (ha pins s σ H (λc H1=>Q (!c) H1) I h)
def l6(ta tb:TE):TE:=λσ H Q=>ta σ H λx H1=>∃c,x= .bl c/\if c=true then tb σ H1 Q else Q (.bl false) H1
def l9(ta:TE):TE:=λσ H Q=>ta σ H λx H1=>∃c,x= .bl c/\Q (.bl (!c)) H1
theorem AL{op}{t:TE}(h:PE X a t):PE X (.BoolOp op [a] pos) t:=λpins s σ H Q I hw=>BoolOp_one (h pins s σ H Q I hw)
theorem AM(ha:PE X a ta)(hb:PE X (.BoolOp .And (b::rest) pos) tb):PE X (.BoolOp .And (a::b::rest) pos) (l6 ta tb):=by
 intro pins s σ H Q I h;refine BoolOp_and (thn (ha pins s σ H _ I h) λv s1 ⟨x,H1,I1,r1,q1⟩=>?_);obtain⟨c,rfl,q1⟩:=q1;cases r1;refine wpAny_truthy_bool ?_;cases c with
 |true=>exact hb pins s1 σ H1 Q I1 q1
 |false=>exact⟨.bl false,H1,I1,rfl,q1⟩
theorem AN(ha:PE X a ta):PE X (.UnaryOp .Not a pos) (l9 ta):=by
 intro pins s σ H Q I h;refine UnaryOp_ (thn (ha pins s σ H _ I h) λv s1 ⟨x,H1,I1,r1,q1⟩=>?_);obtain⟨c,rfl,q1⟩:=q1;cases r1;exact not_of (wpAny_truthy_bool ⟨.bl (!c),H1,I1,rfl,q1⟩)
def tIf(t:TT)(ta tb:TE):TE:=λσ H Q=>t σ H λc H1=>if c=true then ta σ H1 Q else tb σ H1 Q
theorem AO{c:Expr}(hc:PT X c tA)(ha:PE X a ta)(hb:PE X b tb):PE X (.IfExp c a b pos) (tIf tA ta tb):=by
 intro pins s σ H Q I h;refine wpAny_IfExp (thn (hc pins s σ H _ I h) λd s1 ⟨H1,I1,q1⟩=>?_);cases d with
 |true=>exact ha pins s1 σ H1 Q I1 q1
 |false=>exact hb pins s1 σ H1 Q I1 q1
end
def SqL(K:Frag)(H:Hp)(a:Addr)(xs:List V):Prop :=
 Rd H a (.lst xs) \/
  ∃(o:Obj) (its:Array Value) (n:Nat),K.lookup a=some o/\o.cls= .type "list"/\o.dict=none/\o.data= .seq its n/\its.size<=sizeLine/\Vals xs its.toList
def SqT(K:Frag)(H:Hp)(a:Addr)(xs:List V):Prop :=
 Rd H a (.tup xs) \/
  ∃(o:Obj) (its:Array Value) (n:Nat),K.lookup a=some o/\o.cls= .type "tuple"/\o.data= .seq its n/\its.size<=sizeLine/\Vals xs its.toList
def AQ:Value->Option V
 | .none=>some .non
 | .bool b=>some (.bl b)
 | .int i _=>some (.int i)
 | .str x _=>some (.str x)
 | .bytes b _=>some (.byt b)
 | .float b _=>some (.flt b)
 | .ref a=>some (.ref a)
 | .type n=>some (.ty n)
 |_=>none
theorem RelV.abs{x:V}(r:RelV x u):AQ u=some x:=by
 cases x with
 |non=>cases r;rfl
 |bl _=>cases r;rfl
 |int _=>obtain⟨t,rfl⟩:=r;rfl
 |str _=>obtain⟨t,rfl⟩:=r;rfl
 |byt _=>obtain⟨t,rfl⟩:=r;rfl
 |flt _=>obtain⟨t,rfl⟩:=r;rfl
 |ref _=>cases r;rfl
 |ty _=>cases r;rfl
theorem RelV.inj{x:V}(r:RelV x u)(q:RelV y u):x=y:=Option.some.inj (r.abs.symm.trans q.abs)
theorem Vals.inj:∀{xs ys:List V} {us:List Value},Vals xs us->Vals ys us->xs=ys
 |_,_,_,.nil,.nil=>rfl
 |_,_,_,.cons r t,.cons r' t'=>by rw[r.inj r',Vals.inj t t']
section
variable{s:Shared}{xs ys:List V}
theorem SqL.of(h:H a=some (.lst xs)):SqL K H a xs:= .inl (.inl h)
theorem SqT.of(h:H a=some (.tup xs)):SqT K H a xs:= .inl (.inl h)
theorem Inv.list(I:Inv X pins σ H s)(h:SqL X.K H a xs):∃its:List Value,Vals xs its/\PlainL s.heap a its.toArray/\xs.length<=sizeLine:=by
 rcases h with h|⟨o,its,n,hk,hc,hd,hs,hz,r⟩
 .obtain⟨z,its,n,r,e⟩:=h.ok I.hok;exact⟨its,r,⟨_,n,e,rfl,rfl,rfl⟩,z⟩
 .refine⟨its.toList,r,⟨o,n,I.kIn a o hk,hc,hd,by simpa using hs⟩,?_⟩;have e:=r.length;simp only[Array.length_toList] at e;omega
theorem Inv.tuple(I:Inv X pins σ H s)(h:SqT X.K H a xs):∃its:List Value,Vals xs its/\IsTup s.heap a its.toArray/\xs.length<=sizeLine:=by
 rcases h with h|⟨o,its,n,hk,hc,hs,hz,r⟩
 .obtain⟨z,its,r,p⟩:=h.ok I.hok;exact⟨its,r,p,z⟩
 .refine⟨its.toList,r,⟨o,I.kIn a o hk,hc,n,by simpa using hs⟩,?_⟩;have e:=r.length;simp only[Array.length_toList] at e;omega
theorem Inv.list_inj(I:Inv X pins σ H s)(h:SqL X.K H a xs)(h':SqL X.K H a ys):xs=ys:=by
 obtain⟨its,r,⟨o,n,e,_,_,d⟩,_⟩:=I.list h;obtain⟨its',r',⟨o',n',e',_,_,d'⟩,_⟩:=I.list h';rw[e] at e';cases e';rw[d] at d';injection d' with d1 _;have:its=its':=by simpa using congrArg Array.toList d1
 subst this;exact r.inj r'
theorem Inv.tuple_inj(I:Inv X pins σ H s)(h:SqT X.K H a xs)(h':SqT X.K H a ys):xs=ys:=by
 obtain⟨its,r,⟨o,e,_,n,d⟩,_⟩:=I.tuple h;obtain⟨its',r',⟨o',e',_,n',d'⟩,_⟩:=I.tuple h';rw[e] at e';cases e';rw[d] at d';injection d' with d1 _;have:its=its':=by simpa using congrArg Array.toList d1
 subst this;exact r.inj r'
end
abbrev Cx.wish(X:Cx)(E:Value->Shared->Prop):Cx:={X with xe:=E}
abbrev Cx.nox(X:Cx):Cx:=X.wish λ_ _=>False
theorem Cx.Ok.wish(ok:X.Ok)(E:Value->Shared->Prop):(X.wish E).Ok :=
 ⟨ok.mod,ok.kind,ok.glob,ok.blt,ok.above,ok.inj,ok.has,ok.cab,ok.hd,ok.frames,ok.stk,ok.exf,ok.bs,ok.bsz,ok.noex,ok.exfs,ok.funs,ok.frf⟩
theorem Cx.Ok.unwish(ok:(X.wish E).Ok):X.Ok :=
 ⟨ok.mod,ok.kind,ok.glob,ok.blt,ok.above,ok.inj,ok.has,ok.cab,ok.hd,ok.frames,ok.stk,ok.exf,ok.bs,ok.bsz,ok.noex,ok.exfs,ok.funs,ok.frf⟩
section
variable{s:Shared}
theorem Inv.wish(I:Inv X pins σ H s)(E:Value->Shared->Prop):Inv (X.wish E) pins σ H s:=⟨I.ok.wish E,I.os,I.bare,I.base,I.loc,I.cell,I.free,I.freeC,I.pin,I.hok,I.len⟩
theorem Inv.unwish(I:Inv (X.wish E) pins σ H s):Inv X pins σ H s:=⟨I.ok.unwish,I.os,I.bare,I.base,I.loc,I.cell,I.free,I.freeC,I.pin,I.hok,I.len⟩
theorem SP.unwish{D:Ends}{f:Flow}{s':Shared}(h:SP (X.wish E) pins D f s'):SP X pins D f s':=by
 cases f with
 |next=>obtain⟨σ',H',I,q⟩:=h;exact⟨σ',H',I.unwish,q⟩
 |brk=>obtain⟨σ',H',I,q⟩:=h;exact⟨σ',H',I.unwish,q⟩
 |cont=>obtain⟨σ',H',I,q⟩:=h;exact⟨σ',H',I.unwish,q⟩
 |ret u=>obtain⟨v,σ',H',I,r,q⟩:=h;exact⟨v,σ',H',I.unwish,r,q⟩
theorem PSs.nox{st:List Stmt}{t:TS}(h:PSs X.nox st t):PSs X st t:=λpins s σ H D I hw =>
 wpAny_mono (h pins s σ H D (I.wish _) hw) (λ_ _ q=>q.unwish) λ_ _ z=>False.elim z
end
section
variable{st:Stmt}{rest:List Stmt}{t u:TS}{e:Expr}
def l_:TS:=λD σ H=>D.nx σ H
def dk(t u:TS):TS:=λD σ H=>t {D with nx:=u D} σ H
theorem qe:PSs X [] l_:=λ_ _ σ H _ I h=>wpAny_execs_nil ⟨σ,H,I,h⟩
theorem AR(h1:PS X st t)(h2:PSs X rest u):PSs X (st::rest) (dk t u):=by
 intro pins s σ H D I h;refine wpAny_execs_cons (thn (h1 pins s σ H {D with nx:=u D} I h) λf s1 q=>?_);cases f with
 |next =>
  obtain⟨σ',H',I',q⟩:=q;exact h2 pins s1 σ' H' D I' q
 |ret v=>exact q
 |brk=>exact q
 |cont=>exact q
theorem AS(h1:PS X st t):PSs X [st] t:=by
 intro pins s σ H D I h;refine wpAny_execs_cons (thn (h1 pins s σ H D I h) λf s1 q=>?_);cases f with
 |next=>exact wpAny_execs_nil q
 |ret v=>exact q
 |brk=>exact q
 |cont=>exact q
theorem Inv.quiet{s:Shared}(I:Inv X pins σ H s):interactive X.env=false:=by simp[interactive,I.ok.kind]
def ma(te:TE):TS:=λD σ H=>te σ H λ_ H1=>D.nx σ H1
theorem AT(he:PE X e te)(hs:swapsWith e none pos.line X.env=pure false:=by rfl):PS X (.Expr e pos) (ma te):=by
 intro pins s σ H D I h;exact wpAny_Expr_any (thn (he pins s σ H _ I h) λv s1 ⟨x,H1,I1,r1,q1⟩=>⟨σ,H1,I1,q1⟩) I.quiet hs
def fo(te:TE):TS:=λD σ H=>te σ H D.rt
theorem AU(he:PE X e te):PS X (.Return (some e) pos) (fo te):=by
 intro pins s σ H D I h;exact wpAny_Return_some (thn (he pins s σ H _ I h) λv s1 ⟨x,H1,I1,r1,q1⟩=>⟨x,σ,H1,I1,r1,q1⟩)
def js(c:TT)(t u:TS):TS:=λD σ H=>c σ H λb H1=>if b=true then t D σ H1 else u D σ H1
theorem AV{c:Expr}{a b:List Stmt}{tc:TT}(hc:PT X c tc)(ha:PSs X a t)(hb:PSs X b u):PS X (.If c a b pos) (js tc t u):=by
 intro pins s σ H D I h;refine wpAny_If (thn (hc pins s σ H _ I h) λd s1 ⟨H1,I1,q1⟩=>?_);cases d with
 |true=>exact ha pins s1 σ H1 D I1 q1
 |false=>exact hb pins s1 σ H1 D I1 q1
def md:TS:=λ_ _ _=>False
theorem AW:PS X st md:=λ_ _ _ _ _ _ h=>h.elim
end
abbrev TG:=V->St->Hp->(St->Hp->Prop)->Prop
abbrev TGs:=List V->St->Hp->(St->Hp->Prop)->Prop
def PG(X:Cx)(target:Expr)(t:TG):Prop :=
 ∀(pins:List (Addr×Obj)) (s:Shared) (σ:St) (H:Hp) (v:V) (u:Value) (Q:St->Hp->Prop),Inv X pins σ H s->RelV v u->t v σ H Q ->
  wpAny (model X.prog X.w) X.A (assign target X.env u) (λ_ s'=>∃ σ' H',Inv X pins σ' H' s'/\Q σ' H') X.xe s
def PGs(X:Cx)(ts:List Expr)(t:TGs):Prop :=
 ∀(pins:List (Addr×Obj)) (s:Shared) (σ:St) (H:Hp) (vs:List V) (us:List Value) (Q:St->Hp->Prop),Inv X pins σ H s->Vals vs us->t vs σ H Q ->
  wpAny (model X.prog X.w) X.A (assignInOrder ((assignEach ts X.env).map (·.2)) us) (λ_ s'=>∃ σ' H',Inv X pins σ' H' s'/\Q σ' H') X.xe s
abbrev jt:=V->V->V->Hp->(Hp->Prop)->Prop
def me(X:Cx)(t:jt):Prop :=
 ∀(pins:List (Addr×Obj)) (s:Shared) (σ:St) (H:Hp) (o i v:V) (ov iv u:Value) (Q:Hp->Prop),Inv X pins σ H s->RelV o ov->RelV i iv->RelV v u->t o i v H Q ->
  wpAny (model X.prog X.w) X.A (setItem ov iv u) (λ_ s'=>∃H',Inv X pins σ H' s'/\Q H') X.xe s
section
def cx(i:Nat):TG:=λv σ H Q=>Q (σ.set i (some v)) H
theorem AX{i:Nat}(hN:X.N.Nodup)(hi:X.N[i]? = some x)(hx:Loc X.env.scope x)(hf:X.fn x=true\/X.env.scope.names.lookup x=some .local:=by first|exact .inl rfl|exact .inr rfl|assumption):PG X (.Name x pos) (cx i):=by
 intro pins s σ H v u Q I r h;exact wpAny_assign_Name (lY I hN hi hx r (λs' I'=>⟨_,H,I',h⟩) hf)
def mf:TGs:=λvs σ H Q=>vs=[]/\Q σ H
def mh(t:TG)(u:TGs):TGs:=λvs σ H Q=>∃v r,vs=v::r/\t v σ H λσ' H'=>u r σ' H' Q
theorem AY:PGs X [] mf:=by
 intro pins s σ H vs us Q I r h;obtain⟨e,h⟩:=h;subst e;cases r;exact assignInOrder_nil ⟨σ,H,I,h⟩
theorem AZ{e:Expr}{t:TG}{u:TGs}(h1:PG X e t)(h2:PGs X es u)
  (hs:(assignEach (e::es) X.env).map (·.2)=assign e X.env::(assignEach es X.env).map (·.2):=by rfl):PGs X (e::es) (mh t u):=by
 intro pins s σ H vs us Q I r h;obtain⟨v,vr,e1,h⟩:=h;subst e1;cases r with
 |cons r rr =>
  rw[hs];refine assignInOrder_cons (thn (h1 pins s σ H _ _ _ I r h) λ_ s1 ⟨σ1,H1,I1,q1⟩=>?_);exact h2 pins s1 σ1 H1 _ _ Q I1 rr q1
def A0(K:Frag)(n:Nat)(t:TGs):TG:=λv σ H Q=>∃a xs,v= .ref a/\SqT K H a xs/\xs.length=n/\t xs σ H Q
theorem A1{k:Nat}{t:TGs}{n:Nat}(hc:X.calm=true)(h:PGs X es t)
  (hn:(assignEach es X.env).length=n:=by rfl)(hst:(assignEach es X.env).findIdx? (·.1)=none:=by rfl):PG X (.Tuple es k pos) (A0 X.K n t):=by
 intro pins s σ H v u Q I r hw;obtain⟨a,xs,e1,hq,hl,hw⟩:=hw;subst e1;cases r;obtain⟨its,rv,ht,hz⟩:=I.tuple hq;refine assign_Tuple_tuple (I.ok.hd hc) ht (by simp[hn,<- hl,rv.length]) hst λh' hx=>?_
 have I1:Inv X pins σ H {s with heap:=h'}:=I.kept (t':=s.toks) λb o e=>hx b o (Nat.ne_of_lt (Heap.lt_size e)) e
 exact h pins _ σ H xs _ Q I1 (by simpa using rv) hw
def eJ(to ti:TE)(t:jt):TG:=λv σ H Q=>to σ H λo H1=>ti σ H1 λi H2=>t o i v H2 λH3=>Q σ H3
theorem A5{o i:Expr}{to ti:TE}{t:jt}(ho:PE X o to)(hi:PE X i ti)(hs:me X t)
  (ha:∀v,assign (.Subscript o i pos) X.env v=(do
   let ov<-holding [v] (eval o X.env)
   let iv<-holding [v,ov] (eval i X.env)
   standAt pos
   holding [v,ov,iv] (setItem ov iv v)
   release [v,ov,iv] []):=by intro _;rfl):PG X (.Subscript o i pos) (eJ to ti t):=by
 intro pins s σ H v u Q I r h;rw[ha];refine wpAny_bind (wpAny_holding (thn (ho pins s σ H _ I h) λov s1 ⟨x,H1,I1,r1,q1⟩=>?_));refine wpAny_bind (wpAny_holding (thn (hi pins s1 σ H1 _ I1 q1) λiv s2 ⟨y,H2,I2,r2,q2⟩=>?_));refine wpAny_bind (wpAny_standAt (wpAny_bind (wpAny_holding (thn (hs pins s2 σ H2 x y v ov iv u _ I2 r1 r2 r q2) λ_ s3 ⟨H3,I3,q3⟩=>?_))));exact wpAny_release ⟨σ,H3,I3,q3⟩
def bo(te:TE)(g:TG):TS:=λD σ H=>te σ H λx H1=>g x σ H1 D.nx
theorem A6{e:Expr}{g:TG}(he:PE X e te)(hg:PG X tg g)(hs:swapsWithSole [tg] e pos.line X.env=pure false:=by rfl)(hw:swappedStores [tg] e X.env=pure none:=by rfl)
  (h1:(assignEach [tg] X.env).map (·.2)=[assign tg X.env]:=by rfl):PS X (.Assign [tg] e pos) (bo te g):=by
 intro pins s σ H D I h;refine wpAny_Assign_stores (thn (he pins s σ H _ I h) λv s1 ⟨x,H1,I1,r1,q1⟩=>?_) hs hw;rw[h1];exact thn (hg pins s1 σ H1 x v _ I1 r1 q1) λ_ s2 q=>q
theorem A7{i:Nat}{e:Expr}{pos':Pos}(hN:X.N.Nodup)(hi:X.N[i]? = some x)(hx:Loc X.env.scope x)(he:PE X e te)(hs:swapsWith e (some (.Name x pos')) pos.line X.env=pure false:=by rfl)(hf:X.fn x=true\/X.env.scope.names.lookup x=some .local:=by first|exact .inl rfl|exact .inr rfl|assumption) :
  PS X (.Assign [.Name x pos'] e pos) (bo te (cx i)):=by
 intro pins s σ H D I h;refine wpAny_Assign_Name (thn (he pins s σ H _ I h) λv s1 ⟨y,H1,I1,r1,q1⟩=>?_) hs;exact lY I1 hN hi hx r1 (λs2 I2=>⟨_,H1,I2,q1⟩) hf
end
section
end
structure It where
 go:Nat->Hp->Prop
 yld:Nat->Hp->V->Hp->Prop
 stop:Nat->Hp->Prop
def dm(X:Cx)(pins:List (Addr×Obj))(H:Hp)(b:Addr):Prop :=
 H b=none/\b≠X.env.locals/\b∉X.fs/\(b∈X.ex\/X.s₀.heap.objs.size<=b)/\(∀x c,X.env.cells.lookup x=some c->c≠b)/\∀p∈X.pn++pins,p.1≠b
theorem Inv.fpOk{s:Shared}{b:Addr}(I:Inv X pins σ H s)(hb:s.heap.objs.size<=b)(hn:H' b=none):dm X pins H' b:=by
 refine⟨hn,Nat.ne_of_gt (Nat.lt_of_lt_of_le I.lt hb),I.nofs hb,.inr (Nat.le_trans I.sz hb),λx c e z=>?_,λp hp z=>?_⟩
 .obtain⟨v,q⟩:=I.cell x c e;exact absurd (Nat.lt_of_lt_of_le q.lt (by rw[z];exact hb)) (Nat.lt_irrefl _)
 .exact absurd (Nat.lt_of_lt_of_le (Heap.lt_size (I.pin p hp).1) (by rw[z];exact hb)) (Nat.lt_irrefl _)
structure Turn(P:Program)(w:World)(K:Frag)(tg:Expr)(J:It)(fp:List Addr)(it:Addr)(tn:Nat->Heap->Prop):Prop where
 mem:it∈fp
 obj:∀i h,tn i h->∀b∈fp,∃o,h.get? b=some o/\∀v,o.data≠ .cell v
 keep:∀i h h',tn i h->(∀b∈fp,∀o,h.get? b=some o->h'.get? b=some o)->tn i h'
 item:∀(X:Cx),X.prog=P->X.w=w->X.K=K->X.calm=true->∀(i:Nat) (pins:List (Addr×Obj)) (s:Shared) (σ:St) (H:Hp) (E:Value->Shared->Prop),Inv X pins σ H s->(∀b∈fp,dm X pins H b)->tn i s.heap->J.go i H ->
  wpAny (model P w) X.A (pyNext (.ref it)) (λr s1=>∃u,r=some u /\
   wpAny (model P w) X.A (letOwnedTupleGo tg (.ref it) u) (λ_ s2=>∃x H',Inv X pins σ H' s2/\RelV x u/\J.yld i H x H'/\tn (i+1) s2.heap/\∀b∈fp,H' b=none) E s1) E s
 done:∀(X:Cx),X.prog=P->X.w=w->X.K=K->X.calm=true->∀(i:Nat) (pins:List (Addr×Obj)) (s:Shared) (σ:St) (H:Hp) (E:Value->Shared->Prop),Inv X pins σ H s->(∀b∈fp,dm X pins H b)->tn i s.heap->J.stop i H ->
  wpAny (model P w) X.A (pyNext (.ref it)) (λr s1=>r=none/\Inv X pins σ H s1) E s
 self:∀(A:Around) (i:Nat) (s:Shared) (Q:Value->Shared->Prop) (E:Value->Shared->Prop),tn i s.heap->Q (.ref it) s->wpAny (model P w) A (pyIter (.ref it)) Q E s
abbrev TI:=St->Hp->(It->Hp->Prop)->Prop
def PIE(X:Cx)(pins:List (Addr×Obj))(σ:St)(tg:Expr)(R:It->Hp->Prop)(itv:Value)(s2:Shared):Prop :=
 ∃(it:Addr) (fp:List Addr) (tn:Nat->Heap->Prop) (J:It) (H':Hp),itv= .ref it/\Inv X pins σ H' s2/\Turn X.prog X.w X.K tg J fp it tn/\tn 0 s2.heap/\(∀b∈fp,dm X pins H' b)/\R J H'
def PI(X:Cx)(tg iter:Expr)(wi:TI):Prop :=
 ∀(pins:List (Addr×Obj)) (s:Shared) (σ:St) (H:Hp) (R:It->Hp->Prop),Inv X pins σ H s->wi σ H R ->
  wpAny (model X.prog X.w) X.A (eval iter X.env) (λv s1=>wpAny (model X.prog X.w) X.A (pyIter v) (PIE X pins σ tg R) X.xe s1) X.xe s
theorem ju{s:Shared}{it:Addr}{o:Obj}{n:String}{vs:Array Value}{Q:Unit->Shared->Prop}(ho:s.heap.get? it=some o)(hc:o.cls= .type n)(hd:o.data= .fields vs)
  (hn:["enumerate","zip","dict_itemiterator","dict_reverseitemiterator","odict_iterator","itertools.zip_longest","itertools.pairwise"].contains n=false)(hQ:Q () s):wpAny M A (letOwnedTupleGo tg (.ref it) u) Q E s:=by
 unfold letOwnedTupleGo;cases tg<;>first
  |exact wpAny_pure hQ
  | (cases u<;>first
    |exact wpAny_pure hQ
    | (refine wpAny_bind (wpAny_load ho ?_)
       rw[hc,hd];show wpAny M A (if (["enumerate","zip","dict_itemiterator","dict_reverseitemiterator","odict_iterator","itertools.zip_longest","itertools.pairwise"].contains n&&vs[0]? == some (rawInt _))=true then _ else _) Q E s;rw[if_neg (by intro h;rw[hn,Bool.false_and] at h;cases h)];exact wpAny_pure hQ))
def Itl(K:Frag)(a:Addr):It :=
 ⟨λi H=>∃xs x,SqL K H a xs/\xs[i]? = some x,λi H x H'=>H'=H/\∀xs,SqL K H a xs->xs[i]? = some x,λi H=>∃xs,SqL K H a xs/\xs.length<=i⟩
def Itt(K:Frag)(a:Addr):It :=
 ⟨λi H=>∃xs x,SqT K H a xs/\xs[i]? = some x,λi H x H'=>H'=H/\∀xs,SqT K H a xs->xs[i]? = some x,λi H=>∃xs,SqT K H a xs/\xs.length<=i⟩
def Itr(lo:Int)(n:Nat):It:=⟨λi _=>i < n,λi H x H'=>H'=H/\x= .int (lo+i),λi _=>n<=i⟩
theorem A8(a it:Addr):Turn P w K tg (Itl K a) [it] it (λi h=>h.IsListIter it a i) where
 mem:=by simp
 obj:=λi h st b hb=>by
  have e:b=it:=by simpa using hb
  subst e;obtain⟨o,e,c,d⟩:=st;exact⟨o,e,λv z=>by rw[d] at z;cases z⟩
 keep:=λi h h' st k=>st.at λo e=>k it (by simp) o e
 item:=by
  intro X hP hw hK hc i pins s σ H E I hf st hg;subst hP hw hK;obtain⟨xs,x,hq,hx⟩:=hg;obtain⟨its,rv,p,hz⟩:=I.list hq;obtain⟨u,hu,ru⟩:=rv.get hx;obtain⟨f0,f1,f2,f3,f4,f5⟩:=hf it (by simp);refine wpAny_pyNext_list_item st p.isList (x:=u) (by simpa using hu) λh' st' sb=>?_
  have I1:Inv X pins σ H {s with heap:=h'}:=I.turned (t':=s.toks) (λb o hb e=>(sb.2 b hb).trans e) f0 f1 f3 f4 f5;obtain⟨o,e,c,d⟩:=id st';exact⟨u,rfl,ju (s:={s with heap:=h'}) e c d (by decide) ⟨x,H,I1,ru,⟨rfl,λys hy=>by rw[I.list_inj hy hq];exact hx⟩,st',λb hb=>(hf b hb).1⟩⟩
 done:=by
  intro X hP hw hK hc i pins s σ H E I hf st hg;subst hP hw hK;obtain⟨xs,hq,hx⟩:=hg;obtain⟨its,rv,p,hz⟩:=I.list hq;obtain⟨f0,f1,f2,f3,f4,f5⟩:=hf it (by simp);have hl:=rv.length;exact wpAny_pyNext_list_end (I.ok.hd hc) st p.isList (by simp;omega) λh' eb=>⟨rfl,I.turned (t':=s.toks) (λb o hb e=>eb b o hb e) f0 f1 f3 f4 f5⟩
 self:=λ_ _ _ _ _ st h=>wpAny_pyIter_listiter st h
theorem A9(a it:Addr):Turn P w K tg (Itt K a) [it] it (λi h=>h.IsTupleIter it a i) where
 mem:=by simp
 obj:=λi h st b hb=>by
  have e:b=it:=by simpa using hb
  subst e;obtain⟨o,e,c,d⟩:=st;exact⟨o,e,λv z=>by rw[d] at z;cases z⟩
 keep:=λi h h' st k=>st.at λo e=>k it (by simp) o e
 item:=by
  intro X hP hw hK hc i pins s σ H E I hf st hg;subst hP hw hK;obtain⟨xs,x,hq,hx⟩:=hg;obtain⟨its,rv,p,hz⟩:=I.tuple hq;obtain⟨u,hu,ru⟩:=rv.get hx;obtain⟨f0,f1,f2,f3,f4,f5⟩:=hf it (by simp);refine wpAny_pyNext_tuple_item st (show s.heap.IsTuple a its.toArray from p) (x:=u) (by simpa using hu) λh' st' sb=>?_
  have I1:Inv X pins σ H {s with heap:=h'}:=I.turned (t':=s.toks) (λb o hb e=>(sb.2 b hb).trans e) f0 f1 f3 f4 f5;obtain⟨o,e,c,d⟩:=id st';exact⟨u,rfl,ju (s:={s with heap:=h'}) e c d (by decide) ⟨x,H,I1,ru,⟨rfl,λys hy=>by rw[I.tuple_inj hy hq];exact hx⟩,st',λb hb=>(hf b hb).1⟩⟩
 done:=by
  intro X hP hw hK hc i pins s σ H E I hf st hg;subst hP hw hK;obtain⟨xs,hq,hx⟩:=hg;obtain⟨its,rv,p,hz⟩:=I.tuple hq;obtain⟨f0,f1,f2,f3,f4,f5⟩:=hf it (by simp);have hl:=rv.length;exact wpAny_pyNext_tuple_end (I.ok.hd hc) st (show s.heap.IsTuple a its.toArray from p) (by simp;omega) λh' eb=>⟨rfl,I.turned (t':=s.toks) (λb o hb e=>eb b o hb e) f0 f1 f3 f4 f5⟩
 self:=λ_ _ _ _ _ st h=>wpAny_pyIter_tupleiter st h
theorem A_(it:Addr)(lo:Int)(n:Nat):Turn P w K tg (Itr lo n) [it] it (λi h=>IsRangeIter h it (lo+(i:Nat)*1) ((n:Int) - (i:Nat)) 1) where
 mem:=by simp
 obj:=λi h st b hb=>by
  have e:b=it:=by simpa using hb
  subst e;exact⟨_,st,λv z=>by
   have z':Data.fields _=Data.cell v:=z;cases z'⟩
 keep:=λi h h' st k=>k it (by simp) _ st
 item:=by
  intro X hP hw hK hc i pins s σ H E I hf st hg;subst hP hw hK;obtain⟨f0,f1,f2,f3,f4,f5⟩:=hf it (by simp);have W:=Walks.range (prog:=X.prog) (w:=X.w) (I.ok.hd hc) it lo 1 n;refine W.item i s _ _ hg st λv h' tk hv st' kk=>?_
  obtain⟨t,rfl⟩:=hv;have I1:Inv X pins σ H {s with heap:=h',toks:=tk}:=I.turned (λb o hb e=>kk b o (by simpa using hb) e) f0 f1 f3 f4 f5;refine⟨_,rfl,ju (s:={s with heap:=h',toks:=tk}) (n:="range_iterator") st' rfl rfl (by decide) ⟨.int (lo+i),H,I1,⟨t,?_⟩,⟨rfl,rfl⟩,st',λb hb=>(hf b hb).1⟩⟩;rw[Int.mul_one]
 done:=by
  intro X hP hw hK hc i pins s σ H E I hf st hg;subst hP hw hK;obtain⟨f0,f1,f2,f3,f4,f5⟩:=hf it (by simp);exact wpAny_pyNext_range_end (I.ok.hd hc) st (by have:n<=i:=hg;omega) λh' eb=>⟨rfl,I.turned (t':=s.toks) (λb o hb e=>eb b o hb e) f0 f1 f3 f4 f5⟩
 self:=λ_ _ _ _ _ st h=>wpAny_pyIter_rangeiter st h
section
theorem Ba{s:Shared}{R:It->Hp->Prop}{lo hi:Int}{t u v:Tok}{tk:Nat}(I:Inv X pins σ H s)(h1: -(2^62)<=lo)(h2:lo < 2^62)(h3: -(2^62)<=hi)(h4:hi < 2^62)
  (q:R (Itr lo (hi - lo).toNat) H):wpAny (model X.prog X.w) X.A (pyIter (.ref s.heap.objs.size)) (PIE X pins σ tg R) E {s with heap:=s.heap.push {cls:= .type "range",data:= .fields #[.int lo t,.int hi u,.int 1 v]},toks:=tk}:=by
 refine wpAny_pyIter_range (IsRange.new ..) (small_one h1 h2 h3 h4) ?_;have I1:Inv X pins σ H {s with heap:=s.heap.push {cls:= .type "range",data:= .fields #[.int lo t,.int hi u,.int 1 v]},toks:=tk}:=I.kept λb o e=>Heap.get?_push_of_some _ e
 refine⟨(s.heap.push {cls:= .type "range",data:= .fields #[.int lo t,.int hi u,.int 1 v]}).objs.size,[(s.heap.push {cls:= .type "range",data:= .fields #[.int lo t,.int hi u,.int 1 v]}).objs.size],_,_,H,rfl,
  I1.kept (t':=tk) λb o e=>Heap.get?_push_of_some _ e,A_ _ lo (hi - lo).toNat,?_,λb hb=>?_,q⟩
 .have e1:lo+((0:Nat):Int)*1=lo:=by simp
  have e2:(((hi - lo).toNat:Nat):Int) - ((0:Nat):Int)=Builtin.Range.rangeSize lo hi 1:=by rw[rangeSize_one];split<;>omega
  show IsRangeIter _ _ (lo+((0:Nat):Int)*1) ((((hi - lo).toNat:Nat):Int) - ((0:Nat):Int)) 1;rw[e1,e2];exact Heap.get?_push_size _ rfl
 .have e:b=(s.heap.push {cls:= .type "range",data:= .fields #[.int lo t,.int hi u,.int 1 v]}).objs.size:=by simpa using hb
  subst e;exact I1.fpOk (Nat.le_refl _) (I1.hok.fresh (Nat.le_refl _))
def mi(ta:TA):TI:=λσ H R=>ta σ H λvs H1=>∃j:Int,vs=[.int j]/\ -(2^62)<=j/\j < 2^62/\R (Itr 0 j.toNat) H1
theorem Bb{a:Expr}{ta:TA}{p:Pos}(hg:Gl X "range")(hm:X.mg "range"=none)(ha:PA X [a] ta)(hs:starEach [a] X.env=[(false,eval a X.env)]:=by rfl):PI X tg (.Call (.Name "range" p) [a] [] pos) (mi ta):=by
 intro pins s σ H R I h;refine Call_ (hU I hg hm boot_range (PyProof.Rows.callWith_type1 (thn (ha pos pins s σ H _ I h) λus s1 ⟨vs,H1,I1,r1,q1⟩=>?_) hs rfl));obtain⟨j,e,q1,q2,q⟩:=q1;subst e;cases r1 with
 |cons r rr =>
  cases rr;obtain⟨t,rfl⟩:=r;exact call_range_1 (Ba I1 (by omega) (by omega) q1 q2 (by simpa using q))
def mj(wi:TI)(g:TG)(tb:TS):TS:=λD σ H=>wi σ H λJ H1=>∃W:Nat->Nat->St->Hp->Prop,(∃m,W 0 m σ H1)/\∀i m σ H,W i m σ H ->
 (J.stop i H/\D.nx σ H)\/(J.go i H/\∃N:St->Hp->Prop,(∀ σ' H',N σ' H'->∃m',m' < m/\W (i+1) m' σ' H')/\∀x H',J.yld i H x H'->g x σ H' λσ2 H2=>tb {D with nx:=N,ct:=N,bk:=D.nx} σ2 H2)
def dY(fp:List Addr)(h:Heap):List (Addr×Obj):=fp.filterMap λb=>(h.get? b).map λo=>(b,o)
theorem jv{b:Addr}{o:Obj}(hb:b∈fp)(e:h.get? b=some o):(b,o)∈dY fp h:=List.mem_filterMap.mpr ⟨b,hb,by rw[e];rfl⟩
theorem qf{p:Addr×Obj}(hp:p∈dY fp h):p.1∈fp/\h.get? p.1=some p.2:=by
 obtain⟨b,hb,e⟩:=List.mem_filterMap.mp hp;cases q:h.get? b with
 |none=>rw[q] at e;cases e
 |some o =>
  rw[q] at e;have e':(b,o)=p:=Option.some.inj e;subst e';exact⟨hb,q⟩
theorem Inv.pinned{s:Shared}(I:Inv X pins σ H s)(hf:∀b∈fp,dm X pins H b)(ho:∀b∈fp,∃o,s.heap.get? b=some o/\∀v,o.data≠ .cell v):Inv X (pins++dY fp s.heap) σ H s :=
 I.pins_of λp hp=>(List.mem_append.mp hp).elim (λz=>I.pin p (List.mem_append_right _ z)) λz=>by
  obtain⟨hb,e⟩:=qf z;obtain⟨f0,f1,f2,_⟩:=hf p.1 hb;obtain⟨o,e',d⟩:=ho p.1 hb;rw[e] at e';cases e';exact⟨e,f0,f1,f2,d⟩
theorem Inv.unpinned{pl:List (Addr×Obj)}{s:Shared}(I:Inv X (pins++pl) σ H s):Inv X pins σ H s:=I.pins_of λp hp=>I.pin p (List.mem_append_right _ (List.mem_append_left _ hp))
theorem Bc{iter:Expr}{body:List Stmt}{wi:TI}{g:TG}{tb:TS}(hp:PassesOwn (model X.prog X.w) X.A X.env X.xe)(hc:X.calm=true)(hi:PI X tg iter wi)(hg:PG X tg g)(hb:PSs X body tb)
  (hs:∀x,foldedSetIterable iter X.env x=pure x:=by intro _;rfl):PS X (.For tg iter body [] pos) (mj wi g tb):=by
 intro pins s σ H D I h;refine wpAny_For (thn (hi pins s σ H _ I h) λv s1 h1=>thn h1 λitv s2 h2=>?_) hs;obtain⟨it,fp,tn,J,H2,e,I2,T,st2,f2,W,⟨m0,w0⟩,turn⟩:=h2;subst e;have stat:∀{H':Hp},(∀b∈fp,H' b=none)->∀b∈fp,dm X pins H' b:=λhn b hb=>⟨hn b hb,(f2 b hb).2⟩
 refine codeAny_forLoop_any (λn s'=>∃i σ' H',Inv X pins σ' H' s'/\tn i s'.heap/\(∀b∈fp,H' b=none)/\W i n σ' H') ?_ m0 ⟨0,σ,H2,I2,st2,λb hb=>(f2 b hb).1,w0⟩;rintro n s3 ⟨i,σ3,H3,I3,st3,fr3,w3⟩;rcases turn i n σ3 H3 w3 with⟨stop,qn⟩|⟨go,N,hN,step⟩
 .refine wpAny_passesOwn hp (thn (T.done X rfl rfl rfl hc i pins s3 σ3 H3 X.xe I3 (stat fr3) st3 stop) λr s4 ⟨hr,I4⟩=>?_);subst hr;exact wpAny_execs_nil ⟨σ3,H3,I4,qn⟩
 .refine wpAny_passesOwn hp (thn (T.item X rfl rfl rfl hc i pins s3 σ3 H3 X.xe I3 (stat fr3) st3 go) λr s4 ⟨u,hr,h4⟩=>?_);subst hr;refine wpAny_passesOwn hp (thn h4 λ_ s5 ⟨x,H5,I5,r5,y5,st5,fr5⟩=>?_);have I5':=I5.pinned (stat fr5) (T.obj _ _ st5);refine wpAny_passesOwn hp (thn (hg _ s5 σ3 H5 x u _ I5' r5 (step x H5 y5)) λ_ s6 ⟨σ6,H6,I6,q6⟩=>?_);refine wpAny_passesOwn hp (thn (hb _ s6 σ6 H6 _ I6 q6) λf s7 q7=>?_);have again:∀{σ7:St} {H7:Hp},Inv X (pins++dY fp s5.heap) σ7 H7 s7->N σ7 H7->∃m,m < n/\∃i σ' H',Inv X pins σ' H' s7/\tn i s7.heap/\(∀b∈fp,H' b=none)/\W i m σ' H':=λ{σ7 H7} I7 n7=>by
   obtain⟨m',hm,w7⟩:=hN σ7 H7 n7;refine⟨m',hm,i+1,σ7,H7,I7.unpinned,T.keep _ _ _ st5 λb hb o e=>(I7.pin (b,o) (List.mem_append_right _ (List.mem_append_right _ (jv hb e)))).1,λb hb=>?_,w7⟩;obtain⟨o,e,d⟩:=T.obj _ _ st5 b hb;exact(I7.pin (b,o) (List.mem_append_right _ (List.mem_append_right _ (jv hb e)))).2.1
  cases f with
  |next=>obtain⟨σ7,H7,I7,n7⟩:=q7;exact again I7 n7
  |cont=>obtain⟨σ7,H7,I7,n7⟩:=q7;exact again I7 n7
  |brk=>obtain⟨σ7,H7,I7,q7⟩:=q7;exact⟨σ7,H7,I7.unpinned,q7⟩
  |ret v=>obtain⟨x7,σ7,H7,I7,r7,q7⟩:=q7;exact⟨x7,σ7,H7,I7.unpinned,r7,q7⟩
end
abbrev R2:=V->V->Hp->VK->Prop
variable{r r':R2}
def OpR(X:Cx)(f:Value->Value->Sem Value)(r:R2):Prop :=
 ∀(pins:List (Addr×Obj)) (s:Shared) (σ:St) (H:Hp) (x y:V) (v u:Value) (Q:VK),Inv X pins σ H s->RelV x v->RelV y u->r x y H Q ->
  wpAny (model X.prog X.w) X.A (f v u) (EP X pins σ Q) X.xe s
def UnR(X:Cx)(f:Value->Sem Value)(r:V->Hp->VK->Prop):Prop :=
 ∀(pins:List (Addr×Obj)) (s:Shared) (σ:St) (H:Hp) (x:V) (v:Value) (Q:VK),Inv X pins σ H s->RelV x v->r x H Q ->
  wpAny (model X.prog X.w) X.A (f v) (EP X pins σ Q) X.xe s
def zW(X:Cx)(f:Value)(r:List V->Hp->VK->Prop):Prop :=
 ∀(pins:List (Addr×Obj)) (s:Shared) (σ:St) (H:Hp) (xs:List V) (us:List Value) (Q:VK),Inv X pins σ H s->Vals xs us->r xs H Q ->
  wpAny (model X.prog X.w) X.A (call f us) (EP X pins σ Q) X.xe s
def tOp(r:R2)(ta tb:TE):TE:=λσ H Q=>ta σ H λx H1=>tb σ H1 λy H2=>r x y H2 Q
def tUn(r:V->Hp->VK->Prop)(ta:TE):TE:=λσ H Q=>ta σ H λx H1=>r x H1 Q
def rI(C:Int->Int->Prop)(g:Int->Int->V):R2:=λx y H Q=>∃i j,x= .int i/\y= .int j/\C i j/\Q (g i j) H
def rI0(g:Int->Int->V):R2:=λx y H Q=>∃i j,x= .int i/\y= .int j/\Q (g i j) H
def rU(g:Int->V):V->Hp->VK->Prop:=λx H Q=>∃i,x= .int i/\Q (g i) H
section
variable{a b c:Expr}{tc:TE}
theorem ml(ha:PE X a ta)(hb:PE X b tb){s:Shared}{R:V->V->Hp->Prop}(I:Inv X pins σ H s)
  (h:ta σ H λx H1=>tb σ H1 λy H2=>R x y H2){f:Value->Value->Sem Value}
  (hf:∀v u s2 x y H2,Inv X pins σ H2 s2->RelV x v->RelV y u->R x y H2->wpAny (model X.prog X.w) X.A (f v u) Q X.xe s2) :
  wpAny (model X.prog X.w) X.A (eval a X.env) (λv s₁=>wpAny (model X.prog X.w) X.A (eval b X.env) (λu s₂=>wpAny (model X.prog X.w) X.A (f v u) Q X.xe s₂) X.xe s₁) X.xe s:=by
 refine thn (ha pins s σ H _ I h) λv s1 ⟨x,H1,I1,r1,q1⟩=>?_
 refine thn (hb pins s1 σ H1 _ I1 q1) λu s2 ⟨y,H2,I2,r2,q2⟩=>?_
 exact hf v u s2 x y H2 I2 r1 r2 q2
theorem Bd{op:Operator}(ho:OpR X (binaryOp op) r)(ha:PE X a ta)(hb:PE X b tb):PE X (.BinOp a op b pos) (tOp r ta tb):=by
 intro pins s σ H Q I h;exact wpAny_BinOp (ml ha hb I h λv u s2 x y H2 I2 rx ry q=>ho pins s2 σ H2 x y v u Q I2 rx ry q)
theorem Be{op:UnaryOp}{r:V->Hp->VK->Prop}(ho:UnR X (unaryOp op) r)(ha:PE X a ta):PE X (.UnaryOp op a pos) (tUn r ta):=by
 intro pins s σ H Q I h;exact UnaryOp_ (thn (ha pins s σ H _ I h) λv s1 ⟨x,H1,I1,r1,q1⟩=>ho pins s1 σ H1 x v Q I1 r1 q1)
theorem opI{f:Value->Value->Sem Value}{C:Int->Int->Prop}{g:Int->Int->Int}
  (rule:∀(i j:Int) (t u:Tok) (s:Shared) (Q:Value->Shared->Prop) (E:Value->Shared->Prop),C i j->Q (.int (g i j) s.toks) {s with toks:=s.toks+1}->wpAny (model X.prog X.w) X.A (f (.int i t) (.int j u)) Q E s) :
  OpR X f (rI C λi j=> .int (g i j)):=by
 intro pins s σ H x y v u Q I rx ry h;obtain⟨i,j,rfl,rfl,hc,q⟩:=h;obtain⟨t,rfl⟩:=rx;obtain⟨t',rfl⟩:=ry;exact rule i j t t' s _ _ hc ⟨.int (g i j),H,I.tok _,⟨_,rfl⟩,q⟩
theorem qg{f:Value->Value->Sem Value}{g:Int->Int->Int}
  (rule:∀(i j:Int) (t u:Tok) (s:Shared) (Q:Value->Shared->Prop) (E:Value->Shared->Prop),Q (.int (g i j) s.toks) {s with toks:=s.toks+1}->wpAny (model X.prog X.w) X.A (f (.int i t) (.int j u)) Q E s) :
  OpR X f (rI0 λi j=> .int (g i j)):=by
 intro pins s σ H x y v u Q I rx ry h;obtain⟨i,j,rfl,rfl,q⟩:=h;obtain⟨t,rfl⟩:=rx;obtain⟨t',rfl⟩:=ry;exact rule i j t t' s _ _ ⟨.int (g i j),H,I.tok _,⟨_,rfl⟩,q⟩
theorem jw{f:Value->Value->Sem Value}{g:Int->Int->Bool}
  (rule:∀(i j:Int) (t u:Tok) (s:Shared) (Q:Value->Shared->Prop) (E:Value->Shared->Prop),Q (.bool (g i j)) s->wpAny (model X.prog X.w) X.A (f (.int i t) (.int j u)) Q E s) :
  OpR X f (rI0 λi j=> .bl (g i j)):=by
 intro pins s σ H x y v u Q I rx ry h;obtain⟨i,j,rfl,rfl,q⟩:=h;obtain⟨t,rfl⟩:=rx;obtain⟨t',rfl⟩:=ry;exact rule i j t t' s _ _ ⟨.bl (g i j),H,I,rfl,q⟩
def jx(i j:Int):Prop:=0<=j/\j<=1000000/\i.natAbs < 2^64
def dq(i j:Int):Prop:=(-(2^64) < i/\i < 2^64)\/(-(2^64) < j/\j < 2^64)
theorem dq.ok{i j:Int}(h:dq i j):IntMulOk i j:=by
 rcases h with⟨h1,h2⟩|⟨h1,h2⟩
 .exact .of_left (intBits_le_64 h1 h2)
 .exact .of_right (intBits_le_64 h1 h2)
theorem jy:OpR X (binaryOp .Add) (rI0 λi j=> .int (i+j)):=qg λ_ _ _ _ _ _ _ q=>add_int q
theorem hV:OpR X (binaryOp .Sub) (rI0 λi j=> .int (i - j)):=qg λ_ _ _ _ _ _ _ q=>sub_int q
theorem qh:OpR X (binaryOp .Mult) (rI dq λi j=> .int (i*j)):=opI λ_ _ _ _ _ _ _ hc q=>mul_int q hc.ok
theorem gf:OpR X (binaryOp .Mod) (rI (λ_ j=>0 < j) λi j=> .int (i % j)):=opI λi j _ _ _ _ _ hc q=>by
 have h1:(0:Int) < j:=hc;exact mod_int' (by omega) (by rw[Int.fmod_eq_emod_of_nonneg i (by omega)];exact q)
theorem qi:OpR X (binaryOp .Pow) (rI jx λi j=> .int (i^j.toNat)):=opI λ_ _ _ _ _ _ _ hc q=>pow_int_small hc.1 hc.2.1 hc.2.2 q
theorem unI{f:Value->Sem Value}{g:Int->Int}
  (rule:∀(i:Int) (t:Tok) (s:Shared) (Q:Value->Shared->Prop) (E:Value->Shared->Prop),Q (.int (g i) s.toks) {s with toks:=s.toks+1}->wpAny (model X.prog X.w) X.A (f (.int i t)) Q E s) :
  UnR X f (rU λi=> .int (g i)):=by
 intro pins s σ H x v Q I rx h;obtain⟨i,rfl,q⟩:=h;obtain⟨t,rfl⟩:=rx;exact rule i t s _ _ ⟨.int (g i),H,I.tok _,⟨_,rfl⟩,q⟩
theorem cT:UnR X (unaryOp .USub) (rU λi=> .int (-i)):=unI λ_ _ _ _ _ q=>neg_int q
end
def qj:V->V->Bool
 | .non,.non=>true | .non,.int _=>true | .int _,.non=>true | .non,.bl _=>true | .bl _,.non=>true | .non,.str _=>true | .str _,.non=>true
 | .int _,.int _=>true | .bl _,.bl _=>true | .str _,.str _=>true | .byt _,.byt _=>true
 | .int _,.str _=>true | .str _,.int _=>true | .bl _,.str _=>true | .str _,.bl _=>true
 |_,_=>false
def rEq:R2:=λx y H Q=>qj x y=true/\Q (.bl (decide (x=y))) H
def rNe:R2:=λx y H Q=>qj x y=true/\Q (.bl (!decide (x=y))) H
theorem qk{i j:Int}:decide (V.int i=V.int j)=(i==j):=by
 rw[Bool.eq_iff_iff];simp
theorem ql{i j:Bool}:decide (V.bl i=V.bl j)=(i==j):=by
 rw[Bool.eq_iff_iff];simp
theorem qm{i j:Str}:decide (V.str i=V.str j)=(i==j):=by
 rw[Bool.eq_iff_iff];simp
theorem qo{i j:Array UInt8}:decide (V.byt i=V.byt j)=(i.toList==j.toList):=by
 rw[Bool.eq_iff_iff];cases i;cases j;simp
section
variable{a b c:Expr}{tc:TE}
theorem aC{s:Shared}{Q:VK}{k k':Bool}(I:Inv X pins σ H s)(q:Q (.bl k) H)(e:k=k'):EP X pins σ Q (.bool k') s:=by
 subst e;exact⟨.bl k,H,I,rfl,q⟩
theorem qp:OpR X (compareOp .Eq) rEq:=by
 intro pins s σ H x y v u Q I rx ry h;obtain⟨hs,q⟩:=h;cases x with
 |non =>
  cases rx;cases y with
  |non=>cases ry;exact PySem.EqNone.eq_none_none (aC I q (by simp))
  |bl j=>cases ry;exact PySem.EqNone.eq_none_bool (aC I q (by simp))
  |int j=>obtain⟨t',rfl⟩:=ry;exact PySem.EqNone.eq_none_int (aC I q (by simp))
  |str j=>obtain⟨t',rfl⟩:=ry;exact PySem.EqNone.eq_none_str (aC I q (by simp))
  |_=>exact absurd (show false=true from hs) Bool.false_ne_true
 |bl i =>
  cases rx;cases y with
  |non=>cases ry;exact PySem.EqNone.eq_bool_none (aC I q (by simp))
  |bl j=>cases ry;exact eq_bool (aC I q ql)
  |str j=>obtain⟨t',rfl⟩:=ry;exact PySem.EqMixed.eq_bool_str (aC I q (by simp))
  |_=>exact absurd (show false=true from hs) Bool.false_ne_true
 |int i =>
  obtain⟨t,rfl⟩:=rx;cases y with
  |non=>cases ry;exact PySem.EqNone.eq_int_none (aC I q (by simp))
  |int j=>obtain⟨t',rfl⟩:=ry;exact eq_int (aC I q qk)
  |str j=>obtain⟨t',rfl⟩:=ry;exact PySem.EqMixed.eq_int_str (aC I q (by simp))
  |_=>exact absurd (show false=true from hs) Bool.false_ne_true
 |str i =>
  obtain⟨t,rfl⟩:=rx;cases y with
  |non=>cases ry;exact PySem.EqNone.eq_str_none (aC I q (by simp))
  |bl j=>cases ry;exact PySem.EqMixed.eq_str_bool (aC I q (by simp))
  |int j=>obtain⟨t',rfl⟩:=ry;exact PySem.EqMixed.eq_str_int (aC I q (by simp))
  |str j=>obtain⟨t',rfl⟩:=ry;exact eq_str (aC I q qm)
  |_=>exact absurd (show false=true from hs) Bool.false_ne_true
 |byt i =>
  obtain⟨t,rfl⟩:=rx;cases y with
  |byt j=>obtain⟨t',rfl⟩:=ry;exact PySem.W.eq_bytes (aC I q qo)
  |_=>exact absurd (show false=true from hs) Bool.false_ne_true
 |_=>cases y<;>exact absurd (show false=true from hs) Bool.false_ne_true
theorem Bf:OpR X (compareOp .NotEq) rNe:=by
 intro pins s σ H x y v u Q I rx ry h;obtain⟨hs,q⟩:=h;cases x with
 |non =>
  cases rx;cases y with
  |non=>cases ry;exact PySem.EqNone.ne_none_none (aC I q (by simp))
  |bl j=>cases ry;exact PySem.EqNone.ne_none_bool (aC I q (by simp))
  |int j=>obtain⟨t',rfl⟩:=ry;exact PySem.EqNone.ne_none_int (aC I q (by simp))
  |str j=>obtain⟨t',rfl⟩:=ry;exact PySem.EqNone.ne_none_str (aC I q (by simp))
  |_=>exact absurd (show false=true from hs) Bool.false_ne_true
 |bl i =>
  cases rx;cases y with
  |non=>cases ry;exact PySem.EqNone.ne_bool_none (aC I q (by simp))
  |bl j=>cases ry;exact ne_bool (aC I q (congrArg not ql))
  |str j=>obtain⟨t',rfl⟩:=ry;exact PySem.EqMixed.ne_bool_str (aC I q (by simp))
  |_=>exact absurd (show false=true from hs) Bool.false_ne_true
 |int i =>
  obtain⟨t,rfl⟩:=rx;cases y with
  |non=>cases ry;exact PySem.EqNone.ne_int_none (aC I q (by simp))
  |int j=>obtain⟨t',rfl⟩:=ry;exact ne_int (aC I q (congrArg not qk))
  |str j=>obtain⟨t',rfl⟩:=ry;exact PySem.EqMixed.ne_int_str (aC I q (by simp))
  |_=>exact absurd (show false=true from hs) Bool.false_ne_true
 |str i =>
  obtain⟨t,rfl⟩:=rx;cases y with
  |non=>cases ry;exact PySem.EqNone.ne_str_none (aC I q (by simp))
  |bl j=>cases ry;exact PySem.EqMixed.ne_str_bool (aC I q (by simp))
  |int j=>obtain⟨t',rfl⟩:=ry;exact PySem.EqMixed.ne_str_int (aC I q (by simp))
  |str j=>obtain⟨t',rfl⟩:=ry;exact ne_str (aC I q (congrArg not qm))
  |_=>exact absurd (show false=true from hs) Bool.false_ne_true
 |byt i =>
  obtain⟨t,rfl⟩:=rx;cases y with
  |byt j=>obtain⟨t',rfl⟩:=ry;exact PySem.W.ne_bytes (aC I q (congrArg not qo))
  |_=>exact absurd (show false=true from hs) Bool.false_ne_true
 |_=>cases y<;>exact absurd (show false=true from hs) Bool.false_ne_true
theorem gg:OpR X (compareOp .Lt) (rI0 λi j=> .bl (decide (i < j))):=jw λ_ _ _ _ _ _ _ q=>lt_int q
theorem fq:OpR X (compareOp .LtE) (rI0 λi j=> .bl (decide (i<=j))):=jw λ_ _ _ _ _ _ _ q=>le_int q
theorem qr:OpR X (compareOp .Gt) (rI0 λi j=> .bl (decide (j < i))):=jw λ_ _ _ _ _ _ _ q=>gt_int q
theorem mm:OpR X (compareOp .GtE) (rI0 λi j=> .bl (decide (j<=i))):=jw λ_ _ _ _ _ _ _ q=>ge_int q
theorem Bg:OpR X (compareOp .In) (λx y H Q=>∃i j,x= .str i/\y= .str j/\Q (.bl (!(Builtin.Str.occurrences j i 0 j.length 1).isEmpty)) H):=by
 intro pins s σ H x y v u Q I rx ry h;obtain⟨i,j,rfl,rfl,q⟩:=h;obtain⟨t,rfl⟩:=rx;obtain⟨t',rfl⟩:=ry;exact in_str (aC I q rfl)
theorem OpR.or{f:Value->Value->Sem Value}(h:OpR X f r)(h':OpR X f r'):OpR X f (λx y H Q=>r x y H Q\/r' x y H Q):=by
 intro pins s σ H x y v u Q I rx ry q;rcases q with q|q
 .exact h pins s σ H x y v u Q I rx ry q
 .exact h' pins s σ H x y v u Q I rx ry q
theorem zY(b:Expr)(h:op≠ .In:=by decide)(h2:op≠ .NotIn:=by decide):behindInMarks op b=false:=by
 have e1:(op==CmpOp.In)=false:=by cases op<;>first|rfl|exact absurd rfl h
 have e2:(op==CmpOp.NotIn)=false:=by cases op<;>first|rfl|exact absurd rfl h2
 cases b<;>simp[behindInMarks,e1,e2]
theorem Bh(ho:OpR X (compareOp op) r)(ha:PE X a ta)(hb:PE X b tb)(hm:behindInMarks op b=false):PE X (.Compare a [op] [b] pos) (tOp r ta tb):=by
 intro pins s σ H Q I h;exact wpAny_Compare1 (ml ha hb I h λv u s2 x y H2 I2 rx ry q=>ho pins s2 σ H2 x y v u Q I2 rx ry q) hm
def ft(t:TE):TT:=λσ H Q=>t σ H λx H'=>∃k,x= .bl k/\Q k H'
theorem Bi(ho:OpR X (compareOp op) r)(ha:PE X a ta)(hb:PE X b tb)(hm:behindInMarks op b=false):PT X (.Compare a [op] [b] pos) (ft (tOp r ta tb)):=by
 intro pins s σ H Q I h;refine wpAny_isTrue_Compare1 (thn (ha pins s σ H _ I h) λv s1 ⟨x,H1,I1,r1,q1⟩=>thn (hb pins s1 σ H1 _ I1 q1) λu s2 ⟨y,H2,I2,r2,q2⟩ =>
  thn (ho pins s2 σ H2 x y v u _ I2 r1 r2 q2) λc s3 ⟨z,H3,I3,r3,k,e,q3⟩=>?_) hm
 subst e;cases r3;exact wpAny_truthy_bool ⟨H3,I3,q3⟩
def hW(r r':R2)(ta tb tc:TE):TE:=λσ H Q=>ta σ H λx H1=>tb σ H1 λy H2=>r x y H2 λz H3=>∃k,z= .bl k /\
 (if k=true then tc σ H3 λw' H4=>r' y w' H4 Q else Q (.bl false) H3)
theorem Bj{op':CmpOp}(ho:OpR X (compareOp op) r)(ho':OpR X (compareOp op') r')(ha:PE X a ta)(hb:PE X b tb)(hc:PE X c tc)
  (hm:lastMarks [op,op'] [b,c]=false:=by with_unfolding_all rfl):PE X (.Compare a [op,op'] [b,c] pos) (hW r r' ta tb tc):=by
 intro pins s σ H Q I h;refine Compare_chain (thn (ha pins s σ H _ I h) λv s1 ⟨x,H1,I1,r1,q1⟩=>chain_link (thn (hb pins s1 σ H1 _ I1 q1) λu s2 ⟨y,H2,I2,r2,q2⟩ =>
  thn (ho pins s2 σ H2 x y v u _ I2 r1 r2 q2) λd s3 ⟨z,H3,I3,r3,k,e,q3⟩=>?_)) hm
 subst e;cases r3;refine wpAny_truthy_bool ?_;cases k with
 |false=>exact ite_ff ⟨.bl false,H3,I3,rfl,q3⟩
 |true=>exact ite_tt (chain_last (thn (hc pins s3 σ H3 _ I3 q3) λw' s4 ⟨z',H4,I4,r4,q4⟩=>ho' pins s4 σ H4 y z' u w' Q I4 r2 r4 q4))
theorem Bk{op':CmpOp}(ho:OpR X (compareOp op) r)(ho':OpR X (compareOp op') r')(ha:PE X a ta)(hb:PE X b tb)(hc:PE X c tc)
  (hm:lastMarks [op,op'] [b,c]=false:=by with_unfolding_all rfl):PT X (.Compare a [op,op'] [b,c] pos) (ft (hW r r' ta tb tc)):=by
 intro pins s σ H Q I h;refine isTrue_chain (thn (ha pins s σ H _ I h) λv s1 ⟨x,H1,I1,r1,q1⟩=>test_link (thn (hb pins s1 σ H1 _ I1 q1) λu s2 ⟨y,H2,I2,r2,q2⟩ =>
  thn (ho pins s2 σ H2 x y v u _ I2 r1 r2 q2) λd s3 ⟨z,H3,I3,r3,k,e,q3⟩=>?_)) hm
 subst e;cases r3;refine wpAny_truthy_bool ?_;cases k with
 |false =>
  obtain⟨k',e',q'⟩:=q3;cases e';exact ite_ff ⟨H3,I3,q'⟩
 |true =>
  refine ite_tt (test_last (thn (hc pins s3 σ H3 _ I3 q3) λw' s4 ⟨z',H4,I4,r4,q4⟩=>thn (ho' pins s4 σ H4 y z' u w' _ I4 r2 r4 q4) λd' s5 ⟨z2,H5,I5,r5,k2,e2,q5⟩=>?_));subst e2;cases r5;exact wpAny_truthy_bool ⟨H5,I5,q5⟩
theorem gk:(sizeLine:Nat) < 2^63:=by rw[sizeLine_eq];decide
theorem Bl:OpR X (binaryOp .Add) (λx y H Q=>∃i j,x= .str i/\y= .str j/\i.length+j.length<=sizeLine/\Q (.str (i++j)) H):=by
 intro pins s σ H x y v u Q I rx ry h;obtain⟨i,j,rfl,rfl,hz,q⟩:=h;obtain⟨t,rfl⟩:=rx;obtain⟨t',rfl⟩:=ry;exact add_str (λt' tk=>⟨.str (i++j),H,I.tok _,⟨_,rfl⟩,q⟩) hz
theorem vals1{x:V}(r:Vals [x] us):∃u,us=[u]/\RelV x u:=by
 cases r with
 |cons r1 r2=>cases r2;exact⟨_,rfl,r1⟩
theorem vals2{x:V}(r:Vals [x,y] us):∃u w',us=[u,w']/\RelV x u/\RelV y w':=by
 cases r with
 |cons r1 r2 =>
  cases r2 with
  |cons r3 r4=>cases r4;exact⟨_,_,rfl,r1,r3⟩
theorem Bm:zW X (.builtin "abs") (λxs H Q=>∃i,xs=[.int i]/\Q (.int (if i < 0 then -i else i)) H):=by
 intro pins s σ H xs us Q I r h;obtain⟨i,rfl,q⟩:=h;obtain⟨u,rfl,t,rfl⟩:=vals1 r;exact call_abs_int λu tk=>⟨.int (if i < 0 then -i else i),H,I.tok _,⟨_,rfl⟩,q⟩
theorem Bn(hc:X.calm=true):zW X (.builtin "max") (λxs H Q=>∃i j,xs=[.int i,.int j]/\Q (.int (if j > i then j else i)) H):=by
 intro pins s σ H xs us Q I r h;obtain⟨i,j,rfl,q⟩:=h;obtain⟨u,w',rfl,⟨t,rfl⟩,⟨t',rfl⟩⟩:=vals2 r;refine max_two_ints (I.ok.hd hc) λh' tk k=>⟨_,H,I.kept k,?_,q⟩
 by_cases hj:j > i
 .rw[if_pos hj,if_pos hj];exact⟨_,rfl⟩
 .rw[if_neg hj,if_neg hj];exact⟨_,rfl⟩
theorem Bo(hc:X.calm=true):zW X (.builtin "min") (λxs H Q=>∃i j,xs=[.int i,.int j]/\Q (.int (if j < i then j else i)) H):=by
 intro pins s σ H xs us Q I r h;obtain⟨i,j,rfl,q⟩:=h;obtain⟨u,w',rfl,⟨t,rfl⟩,⟨t',rfl⟩⟩:=vals2 r;refine min_two_ints (I.ok.hd hc) λh' tk k=>⟨_,H,I.kept k,?_,q⟩
 by_cases hj:j < i
 .rw[if_pos hj,if_pos hj];exact⟨_,rfl⟩
 .rw[if_neg hj,if_neg hj];exact⟨_,rfl⟩
end
structure dZ(h:Heap)(x dx C:Addr)(mA:Str->Option Value):Prop where
 obj:h.get? x=some (instObj C dx)
 ns:h.Ns1 dx mA
 ne:dx≠x
theorem qu(n:h.Ns1 dx mA):∃od,h.get? dx=some od/\∀name,lookIn name od=some (mA name):=by
 obtain⟨o,es,ep,ho,hd,hk,_,hm⟩:=n;refine⟨o,ho,λname=>?_⟩;have e:=hm name;unfold nsFind findBy at e;rw[<- Array.find?_toList] at e;unfold lookIn;rw[hd];dsimp only;split
 .rename_i y q;rw[q] at e;exact congrArg some e
 .rename_i q;rw[q] at e;have a:es.toList.any (·.refKey)=false:=by
   rw[List.any_eq_false];intro y hy;obtain⟨z,t,hkey⟩:=hk y (Array.mem_toList_iff.mp hy);simp[DictEntry.refKey,hkey]
  have a':¬ es.toList.any (·.refKey)=true:=by rw[a];exact Bool.false_ne_true
  rw[if_neg a'];exact congrArg some e
theorem dZ.look{x:Addr}(I:dZ h x dx C mA):∃od,PySem.W.InstAt h x (instObj C dx) C (some od)/\∀name,lookIn name od=some (mA name) :=
 let ⟨od,ho,hl⟩:=qu I.ns
 ⟨od,⟨I.obj,rfl,rfl,ho⟩,hl⟩
section
variable{prog:Program}{s:Shared}{x:Addr}{name:Str}{v:Value}
theorem qz{expr:Bool}(X:K.In s.heap)(I:dZ s.heap x dx C mA)(hg:plainGet K C name=true)(hh:hasDictIn K C=true)
  (ha:findIn K (.ref C) name=some none)(hv:mA name=some v)(hv':PySem.W.handedIn v=true)(h:Q v {s with toks:=s.toks+1}) :
  wpAny (model prog w) A (getAttr (.ref x) name expr) Q E s:=by
 obtain⟨od,J,hl⟩:=I.look;exact PySem.W.get_value X J (plainGet_of hg).1 (PySem.W.findObj_own hh ha rfl (by rw[hl,hv])) hv' h
theorem Bp{pl:Sem Bool}{Q:Value×List Value->Shared->Prop}(X:K.In s.heap)(I:dZ s.heap x dx C mA)(hg:plainGet K C name=true)
  (hf:findIn K (.ref C) name=some (some (.ref f)))(ht:isFn K (.ref f)=true)(hv:mA name=none)(h:Q (.ref f,[.ref x]) s) :
  wpAny (model prog w) A (getMethod (.ref x) name pl) Q E s:=by
 obtain⟨od,J,hl⟩:=I.look;exact PySem.W.method_fn X J (plainGet_of hg).1 (plainGet_of hg).2 hf (beq_iff_eq.mp ht) (by show(lookIn name od).map (·.isSome)=some false;rw[hl,hv];rfl) h
theorem mn{ns:List Str}{Q:Unit->Shared->Prop}(X:K.In s.heap)(I:dZ s.heap x dx C mA)
  (hs:findIn K (.ref C) "__setattr__"=some (some (.builtin "object.__setattr__")))(hp:PySem.W.plainOver K C=true)(ht:takerIn K C name=some none)(hh:hasDictIn K C=true)
  (hw:PySem.Within mA ns)(hsz:ns.length<=sizeLine)
  (h:∀h',dZ h' x dx C (λy=>if y=name then some v else mA y)->Heap.SameBut dx s.heap h'->Q () {s with heap:=h',toks:=s.toks+2}) :
  wpAny (model prog w) A (setAttr (.ref x) name v) Q E s:=by
 obtain⟨od,J,hl⟩:=I.look;refine PySem.W.set_plain X J hs (PySem.W.osa_open (s:={s with toks:=s.toks+1}) (r:=none) X J hp ht λb=>?_);obtain⟨cd,hc,hd'⟩:=PySem.W.any_some hh;have hx:s.heap.get? x=some ⟨.ref C,some dx,.plain, #[]⟩:=I.obj;refine wpAny_bind (wpAny_pure (wpAny_bind (wpAny_bind (wpAny_loadPart hx (wpAny_bind (PySem.W.Looks.here (s:={s with toks:=s.toks+1}) (PySem.W.looks_clsIn X hc) ?_))))));rw[hd'];refine wpAny_pure (a:=some dx) (wpAny_bind (wpAny_pure (wpAny_bind ?_)));refine wpAny_nsSet1 (s:={s with toks:=s.toks+1}) I.ns λh' hn2 hs2=>?_
 obtain⟨oD,esD,epD,hoD,hdD,hcD⟩:=hn2.count (PySem.Within.cons name v hw);refine wpAny_bind (wpAny_lookBehind hoD (by rw[hdD];exact pastItsLine_dict (Nat.le_trans hcD (by rw[List.length_cons];omega))) ?_);exact wpAny_pure (h _ ⟨(hs2.2 _ (Ne.symm I.ne)).trans I.obj,hn2,I.ne⟩ hs2)
theorem Bq{R:Result->Shared->Prop}{vs:List Value}(X:K.In s.heap)(hm:makesIn K C=true)
  (hi:findIn K (.ref C) "__init__"=some (some (.ref f)))(hf:PySem.W.typeIn K (.ref f)=some (.type "function"))
  (h:codeAny (model prog w) (A.under (.builtin "type.__call__" ⟨.ref C::vs,kw⟩)) (.call (.ref f) ⟨.ref (s.heap.objs.size+1)::vs,kw⟩) (PySem.W.InitBack (s.heap.objs.size+1) R)
   {s with heap:=(s.heap.push emptyDict).push (instObj C s.heap.objs.size)}) :
  codeAny (model prog w) A (.call (.ref C) ⟨vs,kw⟩) R s:=by
 obtain⟨hh,g,d,t,os⟩:=s;exact PySem.W.make_core (PySem.W.makes_of X hm) (PySem.W.looks_findIn X hi) (λself=>PySem.W.bind_fn X self hf) (.inl rfl) h
end
def bp(f:Str)(v:V):List (Str×V)->List (Str×V)
 | []=>[(f,v)]
 | (g,x)::r=>if g=f then(g,v)::r else(g,x)::bp f v r
theorem qA(f g:Str)(v:V):∀fs:List (Str×V),(bp f v fs).lookup g=if g=f then some v else fs.lookup g
 | []=>by
  show List.lookup g [(f,v)]=_;by_cases h:g=f
  .have hb:(g==f)=true:=beq_iff_eq.mpr h;simp only[List.lookup,hb,if_pos h]
  .have hb:(g==f)=false:=beq_eq_false_iff_ne.mpr h;simp only[List.lookup,hb,if_neg h]
 | (k,x)::r=>by
  have ih:=qA f g v r;rw[show bp f v ((k,x)::r)=(if k=f then(k,v)::r else(k,x)::bp f v r) from rfl];by_cases hk:k=f
  .rw[if_pos hk];by_cases h:g=k
   .have hb:(g==k)=true:=beq_iff_eq.mpr h;simp only[List.lookup,hb,if_pos (h.trans hk)]
   .have hb:(g==k)=false:=beq_eq_false_iff_ne.mpr h;simp only[List.lookup,hb,if_neg (λe:g=f=>h (e.trans hk.symm))]
  .rw[if_neg hk];by_cases h:g=k
   .have hb:(g==k)=true:=beq_iff_eq.mpr h;simp only[List.lookup,hb,if_neg (λe:g=f=>hk (h.symm.trans e))]
   .have hb:(g==k)=false:=beq_eq_false_iff_ne.mpr h;simp only[List.lookup,hb];exact ih
theorem mo(f:Str)(v:V):∀fs:List (Str×V),f∈(bp f v fs).map (·.1)/\∀g,g∈fs.map (·.1)->g∈(bp f v fs).map (·.1)
 | []=>⟨by simp[bp],λg h=>by simp at h⟩
 | (k,x)::r=>by
  obtain⟨i1,i2⟩:=mo f v r;rw[show bp f v ((k,x)::r)=(if k=f then(k,v)::r else(k,x)::bp f v r) from rfl];by_cases hk:k=f
  .rw[if_pos hk];subst hk;exact⟨by simp,λg h=>by simpa using h⟩
  .rw[if_neg hk];refine⟨?_,λg h=>?_⟩
   .rw[List.map_cons];exact List.mem_cons_of_mem _ i1
   .rw[List.map_cons] at h ⊢;rcases List.mem_cons.mp h with e|e
    .exact List.mem_cons.mpr (.inl e)
    .exact List.mem_cons_of_mem _ (i2 g e)
theorem qB(f:Str)(v:V):∀fs:List (Str×V),(bp f v fs).length<=fs.length+1
 | []=>by simp[bp]
 | (k,x)::r=>by
  have ih:=qB f v r;rw[show bp f v ((k,x)::r)=(if k=f then(k,v)::r else(k,x)::bp f v r) from rfl];by_cases hk:k=f
  .rw[if_pos hk,List.length_cons,List.length_cons];omega
  .rw[if_neg hk,List.length_cons,List.length_cons];omega
theorem bx.some_of{o:Option Value}(r:bx (some v) o):∃u,o=some u/\RelV v u:=by
 cases o with
 |none=>exact(show False from r).elim
 |some u=>exact⟨u,rfl,r⟩
theorem bx.none_of{o:Option Value}(r:bx none o):o=none:=by
 cases o with
 |none=>rfl
 |some u=>exact(show False from r).elim
theorem qC(r:RelV v u):PySem.W.handedIn u=true:=by
 cases v with
 |non=>cases (show u=Value.none from r);rfl
 |bl b=>cases (show u=Value.bool b from r);rfl
 |int i=>obtain⟨t,e⟩:=(show ∃t,u=Value.int i t from r);cases e;rfl
 |str x=>obtain⟨t,e⟩:=(show ∃t,u=Value.str x t from r);cases e;rfl
 |byt b=>obtain⟨t,e⟩:=(show ∃t,u=Value.bytes b t from r);cases e;rfl
 |flt b=>obtain⟨t,e⟩:=(show ∃t,u=Value.float b t from r);cases e;rfl
 |ref a=>cases (show u=Value.ref a from r);rfl
 |ty n=>cases (show u=Value.type n from r);rfl
section
variable{fs fs':List (Str×V)}
theorem h_(hok:HOk P w H h)(e:H a=some (.ins C dx fs)):∃mA,dZ h a dx C mA/\(∀f,bx (fs.lookup f) (mA f))/\PySem.Within mA (fs.map (·.1))/\fs.length<=1000/\H dx=some (.own a):=by
 obtain⟨d,z,ne,ob,mA,n,r,q⟩:=(show aw P w H h a (.ins C dx fs) from hok a _ e);exact⟨mA,⟨ob,n,ne⟩,r,q,z,d⟩
end
structure Cls(K:Frag)(C:Addr):Prop where
 pg:plainGet K C Str.empty=true
 hd:hasDictIn K C=true
 po:PySem.W.plainOver K C=true
 sa:findIn K (.ref C) "__setattr__"=some (some (.builtin "object.__setattr__"))
theorem Cls.get(c:Cls K C)(f:Str):plainGet K C f=true:=c.pg
def bZ(K:Frag)(C:Addr)(f:Str):Prop:=findIn K (.ref C) f=some none
theorem bZ.taker{f:Str}(n:bZ K C f):takerIn K C f=some none:=by
 unfold takerIn;rw[show findIn K (.ref C) f=some none from n];rfl
structure Meth(K:Frag)(C:Addr)(m:Str)(f:Addr):Prop where
 at_:findIn K (.ref C) m=some (some (.ref f))
 fn:isFn K (.ref f)=true
 kp:keepIn K (.ref f)=true
section
variable{s:Shared}{fs:List (Str×V)}{f:Str}
theorem Br{b:Bool}(I:Inv X pins σ H s)(e:H a=some (.ins C dx fs))(c:Cls X.K C)(n:bZ X.K C f)(l:fs.lookup f=some v)
  (h:∀u s',Inv X pins σ H s'->RelV v u->Q u s'):wpAny (model X.prog X.w) A (getAttr (.ref a) f b) Q E s:=by
 obtain⟨mA,O,r,_,_,_⟩:=h_ I.hok e;obtain⟨u,hu,ru⟩:=bx.some_of (v:=v) (o:=mA f) (by rw[<- l];exact r f);exact qz I.kIn O (c.get f) c.hd n hu (qC ru) (h u _ (I.tok _) ru)
theorem mq{g:Addr}{pl:Sem Bool}{Q:Value×List Value->Shared->Prop}(I:Inv X pins σ H s)(e:H a=some (.ins C dx fs))(c:Cls X.K C)(k:Meth X.K C m g)(l:fs.lookup m=none)
  (h:Q (.ref g,[.ref a]) s):wpAny (model X.prog X.w) A (getMethod (.ref a) m pl) Q E s:=by
 obtain⟨mA,O,r,_,_,_⟩:=h_ I.hok e;have hn:mA m=none:=bx.none_of (by rw[<- l];exact r m);exact Bp I.kIn O (c.get m) k.at_ k.fn hn h
theorem Bs{Q:Unit->Shared->Prop}(I:Inv X pins σ H s)(e:H a=some (.ins C dx fs))(c:Cls X.K C)(n:bZ X.K C f)(hl:fs.length < 1000)(ry:RelV y u)
  (h:∀s',Inv X pins σ (upd H a (.ins C dx (bp f y fs))) s'->Q () s'):wpAny (model X.prog X.w) A (setAttr (.ref a) f u) Q E s:=by
 obtain⟨mA,O,r,wi,_,ho⟩:=h_ I.hok e;have hz:(fs.map (·.1)).length<=sizeLine:=by rw[List.length_map,sizeLine_eq];omega
 refine mn I.kIn O c.sa c.po n.taker c.hd wi hz λh' O' sb=>h _ ?_
 have hd:∃o,h'.get? dx=some o:=let ⟨o,_,_,e',_⟩:=O'.ns;⟨o,e'⟩;refine I.write (x:=a) (e:=dx) (by rw[e];exact True.intro) (.inr ho) (λb q hb z=>(sb.2 b hb).trans z) hd ?_;refine⟨by rw[zy O.ne];exact ho,?_,O.ne,O'.obj,_,O'.ns,λg=>?_,λg hg=>?_⟩
 .have:=qB f y fs;omega
 .show bx ((bp f y fs).lookup g) (if g=f then some u else mA g);rw[qA];by_cases q:g=f
  .rw[if_pos q,if_pos q];exact ry
  .rw[if_neg q,if_neg q];exact r g
 .by_cases q:g=f
  .rw[q];exact(mo f y fs).1
  .refine(mo f y fs).2 g (wi g λz=>hg ?_);show(if g=f then some u else mA g)=none;rw[if_neg q];exact z
theorem Inv.made(I:Inv X pins σ H s):Inv X pins σ (upd (upd H s.heap.objs.size (.own (s.heap.objs.size+1))) (s.heap.objs.size+1) (.ins C s.heap.objs.size []))
  {s with heap:=(s.heap.push emptyDict).push (instObj C s.heap.objs.size)}:=by
 have e1:(s.heap.push emptyDict).get? s.heap.objs.size=some emptyDict:=Heap.get?_push_size s.heap rfl;have e2:((s.heap.push emptyDict).push (instObj C s.heap.objs.size)).get? (s.heap.objs.size+1)=some (instObj C s.heap.objs.size):=by
  have:=Heap.get?_push_size (s.heap.push emptyDict) (o:=instObj C s.heap.objs.size) rfl;rwa [Heap.size_push] at this
 have e3:(s.heap.push emptyDict).Ns s.heap.objs.size (λ_=>none):=⟨emptyDict, #[],_,e1,rfl,(λe he=>absurd he (by simp)),λ_=>rfl⟩;have I1:=I.laid (a:=s.heap.objs.size) (o:= .own (s.heap.objs.size+1)) (h':=s.heap.push emptyDict) (t':=s.toks) (λb u q=>Heap.get?_push_of_some _ q) (Nat.le_refl _) ⟨_,e1⟩;refine I1.laid (a:=s.heap.objs.size+1) (o:= .ins C s.heap.objs.size []) (t':=s.toks) (λb u q=>Heap.get?_push_of_some _ q) (Nat.le_of_eq (Heap.size_push _ _)) ?_;have ne:s.heap.objs.size≠s.heap.objs.size+1:=Nat.ne_of_lt (Nat.lt_succ_self _);refine⟨by rw[zy ne,zB],Nat.zero_le _,ne,e2,λ_=>none,(Heap.Ns1.of_empty e3).at λo q=>Heap.get?_push_of_some _ q,λ_=>True.intro,λy hy=>absurd rfl hy⟩
theorem mr{prog:Program}{env:Env}{e:Expr}(hb:attributeBase e f env (eval e env)=eval e env)
  (h:wpAny (model prog w) A (eval e env) (λo s₁=>wpAny (model prog w) A (getAttr o f true) Q E s₁) E s):wpAny (model prog w) A (eval (.Attribute e f pos) env) Q E s :=
 Attribute_any_ h (by rw[arm_eval_Attribute,hb])
end
def jz(K:Frag)(ta:TE)(f:Str):TE:=λσ H Q=>ta σ H λx H1=>∃a C dx fs v,x= .ref a/\H1 a=some (.ins C dx fs)/\Cls K C/\bZ K C f/\fs.lookup f=some v/\Q v H1
def jA(K:Frag)(ta tv:TE)(f:Str):TS:=λD σ H=>tv σ H λy H1=>ta σ H1 λx H2=>∃a C dx fs,x= .ref a/\H2 a=some (.ins C dx fs)/\Cls K C/\bZ K C f/\fs.length < 1000 /\
 D.nx σ (upd H2 a (.ins C dx (bp f y fs)))
section
variable{o e value:Expr}{f:Str}{pos' tpos:Pos}{tv:TE}
theorem Bt(he:PE X e ta)(hb:attributeBase e f X.env (eval e X.env)=eval e X.env):PE X (.Attribute e f pos) (jz X.K ta f):=by
 intro pins s σ H Q I h;refine mr hb (thn (he pins s σ H _ I h) λu s1 ⟨x,H1,I1,rx,a,C,dx,fs,v,ex,ea,c,n,l,q⟩=>?_);subst ex;obtain rfl:u=Value.ref a:=rx;exact Br I1 ea c n l λu' s2 I2 ru=>⟨v,H1,I2,ru,q⟩
theorem Bu(ha:PE X o ta)(hv:PE X value tv)(hs:swapsWith value (some (.Attribute o f pos')) pos.line X.env=pure false):PS X (.Assign [.Attribute o f pos'] value pos) (jA X.K ta tv f):=by
 intro pins s σ H D I h;refine plainObj_wpAny_Assign_Attribute (thn (hv pins s σ H _ I h) λu s1 ⟨y,H1,I1,ry,q⟩=>thn (ha pins s1 σ H1 _ I1 q) λov s2 ⟨x,H2,I2,rx,a,C,dx,fs,ex,ea,c,n,l,q2⟩=>?_) hs;subst ex;obtain rfl:ov=Value.ref a:=rx;exact Bs I2 ea c n l ry λs3 I3=>⟨σ,_,I3,q2⟩
end
section
variable{s:Shared}{c:Value}{b:Bool}
inductive bI(K:Frag)(H:Hp):V->Value->Prop where
 |non:bI K H .non (.type "NoneType")
 |bl (x:Bool):bI K H (.bl x) (.type "bool")
 |int (i:Int):bI K H (.int i) (.type "int")
 |str (x:Str):bI K H (.str x) (.type "str")
 |flt (x:UInt64):bI K H (.flt x) (.type "float")
 |lst {a:Addr} {xs:List V} (e:H a=some (.lst xs)):bI K H (.ref a) (.type "list")
 |frz {a:Addr} {o:Obj} {xs:List V} (e:H a=some (.frz o (.lst xs))):bI K H (.ref a) (.type "list")
 |tup {a:Addr} {xs:List V} (e:H a=some (.tup xs)):bI K H (.ref a) (.type "tuple")
 |dK {a:Addr} {kvs:List (Key×V)} (e:H a=some (.dK kvs)):bI K H (.ref a) (.type "dict")
 |dT {a:Addr} {kvs:List (List Key×V)} (e:H a=some (.dT kvs)):bI K H (.ref a) (.type "dict")
 |ins {a C dx:Addr} {fs:List (Str×V)} (e:H a=some (.ins C dx fs)) (cl:Cls K C) (ha:findIn K (.ref C) "__class__"=some (some (.builtin "object.__class__")))
   (hn:PySem.W.specialIn K (.builtin "object.__class__") "__get__"=some (some (.builtin "getset_descriptor.__get__"))) (htk:PySem.W.takesIn K (.builtin "object.__class__")=some true)
   (hm:PySem.W.mroIn K C (.type "object")=some true):bI K H (.ref a) (.ref C)
theorem Bv{x:V}{t:Value}(I:Inv X pins σ H s)(rx:RelV x u)(ty:bI X.K H x t)(e:kitOne X.K t c=some b)(h:∀tk,Q (.bool b) {s with toks:=tk}) :
  wpAny (model X.prog X.w) A (call (.builtin "isinstance") [u,c]) Q E s:=by
 cases ty with
 |non=>cases (show u=Value.none from rx);exact kia_one PySem.W.kitx_none I.kIn True.intro e (λz=>nomatch z) h
 |bl y=>cases (show u=Value.bool y from rx);exact kia_one PySem.W.kitx_bool I.kIn True.intro e (λz=>nomatch z) h
 |int i=>obtain⟨t,q⟩:=(show ∃t,u=Value.int i t from rx);cases q;exact kia_one PySem.W.kitx_int I.kIn True.intro e (λz=>nomatch z) h
 |str y=>obtain⟨t,q⟩:=(show ∃t,u=Value.str y t from rx);cases q;exact kia_one PySem.W.kitx_str I.kIn True.intro e (λz=>nomatch z) h
 |flt y=>obtain⟨t,q⟩:=(show ∃t,u=Value.float y t from rx);cases q;exact kia_one PySem.W.kitx_float I.kIn True.intro e (λz=>nomatch z) h
 |@lst a xs ea =>
  cases (show u=Value.ref a from rx);obtain⟨_,_,n,_,h1⟩:=(show aw X.prog X.w H s.heap a (.lst xs) from I.hok a _ ea);exact kia_one PySem.W.kitx_list I.kIn ⟨_,h1,rfl⟩ e (λz=>nomatch z) h
 |@frz a ob xs ea =>
  cases (show u=Value.ref a from rx);obtain⟨_,_,_,n,_,h1⟩:=(show aw X.prog X.w H s.heap a (.frz ob (.lst xs)) from I.hok a _ ea);exact kia_one PySem.W.kitx_list I.kIn ⟨_,h1,rfl⟩ e (λz=>nomatch z) h
 |@tup a xs ea =>
  cases (show u=Value.ref a from rx);obtain⟨_,_,_,p⟩:=(show aw X.prog X.w H s.heap a (.tup xs) from I.hok a _ ea);obtain⟨o,h1,h2,_⟩:=p;exact kia_one PySem.W.kitx_tuple I.kIn ⟨o,h1,h2⟩ e (λz=>nomatch z) h
 |@dK a kvs ea =>
  cases (show u=Value.ref a from rx);obtain⟨_,_,vs,_,p⟩:=(show aw X.prog X.w H s.heap a (.dK kvs) from I.hok a _ ea);obtain⟨o,es,ep,h1,h2,_⟩:=p;exact kia_one PySem.W.kitx_dict I.kIn ⟨o,h1,h2.1⟩ e (λz=>nomatch z) h
 |@dT a kvs ea =>
  cases (show u=Value.ref a from rx);obtain⟨_,_,xs,_,o,es,ep,h1,h2,_⟩:=(show aw X.prog X.w H s.heap a (.dT kvs) from I.hok a _ ea);exact kia_one PySem.W.kitx_dict I.kIn ⟨o,h1,h2.1⟩ e (λz=>nomatch z) h
 |@ins a C dx fs ea cl ha hn htk hm =>
  cases (show u=Value.ref a from rx);obtain⟨mA,O,_⟩:=h_ I.hok ea;obtain⟨od,J,_⟩:=O.look;exact kia_one (PySem.W.kitx_own (cl.get _) cl.hd ha hn htk hm) I.kIn J e (λz=>nomatch z) h
end
structure aO(cm:Bool)(k:Nat)(A:Around):Prop where
 hd:cm=true->A.handled=none
 dp:A.depth+3*k+5 < recursionLimit
 un:A.units+16*k+200 < cLine
 gd:A.guards=some []
abbrev aS(k:Nat)(A:Around):Prop:=aO true k A
theorem aO.mono{k:Nat}(r:aO cm k A)(h:j<=k):aO cm j A:=⟨r.hd,by have:=r.dp;omega,by have:=r.un;omega,r.gd⟩
theorem aO.deeper{k:Nat}(r:aO cm (k+1) A)(env:Env):aO cm k (A.deeper env) :=
 ⟨r.hd,by have:=r.dp;show A.depth+1+3*k+5 < _;omega,by have:=r.un;show A.units+3+16*k+200 < _;omega,r.gd⟩
theorem Bw:(A.under (.builtin "type.__call__" ⟨.ref C::us,kw⟩)).depth=A.depth+1:=by
 first|rfl|simp[Around.under,Code.weight,Code.isCreation,Code.isGuard,Code.isCaller,Code.frames,Code.isFrame,guardIds]
theorem Bx:(A.under (.builtin "type.__call__" ⟨.ref C::us,kw⟩)).units=A.units+1:=by
 first|rfl|simp[Around.under,Code.cUnits,Code.frames,Code.isFrame]
theorem By:(A.under (.builtin "type.__call__" ⟨.ref C::us,kw⟩)).guards=A.guards:=by
 first|rfl|simp[Around.under,Code.guards,Code.isGuard,guardIds,pushGuards]
theorem aO.make{k:Nat}(r:aO cm (k+1) A)(C:Addr)(us:List Value)(kw:List (Str×Value)):aO cm k (A.under (.builtin "type.__call__" ⟨.ref C::us,kw⟩)) :=
 ⟨r.hd,by have:=r.dp;rw[Bw];omega,by have:=r.un;rw[Bx];omega,by rw[By];exact r.gd⟩
theorem aO.depth{k:Nat}(r:aO cm k A):A.depth < recursionLimit:=by have:=r.dp;omega
theorem aO.units{k:Nat}(r:aO cm k A):A.units+64 < cLine:=by have:=r.un;omega
def bJ:TA:=λ_ H Q=>Q [] H
def cy(ta:TE)(tr:TA):TA:=λσ H Q=>ta σ H λx H1=>tr σ H1 λxs H2=>Q (x::xs) H2
section
variable{e:Expr}{t:TA}
theorem mv:PA X [] bJ:=λ_ _ _ _ H Q I h=>Calls.spliced_nil ⟨[],H,I,.nil,h⟩
theorem mw(ha:PE X e te)(hr:PA X es t)(hs:starEach (e::es) X.env=(false,eval e X.env)::starEach es X.env:=by rfl):PA X (e::es) (cy te t):=by
 intro pos pins s σ H Q I h;rw[hs];show wpAny _ _ (spliced ((false,eval e X.env)::backTo pos (starEach es X.env))) _ _ s;refine Calls.spliced_cons (thn (ha pins s σ H _ I h) λu s1 ⟨x,H1,I1,r1,q1⟩=>?_);exact thn (hr pos pins s1 σ H1 _ I1 q1) λus s2 ⟨xs,H2,I2,r2,q2⟩=>⟨x::xs,H2,I2,.cons r1 r2,q2⟩
def mx(t:TA):TE:=λσ H Q=>t σ H λxs H1=>xs.length<=sizeLine/\∀p,H1 p=none->Q (.ref p) (upd H1 p (.tup xs))
def jB(t:TA):TE:=λσ H Q=>t σ H λxs H1=>xs.length<=sizeLine/\∀p,H1 p=none->Q (.ref p) (upd H1 p (.lst xs))
theorem Bz{x1}(h:PA X es t):PE X (.Tuple es x1 pos) (mx t):=by
 intro pins s σ H Q I hq;refine wpAny_Tuple_spliced (thn (h pos pins s σ H _ I hq) λus s1 ⟨xs,H1,I1,r,z,q⟩=>⟨by rw[<- r.length];exact z,?_⟩);have hf:H1 s1.heap.objs.size=none:=I1.hok.fresh (Nat.le_refl _);refine⟨.ref s1.heap.objs.size,upd H1 s1.heap.objs.size (.tup xs),I1.laid (t':=s1.toks) (λb u e=>Heap.get?_push_of_some _ e) (Nat.le_refl _) ?_,rfl,q _ hf⟩;exact⟨z,us,r,⟨_,Heap.get?_push_size _ rfl,rfl,_,rfl⟩⟩
theorem BA(h:PA X es t):PE X (.List es pos) (jB t):=by
 intro pins s σ H Q I hq;refine wpAny_List_spliced (thn (h pos pins s σ H _ I hq) λus s1 ⟨xs,H1,I1,r,z,q⟩=>⟨by rw[<- r.length];exact z,?_⟩);have hf:H1 s1.heap.objs.size=none:=I1.hok.fresh (Nat.le_refl _);refine⟨.ref s1.heap.objs.size,upd H1 s1.heap.objs.size (.lst xs),I1.laid (t':=s1.toks) (λb u e=>Heap.get?_push_of_some _ e) (Nat.le_refl _) ?_,rfl,q _ hf⟩;exact⟨z,us,0,r,Heap.get?_push_size _ rfl⟩
end
abbrev Sp:=List V->Hp->VK->XK->Prop
variable{sp:Sp}
abbrev CXT:=List Env->Hp->Shared->XK->Value->Shared->Prop
variable{CX:CXT}
structure fu(P:Program)(w:World)(K:Frag)(mg:Str->Option Value)(base:Heap)(A:Around)(outer:List Env)(s:Shared)(H:Hp):Prop where
 frames:A.frames=some outer
 mod:Mod K mg base
 bs:∀b o,base.get? b=some o->s.heap.get? b=some o/\H b=none
 bsz:base.objs.size<=s.heap.objs.size
 funs:s.heap.FunFrames base outer
 frf:∀b∈frs outer,H b=none
 hok:HOk P w H s.heap
 bare:AllBare s.gens
def CE(outer:List Env)(P:Program)(w:World)(H:Hp)(s:Shared)(Q:VK)(u:Value)(s':Shared):Prop :=
 ∃v H',s'.os=s.os/\AllBare s'.gens/\Un (frs outer) [] H H' s.heap s'.heap/\HOk P w H' s'.heap/\RelV v u/\Q v H'
def CR(CX:CXT)(outer:List Env)(P:Program)(w:World)(H:Hp)(s:Shared)(Q:VK)(E:XK)(r:Result)(s':Shared):Prop :=
 match r with
 | .ok (.ret u)=>CE outer P w H s Q u s'
 | .ok _=>False
 | .error e=>CX outer H s E e s'
structure zU(P:Program)(w:World)(K:Frag)(mg:Str->Option Value)(base:Heap)(CX:CXT)(k:Nat)(f:Addr)(fd:FuncData)(ps:List Str)(sp:Sp)(cm:Bool:=true):Prop where
 len:∀vs H Q E,sp vs H Q E->vs.length=ps.length
 run:∀(A:Around) (outer:List Env) (s:Shared) (H:Hp) (args:Args) (us:List Value) (vs:List V) (Q:VK) (E:XK),aO cm k A->fu P w K mg base A outer s H->BindsTo s fd args (ps.zip us)->Vals vs us->sp vs H Q E ->
  codeAny (model P w) A (.call (.ref f) args) (CR CX outer P w H s Q E) s
theorem zU.mono{k:Nat}(F:zU P w K mg base CX j f fd ps sp)(h:j<=k) :
  zU P w K mg base CX k f fd ps sp:=⟨F.len,λA outer s H args us vs Q E hr=>F.run A outer s H args us vs Q E (hr.mono h)⟩
theorem zU.imp{k:Nat}{sp':Sp}(F:zU P w K mg base CX k f fd ps sp)
  (h:∀vs H Q E,sp' vs H Q E->sp vs H Q E):zU P w K mg base CX k f fd ps sp' :=
 ⟨λvs H Q E q=>F.len vs H Q E (h _ _ _ _ q),λA outer s H args us vs Q E hr he hb hv hs=>F.run A outer s H args us vs Q E hr he hb hv (h _ _ _ _ hs)⟩
theorem fu.make{outer:List Env}{s:Shared}(e:fu P w K mg base A outer s H)(C:Addr)(us:List Value)(kw:List (Str×Value)) :
  fu P w K mg base (A.under (.builtin "type.__call__" ⟨.ref C::us,kw⟩)) outer s H:=⟨by first|exact e.frames | (simpa [Around.under,Code.envs,Code.isFrame,pushEnvs] using e.frames),e.mod,e.bs,e.bsz,e.funs,e.frf,e.hok,e.bare⟩
section
variable{s s':Shared}
theorem Inv.env0(I:Inv X pins σ H s):fu X.prog X.w X.K X.mg X.base X.A X.stack s H :=
 ⟨I.ok.frames,I.ok.mod,I.bs,Nat.le_trans I.ok.bsz I.sz,I.stack,I.stkFree,I.hok,I.bare⟩
theorem Inv.after{Q:VK}(I:Inv X pins σ H s)(h:CE X.stack X.prog X.w H s Q u s'):EP X pins σ Q u s':=by
 obtain⟨v,H',os,bare,un,hok,r,q⟩:=h;obtain⟨hh,g,d,t,os'⟩:=s';obtain rfl:os'=s.os:=os;exact⟨v,H',I.call (h':=hh) (g':=g) (d':=d) (t':=t) (ch:=[]) un hok bare (λb z=>absurd z (by simp)),r,q⟩
end
def ia(sp:Sp)(dvs:List V)(E:XK)(t:TA):TE:=λσ H Q=>t σ H λvs H1=>sp (vs++dvs) H1 Q E
def Binds(K:Frag)(fd:FuncData)(ps:List Str)(ds:List Value):Prop :=
 ∀(s:Shared) (us:List Value),K.In s.heap->(us++ds).length=ps.length->BindsTo s fd ⟨us,[]⟩ (ps.zip (us++ds))
theorem Binds.all(h:∀us:List Value,us.length=ps.length->bindArgs fd ⟨us,[]⟩=pure (ps.zip us)):Binds K fd ps []:=λs us _ hl=>by
 rw[List.append_nil] at hl ⊢;exact .of_eq (h us hl)
def cU(CX:CXT)(X:Cx)(E:XK):Prop:=∀(pins:List (Addr×Obj)) (σ:St) (H:Hp) (s:Shared) (e:Value) (s':Shared),Inv X pins σ H s->CX X.stack H s E e s'->X.xe e s'
section
variable{k:Nat}{dvs:List V}{ds:List Value}{E:XK}{p apos:Pos}{e o:Expr}{t:TA}
theorem BB{s:Shared}{Q:VK}(F:zU X.prog X.w X.K X.mg X.base CX k f fd ps sp)(hr:aS k X.A)(hb:Binds X.K fd ps ds)(hd:Vals dvs ds)(hx:cU CX X E)
  (I:Inv X pins σ H s)(r:Vals vs us)(h:sp (vs++dvs) H Q E):wpAny (model X.prog X.w) X.A (call (.ref f) us) (EP X pins σ Q) X.xe s:=by
 have r2:Vals (vs++dvs) (us++ds):=r.append hd;have hl:(us++ds).length=ps.length:=by rw[<- r2.length];exact F.len _ _ _ _ h
 refine wpAny_call (codeAny_mono (F.run X.A X.stack s H ⟨us,[]⟩ (us++ds) (vs++dvs) Q E hr I.env0 (hb s us I.kIn hl) r2 h) λr s' hq=>?_);cases r with
 |error e=>exact hx pins σ H s e s' I hq
 |ok fl =>
  cases fl with
  |ret u=>exact I.after hq
  |next=>exact False.elim hq
  |brk=>exact False.elim hq
  |cont=>exact False.elim hq
theorem BC(F:zU X.prog X.w X.K X.mg X.base CX k f fd ps sp)(hr:aS k X.A)(hg:Gl X x)(hm:X.mg x=some (.ref f))(hk:keepIn X.K (.ref f)=true)(hb:Binds X.K fd ps ds)(hd:Vals dvs ds)(hx:cU CX X E)
  (ha:PA X (e::es) t)(hdb:(x==("__debug__":Str))=false:=by decide)(he:starEach (e::es) X.env=(false,eval e X.env)::starEach es X.env:=by rfl)(hpl:(backTo pos (starEach es X.env)).any (·.1)=false:=by rfl) :
  PE X (.Call (.Name x p) (e::es) [] pos) (ia sp dvs E t):=by
 intro pins s σ H Q I h;refine wpAny_Call_Name_kw (fm I hg hm ?_ hdb);refine PySem.W.callWith_K (h₀:=X.base) I.ok.mod.kin hk (thn (ha pos pins s σ H _ I h) λus s1 ⟨vs,H1,I1,r,q⟩=>⟨I1.kIn,?_⟩) he hpl;exact BB F hr hb hd hx I1 r q
structure Mk(K:Frag)(C f:Addr):Prop where
 makes:makesIn K C=true
 init:findIn K (.ref C) "__init__"=some (some (.ref f))
 fn:isFn K (.ref f)=true
 kp:keepIn K (.ref C)=true
end
def PK(X:Cx)(kws:List Keyword)(t:TA):Prop :=
 ∀(pos:Pos) (pins:List (Addr×Obj)) (s:Shared) (σ:St) (H:Hp) (Q:List V->Hp->Prop),Inv X pins σ H s->t σ H Q->wpAny (model X.prog X.w) X.A (evalAll ((backToKw pos (keywordEach kws X.env)).map (·.2))) (AP X pins σ Q) X.xe s
section
variable{k:Nat}{ks:List Str}{E:XK}{p apos kpos:Pos}{e o:Expr}{kws:List Keyword}{t tk:TA}{nm:Option Str}
theorem BD:PK X [] bJ:=λ_ _ _ _ H Q I h=>wpAny_evalAll_nil ⟨[],H,I,.nil,h⟩
theorem BE(ha:PE X e te)(hr:PK X kws t):PK X (⟨nm,e,kpos⟩::kws) (cy te t):=by
 intro pos pins s σ H Q I h;show wpAny _ _ (evalAll ((do let v<-eval e X.env;standAt pos;pure v)::(backToKw pos (keywordEach kws X.env)).map (·.2))) _ _ s;refine wpAny_evalAll_cons (wpAny_bind (thn (ha pins s σ H _ I h) λu s1 ⟨x,H1,I1,r1,q1⟩=>wpAny_bind (wpAny_standAt (wpAny_pure ?_))));exact thn (hr pos pins s1 σ H1 _ I1 q1) λus s2 ⟨xs,H2,I2,r2,q2⟩=>⟨x::xs,H2,I2,.cons r1 r2,q2⟩
structure cV(K:Frag)(fd:FuncData)(ps ks:List Str)(g:List Value->List Value->List Value)(gV:List V->List V->List V):Prop where
 to:∀(s:Shared) (us ws:List Value),K.In s.heap->(g us ws).length=ps.length->BindsTo s fd ⟨us,ks.zip ws⟩ (ps.zip (g us ws))
 rel:∀{vs:List V} {us:List Value} {zs:List V} {ws:List Value},Vals vs us->Vals zs ws->Vals (gV vs zs) (g us ws)
variable{g:List Value->List Value->List Value}{gV:List V->List V->List V}
theorem qD{s:Shared}{Q:VK}{ws:List Value}{zs:List V}(F:zU X.prog X.w X.K X.mg X.base CX k f fd ps sp)(hr:aS k X.A)(hb:cV X.K fd ps ks g gV)(hx:cU CX X E)
  (I:Inv X pins σ H s)(r:Vals vs us)(rz:Vals zs ws)(h:sp (gV vs zs) H Q E):wpAny (model X.prog X.w) X.A (call (.ref f) us (ks.zip ws)) (EP X pins σ Q) X.xe s:=by
 have r2:=hb.rel r rz;have hl:(g us ws).length=ps.length:=by rw[<- r2.length];exact F.len _ _ _ _ h
 refine wpAny_call (codeAny_mono (F.run X.A X.stack s H ⟨us,ks.zip ws⟩ (g us ws) (gV vs zs) Q E hr I.env0 (hb.to s us ws I.kIn hl) r2 h) λr s' hq=>?_);cases r with
 |error e=>exact hx pins σ H s e s' I hq
 |ok fl =>
  cases fl with
  |ret u=>exact I.after hq
  |next=>exact False.elim hq
  |brk=>exact False.elim hq
  |cont=>exact False.elim hq
end
structure zG(N P:List Str)(sc:Scope):Prop where
 kind:sc.kind= .function
 co:sc.isCoroutine=false
 gen:sc.isGenerator=false
 nd:N.Nodup
 pre:N.take P.length=P
 par:∀x∈P,sc.names.lookup x=some .local\/sc.names.lookup x=some .cell
 nofree:∀y∈sc.names,y.2≠ .free
theorem qE{kindOf:Str->Option NameKind}{x:Str}:∀{binds:List (Str×Value)} {m:Str->Option Value},(∀v,(x,v)∉binds)->bindL kindOf binds m x=m x
 | [],_,_=>rfl
 | (n,v)::r,m,h=>by
  unfold bindL;rw[qE λw hw=>h w (List.mem_cons_of_mem _ hw)];split
  .have:x≠n:=by rintro rfl;exact h v List.mem_cons_self
   simp[this]
  .rfl
theorem qF{kindOf:Str->Option NameKind}{x:Str}:∀{binds:List (Str×Value)} {m:Str->Option Value},(∀v,(x,v)∉binds)->bindC kindOf binds m x=m x
 | [],_,_=>rfl
 | (n,v)::r,m,h=>by
  unfold bindC;rw[qF λw hw=>h w (List.mem_cons_of_mem _ hw)];split
  .rfl
  .have:x≠n:=by rintro rfl;exact h v List.mem_cons_self
   simp[this]
theorem qH{kindOf:Str->Option NameKind}{x:Str}{v:Value}:∀{P:List Str} {vs:List Value} {i:Nat} {m:Str->Option Value},P.Nodup->P[i]? = some x->vs[i]? = some v->kindOf x=some .local ->
  bindL kindOf (P.zip vs) m x=some v
 | [],_,_,_,_,h,_,_=>by simp at h
 |_::_,[],_,_,_,_,h,_=>by simp at h
 |p::P,w::vs,0,m,nd,h1,h2,hk=>by
  simp at h1 h2;subst h1;subst h2;show bindL kindOf ((p,w)::P.zip vs) m p=_;unfold bindL;rw[qE λv hv=>(List.nodup_cons.mp nd).1 (List.of_mem_zip hv).1,if_pos hk];simp
 |p::P,w::vs,i+1,m,nd,h1,h2,hk=>by
  show bindL kindOf ((p,w)::P.zip vs) m x=_;unfold bindL;exact qH (i:=i) (List.nodup_cons.mp nd).2 (by simpa using h1) (by simpa using h2) hk
theorem qI{kindOf:Str->Option NameKind}{x:Str}{v:Value}:∀{P:List Str} {vs:List Value} {i:Nat} {m:Str->Option Value},P.Nodup->P[i]? = some x->vs[i]? = some v->kindOf x≠some .local ->
  bindC kindOf (P.zip vs) m x=some v
 | [],_,_,_,_,h,_,_=>by simp at h
 |_::_,[],_,_,_,_,h,_=>by simp at h
 |p::P,w::vs,0,m,nd,h1,h2,hk=>by
  simp at h1 h2;subst h1;subst h2;show bindC kindOf ((p,w)::P.zip vs) m p=_;unfold bindC;rw[qF λv hv=>(List.nodup_cons.mp nd).1 (List.of_mem_zip hv).1,if_neg hk];simp
 |p::P,w::vs,i+1,m,nd,h1,h2,hk=>by
  show bindC kindOf ((p,w)::P.zip vs) m x=_;unfold bindC;exact qI (i:=i) (List.nodup_cons.mp nd).2 (by simpa using h1) (by simpa using h2) hk
def start(N:List Str)(vs:List V):St:=vs.map some++List.replicate (N.length - vs.length) none
def cz(CX:CXT)(P:Program)(w:World)(K:Frag)(mg:Str->Option Value)(base:Heap)(N:List Str)(qual:Str)(scope:Scope)(f:Addr)(cd:Value)(A:Around)(outer:List Env)(s:Shared)(H:Hp)(E:XK)(cm:Bool:=true):Cx where
 prog:=P
 w:=w
 K:=K
 mg:=mg
 base:=base
 A:=A.deeper (envOfC qual scope s.heap.objs.size f cd)
 N:=N
 s₀:=s
 H₀:=H
 env:=envOfC qual scope s.heap.objs.size f cd
 outer:=outer
 stack:=envOfC qual scope s.heap.objs.size f cd::outer
 ex:=[]
 calm:=cm
 fn:=λ_=>true
 pn:=[]
 xe:=λe s'=>wpAny (model P w) (A.deeper (envOfC qual scope s.heap.objs.size f cd)) (leaving (envOfC qual scope s.heap.objs.size f cd) e) (λ_ s''=>CX outer H s E e s'') (λe' s''=>CX outer H s E e' s'') s'
theorem qJ{sc:Scope}{n:Nat}(h:sc.names.lookup x=some .cell):∃c,(cellsFrom n sc.names []).lookup x=some c:=by
 have q:=PySem.W.cellsFrom_some sc.names n [] (.inl h);exact Option.isSome_iff_exists.mp q
theorem BF{qual:Str}{scope:Scope}{cd:Value}{outer:List Env}{s s1:Shared}{E:XK}
  (S:zG N ps scope)(hd:cm=true->A.handled=none)(e0:fu P w K mg base A outer s H)(hl:vs.length=ps.length)(r:Vals vs us)
  (x:InCallC s s.heap.objs.size (bindL (envOfC qual scope s.heap.objs.size f cd).kindOf (ps.zip us) λ_=>none) (cellsFrom (s.heap.objs.size+1) scope.names []) (bindC (envOfC qual scope s.heap.objs.size f cd).kindOf (ps.zip us) λ_=>none) s1) :
  Inv (cz CX P w K mg base N qual scope f cd A outer s H E cm) [] (start N vs) H s1:=by
 have hpl:ps.length<=N.length:=by have:=congrArg List.length S.pre;rw[List.length_take] at this;omega
 obtain⟨h1,tk,rfl,hk⟩:=x.done;have noA:∀b:Addr,b∉(cz CX P w K mg base N qual scope f cd A outer s H E cm).ex:=λb z=>absurd (show b∈([]:List Addr) from z) (by simp)
 refine⟨⟨e0.mod,S.kind,rfl,rfl,Nat.le_refl _,λy z c h1 h2=>?_,λy hy=>?_,λy c _ h=>?_,hd,Around.frames_deeper e0.frames,.inr ⟨rfl,rfl⟩,λb z=>absurd z (noA b),e0.bs,e0.bsz,λb _ _=>noA b,λb z=>absurd z (noA b),e0.funs,e0.frf⟩,
  rfl,e0.bare,Un.kept hk,⟨_,x.toInCall.ns,λi y v h1 h2 h3=>?_⟩,λy c h=>⟨_,x.cell y c h⟩,e0.hok.fresh (Nat.le_refl _),λy c h=>?_,λp hp=>absurd (show p∈([]:List (Addr×Obj)) from hp) (by simp),e0.hok.kept hk,?_⟩
 .exact name_of_addr x.apart (PySem.mem_of_lookup h1) (PySem.mem_of_lookup h2)
 .have hy:scope.names.lookup y=some .cell\/scope.names.lookup y=some .free:=hy;rcases hy with hy|hy
  .exact qJ hy
  .exact absurd rfl (S.nofree _ (PySem.mem_of_lookup hy))
 .exact Nat.le_of_lt (x.above y c (PySem.mem_of_lookup h))
 .have hi:i < vs.length:=by
   unfold start at h2;by_cases hi:i < vs.length
   .exact hi
   .rw[List.getElem?_append_right (by simpa using hi)] at h2;rw[List.getElem?_replicate] at h2;split at h2<;>cases h2
  have ha:vs[i]? = some v:=by
   unfold start at h2;rw[List.getElem?_append_left (by simpa using hi),List.getElem?_map] at h2;cases e:vs[i]? with
   |none=>rw[e] at h2;cases h2
   |some a=>rw[e] at h2;cases h2;rfl
  obtain⟨u,hu,rv⟩:=r.get ha;have hp:ps[i]? = some y:=by
   rw[<- S.pre,List.getElem?_take_of_lt (by omega)];exact h1
  have ndP:ps.Nodup:=by rw[<- S.pre];exact S.nd.sublist (List.take_sublist _ _)
  refine⟨u,rv,?_⟩;rcases S.par y (List.mem_of_getElem? hp) with k|k
  .exact .inl ⟨k,qH ndP hp hu k⟩
  .obtain⟨c,e⟩:=qJ (n:=s.heap.objs.size+1) k;refine .inr ⟨.inl k,c,e,?_⟩;have q:=x.cell y c e;rw[qI ndP hp hu (by show scope.names.lookup y≠_;rw[k];decide)] at q;exact q
 .exact e0.hok.fresh (Nat.le_of_lt (x.above y c (PySem.mem_of_lookup h)))
 .unfold start;show _=N.length;rw[List.length_append,List.length_map,List.length_replicate];omega
theorem my{k:Nat}{name qual:Str}{params:Arguments}{body:List Stmt}{scope:Scope}{dV kV doc pm cdv ct oc:Value}{an od:Option Addr}
  {osl:Array (Option Value)}(lk:K.lookup f=some ⟨oc,od,.func (fnOf name qual params body scope dV kV doc pm an cdv ct),osl⟩)(hcd:codeIn K cdv qual=true)(S:zG N ps scope)
  (len:∀vs H Q E,sp vs H Q E->vs.length=ps.length)
  (hbody:∀(A:Around) (outer:List Env) (s:Shared) (H:Hp) (vs:List V) (Q:VK) (E:XK),aO cm k (A.deeper (envOfC qual scope s.heap.objs.size f cdv))->sp vs H Q E ->
   ∃t,PSs (cz CX P w K mg base N qual scope f cdv A outer s H E cm) body t/\t {nx:=λ_ H'=>Q .non H',rt:=Q} (start N vs) H) :
  zU P w K mg base CX (k+1) f (fnOf name qual params body scope dV kV doc pm an cdv ct) ps sp cm:=by
 refine⟨len,λA outer s H args us vs Q E hr e0 hb r hsp=>?_⟩;have hl:=len _ _ _ _ hsp;have KX:K.In s.heap:=e0.mod.kin.keeps λb o e=>(e0.bs b o e).1
 have lim:s.heap.NoLimit:=e0.mod.nolimit.keeps λb o e=>(e0.bs b o e).1
 have hkind:∀y∈ps.zip us,scope.names.lookup y.1=some .local\/(scope.names.lookup y.1=some .cell/\((cellsFrom (s.heap.objs.size+1) scope.names []).lookup y.1).isSome=true):=λ⟨n,v⟩ hy=>by
  rcases S.par n (List.of_mem_zip hy).1 with q|q
  .exact .inl q
  .exact .inr ⟨q,PySem.W.cellsFrom_some _ _ _ (.inl q)⟩
 refine codeAny_call_function hr.depth (KX _ _ lk) rfl S.co S.gen rfl (PySem.W.codeRec_of KX hcd) (hb _ _ _ _ ?_);refine wpAny_newFunctionEnv_cells S.kind hkind λenv he s1 x=>?_
 subst he;refine⟨lim.keeps x.toInCall.keep,codeAny_func ?_⟩;obtain⟨t,ht,hq⟩:=hbody A outer s H vs Q E (hr.deeper _) hsp;have I:Inv (cz CX P w K mg base N qual scope f cdv A outer s H E cm) [] (start N vs) H s1:=BF S hr.hd e0 hl r x;refine wpAny_mono (ht [] s1 (start N vs) H _ I hq) (λfl s' hs=>?_) λe s' hs=>hs
 have fin:∀{σ':St} {H':Hp} {v:V} {u:Value},Inv (cz CX P w K mg base N qual scope f cdv A outer s H E cm) [] σ' H' s'->RelV v u->Q v H'->CE outer P w H s Q u s' :=
  λ{σ' H' v u} J rv q=>⟨v,H',J.os,J.bare,J.base,J.hok,rv,q⟩
 cases fl with
 |ret u =>
  obtain⟨v,σ',H',J,rv,q⟩:=hs;exact fin J rv q
 |next =>
  obtain⟨σ',H',J,q⟩:=hs;exact fin (v:=V.non) (u:=Value.none) J rfl q
 |brk =>
  obtain⟨_,_,_,q⟩:=hs;exact False.elim q
 |cont =>
  obtain⟨_,_,_,q⟩:=hs;exact False.elim q
section
variable{p:Pos}{e:Expr}{t:TA}{id T:String}{r:List V->Hp->VK->Prop}
def tCB(r:List V->Hp->VK->Prop)(t:TA):TE:=λσ H Q=>t σ H λvs H1=>r vs H1 Q
theorem BG(hc:zW X (.builtin id) r)(hg:Gl X x)(hm:X.mg x=none)(hv:bootBuiltins x=some (.builtin id))(ha:PA X (e::es) t)(hn:x≠"__name__":=by decide)(hdb:(x==("__debug__":Str))=false:=by decide)
  (he:starEach (e::es) X.env=(false,eval e X.env)::starEach es X.env:=by rfl)(hpl:(backTo pos (starEach es X.env)).any (·.1)=false:=by rfl):PE X (.Call (.Name x p) (e::es) [] pos) (tCB r t):=by
 intro pins s σ H Q I h;refine wpAny_Call_Name_kw (hU I hg hm hv ?_ hn hdb);exact PyProof.Rows.callWith_builtin1 (thn (ha pos pins s σ H _ I h) λus s1 ⟨vs,H1,I1,r1,q1⟩=>hc pins s1 σ H1 vs us Q I1 r1 q1) he hpl
theorem BH(hc:zW X (.type T) r)(hg:Gl X x)(hm:X.mg x=none)(hv:bootBuiltins x=some (.type T))(ha:PA X (e::es) t)(hn:x≠"__name__":=by decide)(hdb:(x==("__debug__":Str))=false:=by decide)
  (he:starEach (e::es) X.env=(false,eval e X.env)::starEach es X.env:=by rfl)(hpl:(backTo pos (starEach es X.env)).any (·.1)=false:=by rfl):PE X (.Call (.Name x p) (e::es) [] pos) (tCB r t):=by
 intro pins s σ H Q I h;refine wpAny_Call_Name_kw (hU I hg hm hv ?_ hn hdb);exact PyProof.Rows.callWith_type1 (thn (ha pos pins s σ H _ I h) λus s1 ⟨vs,H1,I1,r1,q1⟩=>hc pins s1 σ H1 vs us Q I1 r1 q1) he hpl
end
end L2
namespace HT
open PySem PyProof.Rows
section
open PySem.SeqAt
open PySem.AutoSeq1 (wpAny_loadPart')
open PySem.MeetsSeq PySem.MeetsSeq2 PySem.MeetsSeq3
end
section
variable{prog:Program}{w:World}{A:Around}{E:Value->Shared->Prop}{s:Shared}
theorem BI{t b:Addr}{vs ws:List Value}{Q:Value->Shared->Prop}(ht:IsTup s.heap t vs.toArray)(hb:IsTup s.heap b ws.toArray)(hv:vs≠[])
  (h1:ws=[]->Q (.ref t) s)(h2:ws≠[]->Q (.ref s.heap.objs.size) {s with heap:=s.heap.push {cls:= .type "tuple",data:= .seq (vs++ws).toArray}})
  (hsz:vs.length+ws.length<=sizeLine):wpAny (model prog w) A (binaryOp .Add (.ref t) (.ref b)) Q E s:=by
 obtain⟨⟨cls,dd,data,sl⟩,ho,hc,n,hd⟩:=id ht;obtain⟨⟨cls2,dd2,data2,sl2⟩,ho2,hc2,n2,hd2⟩:=id hb;simp only at hc hd hc2 hd2;subst hc hd hc2 hd2;have e:vs.toArray++ws.toArray=(vs++ws).toArray:=by simp
 by_cases hw:ws=[]
 .exact concat_meets ⟨_,ho,rfl⟩ ⟨_,ho2,rfl⟩ noFill_tuple_add seq_tuple_add PySem.F.slot_tuple_add PySem.F.entry_tuple_add (PySem.F.args_tuple_add_2 _ _)
   (tuple_addW1 t b vs.toArray ws.toArray n n2 dd dd2 sl sl2 (by simpa using hv) (by simp[hw])) ⟨ho,ho2,h1 hw⟩
 .refine concat_meets ⟨_,ho,rfl⟩ ⟨_,ho2,rfl⟩ noFill_tuple_add seq_tuple_add PySem.F.slot_tuple_add PySem.F.entry_tuple_add (PySem.F.args_tuple_add_2 _ _)
   (tuple_addW2 t b vs.toArray ws.toArray n n2 dd dd2 sl sl2 (by simpa using hv) (by simpa using hw) (by rw[List.size_toArray,List.size_toArray];exact hsz)) ⟨ho,ho2,?_⟩
  rw[e];exact h2 hw
def sIx(n d:Nat):Option Int->Nat
 |none=>d
 |some v=>if v < 0 then(v+(n:Int)).toNat else min v.toNat n
theorem qK(n d:Nat):sIx n d none=d:=rfl
theorem bO(n d k:Nat):sIx n d (some (k:Int))=min k n:=by
 show(if (k:Int) < 0 then((k:Int)+(n:Int)).toNat else min (k:Int).toNat n)=min k n;rw[if_neg (by omega),Int.toNat_natCast]
theorem BJ(n d:Nat)(hd:d<=n)(o:Option Int):sIx n d o<=n:=by
 cases o with
 |none=>exact hd
 |some v =>
  show(if v < 0 then(v+(n:Int)).toNat else min v.toNat n)<=n;by_cases hv:v < 0
  .rw[if_pos hv];omega
  .rw[if_neg hv];exact Nat.min_le_right _ _
theorem qL(v:Int)(n d:Nat):(if v < 0 then max (v+(n:Int)) 0 else min v (n:Int))=((sIx n d (some v):Nat):Int):=by
 show(if v < 0 then max (v+(n:Int)) 0 else min v (n:Int))=(((if v < 0 then(v+(n:Int)).toNat else min v.toNat n):Nat):Int);by_cases hv:v < 0
 .simp only[if_pos hv];omega
 .simp only[if_neg hv];omega
theorem BK(lo hi:Option Int)(n:Nat):Builtin.Slice.sliceAdjust lo hi 1 (n:Int)=(((sIx n 0 lo:Nat):Int),((sIx n n hi:Nat):Int)):=by
 have h1:¬ ((1:Int) < 0):=by omega
 unfold Builtin.Slice.sliceAdjust;simp only[h1,if_false];refine Prod.ext ?_ ?_
 .cases lo with
  |none=>rfl
  |some v=>exact qL v n 0
 .cases hi with
  |none=>rfl
  |some v=>exact qL v n n
theorem BL(i j:Nat):Builtin.Slice.slicePlaces (i:Int) (j:Int) 1=j - i:=by
 unfold Builtin.Slice.slicePlaces;have h1:(1:Int) > 0:=by omega
 simp only[h1,if_true,Int.ediv_one];split<;>omega
theorem ib{v:Value}{o:Option Int}{Q:Option Int->Shared->Prop}(p:IsPart v o)(h:Q o s):wpAny (model prog w) A (Builtin.Slice.slicePartIndex v) Q E s:=by
 cases p with
 |none=>exact slicePart_none h
 |int i t=>exact slicePart_int h
theorem BM{sl:Addr}{vl vu:Value}{lo hi:Option Int}{n:Nat}{Q:Int×Int×Nat->Shared->Prop}(hs:s.heap.IsSliceOf sl vl vu .none)(pl:IsPart vl lo)(pu:IsPart vu hi)
  (h:Q (((sIx n 0 lo:Nat):Int),1,sIx n n hi - sIx n 0 lo) s):wpAny (model prog w) A (Builtin.Slice.sliceApplied (.ref sl) (pure (n:Int))) Q E s:=by
 obtain⟨os,hos,hcs,hds⟩:=id hs;unfold Builtin.Slice.sliceApplied Builtin.Slice.sliceFields;refine wpAny_bind (wpAny_bind (wpAny_field hos hds (x:=vl) rfl (wpAny_bind (wpAny_field hos hds (x:=vu) rfl (wpAny_bind (wpAny_field hos hds (x:= .none) rfl (wpAny_pure ?_)))))));refine wpAny_bind (slicePart_none ?_);show wpAny _ _ (if ((1:Int)==0)=true then _ else _) _ _ s;rw[if_neg (by decide)];refine wpAny_bind (ib pl (wpAny_bind (ib pu (wpAny_bind (wpAny_pure ?_)))));show wpAny _ _ (match Builtin.Slice.sliceAdjust lo hi 1 (n:Int) with | (lo,hi)=>pure (lo,(1:Int),Builtin.Slice.slicePlaces lo hi 1)) _ _ s;rw[BK lo hi n];show wpAny _ _ (pure (((sIx n 0 lo:Nat):Int),(1:Int),Builtin.Slice.slicePlaces ((sIx n 0 lo:Nat):Int) ((sIx n n hi:Nat):Int) 1)) _ _ s;rw[BL];exact wpAny_pure h
theorem BN(xs:Array Value)(i k:Nat):((List.range k).filterMap λ(m:Nat)=>xs[((i:Int)+(m:Int)*1).toNat]?).toArray=((xs.toList.drop i).take k).toArray:=by
 have e:(λ(m:Nat)=>xs[((i:Int)+(m:Int)*1).toNat]?)=λm=>xs[i+m]? := by
  funext m;have:((i:Int)+(m:Int)*1).toNat=i+m:=by omega
  rw[this]
 rw[e];have:=pick_run xs i k;rw[List.filterMap_map] at this;have e2:((λx=>xs[x]?)∘λx=>i+x)=λm=>xs[i+m]? := rfl
 rw[e2] at this;rw[this]
theorem BO{t sl:Addr}{items:Array Value}{vl vu:Value}{lo hi:Option Int}{Q:Value->Shared->Prop}(ht:IsTup s.heap t items)(hs:s.heap.IsSliceOf sl vl vu .none)(pl:IsPart vl lo)(pu:IsPart vu hi)
  (hw:¬ (sIx items.size 0 lo=0/\sIx items.size items.size hi=items.size))
  (h:Q (.ref s.heap.objs.size) {s with heap:=s.heap.push {cls:= .type "tuple",data:= .seq ((items.toList.drop (sIx items.size 0 lo)).take (sIx items.size items.size hi - sIx items.size 0 lo)).toArray}})
  (hsz:items.size<=sizeLine):wpAny (model prog w) A (getItem (.ref t) (.ref sl)) Q E s:=by
 have htake:sizeOk (.seq ((items.toList.drop (sIx items.size 0 lo)).take (sIx items.size items.size hi - sIx items.size 0 lo)).toArray):=by
  show((items.toList.drop (sIx items.size 0 lo)).take (sIx items.size items.size hi - sIx items.size 0 lo)).toArray.size<=sizeLine;rw[List.size_toArray,List.length_take,List.length_drop,Array.length_toList];omega
 have hj:sIx items.size items.size hi<=items.size:=BJ _ _ (Nat.le_refl _) hi;obtain⟨os,hos,hcs,hds⟩:=id hs;have hTs:s.TypeIs (.ref sl) "slice":=⟨os,hos,hcs⟩;unfold getItem;try with_reducible refine wpAny_holding ?_
 first|refine wpAny_bind (wpAny_pure ?_)|skip
 refine wpAny_bind (wpAny_sequenceKey ht.typeIs (by decide) ?_);refine wpAny_bind (wpAny_callSpecial?_slot (name:=Str.ofString "__getitem__") ht.typeIs PyProof.Rows.slot_tuple_getitem
  (wpAny_call_entry PyProof.Rows.slot_tuple_getitem ht.typeIs entry_tuple_getitem ?_ (args_tuple_getitem _ _)))
 show wpAny _ _ (Builtin.Tuple.tupleItemsOf (.ref t) >>= _) _ _ s;refine wpAny_bind (tupleItemsOf_ ht ?_);refine wpAny_bind (wpAny_typeOf hTs ?_);rw[if_pos (by decide)];refine wpAny_bind (BM hs pl pu ?_);have hno:¬ ((((sIx items.size 0 lo:Nat):Int)==0&&(1:Int)==1&&(sIx items.size items.size hi - sIx items.size 0 lo)==items.size)=true):=by
  intro q;rw[Bool.and_eq_true,Bool.and_eq_true] at q;have q1:((sIx items.size 0 lo:Nat):Int)=0:=eq_of_beq q.1.1;have q2:sIx items.size items.size hi - sIx items.size 0 lo=items.size:=eq_of_beq q.2;exact hw ⟨by omega,by omega⟩
 show wpAny _ _ (if (((sIx items.size 0 lo:Nat):Int)==0&&(1:Int)==1&&(sIx items.size items.size hi - sIx items.size 0 lo)==items.size)=true then _ else _) _ _ s;rw[if_neg hno,BN];first
  |exact wpAny_bind (m:=Builtin.Tuple.tupleExact _) (wpAny_newObj_type (wpAny_pure ⟨_,rfl,wpAny_pure h⟩) htake)
  |exact wpAny_bind (m:=Builtin.Tuple.tupleExact _) (wpAny_newObj_type (wpAny_bind (wpAny_pure (wpAny_pure ⟨_,rfl,wpAny_pure h⟩))) htake)
  |exact wpAny_bind (wpAny_bind (m:=Builtin.Tuple.tupleExact _) (wpAny_newObj_type (wpAny_pure (wpAny_pure ⟨_,rfl,wpAny_pure h⟩)) htake))
  |exact wpAny_bind (wpAny_bind (m:=Builtin.Tuple.tupleExact _) (wpAny_newObj_type (wpAny_pure ⟨_,rfl,wpAny_pure h⟩) htake))
end
end HT
namespace L2
open PySem PySem.Spec PyProof.Rows
variable{pins:List (Addr×Obj)}{H H':Hp}{X:Cx}{u:Value}{σ:St}{y x:V}{kvs:List (List Key×V)}{pos:Pos}{A:Around}{E Q:Value->Shared->Prop}{a:Addr}{xs:List V}{w:World}{α:Type}{its:List Value}{t':Nat}{P:Program}{T:String}
abbrev TO:=St->Hp->(Option Int->Hp->Prop)->Prop
def PO(X:Cx)(e:Option Expr)(t:TO):Prop :=
 ∀(pins:List (Addr×Obj)) (s:Shared) (σ:St) (H:Hp) (Q:Option Int->Hp->Prop),Inv X pins σ H s->t σ H Q ->
  wpAny (model X.prog X.w) X.A (evalPart e X.env) (λu s'=>∃o H',Inv X pins σ H' s'/\IsPart u o/\Q o H') X.xe s
def mz:TO:=λ_ H Q=>Q none H
def mB(t:TE):TO:=λσ H Q=>t σ H λx H1=>∃i,x= .int i/\Q (some i) H1
section
variable{e:Expr}{te:TE}{lo hi:Option Expr}{tl th:TO}{p2:Pos}
theorem BP:PO X none mz:=by
 intro pins s σ H Q I h;rw[evalPart_none];exact wpAny_pure ⟨none,H,I,.none,h⟩
theorem BQ(h:PE X e te):PO X (some e) (mB te):=by
 intro pins s σ H Q I hw;rw[evalPart_some];refine thn (h pins s σ H _ I hw) λu s1 ⟨x,H1,I1,r1,q1⟩=>?_
 obtain⟨i,rfl,q⟩:=q1;obtain⟨t,rfl⟩:=r1;exact⟨some i,H1,I1,.int i t,q⟩
def SlR(X:Cx)(r:V->Option Int->Option Int->Hp->VK->Prop):Prop :=
 ∀(pins:List (Addr×Obj)) (s:Shared) (σ:St) (H:Hp) (x:V) (v vl vu:Value) (lo hi:Option Int) (sl:Addr) (Q:VK),Inv X pins σ H s->RelV x v->s.heap.IsSliceOf sl vl vu .none->IsPart vl lo->IsPart vu hi->r x lo hi H Q ->
  ∃T id,typeLookup (.type T) "__getitem__"=pure (some (.builtin id))/\s.TypeIs v T/\wpAny (model X.prog X.w) X.A (getItem v (.ref sl)) (EP X pins σ Q) X.xe s
theorem SlR.or{r r':V->Option Int->Option Int->Hp->VK->Prop}(h:SlR X r)(h':SlR X r'):SlR X (λx lo hi H Q=>r x lo hi H Q\/r' x lo hi H Q):=by
 intro pins s σ H x v vl vu lo hi sl Q I rx hs pl pu q;rcases q with q|q
 .exact h pins s σ H x v vl vu lo hi sl Q I rx hs pl pu q
 .exact h' pins s σ H x v vl vu lo hi sl Q I rx hs pl pu q
def tSl(r:V->Option Int->Option Int->Hp->VK->Prop)(te:TE)(tl th:TO):TE:=λσ H Q=>te σ H λx H1=>tl σ H1 λl H2=>th σ H2 λu H3=>r x l u H3 Q
theorem BR{r:V->Option Int->Option Int->Hp->VK->Prop}(hr:SlR X r)(he:PE X e te)(hl:PO X lo tl)(hu:PO X hi th):PE X (.Subscript e (.Slice lo hi none p2) pos) (tSl r te tl th):=by
 intro pins s σ H Q I h;refine Subscript_ (thn (he pins s σ H _ I h) λv s1 ⟨x,H1,I1,r1,q1⟩=>?_);refine wpAny_Slice (thn (hl pins s1 σ H1 _ I1 q1) λvl s2 ⟨l,H2,I2,pl,q2⟩=>thn (hu pins s2 σ H2 _ I2 q2) λvu s3 ⟨u,H3,I3,pu,q3⟩=>?_);rw[evalPart_none];refine wpAny_pure ?_;have I4:Inv X pins σ H3 {s3 with heap:=s3.heap.push {cls:= .type "slice",data:= .fields #[vl,vu,.none]}}:=I3.kept (t':=s3.toks) λb ob q=>Heap.get?_push_of_some _ q
 obtain⟨T,id,hT,ht,hg⟩:=hr pins {s3 with heap:=s3.heap.push {cls:= .type "slice",data:= .fields #[vl,vu,.none]}} σ H3 x v vl vu l u s3.heap.objs.size Q I4 r1 (Heap.IsSliceOf.new ..) pl pu q3;show wpAny (model X.prog X.w) X.A (subscriptTail e (.Slice lo hi none p2) v (.ref s3.heap.objs.size)) (EP X pins σ Q) X.xe {s3 with heap:=s3.heap.push {cls:= .type "slice",data:= .fields #[vl,vu,.none]}};exact tail_any (ops:=[.ref s3.heap.objs.size,v]) ht hT hg (by with_unfolding_all rfl)
def cA(xs:List V)(lo hi:Option Int):List V:=(xs.drop (HT.sIx xs.length 0 lo)).take (HT.sIx xs.length xs.length hi - HT.sIx xs.length 0 lo)
theorem qM(xs:List V)(lo hi:Option Int):(cA xs lo hi).length<=xs.length:=by
 unfold cA;rw[List.length_take,List.length_drop];omega
def qN(K:Frag):V->Option Int->Option Int->Hp->VK->Prop:=λx lo hi H Q=>∃a xs,x= .ref a/\SqT K H a xs /\
 ¬ (HT.sIx xs.length 0 lo=0/\HT.sIx xs.length xs.length hi=xs.length)/\∀p,H p=none->Q (.ref p) (upd H p (.tup (cA xs lo hi)))
theorem BS:SlR X (qN X.K):=by
 intro pins s σ H x v vl vu lo hi sl Q I rx hs pl pu h;obtain⟨a,xs,rfl,hx,hw,q⟩:=h;cases rx;obtain⟨its,r,ht,hz⟩:=I.tuple hx;have hlen:its.toArray.size=xs.length:=by rw[List.size_toArray];exact r.length.symm
 refine⟨"tuple",_,PyProof.Rows.slot_tuple_getitem.lookup,ht.typeIs,?_⟩;refine HT.BO ht hs pl pu (by rw[hlen];exact hw) ?_ (by rw[hlen];exact hz);rw[hlen];refine⟨.ref s.heap.objs.size,_,I.laid (t':=s.toks) (o:= .tup (cA xs lo hi)) (λb ob q=>Heap.get?_push_of_some _ q) (Nat.le_refl _) ?_,rfl,q _ (I.hok.fresh (Nat.le_refl _))⟩;exact⟨Nat.le_trans (qM xs lo hi) hz,_,(r.drop (HT.sIx xs.length 0 lo)).take (HT.sIx xs.length xs.length hi - HT.sIx xs.length 0 lo),IsTup.new _ _⟩
def qO(K:Frag):R2:=λx y H Q=>∃a b xs ys,x= .ref a/\y= .ref b/\SqT K H a xs/\SqT K H b ys/\xs≠[]/\xs.length+ys.length<=sizeLine /\
 (ys=[]->Q (.ref a) H)/\(ys≠[]->∀p,H p=none->Q (.ref p) (upd H p (.tup (xs++ys))))
theorem Vals.nil_iff{us:List Value}(r:Vals xs us):us=[]↔xs=[]:=by
 cases r with
 |nil=>simp
 |cons _ _=>simp
theorem BU:OpR X (binaryOp .Add) (qO X.K):=by
 intro pins s σ H x y v u Q I rx ry h;obtain⟨a,b,xs,ys,rfl,rfl,ha,hb,hx,hz,q1,q2⟩:=h;cases rx;cases ry;obtain⟨its,r1,p1,_⟩:=I.tuple ha;obtain⟨its2,r2,p2,_⟩:=I.tuple hb;refine HT.BI p1 p2 (λz=>hx (r1.nil_iff.mp z)) (λz=>⟨.ref a,H,I,rfl,q1 (r2.nil_iff.mp z)⟩) (λz=>?_) (by rw[<- r1.length,<- r2.length];exact hz);refine⟨.ref s.heap.objs.size,_,I.laid (t':=s.toks) (o:= .tup (xs++ys)) (λb ob q=>Heap.get?_push_of_some _ q) (Nat.le_refl _) ?_,rfl,q2 (λw=>z (r2.nil_iff.mpr w)) _ (I.hok.fresh (Nat.le_refl _))⟩;exact⟨by rw[List.length_append];exact hz,_,r1.append r2,IsTup.new _ _⟩
end
def ixN(n:Nat)(i:Int):Option Nat:=if 0<=i then(if i < n then some i.toNat else none) else if -(n:Int)<=i then some (i+n).toNat else none
def atI(xs:List α)(i:Int):Option α:=(ixN xs.length i).bind λj=>xs[j]?
theorem qP{n:Nat}{i:Int}{j:Nat}(h:ixN n i=some j):seqIndex? i n=some j/\j < n/\ -(n:Int)<=i/\i < n:=by
 unfold ixN at h;by_cases h0:0<=i
 .rw[if_pos h0] at h;by_cases h1:i < n
  .rw[if_pos h1] at h;have e:i.toNat=j:=Option.some.inj h;exact⟨by rw[seqIndex_of h0 h1,e],by omega,by omega,h1⟩
  .rw[if_neg h1] at h;cases h
 .rw[if_neg h0] at h;by_cases h1: -(n:Int)<=i
  .rw[if_pos h1] at h;have e:(i+n).toNat=j:=Option.some.inj h;exact⟨by rw[seqIndex_neg (by omega) h1,e],by omega,h1,by omega⟩
  .rw[if_neg h1] at h;cases h
theorem mC{xs:List α}{i:Int}{v:α}(h:atI xs i=some v):∃j,seqIndex? i xs.length=some j/\xs[j]? = some v/\j < xs.length/\ -(xs.length:Int)<=i/\i < xs.length:=by
 unfold atI at h;cases e:ixN xs.length i with
 |none=>rw[e] at h;cases h
 |some j =>
  rw[e] at h;obtain⟨h1,h2,h3,h4⟩:=qP e;exact⟨j,h1,h,h2,h3,h4⟩
theorem d_{xs:List α}{j:Nat}{v:α}(h:xs[j]? = some v):atI xs (j:Int)=some v:=by
 have hj:j < xs.length:=(List.getElem?_eq_some_iff.mp h).1;have e:ixN xs.length (j:Int)=some j:=by
  unfold ixN;rw[if_pos (by omega),if_pos (by omega)];simp
 unfold atI;rw[e];exact h
theorem qQ(xs:List α)(v:α):atI (xs++[v]) (-1)=some v:=by
 have hl:(xs++[v]).length=xs.length+1:=by simp
 have e:ixN (xs++[v]).length (-1)=some xs.length:=by
  unfold ixN;rw[hl,if_neg (by decide),if_pos (by omega)];congr 1
  omega
 unfold atI;rw[e];show(xs++[v])[xs.length]? = some v;simp
def mD(b:Expr):Prop:=∀o i,subscripted b false o i=operate [o,i] (getItem o i)
def IxR(X:Cx)(r:R2):Prop :=
 ∀(value slice:Expr) (pins:List (Addr×Obj)) (s:Shared) (σ:St) (H:Hp) (x y:V) (v u:Value) (Q:VK),Inv X pins σ H s->RelV x v->RelV y u->r x y H Q ->
  subscripted slice false v u=operate [v,u] (getItem v u)->wpAny (model X.prog X.w) X.A (subscriptTail value slice v u) (EP X pins σ Q) X.xe s
def MtR(X:Cx)(id:String)(r:V->List V->Hp->VK->Prop):Prop :=
 ∀(pins:List (Addr×Obj)) (s:Shared) (σ:St) (H:Hp) (x:V) (xs:List V) (v:Value) (us:List Value) (Q:VK),Inv X pins σ H s->RelV x v->Vals xs us->r x xs H Q ->
  wpAny (model X.prog X.w) X.A (call (.builtin id) (v::us)) (EP X pins σ Q) X.xe s
section
variable{a b:Expr}{ta tb:TE}
theorem IxR.or{r r':R2}(h:IxR X r)(h':IxR X r'):IxR X (λx y H Q=>r x y H Q\/r' x y H Q):=by
 intro value slice pins s σ H x y v u Q I rx ry q hs;rcases q with q|q
 .exact h value slice pins s σ H x y v u Q I rx ry q hs
 .exact h' value slice pins s σ H x y v u Q I rx ry q hs
theorem BV{r:R2}(hr:IxR X r)(ha:PE X a ta)(hb:PE X b tb)(hs:mD b):PE X (.Subscript a b pos) (tOp r ta tb):=by
 intro pins s σ H Q I h;exact Subscript_ (ml ha hb I h λv u s2 x y H2 I2 rx ry q=>hr a b pins s2 σ H2 x y v u Q I2 rx ry q (hs _ _))
def cW(K:Frag):R2:=λx y H Q=>∃p xs i v,x= .ref p/\y= .int i/\SqL K H p xs/\atI xs i=some v/\Q v H
def qR(K:Frag):R2:=λx y H Q=>∃p xs i v,x= .ref p/\y= .int i/\SqT K H p xs/\atI xs i=some v/\Q v H
def qT:R2:=λx y H Q=>∃z i c,x= .str z/\y= .int i/\z.length<=sizeLine/\atI z.cps.toList i=some c/\Q (.str ⟨#[c]⟩) H
theorem qU:IxR X (cW X.K):=by
 intro value slice pins s σ H x y v u Q I rx ry h hs;obtain⟨p,xs,i,z,rfl,rfl,hq,he,q⟩:=h;cases rx;obtain⟨t,rfl⟩:=ry;obtain⟨its,r,pl,hz⟩:=I.list hq;obtain⟨j,h1,h2,h3,h4,h5⟩:=mC he;obtain⟨w,ew,rw'⟩:=r.get h2;have hl:=r.length;have hn:=gk;have fin:EP X pins σ Q w s:=⟨z,H,I,rw',q⟩;by_cases h0:0<=i
 .have hj:i.toNat=j:=by
   rw[seqIndex_of h0 h5] at h1;exact Option.some.inj h1
  exact item_listR pl.isList h0 (by omega) (by rw[hj];simpa using ew) fin hs
 .have hj:(i+(its.toArray.size:Int)).toNat=j:=by
   rw[seqIndex_neg (by omega) h4] at h1;rw[List.size_toArray,<- hl];exact Option.some.inj h1
  exact subscriptTail_builtinR (x:=w) pl.isList.typeIs slot_list_getitem.lookup
   (wpAny_getItem_list_neg (Q:=λr s'=>r=w/\EP X pins σ Q r s') pl.isList (by omega) (by rw[List.size_toArray]<;>omega) (by omega) (by rw[hj];simpa using ew) ⟨rfl,fin⟩) hs
theorem BW:IxR X (qR X.K):=by
 intro value slice pins s σ H x y v u Q I rx ry h hs;obtain⟨p,xs,i,z,rfl,rfl,hq,he,q⟩:=h;cases rx;obtain⟨t,rfl⟩:=ry;obtain⟨its,r,pl,hz⟩:=I.tuple hq;obtain⟨j,h1,h2,h3,h4,h5⟩:=mC he;obtain⟨w,ew,rw'⟩:=r.get h2;have hl:=r.length;have hn:=gk;have fin:EP X pins σ Q w s:=⟨z,H,I,rw',q⟩;exact subscriptTail_builtinR (x:=w) pl.typeIs slot_tuple_getitem.lookup
  (getItem_tuple (j:=j) (Q:=λr s'=>r=w/\EP X pins σ Q r s') pl (by omega) (by omega) (by rw[List.size_toArray,<- hl];exact h1) (by simpa using ew) ⟨rfl,fin⟩) hs
theorem BX:IxR X qT:=by
 intro value slice pins s σ H x y v u Q I rx ry h hs;obtain⟨z,i,c,rfl,rfl,hz,he,q⟩:=h;obtain⟨t,rfl⟩:=rx;obtain⟨t',rfl⟩:=ry;obtain⟨j,h1,h2,h3,h4,h5⟩:=mC he;have hl:z.cps.toList.length=z.length:=by simp[Str.length]
 rw[hl] at h1 h4 h5;have hn:=gk;exact tail_any (typeIs_str s z t) slot_str_getitem.lookup (getItem_str (c:=c) (by
  have e1:decide (i < -(2^63:Int))=false:=decide_eq_false (by omega);have e2:decide (i ≥ 2^63)=false:=decide_eq_false (by omega);rw[e1,e2,Bool.or_false]) (by rw[h1];simpa using h2) ⟨.str ⟨#[c]⟩,H,I.tok _,⟨_,rfl⟩,q⟩) hs
def rIx(K:Frag):R2:=λx y H Q=>cW K x y H Q\/qR K x y H Q\/qT x y H Q
theorem BY:IxR X (rIx X.K):=qU.or (BW.or BX)
theorem BZ(its:List Value)(n j:Nat)(u:Value):Obj.mapSeq (·.setIfInBounds j u) {cls:= .type "list",data:= .seq its.toArray n}={cls:= .type "list",data:= .seq (its.set j u).toArray n}:=by
 simp[Obj.mapSeq]
theorem Inv.lst{s:Shared}{p:Addr}(I:Inv X pins σ H s)(h:H p=some (.lst xs)) :
  ∃(its:List Value) (n:Nat),Vals xs its/\s.heap.get? p=some {cls:= .type "list",data:= .seq its.toArray n}/\xs.length<=sizeLine:=by
 obtain⟨z,its,n,r,e⟩:=I.hok p _ h;exact⟨its,n,r,e,z⟩
theorem Inv.lstUpd{s:Shared}{p:Addr}{ys:List V}{its':List Value}{n n':Nat}{f:Obj->Obj}(I:Inv X pins σ H s)(h:H p=some (.lst xs))
  (ho:s.heap.get? p=some {cls:= .type "list",data:= .seq its.toArray n})(hf:f {cls:= .type "list",data:= .seq its.toArray n}={cls:= .type "list",data:= .seq its'.toArray n'})(r:Vals ys its')(hz:ys.length<=sizeLine)(t:Nat) :
  Inv X pins σ (upd H p (.lst ys)) {s with heap:=s.heap.update p f,toks:=t}:=by
 have e:(s.heap.update p f).get? p=some {cls:= .type "list",data:= .seq its'.toArray n'}:=by
  rw[Heap.get?_update_self f ho (by rw[hf]<;>rfl),hf]
 refine I.write (x:=p) (e:=p) (by rw[h];trivial) (.inl rfl) (λb u hb q=>(Heap.get?_update_other _ _ (Ne.symm hb)).trans q) ⟨_,e⟩ ?_;exact⟨hz,its',n',r,e⟩
def fv:V->V->V->Hp->(Hp->Prop)->Prop:=λo i v H Q=>∃p xs k j,o= .ref p/\i= .int k/\H p=some (.lst xs)/\ixN xs.length k=some j/\Q (upd H p (.lst (xs.set j v)))
theorem set_list:me X fv:=by
 intro pins s σ H o i v ov iv u Q I ro ri rv h;obtain⟨p,xs,k,j,rfl,rfl,hp,hj,q⟩:=h;cases ro;obtain⟨t,rfl⟩:=ri;obtain⟨its,n,r,ho,hz⟩:=I.lst hp;obtain⟨h1,h2,h3,h4⟩:=qP hj;have hl:=r.length;have hn:=gk;have I':Inv X pins σ (upd H p (.lst (xs.set j v))) {s with heap:=s.heap.update p (Obj.mapSeq (·.setIfInBounds j u))} :=
  I.lstUpd hp ho (BZ its n j u) (r.set rv j) (by rw[List.length_set];exact hz) s.toks
 by_cases h0:0<=k
 .have hk:k.toNat=j:=by
   rw[seqIndex_of h0 h4] at h1;exact Option.some.inj h1
  exact PySem.W.ki_setAt ho h0 (by omega) (by rw[List.size_toArray,<- hl];exact h4) (by rw[hk];exact⟨_,I',q⟩)
 .have hk:(k+(its.toArray.size:Int)).toNat=j:=by
   rw[seqIndex_neg (by omega) h3] at h1;rw[List.size_toArray,<- hl];exact Option.some.inj h1
  exact PySem.W.ki_setBack ho (by omega) (by rw[List.size_toArray,<- hl];exact h3) (by omega) (by rw[hk];exact⟨_,I',q⟩)
theorem B0(lo hi:Option Int)(n:Nat):(sliceBounds lo hi none n).1=((HT.sIx n 0 lo:Nat):Int)/\(sliceBounds lo hi none n).2.1=((HT.sIx n n hi:Nat):Int)/\(sliceBounds lo hi none n).2.2=1:=by
 refine⟨?_,?_,rfl⟩
 .cases lo with
  |none=>simp[sliceBounds,HT.sIx]
  |some i =>
   simp only[sliceBounds,HT.sIx,Option.getD_none,show(1:Int) > 0 by decide,if_true];by_cases h:i < 0
   .simp only[h,if_true]<;>omega
   .simp only[h,if_false]<;>omega
 .cases hi with
  |none=>simp[sliceBounds,HT.sIx]
  |some i =>
   simp only[sliceBounds,HT.sIx,Option.getD_none,show(1:Int) > 0 by decide,if_true];by_cases h:i < 0
   .simp only[h,if_true]<;>omega
   .simp only[h,if_false]<;>omega
theorem B1(its:List Value)(lo hi:Option Int):slicePick its.toArray lo hi none=((its.drop (HT.sIx its.length 0 lo)).take (HT.sIx its.length its.length hi - HT.sIx its.length 0 lo)).toArray:=by
 obtain⟨h1,h2,h3⟩:=B0 lo hi its.toArray.size;unfold slicePick;rw[h1,h2,h3];simp only[sliceRange_one,pick_run,List.size_toArray]<;>rfl
def mE(K:Frag):V->Option Int->Option Int->Hp->VK->Prop:=λx lo hi H Q=>∃a xs,x= .ref a/\SqL K H a xs/\∀p,H p=none->Q (.ref p) (upd H p (.lst (cA xs lo hi)))
theorem qV:SlR X (mE X.K):=by
 intro pins s σ H x v vl vu lo hi sl Q I rx hs pl pu h;obtain⟨a,xs,rfl,hx,q⟩:=h;cases rx;obtain⟨its,r,ht,hz⟩:=I.list hx;have hlen:=r.length;refine⟨"list",_,slot_list_getitem.lookup,ht.isList.typeIs,?_⟩;refine wpAny_getItem_list_slice ht.isList hs pl pu .none (by simp) ?_ (by rw[List.size_toArray]<;>omega);rw[B1,<- hlen];refine⟨.ref s.heap.objs.size,_,I.laid (t':=s.toks) (o:= .lst (cA xs lo hi)) (λb ob q=>Heap.get?_push_of_some _ q) (Nat.le_refl _) ?_,rfl,q _ (I.hok.fresh (Nat.le_refl _))⟩;exact⟨Nat.le_trans (qM xs lo hi) hz,_,0,(r.drop (HT.sIx xs.length 0 lo)).take (HT.sIx xs.length xs.length hi - HT.sIx xs.length 0 lo),Heap.get?_push_size _ rfl⟩
def dr:V->Bool
 | .non=>true
 | .bl _=>true
 | .int _=>true
 | .str _=>true
 |_=>false
def eqV:V->V->Bool
 | .non,.non=>true
 | .bl a,.bl b=>a==b
 | .bl a,.int b=>(if a then 1 else 0)==b
 | .int a,.bl b=>a==(if b then 1 else 0)
 | .int a,.int b=>a==b
 | .str a,.str b=>a==b
 |_,_=>false
theorem B2{s:Shared}{v:Value}(ry:RelV y u)(rx:RelV x v)(fy:dr y=true)(fx:dr x=true):SeqAt.EqAt A s u v (eqV y x):=by
 cases y with
 |non =>
  cases ry;cases x with
  |non=>cases rx;exact SeqAt.EqAt.same _
  |bl b=>cases rx;exact SeqAt.EqAt.none_bool b
  |int b=>obtain⟨t,rfl⟩:=rx;exact SeqAt.EqAt.none_int b t
  |str b=>obtain⟨t,rfl⟩:=rx;exact SeqAt.EqAt.none_str b t
  |_=>exact absurd (show false=true from fx) Bool.false_ne_true
 |bl a =>
  cases ry;cases x with
  |non=>cases rx;exact SeqAt.EqAt.bool_none a
  |bl b=>cases rx;exact SeqAt.EqAt.bool_bool a b
  |int b=>obtain⟨t,rfl⟩:=rx;exact SeqAt.EqAt.bool_int a b t
  |str b=>obtain⟨t,rfl⟩:=rx;exact SeqAt.EqAt.bool_str a b t
  |_=>exact absurd (show false=true from fx) Bool.false_ne_true
 |int a =>
  obtain⟨t',rfl⟩:=ry;cases x with
  |non=>cases rx;exact SeqAt.EqAt.int_none a t'
  |bl b=>cases rx;exact SeqAt.EqAt.int_bool a t' b
  |int b=>obtain⟨t,rfl⟩:=rx;exact SeqAt.EqAt.int_int a t' b t
  |str b=>obtain⟨t,rfl⟩:=rx;exact SeqAt.EqAt.int_str a t' b t
  |_=>exact absurd (show false=true from fx) Bool.false_ne_true
 |str a =>
  obtain⟨t',rfl⟩:=ry;cases x with
  |non=>cases rx;exact SeqAt.EqAt.str_none a t'
  |bl b=>cases rx;exact SeqAt.EqAt.str_bool a t' b
  |int b=>obtain⟨t,rfl⟩:=rx;exact SeqAt.EqAt.str_int a t' b t
  |str b=>obtain⟨t,rfl⟩:=rx;exact SeqAt.EqAt.str_str a t' b t
  |_=>exact absurd (show false=true from fx) Bool.false_ne_true
 |_=>exact absurd (show false=true from fy) Bool.false_ne_true
def eqU(x:V)(u:Value):Bool:=match u with
 | .none=>eqV .non x
 | .bool b=>eqV (.bl b) x
 | .int i _=>eqV (.int i) x
 | .str z _=>eqV (.str z) x
 |_=>false
theorem qW(r:RelV y u)(f:dr y=true):eqU x u=eqV y x:=by
 cases y with
 |non=>cases r;rfl
 |bl b=>cases r;rfl
 |int i=>obtain⟨t,rfl⟩:=r;rfl
 |str z=>obtain⟨t,rfl⟩:=r;rfl
 |_=>exact absurd (show false=true from f) Bool.false_ne_true
theorem ic{x:V}:∀{xs:List V} {us:List Value},Vals xs us->xs.all dr=true->us.any (eqU x)=xs.any λy=>eqV y x
 |_,_,.nil,_=>rfl
 |y::xs,u::us,.cons r t,f=>by
  rw[List.all_cons,Bool.and_eq_true] at f;rw[List.any_cons,List.any_cons,qW r f.1,ic t f.2]
theorem ie{A:Around}{s:Shared}{x:V}{v:Value}(rx:RelV x v)(fx:dr x=true):∀{xs:List V} {us:List Value},Vals xs us->xs.all dr=true->∀u∈us,SeqAt.EqAt A s u v (eqU x u)
 |_,_,.nil,_=>λu hu=>by cases hu
 |y::xs,u::us,.cons r t,f=>λu' hu=>by
  rw[List.all_cons,Bool.and_eq_true] at f;rcases List.mem_cons.mp hu with rfl|hu
  .rw[qW r f.1];exact B2 r rx f.1 fx
  .exact ie rx fx t f.2 u' hu
def inV(x:V)(xs:List V):Bool:=xs.any λy=>eqV y x
def rIn(K:Frag)(neg:Bool):R2:=λx y H Q=>∃p xs,y= .ref p/\(SqL K H p xs\/SqT K H p xs)/\dr x=true/\xs.all dr=true/\Q (.bl (if neg then !inV x xs else inV x xs)) H
theorem B3:OpR X (compareOp .In) (rIn X.K false):=by
 intro pins s σ H x y v u Q I rx ry h;obtain⟨p,xs,rfl,hq,fx,fs,q⟩:=h;cases ry;rcases hq with hq|hq
 .obtain⟨its,r,pl,hz⟩:=I.list hq;refine SeqAt.in_listAt (eqU x) pl.isList (λw hw=>ie rx fx r fs w (by simpa using hw)) ⟨.bl _,H,I,rfl,?_⟩;rw[show its.toArray.any (eqU x)=its.any (eqU x) by simp,ic r fs];exact q
 .obtain⟨its,r,pl,hz⟩:=I.tuple hq;refine SeqAt.in_tupleAt (eqU x) pl (λw hw=>ie rx fx r fs w (by simpa using hw)) ⟨.bl _,H,I,rfl,?_⟩;rw[show its.toArray.any (eqU x)=its.any (eqU x) by simp,ic r fs];exact q
theorem B4:OpR X (compareOp .NotIn) (rIn X.K true):=by
 intro pins s σ H x y v u Q I rx ry h;obtain⟨p,xs,rfl,hq,fx,fs,q⟩:=h;cases ry;rcases hq with hq|hq
 .obtain⟨its,r,pl,hz⟩:=I.list hq;refine SeqAt.notIn_listAt (eqU x) pl.isList (λw hw=>ie rx fx r fs w (by simpa using hw)) ⟨.bl _,H,I,rfl,?_⟩;rw[show its.toArray.any (eqU x)=its.any (eqU x) by simp,ic r fs];exact q
 .obtain⟨its,r,pl,hz⟩:=I.tuple hq;refine SeqAt.notIn_tupleAt (eqU x) pl (λw hw=>ie rx fx r fs w (by simpa using hw)) ⟨.bl _,H,I,rfl,?_⟩;rw[show its.toArray.any (eqU x)=its.any (eqU x) by simp,ic r fs];exact q
theorem qX:zW X (.builtin "len") (λxs H Q=>∃p ys,xs=[.ref p]/\(SqL X.K H p ys\/SqT X.K H p ys)/\Q (.int ys.length) H):=by
 intro pins s σ H xs us Q I r h;obtain⟨p,ys,rfl,hq,q⟩:=h;obtain⟨u,rfl,rx⟩:=vals1 r;cases rx;have hn:=gk;rcases hq with hq|hq
 .obtain⟨its,r',pl,hz⟩:=I.list hq;have hlen:=r'.length;exact Calls.call_len_list pl.isList (by simp only[List.size_toArray]<;>omega) ⟨.int ys.length,H,I.tok _,⟨s.toks+1,by rw[List.size_toArray,hlen]⟩,q⟩
 .obtain⟨its,r',pl,hz⟩:=I.tuple hq;have hlen:=r'.length;exact len_tuple pl (by simp only[List.size_toArray]<;>omega) ⟨.int ys.length,H,I.tok _,⟨s.toks+1,by rw[List.size_toArray,hlen]⟩,q⟩
theorem B5:zW X (.builtin "len") (λxs H Q=>∃z,xs=[.str z]/\z.length<=sizeLine/\Q (.int z.length) H):=by
 intro pins s σ H xs us Q I r h;obtain⟨z,rfl,hz,q⟩:=h;obtain⟨u,rfl,t,rfl⟩:=vals1 r;have hn:=gk;exact len_str (by omega) ⟨.int z.length,H,I.tok _,⟨_,rfl⟩,q⟩
theorem zW.or{f:Value}{r r':List V->Hp->VK->Prop}(h:zW X f r)(h':zW X f r'):zW X f (λxs H Q=>r xs H Q\/r' xs H Q):=by
 intro pins s σ H xs us Q I rs q;rcases q with q|q
 .exact h pins s σ H xs us Q I rs q
 .exact h' pins s σ H xs us Q I rs q
theorem B6:zW X (.type "list") (λxs H Q=>∃p ys,xs=[.ref p]/\(SqL X.K H p ys\/SqT X.K H p ys)/\∀l,H l=none->Q (.ref l) (upd H l (.lst ys))):=by
 intro pins s σ H xs us Q I r h;obtain⟨p,ys,rfl,hq,q⟩:=h;obtain⟨u,rfl,rx⟩:=vals1 r;cases rx;have fin:∀(its:List Value),Vals ys its->ys.length<=sizeLine->∀(h':Heap) (c':Nat),(∀b o',s.heap.get? b=some o'->h'.get? b=some o') ->
   h'.get? s.heap.objs.size=some {cls:= .type "list",dict:=none,data:= .seq its.toArray c',slots:= #[]}->EP X pins σ Q (.ref s.heap.objs.size) {s with heap:=h'}:=λits r' hz h' c' kp e =>
  ⟨.ref s.heap.objs.size,_,I.laid (t':=s.toks) kp (Nat.le_refl _) (show aw X.prog X.w _ h' _ (.lst ys) from ⟨hz,its,c',r',e⟩),rfl,q _ (I.hok.fresh (Nat.le_refl _))⟩
 rcases hq with hq|hq
 .obtain⟨its,r',pl,hz⟩:=I.list hq;have hlen:=r'.length;obtain⟨o,ho,hc,n,hd⟩:=pl.isList;exact call_list_seq p (.inl rfl) ho hc hd (λh' c' kp e=>fin its r' hz h' c' kp e) (by simp only[List.size_toArray]<;>omega)
 .obtain⟨its,r',pl,hz⟩:=I.tuple hq;have hlen:=r'.length;obtain⟨o,ho,hc,n,hd⟩:=pl;exact call_list_seq p (.inr rfl) ho hc hd (λh' c' kp e=>fin its r' hz h' c' kp e) (by simp only[List.size_toArray]<;>omega)
theorem B7:zW X (.type "tuple") (λxs H Q=>∃p ys,xs=[.ref p]/\((SqL X.K H p ys/\∀l,H l=none->Q (.ref l) (upd H l (.tup ys)))\/(SqT X.K H p ys/\Q (.ref p) H))):=by
 intro pins s σ H xs us Q I r h;obtain⟨p,ys,rfl,h⟩:=h;obtain⟨u,rfl,rx⟩:=vals1 r;cases rx;rcases h with⟨hq,q⟩|⟨hq,q⟩
 .obtain⟨its,r',pl,hz⟩:=I.list hq;have hlen:=r'.length;refine call_tuple_list pl.isList (λh' kp=>?_) (by simp only[List.size_toArray]<;>omega);have I1:Inv X pins σ H {s with heap:=h'}:=I.kept (t':=s.toks) kp;have I2:Inv X pins σ (upd H h'.objs.size (.tup ys)) {s with heap:=h'.push {cls:= .type "tuple",data:= .seq its.toArray}} :=
   I1.laid (t':=s.toks) (λb o e=>Heap.get?_push_of_some _ e) (Nat.le_refl _) (show aw X.prog X.w _ _ _ (.tup ys) from ⟨hz,its,r',IsTup.new _ _⟩)
  exact⟨.ref h'.objs.size,_,I2,rfl,q _ (I1.hok.fresh (Nat.le_refl _))⟩
 .obtain⟨its,r',pl,hz⟩:=I.tuple hq;exact call_tuple_same pl ⟨.ref p,H,I,rfl,q⟩
def tyV(K:Frag)(T:String)(x:V)(H:Hp):Prop:=match x with
 | .str _=>T="str"
 | .int _=>T="int"
 | .ref p=>(T="list"/\∃xs,SqL K H p xs)\/(T="tuple"/\∃o,K.lookup p=some o/\o.cls= .type "tuple"/\o.dict=none) \/
   (T="dict"/\((∃kvs,H p=some (.dK kvs))\/∃kvs,H p=some (.dT kvs)))\/(T="set"/\∃S n,H p=some (.set S n))
 |_=>False
theorem B8{s:Shared}{v:Value}(I:Inv X pins σ H s)(r:RelV x v)(ty:tyV X.K T x H) :
  s.TypeIs v T/\∀a,v= .ref a->∃ob,s.heap.get? a=some ob/\ob.dict=none:=by
 cases x with
 |str z =>
  obtain⟨t,rfl⟩:=r;cases (show T="str" from ty);exact⟨typeIs_str s z t,λ_ e=>nomatch e⟩
 |int i =>
  obtain⟨t,rfl⟩:=r;cases (show T="int" from ty);exact⟨typeIs_int s i t,λ_ e=>nomatch e⟩
 |ref p =>
  cases r;rcases ty with⟨rfl,xs,hq⟩|⟨rfl,o,hk,hc,hd⟩|⟨rfl,hk⟩|⟨rfl,S,n,hk⟩
  .obtain⟨its,_,pl,_⟩:=I.list hq;refine⟨pl.isList.typeIs,λa e=>?_⟩;cases e;obtain⟨o,n,e,c,hd,_⟩:=pl;exact⟨o,e,hd⟩
  .refine⟨⟨o,I.kIn p o hk,hc⟩,λa e=>?_⟩;cases e;exact⟨o,I.kIn _ o hk,hd⟩
  .have z:∃o,s.heap.get? p=some o/\o.ExactDict:=by
    rcases hk with⟨kvs,hk⟩|⟨kvs,hk⟩
    .obtain⟨_,_,_,_,o,_,_,e,ex,_⟩:=I.hok p _ hk;exact⟨o,e,ex⟩
    .obtain⟨_,_,_,_,o,_,_,e,ex,_⟩:=I.hok p _ hk;exact⟨o,e,ex⟩
   obtain⟨o,e,ex⟩:=z;refine⟨⟨o,e,ex.1⟩,λa e2=>?_⟩;cases e2;exact⟨o,e,ex.2.1⟩
  .obtain⟨o,_,_,_,e,ex,_⟩:=I.hok p _ hk;refine⟨⟨o,e,ex.1⟩,λa e2=>?_⟩;cases e2;exact⟨o,e,ex.2.1⟩
 |_=>exact False.elim ty
def tBM(K:Frag)(T:String)(r:V->List V->Hp->VK->Prop)(to:TE)(t:TA):TE:=λσ H Q=>to σ H λx H1=>tyV K T x H1/\t σ H1 λxs H2=>r x xs H2 Q
variable{o e:Expr}{es:List Expr}{to:TE}{t:TA}{name:Str}{apos cpos:Pos}{id:String}{r:V->List V->Hp->VK->Prop}
theorem B9(pa:PlainAttrs T)(slot:Slot T name id)(hty:typeOf (.builtin id)=pure (.type "method_descriptor"))(hm:MtR X id r)(ho:PE X o to)(ha:PA X (e::es) t)
  (hbase:attributeBase o name X.env (eval o X.env)=eval o X.env:=by rfl)
  (hfew:((backTo cpos (starEach (e::es) X.env)).all (λx=> !x.1)&&(backToKw cpos (keywordEach [] X.env)).all (λx=>x.1.isSome)
   && decide ((e::es).length+([]:List Keyword).length+(if ([]:List Keyword).isEmpty then 0 else 1) < 30))=true:=by rfl)
  (hline:(apos.endLine==cpos.line)=true:=by rfl) (hs:starEach (e::es) X.env=(false,eval e X.env)::starEach es X.env:=by rfl) (hplain:(backTo cpos (starEach es X.env)).any (·.1)=false:=by rfl) :
  PE X (.Call (.Attribute o name apos) (e::es) [] cpos) (tBM X.K T r to t):=by
 intro pins s σ H Q I h;refine wpAny_Call_method_late hbase hfew hline rfl (thn (ho pins s σ H _ I h) λv s1 ⟨x,H1,I1,r1,ty,q1⟩=>?_);obtain⟨h1,h2⟩:=B8 I1 r1 ty;refine⟨T,id,pa,slot,hty,h1,h2,?_⟩;have hA:=ha cpos pins s1 σ H1 _ I1 q1;rw[hs] at hA ⊢;refine Calls.callWith_builtin (by show(false||(backTo cpos (starEach es X.env)).any (·.1))=false;rw[hplain]<;>rfl) (Calls.evalArgs_plain ?_);exact thn hA λus s2 ⟨vs,H2,I2,r2,q2⟩=>hm pins s2 σ H2 x vs v us Q I2 r1 r2 q2
end
def MtM(X:Cx)(id:String)(r:V->List V->Hp->VK->Prop):Prop :=
 ∀(pins:List (Addr×Obj)) (s:Shared) (σ:St) (H:Hp) (x:V) (xs:List V) (v:Value) (us:List Value) (Q:VK),Inv X pins σ H s->RelV x v->Vals xs us->r x xs H Q ->
  wpAny (model X.prog X.w) X.A (call (.builtin id) (v::us)) (EP X pins σ Q) X.xe s
theorem Vals.one:∀{x:V} {us:List Value},Vals [x] us->∃u,us=[u]/\RelV x u
 |_,_,.cons r .nil=>⟨_,rfl,r⟩
theorem Vals.rep{us:List Value}(h:Vals xs us):∀k:Nat,Vals (List.replicate k xs).flatten (List.replicate k us).flatten
 |0=> .nil
 |k+1=>by
  rw[List.replicate_succ,List.replicate_succ,List.flatten_cons,List.flatten_cons];exact Vals.append h (Vals.rep h k)
theorem foldl_rep(its:List Value):∀(k:Nat) (acc:List Value),
  List.foldl (λx1 x2=>x1++x2) acc.toArray (List.replicate k its.toArray)=(acc++(List.replicate k its).flatten).toArray
 |0,acc=>by simp
 |k+1,acc=>by
  have e:acc.toArray++its.toArray=(acc++its).toArray:=by simp
  have e2:(acc++its)++(List.replicate k its).flatten=acc++(List.replicate (k+1) its).flatten:=by
   rw[List.replicate_succ,List.flatten_cons,List.append_assoc]
  rw[<- e2,<- foldl_rep its k (acc++its),<- e,List.replicate_succ,List.foldl_cons]
section
variable{s:Shared}{l b:Addr}{ys zs:List V}
theorem Inv.lset{its':List Value}{n:Nat}{f:Array Value->Array Value}(I:Inv X pins σ H s)(hH:H l=some (.lst xs))
  (e:s.heap.get? l=some {cls:= .type "list",data:= .seq its.toArray n})(hf:f its.toArray=its'.toArray)(hv:Vals ys its')(hz:ys.length<=sizeLine) :
  Inv X pins σ (upd H l (.lst ys)) {s with heap:=s.heap.update l (Obj.mapSeq f),toks:=t'}:=by
 have q:=PySem.IsL.update e f;rw[hf] at q;refine I.write (x:=l) (e:=l) (by rw[hH];exact trivial) (.inl rfl) (λb' u hb hu=>(Heap.get?_update_other s.heap (Obj.mapSeq f) (Ne.symm hb)).trans hu) ⟨_,q⟩ ?_;exact⟨hz,its',_,hv,q⟩
theorem Inv.lnew(I:Inv X pins σ H s)(hv:Vals ys its)(hz:ys.length<=sizeLine) :
  Inv X pins σ (upd H s.heap.objs.size (.lst ys)) {s with heap:=s.heap.push {cls:= .type "list",data:= .seq its.toArray},toks:=t'} :=
 I.laid (λ_ _ q=>Heap.get?_push_of_some _ q) (Nat.le_refl _) ⟨hz,its,0,hv,Heap.get?_push_size _ rfl⟩
theorem Inv.fresh(I:Inv X pins σ H s):H s.heap.objs.size=none:=I.hok.fresh (Nat.le_refl _)
theorem Inv.lstM(I:Inv X pins σ H s)(hH:H l=some (.lst xs)):xs.length<=sizeLine/\∃(its:List Value) (n:Nat),Vals xs its/\xs.length=its.length/\s.heap.get? l=some {cls:= .type "list",data:= .seq its.toArray n}:=by
 obtain⟨z,its,n,r,e⟩:=I.hok l _ hH;exact⟨z,its,n,r,r.length,e⟩
theorem B_{n:Nat}(h:n<=sizeLine):Builtin.List.listTooLong n=false:=by
 unfold Builtin.List.listTooLong;exact decide_eq_false (by omega)
end
section
def qY:V->List V->Hp->VK->Prop:=λx vs H Q=>∃l xs y,x= .ref l/\vs=[y]/\H l=some (.lst xs)/\xs.length < sizeLine/\Q .non (upd H l (.lst (xs++[y])))
theorem cB:MtM X "list.append" qY:=by
 intro pins s σ H x vs v us Q I rx rv h;obtain⟨l,xs,y,rfl,rfl,hH,hz,q⟩:=h;cases rx;obtain⟨u,rfl,ru⟩:=rv.one;obtain⟨z,its,n,r,hl,e⟩:=I.lstM hH;refine call_meets F.slot_list_append ⟨_,e,rfl⟩ F.entry_list_append (F.args_list_append_2 _ _) (PySem.list_append l its.toArray n u (by rw[List.size_toArray];omega)) ⟨e,?_⟩;refine⟨.non,_,I.lset (its':=its++[u]) hH e (by simp) (r.append (.cons ru .nil)) ?_,rfl,q⟩;rw[List.length_append,List.length_singleton];omega
def qZ:R2:=λx y H Q=>∃l b xs zs,x= .ref l/\y= .ref b/\H l=some (.lst xs)/\H b=some (.lst zs)/\xs.length+zs.length<=sizeLine/\∀p,H p=none->Q (.ref p) (upd H p (.lst (xs++zs)))
theorem Ca:OpR X (binaryOp .Add) qZ:=by
 intro pins s σ H x y v u Q I rx ry h;obtain⟨l,b,xs,zs,rfl,rfl,hH,hB,hz,q⟩:=h;cases rx;cases ry;obtain⟨z,its,n,r,hl,e⟩:=I.lstM hH;obtain⟨z2,its2,n2,r2,hl2,e2⟩:=I.lstM hB;refine PySem.P.add_list e e2 ?_ (by rw[List.size_toArray,List.size_toArray];omega);have ea:its.toArray++its2.toArray=(its++its2).toArray:=by simp
 rw[ea];exact⟨.ref _,_,I.lnew (t':=s.toks) (r.append r2) (by rw[List.length_append];omega),rfl,q _ I.fresh⟩
def q0:R2:=λx y H Q=>∃l k xs,x= .ref l/\y= .int k/\H l=some (.lst xs)/\ -(2^63)<=k/\k < 2^63/\xs.length*k.toNat<=sizeLine /\
 ∀p,H p=none->Q (.ref p) (upd H p (.lst (List.replicate k.toNat xs).flatten))
theorem len_rep(xs:List α)(k:Nat):(List.replicate k xs).flatten.length=k*xs.length:=by
 induction k with
 |zero=>simp
 |succ k ih=>rw[List.replicate_succ,List.flatten_cons,List.length_append,ih,Nat.succ_mul,Nat.add_comm]
theorem Cb:OpR X (binaryOp .Mult) q0:=by
 intro pins s σ H x y v u Q I rx ry h;obtain⟨l,k,xs,rfl,rfl,hH,h1,h2,hz,q⟩:=h;cases rx;obtain⟨t,rfl⟩:=ry;obtain⟨z,its,n,r,hl,e⟩:=I.lstM hH;have hlen:its.toArray.size*k.toNat<=sizeLine:=by rw[List.size_toArray,<- hl];exact hz
 have hcap:¬ its.toArray.size*k.toNat > (2^63 - 1) / 8:=by
  have:(sizeLine:Nat)<=(2^63 - 1) / 8:=by decide
  omega
 have hfit:¬ (!Builtin.List.listFitsIndex k)=true:=by
  rw[fitsIndex_both h1 h2];exact Bool.false_ne_true
 have hlong:¬ Builtin.List.listTooLong (its.toArray.size*k.toNat)=true:=by
  rw[B_ hlen];exact Bool.false_ne_true
 have hnew:List.foldl (λx1 x2=>x1++x2) #[] (List.replicate (if its.toArray.isEmpty=true then 0 else k.toNat) its.toArray)=(List.replicate k.toNat its).flatten.toArray:=by
  have f0:∀m:Nat,List.foldl (λx1 x2=>x1++x2) #[] (List.replicate m its.toArray)=(List.replicate m its).flatten.toArray:=λm=>by
   have:=foldl_rep its m [];rw[List.nil_append] at this;exact this
  rw[f0];cases its with
  |nil=>simp
  |cons a r'=>rw[if_neg (by simp)]
 refine wpAny_binaryOp_repeat_ref (T:="list") (U:="int") (by decide) ⟨_,e,rfl⟩ (λs'=>typeIs_int s' k t) noFill_list_mul F.fills_int_mul F.slot_int_rmul repeat_list F.slot_int_index.lookup
  (call_meets F.slot_int_rmul (typeIs_int s k t) F.entry_int_rmul (F.args_int_rmul_2 _ _) (int___rmul___int_list k t l its.toArray n)
   ⟨e,rfl,⟨_,e,rfl⟩,call_meets F.slot_list_mul ⟨_,e,rfl⟩ F.entry_list_mul (F.args_list_mul_2 _ _) (AutoListH.list___mul___list_int_3 l its.toArray n k t hfit hcap hlong) ⟨e,?_⟩⟩)
 rw[hnew];exact⟨.ref _,_,I.lnew (t':=s.toks) (r.rep k.toNat) (by rw[len_rep,Nat.mul_comm];exact hz),rfl,q _ I.fresh⟩
end
section
variable{prog:Program}{s:Shared}
end
section
end
section
variable{κ:Type}[DecidableEq κ]
def bE(kvs:List (κ×V))(k:κ):Option V:=(kvs.find? λkv=>decide (kv.1=k)).map (·.2)
def putK(kvs:List (κ×V))(k:κ)(v:V):List (κ×V) :=
 if (kvs.any λkv=>decide (kv.1=k))=true then kvs.map (λkv=>if kv.1=k then(kv.1,v) else kv) else kvs++[(k,v)]
theorem jC{p:κ×V}{r:List (κ×V)}{k:κ}(e:p.1=k):bE (p::r) k=some p.2:=by simp[bE,List.find?_cons,e]
theorem jD{p:κ×V}{r:List (κ×V)}{k:κ}(e:¬ p.1=k):bE (p::r) k=bE r k:=by simp[bE,List.find?_cons,e]
theorem q_(k:κ):∀kvs:List (κ×V),(kvs.any λkv=>decide (kv.1=k))=(bE kvs k).isSome
 | []=>rfl
 |p::r=>by
  rw[List.any_cons];by_cases e:p.1=k
  .simp only[jC e,decide_eq_true e,Bool.true_or,Option.isSome_some]
  .rw[jD e,decide_eq_false e,Bool.false_or];exact q_ k r
theorem rb(kvs:List (κ×V))(k:κ)(v:V):(putK kvs k v).length<=kvs.length+1:=by
 unfold putK;split
 .rw[List.length_map];omega
 .rw[List.length_append,List.length_cons,List.length_nil];omega
theorem bx.isSome_eq{o:Option V}{u:Option Value}(r:bx o u):o.isSome=u.isSome:=by
 cases o with
 |none=>cases u with
  |none=>rfl
  |some _=>exact(show False from r).elim
 |some _=>cases u with
  |none=>exact(show False from r).elim
  |some _=>rfl
theorem KV.val{kvs:List (κ×V)}{vs:List (κ×Value)}(r:KV kvs vs)(k:κ):bx (bE kvs k) (valueAt vs k):=by
 unfold KV at r;induction r with
 |nil=>exact True.intro
 |@cons p q ps qs h t ih =>
  obtain⟨h1,h2⟩:=h;by_cases e:p.1=k
  .have e':q.1=k:=h1.symm.trans e;have b:valueAt (q::qs) k=some q.2:=by simp[valueAt,List.find?_cons,e']
   rw[jC e,b];exact h2
  .have e':¬ q.1=k:=λz=>e (h1.trans z)
   have b:valueAt (q::qs) k=valueAt qs k:=by simp[valueAt,List.find?_cons,e']
   rw[jD e,b];exact ih
theorem KV.any{kvs:List (κ×V)}{vs:List (κ×Value)}(r:KV kvs vs)(k:κ):(kvs.any λkv=>decide (kv.1=k))=vs.any λkv=>decide (kv.1=k):=by
 unfold KV at r;induction r with
 |nil=>rfl
 |cons h t ih=>rw[List.any_cons,List.any_cons,ih,h.1]
theorem KV.repl{kvs:List (κ×V)}{vs:List (κ×Value)}(r:KV kvs vs)(k:κ)(ry:RelV y u) :
  KV (kvs.map λkv=>if kv.1=k then(kv.1,y) else kv) (vs.map λkv=>if kv.1=k then(kv.1,u) else kv):=by
 unfold KV at r ⊢;induction r with
 |nil=>exact .nil
 |@cons p q ps qs h t ih =>
  rw[List.map_cons,List.map_cons];refine .cons ?_ ih;obtain⟨h1,h2⟩:=h;by_cases e:p.1=k
  .rw[if_pos e,if_pos (h1.symm.trans e)];exact⟨h1,ry⟩
  .rw[if_neg e,if_neg (λz=>e (h1.trans z))];exact⟨h1,h2⟩
theorem KV.put{kvs:List (κ×V)}{vs:List (κ×Value)}(r:KV kvs vs)(k:κ)(ry:RelV y u):KV (putK kvs k y) (stored vs k u):=by
 unfold putK stored;rw[r.any k];by_cases e:(vs.any λkv=>decide (kv.1=k))=true
 .rw[if_pos e,if_pos e];exact r.repl k ry
 .rw[if_neg e,if_neg e];exact Paired.snoc r ⟨rfl,ry⟩
theorem KV.length{kvs:List (κ×V)}{vs:List (κ×Value)}(r:KV kvs vs):kvs.length=vs.length:=Paired.length r
end
theorem ig{k:Key}(r:RelV (kV k) u):(bY P w).is k u=true:=by
 cases k with
 |inl i=>obtain⟨t,e⟩:=(show ∃t,u=Value.int i t from r);subst e;exact At P w i t
 |inr x=>obtain⟨t,e⟩:=(show ∃t,u=Value.str x t from r);subst e;exact Au P w x t
theorem rd{P:Program}{w:World}:∀{ks:List Key} {us:List Value},Vals (ks.map kV) us->ItemsAre (bY P w) ks us
 | [],_,r=>by rw[List.map_nil] at r;cases r;exact .nil
 |k::ks,_,r=>by
  rw[List.map_cons] at r;cases r with
  |cons h t=>exact .cons (ig h) (rd t)
abbrev KT(H:Hp):List (List Key×V)->List (List Key×Addr×Value)->Prop:=Paired λp q=>p.1=q.1/\H q.2.1=some (.tup (p.1.map kV))/\RelV p.2 q.2.2
theorem KT.val{xs:List (List Key×Addr×Value)}(r:KT H kvs xs)(k:List Key):bx (bE kvs k) ((atKey xs k).map (·.2)):=by
 induction r with
 |nil=>exact True.intro
 |@cons p q ps qs h t ih =>
  obtain⟨h1,_,h2⟩:=h;by_cases e:p.1=k
  .have e':q.1=k:=h1.symm.trans e;have b:atKey (q::qs) k=some q.2:=by simp[atKey,List.find?_cons,e']
   rw[jC e,b];exact h2
  .have e':¬ q.1=k:=λz=>e (h1.trans z)
   have b:atKey (q::qs) k=atKey qs k:=by simp[atKey,List.find?_cons,e']
   rw[jD e,b];exact ih
theorem KT.repl{xs:List (List Key×Addr×Value)}(r:KT H kvs xs)(k:List Key)(ry:RelV y u) :
  KT H (kvs.map λkv=>if kv.1=k then(kv.1,y) else kv) (xs.map (putAt k u)):=by
 induction r with
 |nil=>exact .nil
 |@cons p q ps qs h t ih =>
  rw[List.map_cons,List.map_cons];refine .cons ?_ ih;obtain⟨h1,h2,h3⟩:=h;unfold putAt;by_cases e:p.1=k
  .rw[if_pos e,if_pos (h1.symm.trans e)];exact⟨h1,h2,ry⟩
  .rw[if_neg e,if_neg (λz=>e (h1.trans z))];exact⟨h1,h2,h3⟩
theorem KT.put{xs:List (List Key×Addr×Value)}(r:KT H kvs xs)(k:List Key){b:Addr}(hb:H b=some (.tup (k.map kV)))(ry:RelV y u) :
  KT H (putK kvs k y) (storedH xs k b u):=by
 have e:(kvs.any λkv=>decide (kv.1=k))=(atKey xs k).isSome:=by
  rw[q_,(r.val k).isSome_eq,Option.isSome_map]
 unfold putK storedH;rw[e];by_cases q:(atKey xs k).isSome=true
 .rw[if_pos q,if_pos q];exact r.repl k ry
 .rw[if_neg q,if_neg q];exact Paired.snoc r ⟨rfl,hb,ry⟩
theorem KT.keeps{xs:List (List Key×Addr×Value)}(r:KT H kvs xs)(ht:∀b ys,H b=some (.tup ys)->H' b=some (.tup ys)):KT H' kvs xs :=
 Paired.mapP r λ_ _ z=>⟨z.1,ht _ _ z.2.1,z.2.2⟩
section
variable{h:Heap}
theorem rf{u:HO}(ok:HOk P w H h)(e:Rd H a u):aw P w H h a u:=e.ok ok
theorem fw{kvs:List (Key×V)}(ok:HOk P w H h)(e:Rd H a (.dK kvs)):kvs.length<=sizeLine/\(a==sysModules)=false/\∃vs,KV kvs vs/\h.DictOf (bY P w) a vs :=
 show aw P w H h a (.dK kvs) from rf ok e
theorem Cc{kvs:List (Key×V)}(ok:HOk P w H h)(e:H a=some (.dK kvs)):kvs.length<=sizeLine/\(a==sysModules)=false/\∃vs,KV kvs vs/\h.DictOf (bY P w) a vs:=fw ok (.inl e)
theorem ii{ks:List Key}(ok:HOk P w H h)(e:H a=some (.tup (ks.map kV))):(tupleKind (bY P w)).is h ks a:=by
 obtain⟨_,its,r,o,h1,h2,n,h3⟩:=(show aw P w H h a (.tup (ks.map kV)) from ok a _ e);exact⟨o,its.toArray,n,h1,h2,h3,by simpa using rd r⟩
theorem ij(ok:HOk P w H h)(e:Rd H a (.dT kvs)):kvs.length<=sizeLine/\(a==sysModules)=false /\
  ∃xs,KT H kvs xs/\h.DictOfH (tupleKind (bY P w)) a xs:=by
 obtain⟨z,y,xs,r,o,es,ep,h1,h2,h3,h4,h5⟩:=(show aw P w H h a (.dT kvs) from rf ok e);refine⟨z,y,xs,r,o,es,ep,h1,h2,h3,h4,λx hx=>?_,h5⟩;have all:∀{l:List (List Key×V)} {m:List (List Key×Addr×Value)},KT H l m->∀x∈m,(tupleKind (bY P w)).is h x.1 x.2.1:=by
  intro l m q;induction q with
  |nil=>intro x hx;exact nomatch hx
  |@cons p q ps qs hq t ih =>
   intro x hx;rcases List.mem_cons.mp hx with e|hx
   .subst e;exact ii ok (by rw[<- hq.1];exact hq.2.1)
   .exact ih x hx
 exact all r x hx
theorem Cd(ok:HOk P w H h)(e:H a=some (.dT kvs)):kvs.length<=sizeLine/\(a==sysModules)=false /\
  ∃xs,KT H kvs xs/\h.DictOfH (tupleKind (bY P w)) a xs:=ij ok (.inl e)
end
def cC(H:Hp)(a:Addr)(y:V)(r:Option V):Prop :=
 (∃kvs k,Rd H a (.dK kvs)/\y=kV k/\r=bE kvs k)\/∃kvs k b,Rd H a (.dT kvs)/\y= .ref b/\H b=some (.tup (k.map kV))/\r=bE kvs k
def ik(H:Hp)(a:Addr)(y v:V)(H':Hp):Prop :=
 (∃kvs k,H a=some (.dK kvs)/\y=kV k/\kvs.length < sizeLine/\H'=upd H a (.dK (putK kvs k v))) \/
 ∃kvs k b,H a=some (.dT kvs)/\y= .ref b/\H b=some (.tup (k.map kV))/\kvs.length < sizeLine/\H'=upd H a (.dT (putK kvs k v))
theorem ik.k{H:Hp}{a:Addr}{kvs:List (Key×V)}{k:Key}{v:V}(e:H a=some (.dK kvs))(hl:kvs.length < sizeLine):ik H a (kV k) v (upd H a (.dK (putK kvs k v))):= .inl ⟨kvs,k,e,rfl,hl,rfl⟩
section
variable{s:Shared}{v:V}{r:Value}{o:Option V}
theorem Inv.big(I:Inv X pins σ H s):sysModules < s.heap.objs.size:=by
 have h:mainGlobals < s.heap.objs.size:=(I.mod.glob.keeps I.bk).lt;exact Nat.lt_trans (by decide) h
theorem Ce(hu:A.units+1 < cLine)(I:Inv X pins σ H s)(g:cC H a y (some v))(ry:RelV y u)(h:∀w' s',Inv X pins σ H s'->RelV v w'->Q w' s') :
  wpAny (model X.prog X.w) A (getItem (.ref a) u) Q E s:=by
 rcases g with⟨kvs,k,e,ey,l⟩|⟨kvs,k,b,e,ey,eb,l⟩
 .subst ey;obtain⟨z,hd,vs,rel,dd⟩:=fw I.hok e;obtain⟨w',hw,rw'⟩:=bx.some_of (v:=v) (o:=valueAt vs k) (by rw[l];exact rel.val k);exact wpAny_getItem_of (ig ry) dd.mapOf hw (h w' _ (I.tok _) rw')
 .subst ey;cases (show u=Value.ref b from ry);obtain⟨z,hd,xs,rel,dd⟩:=ij I.hok e;obtain⟨w',hw,rw'⟩:=bx.some_of (v:=v) (o:=(atKey xs k).map (·.2)) (by rw[l];exact rel.val k);obtain⟨p,hp,hp2⟩:=Option.map_eq_some_iff.mp hw;refine wpAny_getItem_heap (tupleKind_room_in1 hu) (ii I.hok eb) dd hp ?_;rw[hp2];exact h w' _ (I.tok _) rw'
theorem Cf(hu:A.units+1 < cLine)(I:Inv X pins σ H s)(g:cC H a y o)(ry:RelV y u)(h:∀s',Inv X pins σ H s'->Q (.bool o.isSome) s') :
  wpAny (model X.prog X.w) A (compareOp .In u (.ref a)) Q E s:=by
 rcases g with⟨kvs,k,e,ey,l⟩|⟨kvs,k,b,e,ey,eb,l⟩
 .subst ey;obtain⟨z,hd,vs,rel,dd⟩:=fw I.hok e;refine wpAny_in_of (ig ry) hd dd.mapOf ?_;rw[<- (rel.val k).isSome_eq,<- l];exact h _ (I.tok _)
 .subst ey;cases (show u=Value.ref b from ry);obtain⟨z,hd,xs,rel,dd⟩:=ij I.hok e;refine wpAny_in_heap (tupleKind_room_in1 hu) (ii I.hok eb) hd dd ?_;have q:=(rel.val k).isSome_eq;rw[Option.isSome_map] at q;rw[<- q,<- l];exact h _ (I.tok _)
theorem Cg(hu:A.units+1 < cLine)(I:Inv X pins σ H s)(g:cC H a y o)(ry:RelV y u)(h:∀s',Inv X pins σ H s'->Q (.bool (!o.isSome)) s') :
  wpAny (model X.prog X.w) A (compareOp .NotIn u (.ref a)) Q E s:=by
 rcases g with⟨kvs,k,e,ey,l⟩|⟨kvs,k,b,e,ey,eb,l⟩
 .subst ey;obtain⟨z,hd,vs,rel,dd⟩:=fw I.hok e;refine wpAny_notIn_of (ig ry) hd dd.mapOf ?_;rw[<- (rel.val k).isSome_eq,<- l];exact h _ (I.tok _)
 .subst ey;cases (show u=Value.ref b from ry);obtain⟨z,hd,xs,rel,dd⟩:=ij I.hok e;refine wpAny_notIn_heap (tupleKind_room_in1 hu) (ii I.hok eb) hd dd ?_;have q:=(rel.val k).isSome_eq;rw[Option.isSome_map] at q;rw[<- q,<- l];exact h _ (I.tok _)
theorem rg{h':Heap}{ob:HO}(I:Inv X pins σ H s)(mu:Mut (H a))(hs:Heap.SameBut a s.heap h')(he:∃q,h'.get? a=some q)(new:aw X.prog X.w (upd H a ob) h' a ob) :
  Inv X pins σ (upd H a ob) {s with heap:=h',toks:=t'} :=
 I.write (x:=a) (e:=a) mu (.inl rfl) (λb q hb z=>(hs.2 b hb).trans z) he new
theorem Ci{h':Heap}{kvs:List (Key×V)}{vs:List (Key×Value)}(z:kvs.length<=sizeLine)(hd:(a==sysModules)=false)(rel:KV kvs vs)(dd:h'.DictOf (bY P w) a vs) :
  aw P w H' h' a (.dK kvs):=⟨z,hd,vs,rel,dd⟩
theorem Cj{Q:Unit->Shared->Prop}(hu:A.units+1 < cLine)(I:Inv X pins σ H s)(g:ik H a y v H')(ry:RelV y u)(rv:RelV v r)(h:∀s',Inv X pins σ H' s'->Q () s') :
  wpAny (model X.prog X.w) A (setItem (.ref a) u r) Q E s:=by
 rcases g with⟨kvs,k,e,ey,l,eH⟩|⟨kvs,k,b,e,ey,eb,l,eH⟩
 .subst ey eH;obtain⟨z,hd,vs,rel,dd⟩:=Cc I.hok e;have hz:vs.length<=sizeLine:=by rw[<- rel.length];exact z
  have hl:(putK kvs k v).length<=sizeLine:=by have:=rb kvs k v;omega
  refine wpAny_setItem_pairs (hsz:=hz) (ig ry) dd λh' dd' hs=>h _ ?_
  have he:∃q,h'.get? a=some q:=let ⟨q,_,_,hq,_⟩:=dd';⟨q,hq⟩;exact rg I (by rw[e];exact True.intro) hs he (Ci hl hd (rel.put k rv) dd')
 .subst ey eH;cases (show u=Value.ref b from ry);obtain⟨z,hd,xs,rel,dd⟩:=Cd I.hok e;have hz:xs.length<=sizeLine:=by rw[<- Paired.length rel];exact z
  have hl:(putK kvs k v).length<=sizeLine:=by have:=rb kvs k v;omega
  refine wpAny_setItem_heap (hsz:=hz) (tupleKind_room_in1 hu) (ii I.hok eb) dd λh' dd' hs=>h _ ?_
  obtain⟨q,es,ep,hq,h2,h3,h4,_,h5⟩:=dd';refine rg I (by rw[e];exact True.intro) hs ⟨q,hq⟩ ⟨hl,hd,_,(rel.put k eb rv).keeps λc ys ec=>?_,q,es,ep,hq,h2,h3,h4,h5⟩;rw[zy (Av ec e (λz=>nomatch z))];exact ec
end
section
variable{s:Shared}{kvs:List (Key×V)}{k:Key}
theorem Ck(I:Inv X pins σ H s)(e:Rd H a (.dK kvs))(h:∀t s',Inv X pins σ H s'->Q (.int kvs.length t) s'):wpAny (model X.prog X.w) A (call (.builtin "len") [.ref a]) Q E s:=by
 obtain⟨z,hd,vs,rel,dd⟩:=fw I.hok e;refine call_len_dict hd dd (by rw[<- rel.length];rw[sizeLine_eq] at z;omega) ?_;rw[<- rel.length];exact h _ _ (I.tok _)
end
def mF(i:Expr):Prop:=∀ov iv,subscripted i false ov iv=operate [ov,iv] (getItem ov iv)
theorem Cl{prog:Program}{s:Shared}{env:Env}{value slice:Expr}{id:String}
  (hl:typeLookup (.type T) "__getitem__"=pure (some (.builtin id)))(hs:mF slice)
  (h:wpAny (model prog w) A (eval value env) (λo s₁=>wpAny (model prog w) A (eval slice env) (λi s₂=>s₂.TypeIs o T/\wpAny (model prog w) A (getItem o i) Q E s₂) E s₁) E s) :
  wpAny (model prog w) A (eval (.Subscript value slice pos) env) Q E s:=by
 refine Subscript_ (wpAny_mono h (λo s₁ h₁=>wpAny_mono h₁ (λi s₂ h₂=>?_) λ_ _ x=>x) λ_ _ x=>x);obtain⟨hT,h₂⟩:=h₂;unfold subscriptTail;refine wpAny_bind ?_;rw[getitemInPython_of_ne hT.not_modules];refine wpAny_bind (wpAny_specialOf hT hl ?_);have fin:wpAny (model prog w) A (subscripted slice false o i) (λr s₃=>wpAny (model prog w) A (letTemporaryGo value o r >>= λ_=>pure r) Q E s₃) E s₂:=by
  rw[hs o i];exact wpAny_operating (wpAny_mono h₂ (λr s₃ h₃=>wpAny_bind (wpAny_letTemporaryGo (wpAny_pure h₃))) λ_ _ x=>x)
 first
  |exact wpAny_pure (wpAny_bind fin)
  |exact wpAny_bind (wpAny_pure (wpAny_bind fin))
  |exact wpAny_bind fin
theorem Cm{s:Shared}{o:Option V}(I:Inv X pins σ H s)(g:cC H a y o):s.TypeIs (.ref a) "dict":=by
 rcases g with⟨kvs,k,e,_,_⟩|⟨kvs,k,b,e,_,_,_⟩
 .obtain⟨_,_,vs,_,dd⟩:=fw I.hok e;exact dd.typeIs
 .obtain⟨_,_,xs,_,dd⟩:=ij I.hok e;exact dd.typeIs
def mG(td ty:TE):TE:=λσ H Q=>td σ H λx H1=>ty σ H1 λy H2=>∃a v,x= .ref a/\cC H2 a y (some v)/\Q v H2
def mH(td ty tv:TE):TS:=λD σ H=>tv σ H λv H1=>td σ H1 λx H2=>ty σ H2 λy H3=>∃a H4,x= .ref a/\ik H3 a y v H4/\D.nx σ H4
section
variable{o i e value:Expr}{pos' tpos:Pos}{td ty tv:TE}
theorem Cn(hu:X.A.units+1 < cLine)(ho:PE X o td)(hi:PE X i ty)(hs:mF i):PE X (.Subscript o i pos) (mG td ty):=by
 intro pins s σ H Q I h;refine Cl PySem.F.slot_dict_getitem.lookup hs (thn (ho pins s σ H _ I h) λu s1 ⟨x,H1,I1,rx,q1⟩=>thn (hi pins s1 σ H1 _ I1 q1) λiv s2 ⟨y,H2,I2,ry,a,v,ex,g,q2⟩=>?_);subst ex;obtain rfl:u=Value.ref a:=rx;exact⟨Cm I2 g,Ce hu I2 g ry λw' s3 I3 rw'=>⟨v,H2,I3,rw',q2⟩⟩
theorem Co(hu:X.A.units+1 < cLine)(ho:PE X o td)(hi:PE X i ty)(hv:PE X value tv)(hs:swapsWith value (some (.Subscript o i pos')) pos.line X.env=pure false) :
  PS X (.Assign [.Subscript o i pos'] value pos) (mH td ty tv):=by
 intro pins s σ H D I h;refine wpAny_Assign_Subscript (thn (hv pins s σ H _ I h) λr s1 ⟨v,H1,I1,rv,q1⟩=>thn (ho pins s1 σ H1 _ I1 q1) λu s2 ⟨x,H2,I2,rx,q2⟩=>thn (hi pins s2 σ H2 _ I2 q2) λiv s3 ⟨y,H3,I3,ry,a,H4,ex,g,q3⟩=>?_) hs;subst ex;obtain rfl:u=Value.ref a:=rx;exact Cj hu I3 g ry rv λs4 I4=>⟨σ,H4,I4,q3⟩
end
theorem Cp(h:Heap)(hb:sysModules < h.objs.size):aw P w H (h.push {cls:= .type "dict",data:= .dict #[]}) h.objs.size (.dK []) :=
 ⟨Nat.zero_le _,beq_eq_false_iff_ne.mpr (Ne.symm (Nat.ne_of_lt hb)),[],.nil,Heap.DictOf.new h⟩
def mI:TE:=λ_ H Q=>∀p,H p=none->Q (.ref p) (upd H p (.dK []))
section
theorem Cq:PE X (.Dict [] [] pos) mI:=λpins s σ H Q I h =>
 wpAny_Dict_empty ⟨.ref s.heap.objs.size,_,I.laid (a:=s.heap.objs.size) (o:= .dK []) (t':=s.toks) (λ_ _ q=>Heap.get?_push_of_some _ q) (Nat.le_refl _) (Cp s.heap I.big),rfl,h _ (I.hok.fresh (Nat.le_refl _))⟩
end
structure M1(X:Cx)(o:Expr)(m:Str)(apos:Pos)(e:Expr)(cpos:Pos):Prop where
 base:attributeBase o m X.env (eval o X.env)=eval o X.env
 few:((backTo cpos (starEach [e] X.env)).all (λx=> !x.1)&&(backToKw cpos (keywordEach [] X.env)).all (λx=>x.1.isSome)
  && decide (([e]:List Expr).length+([]:List Keyword).length+(if ([]:List Keyword).isEmpty then 0 else 1) < 30))=true
 line:(apos.endLine==cpos.line)=true
 trees:backTo cpos (starEach [e] X.env)=[(false,eval e X.env)]
structure M2(X:Cx)(o:Expr)(m:Str)(apos:Pos)(e f:Expr)(cpos:Pos):Prop where
 base:attributeBase o m X.env (eval o X.env)=eval o X.env
 few:((backTo cpos (starEach [e,f] X.env)).all (λx=> !x.1)&&(backToKw cpos (keywordEach [] X.env)).all (λx=>x.1.isSome)
  && decide (([e,f]:List Expr).length+([]:List Keyword).length+(if ([]:List Keyword).isEmpty then 0 else 1) < 30))=true
 line:(apos.endLine==cpos.line)=true
 trees:backTo cpos (starEach [e,f] X.env)=[(false,eval e X.env),(false,eval f X.env)]
section
variable{s:Shared}{d:V}{r:Value}{o:Option V}
end
section
variable{o e f:Expr}{apos cpos:Pos}{td ty tx:TE}
end
section
variable{s:Shared}{kvs:List (Key×V)}
end
section
variable{s:Shared}
end
end L2
namespace Att
open PySem PySem.W PySem.Calls PyProof.Rows
theorem Cr{P:Params}{h:Heap}:∀(ns:List Int) (vs:List Value),WellAll P h vs (ns.map WData.int)->IntsAre vs ns:=by
 intro ns;induction ns with
 |nil =>
  intro vs w;rw[List.map_nil] at w;cases w;exact .nil
 |cons n ns ih =>
  intro vs w;rw[List.map_cons] at w;cases w with
  |cons a b =>
   cases a;exact .cons _ _ (ih _ b)
theorem Cs{l:OpenLaw}{n:Nat}(hn:l.most=some n){P:Params}{h:Heap}{args:List WData}{vals:List Value}
  (hpre:l.row.toRowW.claim.pre args=true)(hwl:WellAll P h vals args) :
  ∃a vs ns,vals=[Value.ref a]/\args=[WData.list (ns.map WData.int)]/\h.get? a=some {cls:= .type "list",data:= .seq vs.toArray}/\IntsAre vs ns/\ns.length<=n:=by
 have hsh:WShape.hasAll [] args [.list .int]=true:=(pre_splitW hpre).1;have hc:l.pre.holds [] {args:=args}=true:=(pre_splitW hpre).2;obtain⟨d,r,rfl,h1,h2⟩:=hasAllW_cons hsh;obtain rfl:=hasAllW_nil h2;obtain⟨xs,rfl,h3⟩:=hasW_list h1;obtain⟨ns,rfl⟩:=items_int h3;have hlen:ns.length<=n:=by
  unfold OpenLaw.pre at hc;have h4:(WTm.not (.lt (.lit (.int (n:Int))) (.len (.arg 0)))).holds [] {args:=[.list (ns.map .int)]}=true:=by
   have h4:=(holds_andW hc).1;rw[hn] at h4;exact h4
  have h5:=condW_of h4 (w_not (w_lt w_lit (w_len_list (w_arg rfl))));rw[List.length_map] at h5;refine Nat.le_of_not_lt λq=>?_
  have q':(n:Int) < ((ns.length:Nat):Int):=by omega
  first
   | (rw[decide_eq_true q'] at h5;exact absurd h5 (by decide))
   | (simp at h5;omega)
 cases hwl with
 |cons w1 w2 =>
  cases w2;cases w1 with
  |list ho hall=>exact⟨_,_,ns,rfl,rfl,ho,Cr ns _ hall,hlen⟩
theorem Cu(l:OpenLaw)(args:List WData):l.row.toRowW.claim.post args (.bool true) args=true :=
 postW_of (r:=l.row.toRowW) (X:=(true==true))
  (show WShape.has [] (.bool true) .bool=true by first|rfl|decide|simp[WShape.has,WShape.arms,WShape.armsAll])
  (show(WTm.eq .res (.lit (.bool true))).value [] {args:=args,res:=some (.bool true),after:=args}=some (.bool (true==true)) from w_eq_bool (w_res rfl) w_lit) rfl
theorem Cv{l:OpenLaw}{n:Nat}{q:Program}{loose:List Str}{XP:(Str->Option Value)->Heap->Prop}{YP:World->Heap->Prop}{d:DefRec}
  (hn:l.most=some n)(hdf:d.params.defaults=[])
  (call:∀(w:World) (s₀ s₁:Shared) (mg mb:Str->Option Value) (fa:Addr) (o:Obj) (pm cd doc:Value) (a:Addr) (vs:List Value) (ns:List Int),
   Ground q loose [] XP w s₀ mg mb s₁.heap->YP w s₁.heap ->
   s₁.heap.get? fa=some o->o.data= .func (docDef d.name d.params d.body d.scope pm cd doc)->s₁.heap.CodeRec cd d.name->mg d.name=some (.ref fa) ->
   s₁.heap.get? a=some {cls:= .type "list",data:= .seq vs.toArray}->IntsAre vs ns->ns.length<=n->s₁.gens= #[] ->
   codeAny (model l.prog w) callerA (.call (.ref fa) ⟨[.ref a],[]⟩) (λr s'=>r= .ok (.ret (.bool true))/\OldK s₁.heap s'.heap/\s'.os=s₁.os/\AllBare s'.gens) s₁) :
  WalkO q loose XP YP l.row.toRowW d [] (λf vs=>PySem.call f vs):=by
 intro w s₀ s₁ mg mb G Y fa o pm cd doc dV kV ho hd hcd hD hmg hg args vals as hpre hlay hrd hwl hlo;obtain rfl:dV= .none:=Dflts.none hD hdf;obtain rfl:kV= .none:=Dflts.noKw hD;obtain⟨a,vs,ns,rfl,rfl,hobj,hints,hlen⟩:=Cs hn hpre hwl;refine enter_call (codeAny_mono (call w s₀ s₁ mg mb fa o pm cd doc a vs ns G Y ho (fd_plain hd) hcd hmg hobj hints hlen hg) λr s' hq=>?_);obtain⟨rfl,h2,h3,h4⟩:=hq;exact⟨.inl ⟨.bool true,.bool true,[],rfl,λ_=>rfl,.bool true,Cu l _,λ_=>⟨List.Pairwise.nil,λ_ hm=>(nomatch hm)⟩⟩,h2,h3,h4⟩
section
variable{prog:Program}{w:World}{A:Around}{E:Value->Shared->Prop}{s:Shared}{K:Frag}
end
end Att
namespace L2
open PySem PySem.Spec PyProof.Rows
variable{x qual first y:Str}{ns ho ga ns' ps N S wh:List Str}{scope:Scope}{X:Cx}{K:Frag}{H:Hp}{iter tg elt:Expr}{pos pos':Pos}{pins:List (Addr×Obj)}{g:TG}{st:Stmt}{cm:Bool}{ifs es:List Expr}{te:TE}{wi:TI}{prog:Program}{r:R2}{sp:Sp}{op:CmpOp}{sl lo:Int}{w:World}{A:Around}{env:Env}{h j:Nat}{fd:FuncData}{f a:Addr}{σ:St}{tc:TT}{fp:List Addr}{xs:List V}{ds:List PyData}{E:Value->Shared->Prop}{T:String}
theorem rh:∀{vs:List Value} {ns:List Int},IntsAre vs ns->Vals (ns.map V.int) vs
 |_,_,.nil=> .nil
 |_,_,.cons n t h=> .cons ⟨t,rfl⟩ (rh h)
def inClass(s:Stmt)(j:Nat):Stmt:=match s with
 | .ClassDef _ _ _ body _ _ _ _ _ _ _=>body.getD j (.Pass ⟨0,0,0,0⟩)
 |_=> .Pass ⟨0,0,0,0⟩
def il(s:Stmt):Arguments:=match s with
 | .FunctionDef _ a _ _ _ _ _ _ _ _=>a
 |_=>{posonlyargs:=[],args:=[],vararg:=none,kwonlyargs:=[],kw_defaults:=[],kwarg:=none,defaults:=[]}
def cD(s:Stmt):List Stmt:=match s with
 | .FunctionDef _ _ b _ _ _ _ _ _ _=>b
 |_=>[]
def zr(s:Stmt):Scope:=match s with
 | .FunctionDef _ _ _ _ _ _ sc _ _ _=>sc
 |_=>{kind:= .function,names:=[],isGenerator:=false,isCoroutine:=false}
abbrev CX0:CXT:=λ_ _ _ _ _ _=>False
abbrev E0:XK:=λ_ _ _=>False
theorem gl:cU CX0 X E0:=λ_ _ _ _ _ _ _ h=>h.elim
structure Fun(K:Frag)(x qual:Str)(st:Stmt)(f:Addr)(fd:FuncData):Prop where
 ex:∃(oc:Value) (od:Option Addr) (kV:Value×Value) (doc pm:Value) (an:Option Addr) (cdv ct:Value) (osl:Array (Option Value)),
  fd=fnOf x qual (il st) (cD st) (zr st) kV.1 kV.2 doc pm an cdv ct/\K.lookup f=some ⟨oc,od,.func fd,osl⟩/\codeIn K cdv qual=true
 kp:keepIn K (.ref f)=true
section
variable{P:Program}{mg:Str->Option Value}{base:Heap}
theorem Fun.ok{k:Nat}(F:Fun K x qual st f fd)(S:zG N ps (zr st))(len:∀vs H Q E,sp vs H Q E->vs.length=ps.length)
  (hbody:∀(cdv:Value) (A:Around) (outer:List Env) (s:Shared) (H:Hp) (vs:List V) (Q:VK) (E:XK),aS k (A.deeper (envOfC qual (zr st) s.heap.objs.size f cdv))->sp vs H Q E ->
   ∃t,PSs (cz CX0 P w K mg base N qual (zr st) f cdv A outer s H E).nox (cD st) t/\t {nx:=λ_ H'=>Q .non H',rt:=Q} (start N vs) H):zU P w K mg base CX0 (k+1) f fd ps sp:=by
 obtain⟨oc,od,kV,doc,pm,an,cdv,ct,osl,rfl,lk,hcd⟩:=F.ex;refine my lk hcd S len λA outer s H vs Q E hr hsp=>?_
 obtain⟨t,h,q⟩:=hbody cdv A outer s H vs Q E hr hsp;exact⟨t,h.nox,q⟩
theorem Fun.binds(F:Fun K x qual st f fd)
  (h:∀(kV doc pm:Value) (an:Option Addr) (cdv ct:Value) (us:List Value),us.length=ps.length->bindArgs (fnOf x qual (il st) (cD st) (zr st) .none kV doc pm an cdv ct) ⟨us,[]⟩=pure (ps.zip us))(hd:fd.defaults= .none:=by rfl):Binds K fd ps []:=by
 obtain⟨oc,od,kV,doc,pm,an,cdv,ct,osl,rfl,lk,hcd⟩:=F.ex;have e:kV.1= .none:=hd;rw[e];exact .all (h kV.2 doc pm an cdv ct)
theorem zQ{oc:Value}{od an:Option Addr}{osl:Array (Option Value)}{dV kV doc pm cdv ct:Value}(l:K.lookup f=some ⟨oc,od,.func (fnOf x qual (il st) (cD st) (zr st) dV kV doc pm an cdv ct),osl⟩)
  (c:codeIn K cdv qual=true)(k:keepIn K (.ref f)=true):Fun K x qual st f (fnOf x qual (il st) (cD st) (zr st) dV kV doc pm an cdv ct):=⟨⟨oc,od,(dV,kV),doc,pm,an,cdv,ct,osl,rfl,l,c⟩,k⟩
end
theorem b7{k:Nat}(hr:aO cm k A):A.units+1 < cLine:=Nat.lt_of_le_of_lt (Nat.add_le_add_left (by decide:1<=64) _) hr.units
section
end
theorem Cw{A B:Prop}(h:A):if true=true then A else B:=by
 rw[if_pos rfl];exact h
theorem jE{c A B:Prop}[Decidable c](h1:c->A)(h2:¬ c->B):if c then A else B:=by
 by_cases h:c
 .rw[if_pos h];exact h1 h
 .rw[if_neg h];exact h2 h
def cX(H H':Hp):Prop:=∀b o,H b=some o->H' b=some o
section
theorem Cy:zW X (.builtin "len") (λxs H Q=>∃a kvs,xs=[V.ref a]/\H a=some (.dK kvs)/\Q (.int kvs.length) H):=by
 intro pins s σ H xs us Q I r h;obtain⟨a,kvs,rfl,ha,q⟩:=h;obtain⟨u,rfl,ru⟩:=vals1 r;cases ru;exact Ck I (.inl ha) λt s' I'=>⟨.int kvs.length,H,I',⟨t,rfl⟩,q⟩
end
section
variable{κ:Type}[DecidableEq κ]
end
def a_(env:Env):List (Str×NameKind)->List (Str×Addr)->List (Str×Addr)
 | [],acc=>acc
 | (n,k)::r,acc=>if k== .free then a_ env r ((n,(env.cells.lookup n).getD 0)::acc) else a_ env r acc
theorem mJ{env:Env}(f:Str×NameKind->List (Str×Addr)->Sem (ForInStep (List (Str×Addr))))
  (hf:∀n k cs,f (n,k) cs=if k== .free then(do let a<-cellOf env n;pure (.yield ((n,a)::cs))) else pure (.yield cs)) :
  ∀(names:List (Str×NameKind)) (acc:List (Str×Addr)),(∀x∈names,x.2= .free->(env.cells.lookup x.1).isSome=true)->forIn names acc f=(pure (a_ env names acc):Sem _)
 | [],acc,_=>rfl
 | (n,k)::r,acc,h=>by
  have hr:∀x∈r,x.2= .free->(env.cells.lookup x.1).isSome=true:=λx hx=>h x (List.mem_cons_of_mem _ hx)
  rw[List.forIn_cons,hf];unfold a_;cases hk:k==NameKind.free with
  |true =>
   obtain⟨c,hc⟩:=Option.isSome_iff_exists.mp (h (n,k) List.mem_cons_self (by simpa using hk));have e:cellOf env n=pure c:=by unfold cellOf;rw[hc]
   simp only[if_true];rw[e,pure_bind,pure_bind,hc];exact mJ f hf r _ hr
  |false =>
   simp only[Bool.false_eq_true,if_false];rw[pure_bind];exact mJ f hf r _ hr
theorem rj(h:∀x∈scope.names,x.2= .free->(env.cells.lookup x.1).isSome=true):closureFor scope env=pure (a_ env scope.names []):=by
 simp only[closureFor];rw[mJ (env:=env) _ (λn k cs=>by
  cases hk:k==NameKind.free<;>simp[hk]) _ _ h]
 rfl
theorem gm{env:Env}:∀{names:List (Str×NameKind)} {acc:List (Str×Addr)} {n:Str} {c:Addr},(n,c)∈a_ env names acc->(n,c)∈acc\/((n,.free)∈names/\c=(env.cells.lookup n).getD 0)
 | [],_,_,_,h=> .inl h
 | (x,k)::r,acc,n,c,h=>by
  unfold a_ at h;cases hk:k==NameKind.free with
  |true =>
   rw[hk] at h;simp only[if_true] at h;have ek:k= .free:=by simpa using hk
   subst ek;rcases gm h with h|h
   .rcases List.mem_cons.mp h with e|h
    .cases e;exact .inr ⟨List.mem_cons_self,rfl⟩
    .exact .inl h
   .exact .inr ⟨List.mem_cons_of_mem _ h.1,h.2⟩
  |false =>
   rw[hk] at h;simp only[Bool.false_eq_true,if_false] at h;rcases gm h with h|h
   .exact .inl h
   .exact .inr ⟨List.mem_cons_of_mem _ h.1,h.2⟩
theorem mK{env:Env}:∀{names:List (Str×NameKind)} {acc:List (Str×Addr)} {p:Str×Addr},p∈acc->p∈a_ env names acc
 | [],_,_,h=>h
 | (x,k)::r,acc,p,h=>by
  unfold a_;split
  .exact mK (List.mem_cons_of_mem _ h)
  .exact mK h
theorem mL{env:Env}:∀{names:List (Str×NameKind)} {acc:List (Str×Addr)} {n:Str},(n,.free)∈names->(n,(env.cells.lookup n).getD 0)∈a_ env names acc
 | (x,k)::r,acc,n,h=>by
  unfold a_;rcases List.mem_cons.mp h with e|h
  .cases e;exact mK List.mem_cons_self
  .split<;>exact mL h
theorem mM:∀{names:List (Str×NameKind)} {m:Nat} {acc:List (Str×Addr)} {n:Str} {c:Addr},(n,c)∈cellsFrom m names acc->(n,c)∈acc\/((n,.cell)∈names/\m<=c)
 | [],_,_,_,_,h=> .inl h
 | (x,k)::r,m,acc,n,c,h=>by
  unfold cellsFrom at h;cases hk:k==NameKind.cell with
  |true =>
   rw[hk] at h;simp only[if_true] at h;have ek:k= .cell:=by simpa using hk
   subst ek;rcases mM h with h|h
   .rcases List.mem_cons.mp h with e|h
    .cases e;exact .inr ⟨List.mem_cons_self,Nat.le_refl _⟩
    .exact .inl h
   .exact .inr ⟨List.mem_cons_of_mem _ h.1,Nat.le_of_succ_le h.2⟩
  |false =>
   rw[hk] at h;simp only[Bool.false_eq_true,if_false] at h;rcases mM h with h|h
   .exact .inl h
   .exact .inr ⟨List.mem_cons_of_mem _ h.1,h.2⟩
theorem im:∀{names:List (Str×NameKind)} {m:Nat} {acc:List (Str×Addr)} {p:Str×Addr},p∈acc->p∈cellsFrom m names acc
 | [],_,_,_,h=>h
 | (x,k)::r,m,acc,p,h=>by
  unfold cellsFrom;split
  .exact im (List.mem_cons_of_mem _ h)
  .exact im h
theorem rk:∀{names:List (Str×NameKind)} {m:Nat} {acc:List (Str×Addr)} {n:Str},(n,.cell)∈names->∃c,(n,c)∈cellsFrom m names acc
 | (x,k)::r,m,acc,n,h=>by
  unfold cellsFrom;rcases List.mem_cons.mp h with e|h
  .cases e;exact⟨m,im List.mem_cons_self⟩
  .split<;>exact rk h
theorem io{α:Type}:∀{l:List (Str×α)} {n:Str} {c:α},(n,c)∈l->∃c',l.lookup n=some c'/\(n,c')∈l
 | (k,v)::r,n,c,h=>by
  rw[List.lookup_cons];cases hb:n==k with
  |true=>exact⟨v,rfl,by rw[beq_iff_eq.mp hb];exact List.mem_cons_self⟩
  |false =>
   rcases List.mem_cons.mp h with e|h
   .cases e;simp at hb
   .obtain⟨c',e,m⟩:=io h;exact⟨c',e,List.mem_cons_of_mem _ m⟩
theorem jF{α:Type}:∀{l:List (Str×α)} {n:Str} {a b:α},(l.map (·.1)).Nodup->(n,a)∈l->(n,b)∈l->a=b
 |x::r,n,a,b,nd,h,h'=>by
  rw[List.map_cons,List.nodup_cons] at nd;have no:∀c,(n,c)∈r->n≠x.1:=λc hc e=>nd.1 (by rw[<- e];exact List.mem_map_of_mem (f:=(·.1)) hc)
  rcases List.mem_cons.mp h with e|h<;>rcases List.mem_cons.mp h' with e' |h'
  .rw[<- e] at e';cases e';rfl
  .exact absurd (by rw[<- e]) (no b h')
  .exact absurd (by rw[<- e']) (no a h)
  .exact jF nd.2 h h'
theorem rl{α:Type}{l:List (Str×α)}{n:Str}{a:α}(nd:(l.map (·.1)).Nodup)(h:(n,a)∈l):l.lookup n=some a:=by
 obtain⟨c,e,m⟩:=io h;rw[e,jF nd h m]
theorem mO:∀{names:List (Str×NameKind)} {m:Nat} {acc:List (Str×Addr)},(∀p∈acc,p.2 < m)->(∀n n' c,(n,c)∈acc->(n',c)∈acc->n=n') ->
  ∀n n' c,(n,c)∈cellsFrom m names acc->(n',c)∈cellsFrom m names acc->n=n'
 | [],_,_,_,h,n,n',c,a,b=>h n n' c a b
 | (x,k)::r,m,acc,lt,h,n,n',c,a,b=>by
  unfold cellsFrom at a b;cases hk:k==NameKind.cell with
  |true =>
   rw[hk] at a b;simp only[if_true] at a b;refine mO (m:=m+1) (acc:=(x,m)::acc) (λp hp=>?_) (λn n' c a b=>?_) n n' c a b
   .rcases List.mem_cons.mp hp with rfl|hp
    .exact Nat.lt_succ_self _
    .exact Nat.lt_succ_of_lt (lt p hp)
   .rcases List.mem_cons.mp a with e|a<;>rcases List.mem_cons.mp b with e' |b
    .cases e;cases e';rfl
    .cases e;exact absurd (lt _ b) (Nat.lt_irrefl _)
    .cases e';exact absurd (lt _ a) (Nat.lt_irrefl _)
    .exact h n n' c a b
  |false =>
   rw[hk] at a b;simp only[Bool.false_eq_true,if_false] at a b;exact mO lt h n n' c a b
theorem mP:∀(names:List (Str×NameKind)) (h:Heap) (acc:List (Str×Addr)) (n:Str) (c:Addr),(n,c)∈cellsFrom h.objs.size names acc->(n,c)∈acc\/(pushCells h names).IsCell c none
 | [],_,_,_,_,h=> .inl h
 | (x,k)::r,h,acc,n,c,hm=>by
  unfold cellsFrom at hm;unfold pushCells;cases hk:k==NameKind.cell with
  |true =>
   rw[hk] at hm;simp only[if_true] at hm ⊢;rw[show h.objs.size+1=(h.push {cls:= .type "cell",data:= .cell none}).objs.size from (Heap.size_push ..).symm] at hm;rcases mP r _ _ n c hm with h1|h1
   .rcases List.mem_cons.mp h1 with e|h1
    .cases e;exact .inr (Heap.IsCell.keeps ⟨_,Heap.get?_push_size _ rfl,rfl⟩ (pushCells_keeps r _))
    .exact .inl h1
   .exact .inr h1
  |false =>
   rw[hk] at hm;simp only[Bool.false_eq_true,if_false] at hm ⊢;exact mP r h acc n c hm
def eK(scope:Scope)(C:Addr)(env:Env):Env:=compEnvC scope (cellsFrom (C+1) scope.names (a_ env scope.names [])) C env
theorem Cz{M:Model}{s:Shared}{globals:Addr}{cl:List (Str×Addr)}{Q:Env->Shared->Prop}
  (h:Q (newEnv scope s.heap.objs.size globals (cellsFrom (s.heap.objs.size+1) scope.names cl) qual none .none (some env) builtinsNs) {s with heap:=pushCells (s.heap.push {cls:= .type "dict",data:= .dict #[]}) scope.names}) :
  wpAny M A (newFunctionEnv scope globals cl [] qual none .none (some env)) Q E s:=by
 simp only[newFunctionEnv,Option.isSome_some,if_true];refine wpAny_bind (wpAny_alloc ?_);refine wpAny_bind (wpAny_layCells _ (λname kind cells=>by cases hkc:kind==NameKind.cell<;>simp[hkc]) _ _ _ _ ?_);rw[show({s with heap:=s.heap.push {cls:= .type "dict",data:= .dict #[]}}:Shared).heap.objs.size=s.heap.objs.size+1 from Heap.size_push ..];rw[List.forIn_nil];exact wpAny_bind (wpAny_pure (wpAny_pure h))
def zX(X:Cx)(N:List Str)(scope:Scope)(C:Addr)(s:Shared)(H:Hp)(ex:List Addr):Cx where
 prog:=X.prog
 w:=X.w
 K:=X.K
 mg:=X.mg
 base:=X.base
 A:=X.A
 N:=N
 s₀:=s
 H₀:=H
 env:=eK scope C X.env
 outer:=X.stack
 stack:=X.stack
 ex:=ex
 fn:=λx=>scope.names.lookup x==some .cell
 calm:=X.calm
 pn:=[]
 xe:=λ_ _=>False
structure eM(X:Cx)(scope:Scope):Prop where
 kind:scope.kind= .function
 nd:(scope.names.map (·.1)).Nodup
 free:∀x∈scope.names,x.2= .free->(X.env.kindOf x.1=some .cell\/X.env.kindOf x.1=some .free)
def freeOk(sc:Scope)(scope:Scope):Bool:=scope.names.all λx=>x.2 != .free||(sc.names.lookup x.1==some .cell||sc.names.lookup x.1==some .free)
theorem eM.of(k:scope.kind= .function)(nd:(scope.names.map (·.1)).Nodup)(f:freeOk X.env.scope scope=true):eM X scope:=⟨k,nd,λx hx e=>by
 have q:=List.all_eq_true.mp f x hx;rw[e] at q;show X.env.scope.names.lookup x.1=_\/X.env.scope.names.lookup x.1=_;simpa using q⟩
theorem jG{env:Env}:∀{names:List (Str×NameKind)} {x:Str} {k:NameKind},
  (names.map λ(n,k)=>if (k==NameKind.free&&env.scope.kind== .function&&env.kindOf n==some .cell) then(n,NameKind.cell) else(n,k)).lookup x=some k ->
  (∃k',names.lookup x=some k'/\(k'=k\/(k'= .free/\k= .cell/\env.kindOf x=some .cell)))
 | [],_,_,h=>by simp at h
 | (n,k0)::r,x,k,h=>by
  rw[List.map_cons,List.lookup_cons] at h;rw[List.lookup_cons];have hn:(if (k0==NameKind.free&&env.scope.kind== .function&&env.kindOf n==some .cell)=true then(n,NameKind.cell) else(n,k0)).1=n:=by split<;>rfl
  dsimp only at h;rw[hn] at h;cases hx:x==n with
  |false =>
   rw[hx] at h;exact jG h
  |true =>
   rw[hx] at h;simp only[Option.some.injEq] at h;refine⟨k0,rfl,?_⟩;have ex:x=n:=beq_iff_eq.mp hx;subst ex;by_cases hc:(k0==NameKind.free&&env.scope.kind== .function&&env.kindOf x==some .cell)=true
   .rw[if_pos hc] at h;simp only[Bool.and_eq_true,beq_iff_eq] at hc;exact .inr ⟨hc.1.1,h.symm,hc.2⟩
   .rw[if_neg hc] at h;exact .inl h
def cY(σ:St)(fr:List Nat):St:=fr.map λj=>(σ[j]?).join
theorem CA{s s3:Shared}{own free:List Str}{fr:List Nat}{ex:List Addr}(S:eM X scope)
  (I:Inv X pins σ H s)(hex:∀b∈ex,dm X pins H b)(hob:∀b∈ex,∃o,s.heap.get? b=some o)(hfr:fr.map (λj=>X.N[j]?)=free.map some)(hff:∀x∈free,scope.names.lookup x=some .free)
  (hs3:∀b o,s.heap.get? b=some o->s3.heap.get? b=some o)(hsz:s.heap.objs.size<=s3.heap.objs.size)(ho:s3.os=s.os)(hg:s3.gens=s.gens) :
  Inv (zX X (own++free) scope s3.heap.objs.size s H ex) [] (own.map (λ_=>none)++cY σ fr) H {s3 with heap:=pushCells (s3.heap.push {cls:= .type "dict",data:= .dict #[]}) scope.names}:=by
 have hsome:∀x∈scope.names,x.2= .free->∃c,X.env.cells.lookup x.1=some c:=λx hx e=>I.ok.has x.1 (S.free x hx e)
 have keep:∀b o,s3.heap.get? b=some o->(pushCells (s3.heap.push {cls:= .type "dict",data:= .dict #[]}) scope.names).get? b=some o:=λb o e=>pushCells_keeps _ _ b o (Heap.get?_push_of_some _ e)
 have hkeep:∀b o,s.heap.get? b=some o->(pushCells (s3.heap.push {cls:= .type "dict",data:= .dict #[]}) scope.names).get? b=some o:=λb o e=>keep b o (hs3 b o e)
 have cells:∀n c,(n,c)∈(eK scope s3.heap.objs.size X.env).cells->((n,NameKind.free)∈scope.names/\X.env.cells.lookup n=some c)\/((n,NameKind.cell)∈scope.names/\s3.heap.objs.size+1<=c/\(pushCells (s3.heap.push {cls:= .type "dict",data:= .dict #[]}) scope.names).IsCell c none):=λn c h=>by
  have h':(n,c)∈cellsFrom (s3.heap.objs.size+1) scope.names (a_ X.env scope.names []):=h;have hc:=mM h';have e:=mP scope.names (s3.heap.push {cls:= .type "dict",data:= .dict #[]}) (a_ X.env scope.names []) n c (by rw[Heap.size_push];exact h');have fromClos:(n,c)∈a_ X.env scope.names []->(n,NameKind.free)∈scope.names/\X.env.cells.lookup n=some c:=λhm=>by
   rcases gm hm with h|⟨hn,rfl⟩
   .exact absurd h (by simp)
   .obtain⟨c',ec⟩:=hsome _ hn rfl;rw[ec];exact⟨hn,rfl⟩
  rcases hc with hc|hc
  .exact .inl (fromClos hc)
  .rcases e with e|e
   .exact .inl (fromClos e)
   .exact .inr ⟨hc.1,hc.2,e⟩
 have cell_lt:∀n c,X.env.cells.lookup n=some c->c < s.heap.objs.size:=λn c e=>by
  obtain⟨v,o,ho,_⟩:=I.cell n c e;exact Heap.lt_size ho
 have apart:∀n n' c,(n,c)∈(eK scope s3.heap.objs.size X.env).cells->(n',c)∈(eK scope s3.heap.objs.size X.env).cells->n=n':=λn n' c a b=>by
  refine mO (acc:=a_ X.env scope.names []) (m:=s3.heap.objs.size+1) (λp hp=>?_) (λn n' c a b=>?_) n n' c a b
  .obtain⟨n,c⟩:=p;rcases gm hp with h|⟨hn,e⟩
   .exact absurd h (by simp)
   .obtain⟨c',ec⟩:=hsome _ hn rfl;rw[ec] at e;cases e;exact Nat.lt_succ_of_lt (Nat.lt_of_lt_of_le (cell_lt n _ ec) hsz)
  .rcases gm a with h|⟨hn,e⟩
   .exact absurd h (by simp)
   .rcases gm b with h|⟨hn',e'⟩
    .exact absurd h (by simp)
    .obtain⟨c1,e1⟩:=hsome _ hn rfl;obtain⟨c2,e2⟩:=hsome _ hn' rfl;have e1':X.env.cells.lookup n=some c1:=e1;have e2':X.env.cells.lookup n'=some c2:=e2;rw[e1'] at e;rw[e2'] at e';exact I.ok.inj n n' c (by rw[e1',e];rfl) (by rw[e2',e'];rfl)
 have vis:∀x,((eK scope s3.heap.objs.size X.env).kindOf x=some .cell\/(eK scope s3.heap.objs.size X.env).kindOf x=some .free)->(x,NameKind.cell)∈scope.names\/(x,NameKind.free)∈scope.names:=λx h=>by
  rcases h with h|h
  .obtain⟨k',e,q⟩:=jG h;rcases q with q|q
   .exact .inl (by rw[<- q];exact PySem.mem_of_lookup e)
   .exact .inr (by rw[<- q.1];exact PySem.mem_of_lookup e)
  .obtain⟨k',e,q⟩:=jG h;rcases q with q|q
   .exact .inr (by rw[<- q];exact PySem.mem_of_lookup e)
   .exact .inr (by rw[<- q.1];exact PySem.mem_of_lookup e)
 have fsub:∀b∈frs X.stack,b=X.env.locals\/b∈X.fs:=λb hb=>by
  have:=I.stkSub b hb;simpa using this
 have fresh:∀b,s.heap.objs.size<=b->s.heap.get? b=none:=λb hb=>by
  cases e:s.heap.get? b with
  |none=>rfl
  |some o=>exact absurd (Heap.lt_size e) (Nat.not_lt.mpr hb)
 have exlt:∀b∈ex,b < s.heap.objs.size:=λb hb=>by obtain⟨o,e⟩:=hob b hb;exact Heap.lt_size e
 refine⟨⟨I.ok.mod,S.kind,I.ok.glob,I.ok.blt,hsz,λx y c a b=>apart x y c (PySem.mem_of_lookup a) (PySem.mem_of_lookup b),λx hx=>?_,λx c hx hc=>?_,I.ok.hd,I.ok.frames,.inl rfl,λb hb=>?_,I.bs,?_,λb o e hb=>?_,λb hb hf=>?_,I.stack,I.stkFree⟩,
  ho,?_,Un.kept hkeep,?_,λx c hc=>?_,I.hok.fresh hsz,λx c hc=>?_,λp hp=>absurd hp (by simp[zX]),I.hok.kept hkeep,?_⟩
 .rcases vis x hx with h|h
  .obtain⟨c,hc⟩:=rk (m:=s3.heap.objs.size+1) (acc:=a_ X.env scope.names []) h;obtain⟨c',e,_⟩:=io hc;exact⟨c',e⟩
  .obtain⟨c',e,_⟩:=io (im (names:=scope.names) (m:=s3.heap.objs.size+1) (mL (env:=X.env) (acc:=[]) h));exact⟨c',e⟩
 .have hx':scope.names.lookup x=some .cell:=by simpa [zX] using hx
  rcases cells x c (PySem.mem_of_lookup hc) with h|h
  .have:=jF S.nd h.1 (PySem.mem_of_lookup hx');cases this
  .show s.heap.objs.size<=c;omega
 .refine⟨Nat.ne_of_lt (Nat.lt_of_lt_of_le (exlt b hb) hsz),λx c hc=>?_⟩;rcases cells x c (PySem.mem_of_lookup hc) with h|h
  .exact(hex b hb).2.2.2.2.1 x c h.2
  .have:=exlt b hb;intro e;have e':Nat.lt c s.heap.objs.size:=by rw[e];exact this
   exact absurd (Nat.lt_of_lt_of_le e' hsz) (Nat.not_lt.mpr (Nat.le_of_succ_le h.2.1))
 .exact Nat.le_trans I.ok.bsz I.sz
 .have hb':b∈ex:=hb;rcases(hex b hb').2.2.2.1 with h|h
  .exact I.ok.noex b o e h
  .exact absurd (Heap.lt_size (I.ok.bs b o e).1) (Nat.not_lt.mpr h)
 .have hb':b∈ex:=hb;rcases fsub b hf with h|h
  .exact(hex b hb').2.1 h
  .exact(hex b hb').2.2.1 h
 .show AllBare s3.gens;rw[hg];exact I.bare
 .
  refine⟨_,(Heap.Ns.new s3.heap (.type "dict")).keeps (pushCells_keeps _ _),λi x v hi hv vx=>?_⟩;have hN:(own++free)[i]? = some x:=hi;have hio:own.length<=i:=by
   rcases Nat.lt_or_ge i own.length with h|h
   .rw[List.getElem?_append_left (by simpa using h),List.getElem?_map,List.getElem?_eq_getElem h] at hv;cases hv
   .exact h
  rw[List.getElem?_append_right hio] at hN;rw[List.getElem?_append_right (by simpa using hio)] at hv;simp only[List.length_map] at hv;unfold cY at hv;rw[List.getElem?_map] at hv;have hx2:=hff x (List.mem_of_getElem? hN);have hmem:(x,NameKind.free)∈scope.names:=PySem.mem_of_lookup hx2;cases ej:fr[i - own.length]? with
  |none=>rw[ej] at hv;cases hv
  |some j =>
   rw[ej] at hv;simp only[Option.map_some,Option.some.injEq] at hv;have hj:X.N[j]? = some x:=by
    have q:=congrArg (λl=>l[i - own.length]?) hfr;simp only[List.getElem?_map,ej,hN,Option.map_some,Option.some.injEq] at q;exact q
   have hσ:σ[j]? = some (some v):=by
    cases e:σ[j]? with
    |none=>rw[e] at hv;cases hv
    |some w=>rw[e] at hv;simp at hv;rw[hv]
   obtain⟨m,hm,hl⟩:=I.loc;have kx:=S.free _ hmem rfl;obtain⟨u,ru,lk⟩:=hl j x v hj hσ (by rcases kx with k|k;exact .inr (.inl k);exact .inr (.inr k));refine⟨u,ru,?_⟩;rcases lk with⟨k,_⟩|⟨_,c,hc,hcell⟩
   .rcases kx with q|q<;>(have q':X.env.kindOf x=_:=q;rw[k] at q';cases q')
   .obtain⟨c',e',m'⟩:=io (im (names:=scope.names) (m:=s3.heap.objs.size+1) (mL (env:=X.env) (acc:=[]) hmem));have hcc:c'=c:=by
     rcases cells x c' m' with h|h
     .rw[h.2] at hc;cases hc;rfl
     .have:=jF S.nd h.1 hmem;cases this
    subst hcc;refine .inr ⟨?_,c',e',hcell.keeps hkeep⟩;rcases vx with q|q|q
    .obtain⟨k',ek,qq⟩:=jG (env:=X.env) (names:=scope.names) q;rw[hx2] at ek;cases ek;rcases qq with qq|qq
     .cases qq
     .cases qq.2.1
    .exact .inl q
    .exact .inr q
 .rcases cells x c (PySem.mem_of_lookup hc) with h|h
  .obtain⟨v,hv⟩:=I.cell x c h.2;exact⟨v,hv.keeps hkeep⟩
  .exact⟨_,h.2.2⟩
 .rcases cells x c (PySem.mem_of_lookup hc) with h|h
  .exact I.freeC x c h.2
  .exact I.hok.fresh (by omega)
 .show _=(own++free).length;have q:=congrArg List.length hfr;simp only[List.length_map] at q;simp[cY,q]
def PTs(X:Cx)(ifs:List Expr)(t:TT):Prop :=
 ∀(pins:List (Addr×Obj)) (s:Shared) (σ:St) (H:Hp) (Q:Bool->Hp->Prop),Inv X pins σ H s->t σ H Q ->
  wpAny (model X.prog X.w) X.A (forIn ifs true λc r=>if r=true then do let ok<-isTrue c X.env (eval c X.env);pure (ForInStep.yield ok) else pure (ForInStep.yield r)) (TP X pins σ Q) X.xe s
def mQ:TT:=λ_ H Q=>Q true H
theorem CB:PTs X [] mQ:=λpins s σ H Q I h=>wpAny_tests_nil ⟨H,I,h⟩
theorem CC{c:Expr}{t:TT}(h:PT X c t):PTs X [c] t:=λpins s σ H Q I q=>wpAny_tests_one (h pins s σ H Q I q)
theorem CD{R:Result->Shared->Prop}{s:Shared}{target:Expr}{it acc:Value}(I:Nat->Shared->Prop)
  (turn:∀n s,I n s->wpAny (model prog w) A (pyNext it) (λr s₁=>match r with
   |none=>R (.ok .next) s₁
   |some v=>wpAny (model prog w) A (letOwnedTupleGo target it v) (λ_ s₁'=>wpAny (model prog w) A (assign target env v) (λ_ s₂ =>
     wpAny (model prog w) A (forIn ifs true λc r=>if r=true then do let ok<-isTrue c env (eval c env);pure (ForInStep.yield ok) else pure (ForInStep.yield r)) (λok s₃ =>
      if ok=true then wpAny (model prog w) A (eval elt env) (λx s₄ =>
       wpAny (model prog w) A (call (.builtin "list.append") [acc,x]) (λ_ s₅=>∃m,m < n/\I m s₅) (notedBy (model prog w) A env λe s'=>R (.error e) s') s₄) (notedBy (model prog w) A env λe s'=>R (.error e) s') s₃
      else ∃m,m < n/\I m s₃) (notedBy (model prog w) A env λe s'=>R (.error e) s') s₂) (notedBy (model prog w) A env λe s'=>R (.error e) s') s₁') (notedBy (model prog w) A env λe s'=>R (.error e) s') s₁) (notedBy (model prog w) A env λe s'=>R (.error e) s') s)
  (n:Nat) (h:I n s) :
  codeAny (model prog w) A (.compLoop (.ListComp elt [⟨target,iter,ifs,0⟩] scope pos) 0 it acc env) R s:=by
 refine codeAny_loop rfl I (λn s hI=>?_) n h;show wpAny _ A ((compTurn (.ListComp elt [⟨target,iter,ifs,0⟩] scope pos) 0 it acc env).onRaise (λx=>do noteFrame x env;theTreesLotGoes x)) _ _ s;refine wpAny_noted ?_;rw[compTurn_list];refine wpAny_bind (wpAny_standAt (wpAny_bind (wpAny_mono (turn n s hI) (λr s₁ h₁=>?_) λ_ _ h'=>h')));cases r with
 |none=>exact wpAny_pure h₁
 |some v =>
  refine wpAny_bind (wpAny_mono h₁ (λ_ s₁' h₁'=>?_) λ_ _ h'=>h');refine wpAny_bind (wpAny_mono h₁' (λ_ s₂ h₂=>wpAny_bind (wpAny_mono h₂ (λok s₃ h₃=>?_) λ_ _ h'=>h')) λ_ _ h'=>h');cases ok with
  |false=>exact wpAny_pure ⟨rfl,h₃⟩
  |true =>
   exact wpAny_bind (wpAny_bind (wpAny_mono h₃ (λx s₄ h₄=>wpAny_bind (wpAny_mono h₄ (λ_ s₅ h₅=>wpAny_pure (wpAny_pure ⟨rfl,h₅⟩)) λ_ _ h'=>h')) λ_ _ h'=>h'))
def Sub(σ σ2:St):Prop:=σ.length=σ2.length/\∀(i:Nat) v,σ[i]? = some (some v)->σ2[i]? = some (some v)
abbrev lobj(its:List Value)(n:Nat):Obj:={cls:= .type "list",data:= .seq its.toArray n}
section
variable{own free:List Str}{fr:List Nat}
def mR(J:It)(g:TG)(tc:TT)(te:TE)(σb:St)(Fin:List V->Hp->Prop)(W:Nat->Nat->List V->Hp->Prop):Prop :=
 ∀i m ys H,W i m ys H->(J.stop i H/\Fin ys H)\/(J.go i H/\ys.length < sizeLine/\∃N:List V->Hp->Prop,(∀ys' H',N ys' H'->∃m',m' < m/\W (i+1) m' ys' H')/\∀x H',J.yld i H x H'->g x σb H' λσ2 H3=>Sub σb σ2/\tc σ2 H3 λb H4 =>
  if b=true then te σ2 H4 λv H5=>N (ys++[v]) H5 else N ys H4)
theorem rn{H2:Hp}{s2:Shared}{J:It}{it:Addr}{tn:Nat->Heap->Prop}{Fin:List V->Hp->Prop}{W:Nat->Nat->List V->Hp->Prop}{m0:Nat}
  {RR:Value->Addr->Result->Shared->Prop}
  (S:eM X scope)(hc:X.calm=true)(hfr:fr.map (λj=>X.N[j]?)=free.map some)(hff:∀x∈free,scope.names.lookup x=some .free)
  (hg:∀C s H ex,PG (zX X (own++free) scope C s H ex) tg g)(ht:∀C s H ex,PTs (zX X (own++free) scope C s H ex) ifs tc)(he:∀C s H ex,PE (zX X (own++free) scope C s H ex) elt te)
  (I2:Inv X pins σ H2 s2)(T:Turn X.prog X.w X.K tg J fp it tn)(st2:tn 0 s2.heap)(f2:∀b∈fp,dm X pins H2 b)
  (w0:W 0 m0 [] H2)(turn:mR J g tc te (own.map (λ_=>none)++cY σ fr) Fin W)
  (hRR:∀D C its n ys H' s',Inv (zX X (own++free) scope C s2 H2 fp) [(D,lobj its n)] (own.map (λ_=>none)++cY σ fr) H' s'->Vals ys its->ys.length<=sizeLine->Fin ys H'->s2.heap.objs.size<=D->RR (.ref D) C (.ok .next) s') :
  wpAny (model X.prog X.w) X.A (newList []) (λacc s₃=>wpAny (model X.prog X.w) X.A (newFunctionEnv scope X.env.globals (a_ X.env scope.names []) [] X.env.qual none .none (some X.env)) (λcenv s₄ =>
   codeAny (model X.prog X.w) X.A (.compStart (.ListComp elt [⟨tg,iter,ifs,0⟩] scope pos) 0 (.ref it) acc {cenv with scope:=relabel scope X.env}) (RR acc cenv.locals) s₄) E s₃) E s2:=by
 refine wpAny_newObj_type (Cz ?_);have hob:∀b∈fp,∃o,s2.heap.get? b=some o:=λb hb=>by obtain⟨o,e,_⟩:=T.obj _ _ st2 b hb;exact⟨o,e⟩
 have fplt:∀b∈fp,b < s2.heap.objs.size:=λb hb=>by obtain⟨o,e⟩:=hob b hb;exact Heap.lt_size e
 generalize hs3:({s2 with heap:=s2.heap.push {cls:= .type "list",dict:=none,data:= .seq ([]:List Value).toArray}}:Shared)=s3
 have hh3:s3.heap=s2.heap.push (lobj [] 0):=by rw[<- hs3]
 have hC:s3.heap.objs.size=s2.heap.objs.size+1:=by rw[hh3,Heap.size_push]
 have keep3:∀b o,s2.heap.get? b=some o->s3.heap.get? b=some o:=λb o e=>by rw[hh3];exact Heap.get?_push_of_some _ e
 have I3:=CA (own:=own) (ex:=fp) (s3:=s3) S I2 f2 hob hfr hff keep3 (by rw[hC];exact Nat.le_succ _) (by rw[<- hs3]) (by rw[<- hs3]);generalize hs4:({s3 with heap:=pushCells (s3.heap.push {cls:= .type "dict",data:= .dict #[]}) scope.names}:Shared)=s4 at I3
 have keep4:∀b o,s3.heap.get? b=some o->s4.heap.get? b=some o:=λb o e=>by rw[<- hs4];exact pushCells_keeps _ _ b o (Heap.get?_push_of_some _ e)
 have hD4:s4.heap.get? s2.heap.objs.size=some (lobj [] 0):=keep4 _ _ (by rw[hh3];exact Heap.get?_push_size _ rfl);have nf:s2.heap.objs.size∉frs X.stack:=λhb=>by
  obtain⟨_,o,e,_⟩:=I2.stack.mem hb;exact absurd (Heap.lt_size e) (Nat.lt_irrefl _)
 have hDC:s2.heap.objs.size≠s3.heap.objs.size:=by rw[hC];exact Nat.ne_of_lt (Nat.lt_succ_self _)
 have cellD:∀{P:List (Addr×Obj)} {σ' H' s'} {its:List Value} {n:Nat},Inv (zX X (own++free) scope s3.heap.objs.size s2 H2 fp) P σ' H' s'->s'.heap.get? s2.heap.objs.size=some (lobj its n)->∀x c,(eK scope s3.heap.objs.size X.env).cells.lookup x=some c->c≠s2.heap.objs.size:=λI e x c hc z=>by
  obtain⟨v,o,eo,ed⟩:=I.cell x c hc;rw[z,e] at eo;cases eo;cases ed
 have pinD:∀{σ' H' s'} {its:List Value} {n:Nat},Inv (zX X (own++free) scope s3.heap.objs.size s2 H2 fp) [] σ' H' s'->s'.heap.get? s2.heap.objs.size=some (lobj its n)->H' s2.heap.objs.size=none ->
   Inv (zX X (own++free) scope s3.heap.objs.size s2 H2 fp) [(s2.heap.objs.size,lobj its n)] σ' H' s':=λ{σ' H' s' its n} I e hn=>I.pins_of λp hp=>by
  have hp':p=(s2.heap.objs.size,lobj its n):=List.mem_singleton.mp hp;subst hp';exact⟨e,hn,hDC,nf,λv=>by intro z;cases z⟩
 have I4:=pinD I3 hD4 (I2.hok.fresh (Nat.le_refl _));have fpOk:∀{σ' H' s'} {its:List Value} {n:Nat},Inv (zX X (own++free) scope s3.heap.objs.size s2 H2 fp) [(s2.heap.objs.size,lobj its n)] σ' H' s'->(∀b∈fp,H' b=none)->∀b∈fp,dm (zX X (own++free) scope s3.heap.objs.size s2 H2 fp) [(s2.heap.objs.size,lobj its n)] H' b:=λ{σ' H' s' its n} I hn b hb=>by
  refine⟨hn b hb,(I.ok.exf b hb).1,I.ok.exfs b hb,.inl hb,(I.ok.exf b hb).2,λp hp=>?_⟩;have hp':p=(s2.heap.objs.size,lobj its n):=List.mem_singleton.mp hp;subst hp';exact Ne.symm (Nat.ne_of_lt (fplt b hb))
 have stn4:tn 0 s4.heap:=T.keep _ _ _ st2 λb hb o e=>keep4 b o (keep3 b o e)
 have loop:∀s',s'=s4->codeAny (model X.prog X.w) X.A (.compLoop (.ListComp elt [⟨tg,iter,ifs,0⟩] scope pos) 0 (.ref it) (.ref s2.heap.objs.size) (eK scope s3.heap.objs.size X.env)) (RR (.ref s2.heap.objs.size) s3.heap.objs.size) s':=by
  rintro s' rfl;refine CD (λk s'=>∃i ys its n H',Inv (zX X (own++free) scope s3.heap.objs.size s2 H2 fp) [(s2.heap.objs.size,lobj its n)] (own.map (λ_=>none)++cY σ fr) H' s'/\tn i s'.heap/\(∀b∈fp,H' b=none)/\Vals ys its/\ys.length<=sizeLine/\W i k ys H') ?_ m0
   ⟨0,[],[],0,H2,I4,stn4,λb hb=>(f2 b hb).1,.nil,Nat.zero_le _,w0⟩
  rintro k s5 ⟨i,ys,its,n,H5,I5,st5,fr5,r5,len5,w5⟩;rcases turn i k ys H5 w5 with⟨stop,fin⟩|⟨go,hlt,N,hN,step⟩
  .refine wpAny_mono (T.done (zX X (own++free) scope s3.heap.objs.size s2 H2 fp) rfl rfl rfl hc i _ s5 _ H5 (λ_ _=>False) I5 (fpOk I5 fr5) st5 stop) (λr s6 ⟨hr,I6⟩=>?_) λ_ _ f=>f.elim
   subst hr;exact hRR _ _ its n ys H5 s6 I6 r5 len5 fin (Nat.le_refl _)
  .refine wpAny_mono (T.item (zX X (own++free) scope s3.heap.objs.size s2 H2 fp) rfl rfl rfl hc i _ s5 _ H5 (λ_ _=>False) I5 (fpOk I5 fr5) st5 go) (λr s6 ⟨u,hr,h6⟩=>?_) λ_ _ f=>f.elim
   subst hr;refine wpAny_mono h6 (λ_ s7 ⟨x,H7,I7,r7,y7,st7,fr7⟩=>?_) λ_ _ f=>f.elim
   have I7':=I7.pinned (fpOk I7 fr7) (T.obj _ _ st7);refine wpAny_mono (hg _ _ _ _ _ s7 _ H7 x u _ I7' r7 (step x H7 y7)) (λ_ s8 ⟨σ8,H8,I8,sub8,q8⟩=>?_) λ_ _ f=>f.elim
   refine wpAny_mono (ht _ _ _ _ _ s8 σ8 H8 _ I8 q8) (λb s9 ⟨H9,I9,q9⟩=>?_) λ_ _ f=>f.elim
   have back:∀{H' s'},Inv (zX X (own++free) scope s3.heap.objs.size s2 H2 fp) ([(s2.heap.objs.size,lobj its n)]++dY fp s7.heap) σ8 H' s'->tn (i+1) s'.heap/\(∀b∈fp,H' b=none):=λ{H' s'} I=>by
    refine⟨T.keep _ _ _ st7 λb hb o e=>(I.pin (b,o) (List.mem_append_right _ (List.mem_append_right _ (jv hb e)))).1,λb hb=>?_⟩;obtain⟨o,e,d⟩:=T.obj _ _ st7 b hb;exact(I.pin (b,o) (List.mem_append_right _ (List.mem_append_right _ (jv hb e)))).2.1
   cases b with
   |false =>
    obtain⟨m',hm,w9⟩:=hN _ _ q9;obtain⟨st9,fr9⟩:=back I9;exact⟨m',hm,i+1,ys,its,n,H9,I9.unpinned.weak sub8.1 sub8.2,st9,fr9,r5,len5,w9⟩
   |true =>
    refine wpAny_mono (he _ _ _ _ _ s9 σ8 H9 _ I9 q9) (λv s10 ⟨y,H10,I10,r10,q10⟩=>?_) λ_ _ f=>f.elim
    obtain⟨m',hm,w10⟩:=hN _ _ q10;obtain⟨st10,fr10⟩:=back I10;have pD:=I10.pin (s2.heap.objs.size,lobj its n) (List.mem_append_right _ (List.mem_append_left _ List.mem_cons_self));refine append_at (hsz:=by rw[List.size_toArray,<- r5.length];exact len5) pD.1 λh' hsb hnew=>?_
    have J0:Inv (zX X (own++free) scope s3.heap.objs.size s2 H2 fp) (dY fp s7.heap) σ8 H10 s10:=I10.pins_of λp hp=>I10.pin p (by
     have hp':p∈dY fp s7.heap:=by simpa [zX] using hp
     exact List.mem_append_right _ (List.mem_append_right _ hp'))
    have J1:Inv (zX X (own++free) scope s3.heap.objs.size s2 H2 fp) (dY fp s7.heap) σ8 H10 {s10 with heap:=h'}:=J0.turned (it:=s2.heap.objs.size) (t':=s10.toks) (λb o hb e=>hsb.extBut b o hb e) pD.2.1 hDC (.inr (Nat.le_refl _)) (cellD J0 pD.1) (λp hp=>by
     have hp':p∈dY fp s7.heap:=by simpa [zX] using hp
     exact Nat.ne_of_lt (fplt _ (qf hp').1))
    have J2:Inv (zX X (own++free) scope s3.heap.objs.size s2 H2 fp) [] σ8 H10 {s10 with heap:=h'}:=J1.pins_of λp hp=>absurd hp (by simp[zX])
    have st11:tn (i+1) h':=T.keep _ _ _ st10 λb hb o e=>hsb.extBut b o (Nat.ne_of_lt (fplt b hb)) e
    have e11:h'.get? s2.heap.objs.size=some (lobj (its++[v]) (n+1)):=by rw[hnew,List.push_toArray]
    refine⟨m',hm,i+1,ys++[y],its++[v],n+1,H10,(pinD J2 e11 pD.2.1).weak sub8.1 sub8.2,st11,fr10,r5.append (.cons r10 .nil),?_,w10⟩;rw[List.length_append,List.length_singleton];exact hlt
 refine codeAny_compStart_list (loop _ rfl) (T.self X.A 0 _ _ _ stn4 (loop _ rfl))
theorem rp{σ':St}{H2 H':Hp}{s2 s':Shared}{C D:Addr}{its:List Value}{n:Nat}{ys:List V}{h'':Heap}
  (I2:Inv X pins σ H2 s2)(f2:∀b∈fp,dm X pins H2 b)(I:Inv (zX X N scope C s2 H2 fp) [(D,lobj its n)] σ' H' s')(r:Vals ys its)(hz:ys.length<=sizeLine)(hD:s2.heap.objs.size<=D)(hs:Heap.SameBut C s'.heap h'') :
  Inv X pins σ (upd H' D (.lst ys)) {s' with heap:=h''}/\H' D=none:=by
 have pD:=I.pin (D,lobj its n) (List.mem_append_right _ List.mem_cons_self);have hCs:s2.heap.objs.size<=C:=I.ok.above;have hDC:D≠C:=pD.2.2.1;have u:Un (frs X.stack) fp H2 H' s2.heap s'.heap:=I.base;have lt2:∀b o,s2.heap.get? b=some o->b≠C/\b≠D:=λb o e=>by
  have:=Heap.lt_size e;exact⟨Nat.ne_of_lt (Nat.lt_of_lt_of_le this hCs),Nat.ne_of_lt (Nat.lt_of_lt_of_le this hD)⟩
 have tD:∀b o,H2 b=some o->b≠D:=λb o e z=>by
  have:=I2.hok.lt e;rw[z] at this;exact absurd this (Nat.not_lt.mpr hD)
 have hC':∀b o,H' b=some o->b≠C:=λb o e z=>by
  have:=I.free;rw[show(zX X N scope C s2 H2 fp).env.locals=C from rfl,<- z,e] at this;cases this
 have hok1:HOk X.prog X.w H' h'':=λa o e=>(I.hok a o e).stay (λb ob hb eb=>by
   rcases hb with hb|hb
   .rw[hb];rw[hb] at eb;exact hs.extBut _ _ (hC' a o e) eb
   .exact hs.extBut _ _ (hC' b _ hb) eb) (λ_ h=>h) (λ_ _ h=>h)
 have oD:h''.get? D=some (lobj its n):=hs.extBut _ _ hDC pD.1;have hok:HOk X.prog X.w (upd H' D (.lst ys)) h'':=λa o e=>by
  by_cases ha:a=D
  .subst ha;rw[zB] at e;cases e;exact⟨hz,its,n,r,oD⟩
  .rw[zy ha] at e;refine(hok1 a o e).stay (λb ob _ eb=>eb) (λb h=>?_) (λb xs h=>?_)
   .rw[zy (λz=>by rw[z,pD.2.1] at h;cases h)];exact h
   .rw[zy (λz=>by rw[z,pD.2.1] at h;cases h)];exact h
 have u2:Un (frs X.stack) fp H2 (upd H' D (.lst ys)) s2.heap h'' :=
  {keep:=λb o e hn hf hx=>hs.extBut b o (lt2 b o e).1 (u.keep b o e hn hf hx)
   slot:=λb o e hn hf hx=>by
    obtain⟨sl,q⟩:=u.slot b o e hn hf hx;exact⟨sl,hs.extBut b _ (lt2 b o e).1 q⟩
   free:=λb o e hn hx=>by rw[zy (lt2 b o e).2];exact u.free b o e hn hx
   there:=λb o e hx=>by
    obtain⟨o',q⟩:=u.there b o e hx;exact⟨o',hs.extBut b _ (lt2 b o e).1 q⟩
   tups:=λb xs e=>by rw[zy (tD b _ e)];exact u.tups b xs e
   frzs:=λb o v e=>by rw[zy (tD b _ e)];exact u.frzs b o v e
   tbls:=λb ps e=>by rw[zy (tD b _ e)];exact u.tbls b ps e}
 refine⟨I2.call' (s':={s' with heap:=h''}) (ch:=fp) I.os u2 hok I.bare λb hb=>?_,pD.2.1⟩;have q:=f2 b hb;exact⟨q.2.2.2.1,q.2.1,q.2.2.2.2.1,q.2.2.2.2.2⟩
def gn(own:List Str)(fr:List Nat)(wi:TI)(g:TG)(tc:TT)(te:TE):TE:=λσ H Q=>wi σ H λJ H1=>∃W:Nat->Nat->List V->Hp->Prop,(∃m,W 0 m [] H1) /\
 mR J g tc te (own.map (λ_=>none)++cY σ fr) (λys H'=>∀p,H' p=none->Q (.ref p) (upd H' p (.lst ys))) W
theorem CF(own free:List Str)(fr:List Nat)(S:eM X scope)(hc:X.calm=true)(hfr:fr.map (λj=>X.N[j]?)=free.map some)(hff:∀x∈free,scope.names.lookup x=some .free)
  (hi:PI X tg iter wi)
  (hg:∀C s H ex,PG (zX X (own++free) scope C s H ex) tg g)(ht:∀C s H ex,PTs (zX X (own++free) scope C s H ex) ifs tc)(he:∀C s H ex,PE (zX X (own++free) scope C s H ex) elt te)
  (hs:∀x,foldedSetIterable iter X.env x=pure x:=by intro _;rfl) :
  PE X (.ListComp elt [⟨tg,iter,ifs,0⟩] scope pos) (gn own fr wi g tc te):=by
 intro pins s σ H Q I h;have hcl:closureFor scope X.env=pure (a_ X.env scope.names []):=rj λx hx e=>by
  obtain⟨c,hc⟩:=I.ok.has x.1 (S.free x hx e);rw[hc];rfl
 rw[eval_ListComp];refine wpAny_comprehension_free (use:=none) rfl hs hcl S.kind (λx hx e=>by have:=rl S.nd (show(x.1,x.2)∈scope.names from hx);rw[this,e]) (thn (hi pins s σ H _ I h) λv s1 h1=>thn h1 λitv s2 h2=>?_);obtain⟨it,fp,tn,J,H2,e,I2,T,st2,f2,W,⟨m0,w0⟩,turn⟩:=h2;subst e;refine rn (RR:=λacc C=>compPost (model X.prog X.w) X.A X.xe none (EP X pins σ Q) acc C) S hc hfr hff hg ht he I2 T st2 f2 w0 turn ?_;intro D C its n ys H' s' I' r hz fin hD;obtain⟨m,hm,_⟩:=I'.loc;refine⟨m,hm,λh'' hsb=>?_⟩;obtain⟨J',hn⟩:=rp I2 f2 I' r hz hD hsb;exact⟨.ref D,_,J',rfl,fin D hn⟩
theorem CG{i:Nat}{spos:Pos}(own free:List Str)(fr:List Nat)(hN:X.N.Nodup)(hx:X.N[i]? = some x)(hl:X.env.scope.names.lookup x=some .local)
  (S:eM X scope)(hc:X.calm=true)(hfr:fr.map (λj=>X.N[j]?)=free.map some)(hff:∀x∈free,scope.names.lookup x=some .free)
  (hi:PI X tg iter wi)
  (hg:∀C s H ex,PG (zX X (own++free) scope C s H ex) tg g)(ht:∀C s H ex,PTs (zX X (own++free) scope C s H ex) ifs tc)(he:∀C s H ex,PE (zX X (own++free) scope C s H ex) elt te)
  (hsw:swapsWith (.ListComp elt [⟨tg,iter,ifs,0⟩] scope pos) (some (.Name x pos')) spos.line X.env=pure true:=by rfl)
  (hs:∀x,foldedSetIterable iter X.env x=pure x:=by intro _;rfl) :
  PS X (.Assign [.Name x pos'] (.ListComp elt [⟨tg,iter,ifs,0⟩] scope pos) spos) (bo (gn own fr wi g tc te) (cx i)):=by
 intro pins s σ H D0 I h;have hcl:closureFor scope X.env=pure (a_ X.env scope.names []):=rj λx hx e=>by
  obtain⟨c,hc⟩:=I.ok.has x.1 (S.free x hx e);rw[hc];rfl
 rw[exec_Assign_Name_used _ _ _ _ hsw];refine wpAny_bind (wpAny_standAt (wpAny_bind ?_));show wpAny _ X.A (do let _<-comprehension (.ListComp elt [⟨tg,iter,ifs,0⟩] scope pos) scope X.env _ (newList []) false (eval iter X.env) (some (assign (.Name x pos') X.env))) _ _ s;refine wpAny_bind (thn (wpAny_comprehension_free (use:=some (assign (.Name x pos') X.env)) (Q:=λ_ s'=>SP X pins D0 .next s') rfl hs hcl S.kind (λx hx e=>by have:=rl S.nd (show(x.1,x.2)∈scope.names from hx);rw[this,e])
  (thn (hi pins s σ H _ I h) λv s1 h1=>thn h1 λitv s2 h2=>?_)) (λ_ s' hq=>wpAny_pure (wpAny_pure hq)))
 obtain⟨it,fp,tn,J,H2,e,I2,T,st2,f2,W,⟨m0,w0⟩,turn⟩:=h2;subst e;refine rn (RR:=λacc C=>compPost (model X.prog X.w) X.A X.xe (some (assign (.Name x pos') X.env)) (λ_ s'=>SP X pins D0 .next s') acc C) S hc hfr hff hg ht he I2 T st2 f2 w0 turn ?_;intro D C its n ys H' s' I' r hz fin hD;obtain⟨m,hm,_⟩:=I'.loc;obtain⟨J',hn⟩:=rp I2 f2 I' r hz hD (Heap.SameBut.refl C s'.heap);show wpAny _ _ (assign (.Name x pos') X.env (.ref D)) _ _ _;have hCx:(zX X (own++free) scope C s2 H2 fp).env.locals=C:=rfl;have hCl:C≠X.env.locals:=by
  have:=I2.lt;have h2:s2.heap.objs.size<=C:=I'.ok.above;exact Ne.symm (Nat.ne_of_lt (Nat.lt_of_lt_of_le this h2))
 refine wpAny_assign_Name (qc (s:={s' with heap:=s'.heap}) J' hN hx (.inl hl) (show RelV (.ref D) (.ref D) from rfl) (λs3 I3 ⟨a,sb,ha⟩=>?_) (.inr hl));have haC:C≠a:=by
  rcases ha with rfl|ha
  .exact hCl
  .intro z;obtain⟨v,o,eo,_⟩:=I2.cell x a ha;have h2:s2.heap.objs.size<=C:=I'.ok.above;have:=Heap.lt_size eo;rw[<- z] at this;exact absurd this (Nat.not_lt.mpr h2)
 have nsC:s3.heap.Ns C m:=hm.sameBut sb haC;refine⟨m,nsC,λh'' hsb=>?_⟩;refine⟨_,_,?_,fin D hn⟩;have hC2:s2.heap.objs.size<=C:=I'.ok.above;have hCn:(upd H' D (.lst ys)) C=none:=by
  rw[zy (λz=>?_)]
  .exact I'.free
  .exact(I'.pin (D,lobj its n) (List.mem_append_right _ List.mem_cons_self)).2.2.1 z.symm
 have:=I3.turned (it:=C) (h':=h'') (t':=s3.toks) (λb o hb e=>hsb.extBut b o hb e) hCn hCl (.inr (Nat.le_trans I2.sz hC2)) (λy c hc z=>by
   obtain⟨v,o,eo,_⟩:=I2.cell y c hc;have:=Heap.lt_size eo;rw[z] at this;exact absurd this (Nat.not_lt.mpr hC2)) (λp hp z=>by
   have:=Heap.lt_size (I2.pin p hp).1;rw[z] at this;exact absurd this (Nat.not_lt.mpr hC2))
 exact this
end
def b8(lo:Int)(n:Nat):List Int:=(List.range n).map λ(i:Nat)=>lo+(i:Int)
theorem rq{n i:Nat}(h:i < n):(b8 lo n)[i]? = some (lo+i):=by
 unfold b8;rw[List.getElem?_map,List.getElem?_range h];rfl
theorem jH(lo:Int)(n:Nat):(b8 lo n).length=n:=by simp[b8]
section
def fz(i j:Int):Prop:=0 < j/\j < 2^250
theorem jI:OpR X (binaryOp .FloorDiv) (rI fz λi j=> .int (i / j)):=opI λi j t u s Q E h q=>by
 have e:i.fdiv j=i / j:=Int.fdiv_eq_ediv_of_nonneg i (Int.le_of_lt h.1);rw[<- e] at q;refine floordiv_int (by have:=h.1;omega) q (Or.inl (PyProof.noPylong_of_log2 ?_));have h2:=h.2;have hn:j.natAbs < 2^250:=by have:=h.1;omega
 exact Nat.lt_trans (Nat.log2_lt (by have:=h.1;omega) |>.mpr hn) (by decide)
theorem jJ:∀{ns:List Int} {us:List Value},Vals (ns.map V.int) us->IntsAre us ns
 | [],_,.nil=> .nil
 |_::_,_,.cons ⟨t,rfl⟩ r=> .cons _ _ (jJ r)
theorem CH(hc:X.calm=true):zW X (.builtin "max") (λxs H Q=>∃p ns,xs=[.ref p]/\SqL X.K H p (ns.map V.int)/\ns≠[]/\∀M∈ns,(∀a∈ns,a<=M)->Q (.int M) H):=by
 intro pins s σ H xs us Q I r h;obtain⟨p,ns,rfl,hl,hne,q⟩:=h;obtain⟨u,rfl,rx⟩:=vals1 r;cases rx;obtain⟨its,r',pl,hz⟩:=I.list hl;have hi:=jJ r';obtain⟨ys,e⟩:=hi.allInts.items;have hns:ns=ys.toList.map (·.1):=by rw[<- hi.numsOf,<- nums_intItems,<- e]
 have hsz:0 < ys.size:=by
  rcases Nat.eq_zero_or_pos ys.size with h0|h0
  .have:ys.toList=[]:=by simpa using h0
   rw[this] at hns;exact absurd hns hne
  .exact h0
 have hl':=pl.isList;rw[e] at hl';refine max_intList (I.ok.hd hc) hl' hsz λv h' tk hv hk=>?_
 obtain⟨t,rfl⟩:=intItems_at hv;obtain⟨h1,h2⟩:=argBest_gt (numAt ys) (ys.size - 1);refine⟨.int _,H,I.kept hk,⟨t,rfl⟩,q _ ?_ λa ha=>?_⟩
 .rw[hns,numAt_eq];exact getD_mem (by rw[List.length_map,Array.length_toList];omega)
 .rw[hns] at ha;obtain⟨j,hj,rfl⟩:=mem_getD ha;rw[List.length_map,Array.length_toList] at hj;rw[<- numAt_eq];exact h2 j (by omega)
theorem CI(hc:X.calm=true):zW X (.builtin "min") (λxs H Q=>∃p ns,xs=[.ref p]/\SqL X.K H p (ns.map V.int)/\ns≠[]/\∀M∈ns,(∀a∈ns,M<=a)->Q (.int M) H):=by
 intro pins s σ H xs us Q I r h;obtain⟨p,ns,rfl,hl,hne,q⟩:=h;obtain⟨u,rfl,rx⟩:=vals1 r;cases rx;obtain⟨its,r',pl,hz⟩:=I.list hl;have hi:=jJ r';obtain⟨ys,e⟩:=hi.allInts.items;have hns:ns=ys.toList.map (·.1):=by rw[<- hi.numsOf,<- nums_intItems,<- e]
 have hsz:0 < ys.size:=by
  rcases Nat.eq_zero_or_pos ys.size with h0|h0
  .have:ys.toList=[]:=by simpa using h0
   rw[this] at hns;exact absurd hns hne
  .exact h0
 have hl':=pl.isList;rw[e] at hl';refine min_intList (I.ok.hd hc) hl' hsz λv h' tk hv hk=>?_
 obtain⟨t,rfl⟩:=intItems_at hv;obtain⟨h1,h2⟩:=argBest_lt (numAt ys) (ys.size - 1);refine⟨.int _,H,I.kept hk,⟨t,rfl⟩,q _ ?_ λa ha=>?_⟩
 .rw[hns,numAt_eq];exact getD_mem (by rw[List.length_map,Array.length_toList];omega)
 .rw[hns] at ha;obtain⟨j,hj,rfl⟩:=mem_getD ha;rw[List.length_map,Array.length_toList] at hj;rw[<- numAt_eq];exact h2 j (by omega)
theorem CJ:zW X (.builtin "isinstance") (λxs H Q=>∃x c t b,xs=[x,c]/\bI X.K H x t/\(∀u,RelV c u->kitOne X.K t u=some b)/\Q (.bl b) H):=by
 intro pins s σ H xs us Q I r h;obtain⟨x,c,t,b,rfl,ty,e,q⟩:=h;obtain⟨u,v,rfl,ru,rv⟩:=vals2 r;exact Bv I ru ty (e v rv) λtk=>⟨.bl b,H,I.tok tk,rfl,q⟩
end
theorem rA{s:Shared}{l:Addr}{items:Array Value}{Q:Value->Shared->Prop}(hl:s.heap.IsList l items)
  (h:∀s₂:Shared,s₂={s with heap:=s.heap.push {cls:= .type "list_iterator",data:= .fields #[.ref l,.int 0 0]}}->(s₂.heap.IsListIter s.heap.objs.size l 0/\s₂.heap.IsList l items)->l≠s.heap.objs.size->Q (.ref s.heap.objs.size) s₂) :
  wpAny (model prog w) A (pyIter (.ref l)) Q E s:=by
 have hlt:l < s.heap.objs.size:=by obtain⟨_,e,_⟩:=hl;exact Heap.lt_size e
 exact wpAny_pyIter_list hl (h _ rfl ⟨⟨_,Heap.get?_push_size _ rfl,rfl,rfl⟩,hl.push _⟩ (Nat.ne_of_lt hlt))
structure Has(P:Program)(w:World)(K:Frag)(mg:Str->Option Value)(base:Heap)(CX:CXT)(x:Str)(k:Nat)(ps:List Str)(sp:Sp):Prop where
 ex:∃f fd,zU P w K mg base CX k f fd ps sp/\Binds K fd ps []/\keepIn K (.ref f)=true/\mg x=some (.ref f)
section
variable{CX:CXT}{k:Nat}{E:XK}{p:Pos}{e:Expr}{t:TA}
theorem CK(h:Has X.prog X.w X.K X.mg X.base CX x j ps sp)(hr:aS k X.A)(ha:PA X (e::es) t)(hj:j<=k:=by decide)(hg:Gl X x:=by rfl)(hx:cU CX X E:=by exact gl)(hdb:(x==("__debug__":Str))=false:=by decide)
  (he:starEach (e::es) X.env=(false,eval e X.env)::starEach es X.env:=by rfl)(hpl:(backTo pos (starEach es X.env)).any (·.1)=false:=by rfl):PE X (.Call (.Name x p) (e::es) [] pos) (ia sp [] E t):=by
 obtain⟨f,fd,F,b,kp,m⟩:=h.ex;exact BC (F.mono hj) hr hg m kp b .nil hx ha hdb he hpl
end
theorem aI:bootBuiltins "len"=some (.builtin "len"):=by decide+kernel
theorem CL:bootBuiltins "abs"=some (.builtin "abs"):=by decide+kernel
theorem CM:bootBuiltins "max"=some (.builtin "max"):=by decide+kernel
theorem rB:bootBuiltins "min"=some (.builtin "min"):=by decide+kernel
theorem rC:bootBuiltins "all"=some (.builtin "all"):=by decide+kernel
theorem ip:bootBuiltins "any"=some (.builtin "any"):=by decide+kernel
theorem jK:bootBuiltins "sorted"=some (.builtin "sorted"):=by decide+kernel
theorem rD:bootBuiltins "isinstance"=some (.builtin "isinstance"):=by decide+kernel
theorem rE:bootBuiltins "list"=some (.type "list"):=by decide+kernel
theorem gp:bootBuiltins "tuple"=some (.type "tuple"):=by decide+kernel
theorem CN:bootBuiltins "int"=some (.type "int"):=by decide+kernel
theorem CO:bootBuiltins "bool"=some (.type "bool"):=by decide+kernel
theorem rF:bootBuiltins "set"=some (.type "set"):=by decide+kernel
structure Blt(mg:Str->Option Value):Prop where
 len:mg "len"=none
 abs:mg "abs"=none
 max:mg "max"=none
 min:mg "min"=none
 all:mg "all"=none
 any:mg "any"=none
 sum:mg "sum"=none
 sorted:mg "sorted"=none
 isinstance:mg "isinstance"=none
 list:mg "list"=none
 tuple:mg "tuple"=none
 int:mg "int"=none
 bool:mg "bool"=none
 str:mg "str"=none
 set:mg "set"=none
 dict:mg "dict"=none
 zip:mg "zip"=none
 range:mg "range"=none
 enumerate:mg "enumerate"=none
 reversed:mg "reversed"=none
 repr:mg "repr"=none
theorem rG{vs:List V}:start N vs=vs.map some++List.replicate (N.length - vs.length) none:=rfl
def jL(a:Addr)(H H':Hp):Prop:=∀b,b≠a->H' b=H b
def intOf:Expr->Option Int
 | .Constant (.int i) _ _=>some i
 |_=>none
theorem CP{e:Expr}{i:Int}(h:intOf e=some i):∃k pos,e= .Constant (.int i) k pos:=by
 unfold intOf at h;split at h
 .cases h;exact⟨_,_,rfl⟩
 .cases h
def mS(ks:List Int):TA:=λ_ H Q=>Q (ks.map V.int) H
theorem rH{X:Cx}:∀(ks:List Int) {es:List Expr},es.map intOf=ks.map some->PA X es (mS ks)
 | [],[],_=>mv
 |k::ks,e::es,h=>by
  simp only[List.map_cons,List.cons.injEq] at h;obtain⟨n,p,rfl⟩:=CP h.1;have ih:=rH (X:=X) ks h.2;intro pos pins s σ H Q I q;exact mw (X:=X) qd ih rfl pos pins s σ H Q I q
 | [],_::_,h=>by simp at h
 |_::_,[],h=>by simp at h
mutual
def Dat(K:Frag)(H:Hp):PyData->V->Prop
 | .none,v=>v= .non
 | .bool b,v=>v= .bl b
 | .int i,v=>v= .int i
 | .str x,v=>v= .str x
 | .list ds,v=>∃a xs,v= .ref a/\SqL K H a xs/\bc K H ds xs
 | .tuple ds,v=>∃a xs,v= .ref a/\SqT K H a xs/\bc K H ds xs
 | .dict _,_=>False
def bc(K:Frag)(H:Hp):List PyData->List V->Prop
 | [],xs=>xs=[]
 |d::ds,xs=>∃x r,xs=x::r/\Dat K H d x/\bc K H ds r
end
theorem bc.nil:bc K H [] []:=by unfold bc;rfl
theorem bc.cons{d:PyData}{x:V}(a:Dat K H d x)(b:bc K H ds xs):bc K H (d::ds) (x::xs):=by unfold bc;exact⟨x,xs,rfl,a,b⟩
theorem Dat.i{K:Frag}{H:Hp}{i:Int}:Dat K H (.int i) (.int i):=by unfold Dat;rfl
theorem Dat.s:Dat K H (.str x) (.str x):=by unfold Dat;rfl
theorem Dat.b{x:Bool}:Dat K H (.bool x) (.bl x):=by unfold Dat;rfl
theorem Dat.n:Dat K H .none .non:=by unfold Dat;rfl
theorem Dat.tup(h:SqT K H a xs)(b:bc K H ds xs):Dat K H (.tuple ds) (.ref a):=by unfold Dat;exact⟨a,xs,rfl,h,b⟩
theorem Dat.lst(h:SqL K H a xs)(b:bc K H ds xs):Dat K H (.list ds) (.ref a):=by unfold Dat;exact⟨a,xs,rfl,h,b⟩
section
variable{s:Shared}
mutual
theorem Dat.reads(I:Inv X pins σ H s):∀{d:PyData} {v:V} {u:Value},Dat X.K H d v->RelV v u->∃as,Reads s.heap u d as
 | .none,v,u,h,r=>by unfold Dat at h;subst h;cases r;exact⟨_,.none⟩
 | .bool b,v,u,h,r=>by unfold Dat at h;subst h;cases r;exact⟨_,.bool b⟩
 | .int i,v,u,h,r=>by unfold Dat at h;subst h;obtain⟨t,rfl⟩:=r;exact⟨_,.int i t⟩
 | .str x,v,u,h,r=>by unfold Dat at h;subst h;obtain⟨t,rfl⟩:=r;exact⟨_,.str x t⟩
 | .list ds,v,u,h,r=>by
  unfold Dat at h;obtain⟨a,xs,rfl,hl,hd⟩:=h;cases r;obtain⟨its,r',pl,hz⟩:=I.list hl;obtain⟨as,q⟩:=bc.reads I hd r';obtain⟨o,ho,hc,n,hdt⟩:=pl.isList;exact⟨_,.list ho hc hdt (by simpa using q)⟩
 | .tuple ds,v,u,h,r=>by
  unfold Dat at h;obtain⟨a,xs,rfl,hl,hd⟩:=h;cases r;obtain⟨its,r',pl,hz⟩:=I.tuple hl;obtain⟨as,q⟩:=bc.reads I hd r';obtain⟨o,ho,hc,n,hdt⟩:=pl;exact⟨_,.tuple ho hc hdt (by simpa using q)⟩
 | .dict _,v,u,h,r=>by unfold Dat at h;exact h.elim
theorem bc.reads(I:Inv X pins σ H s):∀{ds:List PyData} {xs:List V} {us:List Value},bc X.K H ds xs->Vals xs us->∃as,ReadsAll s.heap us ds as
 | [],xs,us,h,r=>by unfold bc at h;subst h;cases r;exact⟨_,.nil⟩
 |d::ds,xs,us,h,r=>by
  unfold bc at h;obtain⟨x,rs,rfl,h1,h2⟩:=h;cases r with
  |cons ru rr =>
   obtain⟨as,q⟩:=Dat.reads I h1 ru;obtain⟨bs,q2⟩:=bc.reads I h2 rr;exact⟨_,.cons q q2⟩
end
end
structure cE(d:PyData):Prop where
 lay:d.canLay0=true
 deep:d.depth<=60
section
variable{k:Nat}
theorem CQ(hr:aO cm k X.A):OpR X (compareOp .Eq) (λx y H Q=>∃d d',Dat X.K H d x/\Dat X.K H d' y/\cE d/\cE d'/\Q (.bl (PyData.eqv d d')) H):=by
 intro pins s σ H x y v u Q I rx ry h;obtain⟨d,d',h1,h2,o1,o2,q⟩:=h;obtain⟨as,r1⟩:=h1.reads I rx;obtain⟨bs,r2⟩:=h2.reads I ry;refine SeqAt.compareEq_reads r1 r2 o1.lay o2.lay ?_ ⟨.bl _,H,I,rfl,q⟩;have:=hr.units;have:=o1.deep;omega
theorem CS(hr:aO cm k X.A):OpR X (compareOp .NotEq) (λx y H Q=>∃d d',Dat X.K H d x/\Dat X.K H d' y/\cE d/\cE d'/\Q (.bl (!PyData.eqv d d')) H):=by
 intro pins s σ H x y v u Q I rx ry h;obtain⟨d,d',h1,h2,o1,o2,q⟩:=h;obtain⟨as,r1⟩:=h1.reads I rx;obtain⟨bs,r2⟩:=h2.reads I ry;refine SeqAt.compareNe_reads r1 r2 o1.lay o2.lay ?_ ⟨.bl _,H,I,rfl,q⟩;have:=hr.units;have:=o1.deep;omega
end
theorem CT(i j:List PyData):PyData.eqv (.list i) (.list j)=PyData.eqvAll i j:=by unfold PyData.eqv;rfl
theorem all_range(bs:List Bool):(List.range bs.length).all (λi=>bs.getD i true)=bs.all id:=by
 rw[Bool.eq_iff_iff,List.all_eq_true,List.all_eq_true];constructor
 .intro h x hx;obtain⟨i,hi,e⟩:=List.mem_iff_getElem.mp hx;have:=h i (List.mem_range.mpr hi);rw[List.getD_eq_getElem?_getD,List.getElem?_eq_getElem hi] at this;rw[<- e];exact this
 .intro h i hi;have hi':=List.mem_range.mp hi;rw[List.getD_eq_getElem?_getD,List.getElem?_eq_getElem hi'];exact h _ (List.getElem_mem hi')
theorem any_range(bs:List Bool):(List.range bs.length).any (λi=>bs.getD i true)=bs.any id:=by
 rw[Bool.eq_iff_iff,List.any_eq_true,List.any_eq_true];constructor
 .rintro⟨i,hi,h⟩;have hi':=List.mem_range.mp hi;rw[List.getD_eq_getElem?_getD,List.getElem?_eq_getElem hi'] at h;exact⟨_,List.getElem_mem hi',h⟩
 .rintro⟨x,hx,h⟩;obtain⟨i,hi,e⟩:=List.mem_iff_getElem.mp hx;refine⟨i,List.mem_range.mpr hi,?_⟩;rw[List.getD_eq_getElem?_getD,List.getElem?_eq_getElem hi,e];exact h
theorem mT:∀{bs:List Bool} {us:List Value},Vals (bs.map V.bl) us->us=bs.map Value.bool
 | [],_,.nil=>rfl
 |_::_,_,.cons r t=>by cases r;rw[mT t];rfl
section
theorem CU(hc:X.calm=true):zW X (.builtin "all") (λxs H Q=>∃(p:Addr) (bs:List Bool),xs=[.ref p]/\SqL X.K H p (bs.map V.bl)/\Q (.bl (bs.all id)) H):=by
 intro pins s σ H xs us Q I r h;obtain⟨p,bs,rfl,hl,q⟩:=h;obtain⟨u,rfl,rx⟩:=vals1 r;cases rx;obtain⟨its,r',pl,hz⟩:=I.list hl;have e:=mT r';subst e;refine call_all_walk (rA pl.isList λs₂ e2 st hne=>?_);subst e2;refine⟨_,_,_,_,_,_,λi=>bs.getD i true,rfl,Walks.list (A:=X.A.in1) (I.ok.hd hc) s.heap.objs.size p hne _,st,λi v s3 Q3 E3 hP hQ=>?_,λh' tk hk=>?_⟩
 .have hP':(bs.map Value.bool)[i]? = some v:=by simpa using hP
  rw[List.getElem?_map] at hP';cases eb:bs[i]? with
  |none=>rw[eb] at hP';cases hP'
  |some b =>
   rw[eb] at hP';cases hP';refine wpAny_truthy_bool ?_;dsimp only at hQ;rw[List.getD_eq_getElem?_getD,eb] at hQ;exact hQ
 .rw[List.size_toArray,List.length_map,all_range];refine⟨.bl _,H,I.kept (λb o e=>hk b o (λz=>?_) (Heap.get?_push_of_some _ e)),rfl,q⟩;rw[List.mem_singleton] at z;exact absurd (z▸Heap.lt_size e) (Nat.lt_irrefl _)
theorem CV(hc:X.calm=true):zW X (.builtin "any") (λxs H Q=>∃(p:Addr) (bs:List Bool),xs=[.ref p]/\SqL X.K H p (bs.map V.bl)/\Q (.bl (bs.any id)) H):=by
 intro pins s σ H xs us Q I r h;obtain⟨p,bs,rfl,hl,q⟩:=h;obtain⟨u,rfl,rx⟩:=vals1 r;cases rx;obtain⟨its,r',pl,hz⟩:=I.list hl;have e:=mT r';subst e;refine call_any_walk (rA pl.isList λs₂ e2 st hne=>?_);subst e2;refine⟨_,_,_,_,_,_,λi=>bs.getD i true,rfl,Walks.list (A:=X.A.in1) (I.ok.hd hc) s.heap.objs.size p hne _,st,λi v s3 Q3 E3 hP hQ=>?_,λh' tk hk=>?_⟩
 .have hP':(bs.map Value.bool)[i]? = some v:=by simpa using hP
  rw[List.getElem?_map] at hP';cases eb:bs[i]? with
  |none=>rw[eb] at hP';cases hP'
  |some b =>
   rw[eb] at hP';cases hP';refine wpAny_truthy_bool ?_;dsimp only at hQ;rw[List.getD_eq_getElem?_getD,eb] at hQ;exact hQ
 .rw[List.size_toArray,List.length_map,any_range];refine⟨.bl _,H,I.kept (λb o e=>hk b o (λz=>?_) (Heap.get?_push_of_some _ e)),rfl,q⟩;rw[List.mem_singleton] at z;exact absurd (z▸Heap.lt_size e) (Nat.lt_irrefl _)
end
structure WE(X:Cx)(e:Expr)(t:TE):Prop where out:PE X e t
structure WT(X:Cx)(e:Expr)(t:TT):Prop where out:PT X e t
structure WW(X:Cx)(e:Expr)(t:TT):Prop where out:PW X e t
structure WA(X:Cx)(es:List Expr)(t:TA):Prop where out:PA X es t
structure WS(X:Cx)(s:Stmt)(t:TS):Prop where out:PS X s t
structure WSs(X:Cx)(s:List Stmt)(t:TS):Prop where out:PSs X s t
structure WG(X:Cx)(e:Expr)(t:TG):Prop where out:PG X e t
structure WGs(X:Cx)(e:List Expr)(t:TGs):Prop where out:PGs X e t
structure WI(X:Cx)(tg e:Expr)(t:TI):Prop where out:PI X tg e t
structure WTs(X:Cx)(e:List Expr)(t:TT):Prop where out:PTs X e t
structure WK(X:Cx)(e:List Keyword)(t:TA):Prop where out:PK X e t
structure WO(X:Cx)(e:Option Expr)(t:TO):Prop where out:PO X e t
section
variable{a b c e o:Expr}{rest:List Expr}{ta tb tc to:TE}{t u:TT}{p apos cpos p2:Pos}{tA:TA}
theorem qv(i:Nat)(hN:X.N[i]? = some x:=by rfl)(hv:Vis X.env.scope x:=by first|exact Or.inl rfl|exact Or.inr (Or.inl rfl)|exact Or.inr (Or.inr rfl))(hd:(x==("__debug__":Str))=false:=by decide)
  (hcd:(x==("__classdict__":Str))=false:=by decide):WE X (.Name x pos) (aB i):=⟨AA hN hv hd hcd⟩
theorem zg{i j pos}:WE X (.Constant (.int i) j pos) (tC (.int i)):=⟨qd⟩
theorem mU{b j pos}:WE X (.Constant (.bool b) j pos) (tC (.bl b)):=⟨AB⟩
theorem cF{x j pos}:WE X (.Constant (.str x) j pos) (tC (.str x)):=⟨AC⟩
theorem du{v:V}{u:Value}(hg:Gl X x)(hm:X.mg x=some u)(r:RelV v u)(hd:(x==("__debug__":Str))=false:=by decide):WE X (.Name x pos) (tC v):=⟨AD hg hm r hd⟩
theorem rJ{v:V}{u:Value}(hg:Gl X x)(hm:X.mg x=none)(hv:bootBuiltins x=some u)(r:RelV v u)(hn:x≠"__name__":=by decide)(hd:(x==("__debug__":Str))=false:=by decide):WE X (.Name x pos) (tC v):=⟨AE hg hm hv r hn hd⟩
theorem al{op:Operator}(ho:OpR X (binaryOp op) r)(ha:WE X a ta)(hb:WE X b tb):WE X (.BinOp a op b pos) (tOp r ta tb):=⟨Bd ho ha.out hb.out⟩
theorem cZ{op:UnaryOp}{r:V->Hp->VK->Prop}(ho:UnR X (unaryOp op) r)(ha:WE X a ta):WE X (.UnaryOp op a pos) (tUn r ta):=⟨Be ho ha.out⟩
theorem ef(ho:OpR X (compareOp op) r)(ha:WE X a ta)(hb:WE X b tb)(hm:behindInMarks op b=false):WE X (.Compare a [op] [b] pos) (tOp r ta tb):=⟨Bh ho ha.out hb.out hm⟩
theorem zE(ho:OpR X (compareOp op) r)(ha:WE X a ta)(hb:WE X b tb)(hm:behindInMarks op b=false):WT X (.Compare a [op] [b] pos) (ft (tOp r ta tb)):=⟨Bi ho ha.out hb.out hm⟩
theorem CW{op':CmpOp}{r':R2}(ho:OpR X (compareOp op) r)(ho':OpR X (compareOp op') r')(ha:WE X a ta)(hb:WE X b tb)(hc:WE X c tc)(hm:lastMarks [op,op'] [b,c]=false:=by with_unfolding_all rfl):WE X (.Compare a [op,op'] [b,c] pos) (hW r r' ta tb tc):=⟨Bj ho ho' ha.out hb.out hc.out hm⟩
theorem rK{op':CmpOp}{r':R2}(ho:OpR X (compareOp op) r)(ho':OpR X (compareOp op') r')(ha:WE X a ta)(hb:WE X b tb)(hc:WE X c tc)(hm:lastMarks [op,op'] [b,c]=false:=by with_unfolding_all rfl):WT X (.Compare a [op,op'] [b,c] pos) (ft (hW r r' ta tb tc)):=⟨Bk ho ho' ha.out hb.out hc.out hm⟩
theorem eN{t:TE}(h:WE X e t)(he:∀whole,isTrue e X.env whole=(do let v<-whole;standAt e.pos;holding [v] (truthy v)):=by intro _;rfl):WT X e (tB t):=⟨AF h.out he⟩
theorem rL(ha:WT X a t):WW X (.BoolOp .And [a] pos) t:=⟨AG ha.out⟩
theorem gq(ha:WT X a t):WW X (.BoolOp .Or [a] pos) t:=⟨AH ha.out⟩
theorem rM(ha:WT X a t)(hb:WW X (.BoolOp .And (b::rest) pos) u):WW X (.BoolOp .And (a::b::rest) pos) (lZ t u):=⟨AI ha.out hb.out⟩
theorem gr(ha:WT X a t)(hb:WW X (.BoolOp .Or (b::rest) pos) u):WW X (.BoolOp .Or (a::b::rest) pos) (tOr t u):=⟨AJ ha.out hb.out⟩
theorem WW.qt(h:WW X e t):WT X e t:=⟨h.out.pt⟩
theorem gu(ha:WT X a t):WT X (.UnaryOp .Not a pos) (l5 t):=⟨AK ha.out⟩
theorem rN{op}{t:TE}(h:WE X a t):WE X (.BoolOp op [a] pos) t:=⟨AL h.out⟩
theorem rP(ha:WE X a ta)(hb:WE X (.BoolOp .And (b::rest) pos) tb):WE X (.BoolOp .And (a::b::rest) pos) (l6 ta tb):=⟨AM ha.out hb.out⟩
theorem rQ(ha:WE X a ta):WE X (.UnaryOp .Not a pos) (l9 ta):=⟨AN ha.out⟩
theorem rR(hc:WT X c t)(ha:WE X a ta)(hb:WE X b tb):WE X (.IfExp c a b pos) (tIf t ta tb):=⟨AO hc.out ha.out hb.out⟩
theorem dv:WA X [] bJ:=⟨mv⟩
theorem zx(ha:WE X e te)(hr:WA X es tA)(hs:starEach (e::es) X.env=(false,eval e X.env)::starEach es X.env:=by rfl):WA X (e::es) (cy te tA):=⟨mw ha.out hr.out hs⟩
theorem rS(ks:List Int)(h:es.map intOf=ks.map some):WA X es (mS ks):=⟨rH ks h⟩
theorem iq{x1}(h:WA X es tA):WE X (.Tuple es x1 pos) (mx tA):=⟨Bz h.out⟩
theorem bK(h:WA X es tA):WE X (.List es pos) (jB tA):=⟨BA h.out⟩
theorem cG(hr:IxR X r)(ha:WE X a ta)(hb:WE X b tb)(hs:mD b):WE X (.Subscript a b pos) (tOp r ta tb):=⟨BV hr ha.out hb.out hs⟩
theorem eO:WO X none mz:=⟨BP⟩
theorem bF(h:WE X e te):WO X (some e) (mB te):=⟨BQ h.out⟩
theorem ir{lo hi:Option Expr}{tl th:TO}{r:V->Option Int->Option Int->Hp->VK->Prop}(hr:SlR X r)(he:WE X e te)(hl:WO X lo tl)(hu:WO X hi th):WE X (.Subscript e (.Slice lo hi none p2) pos) (tSl r te tl th):=⟨BR hr he.out hl.out hu.out⟩
theorem zH{id:String}{r:List V->Hp->VK->Prop}(hc:zW X (.builtin id) r)(hg:Gl X x)(hm:X.mg x=none)(hv:bootBuiltins x=some (.builtin id))(ha:WA X (e::es) tA)(hn:x≠"__name__":=by decide)(hdb:(x==("__debug__":Str))=false:=by decide)
  (he:starEach (e::es) X.env=(false,eval e X.env)::starEach es X.env:=by rfl)(hpl:(backTo pos (starEach es X.env)).any (·.1)=false:=by rfl):WE X (.Call (.Name x p) (e::es) [] pos) (tCB r tA):=⟨BG hc hg hm hv ha.out hn hdb he hpl⟩
theorem dy{r:List V->Hp->VK->Prop}(hc:zW X (.type T) r)(hg:Gl X x)(hm:X.mg x=none)(hv:bootBuiltins x=some (.type T))(ha:WA X (e::es) tA)(hn:x≠"__name__":=by decide)(hdb:(x==("__debug__":Str))=false:=by decide)
  (he:starEach (e::es) X.env=(false,eval e X.env)::starEach es X.env:=by rfl)(hpl:(backTo pos (starEach es X.env)).any (·.1)=false:=by rfl):WE X (.Call (.Name x p) (e::es) [] pos) (tCB r tA):=⟨BH hc hg hm hv ha.out hn hdb he hpl⟩
theorem zp{CX:CXT}{k:Nat}{E:XK}(h:Has X.prog X.w X.K X.mg X.base CX x j ps sp)(hr:aS k X.A)(ha:WA X (e::es) tA)(hj:j<=k:=by decide)(hg:Gl X x:=by rfl)(hx:cU CX X E:=by exact gl)(hdb:(x==("__debug__":Str))=false:=by decide)
  (he:starEach (e::es) X.env=(false,eval e X.env)::starEach es X.env:=by rfl)(hpl:(backTo pos (starEach es X.env)).any (·.1)=false:=by rfl):WE X (.Call (.Name x p) (e::es) [] pos) (ia sp [] E tA):=⟨CK h hr ha.out hj hg hx hdb he hpl⟩
theorem aT:WK X [] bJ:=⟨BD⟩
theorem iu{nm:Option Str}{kpos:Pos}{kws:List Keyword}{tk:TA}(ha:WE X e te)(hr:WK X kws tk):WK X (⟨nm,e,kpos⟩::kws) (cy te tk):=⟨BE ha.out hr.out⟩
structure fA(P:Program)(w:World)(K:Frag)(mg:Str->Option Value)(base:Heap)(CX:CXT)(x:Str)(k:Nat)(ps:List Str)(sp:Sp)(ks:List Str)(gV:List V->List V->List V):Prop where
 ex:∃f fd g,zU P w K mg base CX k f fd ps sp/\cV K fd ps ks g gV/\keepIn K (.ref f)=true/\mg x=some (.ref f)
theorem CY{f:Str}(he:WE X e ta)(hb:attributeBase e f X.env (eval e X.env)=eval e X.env):WE X (.Attribute e f pos) (jz X.K ta f):=⟨Bt he.out hb⟩
theorem CZ{name:Str}{id:String}{r:V->List V->Hp->VK->Prop}(pa:PlainAttrs T)(slot:Slot T name id)(hty:typeOf (.builtin id)=pure (.type "method_descriptor"))(hm:MtR X id r)(ho:WE X o to)(ha:WA X (e::es) tA)
  (hbase:attributeBase o name X.env (eval o X.env)=eval o X.env:=by rfl)
  (hfew:((backTo cpos (starEach (e::es) X.env)).all (λx=> !x.1)&&(backToKw cpos (keywordEach [] X.env)).all (λx=>x.1.isSome)&&decide ((e::es).length+([]:List Keyword).length+(if ([]:List Keyword).isEmpty then 0 else 1) < 30))=true:=by rfl)
  (hline:(apos.endLine==cpos.line)=true:=by rfl)(hs:starEach (e::es) X.env=(false,eval e X.env)::starEach es X.env:=by rfl)(hplain:(backTo cpos (starEach es X.env)).any (·.1)=false:=by rfl) :
  WE X (.Call (.Attribute o name apos) (e::es) [] cpos) (tBM X.K T r to tA):=⟨B9 pa slot hty hm ho.out ha.out hbase hfew hline hs hplain⟩
variable{sts:List Stmt}{ts us:TS}
theorem zK:WSs X [] l_:=⟨qe⟩
theorem zf(h1:WS X st ts)(h2:WSs X sts us):WSs X (st::sts) (dk ts us):=⟨AR h1.out h2.out⟩
theorem zj(h1:WS X st ts):WSs X [st] ts:=⟨AS h1.out⟩
theorem bq:WS X st md:=⟨AW⟩
theorem zM(he:WE X e te)(hs:swapsWith e none pos.line X.env=pure false:=by rfl):WS X (.Expr e pos) (ma te):=⟨AT he.out hs⟩
theorem zN(he:WE X e te):WS X (.Return (some e) pos) (fo te):=⟨AU he.out⟩
theorem ae{ba bb:List Stmt}(hc:WT X c t)(ha:WSs X ba ts)(hb:WSs X bb us):WS X (.If c ba bb pos) (js t ts us):=⟨AV hc.out ha.out hb.out⟩
theorem cH{body:List Stmt}(hp:PassesOwn (model X.prog X.w) X.A X.env X.xe)(hc:X.calm=true)(hi:WI X tg iter wi)(hg:WG X tg g)(hb:WSs X body ts)
  (hs:∀x,foldedSetIterable iter X.env x=pure x:=by intro _;rfl):WS X (.For tg iter body [] pos) (mj wi g ts):=⟨Bc hp hc hi.out hg.out hb.out hs⟩
theorem aG{i:Nat}(hN:X.N.Nodup)(hi:X.N[i]? = some x)(hx:Loc X.env.scope x)(hf:X.fn x=true\/X.env.scope.names.lookup x=some .local:=by first|exact .inl rfl|exact .inr rfl|assumption):WG X (.Name x pos) (cx i):=⟨AX hN hi hx hf⟩
theorem C1:WGs X [] mf:=⟨AY⟩
theorem jM{gs:TGs}(h1:WG X e g)(h2:WGs X es gs)(hs:(assignEach (e::es) X.env).map (·.2)=assign e X.env::(assignEach es X.env).map (·.2):=by rfl):WGs X (e::es) (mh g gs):=⟨AZ h1.out h2.out hs⟩
theorem jN{i:Expr}{ti:TE}{tS:jt}(ho:WE X o to)(hi:WE X i ti)(hs:me X tS)
  (ha:∀v,assign (.Subscript o i pos) X.env v=(do
    let ov<-holding [v] (eval o X.env)
    let iv<-holding [v,ov] (eval i X.env)
    standAt pos
    holding [v,ov,iv] (setItem ov iv v)
    release [v,ov,iv] []):=by intro _;rfl):WG X (.Subscript o i pos) (eJ to ti tS):=⟨A5 ho.out hi.out hs ha⟩
theorem jO(he:WE X e te)(hg:WG X tg g)(hs:swapsWithSole [tg] e pos.line X.env=pure false:=by rfl)(hw:swappedStores [tg] e X.env=pure none:=by rfl)(h1:(assignEach [tg] X.env).map (·.2)=[assign tg X.env]:=by rfl):WS X (.Assign [tg] e pos) (bo te g):=⟨A6 he.out hg.out hs hw h1⟩
theorem jP{i:Nat}(hN:X.N.Nodup)(hi:X.N[i]? = some x)(hx:Loc X.env.scope x)(he:WE X e te)(hs:swapsWith e (some (.Name x pos')) pos.line X.env=pure false:=by rfl)
  (hf:X.fn x=true\/X.env.scope.names.lookup x=some .local:=by first|exact .inl rfl|exact .inr rfl|assumption):WS X (.Assign [.Name x pos'] e pos) (bo te (cx i)):=⟨A7 hN hi hx he.out hs hf⟩
theorem C2{value:Expr}{tv:TE}{f:Str}(ha:WE X o ta)(hv:WE X value tv)(hs:swapsWith value (some (.Attribute o f pos')) pos.line X.env=pure false):WS X (.Assign [.Attribute o f pos'] value pos) (jA X.K ta tv f):=⟨Bu ha.out hv.out hs⟩
theorem fB(hg:Gl X "range")(hm:X.mg "range"=none)(ha:WA X [a] tA)(hs:starEach [a] X.env=[(false,eval a X.env)]:=by rfl):WI X tg (.Call (.Name "range" p) [a] [] pos) (mi tA):=⟨Bb hg hm ha.out hs⟩
theorem cu:WTs X [] mQ:=⟨CB⟩
theorem b9(h:WT X c t):WTs X [c] t:=⟨CC h.out⟩
theorem br{tc:TT}(own free:List Str)(fr:List Nat)(S:eM X scope)(hc:X.calm=true)(hfr:fr.map (λj=>X.N[j]?)=free.map some)(hff:∀x∈free,scope.names.lookup x=some .free)
  (hi:WI X tg iter wi)(hg:∀C s H ex,WG (zX X (own++free) scope C s H ex) tg g)(ht:∀C s H ex,WTs (zX X (own++free) scope C s H ex) ifs tc)(he:∀C s H ex,WE (zX X (own++free) scope C s H ex) elt te)
  (hs:∀x,foldedSetIterable iter X.env x=pure x:=by intro _;rfl):WE X (.ListComp elt [⟨tg,iter,ifs,0⟩] scope pos) (gn own fr wi g tc te) :=
 ⟨CF own free fr S hc hfr hff hi.out (λC s H ex=>(hg C s H ex).out) (λC s H ex=>(ht C s H ex).out) (λC s H ex=>(he C s H ex).out) hs⟩
theorem eP{tc:TT}{i:Nat}{spos:Pos}(own free:List Str)(fr:List Nat)(hN:X.N.Nodup)(hx:X.N[i]? = some x)(hl:X.env.scope.names.lookup x=some .local)
  (S:eM X scope)(hc:X.calm=true)(hfr:fr.map (λj=>X.N[j]?)=free.map some)(hff:∀x∈free,scope.names.lookup x=some .free)
  (hi:WI X tg iter wi)(hg:∀C s H ex,WG (zX X (own++free) scope C s H ex) tg g)(ht:∀C s H ex,WTs (zX X (own++free) scope C s H ex) ifs tc)(he:∀C s H ex,WE (zX X (own++free) scope C s H ex) elt te)
  (hsw:swapsWith (.ListComp elt [⟨tg,iter,ifs,0⟩] scope pos) (some (.Name x pos')) spos.line X.env=pure true:=by rfl)
  (hs:∀x,foldedSetIterable iter X.env x=pure x:=by intro _;rfl):WS X (.Assign [.Name x pos'] (.ListComp elt [⟨tg,iter,ifs,0⟩] scope pos) spos) (bo (gn own fr wi g tc te) (cx i)) :=
 ⟨CG own free fr hN hx hl S hc hfr hff hi.out (λC s H ex=>(hg C s H ex).out) (λC s H ex=>(ht C s H ex).out) (λC s H ex=>(he C s H ex).out) hsw hs⟩
end
section
variable(K:Frag)
theorem c5(h:X.K=K:=by rfl):IxR X (cW K):=h▸qU
theorem C3(h:X.K=K:=by rfl):SlR X (mE K):=h▸qV
theorem C4(h:X.K=K:=by rfl):OpR X (compareOp .In) (rIn K false):=h▸B3
theorem C5(h:X.K=K:=by rfl):OpR X (compareOp .NotIn) (rIn K true):=h▸B4
theorem C6(h:X.K=K:=by rfl):zW X (.builtin "len") (λxs H Q=>∃p ys,xs=[.ref p]/\(SqL K H p ys\/SqT K H p ys)/\Q (.int ys.length) H):=h▸qX
theorem rT(h:X.K=K:=by rfl):zW X (.type "list") (λxs H Q=>∃p ys,xs=[.ref p]/\(SqL K H p ys\/SqT K H p ys)/\∀l,H l=none->Q (.ref l) (upd H l (.lst ys))):=h▸B6
theorem C7(h:X.K=K:=by rfl):zW X (.type "tuple") (λxs H Q=>∃p ys,xs=[.ref p]/\((SqL K H p ys/\∀l,H l=none->Q (.ref l) (upd H l (.tup ys)))\/(SqT K H p ys/\Q (.ref p) H))):=h▸B7
theorem C8(hc:X.calm=true)(h:X.K=K:=by rfl):zW X (.builtin "max") (λxs H Q=>∃p ns,xs=[.ref p]/\SqL K H p (ns.map V.int)/\ns≠[]/\∀M∈ns,(∀a∈ns,a<=M)->Q (.int M) H):=h▸CH hc
theorem C9(hc:X.calm=true)(h:X.K=K:=by rfl):zW X (.builtin "min") (λxs H Q=>∃p ns,xs=[.ref p]/\SqL K H p (ns.map V.int)/\ns≠[]/\∀M∈ns,(∀a∈ns,M<=a)->Q (.int M) H):=h▸CI hc
theorem C_(hc:X.calm=true)(h:X.K=K:=by rfl):zW X (.builtin "all") (λxs H Q=>∃(p:Addr) (bs:List Bool),xs=[.ref p]/\SqL K H p (bs.map V.bl)/\Q (.bl (bs.all id)) H):=h▸CU hc
theorem Da(hc:X.calm=true)(h:X.K=K:=by rfl):zW X (.builtin "any") (λxs H Q=>∃(p:Addr) (bs:List Bool),xs=[.ref p]/\SqL K H p (bs.map V.bl)/\Q (.bl (bs.any id)) H):=h▸CV hc
theorem Db(h:X.K=K:=by rfl):zW X (.builtin "isinstance") (λxs H Q=>∃x c t b,xs=[x,c]/\bI K H x t/\(∀u,RelV c u->kitOne K t u=some b)/\Q (.bl b) H):=h▸CJ
theorem Dc{k:Nat}(hr:aO cm k X.A)(h:X.K=K:=by rfl):OpR X (compareOp .Eq) (λx y H Q=>∃d d',Dat K H d x/\Dat K H d' y/\cE d/\cE d'/\Q (.bl (PyData.eqv d d')) H):=h▸CQ hr
theorem Dd{k:Nat}(hr:aO cm k X.A)(h:X.K=K:=by rfl):OpR X (compareOp .NotEq) (λx y H Q=>∃d d',Dat K H d x/\Dat K H d' y/\cE d/\cE d'/\Q (.bl (!PyData.eqv d d')) H):=h▸CS hr
variable{a e o:Expr}{ta to:TE}{tA:TA}{apos cpos:Pos}
theorem aU{f:Str}(he:WE X e ta)(h:X.K=K:=by rfl)(hb:attributeBase e f X.env (eval e X.env)=eval e X.env:=by rfl):WE X (.Attribute e f pos) (jz K ta f):=h▸CY he hb
theorem eQ{value:Expr}{tv:TE}{f:Str}(ha:WE X o ta)(hv:WE X value tv)(h:X.K=K:=by rfl)(hs:swapsWith value (some (.Attribute o f pos')) pos.line X.env=pure false:=by rfl):WS X (.Assign [.Attribute o f pos'] value pos) (jA K ta tv f):=h▸C2 ha hv hs
theorem cv{name:Str}{id:String}{r:V->List V->Hp->VK->Prop}(pa:PlainAttrs T)(slot:Slot T name id)(hty:typeOf (.builtin id)=pure (.type "method_descriptor"))(hm:MtR X id r)(ho:WE X o to)(ha:WA X (e::es) tA)(h:X.K=K:=by rfl)
  (hbase:attributeBase o name X.env (eval o X.env)=eval o X.env:=by rfl)
  (hfew:((backTo cpos (starEach (e::es) X.env)).all (λx=> !x.1)&&(backToKw cpos (keywordEach [] X.env)).all (λx=>x.1.isSome)&&decide ((e::es).length+([]:List Keyword).length+(if ([]:List Keyword).isEmpty then 0 else 1) < 30))=true:=by rfl)
  (hline:(apos.endLine==cpos.line)=true:=by rfl)(hs:starEach (e::es) X.env=(false,eval e X.env)::starEach es X.env:=by rfl)(hplain:(backTo cpos (starEach es X.env)).any (·.1)=false:=by rfl) :
  WE X (.Call (.Attribute o name apos) (e::es) [] cpos) (tBM K T r to tA):=h▸CZ pa slot hty hm ho ha hbase hfew hline hs hplain
end
def c6:Value->Option Int
 | .int i _=>some i
 |_=>none
theorem eR{u:Value}{i:Int}(h:c6 u=some i):RelV (.int i) u:=by
 cases u<;>simp[c6] at h
 subst h;exact⟨_,rfl⟩
def iw:List Value->Option (List Int)
 | []=>some []
 |v::r=>match c6 v,iw r with
  |some i,some l=>some (i::l)
  |_,_=>none
theorem rV:∀{us:List Value} {ns:List Int},iw us=some ns->Vals (ns.map V.int) us
 | [],ns,h=>by cases h;exact .nil
 |u::us,ns,h=>by
  unfold iw at h;cases e1:c6 u with
  |none=>rw[e1] at h;cases h
  |some i =>
   cases e2:iw us with
   |none=>rw[e1,e2] at h;cases h
   |some l =>
    rw[e1,e2] at h;cases h;exact .cons (eR e1) (rV e2)
def jQ(o:Obj):Option (List Int):=match o.cls,o.data with
 | .type "tuple",.seq its _=>if its.size<=1000 then iw its.toList else none
 |_,_=>none
theorem rW{o:Obj}{ns:List Int}(l:K.lookup a=some o)(h:jQ o=some ns)(H:Hp):SqT K H a (ns.map V.int):=by
 unfold jQ at h;split at h
 .rename_i its n hc hd;split at h
  .rename_i hz;exact .inr ⟨o,its,n,l,hc,hd,Nat.le_trans hz (by decide),rV h⟩
  .cases h
 .cases h
section
variable{P:Program}{mg:Str->Option Value}{base:Heap}
theorem Fun.okq{k:Nat}(F:Fun K x qual st f fd)(S:zG N ps (zr st))(len:∀vs H Q E,sp vs H Q E->vs.length=ps.length)
  (hbody:∀(cdv:Value) (A:Around) (outer:List Env) (s:Shared) (H:Hp) (vs:List V) (Q:VK) (E:XK),aS k (A.deeper (envOfC qual (zr st) s.heap.objs.size f cdv))->sp vs H Q E ->
   ∃t,WSs (cz CX0 P w K mg base N qual (zr st) f cdv A outer s H E).nox (cD st) t/\t {nx:=λ_ H'=>Q .non H',rt:=Q} (start N vs) H):zU P w K mg base CX0 (k+1) f fd ps sp :=
 F.ok S len λcdv A outer s H vs Q E hr h=>by
  obtain⟨t,ht,q⟩:=hbody cdv A outer s H vs Q E hr h;exact⟨t,ht.out,q⟩
end
section
end
theorem De(h:x.cps.toList=y.cps.toList):x=y:=by
 cases x;cases y;simp only[Str.mk.injEq];exact Array.toList_inj.mp h
theorem jR:∀{ys:List Str} {us:List Value},Vals (ys.map V.str) us->StrsAre us ys
 | [],_,.nil=> .nil
 |_::_,_,.cons ⟨t,rfl⟩ r=> .cons _ _ (jR r)
theorem rX(sep:Str):∀(rest:List Str) (x:Str),(⟨rest.foldl (λacc p=>acc++sep.cps++p.cps) x.cps⟩:Str)=Str.join sep (x::rest)
 | [],x=>rfl
 |y::r,x=>by
  have ih:=rX sep r ⟨x.cps++sep.cps++y.cps⟩;show(⟨r.foldl (λacc p=>acc++sep.cps++p.cps) (x.cps++sep.cps++y.cps)⟩:Str)=x++sep++Str.join sep (y::r);rw[ih];cases r with
  |nil=>rfl
  |cons z r' =>
   show(⟨x.cps++sep.cps++y.cps⟩:Str)++sep++Str.join sep (z::r')=x++sep++(y++sep++Str.join sep (z::r'));apply De;have e:∀a b:Str,(a++b).cps.toList=a.cps.toList++b.cps.toList:=λa b=>by
    show(a.cps++b.cps).toList=_;simp
   simp only[e,Array.toList_append,List.append_assoc]
theorem rY(sep:Str):∀parts,PySem.Builtin.Str.glued sep parts=Str.join sep parts
 | []=>rfl
 |x::r=>rX sep r x
def iy(ys:List Str):Nat:=(ys.map (·.length)).sum+ys.length
section
variable(K:Frag)
theorem Df(h:X.K=K:=by rfl):MtR X "str.join" (λx xs H Q=>∃sep p ys,x= .str sep/\xs=[.ref p]/\(SqL K H p (ys.map V.str)\/SqT K H p (ys.map V.str))/\sep.length<=16/\iy ys<=1048576/\Q (.str (Str.join sep ys)) H):=by
 subst h;intro pins s σ H x xs v us Q I rx r h;obtain⟨sep,p,ys,rfl,rfl,hl,h1,h2,q⟩:=h;obtain⟨t,rfl⟩:=rx;obtain⟨u,rfl,ru⟩:=vals1 r;cases ru;rcases hl with hl|hl
 .obtain⟨its,r',pl,hz⟩:=I.list hl;refine join_listW pl.isList (by simpa using jR r') h1 h2 λt' k=>⟨.str _,H,I.tok k,⟨t',?_⟩,q⟩
  show Value.str (PySem.Builtin.Str.glued sep ys) t'=_;rw[rY]
 .obtain⟨its,r',pl,hz⟩:=I.tuple hl;refine join_tupleW pl (by simpa using jR r') h1 h2 λt' k=>⟨.str _,H,I.tok k,⟨t',?_⟩,q⟩
  show Value.str (PySem.Builtin.Str.glued sep ys) t'=_;rw[rY]
end
section
theorem Dg:OpR X (binaryOp .Mult) (λx y H Q=>∃c n,x= .str ⟨#[c]⟩/\y= .int n/\0<=n/\n<=1000/\∀z:Str,z.cps.toList=List.replicate n.toNat c->Q (.str z) H):=by
 intro pins s σ H x y v u Q I rx ry h;obtain⟨c,n,rfl,rfl,h0,h1,q⟩:=h;obtain⟨t,rfl⟩:=rx;obtain⟨t',rfl⟩:=ry;refine SB.mul ⟨?_,?_,?_⟩ λt' k=>⟨.str _,H,I.tok k,⟨t',rfl⟩,q _ (mul_one_list c n)⟩
 .rw[decide_eq_false (by omega),decide_eq_false (by omega)];rfl
 .intro a _;have e:(⟨#[c]⟩:Str).length=1:=rfl;rw[e];have:1<=(2^63 - 1) / n:=Int.le_ediv_of_mul_le (by omega) (by omega);omega
 .intro a _;have e:(⟨#[c]⟩:Str).length=1:=rfl;rw[e];unfold PySem.Builtin.Str.tooLong;simp only[Nat.one_mul,decide_eq_false_iff_not];have:n.toNat<=1000:=by omega
  first
   |omega
   | (intro z;have:=Nat.lt_of_lt_of_le z this;revert this;decide)
end
theorem rZ:∀ys:List Str,(Str.join Str.empty ys).cps.toList=(ys.map λy=>y.cps.toList).flatten
 | []=>rfl
 | [y]=>by simp[Str.join]
 |y::z::r=>by
  have ih:=rZ (z::r);show((y++Str.empty++Str.join Str.empty (z::r):Str)).cps.toList=_;have e:∀a b:Str,(a++b).cps.toList=a.cps.toList++b.cps.toList:=λa b=>by
   show(a.cps++b.cps).toList=_;simp
  rw[e,e,ih];simp[Str.empty]
theorem Dh(h:x.cps.toList=y.cps.toList):x=y:=by
 cases x;cases y;simp only[Str.mk.injEq];exact Array.toList_inj.mp h
def iz(H:Hp)(a l:Addr):Prop:=∃(ns:List Int) (i b c:Int),H a=some (.lst [.ref l,.int i,.int b,.int c])/\H l=some (.lst (ns.map V.int))/\0<=i/\0<=b/\a≠l
def mV:Sp:=λvs H Q _=>∃(a l:Addr) (many:Int),vs=[.ref a,.int many]/\iz H a l/\0 < many/\many < 2^250/\∀v H',0<=v->v < many->iz H' a l->jL a H H'->Q (.int v) H'
def mW(K:Frag):Sp:=λvs H Q _=>∃(a:Addr) (ns:List Int),vs=[.ref a]/\SqL K H a (ns.map V.int)/\∀(r l:Addr) (H':Hp),H r=none->H l=none->iz H' r l->cX H H'->Q (.ref r) H'
theorem r8(x:Str):∀xs:List Str,inV (.str x) (xs.map V.str)=decide (x∈xs)
 | []=>by simp[inV]
 |y::r=>by
  have ih:=r8 x r;unfold inV at ih ⊢;rw[List.map_cons,List.any_cons,ih];show((y==x)||decide (x∈r))=decide (x∈y::r);by_cases h:y=x
  .subst h;simp
  .have h':¬ x=y:=λe=>h e.symm
   simp[h,h']
structure Nm(x:Str):Prop where
 l1:1<=x.cps.toList.length
 l8:x.cps.toList.length<=8
 az:∀c∈x.cps.toList,97<=c/\c<=122
structure LR where
 a:Addr
 sa:Addr
 ea:Addr
 nm:Str
 S:List Str
 E:List Str
 w:Int
section
variable{κ:Addr->Nat}{H':Hp}{s l na la:Addr}{ls:List LR}
end
variable{ls ls':List LR}
def cI(one:Str)(bd:List Str)(r:LR):Bool:= !decide (r.nm∈bd)&&(decide (one∈r.S)||decide (r.S.length < 6))
def dz(two:Str)(r:LR):Bool:=decide (two∈r.E)||decide (r.E.length < 6)
def aJ(x:Str)(S:List Str):List Str:=if x∈S then S else S++[x]
inductive iA(one two:Str)(bd:List Str)(ns:List Str)(ls:List LR)(x:Str):List Str->List LR->Prop
 |new (pa ps pe:Addr) (w:Int):x∉ns->Nm x->ls.length < 14->0<=w->w < 4->iA one two bd ns ls x (ns++[x]) (ls++[⟨pa,ps,pe,x,[one],[two],w⟩])
 |old (i:Nat) (r:LR):ls[i]? = some r->r.nm=x->cI one bd r=true->dz two r=true->iA one two bd ns ls x ns (ls.set i {r with S:=aJ one r.S,E:=aJ two r.E})
theorem eS:y∈aJ x S↔y∈S\/y=x:=by
 unfold aJ;split
 .exact⟨.inl,λh=>h.elim id (λe=>by rw[e];assumption)⟩
 .rw[List.mem_append,List.mem_singleton]
theorem r9(h:S.Nodup):(aJ x S).Nodup:=by
 unfold aJ;split
 .exact h
 .rename_i c;exact List.nodup_append.mpr ⟨h,by simp,λa ha b hb e=>by rw[List.mem_singleton.mp hb] at e;exact c (e▸ha)⟩
theorem r_:(aJ x S).length<=S.length+1:=by
 unfold aJ;split
 .omega
 .rw[List.length_append];exact Nat.le_refl _
theorem sd(h:x∈S\/S.length < 6)(h6:S.length<=6):(aJ x S).length<=6:=by
 unfold aJ;split
 .omega
 .rw[List.length_append];rcases h with h|h
  .contradiction
  .show S.length+1<=6;omega
def wide(r:LR):Nat:=max r.S.length r.E.length
def dA(ls:List LR):Nat:=(ls.map wide).sum
structure Di(ho ga:List Str)(r:LR):Prop where
 sn:r.S.Nodup
 en:r.E.Nodup
 s0:r.S≠[]
 e0:r.E≠[]
 s6:r.S.length<=6
 e6:r.E.length<=6
 ss:∀x∈r.S,x∈ho++ga
 es:∀x∈r.E,x∈ho++ga
 w0:0<=r.w
 w3:r.w<=3
structure aK(ho ga ns:List Str)(ls:List LR)(h c:Nat):Prop where
 nd:(ho++ga++ls.map LR.nm).Nodup
 sub:∀x∈ho++ga++ls.map LR.nm,x∈ns
 nms:∀x∈ns,Nm x
 nsd:ns.Nodup
 ends:∀r∈ls,Di ho ga r
 len:ls.length<=14
 hops:dA ls<=h
 cnt:ns.length<=c+ls.length
def sig(ls:List LR):List (Str×Int):=ls.map λr=>(r.nm,r.w)
def a8(ns:List Str)(ls ls':List LR):Prop:=(∀r∈ls,∃r'∈ls',r'.nm=r.nm/\r'.w=r.w/\(∀x∈r.S,x∈r'.S)/\(∀x∈r.E,x∈r'.E))/\∃ext,sig ls'=sig ls++ext/\∀p∈ext,p.1∉ns
theorem a8.refl(ns:List Str)(ls:List LR):a8 ns ls ls:=⟨λr h=>⟨r,h,rfl,rfl,λ_ h=>h,λ_ h=>h⟩,[],by rw[List.append_nil],λp hp=>by cases hp⟩
theorem a8.trans{a b c:List LR}(x:a8 ns a b)(n:∀y∈ns,y∈ns')(y:a8 ns' b c):a8 ns a c:=⟨λr h=>by
 obtain⟨r1,h1,e1,e2,e3,e4⟩:=x.1 r h;obtain⟨r2,h2,f1,f2,f3,f4⟩:=y.1 r1 h1;exact⟨r2,h2,f1.trans e1,f2.trans e2,λz hz=>f3 z (e3 z hz),λz hz=>f4 z (e4 z hz)⟩,by
 obtain⟨u,hu,hu'⟩:=x.2;obtain⟨v,hv,hv'⟩:=y.2;exact⟨u++v,by rw[hv,hu,List.append_assoc],λp hp=>(List.mem_append.mp hp).elim (hu' p) λz q=>hv' p z (n _ q)⟩⟩
def Joins(ls:List LR)(one x two:Str):Prop:=∃r∈ls,r.nm=x/\one∈r.S/\two∈r.E
theorem Joins.grow{one two:Str}(h:Joins ls one x two){ns0:List Str}(g:a8 ns0 ls ls'):Joins ls' one x two:=by
 obtain⟨r,hr,e,h1,h2⟩:=h;obtain⟨r',hr',f1,f2,f3,f4⟩:=g.1 r hr;exact⟨r',hr',f1.trans e,f3 _ h1,f4 _ h2⟩
theorem sum_set:∀{ls:List LR} {i:Nat} {r r':LR},ls[i]? = some r->wide r'<=wide r+1->dA (ls.set i r')<=dA ls+1
 | [],_,_,_,h,_=>by simp at h
 |a::t,0,r,r',h,hw=>by
  cases h;unfold dA;rw[List.set_cons_zero,List.map_cons,List.map_cons,List.sum_cons,List.sum_cons];omega
 |a::t,i+1,r,r',h,hw=>by
  have ih:=sum_set (ls:=t) (i:=i) (by simpa using h) hw;unfold dA at ih ⊢;rw[List.set_cons_succ,List.map_cons,List.map_cons,List.sum_cons,List.sum_cons];omega
theorem se{i:Nat}{q r':LR}(h:q∈ls.set i r'):q∈ls\/q=r':=List.mem_or_eq_of_mem_set h
theorem Dj{c:Nat}{one two:Str}{bd:List Str}(N:aK ho ga ns ls h c)(h1:one∈ho++ga)(h2:two∈ho++ga)(hb:∀y∈bd,y∈ns)(R:iA one two bd ns ls x ns' ls') :
  aK ho ga ns' ls' (h+1) c/\a8 ns ls ls'/\Joins ls' one x two/\x∉bd/\(∀y∈ns,y∈ns')/\x∉ho++ga/\x∈ns':=by
 cases R with
 |new pa ps pe w hx nm hl w0 w4 =>
  refine⟨⟨?_,?_,?_,?_,?_,?_,?_,?_⟩,?_,?_,λz=>hx (hb x z),λy hy=>List.mem_append_left _ hy,λz=>hx (N.sub x (List.mem_append_left _ z)),by simp⟩
  .rw[List.map_append,<- List.append_assoc];refine List.nodup_append.mpr ⟨N.nd,by simp,λa ha b hb e=>?_⟩;rw[show b=x by simpa using hb] at e;exact hx (e▸N.sub a ha)
  .intro y hy;rw[List.map_append,<- List.append_assoc] at hy;rcases List.mem_append.mp hy with hy|hy
   .exact List.mem_append_left _ (N.sub y hy)
   .exact List.mem_append_right _ (by simpa using hy)
  .intro y hy;rcases List.mem_append.mp hy with hy|hy
   .exact N.nms y hy
   .rw[List.mem_singleton.mp hy];exact nm
  .exact List.nodup_append.mpr ⟨N.nsd,by simp,λa ha b hb e=>by rw[List.mem_singleton.mp hb] at e;exact hx (e▸ha)⟩
  .intro r hr;rcases List.mem_append.mp hr with hr|hr
   .exact N.ends r hr
   .rw[List.mem_singleton.mp hr];exact⟨by simp,by simp,by simp,by simp,by simp,by simp,λy hy=>by rw[List.mem_singleton.mp hy];exact h1,λy hy=>by rw[List.mem_singleton.mp hy];exact h2,w0,by show w<=3;omega⟩
  .rw[List.length_append];exact hl
  .unfold dA;rw[List.map_append,List.sum_append];have:=N.hops;unfold dA at this;show _+(1+0)<=h+1;omega
  .rw[List.length_append,List.length_append];have:=N.cnt;show ns.length+1<=c+(ls.length+1);omega
  .exact⟨λr hr=>⟨r,List.mem_append_left _ hr,rfl,rfl,λ_ h=>h,λ_ h=>h⟩,[(x,w)],by unfold sig;rw[List.map_append];rfl,λp hp=>by rw[List.mem_singleton.mp hp];exact hx⟩
  .exact⟨_,List.mem_append_right _ (List.mem_singleton.mpr rfl),rfl,by simp,by simp⟩
 |old i r hi hn f1 f2 =>
  have hm:r∈ls:=List.mem_of_getElem? hi;have hlt:i < ls.length:=by
   by_cases h:i < ls.length
   .exact h
   .rw[List.getElem?_eq_none (by omega)] at hi;cases hi
  have em:(ls.set i {r with S:=aJ one r.S,E:=aJ two r.E}).map LR.nm=ls.map LR.nm:=by
   rw[List.map_set];apply List.ext_getElem?;intro j;rw[List.getElem?_set];split
   .rename_i e;subst e;rw[List.length_map,if_pos hlt,List.getElem?_map,hi];rfl
   .rfl
  have E:=N.ends r hm;unfold cI at f1;unfold dz at f2;simp only[Bool.and_eq_true,Bool.or_eq_true,decide_eq_true_eq,Bool.not_eq_true',decide_eq_false_iff_not] at f1 f2;have hnew:{r with S:=aJ one r.S,E:=aJ two r.E}∈ls.set i {r with S:=aJ one r.S,E:=aJ two r.E}:=List.mem_of_getElem? (i:=i) (by rw[List.getElem?_set,if_pos rfl,if_pos hlt]);have hx:x∈ls.map LR.nm:=by rw[<- hn];exact List.mem_map.mpr ⟨r,hm,rfl⟩
  refine⟨⟨by rw[em];exact N.nd,by rw[em];exact N.sub,N.nms,N.nsd,λq hq=>?_,by rw[List.length_set];exact N.len,?_,by rw[List.length_set];exact N.cnt⟩,?_,?_,by rw[<- hn];exact f1.1,λy hy=>hy,λz=>?_,N.sub x (List.mem_append_right _ hx)⟩
  .rcases se hq with hq|rfl
   .exact N.ends q hq
   .exact⟨r9 E.sn,r9 E.en,List.ne_nil_of_mem (eS.mpr (.inr rfl)),List.ne_nil_of_mem (eS.mpr (.inr rfl)),sd f1.2 E.s6,sd f2 E.e6,
     λy hy=>(eS.mp hy).elim (E.ss y) (λe=>e▸h1),λy hy=>(eS.mp hy).elim (E.es y) (λe=>e▸h2),E.w0,E.w3⟩
  .have:=sum_set (r':={r with S:=aJ one r.S,E:=aJ two r.E}) hi (by
    unfold wide;have a:=r_ (x:=one) (S:=r.S);have b:=r_ (x:=two) (S:=r.E);show max (aJ one r.S).length (aJ two r.E).length<=_;omega)
   have:=N.hops;omega
  .refine⟨λq hq=>?_,[],?_,λp hp=>by cases hp⟩;rotate_left
   .rw[List.append_nil];unfold sig;rw[List.map_set];apply List.ext_getElem?;intro j;rw[List.getElem?_set];split
    .rename_i e;subst e;rw[List.length_map,if_pos hlt,List.getElem?_map,hi];rfl
    .rfl
   by_cases e:q=r
   .subst e;exact⟨_,hnew,rfl,rfl,λy hy=>eS.mpr (.inl hy),λy hy=>eS.mpr (.inl hy)⟩
   .obtain⟨j,hj⟩:=List.mem_iff_getElem?.mp hq;have hji:i≠j:=λz=>by subst z;rw[hi] at hj;cases hj;exact e rfl
    exact⟨q,List.mem_of_getElem? (i:=j) (by rw[List.getElem?_set,if_neg hji];exact hj),rfl,rfl,λ_ h=>h,λ_ h=>h⟩
  .exact⟨_,hnew,hn,eS.mpr (.inr rfl),eS.mpr (.inr rfl)⟩
  .exact(List.nodup_append.mp N.nd).2.2 x z x hx rfl
def beside(ho ga bd:List Str):Nat:=(bd.filter λx=> !decide (x∈ho++ga)).length
theorem sf(ho ga a b:List Str):beside ho ga (a++b)=beside ho ga a+beside ho ga b:=by unfold beside;rw[List.filter_append,List.length_append]
theorem sh:∀{ls:List LR},(∀r∈ls,1<=wide r)->ls.length+5*(ls.filter λr=>decide (6<=wide r)).length<=dA ls
 | [],_=>by simp[dA]
 |r::t,h=>by
  have ih:=sh (ls:=t) λq hq=>h q (List.mem_cons_of_mem _ hq)
  have h1:=h r List.mem_cons_self;unfold dA at ih ⊢;rw[List.map_cons,List.sum_cons,List.filter_cons,List.length_cons];split
  .rename_i c;have:=of_decide_eq_true c;rw[List.length_cons];omega
  .omega
theorem split_len{α:Type}(p q:α->Bool):∀{ls:List α},(∀r∈ls,p r=true\/q r=true)->ls.length<=(ls.filter p).length+(ls.filter q).length
 | [],_=>by simp
 |r::t,h=>by
  have ih:=split_len p q (ls:=t) λx hx=>h x (List.mem_cons_of_mem _ hx)
  have h1:=h r List.mem_cons_self;rw[List.filter_cons,List.filter_cons,List.length_cons];split<;>split
  .rw[List.length_cons,List.length_cons];omega
  .rw[List.length_cons];omega
  .rw[List.length_cons];omega
  .rename_i a b;rcases h1 with h1|h1
   .exact absurd h1 a
   .exact absurd h1 b
theorem Dk{c:Nat}(N:aK ho ga ns ls h c)(hh:h<=47)(one two:Str){bd:List Str}(hb:beside ho ga bd<=5)(hl:ls.length=14):∃r∈ls,cI one bd r=true/\dz two r=true:=by
 apply Classical.byContradiction;intro no;have all:∀r∈ls,decide (r.nm∈bd)=true\/decide (6<=wide r)=true:=λr hr=>by
  apply Classical.byContradiction;intro z;apply no;have z1:¬ r.nm∈bd:=λy=>z (.inl (decide_eq_true y))
  have z2:¬ 6<=wide r:=λy=>z (.inr (decide_eq_true y))
  unfold wide at z2;refine⟨r,hr,?_,?_⟩
  .unfold cI;simp only[Bool.and_eq_true,Bool.or_eq_true,decide_eq_true_eq,Bool.not_eq_true',decide_eq_false_iff_not];exact⟨z1,.inr (by omega)⟩
  .unfold dz;simp only[Bool.or_eq_true,decide_eq_true_eq];exact .inr (by omega)
 have a:=split_len _ _ all;have b:=sh (ls:=ls) λr hr=>by
  have E:=(N.ends r hr).s0;have:=List.length_pos_iff.mpr E;unfold wide;omega
 have hs:=N.hops;have nd2:(ls.map LR.nm).Nodup:=(List.nodup_append.mp N.nd).2.1;have d:(ls.filter λr=>decide (r.nm∈bd)).length<=beside ho ga bd:=by
  have nd3:((ls.filter λr=>decide (r.nm∈bd)).map LR.nm).Nodup:=nd2.sublist (List.Sublist.map _ List.filter_sublist);have:=List.Nodup.length_le_of_subset (l₂:=bd.filter λx=> !decide (x∈ho++ga)) nd3 (λx hx=>by
   obtain⟨r,hr,rfl⟩:=List.mem_map.mp hx;obtain⟨m1,m2⟩:=List.mem_filter.mp hr;refine List.mem_filter.mpr ⟨of_decide_eq_true m2,?_⟩;rw[decide_eq_false]
   .rfl
   .exact λz=>(List.nodup_append.mp N.nd).2.2 _ z _ (List.mem_map.mpr ⟨r,m1,rfl⟩) rfl)
  rw[List.length_map] at this;exact this
 omega
structure Way(ho ga ns:List Str)(ls:List LR)(bd:List Str)(first:Str)(k m:Nat)(wh:List Str):Prop where
 len:wh.length=2*k+1
 hd:wh[0]? = some first
 nd:wh.Nodup
 jn:∀i x y z,wh[2*i]? = some x->wh[2*i+1]? = some y->wh[2*i+2]? = some z->Joins ls x y z
 ln:∀i y,wh[2*i+1]? = some y->y∉ho++ga/\y∉bd
 gt:∀i x,2*i+2 < m->wh[2*i+2]? = some x->x∈ga/\x∉bd
 nn:∀i x,wh[2*i]? = some x->x∈ho++ga
 sub:∀y∈wh,y∈ns
 bs:beside ho ga wh<=k
theorem Way.one{bd:List Str}(h:first∈ho++ga)(hn:first∈ns):Way ho ga ns ls bd first 0 1 [first] where
 len:=rfl
 hd:=rfl
 nd:=by simp
 jn:=λi x y z _ e _=>by rw[List.getElem?_eq_none (by show 1<=_;omega)] at e;cases e
 ln:=λi y e=>by rw[List.getElem?_eq_none (by show 1<=_;omega)] at e;cases e
 gt:=λi y hm e=>by omega
 nn:=λi x e=>by
  have:i=0:=Classical.byContradiction λz=>by rw[List.getElem?_eq_none (by show 1<=_;omega)] at e;cases e
  subst this;cases e;exact h
 sub:=λy hy=>by rw[List.mem_singleton.mp hy];exact hn
 bs:=by unfold beside;rw[List.filter_cons,if_neg (by rw[decide_eq_true h];decide)];exact Nat.le_refl _
theorem Way.grow{bd:List Str}{k m:Nat}(W:Way ho ga ns ls bd first k m wh){ns0:List Str}(g:a8 ns0 ls ls')(n:∀y∈ns,y∈ns'):Way ho ga ns' ls' bd first k m wh :=
 ⟨W.len,W.hd,W.nd,λi x y z a b c=>(W.jn i x y z a b c).grow g,W.ln,W.gt,W.nn,λy hy=>n y (W.sub y hy),W.bs⟩
theorem Way.step{bd:List Str}{k:Nat}(W:Way ho ga ns ls bd first k (2*k+1) wh){one two:Str}(h1:wh[2*k]? = some one)(j:Joins ls one x two)(xg:x∉ho++ga)(xb:x∉bd)(xw:x∉wh)(xn:x∈ns)
  (tw:two∉wh)(tg:two∈ho++ga)(tn:two∈ns):Way ho ga ns ls bd first (k+1) (2*k+2) (wh++[x,two])/\(two∈ga->two∉bd->Way ho ga ns ls bd first (k+1) (2*k+3) (wh++[x,two])):=by
 have hl:=W.len;have L:∀i,i < 2*k+1->(wh++[x,two])[i]? = wh[i]? := λi hi=>List.getElem?_append_left (by omega)
 have X:(wh++[x,two])[2*k+1]? = some x:=by rw[List.getElem?_append_right (by omega),hl,Nat.sub_self];rfl
 have T:(wh++[x,two])[2*k+2]? = some two:=by rw[List.getElem?_append_right (by omega),hl,show 2*k+2 - (2*k+1)=1 by omega];rfl
 have O:∀i,2*k+3<=i->(wh++[x,two])[i]? = none:=λi hi=>List.getElem?_eq_none (by rw[List.length_append,hl];exact hi)
 have xt:x≠two:=λe=>xg (e▸tg)
 have base:∀m,(∀i y,2*i+2 < m->(wh++[x,two])[2*i+2]? = some y->y∈ga/\y∉bd)->Way ho ga ns ls bd first (k+1) m (wh++[x,two]):=λm hm=>by
  refine⟨by rw[List.length_append,hl];show 2*k+1+2=_;omega,by rw[L 0 (by omega)];exact W.hd,List.nodup_append.mpr ⟨W.nd,by simp[xt],λa ha b hb e=>?_⟩,λi a b c ea eb ec=>?_,λi y e=>?_,hm,λi y e=>?_,λy hy=>?_,?_⟩
  .subst e;rcases List.mem_cons.mp hb with e|hb
   .exact xw (e▸ha)
   .exact tw (List.mem_singleton.mp hb▸ha)
  .rcases Nat.lt_trichotomy i k with hi|hi|hi
   .rw[L _ (by omega)] at ea eb ec;exact W.jn i a b c ea eb ec
   .subst hi;rw[L _ (by omega),h1] at ea;rw[X] at eb;rw[T] at ec;cases ea;cases eb;cases ec;exact j
   .rw[O _ (by omega)] at eb;cases eb
  .rcases Nat.lt_trichotomy i k with hi|hi|hi
   .rw[L _ (by omega)] at e;exact W.ln i y e
   .subst hi;rw[X] at e;cases e;exact⟨xg,xb⟩
   .rw[O _ (by omega)] at e;cases e
  .rcases Nat.lt_trichotomy i (k+1) with hi|hi|hi
   .rw[L _ (by omega)] at e;exact W.nn i y e
   .subst hi;rw[show 2*(k+1)=2*k+2 by omega,T] at e;cases e;exact tg
   .rw[O _ (by omega)] at e;cases e
  .rcases List.mem_append.mp hy with hy|hy
   .exact W.sub y hy
   .rcases List.mem_cons.mp hy with e|hy
    .exact e▸xn
    .exact List.mem_singleton.mp hy▸tn
  .rw[sf];have:=W.bs;have e:beside ho ga [x,two]=1:=by
    unfold beside;rw[List.filter_cons,if_pos (by rw[decide_eq_false xg];rfl),List.filter_cons,if_neg (by rw[decide_eq_true tg];decide)];rfl
   omega
 refine⟨base _ λi y hi e=>?_,λg b=>base _ λi y hi e=>?_⟩
 .rw[L _ (by omega)] at e;exact W.gt i y (by omega) e
 .by_cases c:i=k
  .subst c;rw[T] at e;cases e;exact⟨g,b⟩
  .rw[L _ (by omega)] at e;exact W.gt i y (by omega) e
theorem Way.mem{bd:List Str}{k m:Nat}(W:Way ho ga ns ls bd first k m wh)(hy:y∈wh)(hm:2*k+1<=m):y=first\/y∉ho++ga\/y∈ga:=by
 obtain⟨j,hj⟩:=List.mem_iff_getElem?.mp hy;have hlt:j < 2*k+1:=by
  by_cases h:j < 2*k+1
  .exact h
  .rw[List.getElem?_eq_none (by rw[W.len];omega)] at hj;cases hj
 rcases Nat.mod_two_eq_zero_or_one j with e|e
 .by_cases z:j=0
  .subst z;rw[W.hd] at hj;cases hj;exact .inl rfl
  .obtain⟨i,rfl⟩:∃i,j=2*i+2:=⟨j / 2 - 1,by omega⟩;exact .inr (.inr (W.gt i y (by omega) hj).1)
 .obtain⟨i,rfl⟩:∃i,j=2*i+1:=⟨j / 2,by omega⟩;exact .inr (.inl (W.ln i y hj).1)
theorem si{x:Str}:∀{l:List Str},l.Nodup->l.length<=(l.filter λy=> !decide (y=x)).length+1
 | [],_=>by simp
 |y::t,h=>by
  obtain⟨h1,h2⟩:=List.nodup_cons.mp h;rw[List.filter_cons,List.length_cons];by_cases e:y=x
  .subst e;rw[if_neg (by simp),List.filter_eq_self.mpr (λz hz=>by
    rw[decide_eq_false]
    .rfl
    .exact λq=>h1 (q▸hz))]
   exact Nat.le_refl _
  .rw[if_pos (by rw[decide_eq_false e];rfl),List.length_cons];have:=si (x:=x) h2;omega
theorem aK.nd2{c:Nat}(N:aK ho ga ns ls h c)(a:x∈ho)(b:x∈ga):False :=
 (List.nodup_append.mp (List.nodup_append.mp N.nd).1).2.2 x a x b rfl
theorem aK.more{h' c:Nat}(N:aK ho ga ns ls h c)(l:h<=h'):aK ho ga ns ls h' c:=⟨N.nd,N.sub,N.nms,N.nsd,N.ends,N.len,Nat.le_trans N.hops l,N.cnt⟩
def bQ(ls:List LR)(way:List Str)(lo sl:Int):Int:=ls.foldl (λm r=>if r.nm∈way then m+lo+r.w+sl else m) 0
def dB(ls:List LR)(ways:List (List Str))(lo sl:Int):Int:=ways.foldl (λm way=>if bQ ls way lo sl > m then bQ ls way lo sl else m) 0
structure RW where
 nm:Str
 ways:List (List Str)
 e:Int
 lo:Int
 re:Int
 lst:Int
def inner(w:List Str):List Str:=(w.drop 1).take (w.length - 2)
theorem Dl{w:List Str}(h:x∈inner w):x∈w:=List.mem_of_mem_drop (List.mem_of_mem_take h)
theorem sj(w:List Str):(inner w).length<=w.length:=by unfold inner;rw[List.length_take,List.length_drop];omega
theorem Dm(ho ga w:List Str):beside ho ga (inner w)<=beside ho ga w:=by
 unfold beside inner;exact(((List.take_sublist _ _).trans (List.drop_sublist _ _)).filter _).length_le
theorem aK.named{c:Nat}(N:aK ho ga ns ls h c)(hx:x∉ns)(nm:Nm x):aK ho ga (ns++[x]) ls h (c+1) where
 nd:=N.nd
 sub:=λy hy=>List.mem_append_left _ (N.sub y hy)
 nms:=λy hy=>(List.mem_append.mp hy).elim (N.nms y) λz=>List.mem_singleton.mp z▸nm
 nsd:=List.nodup_append.mpr ⟨N.nsd,by simp,λa ha b hb e=>by rw[List.mem_singleton.mp hb] at e;exact hx (e▸ha)⟩
 ends:=N.ends
 len:=N.len
 hops:=N.hops
 cnt:=by rw[List.length_append];have:=N.cnt;show ns.length+1<=_;omega
def jS:List Int:=[12,8,20,24,10,30,15,40,60,12,120]
structure cJ(ho ga ns:List Str)(ls:List LR)(sl:Int)(r:RW):Prop where
 nmn:r.nm∈ns
 nmo:r.nm∉ho++ga++ls.map LR.nm
 way:∃first last w1 k1,first∈ho/\last∈ho/\first≠last/\1<=k1/\k1<=3/\Way ho ga ns ls [] first k1 (2*k1) w1/\w1[2*k1]? = some last/\(r.ways=[w1]\/∃w2 k2,r.ways=[w1,w2]/\1<=k2/\k2<=3/\Way ho ga ns ls (inner w1) first k2 (2*k2) w2/\w2[2*k2]? = some last)
 ev:r.e∈jS
 l1:1<=r.lo
 l4:r.lo<=4
 le:r.lo+sl<=r.e
 r0:0<=r.re
 re:r.re < r.e
 lst:∃spare,r.lst=dB ls r.ways r.lo sl+spare/\spare∈[0,1,2,r.e / 2,3,r.e - 1,6]
theorem su(ls:List LR):ls.map LR.nm=(sig ls).map Prod.fst:=by unfold sig;rw[List.map_map];rfl
theorem sv(ls:List LR)(way:List Str)(lo sl:Int):bQ ls way lo sl=(sig ls).foldl (λm r=>if r.1∈way then m+lo+r.2+sl else m) 0:=by
 unfold bQ sig;rw[List.foldl_map]
theorem sw{way:List Str}{lo sl:Int}:∀{ext:List (Str×Int)} (m:Int),(∀p∈ext,p.1∉way)->ext.foldl (λm r=>if r.1∈way then m+lo+r.2+sl else m) m=m
 | [],_,_=>rfl
 |p::t,m,h=>by
  rw[List.foldl_cons,if_neg (h p List.mem_cons_self)];exact sw m λq hq=>h q (List.mem_cons_of_mem _ hq)
theorem Dn{way:List Str}(g:a8 ns ls ls')(h:∀y∈way,y∈ns):bQ ls' way lo sl=bQ ls way lo sl:=by
 obtain⟨_,ext,e,hn⟩:=g;rw[sv,sv,e,List.foldl_append];exact sw _ λp hp z=>hn p hp (h _ z)
theorem Do(g:a8 ns ls ls'):∀{ways:List (List Str)},(∀way∈ways,∀y∈way,y∈ns)->dB ls' ways lo sl=dB ls ways lo sl:=by
 intro ways;unfold dB;generalize (0:Int)=m
 induction ways generalizing m with
 |nil=>intro _;rfl
 |cons w t ih =>
  intro h;rw[List.foldl_cons,List.foldl_cons,Dn g (h w List.mem_cons_self)];exact ih _ λv hv=>h v (List.mem_cons_of_mem _ hv)
theorem cJ.sub{r:RW}(R:cJ ho ga ns ls sl r):∀way∈r.ways,∀y∈way,y∈ns:=by
 obtain⟨first,last,w1,k1,_,_,_,_,_,Y,_,h⟩:=R.way;intro way hw;rcases h with e|⟨w2,k2,e,_,_,Y2,_⟩
 .rw[e] at hw;rw[List.mem_singleton.mp hw];exact Y.sub
 .rw[e] at hw;rcases List.mem_cons.mp hw with rfl|hw
  .exact Y.sub
  .rw[List.mem_singleton.mp hw];exact Y2.sub
theorem cJ.grow{r:RW}(R:cJ ho ga ns ls sl r)(g:a8 ns ls ls')(n:∀y∈ns,y∈ns'):cJ ho ga ns' ls' sl r where
 nmn:=n _ R.nmn
 nmo:=λz=>by
  obtain⟨_,ext,e,hn⟩:=g;rw[su,e,List.map_append,<- su,<- List.append_assoc] at z;rcases List.mem_append.mp z with z|z
  .exact R.nmo z
  .obtain⟨p,hp,ep⟩:=List.mem_map.mp z;exact hn p hp (ep▸R.nmn)
 way:=by
  obtain⟨first,last,w1,k1,a1,a2,a3,a4,a5,Y,a6,h⟩:=R.way;refine⟨first,last,w1,k1,a1,a2,a3,a4,a5,Y.grow g n,a6,?_⟩;rcases h with e|⟨w2,k2,e,b1,b2,Y2,b3⟩
  .exact .inl e
  .exact .inr ⟨w2,k2,e,b1,b2,Y2.grow g n,b3⟩
 ev:=R.ev
 l1:=R.l1
 l4:=R.l4
 le:=R.le
 r0:=R.r0
 re:=R.re
 lst:=by
  obtain⟨sp,e,h⟩:=R.lst;exact⟨sp,by rw[Do g R.sub];exact e,h⟩
theorem Dp{xs:List Str}{i:Nat}(nd:xs.Nodup)(h1:xs[i]? = some x)(h2:xs[j]? = some x):i=j:=by
 have hi:i < xs.length:=by
  by_cases h:i < xs.length
  .exact h
  .rw[List.getElem?_eq_none (by omega)] at h1;cases h1
 exact(List.getElem?_inj hi nd).mp (h1.trans h2.symm)
def b_(σ:List Str)(v:Str):List Str:=if σ.any (·== v)=true then σ else σ++[v]
def be(val:Nat->Str)(i:Nat):List Str:=((List.range i).map val).foldl b_ []
theorem Dq(val:Nat->Str):be val 0=[]:=rfl
theorem mX(val:Nat->Str)(i:Nat):be val (i+1)=b_ (be val i) (val i):=by
 unfold be;rw[List.range_succ,List.map_append,List.foldl_append];rfl
theorem sx(σ:List Str)(v:Str):(b_ σ v).length=if σ.any (·== v)=true then σ.length else σ.length+1:=by
 unfold b_;split<;>simp
theorem sy(val:Nat->Str):∀i,(be val i).length<=i
 |0=>by rw[Dq];exact Nat.le_refl _
 |i+1=>by
  rw[mX,sx];have ih:=sy val i;split<;>omega
theorem Dr(σ:List Str)(v k:Str):(b_ σ v).any (·== k)=(σ.any (·== k)||decide (k=v)):=by
 unfold b_;by_cases h:σ.any (·== v)=true
 .rw[if_pos h];by_cases e:k=v
  .subst e;rw[h];simp
  .simp[e]
 .rw[if_neg h,List.any_append];by_cases e:k=v
  .subst e;simp
  .have hb:(v==k)=false:=by simpa [beq_iff_eq] using (λh':v=k=>e h'.symm)
   simp[hb,e]
theorem sA{σ:List Str}{v:Str}:σ.any (·== v)=true↔v∈σ:=by
 rw[List.any_eq_true];exact⟨λ⟨x,hx,e⟩=>by rw[beq_iff_eq] at e;exact e▸hx,λh=>⟨v,h,by simp⟩⟩
theorem mY:∀(ys acc:List Str),acc.Nodup->((ys.foldl b_ acc).length=acc.length+ys.length↔(acc++ys).Nodup)/\(ys.foldl b_ acc).length<=acc.length+ys.length
 | [],acc,h=>by simp[h]
 |y::t,acc,h=>by
  rw[List.foldl_cons];by_cases c:y∈acc
  .have e:b_ acc y=acc:=by unfold b_;rw[if_pos (sA.mpr c)]
   rw[e];obtain⟨_,ih⟩:=mY t acc h;refine⟨⟨λz=>?_,λz=>?_⟩,?_⟩
   .rw[List.length_cons] at z;omega
   .exact absurd rfl ((List.nodup_append.mp z).2.2 y c y List.mem_cons_self)
   .rw[List.length_cons];omega
  .have e:b_ acc y=acc++[y]:=by unfold b_;rw[if_neg (λz=>c (sA.mp z))]
   have h':(acc++[y]).Nodup:=List.nodup_append.mpr ⟨h,by simp,λa ha b hb q=>by rw[List.mem_singleton.mp hb] at q;exact c (q▸ha)⟩;obtain⟨ih1,ih2⟩:=mY t (acc++[y]) h';rw[e];rw[List.length_append,List.append_assoc] at ih1;rw[List.length_append] at ih2;rw[List.length_cons];have l1:([y]:List Str).length=1:=rfl;rw[l1] at ih1 ih2;refine⟨⟨λz=>ih1.mp (by omega),λz=>?_⟩,by omega⟩;have:=ih1.mpr z;omega
def gv(ys:List Str):Nat:=(ys.foldl b_ []).length
theorem sB{ys:List Str}(h:ys.Nodup):gv ys=ys.length:=by
 have:=(mY ys [] (by simp)).1.mpr (by simpa using h);unfold gv;simpa using this
theorem Ds(ys:List Str):be (λi=>ys.getD i Str.empty) ys.length=ys.foldl b_ []:=by
 unfold be;congr 1
 apply List.ext_getElem?;intro i;rw[List.getElem?_map];by_cases h:i < ys.length
 .rw[List.getElem?_range h,List.getElem?_eq_getElem h];show some (ys.getD i Str.empty)=_;rw[List.getD_eq_getElem?_getD,List.getElem?_eq_getElem h];rfl
 .rw[List.getElem?_eq_none (by rw[List.length_range];omega),List.getElem?_eq_none (by omega)];rfl
theorem StrsAre.str_at:∀{vs:List Value} {ns:List Str},StrsAre vs ns->∀(i:Nat) (v:Value),vs[i]? = some v->∃t,v= .str (ns.getD i Str.empty) t
 |_,_,.nil,i,v,h=>by simp at h
 |_,_,.cons n t hr,0,v,h=>by simp at h;exact⟨t,by rw[<- h];rfl⟩
 |_,_,.cons n t hr,i+1,v,h=>by
  simp only[List.getElem?_cons_succ] at h;obtain⟨t',e⟩:=StrsAre.str_at hr i v h;exact⟨t',by rw[e];rfl⟩
section
variable{R:Result->Shared->Prop}{I:Addr}{wr:List Addr}{G:Array GenState->Array GenState->Prop}{n:Nat}{P:Nat->Value->Prop}{St:Nat->Shared->Prop}
theorem Dt(W:WalksS prog w A.in1 I fp wr G n P St)(S:Addr)(hSf:S∉fp)
  (val:Nat->Str)(hval:∀i v,P i v->∃t,v= .str (val i) t)(hb:n+1 < scanBound) :
  ∀(k i:Nat) (s:Shared),n - i=k->i<=n->St i s ->
   s.heap.SetOf (strKind prog w) S (λk'=>(be val i).any (·== k')) (be val i).length ->
   (∀s',Moved (S::wr) G s s'->s'.heap.SetOf (strKind prog w) S (λk'=>(be val n).any (·== k')) (be val n).length->R (.ok (.ret .none)) s') ->
   codeAny (model prog w) A (.builtin "set.update.loop" ⟨[.ref S,.ref I],[]⟩) R s:=by
 have hSw:S∉wr:=λh=>hSf (W.sub _ h)
 have hsub:∀b∈wr,b∈S::wr:=λb hb=>List.mem_cons_of_mem _ hb
 intro k;induction k with
 |zero =>
  intro i s hk hi hst hS hR;have hin:i=n:=by omega
  subst hin;refine codeAny_builtin PyProof.Rows.F.entry_set_update_loop ?_;rw[Around.under_plainId PyProof.Rows.F.plain_set_update_loop _];show wpAny _ A.in1 (pyNext (.ref I) >>= _) _ _ s;refine wpAny_bind (W.done s _ _ hst λs' hm=>?_);show wpAny _ A.in1 (ret Value.none) _ _ s';exact wpAny_pure (hR s' (hm.mono hsub) (by
   obtain⟨o,es,ep,t,ho,rest⟩:=hS;exact⟨o,es,ep,t,hm.heap S _ hSw ho,rest⟩))
 |succ k ih =>
  intro i s hk hi hst hS hR;have hlt:i < n:=by omega
  refine codeAny_builtin PyProof.Rows.F.entry_set_update_loop ?_;rw[Around.under_plainId PyProof.Rows.F.plain_set_update_loop _];show wpAny _ A.in1 (pyNext (.ref I) >>= _) _ _ s;refine wpAny_bind (W.item i s _ _ hlt hst λv s' hP hst' hm=>?_);obtain⟨t,rfl⟩:=hval i v hP;have hS':s'.heap.SetOf (strKind prog w) S (λk'=>(be val i).any (·== k')) (be val i).length:=by
   obtain⟨o,es,ep,tb,ho,rest⟩:=hS;exact⟨o,es,ep,tb,hm.heap S _ hSw ho,rest⟩
  show wpAny _ A.in1 (holding [Value.str (val i) t] (setAdd S (.str (val i) t)) >>= _) _ _ s';refine wpAny_bind (wpAny_holding ?_);unfold setAdd;refine wpAny_holding ?_;refine wpAny_bind ((strKind prog w).pyHash (k:=val i) (strKind_is _ _ _ _) ?_);have hroom:(be val i).length+1 < scanBound:=by have:=sy val i;omega
  refine wpAny_setAddHashed_of (knd:=strKind prog w) (s:={s' with toks:=s'.toks+1}) (strKind_is _ _ _ _) rfl hS' hroom λh' hsb hS2=>?_
  have hSi:h'.SetOf (strKind prog w) S (λk'=>(be val (i+1)).any (·== k')) (be val (i+1)).length :=
   SetOf_congr hS2 (λk'=>by rw[mX,Dr]) (by rw[mX,sx])
  refine wpAny_pure ⟨plainId_quiet PyProof.Rows.F.plain_set_update_loop _,ih (i+1) _ (by omega) hlt (W.frame _ s' _ _ hst' (Nat.le_succ _) λb hb o e=>?_) hSi λs'' hm'' hS''=>?_⟩
  .rw[hsb.2 b (λh:b=S=>hSf (by rw[<- h];exact hb))];exact e
  .refine hR s'' (Moved.trans W.gtrans ((hm.mono hsub).then_heap (Nat.le_succ _) λb o hb e=>?_) hm'') hS'';rw[hsb.2 b (λh:b=S=>hb (by rw[h];exact List.mem_cons_self))];exact e
end
end L2
namespace PySem
open PyProof.Rows
theorem Du:isSubtype (.type "tuple") (.type "set")=pure false:=by rw[isSubtype_type];kernel_rfl
theorem Dv:isSubtype (.type "tuple") (.type "frozenset")=pure false:=by rw[isSubtype_type];kernel_rfl
section
variable{prog:Program}{w:World}{A:Around}{E:Value->Shared->Prop}{s:Shared}
set_option maxHeartbeats 3200000 in
theorem Dw{l:Addr}{items:Array Value}{ns:List Str}{Q:Value->Shared->Prop}
  (hh:A.handled=none)(hl:s.heap.IsTuple l items)(hi:PyProof.Rows.StrsAre items.toList ns)(hb:items.size+1 < scanBound)
  (h:∀(h':Heap) (tk:Nat),h'.SetOf (strKind prog w) s.heap.objs.size (λk'=>(L2.be (λi=>ns.getD i Str.empty) items.size).any (·== k')) (L2.be (λi=>ns.getD i Str.empty) items.size).length ->
   (∀b o,b < s.heap.objs.size->s.heap.get? b=some o->h'.get? b=some o)->Q (.ref s.heap.objs.size) {s with heap:=h',toks:=tk}) :
  wpAny (model prog w) A (call (.type "set") [.ref l]) Q E s:=by
 obtain⟨c,tl,hmro⟩:=F.called_set.mro;have hmade:=F.called_set.made;have hsub:=F.called_set.sub;refine wpAny_call (codeAny_of_tree ?_);show wpAny _ _ (callAny (.type "set") _) _ _ _;refine wpAny_pure ⟨Code.quiet_builtin _ (by decide+kernel),codeAny_builtin F.entry_type_call ?_⟩;rw[Around.under_plain (weight_type_call_type "set" [.ref l] []) rfl];have h1:=F.called_set.notType;have h2:=F.called_set.canCreate;have hct:=F.typeCall_set_1 (.ref l);repeat (any_goals (first|assumption|wp_step))
 refine codeAny_mono (code_set_new_1 (.ref l) (E:=E) (Q₁:=λobj s₁=>∃led:Bool,obj= .ref s.heap.objs.size/\s₁={s with heap:=s.heap.push {cls:= .type "set",dict:=none,data:= .set #[] 0 (.fresh 0 0 led)}}) λled=>⟨led,rfl,rfl⟩) λr s₁ hr=>?_
 cases r with
 |error e=>exact hr
 |ok fl =>
  cases fl with
  |ret obj =>
   obtain⟨led,rfl,rfl⟩:=hr;have hS:(s.heap.push {cls:= .type "set",dict:=none,data:= .set #[] 0 (.fresh 0 0 led)}).get? s.heap.objs.size=some {cls:= .type "set",dict:=none,data:= .set #[] 0 (.fresh 0 0 led)}:=Heap.get?_push_size _ rfl;have hT:Shared.TypeIs {s with heap:=s.heap.push {cls:= .type "set",dict:=none,data:= .set #[] 0 (.fresh 0 0 led)}} (.ref s.heap.objs.size) "set":=⟨_,hS,rfl⟩;have hli:=F.called_set.init.lookup;have hbi:=F.called_set.init.bind (.ref s.heap.objs.size);repeat (any_goals (first|assumption|wp_step))
   refine codeAny_mono (codeAny_call_builtin (R:=wants (λr s₂=>r= .none/\∃h' tk,s₂={s with heap:=h',toks:=tk} /\
     h'.SetOf (strKind prog w) s.heap.objs.size (λk'=>(L2.be (λi=>ns.getD i Str.empty) items.size).any (·== k')) (L2.be (λi=>ns.getD i Str.empty) items.size).length /\
     (∀b o,b < s.heap.objs.size->s.heap.get? b=some o->h'.get? b=some o)) E) F.called_set.init.plain F.entry_set_init (check_set_init_1 hT ?_)) λr₂ s₂ hr₂=>?_
   .have hl1:(s.heap.push {cls:= .type "set",dict:=none,data:= .set #[] 0 (.fresh 0 0 led)}).IsTuple l items:=hl.push _;obtain⟨ol,hol,hcl,nl,hdl⟩:=id hl;obtain⟨ocls,odict,odata,oslots⟩:=ol;simp only at hcl hdl;subst hcl;subst hdl;have hol':(s.heap.push {cls:= .type "set",dict:=none,data:= .set #[] 0 (.fresh 0 0 led)}).get? l=some {cls:= .type "tuple",dict:=odict,data:= .seq items nl,slots:=oslots}:=Heap.get?_push_of_some _ hol;have hsls:=Du;have hslf:=Dv;have hne:(Value.type "tuple"==Value.type "dict")=false:=by decide
    unfold Builtin.«set.__init__» noKeywords Builtin.Frozenset.updateFrom;generalize hPI:pyIter=PI
    wp_walk
    subst hPI;refine wpAny_pyIter_tuple hl1 ?_;refine wpAny_bind (wpAny_runValue ?_);have hlS:l < s.heap.objs.size:=Heap.lt_size hol;have hh3:A.in1.in1.in1.handled=none:=by simp[hh]
    have hneI:l≠(s.heap.push {cls:= .type "set",dict:=none,data:= .set #[] 0 (.fresh 0 0 led)}).objs.size:=by
     rw[Heap.size_push];exact Nat.ne_of_lt (Nat.lt_succ_of_lt hlS)
    have hSf:s.heap.objs.size∉[(s.heap.push {cls:= .type "set",dict:=none,data:= .set #[] 0 (.fresh 0 0 led)}).objs.size,l]:=by
     rw[Heap.size_push];simp only[List.mem_cons,List.mem_singleton,List.not_mem_nil,or_false,not_or];exact⟨Nat.ne_of_lt (Nat.lt_succ_self _),Nat.ne_of_gt hlS⟩
    have hval:∀(i:Nat) (v:Value),items[i]? = some v->∃t,v= .str ((λi=>ns.getD i Str.empty) i) t:=λi v hv =>
     L2.StrsAre.str_at hi i v (by rw[Array.getElem?_toList];exact hv)
    refine L2.Dt ((Walks.tuple hh3 _ l hneI items).toS) s.heap.objs.size
     hSf (λi=>ns.getD i Str.empty) hval hb (items.size - 0) 0 _ (by omega) (Nat.zero_le _)
     ⟨⟨_,Heap.get?_push_size _ rfl,rfl,rfl⟩,(hl1.push _)⟩ ?hS0 ?hR
    case hS0 =>
     have hget:((s.heap.push {cls:= .type "set",dict:=none,data:= .set #[] 0 (.fresh 0 0 led)}).push {cls:= .type "tuple_iterator",data:= .fields #[.ref l,.int 0 0]}).get? s.heap.objs.size
       = some {cls:= .type "set",dict:=none,data:= .set #[] 0 (.fresh 0 0 led)}:=Heap.get?_push_of_some _ hS
     exact PyProof.Rows.SetOf_congr ((PyProof.Rows.setObjOf_fresh (knd:=strKind prog w) led).setOf hget (by unfold scanBound;omega)) (λ_=>rfl) rfl
    case hR =>
     intro s' hm hS';obtain⟨h',g',d',tk',os'⟩:=s';have eg:g'=s.gens:=hm.gens;have ed:d'=s.drawn:=hm.drawn;have eo:os'=s.os:=hm.os;subst eg;subst ed;subst eo;show wpAny _ _ _ _ _ _;refine wpAny_pure ?_;show wpAny _ _ (ret Value.none) _ _ _;refine wpAny_pure ⟨rfl,h',tk',rfl,hS',λb o hb e=>?_⟩;have hb1:b≠s.heap.objs.size:=Nat.ne_of_lt hb;have hb2:b≠(s.heap.push {cls:= .type "set",dict:=none,data:= .set #[] 0 (.fresh 0 0 led)}).objs.size:=by
      rw[Heap.size_push];exact Nat.ne_of_lt (Nat.lt_succ_of_lt hb)
     exact hm.heap b o (by simp only[List.mem_cons,List.mem_singleton,List.not_mem_nil,or_false,not_or];exact⟨hb1,hb2⟩) (Heap.get?_push_of_some _ (Heap.get?_push_of_some _ e))
   .cases r₂ with
    |error e=>exact hr₂
    |ok fl₂ =>
     cases fl₂ with
     |ret r =>
      obtain⟨rfl,h',tk,rfl,hS',hk'⟩:=hr₂;repeat (any_goals (first|assumption|wp_step))
      exact h _ _ hS' hk'
     |_=>exact hr₂.elim
  |_=>exact hr.elim
end
end PySem
namespace L2
open PySem PySem.Spec PyProof.Rows
variable{K:Frag}{X:Cx}{pos np apos cpos pos' p2 p1:Pos}{w:World}{H F' F:Hp}{prog P Pr:Program}{xs csV zs:List V}{x qual name fld q z nm qn:Str}{C a f fI Ch c' l:Addr}{A:Around}{scope:Scope}{E:Value->Shared->Prop}{pins:List (Addr×Obj)}{base h h' h0:Heap}{ps ks ns N sn:List Str}{te ta tv tb:TE}{mg:Str->Option Value}{α β:Type}{es ifs:List Expr}{fd:FuncData}{σ:St}{j m nrem ln cl:Nat}{params:Arguments}{sp:Sp}{newId T:String}{neg hdct cm ab:Bool}{tk:TA}{env:Env}{CX:CXT}{vs us bm csU ws:List Value}{tg iter body e2 e1:Expr}{outer:List Env}{g:TG}{kws:List Keyword}{col:Option Bool}{gV:List V->List V->List V}{S fr:List Nat}{wi:TI}{tc:TT}{k0 k3 k5:Option Value}{dd dx:Option Addr}{M:Model}{st:Stmt}{lo hi:Option Int}{ox:Obj}{gs:TGs}{tl th:TO}{v pm:Value}{os:OsState}{cd:ClassData}{y:V}
def gw(P:Program)(w:World)(a:Addr)(ys:List Str):HO:= .ext λh=>∃S,h.SetOf (strKind P w) a S (gv ys)
section
variable(K:Frag)
theorem Dx(hc:X.calm=true)(h:X.K=K:=by rfl):zW X (.type "set") (λxs H Q=>∃p ys,xs=[.ref p]/\SqT K H p (ys.map V.str)/\ys.length<=100/\∀a,H a=none->Q (.ref a) (upd H a (gw X.prog X.w a ys))):=by
 subst h;intro pins s σ H xs us Q I r h;obtain⟨p,ys,rfl,hl,hz,q⟩:=h;obtain⟨u,rfl,rx⟩:=vals1 r;cases rx;obtain⟨its,r',pl,_⟩:=I.tuple hl;have hlen:its.toArray.size=ys.length:=by rw[List.size_toArray,<- r'.length,List.length_map]
 refine Dw (I.ok.hd hc) (show s.heap.IsTuple p its.toArray from pl) (by simpa using jR r') (by rw[hlen];unfold scanBound;omega) λh' tk hS hk=>?_
 rw[hlen,Ds] at hS;have hk':∀b u,s.heap.get? b=some u->h'.get? b=some u:=λb u e=>hk b u (Heap.lt_size e) e
 refine⟨.ref s.heap.objs.size,_,I.laid (o:=gw X.prog X.w s.heap.objs.size ys) hk' (Nat.le_refl _) ?_,rfl,q _ (I.hok.fresh (Nat.le_refl _))⟩;refine⟨⟨_,hS⟩,?_,λh1 h2 ⟨S,o,es,ep,t,e,r⟩ k=>⟨S,o,es,ep,t,k o e,r⟩⟩;obtain⟨o,_,_,_,e,_⟩:=hS;exact⟨o,e⟩
theorem Dy:zW X (.builtin "len") (λxs H Q=>∃a ys,xs=[.ref a]/\H a=some (gw X.prog X.w a ys)/\Q (.int (gv ys:Nat)) H):=by
 intro pins s σ H xs us Q I r h;obtain⟨a,ys,rfl,ha,q⟩:=h;obtain⟨u,rfl,rx⟩:=vals1 r;cases rx;obtain⟨⟨S,o,es,ep,t,ho,hex,hd,_,_,hsb,hf,hn⟩,_,_⟩:=(show aw X.prog X.w H s.heap a (gw X.prog X.w a ys) from I.hok a _ ha);have hb:(es.size:Int) < 2^63:=by unfold scanBound at hsb;omega
 refine call_len_set ho hex hd hf hb ⟨.int _,H,I.tok _,⟨_,rfl⟩,?_⟩;rw[hn];exact q
end
def Its(x:Str):It:=⟨λi _=>i < x.cps.size,λi H v H'=>H'=H/\∃c,x.cps.toList[i]? = some c/\v= .str ⟨#[c]⟩,λi _=>x.cps.size<=i⟩
theorem Dz(it:Addr)(x:Str)(t:Tok):Turn P w K tg (Its x) [it] it (λi h=>h.IsStrIter it "str_ascii_iterator" x t i) where
 mem:=by simp
 obj:=λi h st b hb=>by
  have e:b=it:=by simpa using hb
  subst e;obtain⟨o,e,c,d⟩:=st;exact⟨o,e,λv z=>by rw[d] at z;cases z⟩
 keep:=λi h h' st k=>let ⟨o,ho,r⟩:=st;⟨o,k it (by simp) o ho,r⟩
 item:=by
  intro X hP hw hK hc i pins s σ H E I hf st hg;subst hP hw hK;obtain⟨f0,f1,f2,f3,f4,f5⟩:=hf it (by simp);have W:=Walks.strAscii (prog:=X.prog) (w:=X.w) (I.ok.hd hc) it x t;refine W.item i s _ _ hg st λv h' tk hv st' kk=>?_
  obtain⟨c,u,hcu,rfl⟩:=hv;have I1:Inv X pins σ H {s with heap:=h',toks:=tk}:=I.turned (λb o hb e=>kk b o (by simpa using hb) e) f0 f1 f3 f4 f5;obtain⟨o,e,c',d⟩:=id st';exact⟨_,rfl,ju (s:={s with heap:=h',toks:=tk}) e c' d (by decide) ⟨.str ⟨#[c]⟩,H,I1,⟨u,rfl⟩,⟨rfl,c,by rw[Array.getElem?_toList];exact hcu,rfl⟩,st',λb hb=>(hf b hb).1⟩⟩
 done:=by
  intro X hP hw hK hc i pins s σ H E I hf st hg;subst hP hw hK;obtain⟨f0,f1,f2,f3,f4,f5⟩:=hf it (by simp);exact wpAny_pyNext_ascii_end (I.ok.hd hc) st (Array.getElem?_eq_none hg) λh' eb=>⟨rfl,I.turned (t':=s.toks) (λb o hb e=>eb b o hb e) f0 f1 f3 f4 f5⟩
 self:=λ_ _ _ _ _ st h=>wpAny_pyIter_striter_ascii st h
section
end
section
variable{k:Nat}{E:XK}{p:Pos}{e:Expr}{t:TA}{g:List Value->List Value->List Value}
theorem sC{s:Shared}{Q:VK}{vs:List V}(M:Mk X.K C f)(F:zU X.prog X.w X.K X.mg X.base CX k f fd ps sp)(hr:aS (k+1) X.A)(hb:cV X.K fd ps ks g gV)
  (hx:cU CX X E)(I:Inv X pins σ H s)(r:Vals vs us)(rz:Vals zs ws)
  (h:∀x dx,H x=none->H dx=none->dx≠x->sp (gV (.ref x::vs) zs) (upd (upd H dx (.own x)) x (.ins C dx [])) (λv H2=>v= .non/\Q (.ref x) H2) E) :
  wpAny (model X.prog X.w) X.A (call (.ref C) us (ks.zip ws)) (EP X pins σ Q) X.xe s:=by
 have hq:=h (s.heap.objs.size+1) s.heap.objs.size (I.hok.fresh (Nat.le_succ _)) (I.hok.fresh (Nat.le_refl _)) (Nat.ne_of_lt (Nat.lt_succ_self _));have I2:=Inv.made (C:=C) I;have r2:Vals (gV (V.ref (s.heap.objs.size+1)::vs) zs) (g (Value.ref (s.heap.objs.size+1)::us) ws):=hb.rel (.cons rfl r) rz;have hl:(g (Value.ref (s.heap.objs.size+1)::us) ws).length=ps.length:=by rw[<- r2.length];exact F.len _ _ _ _ hq
 refine wpAny_call (Bq (f:=f) I.kIn M.makes M.init (beq_iff_eq.mp M.fn) (codeAny_mono (F.run _ X.stack _ _ ⟨Value.ref (s.heap.objs.size+1)::us,ks.zip ws⟩ _ _ _ E (hr.make C us (ks.zip ws))
  (I2.env0.make C us (ks.zip ws)) (hb.to _ (Value.ref (s.heap.objs.size+1)::us) ws I2.kIn hl) r2 hq) λr s' hq'=>?_))
 cases r with
 |error e=>exact hx pins σ _ _ e s' I2 hq'
 |ok fl =>
  cases fl with
  |ret u =>
   obtain⟨v,H',I3,rv,ev,q3⟩:=I2.after hq';subst ev;exact⟨rv,⟨V.ref (s.heap.objs.size+1),H',I3,rfl,q3⟩⟩
  |next=>exact False.elim hq'
  |brk=>exact False.elim hq'
  |cont=>exact False.elim hq'
end
section
end
inductive D where
 |non|bl (b:Bool)|int (i:Int)|str (x:Str)|ty (n:String)
 |cls (c:Str)|scr (ns:List Int)|cell (k:Nat)
 |tup (ds:List D)|lst (ds:List D)
 |dct (ks:List Key) (vs:List D)|dtt (ks:List (List Key)) (vs:List D)
 |obj (c:Str) (ns:List Str) (vs:List D)
 |exc (c:Str)
inductive Ct where
 |lst (ds:List D)|dct (ks:List Key) (vs:List D)|dtt (ks:List (List Key)) (vs:List D)
 |ins (c:Str) (ns:List Str) (vs:List D)|draw
 |fdct (o:Obj) (ks:List Key) (vs:List D)|fdtt (o:Obj) (ks:List (List Key)) (vs:List D)
 |lam (k0:Nat) (x:Str) (ln cl:Nat) (q:Str)
def cK(ln cl:Nat)(c':Addr):Array Value:= #[rawInt ln,rawInt cl,.ref c']
def c7(c':Addr)(qual:Str):HO:= .ext λh=>h.CodeRec (.ref c') qual
def clsOf(K:Frag)(c:Str):Option Addr:=match nsIn K mainGlobals c with
 |some (some (.ref C))=>some C
 |_=>none
def fC(a C:Addr)(dx:Option Addr):HO:= .ext λh=>∃ox,h.get? a=some ox/\ox.cls= .ref C/\ox.dict=dx/\PySem.W.notCls ox=true
structure Wd where
 b:Nat->Option Addr
 F:Hp
variable{fl W':Wd}
structure Wd.le(W W':Wd):Prop where
 b:∀k a,W.b k=some a->W'.b k=some a
 F:cX W.F W'.F
theorem Wd.le.refl(W:Wd):W.le W:=⟨λ_ _ h=>h,λ_ _ h=>h⟩
theorem Wd.le.trans{W W'':Wd}(a:W.le W')(b:W'.le W''):W.le W'':=⟨λk x h=>b.b k x (a.b k x h),λk x h=>b.F k x (a.F k x h)⟩
abbrev Mu:=Nat->Option Ct
variable{μ μ':Mu}{Pm:Mu->Prop}
abbrev aj:=List (Option D)
variable{ρ ρb:aj}
def zR(μ:Mu)(k:Nat)(c:Ct):Mu:=λj=>if j=k then some c else μ j
def dD(μ:Mu)(k:Nat):Mu:=λj=>if j=k then none else μ j
theorem zF{k:Nat}{c:Ct}:zR μ k c k=some c:=if_pos rfl
theorem zq{k:Nat}{c:Ct}(h:j≠k):zR μ k c j=μ j:=if_neg h
theorem cM{k:Nat}{c c':Ct}:zR (zR μ k c) k c'=zR μ k c':=by funext j;unfold zR;split<;>rfl
theorem sD{k:Nat}{c:Ct}(h:μ k=none):dD (zR μ k c) k=μ:=by
 funext j;unfold zR dD;by_cases e:j=k
 .subst e;rw[if_pos rfl,h]
 .show(if j=k then none else if j=k then some c else μ j)=μ j;rw[if_neg e,if_neg e]
def MLe(μ μ':Mu):Prop:=∀k c,μ k=some c->μ' k=some c
theorem MLe.refl(μ:Mu):MLe μ μ:=λ_ _ h=>h
theorem MLe.zR{k:Nat}{c:Ct}(h:μ k=none):MLe μ (L2.zR μ k c):=λj d e=>by
 rw[zq (λz=>by subst z;rw[h] at e;cases e)];exact e
theorem iB{p:Addr}{o:HO}(h:H p=none):cX H (upd H p o):=λb u q=>by rw[zy (zP q h)];exact q
theorem Rd.sm{o:HO}(s:cX F F')(h:Rd F a o):Rd F' a o:=by
 rcases h with h|⟨u,h⟩
 .exact .inl (s _ _ h)
 .exact .inr ⟨u,s _ _ h⟩
theorem SqL.sm(s:cX F F')(h:SqL K F a xs):SqL K F' a xs:=h.imp (Rd.sm s) id
theorem SqT.sm(s:cX F F')(h:SqT K F a xs):SqT K F' a xs:=h.imp (Rd.sm s) id
def bz(c:Str):Bool:= !c.cps.contains 58
def bt(b z:Str):Str:=⟨b.cps++ #[58]++z.cps⟩
def XAt(K:Frag)(W:Wd)(lab:Str)(C:Addr)(dx:Option Addr):Prop:=(clsOf K lab=some C/\dx=none/\bz lab=true)\/∃b z d,lab=bt b z/\bz b=true/\clsOf K b=some C/\dx=some d/\W.F d=some (.xd [("name",.str z)])
theorem XAt.mono{W:Wd}{lab:Str}(h:W.le W')(x:XAt K W lab C dx):XAt K W' lab C dx:=x.imp id λ⟨b,z,d,e,c,k,f,g⟩=>⟨b,z,d,e,c,k,f,h.F _ _ g⟩
theorem mZ(b z:Str):bz (bt b z)=false:=by
 unfold bz bt;simp
theorem XAt.plain{W:Wd}{lab:Str}(x:XAt K W lab C dx)(h:bz lab=true):clsOf K lab=some C/\dx=none:=by
 rcases x with x|⟨b,z,d,e,_⟩
 .exact⟨x.1,x.2.1⟩
 .rw[e,mZ] at h;cases h
theorem sE{b b' z':Str}(h:bt b z=bt b' z')(hb:bz b=true)(hb':bz b'=true):b=b'/\z=z':=by
 have key:∀(l l' r r':List Nat),l++58::r=l'++58::r'->58∉l->58∉l'->l=l'/\r=r':=by
  intro l;induction l with
  |nil =>
   intro l' r r' e _ n';cases l' with
   |nil=>exact⟨rfl,(List.cons.inj e).2⟩
   |cons a l'=>exact absurd (by rw[<- (List.cons.inj e).1];exact List.mem_cons_self) n'
  |cons a l ih =>
   intro l' r r' e n n';cases l' with
   |nil=>exact absurd (by rw[(List.cons.inj e).1];exact List.mem_cons_self) n
   |cons a' l' =>
    obtain⟨e1,e2⟩:=List.cons.inj e;obtain⟨q1,q2⟩:=ih l' r r' e2 (λz=>n (List.mem_cons_of_mem _ z)) (λz=>n' (List.mem_cons_of_mem _ z));exact⟨by rw[e1,q1],q2⟩
 have e:=congrArg (λs:Str=>s.cps.toList) h;simp only[bt,Array.toList_append,List.append_assoc,List.cons_append,List.nil_append] at e;have n1:∀{c:Str},bz c=true->58∉c.cps.toList:=λ{c} q z=>by
  unfold bz at q;rw[Array.mem_toList_iff] at z;simp[z] at q
 obtain⟨q1,q2⟩:=key _ _ _ _ e (n1 hb) (n1 hb');cases b;cases z;cases b';cases z';exact⟨congrArg Str.mk (Array.toList_inj.mp q1),congrArg Str.mk (Array.toList_inj.mp q2)⟩
mutual
def Rep(K:Frag)(W:Wd):D->V->Prop
 | .non,v=>v= .non
 | .bl b,v=>v= .bl b
 | .int i,v=>v= .int i
 | .str x,v=>v= .str x
 | .ty n,v=>v= .ty n
 | .cls c,v=>∃C,clsOf K c=some C/\v= .ref C
 | .scr ns,v=>∃a,v= .ref a/\SqL K W.F a (ns.map V.int)
 | .cell k,v=>∃a,v= .ref a/\W.b k=some a
 | .tup ds,v=>∃a xs,v= .ref a/\SqT K W.F a xs/\zA K W ds xs
 | .lst ds,v=>∃a xs,v= .ref a/\W.F a=some (.lst xs)/\zA K W ds xs
 | .dct ks vs,v=>∃a xs,v= .ref a/\W.F a=some (.dK (ks.zip xs))/\ks.length=xs.length/\zA K W vs xs
 | .dtt ks vs,v=>∃a xs,v= .ref a/\W.F a=some (.dT (ks.zip xs))/\ks.length=xs.length/\zA K W vs xs
 | .obj c ns vs,v=>∃C a dx xs,clsOf K c=some C/\v= .ref a/\W.F a=some (.ins C dx (ns.zip xs))/\ns.length=xs.length/\zA K W vs xs
 | .exc c,v=>∃C a dx,v= .ref a/\W.F a=some (fC a C dx)/\XAt K W c C dx
def zA(K:Frag)(W:Wd):List D->List V->Prop
 | [],xs=>xs=[]
 |d::ds,xs=>∃x r,xs=x::r/\Rep K W d x/\zA K W ds r
end
section
variable{W:Wd}
mutual
theorem Rep.mono(h:W.le W'):∀{d:D} {x:V},Rep K W d x->Rep K W' d x
 | .non,_,r=>by unfold Rep at *; exact r
 | .bl _,_,r=>by unfold Rep at *; exact r
 | .int _,_,r=>by unfold Rep at *; exact r
 | .str _,_,r=>by unfold Rep at *; exact r
 | .ty _,_,r=>by unfold Rep at *; exact r
 | .cls _,_,r=>by unfold Rep at *; exact r
 | .scr _,_,r=>by unfold Rep at *; obtain⟨a,e,q⟩:=r;exact⟨a,e,q.sm h.F⟩
 | .cell _,_,r=>by unfold Rep at *; obtain⟨a,e,q⟩:=r;exact⟨a,e,h.b _ _ q⟩
 | .tup _,_,r=>by unfold Rep at *; obtain⟨a,xs,e,q,z⟩:=r;exact⟨a,xs,e,q.sm h.F,zA.mono h z⟩
 | .lst _,_,r=>by unfold Rep at *; obtain⟨a,xs,e,q,z⟩:=r;exact⟨a,xs,e,h.F _ _ q,zA.mono h z⟩
 | .dct _ _,_,r=>by unfold Rep at *; obtain⟨a,xs,e,q,l,z⟩:=r;exact⟨a,xs,e,h.F _ _ q,l,zA.mono h z⟩
 | .dtt _ _,_,r=>by unfold Rep at *; obtain⟨a,xs,e,q,l,z⟩:=r;exact⟨a,xs,e,h.F _ _ q,l,zA.mono h z⟩
 | .obj _ _ _,_,r=>by unfold Rep at *; obtain⟨C,a,dx,xs,hc,e,q,l,z⟩:=r;exact⟨C,a,dx,xs,hc,e,h.F _ _ q,l,zA.mono h z⟩
 | .exc _,_,r=>by unfold Rep at *; obtain⟨C,a,dx,e,q,x⟩:=r;exact⟨C,a,dx,e,h.F _ _ q,x.mono h⟩
theorem zA.mono(h:W.le W'):∀{ds:List D} {xs:List V},zA K W ds xs->zA K W' ds xs
 | [],_,r=>by unfold zA at *; exact r
 |_::_,_,r=>by unfold zA at *; obtain⟨x,t,e,q,z⟩:=r;exact⟨x,t,e,Rep.mono h q,zA.mono h z⟩
end
theorem zA.nil:zA K W [] []:=by unfold zA;rfl
theorem zA.cons{d:D}{ds:List D}{x:V}(a:Rep K W d x)(b:zA K W ds xs):zA K W (d::ds) (x::xs):=by unfold zA;exact⟨x,xs,rfl,a,b⟩
theorem zA.nil'(h:zA K W [] xs):xs=[]:=by unfold zA at h;exact h
theorem zA.uncons{d:D}{ds:List D}(h:zA K W (d::ds) xs):∃x r,xs=x::r/\Rep K W d x/\zA K W ds r:=by unfold zA at h;exact h
theorem zA.length:∀{ds:List D} {xs:List V},zA K W ds xs->xs.length=ds.length
 | [],_,h=>by rw[h.nil'];rfl
 |_::_,_,h=>by obtain⟨x,r,rfl,_,q⟩:=h.uncons;rw[List.length_cons,List.length_cons,q.length]
theorem zA.get:∀{ds:List D} {xs:List V} {i:Nat} {d:D},zA K W ds xs->ds[i]? = some d->∃x,xs[i]? = some x/\Rep K W d x
 | [],_,_,_,_,e=>by simp at e
 |_::_,_,0,_,h,e=>by obtain⟨x,r,rfl,q,_⟩:=h.uncons;simp at e;subst e;exact⟨x,rfl,q⟩
 |_::_,_,i+1,d,h,e=>by obtain⟨x,r,rfl,_,q⟩:=h.uncons;simpa using q.get (i:=i) (d:=d) (by simpa using e)
theorem zA.append:∀{ds es:List D} {xs ys:List V},zA K W ds xs->zA K W es ys->zA K W (ds++es) (xs++ys)
 | [],_,_,_,h,g=>by rw[h.nil'];exact g
 |_::_,_,_,_,h,g=>by obtain⟨x,r,rfl,q,z⟩:=h.uncons;exact .cons q (z.append g)
theorem zA.take:∀{ds:List D} {xs:List V} (n:Nat),zA K W ds xs->zA K W (ds.take n) (xs.take n)
 |_,_,0,_=>by simp[zA.nil]
 | [],_,_+1,h=>by rw[h.nil'];exact .nil
 |_::_,_,n+1,h=>by obtain⟨x,r,rfl,q,z⟩:=h.uncons;exact .cons q (z.take n)
theorem zA.drop:∀{ds:List D} {xs:List V} (n:Nat),zA K W ds xs->zA K W (ds.drop n) (xs.drop n)
 |_,_,0,h=>h
 | [],_,_+1,h=>by rw[h.nil'];exact .nil
 |_::_,_,n+1,h=>by obtain⟨x,r,rfl,q,z⟩:=h.uncons;exact z.drop n
theorem zA.ints:∀{ns:List Int} {xs:List V},zA K W (ns.map D.int) xs->xs=ns.map V.int
 | [],_,h=>h.nil'
 |_::_,_,h=>by obtain⟨x,r,rfl,q,z⟩:=h.uncons;unfold Rep at q;rw[q,z.ints];rfl
theorem zA.strs:∀{ns:List Str} {xs:List V},zA K W (ns.map D.str) xs->xs=ns.map V.str
 | [],_,h=>h.nil'
 |_::_,_,h=>by obtain⟨x,r,rfl,q,z⟩:=h.uncons;unfold Rep at q;rw[q,z.strs];rfl
theorem zA.bls:∀{ns:List Bool} {xs:List V},zA K W (ns.map D.bl) xs->xs=ns.map V.bl
 | [],_,h=>h.nil'
 |_::_,_,h=>by obtain⟨x,r,rfl,q,z⟩:=h.uncons;unfold Rep at q;rw[q,z.bls];rfl
theorem Rep.i{i:Int}:Rep K W (.int i) (.int i):=by unfold Rep;rfl
theorem Rep.s:Rep K W (.str x) (.str x):=by unfold Rep;rfl
theorem Rep.b{x:Bool}:Rep K W (.bl x) (.bl x):=by unfold Rep;rfl
theorem Rep.n:Rep K W .non .non:=by unfold Rep;rfl
theorem Rep.t{x:String}:Rep K W (.ty x) (.ty x):=by unfold Rep;rfl
theorem Rep.i'{i:Int}{x:V}(h:Rep K W (.int i) x):x= .int i:=by unfold Rep at h;exact h
theorem Rep.s'{i:Str}{x:V}(h:Rep K W (.str i) x):x= .str i:=by unfold Rep at h;exact h
theorem Rep.b'{i:Bool}{x:V}(h:Rep K W (.bl i) x):x= .bl i:=by unfold Rep at h;exact h
theorem Rep.n'{x:V}(h:Rep K W .non x):x= .non:=by unfold Rep at h;exact h
theorem Rep.cell'{k:Nat}{x:V}(h:Rep K W (.cell k) x):∃a,x= .ref a/\W.b k=some a:=by unfold Rep at h;exact h
theorem Rep.lst'{ds:List D}{x:V}(h:Rep K W (.lst ds) x):∃a xs,x= .ref a/\W.F a=some (.lst xs)/\zA K W ds xs:=by unfold Rep at h;exact h
theorem Rep.tup'{ds:List D}{x:V}(h:Rep K W (.tup ds) x):∃a xs,x= .ref a/\SqT K W.F a xs/\zA K W ds xs:=by unfold Rep at h;exact h
theorem Rep.lst{ds:List D}(h:W.F a=some (.lst xs))(r:zA K W ds xs):Rep K W (.lst ds) (.ref a):=by unfold Rep;exact⟨a,xs,rfl,h,r⟩
theorem Rep.tup{ds:List D}(h:SqT K W.F a xs)(r:zA K W ds xs):Rep K W (.tup ds) (.ref a):=by unfold Rep;exact⟨a,xs,rfl,h,r⟩
end
def Ctn(K:Frag)(W:Wd)(c:Ct)(o:Option HO):Prop:=match c with
 | .lst ds=>∃xs,o=some (.lst xs)/\zA K W ds xs
 | .dct ks vs=>∃xs,o=some (.dK (ks.zip xs))/\ks.length=xs.length/\zA K W vs xs
 | .dtt ks vs=>∃xs,o=some (.dT (ks.zip xs))/\ks.length=xs.length/\zA K W vs xs
 | .fdct ob ks vs=>∃xs,o=some (.frz ob (.dK (ks.zip xs)))/\ks.length=xs.length/\zA K W vs xs
 | .fdtt ob ks vs=>∃xs,o=some (.frz ob (.dT (ks.zip xs)))/\ks.length=xs.length/\zA K W vs xs
 | .ins c ns vs=>∃C dx xs,clsOf K c=some C/\o=some (.ins C dx (ns.zip xs))/\ns.length=xs.length/\zA K W vs xs
 | .draw=>∃(l:Addr) (ns:List Int) (i b c:Int),o=some (.lst [.ref l,.int i,.int b,.int c])/\W.F l=some (.lst (ns.map V.int))/\0<=i/\0<=b
 | .lam k0 x ln cl q=>∃(c P:Addr) (ps:Array Value),tabIn K x=some (c,P)/\W.b k0=some P/\o=some (.tbl ps)/\(ps= #[]\/∃c',ps=cK ln cl c'/\W.F c'=some (c7 c' q))
theorem Ctn.mono{W:Wd}{c:Ct}{o:Option HO}(h:W.le W')(r:Ctn K W c o):Ctn K W' c o:=by
 cases c with
 |lst ds=>obtain⟨xs,e,q⟩:=r;exact⟨xs,e,q.mono h⟩
 |dct ks vs=>obtain⟨xs,e,l,q⟩:=r;exact⟨xs,e,l,q.mono h⟩
 |dtt ks vs=>obtain⟨xs,e,l,q⟩:=r;exact⟨xs,e,l,q.mono h⟩
 |fdct ob ks vs=>obtain⟨xs,e,l,q⟩:=r;exact⟨xs,e,l,q.mono h⟩
 |fdtt ob ks vs=>obtain⟨xs,e,l,q⟩:=r;exact⟨xs,e,l,q.mono h⟩
 |ins C ns vs=>obtain⟨C',dx,xs,hc,e,l,q⟩:=r;exact⟨C',dx,xs,hc,e,l,q.mono h⟩
 |draw=>obtain⟨l,ns,i,b,c,e,q,z⟩:=r;exact⟨l,ns,i,b,c,e,h.F _ _ q,z⟩
 |lam k0 x ln cl q=>obtain⟨c,P,ps,e1,e2,e3,e4⟩:=r;exact⟨c,P,ps,e1,h.b _ _ e2,e3,e4.imp id λ⟨c',e5,e6⟩=>⟨c',e5,h.F _ _ e6⟩⟩
theorem Ctn.some{W:Wd}{c:Ct}{o:Option HO}(r:Ctn K W c o):∃u,o=some u:=by
 cases c with
 |lst ds=>obtain⟨xs,e,q⟩:=r;exact⟨_,e⟩
 |dct ks vs=>obtain⟨xs,e,l,q⟩:=r;exact⟨_,e⟩
 |dtt ks vs=>obtain⟨xs,e,l,q⟩:=r;exact⟨_,e⟩
 |fdct ob ks vs=>obtain⟨xs,e,l,q⟩:=r;exact⟨_,e⟩
 |fdtt ob ks vs=>obtain⟨xs,e,l,q⟩:=r;exact⟨_,e⟩
 |ins C ns vs=>obtain⟨C',dx,xs,hc,e,l,q⟩:=r;exact⟨_,e⟩
 |draw=>obtain⟨l,ns,i,b,c,e,q,z⟩:=r;exact⟨_,e⟩
 |lam k0 x ln cl q=>obtain⟨c,P,ps,e1,e2,e3,e4⟩:=r;exact⟨_,e3⟩
structure Rel(K:Frag)(fl:Wd)(W:Wd)(μ:Mu)(H:Hp):Prop where
 sub:cX W.F H
 fin:∃n,∀k,n<=k->W.b k=none
 cel:∀k c,μ k=some c->∃a,W.b k=some a/\W.F a=none/\Ctn K W c (H a)
 inj:∀k k' c c' a,μ k=some c->μ k'=some c'->W.b k=some a->W.b k'=some a->k=k'
 up:fl.le W
def au(K:Frag)(W:Wd)(ρ:aj)(σ:St):Prop:=ρ.length=σ.length/\∀(i:Nat) d,ρ[i]? = some (some d)->∃x,σ[i]? = some (some x)/\Rep K W d x
section
variable{W:Wd}
theorem Rel.floor{fl':Wd}(r:Rel K fl W μ H)(h:fl'.le W):Rel K fl' W μ H:=⟨r.sub,r.fin,r.cel,r.inj,h⟩
theorem au.mono(h:W.le W')(r:au K W ρ σ):au K W' ρ σ:=⟨r.1,λi d e=>by obtain⟨x,e',q⟩:=r.2 i d e;exact⟨x,e',q.mono h⟩⟩
theorem au.set{i:Nat}{d:D}{x:V}(r:au K W ρ σ)(q:Rep K W d x):au K W (ρ.set i (some d)) (σ.set i (some x)):=⟨by simp[r.1],λj d' e=>by
 by_cases hj:i=j
 .subst hj;by_cases hl:i < ρ.length
  .rw[List.getElem?_set_self hl] at e;cases e;exact⟨x,List.getElem?_set_self (r.1▸hl),q⟩
  .rw[List.getElem?_eq_none (by simp;omega)] at e;cases e
 .rw[List.getElem?_set_ne hj] at e;rw[List.getElem?_set_ne hj];exact r.2 j d' e⟩
theorem Rel.less(r:Rel K fl W μ' H)(h:MLe μ μ'):Rel K fl W μ H:=⟨r.sub,r.fin,λk c e=>r.cel k c (h k c e),λk k' c c' a e e'=>r.inj k k' c c' a (h _ _ e) (h _ _ e'),r.up⟩
theorem Rel.newF{p:Addr}{o:HO}(r:Rel K fl W μ H)(hp:H p=none):Rel K fl ⟨W.b,upd W.F p o⟩ μ (upd H p o)/\W.le ⟨W.b,upd W.F p o⟩:=by
 have hF:W.F p=none:=by
  cases e:W.F p with
  |none=>rfl
  |some u=>rw[r.sub _ _ e] at hp;cases hp
 have le:W.le ⟨W.b,upd W.F p o⟩:=⟨λ_ _ h=>h,iB hF⟩;refine⟨⟨λb u e=>?_,r.fin,λk c e=>?_,r.inj,r.up.trans le⟩,le⟩
 .by_cases hb:b=p
  .subst hb;have e':(upd W.F b o) b=some u:=e;rw[zB] at e' ⊢; exact e'
  .have e':(upd W.F p o) b=some u:=e;rw[zy hb] at e' ⊢; exact r.sub _ _ e'
 .obtain⟨a,e1,e2,q⟩:=r.cel k c e;obtain⟨u,eu⟩:=q.some;have ha:a≠p:=zP eu hp;exact⟨a,e1,by show upd W.F p o a=none;rw[zy ha];exact e2,by rw[zy ha];exact q.mono le⟩
theorem Rel.newC{p:Addr}{o:HO}{c:Ct}(r:Rel K fl W μ H)(hp:H p=none)(hc:Ctn K W c (some o)):∃(k:Nat) (W':Wd),μ k=none/\W.le W'/\Rel K fl W' (zR μ k c) (upd H p o)/\W'.b k=some p:=by
 obtain⟨n,hn⟩:=r.fin;have hF:W.F p=none:=by
  cases e:W.F p with
  |none=>rfl
  |some u=>rw[r.sub _ _ e] at hp;cases hp
 have hk:μ n=none:=by
  cases e:μ n with
  |none=>rfl
  |some c=>obtain⟨a,e1,_⟩:=r.cel n c e;rw[hn n (Nat.le_refl _)] at e1;cases e1
 have le:W.le ⟨λj=>if j=n then some p else W.b j,W.F⟩:=⟨λk a e=>by
  show(if k=n then some p else W.b k)=some a;rw[if_neg (λz=>by rw[z,hn n (Nat.le_refl _)] at e;cases e)];exact e,λ_ _ h=>h⟩
 refine⟨n,⟨λj=>if j=n then some p else W.b j,W.F⟩,hk,le,⟨λb u e=>?_,⟨n+1,λk hk=>?_⟩,λk c' e=>?_,λk k' c1 c2 a e e' q q'=>?_,r.up.trans le⟩,if_pos rfl⟩
 .have:b≠p:=λz=>by
   have e':W.F b=some u:=e;rw[z,hF] at e';cases e'
  rw[zy this];exact r.sub _ _ e
 .show(if k=n then some p else W.b k)=none;rw[if_neg (by omega)];exact hn k (by omega)
 .by_cases ek:k=n
  .subst ek;rw[zF] at e;cases e;exact⟨p,if_pos rfl,hF,by rw[zB];exact hc.mono le⟩
  .rw[zq ek] at e;obtain⟨a,e1,e2,q⟩:=r.cel k c' e;obtain⟨u,eu⟩:=q.some;have ha:a≠p:=zP eu hp;exact⟨a,by show(if k=n then some p else W.b k)=some a;rw[if_neg ek];exact e1,e2,by rw[zy ha];exact q.mono le⟩
 .have key:∀k c,zR μ n c k=some c->True:=λ_ _ _=>trivial
  have at':∀{j:Nat} {cj:Ct},zR μ n c j=some cj->j≠n->(∃a',W.b j=some a'/\a'≠p):=λ{j cj} ej hj=>by
   rw[zq hj] at ej;obtain⟨a',e1,e2,q⟩:=r.cel j cj ej;obtain⟨u,eu⟩:=q.some;exact⟨a',e1,zP eu hp⟩
  have q1:(if k=n then some p else W.b k)=some a:=q;have q2:(if k'=n then some p else W.b k')=some a:=q';by_cases ek:k=n
  .by_cases ek':k'=n
   .rw[ek,ek']
   .rw[if_pos ek] at q1;rw[if_neg ek'] at q2;obtain⟨a',f1,f2⟩:=at' e' ek';rw[f1] at q2;cases q1;cases q2;exact absurd rfl f2
  .by_cases ek':k'=n
   .rw[if_neg ek] at q1;rw[if_pos ek'] at q2;obtain⟨a',f1,f2⟩:=at' e ek;rw[f1] at q1;cases q2;cases q1;exact absurd rfl f2
   .rw[if_neg ek] at q1;rw[if_neg ek'] at q2;rw[zq ek] at e;rw[zq ek'] at e';exact r.inj k k' _ _ a e e' q1 q2
theorem Rel.setC{k:Nat}{c c':Ct}{o:HO}(r:Rel K fl W μ H)(hk:μ k=some c)(ha:W.b k=some a)(hc:Ctn K W c' (some o)):Rel K fl W (zR μ k c') (upd H a o):=by
 obtain⟨a',e1,e2,_⟩:=r.cel k c hk;rw[ha] at e1;cases e1;refine⟨λb u e=>?_,r.fin,λj d e=>?_,λj j' d d' x e e'=>?_,r.up⟩
 .rw[zy (λz=>by rw[z,e2] at e;cases e)];exact r.sub _ _ e
 .by_cases ek:j=k
  .subst ek;rw[zF] at e;cases e;exact⟨a,ha,e2,by rw[zB];exact hc⟩
  .rw[zq ek] at e;obtain⟨x,f1,f2,q⟩:=r.cel j d e;have hx:x≠a:=λz=>ek (r.inj j k _ _ a e hk (z▸f1) ha)
   exact⟨x,f1,f2,by rw[zy hx];exact q⟩
 .have g:∀{j d},zR μ k c' j=some d->∃d,μ j=some d:=λ{j d} e=>by
   by_cases ek:j=k
   .subst ek;exact⟨_,hk⟩
   .rw[zq ek] at e;exact⟨_,e⟩
  obtain⟨d1,f1⟩:=g e;obtain⟨d2,f2⟩:=g e';exact r.inj j j' _ _ x f1 f2
theorem Rel.freeze{k:Nat}{c:Ct}{o:HO}(r:Rel K fl W μ H)(hk:μ k=some c)(ha:W.b k=some a)(ho:H a=some o):Rel K fl ⟨W.b,upd W.F a o⟩ (dD μ k) H/\W.le ⟨W.b,upd W.F a o⟩:=by
 obtain⟨a',e1,e2,_⟩:=r.cel k c hk;rw[ha] at e1;cases e1;have le:W.le ⟨W.b,upd W.F a o⟩:=⟨λ_ _ h=>h,iB e2⟩;have g:∀{j d},dD μ k j=some d->j≠k/\μ j=some d:=λ{j d} e=>by
  unfold dD at e;by_cases ek:j=k
  .rw[if_pos ek] at e;cases e
  .rw[if_neg ek] at e;exact⟨ek,e⟩
 refine⟨⟨λb u e=>?_,r.fin,λj d e=>?_,λj j' d d' x e e'=>r.inj j j' _ _ x (g e).2 (g e').2,r.up.trans le⟩,le⟩
 .by_cases hb:b=a
  .subst hb;have e':(upd W.F b o) b=some u:=e;rw[zB] at e';cases e';exact ho
  .have e':(upd W.F a o) b=some u:=e;rw[zy hb] at e';exact r.sub _ _ e'
 .obtain⟨hj,ej⟩:=g e;obtain⟨x,f1,f2,q⟩:=r.cel j d ej;have hx:x≠a:=λz=>hj (r.inj j k _ _ a ej hk (z▸f1) ha)
  exact⟨x,f1,by show upd W.F a o x=none;rw[zy hx];exact f2,q.mono le⟩
end
abbrev DK:=D->Mu->Prop
variable{Q:DK}
abbrev DE:=aj->Mu->DK->Prop
variable{we wa wb wv wo:DE}
abbrev DT:=aj->Mu->(Bool->Mu->Prop)->Prop
variable{wc:DT}
abbrev DA:=aj->Mu->(List D->Mu->Prop)->Prop
variable{wk wA:DA}
structure cN where
 nx:aj->Mu->Prop
 rt:DK
 bk:aj->Mu->Prop:=λ_ _=>False
 ct:aj->Mu->Prop:=λ_ _=>False
variable{D':cN}
abbrev DS:=cN->aj->Mu->Prop
variable{u:DS}
abbrev DG:=D->aj->Mu->(aj->Mu->Prop)->Prop
variable{dg:DG}
abbrev DGs:=List D->aj->Mu->(aj->Mu->Prop)->Prop
abbrev DR2:=D->D->Mu->DK->Prop
abbrev DR1:=D->Mu->DK->Prop
abbrev DRs:=List D->Mu->DK->Prop
abbrev DO:=aj->Mu->(Option Int->Mu->Prop)->Prop
abbrev DI:=aj->Mu->(List D->(Mu->Prop)->Mu->Prop)->Prop
variable{di:DI}
abbrev DSp:=List D->Mu->DK->Prop
section
variable(K:Frag)(fl:Wd)
abbrev KV'(W:Wd)(Q:DK)(Q':VK):Prop:=∀W' d μ' x H',W.le W'->Rel K fl W' μ' H'->Rep K W' d x->Q d μ'->Q' x H'
class zV(t:TE)(w:DE):Prop where
 run:∀{W ρ μ σ H Q Q'},Rel K fl W μ H->au K W ρ σ->w ρ μ Q->KV' K fl W Q Q'->t σ H Q'
class bL(t:TT)(w:DT):Prop where
 run:∀{W ρ μ σ H} {Q:Bool->Mu->Prop} {Q':Bool->Hp->Prop},Rel K fl W μ H->au K W ρ σ->w ρ μ Q->(∀W' b μ' H',W.le W'->Rel K fl W' μ' H'->Q b μ'->Q' b H')->t σ H Q'
class aL(t:TA)(w:DA):Prop where
 run:∀{W ρ μ σ H} {Q:List D->Mu->Prop} {Q':List V->Hp->Prop},Rel K fl W μ H->au K W ρ σ->w ρ μ Q->(∀W' ds μ' xs H',W.le W'->Rel K fl W' μ' H'->zA K W' ds xs->Q ds μ'->Q' xs H')->t σ H Q'
structure dE(W:Wd)(D':cN)(D:Ends):Prop where
 nx:∀W' ρ μ σ H,W.le W'->Rel K fl W' μ H->au K W' ρ σ->D'.nx ρ μ->D.nx σ H
 bk:∀W' ρ μ σ H,W.le W'->Rel K fl W' μ H->au K W' ρ σ->D'.bk ρ μ->D.bk σ H
 ct:∀W' ρ μ σ H,W.le W'->Rel K fl W' μ H->au K W' ρ σ->D'.ct ρ μ->D.ct σ H
 rt:∀W' d μ x H,W.le W'->Rel K fl W' μ H->Rep K W' d x->D'.rt d μ->D.rt x H
class aV(t:TS)(w:DS):Prop where
 run:∀{W ρ μ σ H D' D},Rel K fl W μ H->au K W ρ σ->w D' ρ μ->dE K fl W D' D->t D σ H
class eT(g:TG)(dg:DG)(S:outParam (List Nat)):Prop where
 run:∀{W ρ μ σ H d x} {Q:aj->Mu->Prop} {Q':St->Hp->Prop},Rel K fl W μ H->au K W ρ σ->Rep K W d x->dg d ρ μ Q ->
  (∀W' ρ' μ' σ' H',W.le W'->Rel K fl W' μ' H'->au K W' ρ' σ'->σ'.length=σ.length->(∀i,i∉S->σ'[i]? = σ[i]?)->Q ρ' μ'->Q' σ' H')->g x σ H Q'
class jT(g:TGs)(dg:DGs)(S:outParam (List Nat)):Prop where
 run:∀{W ρ μ σ H ds xs} {Q:aj->Mu->Prop} {Q':St->Hp->Prop},Rel K fl W μ H->au K W ρ σ->zA K W ds xs->dg ds ρ μ Q ->
  (∀W' ρ' μ' σ' H',W.le W'->Rel K fl W' μ' H'->au K W' ρ' σ'->σ'.length=σ.length->(∀i,i∉S->σ'[i]? = σ[i]?)->Q ρ' μ'->Q' σ' H')->g xs σ H Q'
class aW(r:R2)(q:DR2):Prop where
 run:∀{W μ H d e x y Q Q'},Rel K fl W μ H->Rep K W d x->Rep K W e y->q d e μ Q->KV' K fl W Q Q'->r x y H Q'
class sF(r:V->Hp->VK->Prop)(q:DR1):Prop where
 run:∀{W μ H d x Q Q'},Rel K fl W μ H->Rep K W d x->q d μ Q->KV' K fl W Q Q'->r x H Q'
class bu(r:List V->Hp->VK->Prop)(q:DRs):Prop where
 run:∀{W μ H ds xs Q Q'},Rel K fl W μ H->zA K W ds xs->q ds μ Q->KV' K fl W Q Q'->r xs H Q'
class fD(t:TO)(w:DO):Prop where
 run:∀{W ρ μ σ H} {Q:Option Int->Mu->Prop} {Q':Option Int->Hp->Prop},Rel K fl W μ H->au K W ρ σ->w ρ μ Q->(∀W' b μ' H',W.le W'->Rel K fl W' μ' H'->Q b μ'->Q' b H')->t σ H Q'
def ItR(W:Wd)(J:It)(ds:List D)(Pm:Mu->Prop):Prop:=∀W1 μ H,W.le W1->Rel K fl W1 μ H->Pm μ->∀i:Nat,(∀d,ds[i]? = some d->J.go i H/\∀x H',J.yld i H x H'->∃W2,W1.le W2/\Rel K fl W2 μ H'/\Rep K W2 d x)/\(ds.length<=i->J.stop i H)
class iC(t:TI)(w:DI):Prop where
 run:∀{W ρ μ σ H} {Q:List D->(Mu->Prop)->Mu->Prop} {Q':It->Hp->Prop},Rel K fl W μ H->au K W ρ σ->w ρ μ Q->(∀W' J ds Pm μ' H',W.le W'->Rel K fl W' μ' H'->ItR K fl W' J ds Pm->Q ds Pm μ'->Q' J H')->t σ H Q'
end
variable{dsp:DSp}
def zc(i:Nat):DE:=λρ μ Q=>match ρ[i]? with
 |some (some d)=>Q d μ
 |_=>False
def dC(d:D):DE:=λ_ μ Q=>Q d μ
section
instance{i:Nat}:zV K fl (aB i) (zc i):=⟨λ{W ρ μ σ H Q Q'} r e h k=>by
 unfold zc at h;split at h
 .rename_i d hd;obtain⟨x,ex,q⟩:=e.2 i d hd;exact⟨x,ex,k W d μ x H (.refl W) r q h⟩
 .exact h.elim⟩
instance{i:Int}:zV K fl (tC (.int i)) (dC (.int i)):=⟨λ{W ρ μ σ H Q Q'} r e h k=>k W _ μ _ H (.refl W) r .i h⟩
instance{i:Str}:zV K fl (tC (.str i)) (dC (.str i)):=⟨λ{W ρ μ σ H Q Q'} r e h k=>k W _ μ _ H (.refl W) r .s h⟩
instance{i:Bool}:zV K fl (tC (.bl i)) (dC (.bl i)):=⟨λ{W ρ μ σ H Q Q'} r e h k=>k W _ μ _ H (.refl W) r .b h⟩
instance{i:String}:zV K fl (tC (.ty i)) (dC (.ty i)):=⟨λ{W ρ μ σ H Q Q'} r e h k=>k W _ μ _ H (.refl W) r .t h⟩
class iD(K:Frag)(c:Str)(C:Addr):Prop where
 at_:clsOf K c=some C
 cf:bz c=true:=by decide+kernel
end
def dOp(q:DR2)(wa wb:DE):DE:=λρ μ Q=>wa ρ μ λd μ1=>wb ρ μ1 λe μ2=>q d e μ2 Q
def dUn(q:DR1)(wa:DE):DE:=λρ μ Q=>wa ρ μ λd μ1=>q d μ1 Q
def zL(w:DE):DT:=λρ μ Q=>w ρ μ λd μ1=>match d with
 | .bl b=>Q b μ1
 |_=>False
def m5(t u:DT):DT:=λρ μ Q=>t ρ μ λc μ1=>if c=true then u ρ μ1 Q else Q false μ1
def dOr(t u:DT):DT:=λρ μ Q=>t ρ μ λc μ1=>if c=true then Q true μ1 else u ρ μ1 Q
def fF(t:DT):DT:=λρ μ Q=>t ρ μ λc μ1=>Q (!c) μ1
def m6(ta tb:DE):DE:=λρ μ Q=>zL ta ρ μ λc μ1=>if c=true then tb ρ μ1 Q else Q (.bl false) μ1
def I_(ta tb:DE):DE:=λρ μ Q=>zL ta ρ μ λc μ1=>if c=true then Q (.bl true) μ1 else tb ρ μ1 Q
def m7(ta:DE):DE:=λρ μ Q=>zL ta ρ μ λc μ1=>Q (.bl (!c)) μ1
def dIf(t:DT)(ta tb:DE):DE:=λρ μ Q=>t ρ μ λc μ1=>if c=true then ta ρ μ1 Q else tb ρ μ1 Q
def iE(q q':DR2)(wa wb wc:DE):DE:=λρ μ Q=>wa ρ μ λd μ1=>wb ρ μ1 λe μ2=>q d e μ2 λz μ3=>match z with
 | .bl k=>if k=true then wc ρ μ3 λf μ4=>q' e f μ4 Q else Q (.bl false) μ3
 |_=>False
section
variable{r r':R2}{q q':DR2}{tc:TE}{wc:DE}{t u:TT}{v w:DT}
instance[a:zV K fl ta wa][b:zV K fl tb wb][o:aW K fl r q]:zV K fl (tOp r ta tb) (dOp q wa wb):=⟨λr e h k =>
 a.run r e h λW1 d μ1 x H1 le1 r1 q1 h1=>b.run r1 (e.mono le1) h1 λW2 d' μ2 y H2 le2 r2 q2 h2=>o.run r2 (q1.mono le2) q2 h2 λW3 d3 μ3 z H3 le3 r3 q3 h3=>k W3 d3 μ3 z H3 (le1.trans (le2.trans le3)) r3 q3 h3⟩
instance{r:V->Hp->VK->Prop}{q:DR1}[a:zV K fl ta wa][o:sF K fl r q]:zV K fl (tUn r ta) (dUn q wa):=⟨λr e h k =>
 a.run r e h λW1 d μ1 x H1 le1 r1 q1 h1=>o.run r1 q1 h1 λW3 d3 μ3 z H3 le3 r3 q3 h3=>k W3 d3 μ3 z H3 (le1.trans le3) r3 q3 h3⟩
theorem jU[a:zV K fl ta wa]{W ρ μ σ H}{Q:Bool->Mu->Prop}{Q':Bool->Hp->Prop}(r:Rel K fl W μ H)(e:au K W ρ σ)(h:zL wa ρ μ Q)(k:∀W' b μ' H',W.le W'->Rel K fl W' μ' H'->Q b μ'->Q' b H'):ta σ H λx H'=>∃k,x= .bl k/\Q' k H' :=
 a.run r e h λW1 d μ1 x H1 le1 r1 q1 h1=>by
  cases d<;>first|exact h1.elim|skip
  rename_i b;exact⟨b,q1.b',k W1 b μ1 H1 le1 r1 h1⟩
instance[a:zV K fl ta wa]:bL K fl (ft ta) (zL wa):=⟨λr e h k=>jU r e h k⟩
instance[a:zV K fl ta wa]:bL K fl (tB ta) (zL wa):=⟨λr e h k=>jU r e h k⟩
instance[a:bL K fl t v][b:bL K fl u w]:bL K fl (lZ t u) (m5 v w):=⟨λr e h k=>a.run r e h λW1 c μ1 H1 le1 r1 h1=>by
 cases c with
 |true=>exact b.run r1 (e.mono le1) h1 λW2 c2 μ2 H2 le2 r2 h2=>k W2 c2 μ2 H2 (le1.trans le2) r2 h2
 |false=>exact k W1 false μ1 H1 le1 r1 h1⟩
instance[a:bL K fl t v][b:bL K fl u w]:bL K fl (tOr t u) (dOr v w):=⟨λr e h k=>a.run r e h λW1 c μ1 H1 le1 r1 h1=>by
 cases c with
 |false=>exact b.run r1 (e.mono le1) h1 λW2 c2 μ2 H2 le2 r2 h2=>k W2 c2 μ2 H2 (le1.trans le2) r2 h2
 |true=>exact k W1 true μ1 H1 le1 r1 h1⟩
instance[a:bL K fl t v]:bL K fl (l5 t) (fF v):=⟨λr e h k=>a.run r e h λW1 c μ1 H1 le1 r1 h1=>k W1 (!c) μ1 H1 le1 r1 h1⟩
instance[a:zV K fl ta wa][b:zV K fl tb wb]:zV K fl (l6 ta tb) (m6 wa wb):=⟨λr e h k=>jU r e h λW1 c μ1 H1 le1 r1 h1=>by
 cases c with
 |true=>exact b.run r1 (e.mono le1) h1 λW2 c2 μ2 x H2 le2 r2 q2 h2=>k W2 c2 μ2 x H2 (le1.trans le2) r2 q2 h2
 |false=>exact k W1 (.bl false) μ1 _ H1 le1 r1 .b h1⟩
instance[a:zV K fl ta wa]:zV K fl (l9 ta) (m7 wa):=⟨λr e h k=>jU r e h λW1 c μ1 H1 le1 r1 h1=>k W1 (.bl (!c)) μ1 _ H1 le1 r1 .b h1⟩
instance[c:bL K fl t v][a:zV K fl ta wa][b:zV K fl tb wb]:zV K fl (tIf t ta tb) (dIf v wa wb):=⟨λr e h k=>c.run r e h λW1 c μ1 H1 le1 r1 h1=>by
 cases c with
 |true=>exact a.run r1 (e.mono le1) h1 λW2 c2 μ2 x H2 le2 r2 q2 h2=>k W2 c2 μ2 x H2 (le1.trans le2) r2 q2 h2
 |false=>exact b.run r1 (e.mono le1) h1 λW2 c2 μ2 x H2 le2 r2 q2 h2=>k W2 c2 μ2 x H2 (le1.trans le2) r2 q2 h2⟩
instance[a:zV K fl ta wa][b:zV K fl tb wb][c:zV K fl tc wc][o:aW K fl r q][o':aW K fl r' q']:zV K fl (hW r r' ta tb tc) (iE q q' wa wb wc):=⟨λr e h k =>
 a.run r e h λW1 d μ1 x H1 le1 r1 q1 h1=>b.run r1 (e.mono le1) h1 λW2 d' μ2 y H2 le2 r2 q2 h2=>o.run r2 (q1.mono le2) q2 h2 λW3 d3 μ3 z H3 le3 r3 q3 h3=>by
  cases d3<;>first|exact h3.elim|skip
  rename_i kk;refine⟨kk,q3.b',?_⟩;cases kk with
  |false=>exact k W3 (.bl false) μ3 _ H3 (le1.trans (le2.trans le3)) r3 .b h3
  |true=>exact c.run r3 (e.mono (le1.trans (le2.trans le3))) h3 λW4 d4 μ4 x4 H4 le4 r4 q4 h4=>o'.run r4 (q2.mono (le3.trans le4)) q4 h4 λW5 d5 μ5 x5 H5 le5 r5 q5 h5=>k W5 d5 μ5 x5 H5 (le1.trans (le2.trans (le3.trans (le4.trans le5)))) r5 q5 h5⟩
end
def zm:DA:=λ_ μ Q=>Q [] μ
def za(wa:DE)(wr:DA):DA:=λρ μ Q=>wa ρ μ λd μ1=>wr ρ μ1 λds μ2=>Q (d::ds) μ2
def dTup(w:DA):DE:=λρ μ Q=>w ρ μ λds μ1=>ds.length<=sizeLine/\Q (.tup ds) μ1
def c8(w:DA):DE:=λρ μ Q=>w ρ μ λds μ1=>ds.length<=sizeLine/\Q (.lst ds) μ1
def dF(w:DA):DE:=λρ μ Q=>w ρ μ λds μ1=>ds.length<=sizeLine/\∀k,μ1 k=none->Q (.cell k) (zR μ1 k (.lst ds))
def m9(ks:List Int):DA:=λ_ μ Q=>Q (ks.map D.int) μ
def jV(t:TE):TE:=t
section
variable{t:TA}{w:DA}
instance:aL K fl bJ zm:=⟨λ{W ρ μ σ H Q Q'} r e h k=>k W [] μ [] H (.refl W) r .nil h⟩
instance[a:zV K fl ta wa][b:aL K fl t w]:aL K fl (cy ta t) (za wa w):=⟨λr e h k =>
 a.run r e h λW1 d μ1 x H1 le1 r1 q1 h1=>b.run r1 (e.mono le1) h1 λW2 ds μ2 xs H2 le2 r2 q2 h2=>k W2 (d::ds) μ2 (x::xs) H2 (le1.trans le2) r2 (.cons (q1.mono le2) q2) h2⟩
theorem zA.of_ints{W:Wd}:∀ns:List Int,zA K W (ns.map D.int) (ns.map V.int)
 | []=> .nil
 |_::r=> .cons .i (zA.of_ints r)
theorem zA.of_strs{W:Wd}:∀ns:List Str,zA K W (ns.map D.str) (ns.map V.str)
 | []=> .nil
 |_::r=> .cons .s (zA.of_strs r)
instance{ks:List Int}:aL K fl (mS ks) (m9 ks):=⟨λ{W ρ μ σ H Q Q'} r e h k=>k W _ μ _ H (.refl W) r (.of_ints ks) h⟩
instance[a:aL K fl t w]:zV K fl (mx t) (dTup w):=⟨λr e h k=>a.run r e h λW1 ds μ1 xs H1 le1 r1 q1 h1=>⟨by rw[q1.length];exact h1.1,λp hp=>by
 obtain⟨r2,le2⟩:=r1.newF (o:= .tup xs) hp;exact k _ _ _ _ _ (le1.trans le2) r2 (.tup (SqT.of zB) (q1.mono le2)) h1.2⟩⟩
instance[a:aL K fl t w]:zV K fl (jB t) (c8 w):=⟨λr e h k=>a.run r e h λW1 ds μ1 xs H1 le1 r1 q1 h1=>⟨by rw[q1.length];exact h1.1,λp hp=>by
 obtain⟨r2,le2⟩:=r1.newF (o:= .lst xs) hp;exact k _ _ _ _ _ (le1.trans le2) r2 (.lst zB (q1.mono le2)) h1.2⟩⟩
theorem sG{W W1:Wd}{μ1:Mu}{H1:Hp}{p:Addr}{ds:List D}{Q':VK}(le1:W.le W1)(r1:Rel K fl W1 μ1 H1)(q1:zA K W1 ds xs)(hp:H1 p=none)(k:KV' K fl W Q Q')(h:∀k,μ1 k=none->Q (.cell k) (zR μ1 k (.lst ds))):Q' (.ref p) (upd H1 p (.lst xs)):=by
 obtain⟨c,W2,hk,le2,r2,e2⟩:=r1.newC (o:= .lst xs) (c:= .lst ds) hp ⟨xs,rfl,q1⟩;exact k W2 (.cell c) _ _ _ (le1.trans le2) r2 (by unfold Rep;exact⟨p,rfl,e2⟩) (h c hk)
instance[a:aL K fl t w]:zV K fl (jV (jB t)) (dF w):=⟨λr e h k=>a.run r e h λW1 ds μ1 xs H1 le1 r1 q1 h1=>⟨by rw[q1.length];exact h1.1,λp hp=>sG le1 r1 q1 hp k h1.2⟩⟩
end
def ah:DS:=λD ρ μ=>D.nx ρ μ
def zJ(t u:DS):DS:=λD ρ μ=>t {D with nx:=u D} ρ μ
def Ja:DS:=λD ρ μ=>D.bk ρ μ
def Jb:DS:=λD ρ μ=>D.ct ρ μ
def ai(w:DE):DS:=λD ρ μ=>w ρ μ λ_ μ1=>D.nx ρ μ1
def ac(w:DE):DS:=λD ρ μ=>w ρ μ D.rt
def Jc:DS:=λD _ μ=>D.rt .non μ
def af(c:DT)(t u:DS):DS:=λD ρ μ=>c ρ μ λb μ1=>if b=true then t D ρ μ1 else u D ρ μ1
def bf:DS:=λ_ _ _=>False
def zu(i:Nat):DG:=λd ρ μ Q=>Q (ρ.set i (some d)) μ
def sH:DGs:=λds ρ μ Q=>ds=[]/\Q ρ μ
def gx(g:DG)(gs:DGs):DGs:=λds ρ μ Q=>match ds with
 |d::r=>g d ρ μ λρ' μ'=>gs r ρ' μ' Q
 | []=>False
def DB(n:Nat)(gs:DGs):DG:=λd ρ μ Q=>match d with
 | .tup ds=>ds.length=n/\gs ds ρ μ Q
 |_=>False
def ad(w:DE)(g:DG):DS:=λD ρ μ=>w ρ μ λd μ1=>g d ρ μ1 D.nx
def dPar(i j:Nat)(w:DA):DS:=λD ρ μ=>w ρ μ λds μ1=>match ds with
 | [d,e]=>D.nx ((ρ.set i (some d)).set j (some e)) μ1
 |_=>False
def Jd(i:Nat)(w:DE)(q:DR2):DS:=λD ρ μ=>zc i ρ μ λx _=>w ρ μ λy μ1=>q x y μ1 λz μ2=>D.nx (ρ.set i (some z)) μ2
def sI(i:Nat)(t:TS):TS:=t
theorem DC{sts:List Stmt}{t:TS}(i:Nat)(h:WSs X sts t):WSs X sts (sI i t):=h
theorem iF{e:Expr}{t:TE}(h:WE X e t):WE X e (jV t):=h
def eh(μ:Mu)(d:D)(Q:DK):Prop:=match d with
 | .cell k=>match μ k with
  |some (.lst ds)=>Q (.lst ds) (dD μ k)
  |some (.dct ks vs)=>Q (.dct ks vs) (dD μ k)
  |some (.dtt ks vs)=>Q (.dtt ks vs) (dD μ k)
  |some (.ins C ns vs)=>Q (.obj C ns vs) (dD μ k)
  |_=>False
 |_=>False
def m_(i:Nat)(w:DS):DS:=λD ρ μ=>match ρ[i]? with
 |some (some d)=>eh μ d λd' μ'=>w D (ρ.set i (some d')) μ'
 |_=>False
section
variable{t u:TS}{v w:DS}
theorem dE.mono{W:Wd}{D:Ends}(le:W.le W')(h:dE K fl W D' D):dE K fl W' D' D :=
 ⟨λW2 ρ μ σ H l=>h.nx W2 ρ μ σ H (le.trans l),λW2 ρ μ σ H l=>h.bk W2 ρ μ σ H (le.trans l),λW2 ρ μ σ H l=>h.ct W2 ρ μ σ H (le.trans l),λW2 ρ μ σ H l=>h.rt W2 ρ μ σ H (le.trans l)⟩
instance:aV K fl l_ ah:=⟨λ{W ρ μ σ H D' D} r e h k=>k.nx W ρ μ σ H (.refl W) r e h⟩
instance:aV K fl md bf:=⟨λr e h k=>h.elim⟩
instance[a:aV K fl t v][b:aV K fl u w]:aV K fl (dk t u) (zJ v w):=⟨λr e h k=>a.run r e h ⟨λW1 ρ1 μ1 σ1 H1 le1 r1 e1 h1=>b.run r1 e1 h1 (k.mono le1),k.bk,k.ct,k.rt⟩⟩
instance[a:zV K fl ta wa]:aV K fl (ma ta) (ai wa):=⟨λr e h k=>a.run r e h λW1 d μ1 x H1 le1 r1 q1 h1=>k.nx W1 _ μ1 _ H1 le1 r1 (e.mono le1) h1⟩
instance[a:zV K fl ta wa]:aV K fl (fo ta) (ac wa):=⟨λr e h k=>a.run r e h λW1 d μ1 x H1 le1 r1 q1 h1=>k.rt W1 d μ1 x H1 le1 r1 q1 h1⟩
instance{c:TT}[a:bL K fl c wc][x:aV K fl t v][y:aV K fl u w]:aV K fl (js c t u) (af wc v w):=⟨λr e h k=>a.run r e h λW1 b μ1 H1 le1 r1 h1=>by
 cases b with
 |true=>exact x.run r1 (e.mono le1) h1 (k.mono le1)
 |false=>exact y.run r1 (e.mono le1) h1 (k.mono le1)⟩
instance{i:Nat}:eT K fl (cx i) (zu i) [i]:=⟨λ{W ρ μ σ H d x Q Q'} r e q h k=>k W _ μ _ H (.refl W) r (e.set q) (by simp) (λj hj=>by rw[List.getElem?_set_ne (λz=>hj (by simp[z]))]) h⟩
instance:jT K fl mf sH []:=⟨λ{W ρ μ σ H ds xs Q Q'} r e q h k=>by obtain⟨rfl,h⟩:=h;exact⟨q.nil',k W _ μ _ H (.refl W) r e rfl (λ_ _=>rfl) h⟩⟩
instance{S':List Nat}{dgs:DGs}[a:eT K fl g dg S][b:jT K fl gs dgs S']:jT K fl (mh g gs) (gx dg dgs) (S++S'):=⟨λ{W ρ μ σ H ds xs Q Q'} r e q h k=>by
 cases ds with
 |nil=>exact h.elim
 |cons d ds =>
  obtain⟨x,xs,rfl,q1,q2⟩:=q.uncons;exact⟨x,xs,rfl,a.run r e q1 h λW1 ρ1 μ1 σ1 H1 le1 r1 e1 l1 s1 h1=>b.run r1 e1 (q2.mono le1) h1 λW2 ρ2 μ2 σ2 H2 le2 r2 e2 l2 s2 h2=>k W2 ρ2 μ2 σ2 H2 (le1.trans le2) r2 e2 (l2.trans l1) (λi hi=>by rw[s2 i (λz=>hi (List.mem_append_right _ z)),s1 i (λz=>hi (List.mem_append_left _ z))]) h2⟩⟩
instance[a:zV K fl ta wa][b:eT K fl g dg S]:aV K fl (bo ta g) (ad wa dg):=⟨λr e h k=>a.run r e h λW1 d μ1 x H1 le1 r1 q1 h1=>b.run r1 (e.mono le1) q1 h1 λW2 ρ2 μ2 σ2 H2 le2 r2 e2 _ _ h2=>k.nx W2 ρ2 μ2 σ2 H2 (le1.trans le2) r2 e2 h2⟩
theorem sJ{W:Wd}{d:D}{x:V}(r:Rel K fl W μ H)(q:Rep K W d x)(h:eh μ d Q):∃W' d' μ',W.le W'/\Rel K fl W' μ' H/\Rep K W' d' x/\Q d' μ':=by
 unfold eh at h;split at h
 .rename_i k;obtain⟨a,rfl,hb⟩:=q.cell';split at h
  .rename_i ds hk;obtain⟨a',e1,e2,xs,e3,q3⟩:=r.cel k _ hk;rw[hb] at e1;cases e1;obtain⟨r2,le2⟩:=r.freeze hk hb e3;exact⟨_,_,_,le2,r2,.lst zB (q3.mono le2),h⟩
  .rename_i ks vs hk;obtain⟨a',e1,e2,xs,e3,l3,q3⟩:=r.cel k _ hk;rw[hb] at e1;cases e1;obtain⟨r2,le2⟩:=r.freeze hk hb e3;exact⟨_,_,_,le2,r2,by unfold Rep;exact⟨a,xs,rfl,zB,l3,q3.mono le2⟩,h⟩
  .rename_i ks vs hk;obtain⟨a',e1,e2,xs,e3,l3,q3⟩:=r.cel k _ hk;rw[hb] at e1;cases e1;obtain⟨r2,le2⟩:=r.freeze hk hb e3;exact⟨_,_,_,le2,r2,by unfold Rep;exact⟨a,xs,rfl,zB,l3,q3.mono le2⟩,h⟩
  .rename_i C ns vs hk;obtain⟨a',e1,e2,C',dx,xs,hc,e3,l3,q3⟩:=r.cel k _ hk;rw[hb] at e1;cases e1;obtain⟨r2,le2⟩:=r.freeze hk hb e3;exact⟨_,_,_,le2,r2,by unfold Rep;exact⟨C',a,dx,xs,hc,rfl,zB,l3,q3.mono le2⟩,h⟩
  .exact h.elim
 .exact h.elim
theorem au.set_left{W:Wd}{i:Nat}{d:D}{x:V}(r:au K W ρ σ)(hx:σ[i]? = some (some x))(q:Rep K W d x):au K W (ρ.set i (some d)) σ:=⟨by simp[r.1],λj d' e=>by
 by_cases hj:i=j
 .subst hj;by_cases hl:i < ρ.length
  .rw[List.getElem?_set_self hl] at e;cases e;exact⟨x,hx,q⟩
  .rw[List.getElem?_eq_none (by simp;omega)] at e;cases e
 .rw[List.getElem?_set_ne hj] at e;exact r.2 j d' e⟩
instance{i:Nat}[a:aV K fl t v]:aV K fl (sI i t) (m_ i v):=⟨λ{W ρ μ σ H D' D} r e h k=>by
 unfold m_ at h;split at h
 .rename_i d hd;obtain⟨x,ex,qx⟩:=e.2 i d hd;obtain⟨W',d',μ',le,r',q',h'⟩:=sJ r qx h;exact a.run r' ((e.mono le).set_left ex q') h' (k.mono le)
 .exact h.elim⟩
end
def fG(g:DG)(wb:DS)(D:cN)(Pm:Mu->Prop):List L2.D->aj->Mu->Prop
 | [],ρ,μ=>Pm μ/\D.nx ρ μ
 |d::r,ρ,μ=>Pm μ/\g d ρ μ λρ2 μ2=>wb {D with nx:=fG g wb D Pm r,ct:=fG g wb D Pm r,bk:=D.nx} ρ2 μ2
def cw(wi:DI)(g:DG)(wb:DS):DS:=λD ρ μ=>wi ρ μ λds Pm μ1=>fG g wb D Pm ds ρ μ1
section
variable{tb:TS}{wb:DS}
instance[a:iC K fl wi di][b:eT K fl g dg S][c:aV K fl tb wb]:aV K fl (mj wi g tb) (cw di dg wb):=⟨λ{W ρ μ σ H D' D} r e h k =>
 a.run r e h λW1 J ds Pm μ1 H1 le1 r1 it1 h1=>by
  refine⟨λi m σ H=>∃W2 ρ2 μ2,W1.le W2/\Rel K fl W2 μ2 H/\au K W2 ρ2 σ/\m=ds.length - i/\fG dg wb D' Pm (ds.drop i) ρ2 μ2,⟨_,W1,ρ,μ1,.refl _,r1,e.mono le1,rfl,h1⟩,?_⟩;rintro i m σ2 H2 ⟨W2,ρ2,μ2,le2,r2,e2,rfl,h2⟩;have hPm:Pm μ2:=by
   cases hdr:ds.drop i with
   |nil=>rw[hdr] at h2;exact h2.1
   |cons _ _=>rw[hdr] at h2;exact h2.1
  obtain⟨go,stop⟩:=it1 W2 μ2 H2 le2 r2 hPm i;by_cases hi:i < ds.length
  .refine .inr ?_;have hd:ds[i]? = some ds[i]:=List.getElem?_eq_getElem hi;obtain⟨g1,g2⟩:=go _ hd;rw[List.drop_eq_getElem_cons hi] at h2;obtain⟨_,h2⟩:=h2;refine⟨g1,λσ' H'=>∃W3 ρ3 μ3,W1.le W3/\Rel K fl W3 μ3 H'/\au K W3 ρ3 σ'/\fG dg wb D' Pm (ds.drop (i+1)) ρ3 μ3,λσ' H' ⟨W3,ρ3,μ3,l3,r3,e3,h3⟩=>⟨ds.length - (i+1),by omega,W3,ρ3,μ3,l3,r3,e3,rfl,h3⟩,λx H' y=>?_⟩;obtain⟨W3,le3,r3,q3⟩:=g2 x H' y;refine b.run r3 (e2.mono le3) q3 h2 λW4 ρ4 μ4 σ4 H4 le4 r4 e4 _ _ h4=>c.run r4 e4 h4 ⟨λW5 ρ5 μ5 σ5 H5 le5 r5 e5 h5=>?_,λW5 ρ5 μ5 σ5 H5 le5 r5 e5 h5=>?_,λW5 ρ5 μ5 σ5 H5 le5 r5 e5 h5=>?_,λW5 d5 μ5 x5 H5 le5 r5 e5 h5=>?_⟩
   .exact⟨W5,ρ5,μ5,le2.trans (le3.trans (le4.trans le5)),r5,e5,h5⟩
   .exact k.nx W5 ρ5 μ5 σ5 H5 (le1.trans (le2.trans (le3.trans (le4.trans le5)))) r5 e5 h5
   .exact⟨W5,ρ5,μ5,le2.trans (le3.trans (le4.trans le5)),r5,e5,h5⟩
   .exact k.rt W5 d5 μ5 x5 H5 (le1.trans (le2.trans (le3.trans (le4.trans le5)))) r5 e5 h5
  .rw[List.drop_eq_nil_of_le (by omega)] at h2;exact .inl ⟨stop (by omega),k.nx W2 ρ2 μ2 σ2 H2 (le1.trans le2) r2 e2 h2.2⟩⟩
end
def eU(ρ:aj)(fr:List Nat):aj:=fr.map λj=>(ρ[j]?).join
def bR(g:DG)(wc:DT)(we:DE)(ρb:aj)(Pm:Mu->Prop)(Fin:List D->Mu->Prop):List D->List D->Mu->Prop
 | [],ys,μ=>Pm μ/\Fin ys μ
 |d::r,ys,μ=>Pm μ/\ys.length < sizeLine/\g d ρb μ λρ2 μ2=>wc ρ2 μ2 λb μ3=>if b=true then we ρ2 μ3 λv μ4=>bR g wc we ρb Pm Fin r (ys++[v]) μ4 else bR g wc we ρb Pm Fin r ys μ3
def bA:DT:=λ_ μ Q=>Q true μ
instance:bL K fl mQ bA:=⟨λ{W ρ μ σ H Q Q'} r e h k=>k W _ μ H (.refl W) r h⟩
def aQ(own:List Str)(fr:List Nat)(S:List Nat)(wi:DI)(g:DG)(wc:DT)(we:DE):DE:=λρ μ Q=>(S.all λi=>decide (i < own.length))=true/\wi ρ μ λds Pm μ1 =>
 bR g wc we (List.replicate own.length none++eU ρ fr) Pm (λys μ2=>Q (.lst ys) μ2) ds [] μ1
def jW(own:List Str)(fr:List Nat)(S:List Nat)(wi:DI)(g:DG)(wc:DT)(we:DE):DE:=λρ μ Q=>(S.all λi=>decide (i < own.length))=true/\wi ρ μ λds Pm μ1 =>
 bR g wc we (List.replicate own.length none++eU ρ fr) Pm (λys μ2=>∀k,μ2 k=none->Q (.cell k) (zR μ2 k (.lst ys))) ds [] μ1
section
theorem au.comp{W:Wd}(e:au K W ρ σ)(own:List Str)(fr:List Nat):au K W (List.replicate own.length none++eU ρ fr) (own.map (λ_=>none)++cY σ fr):=by
 refine⟨by simp[eU,cY],λi d h=>?_⟩;by_cases hi:i < own.length
 .rw[List.getElem?_append_left (by simp;exact hi),List.getElem?_replicate] at h;rw[if_pos hi] at h;cases h
 .rw[List.getElem?_append_right (by simp;omega)] at h;rw[List.getElem?_append_right (by simp;omega)];simp only[List.length_replicate,eU,List.getElem?_map] at h;simp only[List.length_map,cY,List.getElem?_map];cases hj:fr[i - own.length]? with
  |none=>rw[hj] at h;cases h
  |some j =>
   rw[hj] at h;simp only[Option.map_some,Option.some.injEq] at h ⊢;cases hd:ρ[j]? with
   |none=>rw[hd] at h;cases h
   |some o =>
    rw[hd] at h;obtain⟨x,hx,q⟩:=e.2 j d (by rw[hd];simpa using h);exact⟨x,by rw[hx];rfl,q⟩
theorem sK(own:List Str)(fr:List Nat)[b:eT K fl g dg S][c:bL K fl tc wc][v:zV K fl te we]{W1:Wd}{μ1:Mu}{H1:Hp}{J:It}{ds:List D}{Fin:List D->Mu->Prop}{Fin':List V->Hp->Prop}(e:au K W1 ρ σ)(r1:Rel K fl W1 μ1 H1)(it1:ItR K fl W1 J ds Pm)
  (hS:(S.all λi=>decide (i < own.length))=true)(h:bR dg wc we (List.replicate own.length none++eU ρ fr) Pm Fin ds [] μ1)
  (hF:∀W2 ys μ2 xs H2,W1.le W2->Rel K fl W2 μ2 H2->zA K W2 ys xs->Fin ys μ2->Fin' xs H2) :
  ∃W:Nat->Nat->List V->Hp->Prop,(∃m,W 0 m [] H1)/\mR J g tc te (own.map (λ_=>none)++cY σ fr) Fin' W:=by
 refine⟨λi m xs H=>∃W2 ys μ2,W1.le W2/\Rel K fl W2 μ2 H/\zA K W2 ys xs/\m=ds.length - i/\bR dg wc we (List.replicate own.length none++eU ρ fr) Pm Fin (ds.drop i) ys μ2,⟨_,W1,[],μ1,.refl _,r1,.nil,rfl,h⟩,?_⟩;rintro i m xs H2 ⟨W2,ys,μ2,le2,r2,q2,rfl,h2⟩;have hPm:Pm μ2:=by
  cases hdr:ds.drop i with
  |nil=>rw[hdr] at h2;exact h2.1
  |cons _ _=>rw[hdr] at h2;exact h2.1
 obtain⟨go,stop⟩:=it1 W2 μ2 H2 le2 r2 hPm i;by_cases hi:i < ds.length
 .refine .inr ?_;have hd:ds[i]? = some ds[i]:=List.getElem?_eq_getElem hi;obtain⟨g1,g2⟩:=go _ hd;rw[List.drop_eq_getElem_cons hi] at h2;obtain⟨_,hz,h2⟩:=h2;refine⟨g1,by rw[q2.length];exact hz,λxs' H'=>∃W3 ys3 μ3,W1.le W3/\Rel K fl W3 μ3 H'/\zA K W3 ys3 xs'/\bR dg wc we (List.replicate own.length none++eU ρ fr) Pm Fin (ds.drop (i+1)) ys3 μ3,λxs' H' ⟨W3,ρ3,μ3,l3,r3,e3,h3⟩=>⟨ds.length - (i+1),by omega,W3,ρ3,μ3,l3,r3,e3,rfl,h3⟩,λx H' y=>?_⟩;obtain⟨W3,le3,r3,q3⟩:=g2 x H' y;refine b.run r3 (((e.comp own fr).mono le2).mono le3) q3 h2 λW4 ρ4 μ4 σ4 H4 le4 r4 e4 l4 s4 h4=>⟨⟨l4.symm,λj v hj=>?_⟩,?_⟩
  .by_cases hjS:j∈S
   .have:j < own.length:=of_decide_eq_true (List.all_eq_true.mp hS j hjS);rw[List.getElem?_append_left (by simp;exact this),List.getElem?_map,List.getElem?_eq_getElem this] at hj;cases hj
   .rw[s4 j hjS];exact hj
  .refine c.run r4 e4 h4 λW5 bb μ5 H5 le5 r5 h5=>?_
   cases bb with
   |true=>exact v.run r5 (e4.mono le5) h5 λW6 d6 μ6 x6 H6 le6 r6 q6 h6=>⟨W6,_,μ6,le2.trans (le3.trans (le4.trans (le5.trans le6))),r6,(q2.mono (le3.trans (le4.trans (le5.trans le6)))).append (.cons q6 .nil),h6⟩
   |false=>exact⟨W5,ys,μ5,le2.trans (le3.trans (le4.trans le5)),r5,q2.mono (le3.trans (le4.trans le5)),h5⟩
 .rw[List.drop_eq_nil_of_le (by omega)] at h2;exact .inl ⟨stop (by omega),hF W2 ys μ2 xs H2 le2 r2 q2 h2.2⟩
instance{own:List Str}[a:iC K fl wi di][b:eT K fl g dg S][c:bL K fl tc wc][v:zV K fl te we]:zV K fl (gn own fr wi g tc te) (aQ own fr S di dg wc we):=⟨λ{W ρ μ σ H Q Q'} r e h k =>
 a.run r e h.2 λW1 J ds Pm μ1 H1 le1 r1 it1 h1=>sK own fr (e.mono le1) r1 it1 h.1 h1 λW2 ys μ2 xs H2 le2 r2 q2 h2 p hp=>by
  obtain⟨r3,le3⟩:=r2.newF (o:= .lst xs) hp;exact k _ _ _ _ _ (le1.trans (le2.trans le3)) r3 (.lst zB (q2.mono le3)) h2⟩
instance{own:List Str}[a:iC K fl wi di][b:eT K fl g dg S][c:bL K fl tc wc][v:zV K fl te we]:zV K fl (jV (gn own fr wi g tc te)) (jW own fr S di dg wc we):=⟨λ{W ρ μ σ H Q Q'} r e h k =>
 a.run r e h.2 λW1 J ds Pm μ1 H1 le1 r1 it1 h1=>sK own fr (e.mono le1) r1 it1 h.1 h1 λW2 ys μ2 xs H2 le2 r2 q2 h2 p hp=>sG (le1.trans le2) r2 q2 hp k h2⟩
end
def lift(K:Frag)(dsp:DSp):Sp:=λvs H Q _=>∃fl W μ ds Q0,Rel K fl W μ H/\zA K W ds vs/\dsp ds μ Q0/\KV' K fl W Q0 Q
def dCall(dsp:DSp)(w:DA):DE:=λρ μ Q=>w ρ μ λds μ1=>dsp ds μ1 Q
instance{E:XK}{t:TA}{w:DA}[a:aL K fl t w]:zV K fl (ia (lift K dsp) [] E t) (dCall dsp w):=⟨λ{W ρ μ σ H Q Q'} r e h k =>
 a.run r e h λW1 ds μ1 xs H1 le1 r1 q1 h1=>⟨fl,W1,μ1,ds,Q,r1,by rw[List.append_nil];exact q1,h1,λW2 d μ2 x H2 le2=>k W2 d μ2 x H2 (le1.trans le2)⟩⟩
def iG(N:List Str)(ds:List D):aj:=ds.map some++List.replicate (N.length - ds.length) none
theorem au.start{W:Wd}{ds:List D}{vs:List V}(h:zA K W ds vs):au K W (iG N ds) (start N vs):=by
 refine⟨by simp[iG,rG,h.length],λi d e=>?_⟩;unfold iG at e;rw[rG];by_cases hi:i < ds.length
 .rw[List.getElem?_append_left (by simp;exact hi),List.getElem?_map,List.getElem?_eq_getElem hi] at e;simp only[Option.map_some,Option.some.injEq] at e;obtain⟨x,hx,q⟩:=h.get (i:=i) (d:=d) (by rw[List.getElem?_eq_getElem hi,e]);exact⟨x,by rw[List.getElem?_append_left (by simp[h.length];exact hi),List.getElem?_map,hx];rfl,q⟩
 .rw[List.getElem?_append_right (by simp;omega),List.getElem?_replicate] at e;split at e<;>cases e
section
end
section
end
def am(μ:Mu):D->Option (List D)
 | .lst ds=>some ds
 | .cell k=>match μ k with
  |some (.lst ds)=>some ds
  |_=>none
 |_=>none
def aY(μ:Mu):D->Option (List D)
 | .tup ds=>some ds
 |d=>am μ d
section
variable{W:Wd}{d:D}{x:V}{ds:List D}
theorem cO(r:Rel K fl W μ H)(q:Rep K W d x)(h:am μ d=some ds):∃a xs,x= .ref a/\H a=some (.lst xs)/\zA K W ds xs:=by
 unfold am at h;split at h
 .cases h;obtain⟨a,xs,rfl,e,z⟩:=q.lst';exact⟨a,xs,rfl,r.sub _ _ e,z⟩
 .rename_i k;obtain⟨a,rfl,hb⟩:=q.cell';split at h
  .rename_i ds' hk;cases h;obtain⟨a',e1,e2,xs,e3,q3⟩:=r.cel k _ hk;rw[hb] at e1;cases e1;exact⟨a,xs,rfl,e3,q3⟩
  .cases h
 .cases h
theorem fH(r:Rel K fl W μ H)(q:Rep K W d x)(h:aY μ d=some ds):∃a xs,x= .ref a/\(SqL K H a xs\/SqT K H a xs)/\zA K W ds xs:=by
 unfold aY at h;split at h
 .cases h;obtain⟨a,xs,rfl,e,z⟩:=q.tup';exact⟨a,xs,rfl,.inr (e.sm r.sub),z⟩
 .obtain⟨a,xs,rfl,e,z⟩:=cO r q h;exact⟨a,xs,rfl,.inl (SqL.of e),z⟩
end
section
end
def DD:R2:=λx y H Q=>∃i j,x= .str i/\y= .str j/\i.length+j.length<=sizeLine/\Q (.str (i++j)) H
def DF:R2:=rI0 λi j=> .int (i+j)
def sL(K:Frag):R2:=λx y H Q=>DF x y H Q\/DD x y H Q\/qZ x y H Q\/qO K x y H Q
theorem bG(K:Frag)(h:X.K=K:=by rfl):OpR X (binaryOp .Add) (sL K):=h▸jy.or (Bl.or (Ca.or BU))
def aM:DR2:=λd e μ Q=>match d,e with
 | .int i,.int j=>Q (.int (i+j)) μ
 | .str a,.str b=>a.length+b.length<=sizeLine/\Q (.str (a++b)) μ
 | .tup a,.tup b=>a≠[]/\a.length+b.length<=sizeLine/\Q (.tup (a++b)) μ
 |d,e=>∃a b,am μ d=some a/\am μ e=some b/\a.length+b.length<=sizeLine/\Q (.lst (a++b)) μ
instance:aW K fl (sL K) aM:=⟨λ{W μ H d e x y Q Q'} r q1 q2 h k=>by
 unfold aM at h;split at h
 .rw[q1.i',q2.i'];exact .inl ⟨_,_,rfl,rfl,k _ _ _ _ _ (.refl _) r .i h⟩
 .rw[q1.s',q2.s'];exact .inr (.inl ⟨_,_,rfl,rfl,h.1,k _ _ _ _ _ (.refl _) r .s h.2⟩)
 .rename_i a b;obtain⟨p,xs,rfl,s1,z1⟩:=q1.tup';obtain⟨p',ys,rfl,s2,z2⟩:=q2.tup';obtain⟨hn,hz,h⟩:=h;refine .inr (.inr (.inr ⟨p,p',xs,ys,rfl,rfl,s1.sm r.sub,s2.sm r.sub,λz=>?_,by rw[z1.length,z2.length];exact hz,λz=>?_,λ_ q hq=>?_⟩))
  .have:=z1.length;rw[z] at this;exact hn (List.length_eq_zero_iff.mp this.symm)
  .have:=z2.length;rw[z] at this;have e:b=[]:=List.length_eq_zero_iff.mp this.symm;subst e;rw[List.append_nil] at h;exact k _ _ _ _ _ (.refl _) r q1 h
  .obtain⟨r2,le2⟩:=r.newF (o:= .tup (xs++ys)) hq;exact k _ _ _ _ _ le2 r2 (.tup (SqT.of zB) ((z1.mono le2).append (z2.mono le2))) h
 .obtain⟨a,b,e1,e2,hz,h⟩:=h;obtain⟨p,xs,rfl,s1,z1⟩:=cO r q1 e1;obtain⟨p',ys,rfl,s2,z2⟩:=cO r q2 e2;refine .inr (.inr (.inl ⟨p,p',xs,ys,rfl,rfl,s1,s2,by rw[z1.length,z2.length];exact hz,λq hq=>?_⟩));obtain⟨r2,le2⟩:=r.newF (o:= .lst (xs++ys)) hq;exact k _ _ _ _ _ le2 r2 (.lst zB ((z1.mono le2).append (z2.mono le2))) h⟩
def dI(C:Int->Int->Prop)(g:Int->Int->D):DR2:=λd e μ Q=>match d,e with
 | .int i,.int j=>C i j/\Q (g i j) μ
 |_,_=>False
def dI0(g:Int->Int->D):DR2:=λd e μ Q=>match d,e with
 | .int i,.int j=>Q (g i j) μ
 |_,_=>False
section
theorem sM{C:Int->Int->Prop}{g:Int->Int->V}{g':Int->Int->D}(hg:∀W i j,Rep K W (g' i j) (g i j)):aW K fl (rI C g) (dI C g'):=⟨λ{W μ H d e x y Q Q'} r q1 q2 h k=>by
 unfold dI at h;split at h
 .rw[q1.i',q2.i'];exact⟨_,_,rfl,rfl,h.1,k _ _ _ _ _ (.refl _) r (hg _ _ _) h.2⟩
 .exact h.elim⟩
theorem iH{g:Int->Int->V}{g':Int->Int->D}(hg:∀W i j,Rep K W (g' i j) (g i j)):aW K fl (rI0 g) (dI0 g'):=⟨λ{W μ H d e x y Q Q'} r q1 q2 h k=>by
 unfold dI0 at h;split at h
 .rw[q1.i',q2.i'];exact⟨_,_,rfl,rfl,k _ _ _ _ _ (.refl _) r (hg _ _ _) h⟩
 .exact h.elim⟩
end
def gy:DR2:=dI0 λi j=> .int (i - j)
def nc:DR2:=dI fz λi j=> .int (i / j)
def nh:DR2:=dI (λ_ j=>0 < j) λi j=> .int (i % j)
def Je:DR2:=dI jx λi j=> .int (i^j.toNat)
def dLt:DR2:=dI0 λi j=> .bl (decide (i < j))
def dLe:DR2:=dI0 λi j=> .bl (decide (i<=j))
def dGt:DR2:=dI0 λi j=> .bl (decide (j < i))
def dGe:DR2:=dI0 λi j=> .bl (decide (j<=i))
def ca:DR1:=λd μ Q=>match d with
 | .int i=>Q (.int (-i)) μ
 |_=>False
section
instance:aW K fl (rI0 λi j=> .int (i - j)) gy:=iH λ_ _ _=> .i
instance:aW K fl (rI fz λi j=> .int (i / j)) nc:=sM λ_ _ _=> .i
instance:aW K fl (rI (λ_ j=>0 < j) λi j=> .int (i % j)) nh:=sM λ_ _ _=> .i
instance:aW K fl (rI0 λi j=> .bl (decide (i < j))) dLt:=iH λ_ _ _=> .b
instance:aW K fl (rI0 λi j=> .bl (decide (i<=j))) dLe:=iH λ_ _ _=> .b
instance:aW K fl (rI0 λi j=> .bl (decide (j < i))) dGt:=iH λ_ _ _=> .b
instance:aW K fl (rI0 λi j=> .bl (decide (j<=i))) dGe:=iH λ_ _ _=> .b
instance:sF K fl (rU λi=> .int (-i)) ca:=⟨λ{W μ H d x Q Q'} r q h k=>by
 unfold ca at h;split at h
 .rw[q.i'];exact⟨_,rfl,k _ _ _ _ _ (.refl _) r .i h⟩
 .exact h.elim⟩
end
def DH:R2:=rI dq λi j=> .int (i*j)
def jX:R2:=λx y H Q=>DH x y H Q\/q0 x y H Q
theorem DL:OpR X (binaryOp .Mult) jX:=qh.or Cb
def iI:DR2:=λd e μ Q=>match d,e with
 | .int i,.int j=>dq i j/\Q (.int (i*j)) μ
 |d,.int j=>∃a,am μ d=some a/\ -(2^63)<=j/\j < 2^63/\a.length*j.toNat<=sizeLine/\Q (.lst (List.replicate j.toNat a).flatten) μ
 |_,_=>False
theorem zA.rep{W:Wd}{ds:List D}(h:zA K W ds xs):∀n:Nat,zA K W (List.replicate n ds).flatten (List.replicate n xs).flatten
 |0=> .nil
 |n+1=>by rw[List.replicate_succ,List.replicate_succ,List.flatten_cons,List.flatten_cons];exact h.append (zA.rep h n)
instance:aW K fl jX iI:=⟨λ{W μ H d e x y Q Q'} r q1 q2 h k=>by
 unfold iI at h;split at h
 .rw[q1.i',q2.i'];exact .inl ⟨_,_,rfl,rfl,h.1,k _ _ _ _ _ (.refl _) r .i h.2⟩
 .rename_i j _;obtain⟨a,e1,h1,h2,hz,h⟩:=h;obtain⟨p,xs,rfl,s1,z1⟩:=cO r q1 e1;rw[q2.i'];refine .inr ⟨p,_,xs,rfl,rfl,s1,h1,h2,by rw[z1.length];exact hz,λq hq=>?_⟩;obtain⟨r2,le2⟩:=r.newF (o:= .lst (List.replicate j.toNat xs).flatten) hq;exact k _ _ _ _ _ le2 r2 (.lst zB ((z1.mono le2).rep _)) h
 .exact h.elim⟩
def DN:DR2:=λd e μ Q=>match d,e with
 | .int i,.int j=>Q (.int (i+j)) μ
 | .cell k,e=>∃a b,μ k=some (.lst a)/\am μ e=some b/\a.length+b.length<=sizeLine/\Q (.cell k) (zR μ k (.lst (a++b)))
 |_,_=>False
def Jf:DR2:=dI0 λi j=> .int (i - j)
def Jg:DR2:=dI dq λi j=> .int (i*j)
theorem zA.atI{W:Wd}{ds:List D}{i:Int}{d:D}(h:zA K W ds xs)(e:L2.atI ds i=some d):∃x,L2.atI xs i=some x/\Rep K W d x:=by
 unfold L2.atI at *;rw[h.length];cases hn:ixN ds.length i with
 |none=>rw[hn] at e;cases e
 |some j =>
  rw[hn] at e;exact h.get e
def dIx:DR2:=λd e μ Q=>match d,e with
 | .str z,.int i=>z.length<=sizeLine/\(match L2.atI z.cps.toList i with
  |some c=>Q (.str ⟨#[c]⟩) μ
  |none=>False)
 |d,.int i=>match aY μ d with
  |some ds=>match L2.atI ds i with
   |some v=>Q v μ
   |none=>False
  |none=>False
 |_,_=>False
instance:aW K fl (rIx K) dIx:=⟨λ{W μ H d e x y Q Q'} r q1 q2 h k=>by
 unfold dIx at h;split at h
 .rename_i z i;obtain⟨hz,h⟩:=h;split at h
  .rename_i c hc;rw[q1.s',q2.i'];exact .inr (.inr ⟨z,i,c,rfl,rfl,hz,hc,k _ _ _ _ _ (.refl _) r .s h⟩)
  .exact h.elim
 .rename_i i _;split at h
  .rename_i ds hds;obtain⟨p,xs,rfl,s1,z1⟩:=fH r q1 hds;split at h
   .rename_i v hv;obtain⟨w,ew,qw⟩:=z1.atI hv;rw[q2.i'];rcases s1 with s1|s1
    .exact .inl ⟨p,xs,i,w,rfl,rfl,s1,ew,k _ _ _ _ _ (.refl _) r qw h⟩
    .exact .inr (.inl ⟨p,xs,i,w,rfl,rfl,s1,ew,k _ _ _ _ _ (.refl _) r qw h⟩)
   .exact h.elim
  .exact h.elim
 .exact h.elim⟩
theorem DP(K:Frag)(h:X.K=K:=by rfl):IxR X (rIx K):=h▸BY
def bg:DO:=λ_ μ Q=>Q none μ
def aE(w:DE):DO:=λρ μ Q=>w ρ μ λd μ1=>match d with
 | .int i=>Q (some i) μ1
 |_=>False
abbrev DSl:=D->Option Int->Option Int->Mu->DK->Prop
class sN(K:Frag)(fl:Wd)(r:V->Option Int->Option Int->Hp->VK->Prop)(q:DSl):Prop where
 run:∀{W μ H d x lo hi Q Q'},Rel K fl W μ H->Rep K W d x->q d lo hi μ Q->KV' K fl W Q Q'->r x lo hi H Q'
def dSl(q:DSl)(we:DE)(wl wh:DO):DE:=λρ μ Q=>we ρ μ λd μ1=>wl ρ μ1 λl μ2=>wh ρ μ2 λu μ3=>q d l u μ3 Q
section
variable{wl wh:DO}
instance:fD K fl mz bg:=⟨λ{W ρ μ σ H Q Q'} r e h k=>k W _ μ H (.refl W) r h⟩
instance[a:zV K fl te we]:fD K fl (mB te) (aE we):=⟨λr e h k=>a.run r e h λW1 d μ1 x H1 le1 r1 q1 h1=>by
 cases d<;>first|exact h1.elim|skip
 exact⟨_,q1.i',k W1 _ μ1 H1 le1 r1 h1⟩⟩
instance{r:V->Option Int->Option Int->Hp->VK->Prop}{q:DSl}[a:zV K fl te we][b:fD K fl tl wl][c:fD K fl th wh][o:sN K fl r q]:zV K fl (tSl r te tl th) (dSl q we wl wh):=⟨λr e h k =>
 a.run r e h λW1 d μ1 x H1 le1 r1 q1 h1=>b.run r1 (e.mono le1) h1 λW2 l μ2 H2 le2 r2 h2=>c.run r2 (e.mono (le1.trans le2)) h2 λW3 u μ3 H3 le3 r3 h3=>o.run r3 (q1.mono (le2.trans le3)) h3 λW4 d4 μ4 x4 H4 le4 r4 q4 h4=>k W4 d4 μ4 x4 H4 (le1.trans (le2.trans (le3.trans le4))) r4 q4 h4⟩
end
def cutD(xs:List α)(lo hi:Option Int):List α:=(xs.drop (HT.sIx xs.length 0 lo)).take (HT.sIx xs.length xs.length hi - HT.sIx xs.length 0 lo)
theorem zA.cut{W:Wd}{ds:List D}(h:zA K W ds xs)(lo hi:Option Int):zA K W (cutD ds lo hi) (cA xs lo hi):=by
 unfold cutD cA;rw[h.length];exact(h.drop _).take _
def sO(K:Frag):V->Option Int->Option Int->Hp->VK->Prop:=λx lo hi H Q=>mE K x lo hi H Q\/qN K x lo hi H Q
theorem jY(K:Frag)(h:X.K=K:=by rfl):SlR X (sO K):=h▸qV.or BS
def aF:DSl:=λd lo hi μ Q=>match d with
 | .tup ds=>¬ (HT.sIx ds.length 0 lo=0/\HT.sIx ds.length ds.length hi=ds.length)/\Q (.tup (cutD ds lo hi)) μ
 |d=>match am μ d with
  |some ds=>Q (.lst (cutD ds lo hi)) μ
  |none=>False
instance:sN K fl (sO K) aF:=⟨λ{W μ H d x lo hi Q Q'} r q1 h k=>by
 unfold aF at h;split at h
 .obtain⟨p,xs,rfl,s1,z1⟩:=q1.tup';refine .inr ⟨p,xs,rfl,s1.sm r.sub,by rw[z1.length];exact h.1,λq hq=>?_⟩;obtain⟨r2,le2⟩:=r.newF (o:= .tup (cA xs lo hi)) hq;exact k _ _ _ _ _ le2 r2 (.tup (SqT.of zB) ((z1.mono le2).cut _ _)) h.2
 .split at h
  .rename_i ds hds;obtain⟨p,xs,rfl,s1,z1⟩:=cO r q1 hds;refine .inl ⟨p,xs,rfl,SqL.of s1,λq hq=>?_⟩;obtain⟨r2,le2⟩:=r.newF (o:= .lst (cA xs lo hi)) hq;exact k _ _ _ _ _ le2 r2 (.lst zB ((z1.mono le2).cut _ _)) h
  .exact h.elim⟩
mutual
def toPy:D->Option PyData
 | .non=>some .none
 | .bl b=>some (.bool b)
 | .int i=>some (.int i)
 | .str x=>some (.str x)
 | .tup ds=>(bh ds).map .tuple
 | .lst ds=>(bh ds).map .list
 |_=>none
def bh:List D->Option (List PyData)
 | []=>some []
 |d::ds=>match toPy d,bh ds with
  |some p,some ps=>some (p::ps)
  |_,_=>none
end
def eV(μ:Mu):D->Option PyData
 | .cell k=>match μ k with
  |some (.lst ds)=>(bh ds).map .list
  |_=>none
 |d=>toPy d
section
variable{W:Wd}
mutual
theorem sP(s:cX W.F H):∀{d:D} {p:PyData} {x:V},toPy d=some p->Rep K W d x->Dat K H p x
 | .non,_,_,e,q=>by unfold toPy at e;cases e;rw[q.n'];exact .n
 | .bl _,_,_,e,q=>by unfold toPy at e;cases e;rw[q.b'];exact .b
 | .int _,_,_,e,q=>by unfold toPy at e;cases e;rw[q.i'];exact .i
 | .str _,_,_,e,q=>by unfold toPy at e;cases e;rw[q.s'];exact .s
 | .tup ds,_,_,e,q=>by
  unfold toPy at e;obtain⟨a,xs,rfl,h,z⟩:=q.tup';cases e1:bh ds with
  |none=>rw[e1] at e;cases e
  |some ps=>rw[e1] at e;cases e;exact .tup (h.sm s) (jZ s e1 z)
 | .lst ds,_,_,e,q=>by
  unfold toPy at e;obtain⟨a,xs,rfl,h,z⟩:=q.lst';cases e1:bh ds with
  |none=>rw[e1] at e;cases e
  |some ps=>rw[e1] at e;cases e;exact .lst (SqL.of (s _ _ h)) (jZ s e1 z)
 | .ty _,_,_,e,_=>by unfold toPy at e;cases e
 | .cls _,_,_,e,_=>by unfold toPy at e;cases e
 | .scr _,_,_,e,_=>by unfold toPy at e;cases e
 | .cell _,_,_,e,_=>by unfold toPy at e;cases e
 | .dct _ _,_,_,e,_=>by unfold toPy at e;cases e
 | .dtt _ _,_,_,e,_=>by unfold toPy at e;cases e
 | .obj _ _ _,_,_,e,_=>by unfold toPy at e;cases e
theorem jZ(s:cX W.F H):∀{ds:List D} {ps:List PyData} {xs:List V},bh ds=some ps->zA K W ds xs->bc K H ps xs
 | [],_,_,e,q=>by unfold bh at e;cases e;rw[q.nil'];exact .nil
 |d::ds,_,_,e,q=>by
  unfold bh at e;obtain⟨x,r,rfl,q1,q2⟩:=q.uncons;cases e1:toPy d with
  |none=>rw[e1] at e;cases e
  |some p =>
   cases e2:bh ds with
   |none=>rw[e1,e2] at e;cases e
   |some ps=>rw[e1,e2] at e;cases e;exact .cons (sP s e1 q1) (jZ s e2 q2)
end
theorem j1{d:D}{p:PyData}{x:V}(r:Rel K fl W μ H)(e:eV μ d=some p)(q:Rep K W d x):Dat K H p x:=by
 unfold eV at e;split at e
 .rename_i k;obtain⟨a,rfl,hb⟩:=q.cell';split at e
  .rename_i ds hk;obtain⟨a',e1,e2,xs,e3,q3⟩:=r.cel k _ hk;rw[hb] at e1;cases e1;cases e4:bh ds with
   |none=>rw[e4] at e;cases e
   |some ps=>rw[e4] at e;cases e;exact .lst (SqL.of e3) (jZ r.sub e4 q3)
  .cases e
 .exact sP r.sub e q
end
def sQ(K:Frag)(neg:Bool):R2:=λx y H Q=>∃d d',Dat K H d x/\Dat K H d' y/\cE d/\cE d'/\Q (.bl (if neg then !PyData.eqv d d' else PyData.eqv d d')) H
def sR(K:Frag):R2:=λx y H Q=>rEq x y H Q\/sQ K false x y H Q
def sS(K:Frag):R2:=λx y H Q=>rNe x y H Q\/sQ K true x y H Q
theorem bB(K:Frag){k:Nat}(hr:aO cm k X.A)(h:X.K=K:=by rfl):OpR X (compareOp .Eq) (sR K):=qp.or (Dc K hr h)
theorem gz(K:Frag){k:Nat}(hr:aO cm k X.A)(h:X.K=K:=by rfl):OpR X (compareOp .NotEq) (sS K):=Bf.or (Dd K hr h)
def er(neg:Bool):DR2:=λd e μ Q=>match d,e with
 | .int i,.int j=>Q (.bl (neg ^^ decide (i=j))) μ
 | .str i,.str j=>Q (.bl (neg ^^ decide (i=j))) μ
 | .bl i,.bl j=>Q (.bl (neg ^^ decide (i=j))) μ
 |d,e=>match eV μ d,eV μ e with
  |some p,some q=>cE p/\cE q/\Q (.bl (neg ^^ PyData.eqv p q)) μ
  |_,_=>False
def dEq:DR2:=er false
def dNe:DR2:=er true
theorem sT(i j:Int):decide (V.int i=V.int j)=decide (i=j):=by by_cases h:i=j<;>simp[h]
theorem sU(i j:Str):decide (V.str i=V.str j)=decide (i=j):=by by_cases h:i=j<;>simp[h]
theorem sV(i j:Bool):decide (V.bl i=V.bl j)=decide (i=j):=by by_cases h:i=j<;>simp[h]
instance:aW K fl (sR K) dEq:=⟨λ{W μ H d e x y Q Q'} r q1 q2 h k=>by
 unfold dEq er at h;simp only[Bool.false_xor] at h;split at h
 .rw[q1.i',q2.i'];exact .inl ⟨rfl,k _ _ _ _ _ (.refl _) r (by rw[sT];exact .b) h⟩
 .rw[q1.s',q2.s'];exact .inl ⟨rfl,k _ _ _ _ _ (.refl _) r (by rw[sU];exact .b) h⟩
 .rw[q1.b',q2.b'];exact .inl ⟨rfl,k _ _ _ _ _ (.refl _) r (by rw[sV];exact .b) h⟩
 .split at h
  .rename_i p q e1 e2;exact .inr ⟨p,q,j1 r e1 q1,j1 r e2 q2,h.1,h.2.1,k _ _ _ _ _ (.refl _) r .b h.2.2⟩
  .exact h.elim⟩
instance:aW K fl (sS K) dNe:=⟨λ{W μ H d e x y Q Q'} r q1 q2 h k=>by
 unfold dNe er at h;simp only[Bool.true_xor] at h;split at h
 .rw[q1.i',q2.i'];exact .inl ⟨rfl,k _ _ _ _ _ (.refl _) r (by rw[sT];exact .b) h⟩
 .rw[q1.s',q2.s'];exact .inl ⟨rfl,k _ _ _ _ _ (.refl _) r (by rw[sU];exact .b) h⟩
 .rw[q1.b',q2.b'];exact .inl ⟨rfl,k _ _ _ _ _ (.refl _) r (by rw[sV];exact .b) h⟩
 .split at h
  .rename_i p q e1 e2;exact .inr ⟨p,q,j1 r e1 q1,j1 r e2 q2,h.1,h.2.1,k _ _ _ _ _ (.refl _) r .b h.2.2⟩
  .exact h.elim⟩
def c9:D->Bool
 | .non=>true
 |_=>false
def dIs:DR2:=λd e μ Q=>match e with
 | .non=>Q (.bl (c9 d)) μ
 |_=>False
def DQ:DR2:=λd e μ Q=>match e with
 | .non=>Q (.bl (!c9 d)) μ
 |_=>False
def fJ:D->Option V
 | .non=>some .non
 | .bl b=>some (.bl b)
 | .int i=>some (.int i)
 | .str x=>some (.str x)
 |_=>none
def dG:List D->Option (List V)
 | []=>some []
 |d::ds=>match fJ d,dG ds with
  |some x,some xs=>some (x::xs)
  |_,_=>none
theorem sW{W:Wd}{d:D}{x v:V}(e:fJ d=some v)(q:Rep K W d x):x=v/\dr v=true:=by
 cases d<;>simp only[fJ,Option.some.injEq,reduceCtorEq] at e
 .rw[<- e];exact⟨q.n',rfl⟩
 .rw[<- e];exact⟨q.b',rfl⟩
 .rw[<- e];exact⟨q.i',rfl⟩
 .rw[<- e];exact⟨q.s',rfl⟩
theorem sX{K:Frag}{W:Wd}:∀{ds:List D} {xs vs:List V},dG ds=some vs->zA K W ds xs->xs=vs/\vs.all dr=true
 | [],_,_,e,q=>by unfold dG at e;cases e;exact⟨q.nil',rfl⟩
 |d::ds,_,_,e,q=>by
  unfold dG at e;obtain⟨x,r,rfl,q1,q2⟩:=q.uncons;cases e1:fJ d with
  |none=>rw[e1] at e;cases e
  |some v =>
   cases e2:dG ds with
   |none=>rw[e1,e2] at e;cases e
   |some vs =>
    rw[e1,e2] at e;cases e;obtain⟨a,b⟩:=sW e1 q1;obtain⟨c,f⟩:=sX e2 q2;exact⟨by rw[a,c],by rw[List.all_cons,b,f];rfl⟩
def ao(neg:Bool):DR2:=λd e μ Q=>match aY μ e with
 |some ds=>match fJ d,dG ds with
  |some v,some vs=>Q (.bl (if neg then !inV v vs else inV v vs)) μ
  |_,_=>False
 |none=>False
instance:aW K fl (rIn K neg) (ao neg):=⟨λ{W μ H d e x y Q Q'} r q1 q2 h k=>by
 unfold ao at h;split at h
 .rename_i ds hds;obtain⟨p,xs,rfl,s1,z1⟩:=fH r q2 hds;split at h
  .rename_i v vs e1 e2;obtain⟨a,b⟩:=sW e1 q1;obtain⟨c,f⟩:=sX e2 z1;subst a c;exact⟨p,_,rfl,s1,b,f,k _ _ _ _ _ (.refl _) r .b h⟩
  .exact h.elim
 .exact h.elim⟩
def dCB(q:DRs)(w:DA):DE:=λρ μ Q=>w ρ μ λds μ1=>q ds μ1 Q
instance{r:List V->Hp->VK->Prop}{q:DRs}{t:TA}{w:DA}[a:aL K fl t w][o:bu K fl r q]:zV K fl (tCB r t) (dCB q w):=⟨λr e h k =>
 a.run r e h λW1 ds μ1 xs H1 le1 r1 q1 h1=>o.run r1 q1 h1 λW2 d μ2 x H2 le2=>k W2 d μ2 x H2 (le1.trans le2)⟩
section
variable(K:Frag)
def DR:List V->Hp->VK->Prop:=λxs H Q=>∃p ys,xs=[.ref p]/\(SqL K H p ys\/SqT K H p ys)/\Q (.int ys.length) H
def DU:List V->Hp->VK->Prop:=λxs H Q=>∃z,xs=[.str z]/\z.length<=sizeLine/\Q (.int z.length) H
def sY:List V->Hp->VK->Prop:=λxs H Q=>DR K xs H Q\/DU xs H Q
theorem zZ(h:X.K=K:=by rfl):zW X (.builtin "len") (sY K):=h▸qX.or B5
def DV:List V->Hp->VK->Prop:=λxs H Q=>∃i j,xs=[.int i,.int j]/\Q (.int (if j > i then j else i)) H
def DW:List V->Hp->VK->Prop:=λxs H Q=>∃p ns,xs=[.ref p]/\SqL K H p (ns.map V.int)/\ns≠[]/\∀M∈ns,(∀a∈ns,a<=M)->Q (.int M) H
def sZ:List V->Hp->VK->Prop:=λxs H Q=>DV xs H Q\/DW K xs H Q
def DY:List V->Hp->VK->Prop:=λxs H Q=>∃i j,xs=[.int i,.int j]/\Q (.int (if j < i then j else i)) H
def DZ:List V->Hp->VK->Prop:=λxs H Q=>∃p ns,xs=[.ref p]/\SqL K H p (ns.map V.int)/\ns≠[]/\∀M∈ns,(∀a∈ns,M<=a)->Q (.int M) H
def s_:List V->Hp->VK->Prop:=λxs H Q=>DY xs H Q\/DZ K xs H Q
theorem D1(hc:X.calm=true:=by rfl)(h:X.K=K:=by rfl):zW X (.builtin "max") (sZ K):=(Bn hc).or (C8 K hc h)
theorem tm(hc:X.calm=true:=by rfl)(h:X.K=K:=by rfl):zW X (.builtin "min") (s_ K):=(Bo hc).or (C9 K hc h)
def tp:List V->Hp->VK->Prop:=λxs H Q=>∃(p:Addr) (bs:List Bool),xs=[.ref p]/\SqL K H p (bs.map V.bl)/\Q (.bl (bs.all id)) H
def tq:List V->Hp->VK->Prop:=λxs H Q=>∃(p:Addr) (bs:List Bool),xs=[.ref p]/\SqL K H p (bs.map V.bl)/\Q (.bl (bs.any id)) H
def ni:List V->Hp->VK->Prop:=λxs H Q=>∃x c t b,xs=[x,c]/\bI K H x t/\(∀u,RelV c u->kitOne K t u=some b)/\Q (.bl b) H
def tu:List V->Hp->VK->Prop:=λxs H Q=>∃p ys,xs=[.ref p]/\(SqL K H p ys\/SqT K H p ys)/\∀l,H l=none->Q (.ref l) (upd H l (.lst ys))
def tE:List V->Hp->VK->Prop:=λxs H Q=>∃p ys,xs=[.ref p]/\((SqL K H p ys/\∀l,H l=none->Q (.ref l) (upd H l (.tup ys)))\/(SqT K H p ys/\Q (.ref p) H))
theorem tF(hc:X.calm=true:=by rfl)(h:X.K=K:=by rfl):zW X (.builtin "all") (tp K):=C_ K hc h
theorem iJ(hc:X.calm=true:=by rfl)(h:X.K=K:=by rfl):zW X (.builtin "any") (tq K):=Da K hc h
theorem D2(h:X.K=K:=by rfl):zW X (.builtin "isinstance") (ni K):=Db K h
theorem D3(h:X.K=K:=by rfl):zW X (.type "list") (tu K):=rT K h
theorem gA(h:X.K=K:=by rfl):zW X (.type "tuple") (tE K):=C7 K h
end
def aN:DRs:=λds μ Q=>match ds with
 | [.str z]=>z.length<=sizeLine/\Q (.int z.length) μ
 | [d]=>match aY μ d with
  |some es=>Q (.int es.length) μ
  |none=>False
 |_=>False
def D4:DRs:=λds μ Q=>match ds with
 | [.int i]=>Q (.int (if i < 0 then -i else i)) μ
 |_=>False
def intsOf:List D->Option (List Int)
 | []=>some []
 | .int i::r=>match intsOf r with
  |some l=>some (i::l)
  |none=>none
 |_=>none
def bC:List D->Option (List Bool)
 | []=>some []
 | .bl i::r=>match bC r with
  |some l=>some (i::l)
  |none=>none
 |_=>none
theorem tG:∀{ds:List D} {ns:List Int},intsOf ds=some ns->ds=ns.map D.int
 | [],_,h=>by cases h;rfl
 |d::r,ns,h=>by
  cases d<;>simp only[intsOf,reduceCtorEq] at h
  cases e:intsOf r with
  |none=>rw[e] at h;cases h
  |some l=>rw[e] at h;cases h;rw[tG e];rfl
theorem tH:∀{ds:List D} {ns:List Bool},bC ds=some ns->ds=ns.map D.bl
 | [],_,h=>by cases h;rfl
 |d::r,ns,h=>by
  cases d<;>simp only[bC,reduceCtorEq] at h
  cases e:bC r with
  |none=>rw[e] at h;cases h
  |some l=>rw[e] at h;cases h;rw[tH e];rfl
theorem D5:∀ns:List Bool,bC (ns.map D.bl)=some ns
 | []=>rfl
 |_::r=>by rw[List.map_cons,bC,D5 r]
def gB:DRs:=λds μ Q=>match ds with
 | [.int i,.int j]=>Q (.int (if j > i then j else i)) μ
 | [d]=>match (am μ d).bind intsOf with
  |some ns=>ns≠[]/\∀M∈ns,(∀a∈ns,a<=M)->Q (.int M) μ
  |none=>False
 |_=>False
def fK:DRs:=λds μ Q=>match ds with
 | [.int i,.int j]=>Q (.int (if j < i then j else i)) μ
 | [d]=>match (am μ d).bind intsOf with
  |some ns=>ns≠[]/\∀M∈ns,(∀a∈ns,M<=a)->Q (.int M) μ
  |none=>False
 |_=>False
def tI:DRs:=λds μ Q=>match ds with
 | [d]=>match (am μ d).bind intsOf with
  |some ns=>Q (.int ns.sum) μ
  |none=>False
 |_=>False
def gC:DRs:=λds μ Q=>match ds with
 | [d]=>match (am μ d).bind bC with
  |some bs=>Q (.bl (bs.all id)) μ
  |none=>False
 |_=>False
def ez:DRs:=λds μ Q=>match ds with
 | [d]=>match (am μ d).bind bC with
  |some bs=>Q (.bl (bs.any id)) μ
  |none=>False
 |_=>False
def iK:DRs:=λds μ Q=>match ds with
 | [d]=>match aY μ d with
  |some es=>Q (.lst es) μ
  |none=>False
 |_=>False
def tJ:DRs:=λds μ Q=>match ds with
 | [d]=>match aY μ d with
  |some es=>∀k,μ k=none->Q (.cell k) (zR μ k (.lst es))
  |none=>False
 |_=>False
def cQ:DRs:=λds μ Q=>match ds with
 | [d]=>match aY μ d with
  |some es=>Q (.tup es) μ
  |none=>False
 |_=>False
def tyD(μ:Mu):D->Option String
 | .non=>some "NoneType"
 | .bl _=>some "bool"
 | .int _=>some "int"
 | .str _=>some "str"
 | .lst _=>some "list"
 | .cell k=>match μ k with
  |some (.lst _)=>some "list"
  |some (.dct _ _)=>some "dict"
  |some (.dtt _ _)=>some "dict"
  |_=>none
 | .dct _ _=>some "dict"
 | .dtt _ _=>some "dict"
 |_=>none
def aZ:List String:=["int","bool","str","list","tuple","dict"]
def ce(t T:String):Bool:=t==T||(t=="bool"&&T=="int")
def iL:DRs:=λds μ Q=>match ds with
 | [d,.ty T]=>match tyD μ d with
  |some t=>T∈aZ/\Q (.bl (ce t T)) μ
  |none=>False
 |_=>False
section
variable{W:Wd}
theorem zA.one{d:D}(h:zA K W [d] xs):∃x,xs=[x]/\Rep K W d x:=by
 obtain⟨x,r,rfl,q,z⟩:=h.uncons;rw[z.nil'];exact⟨x,rfl,q⟩
theorem zA.two{d e:D}(h:zA K W [d,e] xs):∃x y,xs=[x,y]/\Rep K W d x/\Rep K W e y:=by
 obtain⟨x,r,rfl,q,z⟩:=h.uncons;obtain⟨y,rfl,q2⟩:=z.one;exact⟨x,y,rfl,q,q2⟩
instance:bu K fl (sY K) aN:=⟨λ{W μ H ds xs Q Q'} r z h k=>by
 unfold aN at h;split at h
 .obtain⟨x,rfl,q⟩:=z.one;rw[q.s'];exact .inr ⟨_,rfl,h.1,k _ _ _ _ _ (.refl _) r .i h.2⟩
 .obtain⟨x,rfl,q⟩:=z.one;split at h
  .rename_i es he;obtain⟨p,ys,rfl,s1,z1⟩:=fH r q he;exact .inl ⟨p,ys,rfl,s1,k _ _ _ _ _ (.refl _) r (by rw[z1.length];exact .i) h⟩
  .exact h.elim
 .exact h.elim⟩
theorem tK{d:D}{x:V}{ns:List Int}(r:Rel K fl W μ H)(q:Rep K W d x)(h:(am μ d).bind intsOf=some ns):∃a,x= .ref a/\SqL K H a (ns.map V.int):=by
 cases e:am μ d with
 |none=>rw[e] at h;cases h
 |some ds =>
  rw[e] at h;obtain⟨a,xs,rfl,e1,z⟩:=cO r q e;have:=tG h;subst this;rw[z.ints] at e1;exact⟨a,rfl,SqL.of e1⟩
theorem tL{d:D}{x:V}{ns:List Bool}(r:Rel K fl W μ H)(q:Rep K W d x)(h:(am μ d).bind bC=some ns):∃a,x= .ref a/\SqL K H a (ns.map V.bl):=by
 cases e:am μ d with
 |none=>rw[e] at h;cases h
 |some ds =>
  rw[e] at h;obtain⟨a,xs,rfl,e1,z⟩:=cO r q e;have:=tH h;subst this;rw[z.bls] at e1;exact⟨a,rfl,SqL.of e1⟩
instance:bu K fl (sZ K) gB:=⟨λ{W μ H ds xs Q Q'} r z h k=>by
 unfold gB at h;split at h
 .obtain⟨x,y,rfl,q1,q2⟩:=z.two;rw[q1.i',q2.i'];exact .inl ⟨_,_,rfl,k _ _ _ _ _ (.refl _) r .i h⟩
 .obtain⟨x,rfl,q⟩:=z.one;split at h
  .rename_i ns hn;obtain⟨a,rfl,s⟩:=tK r q hn;exact .inr ⟨a,ns,rfl,s,h.1,λM hM hb=>k _ _ _ _ _ (.refl _) r .i (h.2 M hM hb)⟩
  .exact h.elim
 .exact h.elim⟩
instance:bu K fl (s_ K) fK:=⟨λ{W μ H ds xs Q Q'} r z h k=>by
 unfold fK at h;split at h
 .obtain⟨x,y,rfl,q1,q2⟩:=z.two;rw[q1.i',q2.i'];exact .inl ⟨_,_,rfl,k _ _ _ _ _ (.refl _) r .i h⟩
 .obtain⟨x,rfl,q⟩:=z.one;split at h
  .rename_i ns hn;obtain⟨a,rfl,s⟩:=tK r q hn;exact .inr ⟨a,ns,rfl,s,h.1,λM hM hb=>k _ _ _ _ _ (.refl _) r .i (h.2 M hM hb)⟩
  .exact h.elim
 .exact h.elim⟩
instance:bu K fl (tp K) gC:=⟨λ{W μ H ds xs Q Q'} r z h k=>by
 unfold gC at h;split at h
 .obtain⟨x,rfl,q⟩:=z.one;split at h
  .rename_i ns hn;obtain⟨a,rfl,s⟩:=tL r q hn;exact⟨a,ns,rfl,s,k _ _ _ _ _ (.refl _) r .b h⟩
  .exact h.elim
 .exact h.elim⟩
instance:bu K fl (tq K) ez:=⟨λ{W μ H ds xs Q Q'} r z h k=>by
 unfold ez at h;split at h
 .obtain⟨x,rfl,q⟩:=z.one;split at h
  .rename_i ns hn;obtain⟨a,rfl,s⟩:=tL r q hn;exact⟨a,ns,rfl,s,k _ _ _ _ _ (.refl _) r .b h⟩
  .exact h.elim
 .exact h.elim⟩
instance:bu K fl (tu K) iK:=⟨λ{W μ H ds xs Q Q'} r z h k=>by
 unfold iK at h;split at h
 .obtain⟨x,rfl,q⟩:=z.one;split at h
  .rename_i es he;obtain⟨p,ys,rfl,s1,z1⟩:=fH r q he;refine⟨p,ys,rfl,s1,λl hl=>?_⟩;obtain⟨r2,le2⟩:=r.newF (o:= .lst ys) hl;exact k _ _ _ _ _ le2 r2 (.lst zB (z1.mono le2)) h
  .exact h.elim
 .exact h.elim⟩
instance:bu K fl (tE K) cQ:=⟨λ{W μ H ds xs Q Q'} r z h k=>by
 unfold cQ at h;split at h
 .obtain⟨x,rfl,q⟩:=z.one;split at h
  .rename_i es he;unfold aY at he;split at he
   .cases he;obtain⟨p,ys,rfl,t,z2⟩:=q.tup';exact⟨p,ys,rfl,.inr ⟨t.sm r.sub,k _ _ _ _ _ (.refl _) r q h⟩⟩
   .obtain⟨p,ys,rfl,t,z2⟩:=cO r q he;refine⟨p,ys,rfl,.inl ⟨SqL.of t,λl hl=>?_⟩⟩;obtain⟨r2,le2⟩:=r.newF (o:= .tup ys) hl;exact k _ _ _ _ _ le2 r2 (.tup (SqT.of zB) (z2.mono le2)) h
  .exact h.elim
 .exact h.elim⟩
theorem tM{d:D}{x:V}{t:String}(r:Rel K fl W μ H)(q:Rep K W d x)(h:tyD μ d=some t):bI K H x (.type t):=by
 unfold tyD at h;split at h<;>try cases h
 .rw[q.n'];exact .non
 .rw[q.b'];exact .bl _
 .rw[q.i'];exact .int _
 .rw[q.s'];exact .str _
 .obtain⟨a,xs,rfl,e,z⟩:=q.lst';exact .lst (r.sub _ _ e)
 .rename_i k;obtain⟨a,rfl,hb⟩:=q.cell';split at h<;>try cases h
  .rename_i ds hk;obtain⟨a',e1,e2,xs,e3,q3⟩:=r.cel k _ hk;rw[hb] at e1;cases e1;exact .lst e3
  .rename_i ks vs hk;obtain⟨a',e1,e2,xs,e3,l3,q3⟩:=r.cel k _ hk;rw[hb] at e1;cases e1;exact .dK e3
  .rename_i ks vs hk;obtain⟨a',e1,e2,xs,e3,l3,q3⟩:=r.cel k _ hk;rw[hb] at e1;cases e1;exact .dT e3
 .unfold Rep at q;obtain⟨a,xs,rfl,e,_⟩:=q;exact .dK (r.sub _ _ e)
 .unfold Rep at q;obtain⟨a,xs,rfl,e,_⟩:=q;exact .dT (r.sub _ _ e)
theorem D6{d:D}{t:String}(h:tyD μ d=some t):t∈["NoneType","bool","int","str","list","dict"]:=by
 unfold tyD at h;split at h<;>(try cases h)<;>(try decide)
 split at h<;>(try cases h)<;>decide
theorem D7{t:String}(h:t∈["NoneType","bool","int","str","list","dict"])(h':T∈aZ):kitOne K (.type t) (.type T)=some (ce t T):=by
 simp only[aZ,List.mem_cons,List.not_mem_nil,or_false] at h h';rcases h with rfl|rfl|rfl|rfl|rfl|rfl<;>rcases h' with rfl|rfl|rfl|rfl|rfl|rfl<;>rfl
instance:bu K fl (ni K) iL:=⟨λ{W μ H ds xs Q Q'} r z h k=>by
 unfold iL at h;split at h
 .rename_i d T;obtain⟨x,y,rfl,q1,q2⟩:=z.two;split at h
  .rename_i t ht;unfold Rep at q2;subst q2;exact⟨x,.ty T,.type t,ce t T,rfl,tM r q1 ht,λu hu=>by cases hu;exact D7 (D6 ht) h.1,k _ _ _ _ _ (.refl _) r .b h.2⟩
  .exact h.elim
 .exact h.elim⟩
end
def tN(K:Frag)(tl:TE):TI:=λσ H R=>tl σ H λx H1=>(∃a,x= .ref a/\(∃xs,SqL K H1 a xs)/\R (Itl K a) H1)\/(∃a,x= .ref a/\(∃xs,SqT K H1 a xs)/\R (Itt K a) H1)\/∃y,x= .str y/\y.cps.all (· < 128)=true/\R (Its y) H1
theorem zT{l:Expr}{tl:TE}(K:Frag)(hl:WE X l tl)(h:X.K=K:=by rfl):WI X tg l (tN K tl):=⟨by
 subst h;intro pins s σ H R I h;refine thn (hl.out pins s σ H _ I h) λv s1 ⟨x,H1,I1,r1,q1⟩=>?_
 rcases q1 with⟨a,e,⟨xs,hq⟩,q⟩|⟨a,e,⟨xs,hq⟩,q⟩|⟨y,e,ha,q⟩
 .subst e;cases r1;obtain⟨its,rv,p,hz⟩:=I1.list hq;refine wpAny_pyIter_list p.isList ?_;refine⟨s1.heap.objs.size,[s1.heap.objs.size],_,_,H1,rfl,I1.kept (t':=s1.toks) λb o e=>Heap.get?_push_of_some _ e,A8 a _,⟨_,Heap.get?_push_size _ rfl,rfl,rfl⟩,λb hb=>?_,q⟩;have e:b=s1.heap.objs.size:=by simpa using hb
  subst e;exact I1.fpOk (Nat.le_refl _) (I1.hok.fresh (Nat.le_refl _))
 .subst e;cases r1;obtain⟨its,rv,p,hz⟩:=I1.tuple hq;refine wpAny_pyIter_tuple (show s1.heap.IsTuple a its.toArray from p) ?_;refine⟨s1.heap.objs.size,[s1.heap.objs.size],_,_,H1,rfl,I1.kept (t':=s1.toks) λb o e=>Heap.get?_push_of_some _ e,A9 a _,⟨_,Heap.get?_push_size _ rfl,rfl,rfl⟩,λb hb=>?_,q⟩;have e:b=s1.heap.objs.size:=by simpa using hb
  subst e;exact I1.fpOk (Nat.le_refl _) (I1.hok.fresh (Nat.le_refl _))
 .subst e;obtain⟨t,rfl⟩:=r1;refine wpAny_pyIter_ascii ha ?_;refine⟨s1.heap.objs.size,[s1.heap.objs.size],_,_,H1,rfl,I1.kept (t':=s1.toks) λb o e=>Heap.get?_push_of_some _ e,Dz _ y t,⟨_,Heap.get?_push_size _ rfl,rfl,rfl⟩,λb hb=>?_,q⟩;have e:b=s1.heap.objs.size:=by simpa using hb
  subst e;exact I1.fpOk (Nat.le_refl _) (I1.hok.fresh (Nat.le_refl _))⟩
def j3:D->Option (List D)
 | .lst ds=>some ds
 | .tup ds=>some ds
 | .str y=>if y.cps.all (· < 128)=true then some (y.cps.toList.map λc=> .str ⟨#[c]⟩) else none
 |_=>none
def eW(μ:Mu)(d:D)(Q:List D->(Mu->Prop)->Prop):Prop:=match d with
 | .cell k=>match μ k with
  |some (.lst ds)=>Q ds λμ'=>μ' k=some (.lst ds)
  |_=>False
 |d=>match j3 d with
  |some ds=>Q ds λ_=>True
  |none=>False
def aA(w:DE):DI:=λρ μ Q=>w ρ μ λd μ1=>eW μ1 d λds Pm=>Q ds Pm μ1
def eA(w:DA):DI:=λρ μ Q=>w ρ μ λds μ1=>match ds with
 | [.int j]=> -(2^62)<=j/\j < 2^62/\Q ((b8 0 j.toNat).map D.int) (λ_=>True) μ1
 |_=>False
def D8(w:DA):DI:=λρ μ Q=>w ρ μ λds μ1=>match ds with
 | [.int i,.int j]=>(-(2^62)<=i/\i < 2^62/\ -(2^62)<=j/\j < 2^62)/\Q ((b8 i (j - i).toNat).map D.int) (λ_=>True) μ1
 |_=>False
section
variable{ta:TA}{wa:DA}
theorem D9(W:Wd)(lo:Int)(n:Nat)(Pm:Mu->Prop):ItR K fl W (Itr lo n) ((b8 lo n).map D.int) Pm:=λW1 μ H le r _ i=>by
 constructor
 .intro d hd;rw[List.getElem?_map] at hd;by_cases hi:i < n
  .rw[rq hi] at hd;cases hd;refine⟨hi,λx H' y=>?_⟩;obtain⟨e,y⟩:=y;subst e y;exact⟨W1,.refl _,r,.i⟩
  .rw[List.getElem?_eq_none (by rw[jH];omega)] at hd;cases hd
 .intro h;rw[List.length_map,jH] at h;exact h
theorem D_{W:Wd}{p:Addr}{ds:List D}(z1:zA K W ds xs)(hp:∀W1 μ H,W.le W1->Rel K fl W1 μ H->Pm μ->H p=some (.lst xs)):ItR K fl W (Itl K p) ds Pm:=λW2 μ2 H2 le2 r2 pm i=>by
 have s2:=hp W2 μ2 H2 le2 r2 pm;constructor
 .intro d hd;obtain⟨x,ex,qx⟩:=z1.get hd;refine⟨⟨xs,x,SqL.of s2,ex⟩,λy H' hy=>?_⟩;obtain⟨e',y'⟩:=hy;have ey:=y' xs (SqL.of s2);rw[ex] at ey;cases ey;exact⟨W2,.refl _,e'▸r2,qx.mono le2⟩
 .intro hl;exact⟨xs,SqL.of s2,by rw[z1.length];exact hl⟩
theorem tO{W:Wd}{k:Nat}{ds:List D}(r:Rel K fl W μ H)(hb:W.b k=some a)(hk:μ k=some (.lst ds)):∃xs,H a=some (.lst xs)/\zA K W ds xs:=by
 obtain⟨a',e1,e2,xs,e3,q3⟩:=r.cel k _ hk;rw[hb] at e1;cases e1;exact⟨xs,e3,q3⟩
theorem Ea{W:Wd}{k:Nat}{ds:List D}(hb:W.b k=some a):ItR K fl W (Itl K a) ds (λμ'=>μ' k=some (.lst ds)):=λW2 μ2 H2 le2 r2 pm i=>by
 obtain⟨xs,s2,z1⟩:=tO r2 (le2.b _ _ hb) pm;constructor
 .intro d hd;obtain⟨x,ex,qx⟩:=z1.get hd;refine⟨⟨xs,x,SqL.of s2,ex⟩,λy H' hy=>?_⟩;obtain⟨e',y'⟩:=hy;have ey:=y' xs (SqL.of s2);rw[ex] at ey;cases ey;exact⟨W2,.refl _,e'▸r2,qx⟩
 .intro hl;exact⟨xs,SqL.of s2,by rw[z1.length];exact hl⟩
instance[a:zV K fl te we]:iC K fl (tN K te) (aA we):=⟨λ{W ρ μ σ H Q Q'} r e h k=>a.run r e h λW1 d μ1 x H1 le1 r1 q1 h1=>by
 unfold eW at h1;split at h1
 .rename_i c;obtain⟨p,rfl,hb⟩:=q1.cell';split at h1
  .rename_i ds hk;obtain⟨xs,s1,z1⟩:=tO r1 hb hk;exact .inl ⟨p,rfl,⟨xs,SqL.of s1⟩,k W1 _ ds _ μ1 H1 le1 r1 (Ea hb) h1⟩
  .exact h1.elim
 .cases hd:j3 d with
  |none=>rw[hd] at h1;exact h1.elim
  |some ds =>
   rw[hd] at h1;have h1:Q ds (λ_=>True) μ1:=h1;unfold j3 at hd;split at hd
   .cases hd;obtain⟨p,xs,rfl,s1,z1⟩:=q1.lst';exact .inl ⟨p,rfl,⟨xs,SqL.of (r1.sub _ _ s1)⟩,k W1 _ ds _ μ1 H1 le1 r1 (D_ z1 λW2 μ2 H2 le2 r2 _=>r2.sub _ _ (le2.F _ _ s1)) h1⟩
   .cases hd;obtain⟨p,xs,rfl,s1,z1⟩:=q1.tup';refine .inr (.inl ⟨p,rfl,⟨xs,s1.sm r1.sub⟩,k W1 _ ds _ μ1 H1 le1 r1 (λW2 μ2 H2 le2 r2 _ i=>?_) h1⟩);have s2:SqT K H2 p xs:=(s1.sm le2.F).sm r2.sub;constructor
    .intro d hd;obtain⟨x,ex,qx⟩:=z1.get hd;refine⟨⟨xs,x,s2,ex⟩,λy H' hy=>?_⟩;obtain⟨e',y'⟩:=hy;have ey:=y' xs s2;rw[ex] at ey;cases ey;exact⟨W2,.refl _,e'▸r2,qx.mono le2⟩
    .intro hl;exact⟨xs,s2,by rw[z1.length];exact hl⟩
   .rename_i y _;split at hd
    .rename_i ha;cases hd;rw[q1.s'];refine .inr (.inr ⟨y,rfl,ha,k W1 _ _ _ μ1 H1 le1 r1 (λW2 μ2 H2 le2 r2 _ i=>?_) h1⟩);constructor
     .intro d hd;rw[List.getElem?_map] at hd;cases hc:y.cps.toList[i]? with
      |none=>rw[hc] at hd;cases hd
      |some c =>
       rw[hc] at hd;cases hd;have hi:i < y.cps.size:=by have:=(List.getElem?_eq_some_iff.mp hc).1;rwa [Array.length_toList] at this
       refine⟨hi,λx H' hy=>?_⟩;obtain⟨e',c',hc',rfl⟩:=hy;rw[hc] at hc';cases hc';exact⟨W2,.refl _,e'▸r2,.s⟩
     .intro hl;rw[List.length_map,Array.length_toList] at hl;exact hl
    .cases hd
   .cases hd⟩
instance[a:aL K fl ta wa]:iC K fl (mi ta) (eA wa):=⟨λ{W ρ μ σ H Q Q'} r e h k=>a.run r e h λW1 ds μ1 xs H1 le1 r1 q1 h1=>by
 split at h1
 .obtain⟨x,rfl,q⟩:=q1.one;rw[q.i'];exact⟨_,rfl,h1.1,h1.2.1,k W1 _ _ _ μ1 H1 le1 r1 (D9 _ _ _ _) h1.2.2⟩
 .exact h1.elim⟩
end
abbrev DM:=D->List D->Mu->DK->Prop
class iM(K:Frag)(fl:Wd)(T:String)(r:V->List V->Hp->VK->Prop)(q:DM):Prop where
 run:∀{W μ H d x ds xs Q Q'},Rel K fl W μ H->Rep K W d x->zA K W ds xs->q d ds μ Q->KV' K fl W Q Q'->r x xs H Q'
def tyM(T:String)(μ:Mu)(d:D):Prop:=tyD μ d=some T
def dBM(T:String)(q:DM)(wo:DE)(w:DA):DE:=λρ μ Q=>wo ρ μ λd μ1=>tyM T μ1 d/\w ρ μ1 λds μ2=>q d ds μ2 Q
def Jh(T:String)(q:DM)(wo:DE):DE:=λρ μ Q=>wo ρ μ λd μ1=>tyM T μ1 d/\q d [] μ1 Q
theorem Eb{W:Wd}{d:D}{x:V}(hT:T="list"\/T="str"\/T="dict")(r:Rel K fl W μ H)(q:Rep K W d x)(h:tyM T μ d):tyV K T x H:=by
 have ty:=tM r q h;cases ty with
 |non=>rcases hT with h|h|h<;>exact absurd h (by decide)
 |bl=>rcases hT with h|h|h<;>exact absurd h (by decide)
 |int=>rcases hT with h|h|h<;>exact absurd h (by decide)
 |str=>rfl
 |flt=>rcases hT with h|h|h<;>exact absurd h (by decide)
 |lst e=>exact .inl ⟨rfl,_,SqL.of e⟩
 |frz e=>exact .inl ⟨rfl,_,.inl (.inr ⟨_,e⟩)⟩
 |tup=>rcases hT with h|h|h<;>exact absurd h (by decide)
 |dK e=>exact .inr (.inr (.inl ⟨rfl,.inl ⟨_,e⟩⟩))
 |dT e=>exact .inr (.inr (.inl ⟨rfl,.inr ⟨_,e⟩⟩))
section
variable{to:TE}{t:TA}{w:DA}{r:V->List V->Hp->VK->Prop}{q:DM}
theorem tP(hT:T="list"\/T="str"\/T="dict")[a:zV K fl to wo][b:aL K fl t w][o:iM K fl T r q]:zV K fl (tBM K T r to t) (dBM T q wo w):=⟨λr e h k=>a.run r e h λW1 d μ1 x H1 le1 r1 q1 h1 =>
 ⟨Eb hT r1 q1 h1.1,b.run r1 (e.mono le1) h1.2 λW2 ds μ2 xs H2 le2 r2 q2 h2=>o.run r2 (q1.mono le2) q2 h2 λW3 d3 μ3 x3 H3 le3=>k W3 d3 μ3 x3 H3 (le1.trans (le2.trans le3))⟩⟩
instance[a:zV K fl to wo][b:aL K fl t w][o:iM K fl "list" r q]:zV K fl (tBM K "list" r to t) (dBM "list" q wo w):=tP (.inl rfl)
instance[a:zV K fl to wo][b:aL K fl t w][o:iM K fl "str" r q]:zV K fl (tBM K "str" r to t) (dBM "str" q wo w):=tP (.inr (.inl rfl))
end
def bS(μ:Mu)(d:D)(Q:Nat->List D->Prop):Prop:=match d with
 | .cell k=>match μ k with
  |some (.lst ds)=>Q k ds
  |_=>False
 |_=>False
theorem Ec{W:Wd}{d:D}{x:V}{Q:Nat->List D->Prop}(r:Rel K fl W μ H)(q:Rep K W d x)(h:bS μ d Q):∃k ds a xs,x= .ref a/\W.b k=some a/\μ k=some (.lst ds)/\H a=some (.lst xs)/\zA K W ds xs/\Q k ds:=by
 unfold bS at h;split at h
 .rename_i k;obtain⟨a,rfl,hb⟩:=q.cell';split at h
  .rename_i ds hk;obtain⟨a',e1,e2,xs,e3,q3⟩:=r.cel k _ hk;rw[hb] at e1;cases e1;exact⟨k,ds,a,xs,rfl,hb,hk,e3,q3,h⟩
  .exact h.elim
 .exact h.elim
def bM:DM:=λd es μ Q=>match es with
 | [e]=>bS μ d λk ds=>ds.length < sizeLine/\Q .non (zR μ k (.lst (ds++[e])))
 |_=>False
def tQ:DM:=λd es μ Q=>match es with
 | []=>bS μ d λk ds=>match ds[ds.length - 1]? with
  |some y=>Q y (zR μ k (.lst ds.dropLast))
  |none=>False
 | [.int i]=>bS μ d λk ds=> -(2^63)<=i/\i < 2^63/\match ixN ds.length i with
  |some j=>match ds[j]? with
   |some y=>Q y (zR μ k (.lst (ds.eraseIdx j)))
   |none=>False
  |none=>False
 |_=>False
def Ed:D->D->D->Mu->(Mu->Prop)->Prop:=λd i v μ Q=>match i with
 | .int i=>bS μ d λk ds=>match ixN ds.length i with
  |some j=>Q (zR μ k (.lst (ds.set j v)))
  |none=>False
 |_=>False
def Ji(wo wi:DE)(q:D->D->D->Mu->(Mu->Prop)->Prop):DG:=λv ρ μ Q=>wo ρ μ λd μ1=>wi ρ μ1 λi μ2=>q d i v μ2 λμ3=>Q ρ μ3
section
instance:iM K fl "list" qY bM:=⟨λ{W μ H d x ds xs Q Q'} r q z h k=>by
 unfold bM at h;split at h
 .obtain⟨y,rfl,qy⟩:=z.one;obtain⟨c,es,a,ys,rfl,hb,hk,ha,z2,hz,h⟩:=Ec r q h;exact⟨a,ys,y,rfl,rfl,ha,by rw[z2.length];exact hz,k _ _ _ _ _ (.refl _) (r.setC (c':= .lst _) hk hb ⟨_,rfl,z2.append (.cons qy .nil)⟩) .n h⟩
 .exact h.elim⟩
end
theorem Ee{W:Wd}{k:Nat}(r:Rel K fl W μ H)(hk:μ k=some .draw)(ha:W.b k=some a):∃l,iz H a l/\W.F a=none/\(∃ns:List Int,W.F l=some (.lst (ns.map V.int))) /\
  ∀H',iz H' a l->jL a H H'->Rel K fl W μ H':=by
 obtain⟨a',e1,e2,l,ns,i,b,c,e3,e4,hi,hb⟩:=r.cel k _ hk;rw[ha] at e1;cases e1;have hal:a≠l:=λz=>by rw[<- z,e2] at e4;cases e4
 refine⟨l,⟨ns,i,b,c,e3,r.sub _ _ e4,hi,hb,hal⟩,e2,⟨ns,e4⟩,λH' d o=>⟨λx u e=>?_,r.fin,λj ct e=>?_,r.inj,r.up⟩⟩
 .rw[o x (λz=>by rw[z,e2] at e;cases e)];exact r.sub _ _ e
 .by_cases hj:j=k
  .subst hj;rw[hk] at e;cases e;obtain⟨ns',i',b',c',f1,f2,f3,f4,f5⟩:=d;exact⟨a,ha,e2,l,ns,i',b',c',f1,e4,f3,f4⟩
  .obtain⟨x,f1,f2,q⟩:=r.cel j ct e;have hx:x≠a:=λz=>hj (r.inj j k _ _ a e hk (z▸f1) ha)
   exact⟨x,f1,f2,by rw[o x hx];exact q⟩
class nj(K:Frag)(fl:Wd)(sp:Sp)(dsp:DSp):Prop where
 run:∀{W μ H ds vs Q Q'} (E:XK),Rel K fl W μ H->zA K W ds vs->dsp ds μ Q->KV' K fl W Q Q'->sp vs H Q' E
instance{E:XK}{t:TA}{w:DA}[a:aL K fl t w][o:nj K fl sp dsp]:zV K fl (ia sp [] E t) (dCall dsp w):=⟨λ{W ρ μ σ H Q Q'} r e h k =>
 a.run r e h λW1 ds μ1 xs H1 le1 r1 q1 h1=>o.run E r1 (by rw[List.append_nil];exact q1) h1 λW2 d μ2 x H2 le2=>k W2 d μ2 x H2 (le1.trans le2)⟩
def aX:DSp:=λds μ Q=>match ds with
 | [.cell k,.int many]=>μ k=some .draw/\0 < many/\many < 2^250/\∀v,0<=v->v < many->Q (.int v) μ
 |_=>False
instance:nj K fl mV aX:=⟨λ{W μ H ds vs Q Q'} E r z h k=>by
 unfold aX at h;split at h
 .rename_i c many;obtain⟨x,y,rfl,q1,q2⟩:=z.two;obtain⟨a,rfl,hb⟩:=q1.cell';rw[q2.i'];obtain⟨hk,h1,h2,h⟩:=h;obtain⟨l,d,_,_,fin⟩:=Ee r hk hb;exact⟨a,l,many,rfl,d,h1,h2,λv H' l1 l2 d' o=>k W _ μ _ H' (.refl _) (fin H' d' o) .i (h v l1 l2)⟩
 .exact h.elim⟩
def j4:DSp:=λds μ Q=>match ds with
 | [.scr _]=>∀k,μ k=none->Q (.cell k) (zR μ k .draw)
 |_=>False
section
variable{W:Wd}{H':Hp}
theorem Rel.same(r:Rel K fl W μ H)(s:cX H H'):Rel K fl W μ H':=⟨λb o e=>s _ _ (r.sub _ _ e),r.fin,λk c e=>by
 obtain⟨a,e1,e2,q⟩:=r.cel k c e;obtain⟨u,eu⟩:=q.some;exact⟨a,e1,e2,by rw[s _ _ eu,<- eu];exact q⟩,r.inj,r.up⟩
theorem Rel.newAt{p:Addr}(r:Rel K fl W μ H)(hp:H p=none):W.F p=none/\∀k c,μ k=some c->W.b k≠some p:=by
 constructor
 .cases e:W.F p with
  |none=>rfl
  |some u=>rw[r.sub _ _ e] at hp;cases hp
 .intro k c e h;obtain⟨a,e1,_,q⟩:=r.cel k c e;obtain⟨u,eu⟩:=q.some;rw[h] at e1;cases e1;rw[hp] at eu;cases eu
theorem Rel.adoptF{p:Addr}{o:HO}(r:Rel K fl W μ H)(hp:H p=some o)(hF:W.F p=none)(hc:∀k c,μ k=some c->W.b k≠some p):Rel K fl ⟨W.b,upd W.F p o⟩ μ H/\W.le ⟨W.b,upd W.F p o⟩:=by
 have le:W.le ⟨W.b,upd W.F p o⟩:=⟨λ_ _ h=>h,iB hF⟩;refine⟨⟨λb u e=>?_,r.fin,λk c e=>?_,r.inj,r.up.trans le⟩,le⟩
 .have e':(upd W.F p o) b=some u:=e;by_cases hb:b=p
  .subst hb;rw[zB] at e';cases e';exact hp
  .rw[zy hb] at e';exact r.sub _ _ e'
 .obtain⟨a,e1,e2,q⟩:=r.cel k c e;have ha:a≠p:=λz=>hc k c e (z▸e1)
  exact⟨a,e1,by show upd W.F p o a=none;rw[zy ha];exact e2,q.mono le⟩
theorem Rel.adoptC{p:Addr}{c:Ct}(r:Rel K fl W μ H)(hF:W.F p=none)(hc:∀k c,μ k=some c->W.b k≠some p)(hq:Ctn K W c (H p)):∃(k:Nat) (W':Wd),μ k=none/\W.le W'/\Rel K fl W' (zR μ k c) H/\W'.b k=some p:=by
 obtain⟨n,hn⟩:=r.fin;have hk:μ n=none:=by
  cases e:μ n with
  |none=>rfl
  |some c=>obtain⟨a,e1,_⟩:=r.cel n c e;rw[hn n (Nat.le_refl _)] at e1;cases e1
 have le:W.le ⟨λj=>if j=n then some p else W.b j,W.F⟩:=⟨λk a e=>by
  show(if k=n then some p else W.b k)=some a;rw[if_neg (λz=>by rw[z,hn n (Nat.le_refl _)] at e;cases e)];exact e,λ_ _ h=>h⟩
 refine⟨n,⟨λj=>if j=n then some p else W.b j,W.F⟩,hk,le,⟨r.sub,⟨n+1,λk hk=>?_⟩,λk c' e=>?_,λk k' c1 c2 a e e' q q'=>?_,r.up.trans le⟩,if_pos rfl⟩
 .show(if k=n then some p else W.b k)=none;rw[if_neg (by omega)];exact hn k (by omega)
 .by_cases ek:k=n
  .subst ek;rw[zF] at e;cases e;exact⟨p,if_pos rfl,hF,hq.mono le⟩
  .rw[zq ek] at e;obtain⟨a,e1,e2,q⟩:=r.cel k c' e;exact⟨a,by show(if k=n then some p else W.b k)=some a;rw[if_neg ek];exact e1,e2,q.mono le⟩
 .have q1:(if k=n then some p else W.b k)=some a:=q;have q2:(if k'=n then some p else W.b k')=some a:=q';by_cases ek:k=n
  .by_cases ek':k'=n
   .rw[ek,ek']
   .rw[if_pos ek] at q1;rw[if_neg ek'] at q2;rw[zq ek'] at e';cases q1;exact absurd q2 (hc _ _ e')
  .by_cases ek':k'=n
   .rw[if_neg ek] at q1;rw[if_pos ek'] at q2;rw[zq ek] at e;cases q2;exact absurd q1 (hc _ _ e)
   .rw[if_neg ek] at q1;rw[if_neg ek'] at q2;rw[zq ek] at e;rw[zq ek'] at e';exact r.inj k k' _ _ a e e' q1 q2
end
instance:nj K fl (mW K) j4:=⟨λ{W μ H ds vs Q Q'} E r z h k=>by
 unfold j4 at h;split at h
 .rename_i ns;obtain⟨x,rfl,q⟩:=z.one;unfold Rep at q;obtain⟨a,rfl,hs⟩:=q;refine⟨a,ns,rfl,hs.sm r.sub,λp l H' hp hl d sm=>?_⟩;obtain⟨ns',i,b,c,e1,e2,hi,hb,hne⟩:=d;have r1:=r.same sm;obtain⟨f1,g1⟩:=r.newAt hl;obtain⟨r2,le2⟩:=r1.adoptF e2 f1 g1;obtain⟨f2,g2⟩:=r.newAt hp;have f2':(upd W.F l (.lst (ns'.map V.int))) p=none:=by rw[zy hne];exact f2
  obtain⟨j,W3,hj,le3,r3,e3⟩:=r2.adoptC (c:= .draw) (p:=p) f2' g2 ⟨l,ns',i,b,c,e1,zB,hi,hb⟩;exact k W3 _ _ _ _ (le2.trans le3) r3 (by unfold Rep;exact⟨p,rfl,e3⟩) (h j hj)
 .exact h.elim⟩
theorem iN{s:Stmt}{t:TE}(h:WS X s (bo t g)):WS X s (bo (jV t) g):=h
theorem c_(K:Frag){k:Nat}(hr:aO cm k X.A)(h:X.K=K:=by rfl):OpR X (compareOp .In) (rIn K false):=C4 K h
theorem da(K:Frag){k:Nat}(hr:aO cm k X.A)(h:X.K=K:=by rfl):OpR X (compareOp .NotIn) (rIn K true):=C5 K h
def ends(Q:DK):cN:={nx:=λ_ μ'=>∃ μ'',MLe μ'' μ'/\Q .non μ'',rt:=λd μ'=>∃ μ'',MLe μ'' μ'/\Q d μ''}
def zO(w:DS)(N:List Str)(n:Nat):DSp:=λds μ Q=>ds.length=n/\w (ends Q) (iG N ds) μ
section
theorem Fun.okB{k n:Nat}(dw:DS)(F:Fun K x qual st f fd)(S:zG N ps (zr st))(len:ps.length=n)
  (hbody:∀(cdv:Value) (A:Around) (outer:List Env) (s:Shared) (H:Hp) (E:XK),aS k (A.deeper (envOfC qual (zr st) s.heap.objs.size f cdv)) ->
   ∃t,WSs (cz CX0 P w K mg base N qual (zr st) f cdv A outer s H E).nox (cD st) t/\∀fl,aV K fl t dw):zU P w K mg base CX0 (k+1) f fd ps (lift K (zO dw N n)):=by
 refine F.okq S (λvs H Q E h=>?_) (λcdv A outer s H vs Q E hr h=>?_)
 .obtain⟨_,W,μ,ds,Q0,_,r,h,_⟩:=h;rw[r.length,h.1,len]
 .obtain⟨fl,W,μ,ds,Q0,rel,r,h,k⟩:=h;obtain⟨t,ht,sm⟩:=hbody cdv A outer s H E hr;refine⟨t,ht,(sm W).run (rel.floor (.refl W)) (.start r) h.2 ⟨λW' ρ μ σ H le rr ee hh=>?_,λ_ _ _ _ _ _ _ _ hh=>hh.elim,λ_ _ _ _ _ _ _ _ hh=>hh.elim,λW' d μ x H le rr ee hh=>?_⟩⟩
  .obtain⟨μ'',l,hh⟩:=hh;exact k W' .non μ'' _ H le ((rr.floor (rel.up.trans le)).less l) .n hh
  .obtain⟨μ'',l,hh⟩:=hh;exact k W' d μ'' x H le ((rr.floor (rel.up.trans le)).less l) ee hh
end
theorem Ef{dsp':DSp}(h:∀ds μ Q,dsp ds μ Q->dsp' ds μ Q){vs:List V}{Q:VK}{E:XK}(q:lift K dsp vs H Q E):lift K dsp' vs H Q E:=by
 obtain⟨fl,W,μ,ds,Q0,a,b,c,d⟩:=q;exact⟨fl,W,μ,ds,Q0,a,b,h _ _ _ c,d⟩
section
variable{g:DG}{wb:DS}{ds:List D}{Fin:List D->Mu->Prop}{ys:List D}
theorem cR(I:Nat->aj->Mu->Prop)(h0:I 0 ρ μ)
  (step:∀i d ρ μ,ds[i]? = some d->I i ρ μ->∀N:aj->Mu->Prop,(∀ ρ' μ',I (i+1) ρ' μ'->N ρ' μ')->g d ρ μ λρ2 μ2=>wb {D' with nx:=N,ct:=N,bk:=D'.nx} ρ2 μ2)
  (fin:∀ ρ μ,I ds.length ρ μ->D'.nx ρ μ)(hP:∀i ρ μ,I i ρ μ->Pm μ:=by exact λ_ _ _ _=>trivial):fG g wb D' Pm ds ρ μ:=by
 have key:∀(n i:Nat) ρ μ,i+n=ds.length->I i ρ μ->fG g wb D' Pm (ds.drop i) ρ μ:=by
  intro n;induction n with
  |zero =>
   intro i ρ μ hi hI;rw[List.drop_eq_nil_of_le (by omega)];have:i=ds.length:=by omega
   subst this;exact⟨hP _ _ _ hI,fin ρ μ hI⟩
  |succ n ih =>
   intro i ρ μ hi hI;rw[List.drop_eq_getElem_cons (by omega)];exact⟨hP _ _ _ hI,step i _ ρ μ (List.getElem?_eq_getElem (by omega)) hI _ λρ' μ' h=>ih (i+1) ρ' μ' (by omega) h⟩
 exact key ds.length 0 ρ μ (by omega) h0
theorem tR(I:Nat->List D->Mu->Prop)(h0:I 0 ys μ)
  (step:∀i d ys μ,ds[i]? = some d->I i ys μ->ys.length < sizeLine/\∀N:List D->Mu->Prop,(∀ys' μ',I (i+1) ys' μ'->N ys' μ')->g d ρb μ λρ2 μ2=>wc ρ2 μ2 λb μ3=>if b=true then we ρ2 μ3 λv μ4=>N (ys++[v]) μ4 else N ys μ3)
  (fin:∀ys μ,I ds.length ys μ->Fin ys μ)(hP:∀i ys μ,I i ys μ->Pm μ:=by exact λ_ _ _ _=>trivial):bR g wc we ρb Pm Fin ds ys μ:=by
 have key:∀(n i:Nat) ys μ,i+n=ds.length->I i ys μ->bR g wc we ρb Pm Fin (ds.drop i) ys μ:=by
  intro n;induction n with
  |zero =>
   intro i ys μ hi hI;rw[List.drop_eq_nil_of_le (by omega)];have:i=ds.length:=by omega
   subst this;exact⟨hP _ _ _ hI,fin ys μ hI⟩
  |succ n ih =>
   intro i ys μ hi hI;rw[List.drop_eq_getElem_cons (by omega)];obtain⟨hz,st⟩:=step i _ ys μ (List.getElem?_eq_getElem (by omega)) hI;exact⟨hP _ _ _ hI,hz,st (λys' μ'=>bR g wc we ρb Pm Fin (ds.drop (i+1)) ys' μ') λys' μ' h=>ih (i+1) ys' μ' (by omega) h⟩
 exact key ds.length 0 ys μ (by omega) h0
end
theorem iO{lo:Int}{n i:Nat}{d:D}(h:((b8 lo n).map D.int)[i]? = some d):i < n/\d= .int (lo+i):=by
 rw[List.getElem?_map] at h;by_cases hi:i < n
 .rw[rq hi] at h;cases h;exact⟨hi,rfl⟩
 .rw[List.getElem?_eq_none (by rw[jH];omega)] at h;cases h
theorem iP(lo:Int)(n:Nat):((b8 lo n).map D.int).length=n:=by rw[List.length_map,jH]
theorem Eg{i j:Int}:dEq (.int i) (.int j) μ Q=Q (.bl (decide (i=j))) μ:=by simp[dEq,er]
theorem Jj{i j:Str}:dEq (.str i) (.str j) μ Q=Q (.bl (decide (i=j))) μ:=by simp[dEq,er]
theorem Jk{i j:Str}:dNe (.str i) (.str j) μ Q=Q (.bl (!decide (i=j))) μ:=by simp[dNe,er]
theorem gD{ds:List D}:am μ (.lst ds)=some ds:=rfl
theorem Eh{ds:List D}:aY μ (.tup ds)=some ds:=rfl
theorem Ei{k:Nat}{ds:List D}(h:μ k=some (.lst ds)):aY μ (.cell k)=some ds:=by simp[aY,am,h]
def Pl:Nat->D->Prop
 |_,.non=>True
 |_,.bl _=>True
 |_,.int _=>True
 |_,.str x=>PyData.strOk x=true
 |n+1,.tup ds=>∀d∈ds,Pl n d
 |n+1,.lst ds=>∀d∈ds,Pl n d
 |_,_=>False
theorem Pl.pys{n:Nat}(ih:∀d,Pl n d->∃p,toPy d=some p/\p.canLay0=true/\p.depth<=n):∀ds:List D,(∀d∈ds,Pl n d)->∃ps,bh ds=some ps/\PyData.canLayAll0 ps=true/\PyData.depthAll ps<=n
 | [],_=>⟨[],by unfold bh;rfl,by unfold PyData.canLayAll0;rfl,by unfold PyData.depthAll;omega⟩
 |d::ds,h=>by
  obtain⟨p,e,c,b⟩:=ih d (h d List.mem_cons_self);obtain⟨ps,e',c',b'⟩:=Pl.pys ih ds λx hx=>h x (List.mem_cons_of_mem _ hx)
  refine⟨p::ps,by unfold bh;rw[e,e'],by unfold PyData.canLayAll0;rw[c,c'];rfl,?_⟩;unfold PyData.depthAll;omega
theorem Pl.py:∀(n:Nat) (d:D),Pl n d->∃p,toPy d=some p/\p.canLay0=true/\p.depth<=n:=by
 intro n;induction n with
 |zero =>
  intro d h;cases d<;>first|exact h.elim|skip
  .exact⟨_,by unfold toPy;rfl,by simp[PyData.canLay0],by simp[PyData.depth]⟩
  .exact⟨_,by unfold toPy;rfl,by simp[PyData.canLay0],by simp[PyData.depth]⟩
  .exact⟨_,by unfold toPy;rfl,by simp[PyData.canLay0],by simp[PyData.depth]⟩
  .exact⟨_,by unfold toPy;rfl,by rw[PyData.canLay0];exact h,by simp[PyData.depth]⟩
 |succ n ih =>
  intro d h;cases d<;>first|exact h.elim|skip
  .exact⟨_,by unfold toPy;rfl,by simp[PyData.canLay0],by simp[PyData.depth]⟩
  .exact⟨_,by unfold toPy;rfl,by simp[PyData.canLay0],by simp[PyData.depth]⟩
  .exact⟨_,by unfold toPy;rfl,by simp[PyData.canLay0],by simp[PyData.depth]⟩
  .exact⟨_,by unfold toPy;rfl,by rw[PyData.canLay0];exact h,by simp[PyData.depth]⟩
  .rename_i ds;obtain⟨ps,e,c,b⟩:=Pl.pys ih ds h;exact⟨.tuple ps,by unfold toPy;rw[e];rfl,by rw[PyData.canLay0];exact c,by rw[PyData.depth];omega⟩
  .rename_i ds;obtain⟨ps,e,c,b⟩:=Pl.pys ih ds h;exact⟨.list ps,by unfold toPy;rw[e];rfl,by rw[PyData.canLay0];exact c,by rw[PyData.depth];omega⟩
section
end
theorem iQ(xs:List α)(n:Nat):cutD xs none (some (n:Int))=xs.take n:=by
 unfold cutD;rw[HT.qK,HT.bO,List.drop_zero,Nat.sub_zero];rcases Nat.le_total n xs.length with h|h
 .rw[Nat.min_eq_left h]
 .rw[Nat.min_eq_right h,List.take_length,List.take_of_length_le h]
theorem iR(xs:List α)(n:Nat):cutD xs (some (n:Int)) none=xs.drop n:=by
 unfold cutD;rw[HT.qK,HT.bO];rcases Nat.le_total n xs.length with h|h
 .rw[Nat.min_eq_left h,List.take_of_length_le (by rw[List.length_drop];omega)]
 .rw[Nat.min_eq_right h,Nat.sub_self,List.take_zero,List.drop_eq_nil_of_le h]
section
variable{s:Shared}
end
def lsM(μ:Mu)(d:D)(Q:List D->(Mu->Prop)->Prop):Prop:=match d with
 | .cell k=>match μ k with
  |some (.lst ds)=>Q ds λμ'=>μ' k=some (.lst ds)
  |_=>False
 | .lst ds=>Q ds λ_=>True
 |_=>False
def pairD(p:D×D):D:= .tup [p.1,p.2]
def Ej(w:DA):DI:=λρ μ Q=>w ρ μ λes μ1=>match es with
 | [d,e]=>lsM μ1 d λds P1=>lsM μ1 e λes P2=>Q ((ds.zip es).map pairD) (λμ'=>P1 μ'/\P2 μ') μ1
 |_=>False
section
theorem Ek{ds:List D}{i:Int}:dIx (.tup ds) (.int i) μ Q=match atI ds i with
  |some v=>Q v μ
  |none=>False:=rfl
theorem El{ds:List D}{i:Int}:dIx (.lst ds) (.int i) μ Q=match atI ds i with
  |some v=>Q v μ
  |none=>False:=rfl
theorem tU{a:α}{r:List α}:atI (a::r) 0=some a:=d_ (j:=0) rfl
theorem tV{a b:α}{r:List α}:atI (a::b::r) 1=some b:=d_ (j:=1) rfl
theorem Em{a b c:α}{r:List α}:atI (a::b::c::r) 2=some c:=d_ (j:=2) rfl
theorem En{a b c d:α}{r:List α}:atI (a::b::c::d::r) 3=some d:=d_ (j:=3) rfl
theorem Eo{a b c d e:α}{r:List α}:atI (a::b::c::d::e::r) 4=some e:=d_ (j:=4) rfl
theorem Jl{a:α}:atI [a] (-1)=some a:=rfl
theorem Jm{a b:α}:atI [a,b] (-1)=some b:=rfl
theorem Jn{a b c:α}:atI [a,b,c] (-1)=some c:=rfl
theorem Jo{a b c d:α}:atI [a,b,c,d] (-1)=some d:=rfl
theorem Jp{a b c d e:α}:atI [a,b,c,d,e] (-1)=some e:=rfl
theorem tW{f:α->β}{xs:List α}{i:Int}:atI (xs.map f) i=(atI xs i).map f:=by
 unfold atI;rw[List.length_map];cases ixN xs.length i with
 |none=>rfl
 |some j=>simp[List.getElem?_map]
theorem tX{xs:List α}{i:Int}{v:α}(hi:i=j)(h:xs[j]? = some v):atI xs i=some v:=by subst hi;exact d_ h
theorem nq{xs:List α}{i:Int}(h0:0<=i)(h1:i < xs.length):∃v,atI xs i=some v/\xs[i.toNat]? = some v:=by
 have hi:i.toNat < xs.length:=by omega
 exact⟨xs[i.toNat],tX (by omega) (List.getElem?_eq_getElem hi),List.getElem?_eq_getElem hi⟩
theorem tY{xs:List α}:atI xs (-1)=xs.getLast? := by
 rcases List.eq_nil_or_concat xs with rfl|⟨ys,v,rfl⟩
 .rfl
 .rw[List.concat_eq_append,qQ];simp
end
theorem dH{s1:DS}(R:aj->Mu->Prop)(h1:∀N:aj->Mu->Prop,(∀ ρ' μ',R ρ' μ'->N ρ' μ')->s1 {D' with nx:=N} ρ μ)(h2:∀ ρ' μ',R ρ' μ'->u D' ρ' μ'):zJ s1 u D' ρ μ:=h1 _ h2
def blK(Q:Bool->Mu->Prop):DK:=λd μ=>match d with
 | .bl b=>Q b μ
 |_=>False
def tZ(Q:Int->Mu->Prop):DK:=λd μ=>match d with
 | .int b=>Q b μ
 |_=>False
def chK(q':DR2)(e:D)(wc:DE)(ρ:aj)(Q:DK):DK:=λz μ3=>match z with
 | .bl k=>if k=true then wc ρ μ3 λf μ4=>q' e f μ4 Q else Q (.bl false) μ3
 |_=>False
def cellK(c:Option Ct)(Q:List D->Prop):Prop:=match c with
 |some (.lst ds)=>Q ds
 |_=>False
def ax(o:Option α)(Q:α->Prop):Prop:=match o with
 |some a=>Q a
 |none=>False
def iS(o:Option α)(f:α->β):Option β:=match o with
 |some a=>some (f a)
 |none=>none
theorem Jq{a:α}{f:α->β}:iS (some a) f=some (f a):=rfl
def gE(c:Option Ct)(Q:DK)(μ:Mu):Prop:=match c with
 |some (.lst ds)=>Q (.lst ds) μ
 |some (.dct ks vs)=>Q (.dct ks vs) μ
 |some (.dtt ks vs)=>Q (.dtt ks vs) μ
 |some (.ins C ns vs)=>Q (.obj C ns vs) μ
 |_=>False
def tyC(T:String)(c:Option Ct):Prop:=match c with
 |some (.lst _)=>"list"=T
 |some (.dct _ _)=>"dict"=T
 |some (.dtt _ _)=>"dict"=T
 |_=>False
section
variable{w wc:DE}{k:Nat}{d e:D}{ds es:List D}{i j:Int}{q q':DR2}
theorem nr{b:Bool}{R:Bool->Mu->Prop}:blK R (.bl b) μ=R b μ:=rfl
theorem Jr{R:Int->Mu->Prop}:tZ R (.int i) μ=R i μ:=rfl
theorem Js{b:Bool}:chK q' e wc ρ Q (.bl b) μ=if b=true then wc ρ μ λf μ4=>q' e f μ4 Q else Q (.bl false) μ:=rfl
theorem Jt{R:List D->Prop}:cellK (some (.lst ds)) R=R ds:=rfl
theorem j5{a:α}{R:α->Prop}:ax (some a) R=R a:=rfl
theorem Ju:gE (some (.lst ds)) Q μ=Q (.lst ds) μ:=rfl
theorem Jv{ks:List Key}:gE (some (.dct ks ds)) Q μ=Q (.dct ks ds) μ:=rfl
theorem Jw{ks:List (List Key)}:gE (some (.dtt ks ds)) Q μ=Q (.dtt ks ds) μ:=rfl
theorem Ep{C:Str}:gE (some (.ins C ns ds)) Q μ=Q (.obj C ns ds) μ:=rfl
theorem Jx:tyC "list" (some (.lst ds))=True:=eq_true rfl
theorem Jy{R:Bool->Mu->Prop}:zL w ρ μ R=w ρ μ (blK R):=rfl
theorem Jz:iE q q' wa wb wc ρ μ Q=wa ρ μ λd μ1=>wb ρ μ1 λe μ2=>q d e μ2 (chK q' e wc ρ Q):=rfl
theorem JA{R:Option Int->Mu->Prop}:aE w ρ μ R=w ρ μ (tZ λi=>R (some i)):=rfl
theorem JB{g:DG}{gs:DGs}{R:aj->Mu->Prop}:gx g gs (d::ds) ρ μ R=g d ρ μ λρ' μ'=>gs ds ρ' μ' R:=rfl
theorem JC{n:Nat}{gs:DGs}{R:aj->Mu->Prop}:DB n gs (.tup ds) ρ μ R=(ds.length=n/\gs ds ρ μ R):=rfl
def t3(i j:Nat)(D0:cN)(ρ:aj):List D->Mu->Prop:=λds μ1=>match ds with
 | [d,e]=>D0.nx ((ρ.set i (some d)).set j (some e)) μ1
 |_=>False
theorem JD{i j:Nat}:dPar i j wA D' ρ μ=wA ρ μ (t3 i j D' ρ):=rfl
theorem JE{i j:Nat}:t3 i j D' ρ [d,e] μ=D'.nx ((ρ.set i (some d)).set j (some e)) μ:=rfl
theorem Er:eh μ (.cell k) Q=gE (μ k) Q (dD μ k):=by
 unfold eh gE;cases h:μ k with
 |none=>simp[h]
 |some c=>cases c<;>simp[h]
theorem JF{g:Int->Int->D}:dI0 g (.int i) (.int j) μ Q=Q (g i j) μ:=rfl
theorem e_i{C:Int->Int->Prop}{g:Int->Int->D}:dI C g (.int i) (.int j) μ Q=(C i j/\Q (g i j) μ):=rfl
theorem JG:ca (.int i) μ Q=Q (.int (-i)) μ:=rfl
theorem Es:aM (.int i) (.int j) μ Q=Q (.int (i+j)) μ:=rfl
theorem JH{a b:Str}:aM (.str a) (.str b) μ Q=(a.length+b.length<=sizeLine/\Q (.str (a++b)) μ):=rfl
theorem Et:aM (.tup ds) (.tup es) μ Q=(ds≠[]/\ds.length+es.length<=sizeLine/\Q (.tup (ds++es)) μ):=rfl
theorem JI:aM (.lst ds) (.lst es) μ Q=(ds.length+es.length<=sizeLine/\Q (.lst (ds++es)) μ):=by
 show(∃a b,am μ (.lst ds)=some a/\am μ (.lst es)=some b/\a.length+b.length<=sizeLine/\Q (.lst (a++b)) μ)=_;simp only[gD,Option.some.injEq];refine propext ⟨λ⟨a,b,e1,e2,h⟩=>by subst e1 e2;exact h,λh=>⟨_,_,rfl,rfl,h⟩⟩
theorem Eu(μ:Mu)(k:Nat)(R:List D->Prop):(∃a,am μ (.cell k)=some a/\R a)=cellK (μ k) R:=by
 unfold am cellK;cases h:μ k with
 |none=>simp[h]
 |some c=>cases c<;>simp[h]
theorem JJ:aM (.lst ds) (.cell k) μ Q=cellK (μ k) λes=>ds.length+es.length<=sizeLine/\Q (.lst (ds++es)) μ:=by
 rw[<- Eu];show(∃a b,am μ (.lst ds)=some a/\am μ (.cell k)=some b/\a.length+b.length<=sizeLine/\Q (.lst (a++b)) μ)=_;refine propext ⟨λ⟨a,b,e1,e2,h⟩=>by cases e1;exact⟨_,e2,h⟩,λ⟨b,e2,h⟩=>⟨_,_,rfl,e2,h⟩⟩
theorem JK:iI (.int i) (.int j) μ Q=(dq i j/\Q (.int (i*j)) μ):=rfl
theorem JL:DN (.int i) (.int j) μ Q=Q (.int (i+j)) μ:=rfl
theorem nt:dIx (.tup ds) (.int i) μ Q=ax (atI ds i) λv=>Q v μ:=by
 rw[Ek];cases atI ds i<;>rfl
theorem Ew:dIx (.lst ds) (.int i) μ Q=ax (atI ds i) λv=>Q v μ:=by
 rw[El];cases atI ds i<;>rfl
theorem JM:dIx (.cell k) (.int i) μ Q=cellK (μ k) λds=>ax (atI ds i) λv=>Q v μ:=by
 show(match aY μ (.cell k) with|some ds=>(match L2.atI ds i with|some v=>Q v μ|none=>False)|none=>False)=_;unfold cellK aY am ax;cases h:μ k with
 |none=>simp[h]
 |some c =>
  cases c<;>simp[h]
  rename_i ds;cases atI ds i<;>simp
theorem JN:dIx (.str z) (.int i) μ Q=(z.length<=sizeLine/\ax (L2.atI z.cps.toList i) λc=>Q (.str ⟨#[c]⟩) μ):=by
 show(z.length<=sizeLine/\(match L2.atI z.cps.toList i with|some c=>Q (.str ⟨#[c]⟩) μ|none=>False))=_;cases L2.atI z.cps.toList i<;>rfl
theorem dJ:aF (.tup ds) lo hi μ Q=(¬ (HT.sIx ds.length 0 lo=0/\HT.sIx ds.length ds.length hi=ds.length)/\Q (.tup (cutD ds lo hi)) μ):=rfl
theorem JO:aF (.lst ds) lo hi μ Q=Q (.lst (cutD ds lo hi)) μ:=rfl
theorem JP:aN [.str z] μ Q=(z.length<=sizeLine/\Q (.int z.length) μ):=rfl
theorem JQ:aN [.lst ds] μ Q=Q (.int ds.length) μ:=rfl
theorem JR:aN [.tup ds] μ Q=Q (.int ds.length) μ:=rfl
theorem JS:aN [.cell k] μ Q=cellK (μ k) λds=>Q (.int ds.length) μ:=by
 show(match aY μ (.cell k) with|some es=>Q (.int es.length) μ|none=>False)=_;unfold cellK aY am;cases h:μ k with
 |none=>simp[h]
 |some c=>cases c<;>simp[h]
theorem JT:iK [.lst ds] μ Q=Q (.lst ds) μ:=rfl
theorem JU:iK [.tup ds] μ Q=Q (.lst ds) μ:=rfl
theorem JV:tJ [.lst ds] μ Q=∀k,μ k=none->Q (.cell k) (zR μ k (.lst ds)):=rfl
theorem JW:tJ [.tup ds] μ Q=∀k,μ k=none->Q (.cell k) (zR μ k (.lst ds)):=rfl
theorem Ey:cQ [.lst ds] μ Q=Q (.tup ds) μ:=rfl
theorem JX:cQ [.tup ds] μ Q=Q (.tup ds) μ:=rfl
theorem JY:cQ [.cell k] μ Q=cellK (μ k) λds=>Q (.tup ds) μ:=by
 show(match aY μ (.cell k) with|some es=>Q (.tup es) μ|none=>False)=_;unfold cellK aY am;cases h:μ k with
 |none=>simp[h]
 |some c=>cases c<;>simp[h]
theorem JZ:D4 [.int i] μ Q=Q (.int (if i < 0 then -i else i)) μ:=rfl
theorem J3:gB [.int i,.int j] μ Q=Q (.int (if j > i then j else i)) μ:=rfl
theorem J4:fK [.int i,.int j] μ Q=Q (.int (if j < i then j else i)) μ:=rfl
theorem J5:gB [.lst ds] μ Q=ax (intsOf ds) λns=>ns≠[]/\∀M∈ns,(∀a∈ns,a<=M)->Q (.int M) μ:=by
 unfold gB ax;simp only[gD,Option.bind_some];cases intsOf ds<;>rfl
theorem J6:fK [.lst ds] μ Q=ax (intsOf ds) λns=>ns≠[]/\∀M∈ns,(∀a∈ns,M<=a)->Q (.int M) μ:=by
 unfold fK ax;simp only[gD,Option.bind_some];cases intsOf ds<;>rfl
theorem J7:tI [.lst ds] μ Q=ax (intsOf ds) λns=>Q (.int ns.sum) μ:=by
 unfold tI ax;simp only[gD,Option.bind_some];cases intsOf ds<;>rfl
theorem J8:gC [.lst ds] μ Q=ax (bC ds) λns=>Q (.bl (ns.all id)) μ:=by
 unfold gC ax;simp only[gD,Option.bind_some];cases bC ds<;>rfl
theorem J9:ez [.lst ds] μ Q=ax (bC ds) λns=>Q (.bl (ns.any id)) μ:=by
 unfold ez ax;simp only[gD,Option.bind_some];cases bC ds<;>rfl
theorem J_:intsOf []=some []:=rfl
theorem Ka:intsOf (.int i::ds)=iS (intsOf ds) (λl=>i::l):=by
 unfold iS;simp only[intsOf];cases intsOf ds<;>rfl
theorem Kb:bC []=some []:=rfl
theorem Kc{b:Bool}:bC (.bl b::ds)=iS (bC ds) (λl=>b::l):=by
 unfold iS;simp only[bC];cases bC ds<;>rfl
theorem Kd{R:List D->(Mu->Prop)->Prop}:eW μ (.lst ds) R=R ds λ_=>True:=rfl
theorem Ke{R:List D->(Mu->Prop)->Prop}:eW μ (.tup ds) R=R ds λ_=>True:=rfl
theorem Kf{R:List D->(Mu->Prop)->Prop}:eW μ (.cell k) R=cellK (μ k) λds=>R ds λμ'=>μ' k=some (.lst ds):=by
 first
  | (unfold eW cellK
     cases h:μ k with
     |none=>simp[h]
     |some c=>cases c<;>simp[h])
  | (unfold lsM cellK
     cases h:μ k with
     |none=>simp[h]
     |some c=>cases c<;>simp[h])
theorem Kg{R:List D->(Mu->Prop)->Prop}:lsM μ (.lst ds) R=R ds λ_=>True:=rfl
def t4(R:List D->(Mu->Prop)->Mu->Prop):List D->Mu->Prop:=λds μ1=>match ds with
 | [.int j]=> -(2^62)<=j/\j < 2^62/\R ((b8 0 j.toNat).map D.int) (λ_=>True) μ1
 |_=>False
def t5(R:List D->(Mu->Prop)->Mu->Prop):List D->Mu->Prop:=λds μ1=>match ds with
 | [.int i,.int j]=>(-(2^62)<=i/\i < 2^62/\ -(2^62)<=j/\j < 2^62)/\R ((b8 i (j - i).toNat).map D.int) (λ_=>True) μ1
 |_=>False
theorem Kh{R:List D->(Mu->Prop)->Mu->Prop}:eA wA ρ μ R=wA ρ μ (t4 R):=rfl
theorem Ki{R:List D->(Mu->Prop)->Mu->Prop}:t4 R [.int j] μ=(-(2^62)<=j/\j < 2^62/\R ((b8 0 j.toNat).map D.int) (λ_=>True) μ):=rfl
theorem Kj{R:List D->(Mu->Prop)->Mu->Prop}:D8 wA ρ μ R=wA ρ μ (t5 R):=rfl
theorem Kk{R:List D->(Mu->Prop)->Mu->Prop}:t5 R [.int i,.int j] μ=((-(2^62)<=i/\i < 2^62/\ -(2^62)<=j/\j < 2^62)/\R ((b8 i (j - i).toNat).map D.int) (λ_=>True) μ):=rfl
def t6(R:List D->(Mu->Prop)->Mu->Prop):List D->Mu->Prop:=λes μ1=>match es with
 | [d,e]=>lsM μ1 d λds P1=>lsM μ1 e λes P2=>R ((ds.zip es).map pairD) (λμ'=>P1 μ'/\P2 μ') μ1
 |_=>False
theorem Kl{R:List D->(Mu->Prop)->Mu->Prop}:Ej wA ρ μ R=wA ρ μ (t6 R):=rfl
theorem Km{R:List D->(Mu->Prop)->Mu->Prop}:t6 R [d,e] μ=lsM μ d λds P1=>lsM μ e λes P2=>R ((ds.zip es).map pairD) (λμ'=>P1 μ'/\P2 μ') μ:=rfl
theorem Kn{many:Int}:aX [.cell k,.int many] μ Q=(μ k=some .draw/\0 < many/\many < 2^250/\∀v,0<=v->v < many->Q (.int v) μ):=rfl
theorem Ko{ns:List Int}:j4 [.scr ns] μ Q=∀k,μ k=none->Q (.cell k) (zR μ k .draw):=rfl
theorem Kp:tyM T μ (.cell k)=tyC T (μ k):=by
 unfold tyM tyD tyC;cases h:μ k with
 |none=>simp[h]
 |some c=>cases c<;>simp[h]
theorem Kq:tyM "list" μ (.lst ds)=True:=eq_true rfl
theorem Kr:tyM "str" μ (.str z)=True:=eq_true rfl
theorem Ks{R:Nat->List D->Prop}:bS μ (.cell k) R=cellK (μ k) (R k):=by
 unfold bS cellK;cases h:μ k with
 |none=>simp[h]
 |some c=>cases c<;>simp[h]
theorem Kt:bM d [e] μ Q=bS μ d λk ds=>ds.length < sizeLine/\Q .non (zR μ k (.lst (ds++[e]))):=rfl
theorem Ku:tQ d [] μ Q=bS μ d λk ds=>ax ds[ds.length - 1]? λy=>Q y (zR μ k (.lst ds.dropLast)):=by
 refine congrArg (bS μ d) (funext λk=>funext λds=>?_);cases ds[ds.length - 1]? <;> rfl
theorem Kv:tQ d [.int i] μ Q=bS μ d λk ds=> -(2^63)<=i/\i < 2^63/\ax (ixN ds.length i) λj=>ax ds[j]? λy=>Q y (zR μ k (.lst (ds.eraseIdx j))):=by
 refine congrArg (bS μ d) (funext λk=>funext λds=>?_);refine congrArg (And _) (congrArg (And _) ?_);unfold ax;cases ixN ds.length i with
 |none=>rfl
 |some j =>
  generalize ds.eraseIdx j=ee
  simp only;cases ds[j]? <;> rfl
theorem Kw{R:Mu->Prop}:Ed d (.int i) e μ R=bS μ d λk ds=>ax (ixN ds.length i) λj=>R (zR μ k (.lst (ds.set j e))):=by
 refine congrArg (bS μ d) (funext λk=>funext λds=>?_);cases ixN ds.length i<;>rfl
theorem Kx:dIs d .non μ Q=Q (.bl (c9 d)) μ:=rfl
theorem Ky:DQ d .non μ Q=Q (.bl (!c9 d)) μ:=rfl
theorem Ez{x:Int}:iL [(.int x),.ty "int"] μ Q=Q (.bl true) μ:=by show("int"∈aZ/\Q (.bl (ce "int" "int")) μ)=_;rw[show("int"∈aZ)=True from eq_true (by decide),true_and];rfl
theorem EA{x:Int}:iL [(.int x),.ty "bool"] μ Q=Q (.bl false) μ:=by show("bool"∈aZ/\Q (.bl (ce "int" "bool")) μ)=_;rw[show("bool"∈aZ)=True from eq_true (by decide),true_and];rfl
end
def t7(ds:List D):List D:=((List.range ds.length).zip ds).map λp=> .tup [.int p.1,p.2]
def t8(R:List D->(Mu->Prop)->Mu->Prop):List D->Mu->Prop:=λes μ1=>match es with
 | [d]=>lsM μ1 d λds P1=>R (t7 ds) P1 μ1
 |_=>False
def Kz(w:DA):DI:=λρ μ Q=>w ρ μ (t8 Q)
theorem KA{d:D}{R:List D->(Mu->Prop)->Mu->Prop}:t8 R [d] μ=lsM μ d λds P1=>R (t7 ds) P1 μ:=rfl
section
variable(K:Frag)
def t9:List V->Hp->VK->Prop:=λxs H Q=>∃a ys c b,xs=[.ref a,c]/\SqT K H a ys/\(∀u,RelV c u->kitOne K (.type "tuple") u=some b)/\Q (.bl b) H
def t_:List V->Hp->VK->Prop:=λxs H Q=>ni K xs H Q\/t9 K xs H Q
theorem EB(h:X.K=K:=by rfl):zW X (.builtin "isinstance") (t9 K):=by
 subst h;intro pins s σ H xs us Q I r h;obtain⟨a,ys,c,b,rfl,hq,hk,q⟩:=h;obtain⟨u,w,rfl,ra,rc⟩:=vals2 r;cases ra;obtain⟨its,rv,p,hz⟩:=I.tuple hq;obtain⟨o,h1,h2,_⟩:=p;exact kia_one PySem.W.kitx_tuple I.kIn ⟨o,h1,h2⟩ (hk w rc) (λz=>nomatch z) λtk=>⟨.bl b,H,I.tok _,rfl,q⟩
theorem ua(h:X.K=K:=by rfl):zW X (.builtin "isinstance") (t_ K):=(D2 K h).or (EB K h)
end
def cS:DRs:=λds μ Q=>match ds with
 | [.tup _,.ty T]=>T∈aZ/\Q (.bl (ce "tuple" T)) μ
 |ds=>iL ds μ Q
theorem EC(h':T∈aZ):kitOne K (.type "tuple") (.type T)=some (ce "tuple" T):=by
 simp only[aZ,List.mem_cons,List.not_mem_nil,or_false] at h';rcases h' with rfl|rfl|rfl|rfl|rfl|rfl<;>rfl
instance:bu K fl (t_ K) cS:=⟨λ{W μ H ds xs Q Q'} r z h k=>by
 unfold cS at h;split at h
 .rename_i es T;obtain⟨x,y,rfl,q1,q2⟩:=z.two;obtain⟨a,ys,rfl,hs,_⟩:=q1.tup';unfold Rep at q2;subst q2;exact .inr ⟨a,ys,.ty T,ce "tuple" T,rfl,hs.sm r.sub,λu hu=>by cases hu;exact EC h.1,k _ _ _ _ _ (.refl _) r .b h.2⟩
 .exact .inl (bu.run (K:=K) r z h k)⟩
inductive Src where
 |p (i:Nat)|k (i:Nat)|c (i:Nat)
variable{pat:List Src}
def pick(d:α)(cs us ws:List α):Src->α
 | .p i=>us.getD i d
 | .k i=>ws.getD i d
 | .c i=>cs.getD i d
def sel(n m:Nat)(pat:List Src)(d:α)(cs us ws:List α):List α:=bif (us.length==n&&ws.length==m) then pat.map (pick d cs us ws) else[]
theorem Vals.getD{vs:List V}(h:Vals vs us)(i:Nat):RelV (vs.getD i .non) (us.getD i .none):=by
 rw[List.getD_eq_getElem?_getD,List.getD_eq_getElem?_getD];cases e:vs[i]? with
 |none =>
  have:us[i]? = none:=by
   rw[List.getElem?_eq_none_iff] at e ⊢;rw[<- h.length];exact e
  rw[this];rfl
 |some v =>
  obtain⟨u,hu,rv⟩:=h.get e;rw[hu];exact rv
theorem Vals.mapS{f:Src->V}{g:Src->Value}(h:∀x,RelV (f x) (g x)):∀pat:List Src,Vals (pat.map f) (pat.map g)
 | []=> .nil
 |x::r=> .cons (h x) (Vals.mapS h r)
theorem ED{n:Nat}{vs:List V}(hc:Vals csV csU)(h1:Vals vs us)(h2:Vals zs ws):Vals (sel n m pat .non csV vs zs) (sel n m pat .none csU us ws):=by
 unfold sel;rw[h1.length,h2.length];cases (us.length==n&&ws.length==m) with
 |false=>exact .nil
 |true =>
  refine Vals.mapS (λx=>?_) pat;cases x with
  |p i=>exact h1.getD i
  |k i=>exact h2.getD i
  |c i=>exact hc.getD i
section
variable{W:Wd}
theorem zA.getD{ds:List D}(h:zA K W ds xs)(i:Nat):Rep K W (ds.getD i .non) (xs.getD i .non):=by
 rw[List.getD_eq_getElem?_getD,List.getD_eq_getElem?_getD];cases e:ds[i]? with
 |none =>
  have:xs[i]? = none:=by
   rw[List.getElem?_eq_none_iff] at e ⊢;rw[h.length];exact e
  rw[this];exact .n
 |some v =>
  obtain⟨u,hu,rv⟩:=h.get e;rw[hu];exact rv
theorem zA.mapS{f:Src->D}{g:Src->V}(h:∀x,Rep K W (f x) (g x)):∀pat:List Src,zA K W (pat.map f) (pat.map g)
 | []=> .nil
 |x::r=> .cons (h x) (zA.mapS h r)
theorem iT{n:Nat}{vs:List V}{csD ds es:List D}(hc:zA K W csD csV)(h1:zA K W ds vs)(h2:zA K W es zs):zA K W (sel n m pat .non csD ds es) (sel n m pat .non csV vs zs):=by
 unfold sel;rw[h1.length,h2.length];cases (ds.length==n&&es.length==m) with
 |false=>exact .nil
 |true =>
  refine zA.mapS (λx=>?_) pat;cases x with
  |p i=>exact h1.getD i
  |k i=>exact h2.getD i
  |c i=>exact hc.getD i
end
theorem EF{n:Nat}(hc:Vals csV csU)(hp:ps.length≠0)
  (h:∀(S:Setting) (us ws:List Value),us.length=n->ws.length=m->PySem.W.peek K S (bindArgs fd ⟨us,ks.zip ws⟩)=some (ps.zip (sel n m pat .none csU us ws))):cV K fd ps ks (sel n m pat .none csU) (sel n m pat .non csV) where
 to:=λs us ws hK hl=>by
  by_cases c:us.length=n/\ws.length=m
  .exact PySem.W.kp_binds hK λS=>h S us ws c.1 c.2
  .have:(us.length==n&&ws.length==m)=false:=by
    rw[Bool.and_eq_false_iff];by_cases c1:us.length=n
    .exact .inr (by rw[beq_eq_false_iff_ne];exact λz=>c ⟨c1,z⟩)
    .exact .inl (by rw[beq_eq_false_iff_ne];exact c1)
   unfold sel at hl;rw[this] at hl;exact absurd hl.symm hp
 rel:=λr rz=>ED hc r rz
class fL(K:Frag)(ds:List D)(xs:List V):Prop where
 run:∀W,zA K W ds xs
instance:fL K [] []:=⟨λ_=> .nil⟩
def KB(dsp:DSp)(n m:Nat)(pat:List Src)(cs:List D)(w wk:DA):DE:=λρ μ Q=>w ρ μ λds μ1=>wk ρ μ1 λes μ2=>dsp (sel n m pat .non cs ds es) μ2 Q
theorem nu:∀{us:List Value} {ns:List Str},StrsAre us ns->Vals (ns.map V.str) us
 |_,_,.nil=> .nil
 |_,_,.cons n t h=> .cons ⟨t,rfl⟩ (nu h)
theorem ub:∀{us:List Value} {ns:List Int},IntsAre us ns->Vals (ns.map V.int) us
 |_,_,.nil=> .nil
 |_,_,.cons n t h=> .cons ⟨t,rfl⟩ (ub h)
theorem nv:∀{ns:List Str} {us:List Value},Vals (ns.map V.str) us->StrsAre us ns
 | [],_,h=>by cases h;exact .nil
 |y::r,_,h=>by
  cases h with
  |cons a b=>obtain⟨t,rfl⟩:=a;exact .cons y t (nv b)
section
variable(K:Frag)
def uc:List V->Hp->VK->Prop:=λxs H Q=>∃p ns,xs=[.ref p]/\SqL K H p (ns.map V.int)/\ns.length < 64/\∀ns' l,List.Perm ns' ns->List.Pairwise (·<= ·) ns'->H l=none->Q (.ref l) (upd H l (.lst (ns'.map V.int)))
def ud:List V->Hp->VK->Prop:=λxs H Q=>∃p ns,xs=[.ref p]/\SqL K H p (ns.map V.str)/\ns.length < 64/\∀ns' l,List.Perm ns' ns->sortedS ns'=true->H l=none->Q (.ref l) (upd H l (.lst (ns'.map V.str)))
theorem EG(h:X.K=K:=by rfl):zW X (.builtin "sorted") (uc K):=by
 subst h;intro pins s σ H xs us Q I r h;obtain⟨p,ns,rfl,hl,hz,q⟩:=h;obtain⟨u,rfl,rx⟩:=vals1 r;cases rx;obtain⟨its,r',pl,hz'⟩:=I.list hl;have hi:=jJ r';refine sorted_ints pl.isList hi (by rw[<- r'.length,List.length_map];exact hz) λout ns' h1 h2 h3=>?_
 obtain⟨e,he⟩:=sortedAll_at s.heap its out;have hf:H (s.heap.objs.size+1)=none:=I.hok.fresh (Nat.le_succ _);refine⟨.ref (s.heap.objs.size+1),_,I.laid (a:=s.heap.objs.size+1) (o:= .lst (ns'.map V.int)) (t':=s.toks) (λb o e=>sortedAll_old e) (Nat.le_succ _) ?_,rfl,q ns' _ h2 h3 hf⟩;refine⟨by rw[List.length_map,h2.length_eq];exact Nat.le_trans (Nat.le_of_lt hz) (by decide),out.toList,e,ub h1,?_⟩;rw[he]
theorem EH(h:X.K=K:=by rfl):zW X (.builtin "sorted") (ud K):=by
 subst h;intro pins s σ H xs us Q I r h;obtain⟨p,ns,rfl,hl,hz,q⟩:=h;obtain⟨u,rfl,rx⟩:=vals1 r;cases rx;obtain⟨its,r',pl,hz'⟩:=I.list hl;have hi:=nv r';refine sorted_strs pl.isList hi (by rw[<- r'.length,List.length_map];exact hz) λout ns' h1 h2 h3=>?_
 obtain⟨e,he⟩:=sortedAll_at s.heap its out;have hf:H (s.heap.objs.size+1)=none:=I.hok.fresh (Nat.le_succ _);refine⟨.ref (s.heap.objs.size+1),_,I.laid (a:=s.heap.objs.size+1) (o:= .lst (ns'.map V.str)) (t':=s.toks) (λb o e=>sortedAll_old e) (Nat.le_succ _) ?_,rfl,q ns' _ h2 h3 hf⟩;refine⟨by rw[List.length_map,h2.length_eq];exact Nat.le_trans (Nat.le_of_lt hz) (by decide),out.toList,e,nu h1,?_⟩;rw[he]
def j6:List V->Hp->VK->Prop:=λxs H Q=>uc K xs H Q\/ud K xs H Q
theorem EI(h:X.K=K:=by rfl):zW X (.builtin "sorted") (j6 K):=(EG K h).or (EH K h)
end
def j7:DRs:=λds μ Q=>match ds with
 | [d]=>(∃ns,am μ d=some (ns.map D.int)/\ns.length < 64/\∀ns',List.Perm ns' ns->List.Pairwise (·<= ·) ns'->Q (.lst (ns'.map D.int)) μ) \/
   (∃ns,am μ d=some (ns.map D.str)/\ns.length < 64/\∀ns',List.Perm ns' ns->sortedS ns'=true->Q (.lst (ns'.map D.str)) μ)
 |_=>False
instance:bu K fl (j6 K) j7:=⟨λ{W μ H ds xs Q Q'} r z h k=>by
 unfold j7 at h;split at h
 .obtain⟨x,rfl,q⟩:=z.one;rcases h with⟨ns,hl,hz,h⟩|⟨ns,hl,hz,h⟩
  .obtain⟨a,xs,rfl,e1,z1⟩:=cO r q hl;rw[z1.ints] at e1;refine .inl ⟨a,ns,rfl,SqL.of e1,hz,λns' l h1 h2 hl=>?_⟩;obtain⟨r2,le2⟩:=r.newF (o:= .lst (ns'.map V.int)) hl;exact k _ _ _ _ _ le2 r2 (.lst zB (.of_ints ns')) (h ns' h1 h2)
  .obtain⟨a,xs,rfl,e1,z1⟩:=cO r q hl;rw[z1.strs] at e1;refine .inr ⟨a,ns,rfl,SqL.of e1,hz,λns' l h1 h2 hl=>?_⟩;obtain⟨r2,le2⟩:=r.newF (o:= .lst (ns'.map V.str)) hl;exact k _ _ _ _ _ le2 r2 (.lst zB (.of_strs ns')) (h ns' h1 h2)
 .exact h.elim⟩
theorem KC:c9 .non=true:=rfl
theorem KD{i:Int}:c9 (.int i)=false:=rfl
theorem KE{i:Str}:c9 (.str i)=false:=rfl
theorem KF{i:Bool}:c9 (.bl i)=false:=rfl
theorem KG{i:List D}:c9 (.lst i)=false:=rfl
theorem KH{i:List D}:c9 (.tup i)=false:=rfl
theorem KI{i:Nat}:c9 (.cell i)=false:=rfl
section
theorem KJ{x:Int}:cS [(.int x),.ty "int"] μ Q=Q (.bl true) μ:=Ez (x:=x)
theorem KK{x:Int}:cS [(.int x),.ty "bool"] μ Q=Q (.bl false) μ:=EA (x:=x)
theorem KL{x:List D}:cS [.tup x,.ty "int"] μ Q=Q (.bl false) μ:=by show("int"∈aZ/\Q (.bl (ce "tuple" "int")) μ)=_;rw[show("int"∈aZ)=True from eq_true (by decide),true_and];rfl
theorem KM{x:List D}:cS [.tup x,.ty "bool"] μ Q=Q (.bl false) μ:=by show("bool"∈aZ/\Q (.bl (ce "tuple" "bool")) μ)=_;rw[show("bool"∈aZ)=True from eq_true (by decide),true_and];rfl
theorem KN{x:List D}:cS [.tup x,.ty "str"] μ Q=Q (.bl false) μ:=by show("str"∈aZ/\Q (.bl (ce "tuple" "str")) μ)=_;rw[show("str"∈aZ)=True from eq_true (by decide),true_and];rfl
theorem KO{x:List D}:cS [.tup x,.ty "list"] μ Q=Q (.bl false) μ:=by show("list"∈aZ/\Q (.bl (ce "tuple" "list")) μ)=_;rw[show("list"∈aZ)=True from eq_true (by decide),true_and];rfl
theorem KP{x:List D}:cS [.tup x,.ty "tuple"] μ Q=Q (.bl true) μ:=by show("tuple"∈aZ/\Q (.bl (ce "tuple" "tuple")) μ)=_;rw[show("tuple"∈aZ)=True from eq_true (by decide),true_and];rfl
theorem KQ{x:List D}:cS [.tup x,.ty "dict"] μ Q=Q (.bl false) μ:=by show("dict"∈aZ/\Q (.bl (ce "tuple" "dict")) μ)=_;rw[show("dict"∈aZ)=True from eq_true (by decide),true_and];rfl
end
theorem stp{s:DS}(h:∀N:aj->Mu->Prop,(∀ ρ' μ',u D' ρ' μ'->N ρ' μ')->s {D' with nx:=N} ρ μ):zJ s u D' ρ μ:=h _ λ_ _ z=>z
section
variable{g:DG}{Fin:List D->Mu->Prop}{d:D}{r ys:List D}
end
abbrev Tab:=List (Str×List Str)
def cg(tab:Tab)(c f:Str):Bool:=tab.any λp=>p.1==c&&p.2.contains f
class TabOk(K:Frag)(tab:Tab):Prop where
 run:∀c f C,cg tab c f=true->clsOf K c=some C->Cls K C/\bZ K C f
def eB(tab:Tab)(f c:Str)(ns:List Str)(vs:List D)(R:D->Prop):Prop:=cg tab c f=true/\ax ((ns.zip vs).lookup f) R
def eD(c:Option Ct)(R:Str->List Str->List D->Prop):Prop:=match c with
 |some (.ins c ns vs)=>R c ns vs
 |_=>False
def eX(μ:Mu)(d:D)(R:Str->List Str->List D->Prop):Prop:=match d with
 | .obj c ns vs=>R c ns vs
 | .cell k=>eD (μ k) R
 |_=>False
theorem KR{c:Str}{vs:List D}{R:Str->List Str->List D->Prop}:eD (some (.ins c ns vs)) R=R c ns vs:=rfl
theorem EJ{o:Option Ct}{R:Str->List Str->List D->Prop}(h:eD o R):∃c ns vs,o=some (.ins c ns vs)/\R c ns vs:=by
 unfold eD at h;split at h
 .exact⟨_,_,_,rfl,h⟩
 .exact h.elim
theorem KS{c:Str}{vs:List D}{R:Str->List Str->List D->Prop}:eX μ (.obj c ns vs) R=R c ns vs:=rfl
theorem KU{k:Nat}{R:Str->List Str->List D->Prop}:eX μ (.cell k) R=eD (μ k) R:=rfl
def EK(tab:Tab)(f:Str)(Q:DK):DK:=λd μ=>eX μ d λc ns vs=>eB tab f c ns vs λv=>Q v μ
def aR(tab:Tab)(w:DE)(f:Str):DE:=λρ μ Q=>w ρ μ (EK tab f Q)
section
variable{W:Wd}
theorem nz{d:D}{x:V}{R:Str->List Str->List D->Prop}(r:Rel K fl W μ H)(q:Rep K W d x)(h:eX μ d R):∃c C a dx ns vs xs,clsOf K c=some C/\x= .ref a/\H a=some (.ins C dx (ns.zip xs))/\ns.length=xs.length/\zA K W vs xs/\R c ns vs:=by
 unfold eX at h;split at h
 .rename_i c ns vs;unfold Rep at q;obtain⟨C,a,dx,xs,hc,rfl,e,l,z⟩:=q;exact⟨c,C,a,dx,ns,vs,xs,hc,rfl,r.sub _ _ e,l,z,h⟩
 .rename_i k;obtain⟨a,rfl,hb⟩:=q.cell';unfold eD at h;split at h
  .rename_i c ns vs hk;obtain⟨a',e1,e2,C,dx,xs,hc,e3,l3,q3⟩:=r.cel k _ hk;rw[hb] at e1;cases e1;exact⟨c,C,a,dx,ns,vs,xs,hc,rfl,e3,l3,q3,h⟩
  .exact h.elim
 .exact h.elim
theorem zA.lookup{f:Str}:∀{ns:List Str} {vs:List D} {xs:List V} {v:D},zA K W vs xs->(ns.zip vs).lookup f=some v->∃x,(ns.zip xs).lookup f=some x/\Rep K W v x
 | [],_,_,_,_,h=>by simp at h
 |_::_,[],_,_,_,h=>by simp at h
 |n::ns,d::vs,xs,v,r,h=>by
  obtain⟨x,xs,rfl,q,z⟩:=r.uncons;simp only[List.zip_cons_cons,List.lookup_cons] at h ⊢;cases e:(f==n) with
  |true=>rw[e] at h;cases h;exact⟨x,rfl,q⟩
  |false=>rw[e] at h;exact zA.lookup z h
theorem zA.lookup_none{f:Str}:∀{ns:List Str} {vs:List D} {xs:List V},zA K W vs xs->(ns.zip vs).lookup f=none->(ns.zip xs).lookup f=none
 | [],_,_,_,_=>by simp
 |_::_,[],_,r,_=>by rw[r.nil'];simp
 |n::ns,d::vs,xs,r,h=>by
  obtain⟨x,xs,rfl,q,z⟩:=r.uncons;simp only[List.zip_cons_cons,List.lookup_cons] at h ⊢;cases e:(f==n) with
  |true=>rw[e] at h;cases h
  |false=>rw[e] at h;exact zA.lookup_none z h
instance{tab:Tab}{f:Str}[t:TabOk K tab][a:zV K fl ta wa]:zV K fl (jz K ta f) (aR tab wa f):=⟨λ{W ρ μ σ H Q Q'} r e h k=>a.run r e h λW1 d μ1 x H1 le1 r1 q1 h1=>by
 obtain⟨c,C,a,dx,ns,vs,xs,hc,rfl,ea,l,z,hi,hl⟩:=nz r1 q1 h1;unfold ax at hl;split at hl
 .rename_i v hv;obtain⟨x,hx,q⟩:=z.lookup hv;obtain⟨c1,c2⟩:=t.run c f C hi hc;exact⟨a,C,dx,_,x,rfl,ea,c1,c2,hx,k _ _ _ _ _ le1 r1 q hl⟩
 .exact hl.elim⟩
end
def putN(f:Str):List Str->List Str
 | []=>[f]
 |g::r=>if g=f then g::r else g::putN f r
def putD(f:Str)(v:D):List Str->List D->List D
 |g::r,x::xs=>if g=f then v::xs else x::putD f v r xs
 |_,_=>[v]
def bv(tab:Tab)(f:Str)(v:D)(c:Str)(ns:List Str)(vs:List D)(R:List Str->List D->Prop):Prop:=cg tab c f=true/\ns.length < 1000/\R (putN f ns) (putD f v ns vs)
def dM(tab:Tab)(wo w:DE)(f:Str):DS:=λD ρ μ=>w ρ μ λv μ1=>wo ρ μ1 λd μ2=>match d with
 | .cell k=>eD (μ2 k) λc ns vs=>bv tab f v c ns vs λns' vs'=>D.nx ρ (zR μ2 k (.ins c ns' vs'))
 |_=>False
def ue(tab:Tab)(f:Str)(v:D)(D0:cN)(ρ:aj):DK:=λd μ2=>match d with
 | .cell k=>eD (μ2 k) λc ns vs=>bv tab f v c ns vs λns' vs'=>D0.nx ρ (zR μ2 k (.ins c ns' vs'))
 |_=>False
theorem KW{tab:Tab}{w:DE}{f:Str}{D0:cN}:dM tab wo w f D0 ρ μ=w ρ μ λv μ1=>wo ρ μ1 (ue tab f v D0 ρ):=rfl
theorem KY{tab:Tab}{f:Str}{v:D}{D0:cN}{k:Nat}:ue tab f v D0 ρ (.cell k) μ=eD (μ k) λc ns vs=>bv tab f v c ns vs λns' vs'=>D0.nx ρ (zR μ k (.ins c ns' vs')):=rfl
section
variable{W:Wd}
theorem uf{f:Str}{y:V}:∀{ns:List Str} {xs:List V},ns.length=xs.length->∃xs',bp f y (ns.zip xs)=(putN f ns).zip xs'/\(putN f ns).length=xs'.length/\∀{vs:List D} {v:D},zA K W vs xs->Rep K W v y->zA K W (putD f v ns vs) xs'
 | [],[],_=>⟨[y],rfl,rfl,λ{vs v} r q=>by
   cases vs with
   |nil=>exact .cons q .nil
   |cons d vs=>obtain⟨x,r',e,_⟩:=r.uncons;cases e⟩
 | [],_::_,h=>by simp at h
 |_::_,[],h=>by simp at h
 |n::ns,x::xs,h=>by
  obtain⟨xs',e1,e2,e3⟩:=uf (f:=f) (y:=y) (ns:=ns) (xs:=xs) (by simpa using h);by_cases hn:n=f
  .refine⟨y::xs,?_,?_,λ{vs v} r q=>?_⟩
   .simp[bp,putN,hn]
   .simp only[putN,if_pos hn];simpa using h
   .cases vs with
    |nil=>have:=r.nil';cases this
    |cons d vs =>
     obtain⟨x',r',e,q1,z⟩:=r.uncons;cases e;simp only[putD,if_pos hn];exact .cons q z
  .refine⟨x::xs',?_,?_,λ{vs v} r q=>?_⟩
   .simp only[List.zip_cons_cons,bp,putN,if_neg hn,e1]
   .simp only[putN,if_neg hn,List.length_cons,e2]
   .cases vs with
    |nil=>have:=r.nil';cases this
    |cons d vs =>
     obtain⟨x',r',e,q1,z⟩:=r.uncons;cases e;simp only[putD,if_neg hn];exact .cons q1 (e3 z q)
instance{tab:Tab}{f:Str}[t:TabOk K tab][a:zV K fl ta wa][b:zV K fl tv wv]:aV K fl (jA K ta tv f) (dM tab wa wv f):=⟨λ{W ρ μ σ H D' D} r e h k=>b.run r e h λW1 v μ1 y H1 le1 r1 qv h1=>a.run r1 (e.mono le1) h1 λW2 d μ2 x H2 le2 r2 q2 h2=>by
 cases d<;>first|exact h2.elim|skip
 rename_i kk;obtain⟨a,rfl,hb⟩:=q2.cell';obtain⟨c,ns,vs,hk,h2⟩:=EJ (o:=μ2 kk) h2;obtain⟨a',e1,e2,C,dx,xs,hc,e3,l3,q3⟩:=r2.cel kk _ hk;rw[hb] at e1;cases e1;obtain⟨hi,hz,h2⟩:=h2;obtain⟨c1,c2⟩:=t.run c f C hi hc;obtain⟨xs',p1,p2,p3⟩:=uf (K:=K) (W:=W2) (f:=f) (y:=y) l3;refine⟨a,C,dx,_,rfl,e3,c1,c2,by rw[List.length_zip,<- l3,Nat.min_self];exact hz,?_⟩;rw[p1];exact k.nx W2 ρ _ σ _ (le1.trans le2) (r2.setC (c':= .ins c (putN f ns) (putD f v ns vs)) hk hb ⟨C,dx,xs',hc,rfl,p2,p3 q3 (qv.mono le2)⟩) (e.mono (le1.trans le2)) h2⟩
end
structure bT(P:Program)(w:World)(K:Frag)(mg:Str->Option Value)(base:Heap)(CX:CXT)(c m:Str)(k:Nat)(ps:List Str)(sp:Sp)(ks:List Str)(gV:List V->List V->List V):Prop where
 ex:∃C f fd g,clsOf K c=some C/\Cls K C/\Meth K C m f/\zU P w K mg base CX k f fd ps sp/\cV K fd ps ks g gV
def nA(K:Frag)(c m:Str)(sp:Sp)(gV:List V->List V->List V)(E:XK)(ta:TE)(t tk:TA):TE:=λσ H Q=>ta σ H λx H1=>∃C a dx fs,clsOf K c=some C/\x= .ref a/\H1 a=some (.ins C dx fs)/\fs.lookup m=none /\
 t σ H1 λvs H2=>tk σ H2 λzs H3=>sp (gV (x::vs) zs) H3 Q E
section
variable{k:Nat}{E:XK}{c m:Str}{e o:Expr}{t:TA}
theorem bU{pl:Sem Bool}(K:Frag)(hh:bT X.prog X.w X.K X.mg X.base CX c m j ps sp ks gV)(hr:aS k X.A)(he:WE X o ta)(ha:WA X (e::es) t)(hkw:WK X kws tk)(hK:X.K=K:=by rfl)(hj:j<=k:=by decide)(hx:cU CX X E:=by exact gl)
  (hall:(backToKw pos (keywordEach kws X.env)).all (·.1.isSome)=true:=by rfl)(hks:(backToKw pos (keywordEach kws X.env)).filterMap (·.1)=ks:=by rfl)
  (hst:starEach (e::es) X.env=(false,eval e X.env)::starEach es X.env:=by rfl)
  (hpl:((backTo pos (starEach (e::es) X.env)).any (·.1)||(backToKw pos (keywordEach kws X.env)).any (·.1.isNone))=false:=by rfl)
  (ht:eval (.Call (.Attribute o m apos) (e::es) kws pos) X.env=(do
   let ov<-eval o X.env
   standAt apos.atName
   let (f,first)<-holding [ov] (getMethod ov m pl)
   callWith pos f first (backTo pos (starEach (e::es) X.env)) (backToKw pos (keywordEach kws X.env))):=by rfl) :
  WE X (.Call (.Attribute o m apos) (e::es) kws pos) (nA K c m sp gV E ta t tk):=⟨by
 subst hK;obtain⟨C0,f,fd,g,hc0,hcl,hm,F,hb⟩:=hh.ex;intro pins s σ H Q I h;refine methodCall_KW (pl:=pl) (thn (he.out pins s σ H _ I h) λu s1 ⟨x,H1,I1,rx,C,a,dx,fs,hc,ex,ea,l,q⟩=>?_) ht;rw[hc0] at hc;cases hc;subst ex;obtain rfl:u=Value.ref a:=rx;refine mq I1 ea hcl hm l ?_;refine callWith_KW (first:=[.ref a]) (h₀:=X.base) I.ok.mod.kin hm.kp hall (thn (ha.out pos pins s1 σ H1 _ I1 q) λus s2 ⟨vs,H2,I2,r,q2⟩=>?_) hpl hst;refine thn (hkw.out pos pins s2 σ H2 _ I2 q2) λws s3 ⟨zs,H3,I3,rz,q3⟩=>⟨I3.kIn,?_⟩
 rw[hks];exact qD (us:= .ref a::us) (vs:= .ref a::vs) (F.mono hj) hr hb hx I3 (.cons rfl r) rz q3⟩
theorem ug{pl:Sem Bool}(K:Frag)(hh:bT X.prog X.w X.K X.mg X.base CX c m j ps sp [] gV)(hr:aS k X.A)(he:WE X o ta)(hK:X.K=K:=by rfl)(hj:j<=k:=by decide)(hx:cU CX X E:=by exact gl)
  (ht:eval (.Call (.Attribute o m apos) [] [] pos) X.env=(do
   let ov<-eval o X.env
   standAt apos.atName
   let (f,first)<-holding [ov] (getMethod ov m pl)
   callWith pos f first (backTo pos (starEach [] X.env)) (backToKw pos (keywordEach [] X.env))):=by rfl) :
  WE X (.Call (.Attribute o m apos) [] [] pos) (nA K c m sp gV E ta bJ bJ):=⟨by
 subst hK;obtain⟨C0,f,fd,g,hc0,hcl,hm,F,hb⟩:=hh.ex;intro pins s σ H Q I h;refine methodCall_KW (pl:=pl) (thn (he.out pins s σ H _ I h) λu s1 ⟨x,H1,I1,rx,C,a,dx,fs,hc,ex,ea,l,q⟩=>?_) ht;rw[hc0] at hc;cases hc;subst ex;obtain rfl:u=Value.ref a:=rx;refine mq I1 ea hcl hm l ?_;exact PySem.W.callWith_K0 (first:=[.ref a]) I1.kIn hm.kp (qD (us:=[.ref a]) (vs:=[.ref a]) (ws:=[]) (zs:=[]) (F.mono hj) hr hb hx I1 (.cons rfl .nil) .nil q)⟩
end
def bD(c m:Str)(dsp:DSp)(n j:Nat)(pat:List Src)(cs:List D)(wo:DE)(w wk:DA):DE:=λρ μ Q=>wo ρ μ λd μ1=>(eX μ1 d λc' ns vs=>c'=c/\(ns.zip vs).lookup m=none)/\w ρ μ1 λds μ2=>wk ρ μ2 λes μ3=>dsp (sel n j pat .non cs (d::ds) es) μ3 Q
instance{c m:Str}{n:Nat}{csD:List D}{E:XK}{t:TA}{w:DA}[o:zV K fl ta wa][a:aL K fl t w][b:aL K fl tk wk][cr:fL K csD csV]:zV K fl (nA K c m (lift K dsp) (sel n j pat .non csV) E ta t tk) (bD c m dsp n j pat csD wa w wk):=⟨λ{W ρ μ σ H Q Q'} r e h k =>
 o.run r e h λW1 d μ1 x H1 le1 r1 q1 h1=>by
  obtain⟨c',C,p,dx,ns,vs,xs,hc,rfl,ea,l,z,rfl,hl⟩:=nz r1 q1 h1.1;refine⟨C,p,dx,_,hc,rfl,ea,z.lookup_none hl,a.run r1 (e.mono le1) h1.2 λW2 ds μ2 xs H2 le2 r2 q2 h2=>b.run r2 (e.mono (le1.trans le2)) h2 λW3 es μ3 ys H3 le3 r3 q3 h3=>?_⟩;exact⟨fl,W3,μ3,_,Q,r3,iT (cr.run W3) (.cons (q1.mono (le2.trans le3)) (q2.mono le3)) q3,h3,λW4 d4 μ4 x4 H4 le4=>k W4 d4 μ4 x4 H4 (le1.trans (le2.trans (le3.trans le4)))⟩⟩
structure iU(P:Program)(w:World)(K:Frag)(mg:Str->Option Value)(base:Heap)(CX:CXT)(c:Str)(k:Nat)(ps:List Str)(sp:Sp)(ks:List Str)(gV:List V->List V->List V):Prop where
 ex:∃C f fd g,clsOf K c=some C/\Mk K C f/\zU P w K mg base CX k f fd ps sp/\cV K fd ps ks g gV/\mg c=some (.ref C)
def iV(K:Frag)(c:Str)(sp:Sp)(gV:List V->List V->List V)(E:XK)(t tk:TA):TE:=λσ H Q=>t σ H λvs H1=>tk σ H1 λzs H2=>∀C x dx,clsOf K c=some C->H2 x=none->H2 dx=none->dx≠x ->
 sp (gV (.ref x::vs) zs) (upd (upd H2 dx (.own x)) x (.ins C dx [])) (λv H3=>v= .non/\Q (.ref x) H3) E
section
variable{k:Nat}{E:XK}{c:Str}{p:Pos}{e:Expr}{t:TA}
theorem EL(K:Frag)(h:iU X.prog X.w X.K X.mg X.base CX c j ps sp ks gV)(hr:aS k X.A)(ha:WA X (e::es) t)(hkw:WK X kws tk)(hK:X.K=K:=by rfl)(hj:j+1<=k:=by decide)(hg:Gl X c:=by rfl)(hx:cU CX X E:=by exact gl)
  (hall:(backToKw pos (keywordEach kws X.env)).all (·.1.isSome)=true:=by rfl)(hks:(backToKw pos (keywordEach kws X.env)).filterMap (·.1)=ks:=by rfl)
  (hdb:(c==("__debug__":Str))=false:=by decide)(he:starEach (e::es) X.env=(false,eval e X.env)::starEach es X.env:=by rfl)
  (hpl:((backTo pos (starEach (e::es) X.env)).any (·.1)||(backToKw pos (keywordEach kws X.env)).any (·.1.isNone))=false:=by rfl):WE X (.Call (.Name c p) (e::es) kws pos) (iV K c sp gV E t tk):=⟨by
 subst hK;obtain⟨C,f,fd,g,hc,M,F,b,m⟩:=h.ex;intro pins s σ H Q I h;refine wpAny_Call_Name_kw (fm I hg m ?_ hdb);refine callWith_KW (h₀:=X.base) I.ok.mod.kin M.kp hall (thn (ha.out pos pins s σ H _ I h) λus s1 ⟨vs,H1,I1,r,q⟩=>?_) hpl he;refine thn (hkw.out pos pins s1 σ H1 _ I1 q) λws s2 ⟨zs,H2,I2,rz,q2⟩=>⟨I2.kIn,?_⟩
 rw[hks];exact sC M F (hr.mono hj) b hx I2 r rz λx dx h1 h2 h3=>q2 C x dx hc h1 h2 h3⟩
theorem EM(K:Frag)(h:iU X.prog X.w X.K X.mg X.base CX c j ps sp [] gV)(hr:aS k X.A)(hK:X.K=K:=by rfl)(hj:j+1<=k:=by decide)(hg:Gl X c:=by rfl)(hx:cU CX X E:=by exact gl)
  (hdb:(c==("__debug__":Str))=false:=by decide):WE X (.Call (.Name c p) [] [] pos) (iV K c sp gV E bJ bJ):=⟨by
 subst hK;obtain⟨C,f,fd,g,hc,M,F,b,m⟩:=h.ex;intro pins s σ H Q I h;refine wpAny_Call_Name_kw (fm I hg m ?_ hdb);exact PySem.W.callWith_K0 I.kIn M.kp (sC (us:=[]) (vs:=[]) (ws:=[]) (zs:=[]) M F (hr.mono hj) b hx I .nil .nil λx dx h1 h2 h3=>h C x dx hc h1 h2 h3)⟩
end
def uh(c:Str)(dsp:DSp)(n j:Nat)(pat:List Src)(cs:List D)(w wk:DA):DE:=λρ μ Q=>w ρ μ λds μ1=>wk ρ μ1 λes μ2=>∀k,μ2 k=none->dsp (sel n j pat .non cs (.cell k::ds) es) (zR μ2 k (.ins c [] [])) λd μ3=>d= .non/\Q (.cell k) μ3
def iW(c:Str)(dsp:DSp)(n j:Nat)(pat:List Src)(cs:List D)(w wk:DA):DE:=λρ μ Q=>w ρ μ λds μ1=>wk ρ μ1 λes μ2=>∀k,μ2 k=none->dsp (sel n j pat .non cs (.cell k::ds) es) (zR μ2 k (.ins c [] [])) λd μ3=>d= .non/\eh μ3 (.cell k) Q
section
variable{c:Str}{n:Nat}{csD:List D}{E:XK}{t:TA}{w:DA}
theorem ui{W:Wd}{x dx:Addr}(r:Rel K fl W μ H)(hc:clsOf K c=some C)(h1:H x=none)(h2:H dx=none)(h3:dx≠x):∃(k:Nat) (W':Wd),μ k=none/\W.le W'/\Rel K fl W' (zR μ k (.ins c [] [])) (upd (upd H dx (.own x)) x (.ins C dx []))/\W'.b k=some x:=by
 have r1:Rel K fl W μ (upd H dx (.own x)):=r.same (iB h2);have hx:upd H dx (.own x) x=none:=by rw[zy (Ne.symm h3)];exact h1
 exact r1.newC (o:= .ins C dx []) (c:= .ins c [] []) hx ⟨C,dx,[],hc,rfl,rfl,.nil⟩
instance[a:aL K fl t w][b:aL K fl tk wk][cr:fL K csD csV]:zV K fl (iV K c (lift K dsp) (sel n j pat .non csV) E t tk) (uh c dsp n j pat csD w wk):=⟨λ{W ρ μ σ H Q Q'} r e h k =>
 a.run r e h λW1 ds μ1 xs H1 le1 r1 q1 h1=>b.run r1 (e.mono le1) h1 λW2 es μ2 ys H2 le2 r2 q2 h2 C x dx hc g1 g2 g3=>by
  obtain⟨kk,W3,hk,le3,r3,e3⟩:=ui r2 hc g1 g2 g3;refine⟨fl,W3,_,_,_,r3,iT (cr.run W3) (.cons (by unfold Rep;exact⟨x,rfl,e3⟩) (q1.mono (le2.trans le3))) (q2.mono le3),h2 kk hk,λW4 d4 μ4 x4 H4 le4 r4 q4 h4=>?_⟩;obtain⟨rfl,h4⟩:=h4;exact⟨q4.n',k W4 (.cell kk) μ4 _ H4 (le1.trans (le2.trans (le3.trans le4))) r4 (by unfold Rep;exact⟨x,rfl,le4.b _ _ e3⟩) h4⟩⟩
theorem EO[a:aL K fl t w][b:aL K fl tk wk][cr:fL K csD csV]:zV K fl (iV K c (lift K dsp) (sel n j pat .non csV) E t tk) (iW c dsp n j pat csD w wk):=⟨λ{W ρ μ σ H Q Q'} r e h k =>
 a.run r e h λW1 ds μ1 xs H1 le1 r1 q1 h1=>b.run r1 (e.mono le1) h1 λW2 es μ2 ys H2 le2 r2 q2 h2 C x dx hc g1 g2 g3=>by
  obtain⟨kk,W3,hk,le3,r3,e3⟩:=ui r2 hc g1 g2 g3;refine⟨fl,W3,_,_,_,r3,iT (cr.run W3) (.cons (by unfold Rep;exact⟨x,rfl,e3⟩) (q1.mono (le2.trans le3))) (q2.mono le3),h2 kk hk,λW4 d4 μ4 x4 H4 le4 r4 q4 h4=>?_⟩;obtain⟨rfl,h4⟩:=h4;obtain⟨W5,d5,μ5,le5,r5,q5,h5⟩:=sJ r4 (x:= .ref x) (d:= .cell kk) (by unfold Rep;exact⟨x,rfl,le4.b _ _ e3⟩) h4;exact⟨q4.n',k W5 d5 μ5 _ H4 (le1.trans (le2.trans (le3.trans (le4.trans le5)))) r5 q5 h5⟩⟩
instance[a:aL K fl t w][b:aL K fl tk wk][cr:fL K csD csV]:zV K fl (iV K c (lift K dsp) (sel n j pat .non csV) E t tk) (iW c dsp n j pat csD w wk):=EO
end
theorem dN{c:Str}(h:nsIn K mainGlobals c=some (some (.ref C))):clsOf K c=some C:=by unfold clsOf;rw[h]
theorem EQ:TabOk K []:=⟨λ_ _ _ h=>by simp[cg] at h⟩
theorem uj{c:Str}{fs:List Str}{tab:Tab}(hc:clsOf K c=some C)(cl:Cls K C)(hf:∀f∈fs,bZ K C f)(t:TabOk K tab):TabOk K ((c,fs)::tab):=⟨λc' f C' hi h=>by
 simp only[cg,List.any_cons,Bool.or_eq_true,Bool.and_eq_true] at hi;rcases hi with⟨h1,h2⟩|h1
 .have e:=eq_of_beq h1;subst e;rw[hc] at h;cases h;exact⟨cl,hf f (List.contains_iff_mem.mp h2)⟩
 .exact t.run c' f C' h1 h⟩
def uk(K:Frag):V->List V->Hp->VK->Prop:=λx xs H Q=>∃sep p ys,x= .str sep/\xs=[.ref p]/\(SqL K H p (ys.map V.str)\/SqT K H p (ys.map V.str))/\sep.length<=16/\iy ys<=1048576/\Q (.str (Str.join sep ys)) H
theorem ER(K:Frag)(h:X.K=K:=by rfl):MtR X "str.join" (uk K):=Df K h
def nB:DM:=λd es μ Q=>match d,es with
 | .str sep,[e]=>∃ys,aY μ e=some (ys.map D.str)/\sep.length<=16/\iy ys<=1048576/\Q (.str (Str.join sep ys)) μ
 |_,_=>False
instance:iM K fl "str" (uk K) nB:=⟨λ{W μ H d x ds xs Q Q'} r q z h k=>by
 unfold nB at h;split at h
 .obtain⟨y,rfl,qy⟩:=z.one;obtain⟨ys,hl,h1,h2,h⟩:=h;obtain⟨a,vs,rfl,e1,z1⟩:=fH r qy hl;rw[z1.strs] at e1;rw[q.s'];exact⟨_,a,ys,rfl,rfl,e1,h1,h2,k _ _ _ _ _ (.refl _) r .s h⟩
 .exact h.elim⟩
def ES:R2:=λx y H Q=>∃c n,x= .str ⟨#[c]⟩/\y= .int n/\0<=n/\n<=1000/\∀z:Str,z.cps.toList=List.replicate n.toNat c->Q (.str z) H
def ul:R2:=λx y H Q=>jX x y H Q\/ES x y H Q
theorem ET:OpR X (binaryOp .Mult) ul:=DL.or Dg
def gF:DR2:=λd e μ Q=>match d,e with
 | .str z,.int n=>∃c,z=⟨#[c]⟩/\0<=n/\n<=1000/\∀y:Str,y.cps.toList=List.replicate n.toNat c->Q (.str y) μ
 |d,e=>iI d e μ Q
instance:aW K fl ul gF:=⟨λ{W μ H d e x y Q Q'} r q1 q2 h k=>by
 unfold gF at h;split at h
 .obtain⟨c,rfl,h1,h2,h⟩:=h;rw[q1.s',q2.i'];exact .inr ⟨c,_,rfl,rfl,h1,h2,λz hz=>k _ _ _ _ _ (.refl _) r .s (h z hz)⟩
 .exact .inl (aW.run (K:=K) (r:=jX) (q:=iI) r q1 q2 h k)⟩
section
variable{i j:Int}{ds:List D}
theorem KZ:gF (.int i) (.int j) μ Q=(dq i j/\Q (.int (i*j)) μ):=rfl
theorem K0{c:Nat}:gF (.str ⟨#[c]⟩) (.int j) μ Q=(0<=j/\j<=1000/\∀y:Str,y.cps.toList=List.replicate j.toNat c->Q (.str y) μ):=by
 show(∃c',(⟨#[c]⟩:Str)=⟨#[c']⟩/\0<=j/\j<=1000/\∀y:Str,y.cps.toList=List.replicate j.toNat c'->Q (.str y) μ)=_;refine propext ⟨λ⟨c',e,h⟩=>?_,λh=>⟨c,rfl,h⟩⟩;have:c=c':=by
  have:=congrArg (λs:Str=>s.cps.toList) e;simpa using this
 subst this;exact h
end
theorem gG{g:DG}{ds:List D}{Fin:List D->Mu->Prop}{ys:List D}(I:Nat->List D->Mu->Prop)(h0:I 0 ys μ)
  (step:∀i d ys μ,ds[i]? = some d->I i ys μ->ys.length < sizeLine/\∀N:List D->Mu->Prop,(∀ys' μ',I (i+1) ys' μ'->N ys' μ')->g d ρb μ λρ2 μ2=>we ρ2 μ2 λv μ4=>N (ys++[v]) μ4)
  (fin:∀ys μ,I ds.length ys μ->Fin ys μ)(hP:∀i ys μ,I i ys μ->Pm μ:=by exact λ_ _ _ _=>trivial):bR g bA we ρb Pm Fin ds ys μ :=
 tR I h0 (λi d ys μ hd hI=>⟨(step i d ys μ hd hI).1,λN hN=>(step i d ys μ hd hI).2 N hN⟩) fin hP
theorem db{g:DG}{Fin:List D->Mu->Prop}(xs:List α)(f:α->D)(p:α->Bool)(f':α->D)(hl:xs.length<=sizeLine)
  (step:∀x∈xs,∀(Y:DK) (Z:Mu->Prop),(p x=true->Y (f' x) μ)->(p x=false->Z μ)->g (f x) ρb μ λρ2 μ2=>wc ρ2 μ2 λb μ3=>if b=true then we ρ2 μ3 Y else Z μ3)
  (fin:Fin ((xs.filter p).map f') μ)(hP:Pm μ:=by exact trivial):bR g wc we ρb Pm Fin (xs.map f) [] μ:=by
 refine tR (λi ys μ'=>μ'=μ/\ys=((xs.take i).filter p).map f') ⟨rfl,by simp⟩ (λi d ys μ' hd hI=>?_) (λys μ' hI=>?_) (λi ys μ' h=>h.1▸hP)
 .obtain⟨rfl,rfl⟩:=hI;rw[List.getElem?_map] at hd;cases hx:xs[i]? with
  |none=>rw[hx] at hd;cases hd
  |some x =>
   rw[hx] at hd;cases hd;have hi:=(List.getElem?_eq_some_iff.mp hx).1;refine⟨?_,λN hN=>?_⟩
   .have:=List.length_filter_le p (xs.take i);rw[List.length_map];rw[List.length_take] at this;omega
   .refine step x (List.mem_of_getElem? hx) (λv μ4=>N (((xs.take i).filter p).map f'++[v]) μ4) (λμ3=>N (((xs.take i).filter p).map f') μ3) (λhp=>hN _ _ ⟨rfl,?_⟩) (λhp=>hN _ _ ⟨rfl,?_⟩)
    .rw[List.take_add_one,hx];simp[hp]
    .rw[List.take_add_one,hx];simp[hp]
 .obtain⟨rfl,rfl⟩:=hI;rw[List.length_map,List.take_length];exact fin
theorem um:∀xs:List Str,dG (xs.map D.str)=some (xs.map V.str)
 | []=>rfl
 |x::r=>by rw[List.map_cons,dG,um r];rfl
theorem nC{xs:List Str}{e:D}(h:aY μ e=some (xs.map D.str)):ao neg (.str x) e μ Q=Q (.bl (neg ^^ decide (x∈xs))) μ:=by
 have h2:fJ (.str x)=some (.str x):=rfl;unfold ao;simp only[h,h2,um,r8];cases neg<;>simp
theorem fM{xs:List Str}{k:Nat}(h:μ k=some (.lst (xs.map D.str))):ao neg (.str x) (.cell k) μ Q=Q (.bl (neg ^^ decide (x∈xs))) μ:=nC (Ei h)
theorem j8{xs:List Str}:ao neg (.str x) (.lst (xs.map D.str)) μ Q=Q (.bl (neg ^^ decide (x∈xs))) μ:=nC rfl
theorem gH{xs:List Str}:ao neg (.str x) (.tup (xs.map D.str)) μ Q=Q (.bl (neg ^^ decide (x∈xs))) μ:=nC rfl
class KTup(K:Frag)(a:Addr)(ns:List Int):Prop where
 at_:∀H,SqT K H a (ns.map V.int)
instance{ns:List Int}[i:KTup K a ns]:zV K fl (tC (.ref a)) (dC (.tup (ns.map D.int))):=⟨λ{W ρ μ σ H Q Q'} r e h k=>k W _ μ _ H (.refl W) r (.tup (i.at_ _) (.of_ints ns)) h⟩
theorem uo:∀xs:List Int,dG (xs.map D.int)=some (xs.map V.int)
 | []=>rfl
 |x::r=>by rw[List.map_cons,dG,uo r];rfl
theorem uq(x:Int):∀xs:List Int,inV (.int x) (xs.map V.int)=decide (x∈xs)
 | []=>by simp[inV]
 |y::r=>by
  have ih:=uq x r;unfold inV at ih ⊢;rw[List.map_cons,List.any_cons,ih];show((y==x)||decide (x∈r))=decide (x∈y::r);by_cases h:y=x
  .subst h;simp
  .have h':¬ x=y:=λe=>h e.symm
   simp[h,h']
theorem nD{x:Int}{xs:List Int}:ao neg (.int x) (.tup (xs.map D.int)) μ Q=Q (.bl (neg ^^ decide (x∈xs))) μ:=by
 have h2:fJ (.int x)=some (.int x):=rfl;unfold ao;simp only[Eh,h2,uo,uq];cases neg<;>simp
def ur:R2:=λx y H Q=>∃i j,x= .str i/\y= .str j/\Q (.bl (!(Builtin.Str.occurrences j i 0 j.length 1).isEmpty)) H
theorem EU:OpR X (compareOp .In) ur:=Bg
def iX(signs x:Str):Bool:= !(Builtin.Str.occurrences signs x 0 signs.length 1).isEmpty
def j9:DR2:=λd e μ Q=>match d,e with
 | .str i,.str j=>Q (.bl (iX j i)) μ
 |_,_=>False
instance:aW K fl ur j9:=⟨λ{W μ H d e x y Q Q'} r q1 q2 h k=>by
 unfold j9 at h;split at h
 .rw[q1.s',q2.s'];exact⟨_,_,rfl,rfl,k _ _ _ _ _ (.refl _) r .b h⟩
 .exact h.elim⟩
theorem K1{i j:Str}:j9 (.str i) (.str j) μ Q=Q (.bl (iX j i)) μ:=rfl
def ut(P:Program)(w:World)(K:Frag):List V->Hp->VK->Prop:=λxs H Q=>∃p ys,xs=[.ref p]/\SqT K H p (ys.map V.str)/\ys.length<=100/\∀a,H a=none->Q (.ref a) (upd H a (gw P w a ys))
def uu(P:Program)(w:World):List V->Hp->VK->Prop:=λxs H Q=>∃a ys,xs=[.ref a]/\H a=some (gw P w a ys)/\Q (.int (gv ys:Nat)) H
theorem uv(K:Frag)(h:X.K=K:=by rfl)(hP:X.prog=P:=by rfl)(hw:X.w=w:=by rfl)(hc:X.calm=true:=by rfl):zW X (.type "set") (ut P w K):=by subst hP hw;exact Dx K hc h
theorem uw(hP:X.prog=P:=by rfl)(hw:X.w=w:=by rfl):zW X (.builtin "len") (uu P w):=by subst hP hw;exact Dy
def nE(w:DE):DE:=λρ μ Q=>w ρ μ λd μ1=>match d with
 | .tup ds=>∃ys,ds=ys.map D.str/\ys.length<=100/\Q (.int (gv ys:Nat)) μ1
 |_=>False
instance[a:zV K fl te we]:zV K fl (tCB (uu P w) (cy (tCB (ut P w K) (cy te bJ)) bJ)) (nE we):=⟨λ{W ρ μ σ H Q Q'} r e h k=>a.run r e h λW1 d μ1 x H1 le1 r1 q1 h1=>by
 cases d<;>first|exact h1.elim|skip
 obtain⟨ys,rfl,hl,h1⟩:=h1;obtain⟨p,xs,rfl,s1,z1⟩:=q1.tup';rw[z1.strs] at s1;refine⟨p,ys,rfl,s1.sm r1.sub,hl,λb hb=>⟨b,ys,rfl,zB,?_⟩⟩;exact k W1 _ μ1 _ _ le1 (r1.same (iB hb)) .i h1⟩
def K2(c:Str):DRs:=λds μ Q=>match ds with
 | [.str _,.cls c']=>c'=c/\Q (.bl false) μ
 | [.int _,.cls c']=>c'=c/\Q (.bl false) μ
 | [d,.cls c']=>c'=c/\eX μ d λc2 _ _=>c2=c/\Q (.bl true) μ
 |_=>False
section
variable{c:Str}
end
def SI:Nat->D->Prop
 |_,.int _=>True
 |_,.str x=>PyData.strOk x=true
 |n+1,.tup ds=>∀d∈ds,SI n d
 |n+1,.lst ds=>∀d∈ds,SI n d
 |_,_=>False
theorem SI.pl:∀{n:Nat} {d:D},SI n d->Pl n d:=by
 intro n;induction n with
 |zero=>intro d h;cases d<;>first|exact h.elim|exact h
 |succ n ih=>intro d h;cases d<;>first|exact h.elim|exact h|exact λx hx=>ih (h x hx)
theorem SI.eqvs{n:Nat}(ih:∀d e p q,SI n d->SI n e->toPy d=some p->toPy e=some q->(PyData.eqv p q=true↔d=e)):∀(ds es:List D) (ps qs:List PyData),(∀d∈ds,SI n d)->(∀d∈es,SI n d)->bh ds=some ps->bh es=some qs->(PyData.eqvAll ps qs=true↔ds=es)
 | [],[],ps,qs,_,_,h1,h2=>by
  unfold bh at h1 h2;cases h1;cases h2;simp[PyData.eqvAll]
 | [],e::es,ps,qs,_,_,h1,h2=>by
  unfold bh at h1 h2;split at h2
  .cases h1;cases h2;simp[PyData.eqvAll]
  .cases h2
 |d::ds,[],ps,qs,_,_,h1,h2=>by
  unfold bh at h1 h2;split at h1
  .cases h1;cases h2;simp[PyData.eqvAll]
  .cases h1
 |d::ds,e::es,ps,qs,s1,s2,h1,h2=>by
  unfold bh at h1 h2;split at h1
  .rename_i p ps' e1 e2;split at h2
   .rename_i q qs' e3 e4;cases h1;cases h2;have a:=ih d e p q (s1 d List.mem_cons_self) (s2 e List.mem_cons_self) e1 e3;have b:=SI.eqvs ih ds es ps' qs' (λx hx=>s1 x (List.mem_cons_of_mem _ hx)) (λx hx=>s2 x (List.mem_cons_of_mem _ hx)) e2 e4;unfold PyData.eqvAll;rw[Bool.and_eq_true,a,b,List.cons.injEq]
   .cases h2
  .cases h1
theorem SI.eqv:∀(n:Nat) (d e:D) (p q:PyData),SI n d->SI n e->toPy d=some p->toPy e=some q->(PyData.eqv p q=true↔d=e):=by
 intro n;induction n with
 |zero =>
  intro d e p q h1 h2 t1 t2;cases d<;>first|exact h1.elim|skip
  all_goals cases e<;>first|exact h2.elim|skip
  all_goals (unfold toPy at t1 t2;cases t1;cases t2;simp[PyData.eqv])
 |succ n ih =>
  intro d e p q h1 h2 t1 t2;cases d<;>first|exact h1.elim|skip
  all_goals cases e<;>first|exact h2.elim|skip
  all_goals unfold toPy at t1 t2
  all_goals first
   | (cases t1;cases t2;simp[PyData.eqv];done)
   | (cases t1
      obtain⟨qs,e2,rfl⟩:=Option.map_eq_some_iff.mp t2;simp[PyData.eqv];done)
   | (cases t2
      obtain⟨ps,e1,rfl⟩:=Option.map_eq_some_iff.mp t1;simp[PyData.eqv];done)
   | (obtain ⟨ps, e1, rfl⟩ := Option.map_eq_some_iff.mp t1
      obtain⟨qs,e2,rfl⟩:=Option.map_eq_some_iff.mp t2;first
       | (simp[PyData.eqv];done)
       | (unfold PyData.eqv
          rw[SI.eqvs ih _ _ ps qs h1 h2 e1 e2];simp))
def nF(c:Str)(dsp:DSp)(n j:Nat)(pat:List Src)(cs ds es:List D)(μ:Mu)(Q:DK):Prop:=∀k,μ k=none->dsp (sel n j pat .non cs (.cell k::ds) es) (zR μ k (.ins c [] [])) λd μ3=>d= .non/\eh μ3 (.cell k) Q
theorem K3{c:Str}{n:Nat}{cs:List D}{w:DA}:iW c dsp n j pat cs w wk ρ μ Q=w ρ μ λds μ1=>wk ρ μ1 λes μ2=>nF c dsp n j pat cs ds es μ2 Q:=rfl
theorem EV{a b c d e f:D}:aF (.tup [a,b,c,d,e,f]) none (some 2) μ Q=Q (.tup [a,b]) μ:=by
 rw[dJ];simp only[show cutD [a,b,c,d,e,f] none (some 2)=[a,b] from iQ _ 2,eq_iff_iff,and_iff_right_iff_imp];intro _ ⟨_,h⟩;have h3:HT.sIx 6 6 (some 2)=2:=HT.bO 6 6 2;have h2:HT.sIx 6 6 (some 2)=6:=h;rw[h3] at h2;omega
theorem EW{a b c d e f:D}:aF (.tup [a,b,c,d,e,f]) none (some 3) μ Q=Q (.tup [a,b,c]) μ:=by
 rw[dJ];simp only[show cutD [a,b,c,d,e,f] none (some 3)=[a,b,c] from iQ _ 3,eq_iff_iff,and_iff_right_iff_imp];intro _ ⟨_,h⟩;have h3:HT.sIx 6 6 (some 3)=3:=HT.bO 6 6 3;have h2:HT.sIx 6 6 (some 3)=6:=h;rw[h3] at h2;omega
theorem EX{a b c d e f:D}:aF (.tup [a,b,c,d,e,f]) none (some 4) μ Q=Q (.tup [a,b,c,d]) μ:=by
 rw[dJ];simp only[show cutD [a,b,c,d,e,f] none (some 4)=[a,b,c,d] from iQ _ 4,eq_iff_iff,and_iff_right_iff_imp];intro _ ⟨_,h⟩;have h3:HT.sIx 6 6 (some 4)=4:=HT.bO 6 6 4;have h2:HT.sIx 6 6 (some 4)=6:=h;rw[h3] at h2;omega
theorem EY{a b c d e f:D}:aF (.tup [a,b,c,d,e,f]) none (some 5) μ Q=Q (.tup [a,b,c,d,e]) μ:=by
 rw[dJ];simp only[show cutD [a,b,c,d,e,f] none (some 5)=[a,b,c,d,e] from iQ _ 5,eq_iff_iff,and_iff_right_iff_imp];intro _ ⟨_,h⟩;have h3:HT.sIx 6 6 (some 5)=5:=HT.bO 6 6 5;have h2:HT.sIx 6 6 (some 5)=6:=h;rw[h3] at h2;omega
theorem EZ{a b c d e f:D}:aF (.tup [a,b,c,d,e,f]) (some 1) none μ Q=Q (.tup [b,c,d,e,f]) μ:=by
 rw[dJ];simp only[show cutD [a,b,c,d,e,f] (some 1) none=[b,c,d,e,f] from iR _ 1,eq_iff_iff,and_iff_right_iff_imp];intro _ ⟨h,_⟩;have h3:HT.sIx 6 0 (some 1)=1:=HT.bO 6 0 1;have h2:HT.sIx 6 0 (some 1)=0:=h;rw[h3] at h2;omega
theorem E1{a b c d e f:D}:aF (.tup [a,b,c,d,e,f]) (some 2) none μ Q=Q (.tup [c,d,e,f]) μ:=by
 rw[dJ];simp only[show cutD [a,b,c,d,e,f] (some 2) none=[c,d,e,f] from iR _ 2,eq_iff_iff,and_iff_right_iff_imp];intro _ ⟨h,_⟩;have h3:HT.sIx 6 0 (some 2)=2:=HT.bO 6 0 2;have h2:HT.sIx 6 0 (some 2)=0:=h;rw[h3] at h2;omega
theorem E2{a b c d e f:D}:aF (.tup [a,b,c,d,e,f]) (some 4) none μ Q=Q (.tup [e,f]) μ:=by
 rw[dJ];simp only[show cutD [a,b,c,d,e,f] (some 4) none=[e,f] from iR _ 4,eq_iff_iff,and_iff_right_iff_imp];intro _ ⟨h,_⟩;have h3:HT.sIx 6 0 (some 4)=4:=HT.bO 6 0 4;have h2:HT.sIx 6 0 (some 4)=0:=h;rw[h3] at h2;omega
theorem E4{a b c d e f:D}:aF (.tup [a,b,c,d,e,f]) (some 5) none μ Q=Q (.tup [f]) μ:=by
 rw[dJ];simp only[show cutD [a,b,c,d,e,f] (some 5) none=[f] from iR _ 5,eq_iff_iff,and_iff_right_iff_imp];intro _ ⟨h,_⟩;have h3:HT.sIx 6 0 (some 5)=5:=HT.bO 6 0 5;have h2:HT.sIx 6 0 (some 5)=0:=h;rw[h3] at h2;omega
theorem E5{a b c d e f:α}{r:List α}:atI (a::b::c::d::e::f::r) 5=some f:=d_ (j:=5) rfl
def Ev(w:DE)(ρ:aj)(μ:Mu)(d:D):Prop:=∀Q:DK,Q d μ->w ρ μ Q
def Evs(w:DA)(ρ:aj)(μ:Mu)(ds:List D):Prop:=∀Q:List D->Mu->Prop,Q ds μ->w ρ μ Q
def EvT(w:DT)(ρ:aj)(μ:Mu)(b:Bool):Prop:=∀Q:Bool->Mu->Prop,Q b μ->w ρ μ Q
def EvO(q:DR2)(d e:D)(μ:Mu)(v:D):Prop:=∀Q:DK,Q v μ->q d e μ Q
def EvB(q:DRs)(ds:List D)(μ:Mu)(v:D):Prop:=∀Q:DK,Q v μ->q ds μ Q
section
variable{w:DE}{wr:DA}{d e v:D}{ds es:List D}{i:Nat}{q:DR2}
theorem E6(h:ρ[i]? = some (some d)):Ev (zc i) ρ μ d:=λQ z=>by unfold zc;rw[h];exact z
theorem E7:Ev (dC d) ρ μ d:=λQ z=>z
theorem E8(h1:Ev wa ρ μ d)(h2:Ev wb ρ μ e)(h3:EvO q d e μ v):Ev (dOp q wa wb) ρ μ v:=λQ z=>h1 _ (h2 _ (h3 _ z))
theorem E9:Evs zm ρ μ []:=λQ z=>z
theorem E_(h1:Ev wa ρ μ d)(h2:Evs wr ρ μ ds):Evs (za wa wr) ρ μ (d::ds):=λQ z=>h1 _ (h2 _ z)
theorem Fa(h:Evs wr ρ μ ds)(hl:ds.length<=1000):Ev (dTup wr) ρ μ (.tup ds):=λQ z=>h _ ⟨Nat.le_trans hl (by decide),z⟩
theorem Fb(h:Evs wr ρ μ ds)(hl:ds.length<=1000):Ev (c8 wr) ρ μ (.lst ds):=λQ z=>h _ ⟨Nat.le_trans hl (by decide),z⟩
theorem Fc{q:DRs}(h:Evs wr ρ μ ds)(h3:EvB q ds μ v):Ev (dCB q wr) ρ μ v:=λQ z=>h _ (h3 _ z)
theorem gI{j:Int}(h:atI ds j=some v):EvO dIx (.tup ds) (.int j) μ v:=λQ z=>by rw[nt,h];exact z
theorem ux{j:Int}(h:atI ds j=some v):EvO dIx (.lst ds) (.int j) μ v:=λQ z=>by rw[Ew,h];exact z
theorem Fd(h1:ds≠[])(hl:ds.length+es.length<=1000):EvO aM (.tup ds) (.tup es) μ (.tup (ds++es)):=λQ z=>by
 rw[Et];exact⟨h1,Nat.le_trans hl (by decide),z⟩
theorem Fe{a b:Int}:EvO aM (.int a) (.int b) μ (.int (a+b)):=λQ z=>by rw[Es];exact z
theorem Ff{a b:Int}:EvO dEq (.int a) (.int b) μ (.bl (decide (a=b))):=λQ z=>by rw[Eg];exact z
theorem Fg:EvB cQ [.lst ds] μ (.tup ds):=λQ z=>by rw[Ey];exact z
theorem dO{t:DT}{s:DS}{b:Bool}(h:EvT t ρ μ b)(k:if b=true then s D' ρ μ else u D' ρ μ):af t s u D' ρ μ:=h _ k
theorem iY{n:Nat}{m:Int}(h:Ev w ρ μ (.tup ds))(hm:m=n)(hl:n < ds.length):Ev (dSl aF w bg (aE (dC (.int m)))) ρ μ (.tup (ds.take n)):=λQ z=>h _ (by
 subst hm;show aF (.tup ds) none (some (n:Int)) μ Q;rw[dJ,iQ];refine⟨λ⟨_,h2⟩=>?_,z⟩;rw[HT.bO] at h2;omega)
theorem iZ{n:Nat}{m:Int}(h:Ev w ρ μ (.tup ds))(hm:m=n)(h0:0 < n)(hl:n < ds.length):Ev (dSl aF w (aE (dC (.int m))) bg) ρ μ (.tup (ds.drop n)):=λQ z=>h _ (by
 subst hm;show aF (.tup ds) (some (n:Int)) none μ Q;rw[dJ,iR];refine⟨λ⟨h2,_⟩=>?_,z⟩;rw[HT.bO] at h2;omega)
theorem Fh{c:Str}{n:Nat}{cs:List D}{w:DA}(h1:Evs w ρ μ ds)(h2:Evs wk ρ μ es)(h:nF c dsp n j pat cs ds es μ D'.rt):ac (iW c dsp n j pat cs w wk) D' ρ μ:=h1 _ (h2 _ h)
theorem Fi(h:Ev w ρ μ (.tup ds))(hl:1 < ds.length):Ev (dSl aF w bg (aE (dC (.int 1)))) ρ μ (.tup (ds.take 1)):=iY h rfl hl
theorem Fj(h:Ev w ρ μ (.tup ds))(hl:2 < ds.length):Ev (dSl aF w bg (aE (dC (.int 2)))) ρ μ (.tup (ds.take 2)):=iY h rfl hl
theorem Fk(h:Ev w ρ μ (.tup ds))(hl:3 < ds.length):Ev (dSl aF w bg (aE (dC (.int 3)))) ρ μ (.tup (ds.take 3)):=iY h rfl hl
theorem Fl(h:Ev w ρ μ (.tup ds))(hl:4 < ds.length):Ev (dSl aF w bg (aE (dC (.int 4)))) ρ μ (.tup (ds.take 4)):=iY h rfl hl
theorem Fm(h:Ev w ρ μ (.tup ds))(hl:5 < ds.length):Ev (dSl aF w bg (aE (dC (.int 5)))) ρ μ (.tup (ds.take 5)):=iY h rfl hl
theorem Fn(h:Ev w ρ μ (.tup ds))(hl:1 < ds.length):Ev (dSl aF w (aE (dC (.int 1))) bg) ρ μ (.tup (ds.drop 1)):=iZ h rfl (by decide) hl
theorem Fo(h:Ev w ρ μ (.tup ds))(hl:2 < ds.length):Ev (dSl aF w (aE (dC (.int 2))) bg) ρ μ (.tup (ds.drop 2)):=iZ h rfl (by decide) hl
theorem Fp(h:Ev w ρ μ (.tup ds))(hl:3 < ds.length):Ev (dSl aF w (aE (dC (.int 3))) bg) ρ μ (.tup (ds.drop 3)):=iZ h rfl (by decide) hl
theorem Fq(h:Ev w ρ μ (.tup ds))(hl:4 < ds.length):Ev (dSl aF w (aE (dC (.int 4))) bg) ρ μ (.tup (ds.drop 4)):=iZ h rfl (by decide) hl
theorem Fr(h:Ev w ρ μ (.tup ds))(hl:5 < ds.length):Ev (dSl aF w (aE (dC (.int 5))) bg) ρ μ (.tup (ds.drop 5)):=iZ h rfl (by decide) hl
end
def nG:Value->Option Str
 | .str x _=>some x
 |_=>none
theorem Fs{u:Value}(h:nG u=some x):RelV (.str x) u:=by
 cases u<;>simp[nG] at h
 subst h;exact⟨_,rfl⟩
instance decKey(k:Key)(ks:List Key):Decidable (k∈ks):=@List.instDecidableMemOfLawfulBEq Key instBEqOfDecidableEq inferInstance k ks
def eY:D->Option Key
 | .int i=>some (.inl i)
 | .str x=>some (.inr x)
 |_=>none
def bN:List Key->List D->Key->Option D
 |k::ks,v::vs,q=>if k=q then some v else bN ks vs q
 |_,_,_=>none
def fN(ks:List Key)(k:Key):List Key:=if k∈ks then ks else ks++[k]
def gJ(ks:List Key)(vs:List D)(k:Key)(v:D):List D:=if k∈ks then List.zipWith (λk' v'=>if k'=k then v else v') ks vs else vs++[v]
def gK(c:Option Ct)(R:List Key->List D->Prop):Prop:=match c with
 |some (.dct ks vs)=>R ks vs
 |_=>False
def fO(μ:Mu)(d:D)(R:List Key->List D->Prop):Prop:=match d with
 | .cell k=>gK (μ k) R
 | .dct ks vs=>R ks vs
 |_=>False
def j_(c:Option Ct)(R:List Key->List D->Prop):Prop:=match c with
 |some (.dct ks vs)=>R ks vs
 |some (.fdct _ ks vs)=>R ks vs
 |_=>False
def fP(μ:Mu)(d:D)(R:List Key->List D->Prop):Prop:=match d with
 | .cell k=>j_ (μ k) R
 | .dct ks vs=>R ks vs
 |_=>False
theorem fQ{ks:List Key}{vs:List D}{R:List Key->List D->Prop}:j_ (some (.dct ks vs)) R=R ks vs:=rfl
theorem fR{k:Nat}{R:List Key->List D->Prop}:fP μ (.cell k) R=j_ (μ k) R:=rfl
theorem cC.kr{kvs:List (Key×V)}{k:Key}(e:Rd H a (.dK kvs)):cC H a (kV k) (bE kvs k):= .inl ⟨kvs,k,e,rfl,rfl⟩
theorem gL{ks:List Key}{vs:List D}{R:List Key->List D->Prop}:gK (some (.dct ks vs)) R=R ks vs:=rfl
theorem nH{k:Nat}{R:List Key->List D->Prop}:fO μ (.cell k) R=gK (μ k) R:=rfl
theorem dP:eY (.str x)=some (.inr x):=rfl
def i3:DE:=λ_ μ Q=>∀k,μ k=none->Q (.cell k) (zR μ k (.dct [] []))
def gM(wo wi:DE):DE:=λρ μ Q=>wo ρ μ λd μ1=>wi ρ μ1 λe μ2=>fP μ2 d λks vs=>ax (eY e) λk=>ax (bN ks vs k) λv=>Q v μ2
def fS(wo wi wv:DE):DS:=λD' ρ μ=>wv ρ μ λv μ1=>wo ρ μ1 λd μ2=>wi ρ μ2 λe μ3=>ax (match d with | .cell c=>some c|_=>none) λc=>gK (μ3 c) λks vs=>ax (eY e) λk=>ks.length<=1000/\D'.nx ρ (zR μ3 c (.dct (fN ks k) (gJ ks vs k v)))
def gO:DRs:=λds μ Q=>match ds with
 | [d]=>fO μ d λks _=>Q (.int ks.length) μ
 |_=>False
section
variable{W:Wd}
theorem nI{k:Key}:∀{ks:List Key} {vs:List D} {xs:List V},ks.length=xs.length->zA K W vs xs->(∀v,bN ks vs k=some v->∃y,bE (ks.zip xs) k=some y/\Rep K W v y)/\(bN ks vs k=none->bE (ks.zip xs) k=none)
 | [],vs,xs,_,_=>⟨λv h=>by cases vs<;>simp[bN] at h,λ_=>rfl⟩
 |q::ks,[],xs,h,r=>by rw[r.nil'] at h;simp at h
 |q::ks,d::vs,xs,h,r=>by
  obtain⟨x,t,rfl,q1,q2⟩:=r.uncons;have ih:=nI (k:=k) (ks:=ks) (vs:=vs) (xs:=t) (by simpa using h) q2;by_cases e:q=k
  .have hv:bE ((q::ks).zip (x::t)) k=some x:=by rw[List.zip_cons_cons];exact jC (p:=(q,x)) e
   rw[hv];exact⟨λv hl=>by rw[bN,if_pos e] at hl;cases hl;exact⟨x,rfl,q1⟩,λhl=>by rw[bN,if_pos e] at hl;cases hl⟩
  .have hv:bE ((q::ks).zip (x::t)) k=bE (ks.zip t) k:=by rw[List.zip_cons_cons];exact jD (p:=(q,x)) e
   rw[hv,bN,if_neg e];exact ih
theorem uy{k:Key}:∀{ks:List Key} {vs:List D},ks.length=vs.length->(bN ks vs k).isSome=decide (k∈ks)
 | [],vs,_=>by simp[bN]
 |q::ks,[],h=>by simp at h
 |q::ks,d::vs,h=>by
  have ih:=uy (k:=k) (ks:=ks) (vs:=vs) (by simpa using h);by_cases e:q=k
  .simp[bN,e]
  .have e':¬ k=q:=λz=>e z.symm
   simp[bN,e,e',ih]
theorem uA{k:Key}{ks:List Key}{vs:List D}(h:ks.length=xs.length)(r:zA K W vs xs):(bE (ks.zip xs) k).isSome=decide (k∈ks):=by
 have hl:ks.length=vs.length:=by rw[h,r.length]
 rw[<- uy hl];obtain⟨a,b⟩:=nI (k:=k) h r;cases e:bN ks vs k with
 |none=>rw[b e];rfl
 |some v=>obtain⟨y,ey,_⟩:=a v e;rw[ey];rfl
theorem uB{k:Key}:∀{ks:List Key} {xs:List V},ks.length=xs.length->((ks.zip xs).any λkv=>decide (kv.1=k))=decide (k∈ks)
 | [],_,_=>by simp
 |q::ks,[],h=>by simp at h
 |q::ks,x::xs,h=>by
  have ih:=uB (k:=k) (ks:=ks) (xs:=xs) (by simpa using h);rw[List.zip_cons_cons,List.any_cons,ih];by_cases e:q=k
  .simp[e]
  .have e':¬ k=q:=λz=>e z.symm
   simp[e,e']
theorem Ft{k:Key}{v:D}{ks:List Key}{vs:List D}(h:ks.length=xs.length)(r:zA K W vs xs)(q:Rep K W v y):∃xs',putK (ks.zip xs) k y=(fN ks k).zip xs'/\(fN ks k).length=xs'.length/\zA K W (gJ ks vs k v) xs':=by
 unfold putK fN gJ;rw[uB h];by_cases m:k∈ks
 .rw[if_pos (decide_eq_true m),if_pos m,if_pos m];clear m;induction ks generalizing vs xs with
  |nil=>exact⟨[],rfl,rfl,by simp[zA.nil]⟩
  |cons a ks ih =>
   cases xs with
   |nil=>simp at h
   |cons x xs =>
    cases vs with
    |nil=>rw[r.nil'] at h;simp at h
    |cons d vs =>
     obtain⟨x',t,e,q1,q2⟩:=r.uncons;cases e;obtain⟨xs',e1,e2,e3⟩:=ih (by simpa using h) q2;refine⟨(if a=k then y else x)::xs',?_,by simp[e2],?_⟩
     .rw[List.zip_cons_cons,List.map_cons,e1];by_cases e:a=k
      .simp[e]
      .simp[e]
     .rw[List.zipWith_cons_cons];refine .cons ?_ e3;by_cases e:a=k
      .simp only[if_pos e];exact q
      .simp only[if_neg e];exact q1
 .rw[if_neg (by simpa using m),if_neg m,if_neg m];refine⟨xs++[y],?_,by simp[h],r.append (.cons q .nil)⟩;rw[List.zip_append h];rfl
theorem uC{d:D}{x:V}{R:List Key->List D->Prop}(r:Rel K fl W μ H)(q:Rep K W d x)(h:fO μ d R):∃a ks vs xs,x= .ref a/\H a=some (.dK (ks.zip xs))/\ks.length=xs.length/\zA K W vs xs/\R ks vs:=by
 unfold fO at h;split at h
 .rename_i k;obtain⟨a,rfl,hb⟩:=q.cell';unfold gK at h;split at h
  .rename_i ks vs hk;obtain⟨a',e1,e2,xs,e3,l,z⟩:=r.cel k _ hk;rw[hb] at e1;cases e1;exact⟨a,ks,vs,xs,rfl,e3,l,z,h⟩
  .exact h.elim
 .unfold Rep at q;obtain⟨a,xs,rfl,e,l,z⟩:=q;exact⟨a,_,_,xs,rfl,r.sub _ _ e,l,z,h⟩
 .exact h.elim
theorem nJ{d:D}{x:V}{R:List Key->List D->Prop}(r:Rel K fl W μ H)(q:Rep K W d x)(h:fP μ d R):∃a ks vs xs,x= .ref a/\Rd H a (.dK (ks.zip xs))/\ks.length=xs.length/\zA K W vs xs/\R ks vs:=by
 unfold fP at h;split at h
 .rename_i k;obtain⟨a,rfl,hb⟩:=q.cell';unfold j_ at h;split at h
  .rename_i ks vs hk;obtain⟨a',e1,e2,xs,e3,l,z⟩:=r.cel k _ hk;rw[hb] at e1;cases e1;exact⟨a,ks,vs,xs,rfl,.inl e3,l,z,h⟩
  .rename_i ob ks vs hk;obtain⟨a',e1,e2,xs,e3,l,z⟩:=r.cel k _ hk;rw[hb] at e1;cases e1;exact⟨a,ks,vs,xs,rfl,.inr ⟨ob,e3⟩,l,z,h⟩
  .exact h.elim
 .unfold Rep at q;obtain⟨a,xs,rfl,e,l,z⟩:=q;exact⟨a,_,_,xs,rfl,.inl (r.sub _ _ e),l,z,h⟩
 .exact h.elim
theorem ka{e:D}{k:Key}(q:Rep K W e y)(h:eY e=some k):y=kV k:=by
 unfold eY at h;split at h<;>cases h
 .rw[q.i'];rfl
 .rw[q.s'];rfl
theorem eZ{o:Option α}{R:α->Prop}(h:ax o R):∃a,o=some a/\R a:=by
 cases o with
 |none=>exact h.elim
 |some a=>exact⟨a,rfl,h⟩
instance:zV K fl mI i3:=⟨λ{W ρ μ σ H Q Q'} r e h k p hp=>by
 obtain⟨c,W',hc,le,r',eb⟩:=r.newC (o:= .dK []) (c:= .dct [] []) hp ⟨[],rfl,rfl,.nil⟩;exact k W' (.cell c) _ _ _ le r' (by unfold Rep;exact⟨p,rfl,eb⟩) (h c hc)⟩
instance[a:zV K fl ta wa][b:zV K fl tb wb]:zV K fl (mG ta tb) (gM wa wb):=⟨λ{W ρ μ σ H Q Q'} r e h k=>a.run r e h λW1 d μ1 x H1 le1 r1 q1 h1=>b.run r1 (e.mono le1) h1 λW2 d2 μ2 y H2 le2 r2 q2 h2=>by
 obtain⟨p,ks,vs,xs,rfl,ea,l,z,h3⟩:=nJ r2 (q1.mono le2) h2;obtain⟨kk,ek,h3⟩:=eZ h3;obtain⟨v,ev,h3⟩:=eZ h3;obtain⟨y',ey,qy⟩:=(nI (k:=kk) l z).1 v ev;rw[ka q2 ek];exact⟨p,y',rfl,ey▸cC.kr ea,k W2 v μ2 y' H2 (le1.trans le2) r2 qy h3⟩⟩
instance[a:zV K fl ta wa][b:zV K fl tb wb][c:zV K fl tv wv]:aV K fl (mH ta tb tv) (fS wa wb wv):=⟨λ{W ρ μ σ H D' D} r e h k=>c.run r e h λW1 v μ1 x H1 le1 r1 q1 h1=>a.run r1 (e.mono le1) h1 λW2 d2 μ2 y H2 le2 r2 q2 h2=>b.run r2 (e.mono (le1.trans le2)) h2 λW3 d3 μ3 z3 H3 le3 r3 q3 h3=>by
 have hz:(1001:Nat)<=sizeLine:=by decide
 obtain⟨cc,ec,h4⟩:=eZ h3;have ed:d2= .cell cc:=by
  cases d2<;>simp at ec
  subst ec;rfl
 subst ed;obtain⟨p,rfl,hb⟩:=(q2.mono le3).cell';unfold gK at h4;split at h4
 .rename_i ks vs hk;obtain⟨a',e1,e2,xs,e3,l,z⟩:=r3.cel cc _ hk;rw[hb] at e1;cases e1;obtain⟨kk,ek,hl,h5⟩:=eZ h4;rw[ka q3 ek];obtain⟨xs',p1,p2,p3⟩:=Ft (k:=kk) l z (q1.mono (le2.trans le3));refine⟨p,_,rfl,ik.k e3 (by rw[List.length_zip,<- l,Nat.min_self];omega),?_⟩;rw[p1];exact k.nx W3 ρ _ σ _ (le1.trans (le2.trans le3)) (r3.setC (c':= .dct (fN ks kk) (gJ ks vs kk v)) hk hb ⟨xs',rfl,p2,p3⟩) (e.mono (le1.trans (le2.trans le3))) h5
 .exact h4.elim⟩
end
section
variable{o i e value:Expr}{td ty:TE}
theorem uD:WE X (.Dict [] [] pos) mI:=⟨Cq⟩
theorem kh(hu:X.A.units+1 < cLine)(ho:WE X o td)(hi:WE X i ty)(hs:mF i:=by exact λ_ _=>rfl):WE X (.Subscript o i pos) (mG td ty):=⟨Cn hu ho.out hi.out hs⟩
theorem nK(hu:X.A.units+1 < cLine)(ho:WE X o td)(hi:WE X i ty)(hv:WE X value tv)(hs:swapsWith value (some (.Subscript o i pos')) pos.line X.env=pure false:=by rfl):WS X (.Assign [.Subscript o i pos'] value pos) (mH td ty tv):=⟨Co hu ho.out hi.out hv.out hs⟩
def uE:R2:=λy x H Q=>∃a o,x= .ref a/\cC H a y o/\Q (.bl o.isSome) H
def uF:R2:=λy x H Q=>∃a o,x= .ref a/\cC H a y o/\Q (.bl (!o.isSome)) H
theorem uG(hu:X.A.units+1 < cLine):OpR X (compareOp .In) uE:=by
 intro pins s σ H x y v u Q I rx ry h;obtain⟨a,o,rfl,g,q⟩:=h;cases ry;exact Cf hu I g rx λs3 I3=>⟨.bl o.isSome,H,I3,rfl,q⟩
theorem i4(hu:X.A.units+1 < cLine):OpR X (compareOp .NotIn) uF:=by
 intro pins s σ H x y v u Q I rx ry h;obtain⟨a,o,rfl,g,q⟩:=h;cases ry;exact Cg hu I g rx λs3 I3=>⟨.bl (!o.isSome),H,I3,rfl,q⟩
def uH:List V->Hp->VK->Prop:=λxs H Q=>∃a kvs,xs=[V.ref a]/\H a=some (.dK kvs)/\Q (.int kvs.length) H
theorem nL:zW X (.builtin "len") uH:=Cy
end
def dQ(neg:Bool):DR2:=λe d μ Q=>fP μ d λks vs=>ax (eY e) λk=>Q (.bl (neg ^^ decide (k∈ks))) μ
theorem fT{e d:D}:dQ neg e d μ Q=fP μ d λks vs=>ax (eY e) λk=>Q (.bl (neg ^^ decide (k∈ks))) μ:=rfl
theorem nM{wi:DE}:gM wo wi ρ μ Q=wo ρ μ λd μ1=>wi ρ μ1 λe μ2=>fP μ2 d λks vs=>ax (eY e) λk=>ax (bN ks vs k) λv=>Q v μ2:=rfl
theorem uI{d:D}:gO [d] μ Q=fO μ d λks _=>Q (.int ks.length) μ:=rfl
section
instance:aW K fl uE (dQ false):=⟨λ{W μ H d e x y Q Q'} r q1 q2 h k=>by
 obtain⟨p,ks,vs,xs,rfl,ea,l,z,h3⟩:=nJ r q2 h;obtain⟨kk,ek,h3⟩:=eZ h3;rw[ka q1 ek];refine⟨p,_,rfl,cC.kr ea,?_⟩;rw[uA l z];exact k W _ μ _ H (.refl _) r .b (by simpa using h3)⟩
instance:aW K fl uF (dQ true):=⟨λ{W μ H d e x y Q Q'} r q1 q2 h k=>by
 obtain⟨p,ks,vs,xs,rfl,ea,l,z,h3⟩:=nJ r q2 h;obtain⟨kk,ek,h3⟩:=eZ h3;rw[ka q1 ek];refine⟨p,_,rfl,cC.kr ea,?_⟩;rw[uA l z];exact k W _ μ _ H (.refl _) r .b (by simpa using h3)⟩
instance:bu K fl uH gO:=⟨λ{W μ H ds xs Q Q'} r z h k=>by
 unfold gO at h;split at h
 .obtain⟨y,rfl,qy⟩:=z.one;obtain⟨p,ks,vs,xs,rfl,ea,l,z,h3⟩:=uC r qy h;refine⟨p,_,rfl,ea,?_⟩;rw[List.length_zip,<- l,Nat.min_self];exact k W _ μ _ H (.refl _) r .i h3
 .exact h.elim⟩
end
section
variable{s:Shared}
theorem uJ{ss:List Str}{Q:Value->Shared->Prop}
  (hc:∀R:List Value->Shared->Prop,(∀(h':Heap) (tk:Nat) (vs:List Value),(∀b o,s.heap.get? b=some o->h'.get? b=some o)->StrsAre vs ss->R vs {s with heap:=h',toks:=tk})->wpAny (model prog w) A.in1 (collect v) R E s)(h64:ss.length < 64)
  (h:∀(h1 h2:Heap) (tk:Nat) (out:Array Value) (ss':List Str) (e:Nat),(∀b o,s.heap.get? b=some o->h1.get? b=some o)->(∀b o,h1.get? b=some o->h2.get? b=some o)->h2.get? h1.objs.size=some (seqObj "list" out e)->StrsAre out.toList ss'->ss'.Perm ss->sortedS ss'=true->Q (.ref h1.objs.size) {s with heap:=h2,toks:=tk}) :
  wpAny (model prog w) A (call (.builtin "sorted") [v]) Q E s:=by
 refine Calls.call_function_entry kind_sorted plain_sorted entry_sorted (args_sorted1 _) ?_;unfold Builtin.«sorted»;refine wpAny_bind (m:=checkCount "sorted" 1 1 _) (wpAny_pure ?_);refine wpAny_bind (hc _ λh' tk vs hk hS=>?_);have hl:vs.length=ss.length:=by
  clear h hc h64;induction hS with
  |nil=>rfl
  |cons _ _ _ ih=>simp[ih]
 refine wpAny_bind (wpAny_newList ?_ (by rw[hl];exact Nat.le_trans (Nat.le_of_lt h64) (by decide)));have hoL:(h'.push (seqObj "list" vs.toArray 0)).get? h'.objs.size=some (seqObj "list" vs.toArray 0):=Heap.get?_push_size _ rfl;refine wpAny_bind (wpAny_holding (wpAny_call_entry slot_list_sort ⟨_,hoL,rfl⟩ entry_list_sort (list_sort_treeK strKind_oneLt hoL hS.keysOf (λv₁ v₂ rest e=>keyKind_strs (by rw[<- e];exact hS)) (by rw[hl];exact h64) λst' a1 a2=>⟨_,rfl,?_⟩) (args_list_sort _)));obtain⟨ss',h1,h2,h3⟩:=sorted_out_str hS a1 a2;obtain⟨e,he⟩:=sortedHeap_at (out:=(arrOf st').map (·.2)) hoL;refine wpAny_pure ⟨_,rfl,h h' _ tk _ ss' e hk (λb o q'=>?_) he h1 h2 h3⟩;have hlt:=Heap.lt_size q';rw[sortedHeap_old (Nat.ne_of_lt hlt) (by rw[size_push'];exact Nat.lt_succ_of_lt hlt),Heap.get?_push_ne _ _ _ (Nat.ne_of_lt hlt)];exact q'
end
section
variable(K:Frag)
def uK:List V->Hp->VK->Prop:=λxs H Q=>∃p ns,xs=[.ref p]/\SqT K H p (ns.map V.str)/\ns.length < 64/\∀ns' l,List.Perm ns' ns->sortedS ns'=true->H l=none->Q (.ref l) (upd H l (.lst (ns'.map V.str)))
def uL:List V->Hp->VK->Prop:=λxs H Q=>∃p kvs ns,xs=[.ref p]/\H p=some (.dK kvs)/\kvs.map (·.1)=ns.map Sum.inr/\ns.length < 64/\∀ns' l,List.Perm ns' ns->sortedS ns'=true->H l=none->Q (.ref l) (upd H l (.lst (ns'.map V.str)))
theorem uM{s:Shared}{h2:Heap}{tk:Nat}{ss':List Str}{out:Array Value}{e:Nat}{Q:VK}(I:Inv X pins σ H s)(hz:ns.length < 64)(hk:∀b o,s.heap.get? b=some o->h2.get? b=some o)(he:h2.get? s.heap.objs.size=some (seqObj "list" out e))(g1:StrsAre out.toList ss')(g2:ss'.Perm ns)(g3:sortedS ss'=true)(q:H s.heap.objs.size=none->Q (.ref s.heap.objs.size) (upd H s.heap.objs.size (.lst (ss'.map V.str)))):EP X pins σ Q (.ref s.heap.objs.size) {s with heap:=h2,toks:=tk}:=by
 have hf:H s.heap.objs.size=none:=I.hok.fresh (Nat.le_refl _);refine⟨.ref s.heap.objs.size,_,I.laid (a:=s.heap.objs.size) (o:= .lst (ss'.map V.str)) (t':=tk) hk (Nat.le_refl _) ?_,rfl,q hf⟩;refine⟨by rw[List.length_map,g2.length_eq];exact Nat.le_trans (Nat.le_of_lt hz) (by decide),out.toList,e,nu g1,?_⟩;rw[he]
theorem ki:∀{kvs:List (Key×V)} {vs:List (Key×Value)} {ns:List Str} {acc:Array Value},ItemsOf (λi v=>∃k x,vs[i]? = some (k,x)/\(bY P w).is k v=true) acc vs.length->KV kvs vs->kvs.map (·.1)=ns.map Sum.inr->StrsAre acc.toList ns:=by
 intro kvs vs ns acc hacc rel hn;have hk:vs.map (·.1)=ns.map Sum.inr:=by
  rw[<- hn];clear hn hacc;induction rel with
  |nil=>rfl
  |cons a _ ih=>simp only[List.map_cons,ih,a.1]
 have hl:vs.length=ns.length:=by
  have:=congrArg List.length hk;simpa using this
 have hat:∀(i:Nat) (v:Value),acc.toList[i]? = some v->∃y t,ns[i]? = some y/\v= .str y t:=λi v hv=>by
  obtain⟨k,x,hx,hi⟩:=hacc.2 i v (by rw[<- Array.getElem?_toList];exact hv);have h1:(vs.map (·.1))[i]? = some k:=by rw[List.getElem?_map,hx];rfl
  rw[hk,List.getElem?_map] at h1;obtain⟨y,hy,rfl⟩:=Option.map_eq_some_iff.mp h1;have:fk (.inr y) v=true:=hi;obtain⟨t,rfl⟩:∃t,v= .str y t:=by
   rcases de this with⟨i,t,e,_⟩|⟨x',t,e,rfl⟩
   .cases e
   .cases e;exact⟨t,rfl⟩
  exact⟨y,t,hy,rfl⟩
 have hsz:acc.toList.length=ns.length:=by rw[Array.length_toList,hacc.1,hl]
 clear hacc rel hn hk hl;generalize acc.toList=l at hat hsz
 induction l generalizing ns with
 |nil=>cases ns with
  |nil=>exact .nil
  |cons y r=>simp at hsz
 |cons v l ih=>cases ns with
  |nil=>simp at hsz
  |cons y r =>
   obtain⟨y',t,e1,rfl⟩:=hat 0 v rfl;cases e1;exact .cons y t (ih (λi v hv=>hat (i+1) v (by simpa using hv)) (by simpa using hsz))
theorem Fu(h:X.K=K:=by rfl):zW X (.builtin "sorted") (uK K):=by
 subst h;intro pins s σ H xs us Q I r h;obtain⟨p,ns,rfl,hl,hz,q⟩:=h;obtain⟨u,rfl,rx⟩:=vals1 r;cases rx;obtain⟨its,r',⟨o,ho,hcl,n,hd⟩,hz'⟩:=I.tuple hl;refine uJ (ss:=ns) (λR hR=>?_) hz λh1 h2 tk out ss' e k1 k2 he g1 g2 g3=>?_
 .refine wpAny_collect_seq p (.inr rfl) ho hcl hd (λh' hk=>?_) (by rw[List.size_toArray,<- r'.length,List.length_map];exact Nat.le_trans (Nat.le_of_lt hz) (by decide));have:=hR h' s.toks its hk (nv r');simpa using this
 .exact uM (I.kept (t':=tk) k1) hz k2 he g1 g2 g3 (q ss' h1.objs.size g2 g3)
theorem Fv(hc:X.calm=true:=by rfl):zW X (.builtin "sorted") uL:=by
 intro pins s σ H xs us Q I r h;obtain⟨p,kvs,ns,rfl,hp,hn,hz,q⟩:=h;obtain⟨u,rfl,rx⟩:=vals1 r;cases rx;obtain⟨z,hd,vs,rel,dd⟩:=fw I.hok (.inl hp);obtain⟨ep,dd⟩:=dd.dictAt;have hlen:vs.length=ns.length:=by
  have e1:=Paired.length rel;have e2:=congrArg List.length hn;simp only[List.length_map] at e2;omega
 refine uJ (ss:=ns) (λR hR=>?_) hz λh1 h2 tk out ss' e k1 k2 he g1 g2 g3=>?_
 .refine PySem.W.kdu_collect (PySem.W.kdl_dict hd) (by first|exact I.ok.hd hc|exact(I.ok.hd hc)) dd (by rw[hlen];exact Nat.le_trans (Nat.le_of_lt hz) (by decide)) λh' tk acc hk hacc=>?_
  refine hR h' tk acc.toList hk ?_;exact ki hacc rel hn
 .exact uM (I.kept (t':=tk) k1) hz k2 he g1 g2 g3 (q ss' h1.objs.size g2 g3)
def kj:List V->Hp->VK->Prop:=λxs H Q=>(j6 K xs H Q\/uK K xs H Q)\/uL xs H Q
theorem kl(h:X.K=K:=by rfl)(hc:X.calm=true:=by rfl):zW X (.builtin "sorted") (kj K):=((EI K h).or (Fu K h)).or (Fv hc)
end
def e7:DRs:=λds μ Q=>j7 ds μ Q\/match ds with
 | [.tup es]=>∃ns,es=ns.map D.str/\ns.length < 64/\∀ns',List.Perm ns' ns->sortedS ns'=true->Q (.lst (ns'.map D.str)) μ
 | [d]=>fO μ d λks _=>∃ns,ks=ns.map Sum.inr/\ns.length < 64/\∀ns',List.Perm ns' ns->sortedS ns'=true->Q (.lst (ns'.map D.str)) μ
 |_=>False
instance:bu K fl (kj K) e7:=⟨λ{W μ H ds xs Q Q'} r z h k=>by
 have fin:∀ns':List Str,Q (.lst (ns'.map D.str)) μ->∀l,H l=none->Q' (.ref l) (upd H l (.lst (ns'.map V.str))):=λns' hq l hl=>by
  obtain⟨r2,le⟩:=r.newF (o:= .lst (ns'.map V.str)) hl;exact k _ _ _ _ _ le r2 (.lst zB (zA.of_strs ns')) hq
 rcases h with h|h
 .exact .inl (.inl (bu.run (K:=K) (r:=j6 K) (q:=j7) r z h k))
 .split at h
  .obtain⟨ns,rfl,hz,h⟩:=h;obtain⟨y,rfl,qy⟩:=z.one;obtain⟨p,xs,rfl,s1,z1⟩:=qy.tup';rw[z1.strs] at s1;exact .inl (.inr ⟨p,ns,rfl,s1.sm r.sub,hz,λns' l g1 g2 hl=>fin ns' (h ns' g1 g2) l hl⟩)
  .obtain⟨y,rfl,qy⟩:=z.one;obtain⟨p,ks,vs,xs,rfl,ea,l,z1,h3⟩:=uC r qy h;obtain⟨ns,rfl,hz,h⟩:=h3;refine .inr ⟨p,_,ns,rfl,ea,?_,hz,λns' l g1 g2 hl=>fin ns' (h ns' g1 g2) l hl⟩;rw[List.map_fst_zip];omega
  .exact h.elim⟩
theorem uN(hz:ns.length < 64)(h:∀ns',List.Perm ns' ns->sortedS ns'=true->Q (.lst (ns'.map D.str)) μ):e7 [.tup (ns.map D.str)] μ Q:= .inr ⟨ns,rfl,hz,h⟩
theorem Fw{k:Nat}{vs:List D}(hk:μ k=some (.dct (ns.map Sum.inr) vs))(hz:ns.length < 64)(h:∀ns',List.Perm ns' ns->sortedS ns'=true->Q (.lst (ns'.map D.str)) μ):e7 [.cell k] μ Q:= .inr (by
 show fO μ (.cell k) _;rw[nH,hk,gL];exact⟨ns,rfl,hz,h⟩)
section
variable{u u':HO}
end
section
variable{s:Shared}{u u':HO}
end
section
variable{tl:TE}{w:DE}
end
def bj(xs:List α)(lo hi:Option Int)(st:Int):List α:=(sliceRange (sliceBounds lo hi (some st) xs.length).1 (sliceBounds lo hi (some st) xs.length).2.1 (sliceBounds lo hi (some st) xs.length).2.2).filterMap (xs[·]?)
def stepT(xs:List α)(lo hi:Option Int)(st:Int):List α:=(List.range (Builtin.Slice.slicePlaces (Builtin.Slice.sliceAdjust lo hi st xs.length).1 (Builtin.Slice.sliceAdjust lo hi st xs.length).2 st)).filterMap λ(m:Nat)=>xs[((Builtin.Slice.sliceAdjust lo hi st xs.length).1+(m:Int)*st).toNat]?
theorem Vals.pick(r:Vals xs us):∀(ix:List Nat),Vals (ix.filterMap (xs[·]?)) (ix.filterMap (us[·]?))
 | []=> .nil
 |i::ix=>by
  have ih:=Vals.pick r ix;rw[List.filterMap_cons,List.filterMap_cons];cases e:xs[i]? with
  |some x =>
   obtain⟨u,eu,ru⟩:=r.get e;rw[eu];exact .cons ru ih
  |none =>
   have hl:us[i]? = none:=by
    rw[List.getElem?_eq_none_iff] at e ⊢;rw[<- r.length];exact e
   rw[hl];exact ih
theorem zA.pick{W:Wd}{ds:List D}(r:zA K W ds xs):∀(ix:List Nat),zA K W (ix.filterMap (ds[·]?)) (ix.filterMap (xs[·]?))
 | []=> .nil
 |i::ix=>by
  have ih:=zA.pick r ix;rw[List.filterMap_cons,List.filterMap_cons];cases e:ds[i]? with
  |some x =>
   obtain⟨u,eu,ru⟩:=r.get e;rw[eu];exact .cons ru ih
  |none =>
   have hl:xs[i]? = none:=by
    rw[List.getElem?_eq_none_iff] at e ⊢;rw[r.length];exact e
   rw[hl];exact ih
theorem zA.bj{W:Wd}{ds:List D}(r:zA K W ds xs)(lo hi:Option Int)(st:Int):zA K W (L2.bj ds lo hi st) (L2.bj xs lo hi st):=by
 unfold L2.bj;rw[r.length];exact r.pick _
theorem km(xs:List α)(lo hi:Option Int)(st:Int):stepT xs lo hi st=((List.range (Builtin.Slice.slicePlaces (Builtin.Slice.sliceAdjust lo hi st xs.length).1 (Builtin.Slice.sliceAdjust lo hi st xs.length).2 st)).map λ(m:Nat)=>((Builtin.Slice.sliceAdjust lo hi st xs.length).1+(m:Int)*st).toNat).filterMap (xs[·]?):=by
 unfold stepT;rw[List.filterMap_map];rfl
theorem zA.stepT{W:Wd}{ds:List D}(r:zA K W ds xs)(lo hi:Option Int)(st:Int):zA K W (L2.stepT ds lo hi st) (L2.stepT xs lo hi st):=by
 rw[km,km,r.length];exact r.pick _
theorem Vals.stepT(r:Vals xs us)(lo hi:Option Int)(st:Int):Vals (L2.stepT xs lo hi st) (L2.stepT us lo hi st):=by
 rw[km,km,r.length];exact r.pick _
theorem Fx(us:List Value)(lo hi:Option Int)(st:Int):(slicePick us.toArray lo hi (some st))=(bj us lo hi st).toArray:=by
 unfold slicePick bj;simp only[List.size_toArray,List.getElem?_toArray]
section
variable{s:Shared}
theorem Fy{sl:Addr}{vl vu vk:Value}{st:Int}{n:Nat}{Q:Int×Int×Nat->Shared->Prop}(hs:s.heap.IsSliceOf sl vl vu vk)(pl:IsPart vl lo)(pu:IsPart vu hi)(pk:IsPart vk (some st))(h0:st≠0)
  (h:Q ((Builtin.Slice.sliceAdjust lo hi st n).1,st,Builtin.Slice.slicePlaces (Builtin.Slice.sliceAdjust lo hi st n).1 (Builtin.Slice.sliceAdjust lo hi st n).2 st) s):wpAny (model prog w) A (Builtin.Slice.sliceApplied (.ref sl) (pure (n:Int))) Q E s:=by
 obtain⟨os,hos,hcs,hds⟩:=id hs;unfold Builtin.Slice.sliceApplied Builtin.Slice.sliceFields;refine wpAny_bind (wpAny_bind (wpAny_field hos hds (x:=vl) rfl (wpAny_bind (wpAny_field hos hds (x:=vu) rfl (wpAny_bind (wpAny_field hos hds (x:=vk) rfl (wpAny_pure ?_)))))));refine wpAny_bind (HT.ib pk ?_);show wpAny _ _ (if (st==0)=true then _ else _) _ _ s;rw[if_neg (by simpa using h0)];refine wpAny_bind (HT.ib pl (wpAny_bind (HT.ib pu (wpAny_bind (wpAny_pure ?_)))));exact wpAny_pure h
theorem Fz{t sl:Addr}{items:Array Value}{vl vu vk:Value}{st:Int}{Q:Value->Shared->Prop}(ht:IsTup s.heap t items)(hs:s.heap.IsSliceOf sl vl vu vk)(pl:IsPart vl lo)(pu:IsPart vu hi)(pk:IsPart vk (some st))(h0:st≠0)(h1:st≠1)
  (h:Q (.ref s.heap.objs.size) {s with heap:=s.heap.push {cls:= .type "tuple",data:= .seq (stepT items.toList lo hi st).toArray}})
  (hsz:(stepT items.toList lo hi st).length<=sizeLine):wpAny (model prog w) A (getItem (.ref t) (.ref sl)) Q E s:=by
 have htake:sizeOk (.seq (stepT items.toList lo hi st).toArray):=by
  show(stepT items.toList lo hi st).toArray.size<=sizeLine;rw[List.size_toArray];exact hsz
 obtain⟨os,hos,hcs,hds⟩:=id hs;have hTs:s.TypeIs (.ref sl) "slice":=⟨os,hos,hcs⟩;unfold getItem;try with_reducible refine wpAny_holding ?_
 first|refine wpAny_bind (wpAny_pure ?_)|skip
 refine wpAny_bind (wpAny_sequenceKey ht.typeIs (by decide) ?_);refine wpAny_bind (wpAny_callSpecial?_slot (name:=Str.ofString "__getitem__") ht.typeIs PyProof.Rows.slot_tuple_getitem
  (wpAny_call_entry PyProof.Rows.slot_tuple_getitem ht.typeIs entry_tuple_getitem ?_ (args_tuple_getitem _ _)))
 show wpAny _ _ (Builtin.Tuple.tupleItemsOf (.ref t) >>= _) _ _ s;refine wpAny_bind (tupleItemsOf_ ht ?_);refine wpAny_bind (wpAny_typeOf hTs ?_);rw[if_pos (by decide)];refine wpAny_bind (Fy hs pl pu pk h0 ?_);have hno:∀b c:Bool,¬ ((b&&(st==1)&&c)=true):=by
  intro b c q;rw[Bool.and_eq_true,Bool.and_eq_true] at q;exact h1 (eq_of_beq q.1.2)
 show wpAny _ _ (if ((_==_)&&(st==1)&&(_==_))=true then _ else _) _ _ s;rw[if_neg (hno _ _)];have e:((List.range (Builtin.Slice.slicePlaces (Builtin.Slice.sliceAdjust lo hi st items.size).1 (Builtin.Slice.sliceAdjust lo hi st items.size).2 st)).filterMap λ(m:Nat)=>items[((Builtin.Slice.sliceAdjust lo hi st items.size).1+(m:Int)*st).toNat]?).toArray=(stepT items.toList lo hi st).toArray:=by
  unfold stepT;simp only[Array.length_toList,Array.getElem?_toList]
 rw[e];first
  |exact wpAny_bind (m:=Builtin.Tuple.tupleExact _) (wpAny_newObj_type (wpAny_pure ⟨_,rfl,wpAny_pure h⟩) htake)
  |exact wpAny_bind (m:=Builtin.Tuple.tupleExact _) (wpAny_newObj_type (wpAny_bind (wpAny_pure (wpAny_pure ⟨_,rfl,wpAny_pure h⟩))) htake)
  |exact wpAny_bind (wpAny_bind (m:=Builtin.Tuple.tupleExact _) (wpAny_newObj_type (wpAny_pure (wpAny_pure ⟨_,rfl,wpAny_pure h⟩)) htake))
  |exact wpAny_bind (wpAny_bind (m:=Builtin.Tuple.tupleExact _) (wpAny_newObj_type (wpAny_pure ⟨_,rfl,wpAny_pure h⟩) htake))
end
section
variable{e ke:Expr}{lo hi:Option Expr}{tk:TO}
def Sl3(X:Cx)(r:V->Option Int->Option Int->Int->Hp->VK->Prop):Prop :=
 ∀(pins:List (Addr×Obj)) (s:Shared) (σ:St) (H:Hp) (x:V) (v vl vu vk:Value) (lo hi:Option Int) (st:Int) (sl:Addr) (Q:VK),Inv X pins σ H s->RelV x v->s.heap.IsSliceOf sl vl vu vk->IsPart vl lo->IsPart vu hi->IsPart vk (some st)->r x lo hi st H Q ->
  ∃T id,typeLookup (.type T) "__getitem__"=pure (some (.builtin id))/\s.TypeIs v T/\wpAny (model X.prog X.w) X.A (getItem v (.ref sl)) (EP X pins σ Q) X.xe s
def nN(r:V->Option Int->Option Int->Int->Hp->VK->Prop)(te:TE)(tl th tk:TO):TE:=λσ H Q=>te σ H λx H1=>tl σ H1 λl H2=>th σ H2 λu H3=>tk σ H3 λk H4=>∃st,k=some st/\r x l u st H4 Q
theorem FA{r:V->Option Int->Option Int->Int->Hp->VK->Prop}(hr:Sl3 X r)(he:PE X e te)(hl:PO X lo tl)(hu:PO X hi th)(hk:PO X (some ke) tk):PE X (.Subscript e (.Slice lo hi (some ke) p2) pos) (nN r te tl th tk):=by
 intro pins s σ H Q I h;refine Subscript_ (thn (he pins s σ H _ I h) λv s1 ⟨x,H1,I1,r1,q1⟩=>?_);refine wpAny_Slice (thn (hl pins s1 σ H1 _ I1 q1) λvl s2 ⟨l,H2,I2,pl,q2⟩=>thn (hu pins s2 σ H2 _ I2 q2) λvu s3 ⟨u,H3,I3,pu,q3⟩=>thn (hk pins s3 σ H3 _ I3 q3) λvk s4 ⟨k,H4,I4,pk,st,ek,q4⟩=>?_);subst ek;have I5:Inv X pins σ H4 {s4 with heap:=s4.heap.push {cls:= .type "slice",data:= .fields #[vl,vu,vk]}}:=I4.kept (t':=s4.toks) λb ob q=>Heap.get?_push_of_some _ q
 obtain⟨T,id,hT,ht,hg⟩:=hr pins {s4 with heap:=s4.heap.push {cls:= .type "slice",data:= .fields #[vl,vu,vk]}} σ H4 x v vl vu vk l u st s4.heap.objs.size Q I5 r1 (Heap.IsSliceOf.new ..) pl pu pk q4;show wpAny (model X.prog X.w) X.A (subscriptTail e (.Slice lo hi (some ke) p2) v (.ref s4.heap.objs.size)) (EP X pins σ Q) X.xe {s4 with heap:=s4.heap.push {cls:= .type "slice",data:= .fields #[vl,vu,vk]}};exact tail_any (ops:=[v,.ref s4.heap.objs.size]) ht hT hg (by with_unfolding_all rfl)
def rSt(K:Frag):V->Option Int->Option Int->Int->Hp->VK->Prop:=λx lo hi st H Q=>(∃a xs,x= .ref a/\SqL K H a xs/\st≠0/\(bj xs lo hi st).length<=sizeLine/\∀p,H p=none->Q (.ref p) (upd H p (.lst (bj xs lo hi st)))) \/
 (∃a xs,x= .ref a/\SqT K H a xs/\st≠0/\st≠1/\(stepT xs lo hi st).length<=sizeLine/\∀p,H p=none->Q (.ref p) (upd H p (.tup (stepT xs lo hi st))))
theorem i5(K:Frag)(hK:X.K=K:=by rfl):Sl3 X (rSt K):=by
 subst hK;intro pins s σ H x v vl vu vk lo hi st sl Q I rx hs pl pu pk h;rcases h with⟨a,xs,rfl,hx,h0,hl,q⟩|⟨a,xs,rfl,hx,h0,h1,hl,q⟩
 .cases rx;obtain⟨its,r,ht,hz⟩:=I.list hx;have hlen:=r.length;refine⟨"list",_,slot_list_getitem.lookup,ht.isList.typeIs,?_⟩;refine wpAny_getItem_list_slice ht.isList hs pl pu pk (λz=>h0 (Option.some.inj z)) ?_ (by rw[List.size_toArray]<;>omega);rw[Fx];refine⟨.ref s.heap.objs.size,_,I.laid (t':=s.toks) (o:= .lst (bj xs lo hi st)) (λb ob q=>Heap.get?_push_of_some _ q) (Nat.le_refl _) ?_,rfl,q _ (I.hok.fresh (Nat.le_refl _))⟩;have rv:Vals (bj xs lo hi st) (bj its lo hi st):=by
   unfold bj;rw[r.length];exact r.pick _
  exact⟨hl,_,0,rv,Heap.get?_push_size _ rfl⟩
 .cases rx;obtain⟨its,r,ht,hz⟩:=I.tuple hx;have rv:=r.stepT lo hi st;refine⟨"tuple",_,PyProof.Rows.slot_tuple_getitem.lookup,ht.typeIs,?_⟩;refine Fz ht hs pl pu pk h0 h1 ?_ (by simpa [<- rv.length] using hl);refine⟨.ref s.heap.objs.size,_,I.laid (t':=s.toks) (o:= .tup (stepT xs lo hi st)) (λb ob q=>Heap.get?_push_of_some _ q) (Nat.le_refl _) ?_,rfl,q _ (I.hok.fresh (Nat.le_refl _))⟩;exact⟨hl,_,rv,IsTup.new _ _⟩
theorem i6{r:V->Option Int->Option Int->Int->Hp->VK->Prop}(hr:Sl3 X r)(he:WE X e te)(hl:WO X lo tl)(hu:WO X hi th)(hk:WO X (some ke) tk):WE X (.Subscript e (.Slice lo hi (some ke) p2) pos) (nN r te tl th tk):=⟨FA hr he.out hl.out hu.out hk.out⟩
end
def dSt:D->Option Int->Option Int->Int->Mu->DK->Prop:=λd lo hi st μ Q=>match d with
 | .tup ds=>(st≠0/\st≠1/\(stepT ds lo hi st).length<=sizeLine)/\Q (.tup (stepT ds lo hi st)) μ
 |d=>match am μ d with
  |some ds=>(st≠0/\(bj ds lo hi st).length<=sizeLine)/\Q (.lst (bj ds lo hi st)) μ
  |none=>False
def dR(we:DE)(wl wh wk:DO):DE:=λρ μ Q=>we ρ μ λd μ1=>wl ρ μ1 λl μ2=>wh ρ μ2 λu μ3=>wk ρ μ3 λk μ4=>ax k λst=>dSt d l u st μ4 Q
instance{tk:TO}{wl wh wk:DO}[a:zV K fl te we][b:fD K fl tl wl][c:fD K fl th wh][c2:fD K fl tk wk]:zV K fl (nN (rSt K) te tl th tk) (dR we wl wh wk):=⟨λr e h k =>
 a.run r e h λW1 d μ1 x H1 le1 r1 q1 h1=>b.run r1 (e.mono le1) h1 λW2 l μ2 H2 le2 r2 h2=>c.run r2 (e.mono (le1.trans le2)) h2 λW3 u μ3 H3 le3 r3 h3=>c2.run r3 (e.mono (le1.trans (le2.trans le3))) h3 λW4 kk μ4 H4 le4 r4 h4=>by
  obtain⟨st,rfl,h4⟩:=eZ h4;refine⟨st,rfl,?_⟩;have q4:=q1.mono (le2.trans (le3.trans le4));have fin:∀xs ds,zA K W4 ds xs->st≠0/\(bj ds l u st).length<=sizeLine->∀Q,(_:Q (D.lst (bj ds l u st)) μ4)->∀Q',KV' K fl _ Q Q'->∀p,H4 p=none->Q' (.ref p) (upd H4 p (.lst (bj xs l u st))):=λxs ds z hz Q hq Q' kk p hp=>by
   obtain⟨r5,le5⟩:=r4.newF (o:= .lst (bj xs l u st)) hp;exact kk _ _ _ _ _ (le1.trans (le2.trans (le3.trans (le4.trans le5)))) r5 (.lst zB ((z.bj l u st).mono le5)) hq
  unfold dSt at h4;split at h4
  .rename_i ds;obtain⟨⟨h0,h1',hl⟩,hq⟩:=h4;obtain⟨p,xs,rfl,s1,z1⟩:=q4.tup';have z2:=z1.stepT l u st;refine .inr ⟨p,xs,rfl,s1.sm r4.sub,h0,h1',by rw[z2.length];exact hl,λp' hp=>?_⟩;obtain⟨r5,le5⟩:=r4.newF (o:= .tup (stepT xs l u st)) hp;exact k _ _ _ _ _ (le1.trans (le2.trans (le3.trans (le4.trans le5)))) r5 (.tup (SqT.of zB) (z2.mono le5)) hq
  .cases hd:am μ4 d with
   |none=>rw[hd] at h4;exact h4.elim
   |some ds =>
    rw[hd] at h4;obtain⟨hz,hq⟩:=h4;obtain⟨p,xs,rfl,s1,z1⟩:=cO r4 q4 hd;refine .inl ⟨p,xs,rfl,SqL.of s1,hz.1,by rw[(z1.bj l u st).length];exact hz.2,λp' hp=>fin xs ds z1 hz _ hq _ k p' hp⟩⟩
section
variable{k:Nat}(K:Frag)
end
theorem uO{g:DG}{Fin:List D->Mu->Prop}(xs:List α)(f:α->D)(hl:xs.length<=1000)(step:∀x∈xs,∀Q:DK,Q (.bl true) μ->g (f x) ρb μ λρ2 μ2=>we ρ2 μ2 Q)(fin:∀bs:List Bool,bs.all id=true->Fin (bs.map D.bl) μ)(hP:Pm μ):bR g bA we ρb Pm Fin (xs.map f) [] μ:=by
 have hz:(1000:Nat)<=sizeLine:=by decide
 refine gG (λi ys μ'=>μ'=μ/\ys=(List.replicate i true).map D.bl) ⟨rfl,rfl⟩ ?_ ?_ (λi ys μ' h=>h.1▸hP)
 .rintro i d ys μ' hd ⟨rfl,rfl⟩;rw[List.getElem?_map] at hd;cases hx:xs[i]? with
  |none=>rw[hx] at hd;cases hd
  |some x =>
   rw[hx] at hd;cases hd;have hi:=(List.getElem?_eq_some_iff.mp hx).1;refine⟨by rw[List.length_map,List.length_replicate];omega,λN hN=>step x (List.mem_of_getElem? hx) (λv μ4=>N _ μ4) (hN _ _ ⟨rfl,?_⟩)⟩;rw[List.replicate_succ',List.map_append];rfl
 .rintro ys μ' ⟨rfl,rfl⟩;exact fin _ (by simp)
section
variable{k:Nat}{ds:List Value}{dvs:List V}{E:XK}
end
section
variable{s:Shared}
theorem uP{it l:Addr}{its:Array Value}(hne:l≠it):∀(n i:Nat) (s:Shared) (Q:List Value->Shared->Prop),s.heap.IsListIter it l i->s.heap.IsList l its->i+n<=its.size ->
  (∀h',h'.IsListIter it l (i+n)->Heap.SameBut it s.heap h'->Q ((its.toList.drop i).take n) {s with heap:=h'})->wpAny (model prog w) A (draw (.ref it) n) Q E s
 |0,i,s,Q,hi,_,_,hq=>by
  show wpAny _ _ (pure []) Q E s;exact wpAny_pure (by simpa using hq s.heap hi (Heap.SameBut.refl ..))
 |n+1,i,s,Q,hi,hl,hle,hq=>by
  have hlt:i < its.size:=by omega
  show wpAny _ _ (pyNext (.ref it) >>= _) Q E s;refine wpAny_bind (wpAny_pyNext_list_item hi hl (x:=its[i]) (by simp[hlt]) λh1 hi1 sb1=>wpAny_bind (wpAny_holding (uP (its:=its) hne n (i+1) _ _ hi1 ?_ (by omega) λh2 hi2 sb2=>wpAny_pure ?_)))
  .obtain⟨o,e,r⟩:=hl;exact⟨o,sb1.extBut l o hne e,r⟩
  have hd:its.toList.drop i=its[i]::its.toList.drop (i+1):=by simp[List.drop_eq_getElem_cons,hlt]
  have z:=hq h2 (by rw[show i+(n+1)=i+1+n by omega];exact hi2) (sb1.trans sb2);rw[hd,List.take_succ_cons] at z;exact z
theorem FB{its:Array Value}{Q:List Value->Shared->Prop}(hh:A.handled=none)(hl:s.heap.IsList l its)
  (hq:∀h',Heap.ExtBut s.heap.objs.size s.heap h'->Q its.toList {s with heap:=h'}):wpAny (model prog w) A (unpackItems (.ref l) its.size none) Q E s:=by
 have hlt:l≠s.heap.objs.size:=by obtain⟨o,ho,_⟩:=hl;exact Nat.ne_of_lt (Heap.lt_size ho)
 have hl1:(s.heap.push {cls:= .type "list_iterator",data:= .fields #[.ref l,.int 0 0]}).IsList l its:=by obtain⟨o,e,r⟩:=hl;exact⟨o,Heap.get?_push_of_some _ e,r⟩
 unfold unpackItems;refine wpAny_bind ?_;unfold notIterableAtAll;refine wpAny_bind (wpAny_specialOf hl.typeIs PySem.F.slot_list_iter.lookup (wpAny_pure ?_));simp only[Bool.false_eq_true,if_false];refine wpAny_bind (wpAny_holding (wpAny_pyIter_list hl (wpAny_bind (wpAny_holding (uP hlt its.size 0 _ _ ⟨_,Heap.get?_push_size _ rfl,rfl,rfl⟩ hl1 (by omega) λh1 hi1 sb1=>?_)))));rw[show List.take its.size (List.drop 0 its.toList)=its.toList by rw[List.drop_zero];exact List.take_of_length_le (by simp),if_neg (by simp)];have hl2:h1.IsList l its:=by obtain⟨o,e,r⟩:=hl1;exact⟨o,sb1.extBut l o hlt e,r⟩
 refine wpAny_bind (wpAny_holding (wpAny_pyNext_list_end hh hi1 hl2 (by simp) λh2 he2=>?_));simp only[Option.isSome_none,Bool.false_eq_true,if_false];refine wpAny_pure (hq h2 λb o hb e=>he2 b o hb (sb1.extBut b o hb (Heap.get?_push_of_some _ e)))
theorem FC{x1}{its:Array Value}{Q:Unit->Shared->Prop}(hh:A.handled=none)(hl:s.heap.IsList l its)
  (hn:(assignEach es env).length=its.size)(hst:(assignEach es env).findIdx? (·.1)=none)
  (h:∀h',Heap.ExtBut s.heap.objs.size s.heap h'->wpAny (model prog w) A (assignInOrder ((assignEach es env).map (·.2)) its.toList) Q E {s with heap:=h'}) :
  wpAny (model prog w) A (assign (.Tuple es x1 pos) env (.ref l)) Q E s:=by
 rw[assign_Tuple];refine wpAny_bind (wpAny_standAt ?_);unfold unpack;rw[hn,hst];exact wpAny_bind (wpAny_holding (FB hh hl h))
end
def gSq(K:Frag)(n:Nat)(t:TGs):TG:=λv σ H Q=>∃a xs,v= .ref a/\(SqT K H a xs\/SqL K H a xs)/\xs.length=n/\t xs σ H Q
theorem FD{k:Nat}{n:Nat}(hc:X.calm=true)(hg:WGs X es gs)(hK:X.K=K:=by rfl)(hn:(assignEach es X.env).length=n:=by rfl)(hst:(assignEach es X.env).findIdx? (·.1)=none:=by rfl):WG X (.Tuple es k pos) (gSq K n gs):=⟨by
 subst hK;intro pins s σ H v u Q I r hw;obtain⟨a,xs,e1,hq,hl,hw⟩:=hw;rcases hq with hq|hq
 .exact A1 hc hg.out hn hst pins s σ H v u Q I r ⟨a,xs,e1,hq,hl,hw⟩
 .subst e1;cases r;obtain⟨its,rv,ht,hz⟩:=I.list hq;refine FC (I.ok.hd hc) ht.isList (by simp[hn,<- hl,rv.length]) hst λh' hx=>?_
  have I1:Inv X pins σ H {s with heap:=h'}:=I.kept (t':=s.toks) λb o e=>hx b o (Nat.ne_of_lt (Heap.lt_size e)) e
  exact hg.out pins _ σ H xs _ Q I1 (by simpa using rv) hw⟩
def nO(n:Nat)(gs:DGs):DG:=λd ρ μ Q=>ax (aY μ d) λds=>ds.length=n/\gs ds ρ μ Q
instance{n:Nat}{dgs:DGs}[b:jT K fl gs dgs S]:eT K fl (gSq K n gs) (nO n dgs) S:=⟨λ{W ρ μ σ H d x Q Q'} r e q h k=>by
 obtain⟨ds,hd,hl,h⟩:=eZ h;obtain⟨a,xs,rfl,hs,z⟩:=fH r q hd;exact⟨a,xs,rfl,hs.symm,by rw[z.length];exact hl,b.run r e z h k⟩⟩
theorem FE{n:Nat}{gs:DGs}{ds:List D}{R:aj->Mu->Prop}:nO n gs (.lst ds) ρ μ R=(ds.length=n/\gs ds ρ μ R):=rfl
theorem FF{k:Nat}{ds es:List D}{e:D}{n:Nat}(hk:μ k=some (.lst ds))(he:am μ e=some es)(h1:∀d∈ds,SI n d)(h2:∀d∈es,SI n d)(hn:n<=59)(q:∀b:Bool,(b=true↔ds=es)->Q (.bl (neg ^^ b)) μ):er neg (.cell k) e μ Q:=by
 obtain⟨ps,t1,c1,b1⟩:=Pl.pys (Pl.py n) ds λx hx=>(h1 x hx).pl
 obtain⟨qs,t2,c2,b2⟩:=Pl.pys (Pl.py n) es λx hx=>(h2 x hx).pl
 have e1:eV μ (.cell k)=some (.list ps):=by simp[eV,hk,t1]
 have e2:eV μ e=some (.list qs):=by
  cases e with
  |lst xs =>
   have he:some xs=some es:=he;cases he;show toPy (.lst es)=_;unfold toPy;rw[t2];rfl
  |cell kk =>
   simp only[am] at he;cases hkk:μ kk with
   |none=>rw[hkk] at he;cases he
   |some c =>
    rw[hkk] at he;cases c<;>simp at he
    subst he;simp[eV,hkk,t2]
  |_=>simp[am] at he
 unfold er;simp only[e1,e2];refine⟨⟨by rw[PyData.canLay0];exact c1,by rw[PyData.depth];omega⟩,⟨by rw[PyData.canLay0];exact c2,by rw[PyData.depth];omega⟩,q _ ?_⟩;rw[CT];exact SI.eqvs (SI.eqv n) ds es ps qs h1 h2 t1 t2
theorem uQ{k:Nat}{ds:List D}{e:D}{n:Nat}(hk:μ k=some (.lst ds))(he:am μ e=some ds)(h1:∀d∈ds,SI n d)(hn:n<=59)(q:Q (.bl false) μ):dNe (.cell k) e μ Q:=FF hk he h1 h1 hn λb hb=>by rw[hb.mpr rfl];exact q
section
variable{s:Shared}{v:V}{u r:Value}
end
section
variable{kx vx:Expr}{own free:List Str}
end
section
variable{kx vx:Expr}{tk:TE}{o0:HO}
end
section
variable{tk:TE}{wk:DE}
end
def two(a b:Int):Nat:=((b - a+1) / 2).toNat
section
end
section
variable{k:Nat}{ds:List Value}{dvs:List V}{E:XK}
end
section
open PySem.Builtin PySem.Builtin.Str
end
section
variable{s:Shared}{b b1 b2:Bool}
end
section
variable{R:List D->(Mu->Prop)->Mu->Prop}{d e:D}{ds:List D}{Q:List D->(Mu->Prop)->Prop}
end
section
variable{s:Shared}
end
section
variable{s:Shared}{b:Bool}
end
abbrev gN(p:Array Nat)(i:Nat):Nat:=p.getD i 0
theorem e8(p:Array Nat)(i:Nat):gN p i=(p[i]?).getD 0:=by
 show p.getD i 0=_;by_cases h:i < p.size<;>simp[Array.getD,h]
def okW{α:Type}(n:Nat)(lt:Nat->Nat->Bool):KasT α->(α->Prop)->Prop
 | .ret a,P=>P a
 | .ask i j k,P=>i < n/\j < n/\i≠j/\okW n lt (k (lt i j)) P
section
variable{n:Nat}{lt:Nat->Nat->Bool}
theorem gQ{α β:Type}{f:α->KasT β}{P:β->Prop}:∀(t:KasT α),okW n lt t (λa=>okW n lt (f a) P)->okW n lt (t.bind f) P
 | .ret a,h=>h
 | .ask i j k,h=>⟨h.1,h.2.1,h.2.2.1,gQ (k (lt i j)) h.2.2.2⟩
theorem dS{α:Type}{P Q:α->Prop}(q:∀a,P a->Q a):∀(t:KasT α),okW n lt t P->okW n lt t Q
 | .ret a,h=>q a h
 | .ask i j k,h=>⟨h.1,h.2.1,h.2.2.1,dS q (k (lt i j)) h.2.2.2⟩
theorem nQ{α:Type}{cmp:Nat->Nat->(Bool->Shared->Prop)->Shared->Prop}{I:Shared->Prop}{Q:α->Shared->Prop}{P:α->Prop}
  (hc:∀i j C s,i < n->j < n->i≠j->I s->(∀s',I s'->C (lt i j) s')->cmp i j C s)(q:∀a s,P a->I s->Q a s):∀(t:KasT α) (s:Shared),okW n lt t P->I s->t.kasWp cmp Q s
 | .ret a,s,h,hi=>q a s h hi
 | .ask i j k,s,h,hi=>hc i j _ s h.1 h.2.1 h.2.2.1 hi λs' hi'=>nQ hc q (k (lt i j)) s' h.2.2.2 hi'
def Srt(lt:Nat->Nat->Bool)(p:Array Nat)(m:Nat):Prop:=∀i j,i < j->j < m->lt (gN p j) (gN p i)=false
def Dsc(lt:Nat->Nat->Bool)(p:Array Nat)(m:Nat):Prop:=∀i j,i < j->j < m->lt (gN p i) (gN p j)=false
def PN(n:Nat)(p:Array Nat):Prop:=p.toList.Perm (List.range n)
theorem PN.sz{p:Array Nat}(h:PN n p):p.size=n:=by
 have:=h.length_eq;simpa using this
theorem PN.lp{p:Array Nat}(h:PN n p){i:Nat}(hi:i < n):gN p i < n:=by
 have hs:=h.sz;have hi':i < p.size:=by omega
 have e:gN p i=p[i]:=by show p.getD i 0=_;simp[Array.getD,hi']
 rw[e];have m:p[i]∈p.toList:=by simp
 exact List.mem_range.mp (h.mem_iff.mp m)
theorem PN.ne{p:Array Nat}(h:PN n p){i:Nat}(hi:i < n)(hj:j < n)(d:i≠j):gN p i≠gN p j:=by
 have hs:=h.sz;have hi':i < p.size:=by omega
 have hj':j < p.size:=by omega
 have e:gN p i=p.toList[i]:=by show p.getD i 0=_;simp[Array.getD,hi']
 have e2:gN p j=p.toList[j]:=by show p.getD j 0=_;simp[Array.getD,hj']
 have nd:p.toList.Nodup:=h.nodup_iff.mpr List.nodup_range;rw[e,e2];intro q;have hl:p.toList.length=p.size:=by simp
 rcases Nat.lt_or_gt_of_ne d with z|z
 .exact(List.pairwise_iff_getElem.mp nd) i j (by omega) (by omega) z q
 .exact(List.pairwise_iff_getElem.mp nd) j i (by omega) (by omega) z q.symm
theorem PN.rev{p:Array Nat}(h:PN n p)(i j:Nat):PN n (kas_rev p i j):=(mirror_perm p i j _).toList.trans h
theorem PN.bub{p:Array Nat}(h:PN n p)(k d:Nat):PN n (bubble p k d):=(bubble_perm p k d).toList.trans h
theorem gR{p:Array Nat}{i:Nat}(hj:j<=p.size)(k:Nat):gN (kas_rev p i j) k=if i<=k/\k < j then gN p (i+j - 1 - k) else gN p k:=by
 rw[e8,e8,e8];show((mirror p i j ((j - i) / 2))[k]?).getD 0=_;rw[getElem?_mirror_all hj];split<;>rfl
theorem uR{p:Array Nat}{k l:Nat}(hk:k < p.size)(hl:l<=k)(m:Nat):gN (bubble p k (k - l)) m=if m=l then gN p k else if l < m/\m<=k then gN p (m - 1) else gN p m:=by
 rw[e8,e8,e8,e8,getElem?_bubble hk _ (by omega)];have e:k - (k - l)=l:=by omega
 rw[e];split
 .rfl
 .split<;>rfl
structure Ord(lt:Nat->Nat->Bool):Prop where
 as:∀a b,lt a b=true->lt b a=false
 tr:∀a b c,lt b a=false->lt c b=false->lt c a=false
variable(O:Ord lt)
include O
theorem nR{p:Array Nat}(hp:PN n p):∀(f m:Nat),1<=m->m+f<=n->Srt lt p m->okW n lt (PySem.W.kas_asc p f m) (λr=>m<=r/\r<=m+f/\Srt lt p r/\(r < m+f->lt (gN p r) (gN p (r - 1))=true))
 |0,m,_,_,hs=>⟨Nat.le_refl _,Nat.le_refl _,hs,λh=>absurd h (Nat.lt_irrefl _)⟩
 |f+1,m,h1,h2,hs=>by
  refine⟨hp.lp (by omega),hp.lp (by omega),hp.ne (by omega) (by omega) (by omega),?_⟩;show okW n lt (if lt (gN p m) (gN p (m - 1))=true then _ else _) _;by_cases hc:lt (gN p m) (gN p (m - 1))=true
  .rw[if_pos hc];exact⟨Nat.le_refl _,by omega,hs,λ_=>hc⟩
  .rw[if_neg hc];have hc':lt (gN p m) (gN p (m - 1))=false:=by simpa using hc
   refine dS (λr h=>⟨by omega,by omega,h.2.2.1,λhr=>h.2.2.2 (by omega)⟩) _ (nR hp f (m+1) (by omega) (by omega) λi j hij hj=>?_);by_cases e:j=m
   .subst e;by_cases e2:i=j - 1
    .rw[e2];exact hc'
    .exact O.tr _ _ _ (hs i (j - 1) (by omega) (by omega)) hc'
   .exact hs i j hij (by omega)
def Flat(lt:Nat->Nat->Bool)(p:Array Nat)(a b:Nat):Prop:=∀i j,a<=i->i < b->a<=j->j < b->lt (gN p i) (gN p j)=false
theorem uS{p:Array Nat}{a b:Nat}(hd:Dsc lt p m)(hf:Flat lt p a b)(hb:b<=m)(hm:m<=p.size):Dsc lt (kas_rev p a b) m:=by
 intro i j hij hj;rw[gR (by omega),gR (by omega)];by_cases hi':a<=i/\i < b
 .rw[if_pos hi'];by_cases hj':a<=j/\j < b
  .rw[if_pos hj'];exact hf _ _ (by omega) (by omega) (by omega) (by omega)
  .rw[if_neg hj'];exact hd _ _ (by omega) hj
 .rw[if_neg hi'];by_cases hj':a<=j/\j < b
  .rw[if_pos hj'];exact hd _ _ (by omega) (by omega)
  .rw[if_neg hj'];exact hd _ _ hij hj
theorem ko : ∀(f : Nat) (p : Array Nat) (m q : Nat), PN n p -> 1 <= m -> m + f <= n -> q < m -> Dsc lt p m -> Flat lt p (m - (q + 1)) m -> okW n lt (PySem.W.kas_desc f p m q)
   (λr=>PN n r.1/\m<=r.2.1/\r.2.1<=n/\r.2.2 < r.2.1/\Dsc lt r.1 r.2.1/\Flat lt r.1 (r.2.1 - (r.2.2+1)) r.2.1)
 |0,p,m,q,hp,h1,h2,hq,hd,hf=>⟨hp,Nat.le_refl _,by show m<=n;omega,hq,hd,hf⟩
 |f+1,p,m,q,hp,h1,h2,hq,hd,hf=>by
  have hz:=hp.sz;have irr:∀a,lt a a=false:=λa=>by
   by_cases h:lt a a=true
   .have:=O.as _ _ h;rw[this] at h;cases h
   .simpa using h
  refine⟨hp.lp (by omega),hp.lp (by omega),hp.ne (by omega) (by omega) (by omega),?_⟩;show okW n lt (if lt (gN p m) (gN p (m - 1))=true then _ else _) _;by_cases hc:lt (gN p m) (gN p (m - 1))=true
  .rw[if_pos hc];have hc1:=O.as _ _ hc;have hd1:Dsc lt p (m+1):=λi j hij hj=>by
    by_cases e:j=m
    .subst e;by_cases e2:i=j - 1
     .rw[e2];exact hc1
     .exact O.tr _ _ _ hc1 (hd i (j - 1) (by omega) (by omega))
    .exact hd i j hij (by omega)
   have fl:∀p',Flat lt p' (m+1 - (0+1)) (m+1):=λp' i j a1 a2 a3 a4=>by
    have:i=j:=by omega
    rw[this];exact irr _
   by_cases hq0:q > 0
   .rw[if_pos hq0];refine dS (λr h=>⟨h.1,by omega,h.2.2.1,h.2.2.2.1,h.2.2.2.2⟩) _ (ko f _ (m+1) 0 (hp.rev _ _) (by omega) (by omega) (by omega) (uS O hd1 hf (by omega) (by omega)) (fl _))
   .rw[if_neg hq0];exact dS (λr h=>⟨h.1,by omega,h.2.2.1,h.2.2.2.1,h.2.2.2.2⟩) _ (ko f _ (m+1) 0 hp (by omega) (by omega) (by omega) hd1 (fl _))
  .rw[if_neg hc];have hc':lt (gN p m) (gN p (m - 1))=false:=by simpa using hc
   refine⟨hp.lp (by omega),hp.lp (by omega),hp.ne (by omega) (by omega) (by omega),?_⟩;show okW n lt (if lt (gN p (m - 1)) (gN p m)=true then _ else _) _;by_cases hb:lt (gN p (m - 1)) (gN p m)=true
   .rw[if_pos hb];exact⟨hp,Nat.le_refl _,by show m<=n;omega,hq,hd,hf⟩
   .rw[if_neg hb];have hb':lt (gN p (m - 1)) (gN p m)=false:=by simpa using hb
    refine dS (λr h=>⟨h.1,by omega,h.2.2.1,h.2.2.2.1,h.2.2.2.2⟩) _ (ko f p (m+1) (q+1) hp (by omega) (by omega) (by omega) (λi j hij hj=>?_) (λi j a1 a2 a3 a4=>?_))
    .by_cases e:j=m
     .subst e;by_cases e2:i=j - 1
      .rw[e2];exact hb'
      .exact O.tr _ _ _ hb' (hd i (j - 1) (by omega) (by omega))
     .exact hd i j hij (by omega)
    .by_cases ei:i=m
     .subst ei;by_cases ej:j=i
      .rw[ej];exact irr _
      .exact O.tr _ _ _ (hf (i - 1) j (by omega) (by omega) (by omega) (by omega)) hc'
     .by_cases ej:j=m
      .subst ej;exact O.tr _ _ _ hb' (hf i (j - 1) (by omega) (by omega) (by omega) (by omega))
      .exact hf i j (by omega) (by omega) (by omega) (by omega)
theorem uT{p:Array Nat}(hp:PN nrem p)(h1:1<=m)(hm:m<=nrem)(hd:Dsc lt p m):okW nrem lt (PySem.W.kas_tail3 m nrem p) (λr=>PN nrem r.2/\1<=r.1/\r.1<=nrem/\Srt lt r.2 r.1):=by
 refine gQ _ (dS (λr h=>?_) _ (nR O (hp.rev 0 m) (nrem - m) m h1 (by omega) λi j hij hj=>?_))
 .exact⟨hp.rev 0 m,by omega,by omega,h.2.2.1⟩
 .have hz:=hp.sz;rw[gR (by omega),gR (by omega),if_pos ⟨Nat.zero_le _,hj⟩,if_pos ⟨Nat.zero_le _,by omega⟩];exact hd _ _ (by omega) (by omega)
theorem uU{p:Array Nat}(hp:PN nrem p)(h1:1<=m)(hm:m+1<=nrem)(hd:Dsc lt p (m+1)):okW nrem lt (PySem.W.kas_descPart m nrem p) (λr=>PN nrem r.2/\1<=r.1/\r.1<=nrem/\Srt lt r.2 r.1):=by
 have irr:∀a,lt a a=false:=λa=>by
  by_cases h:lt a a=true
  .have:=O.as _ _ h;rw[this] at h;cases h
  .simpa using h
 refine gQ _ (dS (λr h=>?_) _ (ko O (nrem - (m+1)) p (m+1) 0 hp (by omega) (by omega) (by omega) hd λi j a1 a2 a3 a4=>?_))
 .obtain⟨p',m',q'⟩:=r;obtain⟨hp',b1,b2,b3,b4,b5⟩:=h;dsimp only at hp' b1 b2 b3 b4 b5 ⊢;have hz:=hp'.sz;split
  .exact uT O (hp'.rev _ _) (by omega) b2 (uS O b4 b5 (Nat.le_refl _) (by omega))
  .exact uT O hp' (by omega) b2 b4
 .have:i=j:=by omega
  rw[this];exact irr _
theorem FG{p:Array Nat}(hp:PN nrem p)(h1:1<=nrem):okW nrem lt (PySem.W.kas_count nrem p) (λr=>PN nrem r.2/\1<=r.1/\r.1<=nrem/\Srt lt r.2 r.1):=by
 have hz:=hp.sz;refine gQ _ (dS (λm h=>?_) _ (nR O hp (nrem - 1) 1 (Nat.le_refl _) (by omega) λi j hij hj=>by omega));obtain⟨b1,b2,b3,b4⟩:=h;by_cases e:m=nrem
 .rw[if_pos (by simp[e])];exact⟨hp,b1,by show m<=nrem;omega,b3⟩
 .rw[if_neg (by simp[e])];have hl:=b4 (by omega);have hl':=O.as _ _ hl;by_cases hm:m > 1
  .rw[if_pos hm];refine⟨hp.lp (by omega),hp.lp (by omega),hp.ne (by omega) (by omega) (by omega),?_⟩;show okW nrem lt (if lt (gN p 0) (gN p (m - 1))=true then _ else _) _;by_cases hc:lt (gN p 0) (gN p (m - 1))=true
   .rw[if_pos hc];exact⟨hp,b1,by show m<=nrem;omega,b3⟩
   .rw[if_neg hc];have hc':lt (gN p 0) (gN p (m - 1))=false:=by simpa using hc
    have irr:∀a,lt a a=false:=λa=>by
     by_cases h:lt a a=true
     .have:=O.as _ _ h;rw[this] at h;cases h
     .simpa using h
    have up:∀i,i < m->lt (gN p i) (gN p (m - 1))=false:=λi hi=>by
     by_cases e0:i=0
     .rw[e0];exact hc'
     .exact O.tr _ _ _ hc' (b3 0 i (by omega) hi)
    have dn:∀i,i < m->lt (gN p (m - 1)) (gN p i)=false:=λi hi=>by
     by_cases e0:i=m - 1
     .rw[e0];exact irr _
     .exact b3 i (m - 1) (by omega) (by omega)
    refine uU O (hp.rev 0 m) b1 (by omega) λi j hij hj=>?_
    rw[gR (by omega),gR (by omega),if_pos ⟨Nat.zero_le _,by omega⟩];by_cases ej:j < m
    .rw[if_pos ⟨Nat.zero_le _,ej⟩];exact O.tr _ _ _ (dn _ (by omega)) (up _ (by omega))
    .have ej':j=m:=by omega
     rw[if_neg (by omega),ej'];exact O.tr _ _ _ hl' (up _ (by omega))
  .rw[if_neg hm];have e1:m=1:=by omega
   subst e1;refine uU O hp (Nat.le_refl _) (by omega) λi j hij hj=>?_
   have ei:i=0:=by omega
   have ej:j=1:=by omega
   subst ei;subst ej;exact hl'
theorem nS{p:Array Nat}{k:Nat}(hp:PN n p)(hk:k < n)(hs:Srt lt p k):∀(f l r:Nat),r<=k->l<=r->r - l<=f->(∀i,i < l->lt (gN p k) (gN p i)=false)->(∀i,r<=i->i < k->lt (gN p i) (gN p k)=false) ->
  okW n lt (PySem.W.kas_place p k f l r) (λx=>x<=k/\(∀i,i < x->lt (gN p k) (gN p i)=false)/\(∀i,x<=i->i < k->lt (gN p i) (gN p k)=false))
 |0,l,r,h1,h2,h3,a,b=>⟨by omega,a,λi h=>b i (by omega)⟩
 |f+1,l,r,h1,h2,h3,a,b=>by
  unfold PySem.W.kas_place;by_cases e:l ≥ r
  .rw[if_pos e];exact⟨by omega,a,λi h=>b i (by omega)⟩
  .rw[if_neg e];refine⟨hp.lp hk,hp.lp (by omega),hp.ne hk (by omega) (by omega),?_⟩;show okW n lt (if lt (gN p k) (gN p ((l+r) / 2))=true then _ else _) _;by_cases hc:lt (gN p k) (gN p ((l+r) / 2))=true
   .rw[if_pos hc];refine nS hp hk hs f l _ (by omega) (by omega) (by omega) a λi hi hik=>?_
    by_cases ei:i=(l+r) / 2
    .rw[ei];exact O.as _ _ hc
    .exact O.tr _ _ _ (O.as _ _ hc) (hs _ _ (by omega) hik)
   .rw[if_neg hc];have hc':lt (gN p k) (gN p ((l+r) / 2))=false:=by simpa using hc
    refine nS hp hk hs f _ r h1 (by omega) (by omega) (λi hi=>?_) b;by_cases ei:i=(l+r) / 2
    .rw[ei];exact hc'
    .exact O.tr _ _ _ (hs i _ (by omega) (by omega)) hc'
theorem uV:∀(f:Nat) (p:Array Nat) (k:Nat),PN n p->k+f=n->Srt lt p k->okW n lt (PySem.W.kas_bin f p k) (λr=>PN n r/\Srt lt r n)
 |0,p,k,hp,h,hs=>⟨hp,by rw[<- h];exact hs⟩
 |f+1,p,k,hp,h,hs=>by
  have hz:=hp.sz;refine gQ _ (dS (λl hl=>?_) _ (nS O hp (by omega) hs k 0 k (Nat.le_refl _) (Nat.zero_le _) (by omega) (λi hi=>by omega) (λi a b=>by omega)));obtain⟨c1,c2,c3⟩:=hl;refine uV f _ (k+1) (hp.bub _ _) (by omega) λi j hij hj=>?_
  rw[uR (by omega) c1,uR (by omega) c1];by_cases ej:j=l
  .rw[if_pos ej,if_neg (by omega),if_neg (by omega)];exact c2 i (by omega)
  .rw[if_neg ej];by_cases ei:i=l
   .rw[if_pos ei,if_pos ⟨by omega,by omega⟩];exact c3 _ (by omega) (by omega)
   .rw[if_neg ei];by_cases hj':l < j/\j<=k
    .rw[if_pos hj'];by_cases hi':l < i/\i<=k
     .rw[if_pos hi'];exact hs _ _ (by omega) (by omega)
     .rw[if_neg hi'];exact hs _ _ (by omega) (by omega)
    .rw[if_neg hj',if_neg (by omega)];exact hs _ _ hij (by omega)
theorem uW(h1:1<=n):okW n lt (kas_sort n) (λr=>PN n r/\Srt lt r n):=by
 refine gQ _ (dS (λr h=>?_) _ (FG O (p:=List.toArray (List.range n)) (List.Perm.refl _) h1));obtain⟨hp,b1,b2,b3⟩:=h;by_cases e:r.1 < n
 .rw[if_pos e];have em:max r.1 1=r.1:=by omega
  rw[em];exact uV O _ _ _ hp (by omega) b3
 .rw[if_neg e];have en:r.1=n:=by omega
  exact⟨hp,by rw[<- en];exact b3⟩
end
def Kept(h0 h:Heap):Prop:=∀b o,h0.get? b=some o->h.get? b=some o
structure uX(prog:Program)(w:World)(h0:Heap)(s:Shared)(vs:List Value)(κ:SortKind)(lt:Nat->Nat->Bool):Prop where
 kind:∀(A:Around) (h':Heap),Kept h0 h'->2<=vs.length->∀(Q:SortKind->Shared->Prop) (E:Value->Shared->Prop),Q κ {s with heap:=h'}->wpAny (model prog w) A (keyKind' vs.toArray) Q E {s with heap:=h'}
 ask:∀(A:Around) (h':Heap),Kept h0 h'->∀i j,i < vs.length->j < vs.length->i≠j->∀(C:Bool->Shared->Prop),C (lt i j) {s with heap:=h'}->wpAny (model prog w) A (keyLt' κ (vs.getD i .none) (vs.getD j .none)) C (λ_ _=>False) {s with heap:=h'}
section
variable{s:Shared}{κ:SortKind}{lt:Nat->Nat->Bool}
theorem FH{n:Nat}{P:PySem.Fin->Shared->Prop}(ho:s.heap.get? a=some (seqObj "list" vs.toArray n))
  (k0:Kept h0 s.heap)(ha0:h0.get? a=none)(O:Ord lt)(sq:uX prog w h0 s vs κ lt)(h64:vs.length < 64)
  (h:∀(p:Array Nat),PN vs.length p->Srt lt p vs.length->P (.done (.ret .none)) {s with heap:=sortedHeap s.heap a vs (p.toList.map λi=>vs.getD i .none).toArray}) :
  wpAny (model prog w) A (Builtin.«list.sort» ⟨[.ref a],[]⟩) P E s:=by
 rw[list_sort_plain];have ha:a < s.heap.objs.size:=Heap.lt_size ho;refine wpAny_bind (listItems_at ho rfl ?_);refine wpAny_bind (listUpdate_at ho rfl ?_ (by rw[List.size_toArray,sizeLine_eq];omega) (Nat.zero_le _));obtain⟨e1,ho1⟩:∃e1,(s.heap.update a (Obj.mapSeq λ_=>(#[]:Array Value))).get? a=some (seqObj "list" #[] e1):=⟨_,get?_update_seq ho (λ_=> #[])⟩;refine wpAny_bind (seqEpoch_at ho1 rfl ?_);refine wpAny_bind (wpAny_newTuple ?_ (by show vs.length<=_;rw[sizeLine_eq];omega));refine wpAny_bind (wpAny_newList ?_ (Nat.zero_le _));refine wpAny_holding ?_;have ho6:(((s.heap.update a (Obj.mapSeq λ_=>(#[]:Array Value))).push (seqObj "tuple" vs.toArray 0)).push (seqObj "list" #[] 0)).get? a=some (seqObj "list" #[] e1):=by
  rw[Heap.get?_push_ne _ _ _ (by rw[size_push',Heap.size_update];exact Nat.ne_of_lt (Nat.lt_succ_of_lt ha)),Heap.get?_push_ne _ _ _ (by rw[Heap.size_update];exact Nat.ne_of_lt ha)];exact ho1
 have kk:Kept h0 (((s.heap.update a (Obj.mapSeq λ_=>(#[]:Array Value))).push (seqObj "tuple" vs.toArray 0)).push (seqObj "list" #[] 0)):=λb o e=>by
  refine Heap.get?_push_of_some _ (Heap.get?_push_of_some _ ?_);have hb:b≠a:=λq=>by rw[q,ha0] at e;cases e
  rw[Heap.get?_update_ne _ _ _ _ hb];exact k0 b o e
 show wpAny (model prog w) A _ P E {s with heap:=((s.heap.update a (Obj.mapSeq λ_=>(#[]:Array Value))).push (seqObj "tuple" vs.toArray 0)).push (seqObj "list" #[] 0)};dsimp only;have hsz:vs.toArray.size=vs.length:=by simp
 by_cases h2:vs.toArray.size < 2
 .rw[if_pos h2,if_pos h2];refine wpAny_bind (wpAny_pure ?_);rw[StateT.run_pure];refine wpAny_bind (wpAny_pure ?_);dsimp only;have eo:(arrOf (SortSt.mk' general' (vs.toArray.zip vs.toArray) #[] 7 none)).map (·.2)=vs.toArray:=by
   apply Array.toList_inj.mp;show((vs.toArray.zip vs.toArray).map (·.2)).toList=vs.toArray.toList;simp;match vs,hsz,h2 with
   | [],_,_=>rfl
   | [_],_,_=>rfl
   |_::_::r,_,h2=>simp at h2;omega
  refine wpAny_bind (seqEpoch_at ho6 rfl ?_);refine wpAny_bind (listUpdate_at ho6 rfl ?_ (Nat.zero_le _) (by rw[eo,List.size_toArray,sizeLine_eq];omega));rw[eo];simp only[bne_self_eq_false,Bool.false_eq_true,if_false];have hl2:vs.length < 2:=by rw[hsz] at h2;exact h2
  have q:=h (List.range vs.length).toArray (by show List.Perm _ _;rw[List.toList_toArray]) (λi j hij hj=>by
   exfalso;omega)
  have ev:((List.range vs.length).toArray.toList.map λi=>vs.getD i .none).toArray=vs.toArray:=by
   match vs,hl2 with
   | [],_=>rfl
   | [_],_=>rfl
  rw[ev] at q;exact wpAny_pure q
 .rw[if_neg h2,if_neg h2];have hl2:2<=vs.length:=by rw[hsz] at h2;omega
  refine wpAny_bind (sq.kind A _ kk hl2 _ _ ?_);have ask:(kas_sort vs.length).kasWp (kas_ask prog w A κ vs) (λp s'=>s'={s with heap:=((s.heap.update a (Obj.mapSeq λ_=>(#[]:Array Value))).push (seqObj "tuple" vs.toArray 0)).push (seqObj "list" #[] 0)}/\PN vs.length p/\Srt lt p vs.length)
    {s with heap:=((s.heap.update a (Obj.mapSeq λ_=>(#[]:Array Value))).push (seqObj "tuple" vs.toArray 0)).push (seqObj "list" #[] 0)} :=
   nQ (I:=λs'=>s'={s with heap:=((s.heap.update a (Obj.mapSeq λ_=>(#[]:Array Value))).push (seqObj "tuple" vs.toArray 0)).push (seqObj "list" #[] 0)})
    (λi j C s' hi hj hne e hC=>by subst e;exact sq.ask A _ kk i j hi hj hne C (hC _ rfl)) (λp s' hp e=>⟨e,hp.1,hp.2⟩) _ _ (uW O (n:=vs.length) (by omega)) rfl
  refine wpAny_bind (wpAny_mono (PySem.W.kat_run (Q:=λst' s'=>∃p:Array Nat,arrOf st'=p.map (PySem.W.kas_item (vs.toArray.zip vs.toArray))/\failedOf st'=none/\(s'={s with heap:=((s.heap.update a (Obj.mapSeq λ_=>(#[]:Array Value))).push (seqObj "tuple" vs.toArray 0)).push (seqObj "list" #[] 0)}/\PN vs.length p/\Srt lt p vs.length))
   rfl hl2 h64 (λp' st' s' a1 a2 a3 a4=>⟨p',a2,a3,a4⟩) ask) ?_ λ_ _ e=>e)
  rintro⟨⟨⟩,st'⟩ s' ⟨p,har,hf,rfl,hp,hs⟩;dsimp only;have hout:=PySem.W.kat_snds rfl har;have hz2:(List.toArray (p.toList.map λi=>vs.getD i Value.none)).size=vs.length:=by rw[List.size_toArray,List.length_map,Array.length_toList,hp.sz]
  rw[hout];refine wpAny_bind (seqEpoch_at ho6 rfl ?_);refine wpAny_bind (listUpdate_at ho6 rfl ?_ (Nat.zero_le _) (by rw[hz2,sizeLine_eq];omega));rw[hf];simp only[bne_self_eq_false,Bool.false_eq_true,if_false];exact wpAny_pure (h p hp hs)
theorem uY{Q:List Value->Shared->Prop}(hl:IsTup s.heap l vs.toArray)
  (h:Q vs {s with heap:=(s.heap.push (seqObj "list" #[] 0)).update s.heap.objs.size (Obj.mapSeq (·++ vs.toArray))})(hsz:vs.length<=sizeLine) :
  wpAny (model prog w) A (collect (.ref l)) Q E s:=by
 obtain⟨o,ho,hc,n,hd⟩:=id hl;unfold collect;refine wpAny_bind (wpAny_runValue (codeAny_builtin entry_proto_collect' ?_));show wpAny _ _ (do again (.builtin "list.__iadd__" ⟨[<- newList [],.ref l],[]⟩)) _ _ s;refine wpAny_bind (wpAny_newList (wpAny_pure ⟨Code.quiet_builtin _ (by decide+kernel),codeAny_builtin entry_list_iadd' ?_⟩) (Nat.zero_le _));show wpAny _ _ (Builtin.List.listExtendWith (.ref s.heap.objs.size) (.ref l) (.ref s.heap.objs.size)) _ _ {s with heap:=s.heap.push (seqObj "list" #[] 0)};unfold Builtin.List.listExtendWith;have ho':(s.heap.push (seqObj "list" #[] 0)).get? l=some o:=Heap.get?_push_of_some _ ho;refine wpAny_bind (wpAny_typeOf (T:="tuple") ⟨o,ho',hc⟩ ?_);have ht:(Value.type "tuple"==Value.type "tuple")=true:=by rfl
 rw[if_pos (by rw[ht];simp)];refine wpAny_bind (listItems_at ho' hd ?_);refine wpAny_bind (listItems_at (xs:= #[]) (n:=0) (Heap.get?_push_size _ rfl) rfl ?_);rw[if_neg (by simp)];refine wpAny_bind (listUpdate_at (xs:= #[]) (n:=0) (Heap.get?_push_size _ rfl) rfl ?_ (Nat.zero_le _) (by show(#[]++vs.toArray).size<=sizeLine+1;simp only[Array.size_append,List.size_toArray,List.length_nil];omega));refine wpAny_pure ?_;show wpAny (model prog w) A (do
   let o<-load s.heap.objs.size
   match o.data with
   | .seq xs _=>pure xs.toList
   |_=>unsupported "internal:collect") Q E {s with heap:=(s.heap.push (seqObj "list" #[] 0)).update s.heap.objs.size (Obj.mapSeq (·++ vs.toArray))}
 refine wpAny_bind (wpAny_load (get?_update_seq (Heap.get?_push_size _ rfl) _) ?_);show wpAny _ _ (pure ((#[]:Array Value)++vs.toArray).toList) Q E _;rw[show((#[]:Array Value)++vs.toArray).toList=vs by simp];exact wpAny_pure h
theorem FI{Q:Value->Shared->Prop}(hl:s.heap.IsList l vs.toArray\/IsTup s.heap l vs.toArray)(O:Ord lt)(sq:uX prog w s.heap s vs κ lt)(h64:vs.length < 64)
  (h:∀(p:Array Nat),PN vs.length p->Srt lt p vs.length->Q (.ref (s.heap.objs.size+1)) {s with heap:=sortedAll s.heap vs (p.toList.map λi=>vs.getD i .none).toArray}) :
  wpAny (model prog w) A (call (.builtin "sorted") [.ref l]) Q E s:=by
 refine Calls.call_function_entry kind_sorted plain_sorted entry_sorted (args_sorted1 _) ?_;unfold Builtin.«sorted»;refine wpAny_bind (m:=checkCount "sorted" 1 1 _) (wpAny_pure ?_);have g:∀{A':Around} {E':Value->Shared->Prop} (R:List Value->Shared->Prop),R vs {s with heap:=(s.heap.push (seqObj "list" #[] 0)).update s.heap.objs.size (Obj.mapSeq (·++ vs.toArray))}->wpAny (model prog w) A' (collect (.ref l)) R E' s :=
  λR r=>hl.elim (λq=>collect_list q r (by rw[sizeLine_eq];omega)) λq=>uY q r (by rw[sizeLine_eq];omega)
 refine wpAny_bind (g _ ?_);refine wpAny_bind (wpAny_newList ?_ (by rw[sizeLine_eq];omega));have hsz:((s.heap.push (seqObj "list" #[] 0)).update s.heap.objs.size (Obj.mapSeq (·++ vs.toArray))).objs.size=s.heap.objs.size+1:=by
  rw[Heap.size_update,size_push']
 have hoL:(((s.heap.push (seqObj "list" #[] 0)).update s.heap.objs.size (Obj.mapSeq (·++ vs.toArray))).push (seqObj "list" vs.toArray 0)).get? (s.heap.objs.size+1)=some (seqObj "list" vs.toArray 0):=by
  rw[<- hsz];exact Heap.get?_push_size _ rfl
 have keep:Kept s.heap (((s.heap.push (seqObj "list" #[] 0)).update s.heap.objs.size (Obj.mapSeq (·++ vs.toArray))).push (seqObj "list" vs.toArray 0)):=λb o q=>by
  have hlt:b < s.heap.objs.size:=Heap.lt_size q;rw[Heap.get?_push_ne _ _ _ (by rw[hsz];exact Nat.ne_of_lt (Nat.lt_succ_of_lt hlt)),Heap.get?_update_ne _ _ _ _ (Nat.ne_of_lt hlt),Heap.get?_push_ne _ _ _ (Nat.ne_of_lt hlt)];exact q
 show wpAny _ _ _ _ _ {s with heap:=((s.heap.push (seqObj "list" #[] 0)).update s.heap.objs.size (Obj.mapSeq (·++ vs.toArray))).push (seqObj "list" vs.toArray 0)};rw[hsz];refine wpAny_bind (wpAny_holding (wpAny_call_entry slot_list_sort ⟨_,hoL,rfl⟩ entry_list_sort
  (FH (s:={s with heap:=((s.heap.push (seqObj "list" #[] 0)).update s.heap.objs.size (Obj.mapSeq (·++ vs.toArray))).push (seqObj "list" vs.toArray 0)}) (h0:=s.heap) (κ:=κ) (lt:=lt) hoL keep (Heap.get?_none_of_le (Nat.le_succ _)) O ⟨sq.kind,sq.ask⟩ h64 λp a1 a2=>⟨_,rfl,?_⟩) (args_list_sort _)))
 exact wpAny_pure ⟨_,rfl,h p a1 a2⟩
end
def sLt(a b:Str):Bool:=decide (a.cps.toList < b.cps.toList)
theorem uZ{a b:Str}(h:sLt a b=true):sLt b a=false:=by
 unfold sLt at *; rw[decide_eq_true_eq] at h;rw[decide_eq_false_iff_not];exact List.lt_asymm h
theorem u3{a b c:Str}(h:sLt b a=false)(h':sLt c b=false):sLt c a=false:=by
 unfold sLt at *; rw[decide_eq_false_iff_not] at *;exact List.le_trans (show a.cps.toList<=b.cps.toList from h) h'
theorem FJ{a b:Str}(h:sLt a b=false)(h':sLt b a=false):a=b:=by
 unfold sLt at *; rw[decide_eq_false_iff_not] at *;have e:a.cps.toList=b.cps.toList:=List.le_antisymm (show a.cps.toList<=b.cps.toList from h') h;cases a;cases b;simp only[Str.mk.injEq];exact Array.toList_inj.mp e
def vLt:List V->List V->Option Bool
 | [],[]=>some false
 | [],_::_=>some true
 |_::_,[]=>some false
 | .str a::xs,.str b::ys=>if a=b then vLt xs ys else some (sLt a b)
 | .int a::xs,.int b::ys=>if a=b then vLt xs ys else some (decide (a < b))
 |_::_,_::_=>none
theorem nT:∀{x y:List V},vLt x y=some true->vLt y x=some false
 | [],[],h=>by simp[vLt] at h
 | [],_::_,h=>rfl
 |_::_,[],h=>by simp[vLt] at h
 |u::x,v::y,h=>by
  cases u<;>cases v<;>first | (simp[vLt] at h;done)|skip
  case int a b =>
   unfold vLt at h ⊢;by_cases e:a=b
   .rw[if_pos e] at h;rw[if_pos e.symm];exact nT h
   .rw[if_neg e] at h;rw[if_neg λz=>e z.symm];have:a < b:=by simpa using h
    simp;omega
  case str a b =>
   unfold vLt at h ⊢;by_cases e:a=b
   .rw[if_pos e] at h;rw[if_pos e.symm];exact nT h
   .rw[if_neg e] at h;rw[if_neg λz=>e z.symm];rw[uZ (by simpa using h)]
theorem nU:∀{x y z:List V},vLt y x=some false->vLt z y=some false->vLt z x=some false
 | [],y,z,h,h'=>by
  cases z with
  |nil =>
   rfl
  |cons _ _=>rfl
 |u::x,[],z,h,h'=>by simp[vLt] at h
 |u::x,v::y,[],h,h'=>by simp[vLt] at h'
 |u::x,v::y,t::z,h,h'=>by
  cases u<;>cases v<;>first | (simp[vLt] at h;done)|skip
  case int a b =>
   cases t<;>first | (simp[vLt] at h';done)|skip
   rename_i c;unfold vLt at h h' ⊢;by_cases e:b=a
   .rw[if_pos e] at h;subst e;by_cases e2:c=b
    .rw[if_pos e2] at h' ⊢; exact nU h h'
    .rw[if_neg e2] at h' ⊢; exact h'
   .rw[if_neg e] at h;have h1:¬ b < a:=by simpa using h
    by_cases e2:c=b
    .subst e2;rw[if_neg e];exact h
    .rw[if_neg e2] at h';have h2:¬ c < b:=by simpa using h'
     rw[if_neg (by omega)];simp;omega
  case str a b =>
   cases t<;>first | (simp[vLt] at h';done)|skip
   rename_i c;unfold vLt at h h' ⊢;by_cases e:b=a
   .rw[if_pos e] at h;subst e;by_cases e2:c=b
    .rw[if_pos e2] at h' ⊢; exact nU h h'
    .rw[if_neg e2] at h' ⊢; exact h'
   .rw[if_neg e] at h;have h1:sLt b a=false:=by simpa using h
    by_cases e2:c=b
    .subst e2;rw[if_neg e];exact h
    .rw[if_neg e2] at h';have h2:sLt c b=false:=by simpa using h'
     have h3:=u3 h1 h2;have e3:c≠a:=λz=>by
      subst z;exact e (FJ h1 h2)
     rw[if_neg e3,h3]
def vAt(rs:List (List V))(i j:Nat):Bool:=vLt (rs.getD i []) (rs.getD j [])==some true
theorem FK{rs:List (List V)}(h:∀i j,i≠j->(vLt (rs.getD i []) (rs.getD j [])).isSome):Ord (vAt rs) where
 as:=λa b e=>by
  have e':vLt (rs.getD a []) (rs.getD b [])=some true:=by simpa [vAt] using e
  show(_==_)=false;rw[nT e'];rfl
 tr:=λa b c e e'=>by
  by_cases hab:a=b
  .subst hab;exact e'
  .by_cases hbc:b=c
   .subst hbc;exact e
   .have f:∀{i j},i≠j->vAt rs i j=false->vLt (rs.getD i []) (rs.getD j [])=some false:=λ{i j} hij q=>by
     have s:=h i j hij;have q':(vLt (rs.getD i []) (rs.getD j [])==some true)=false:=q;cases z:vLt (rs.getD i []) (rs.getD j []) with
     |none=>rw[z] at s;cases s
     |some b=>cases b with
      |true=>rw[z] at q';exact absurd q' (by decide)
      |false=>rfl
    have r:=nU (f (λz=>hab z.symm) e) (f (λz=>hbc z.symm) e');show(_==_)=false;rw[r];rfl
section
variable{s:Shared}
theorem nV{Q:Bool->Shared->Prop}{c:Bool}:∀{xs ys:List V} {us ws:List Value} {i:Nat} {fin:Bool},Vals xs us->Vals ys ws->fin=decide (xs.length < ys.length)->vLt xs ys=some c->Q c s ->
  PySem.W.KatLex prog w A true fin Q (us.zip ws) i s
 | [],[],_,_,i,fin,.nil,.nil,hf,h,q=>by
  simp[vLt] at h;subst h;subst hf;exact kat_nil q
 | [],_::_,_,_,i,fin,.nil,.cons _ _,hf,h,q=>by
  simp[vLt] at h;subst h;subst hf;exact kat_nil (by simpa using q)
 |_::_,[],_,_,i,fin,.cons _ _,.nil,hf,h,q=>by
  simp[vLt] at h;subst h;subst hf;exact kat_nil (by simpa using q)
 |u::x,v::y,_,_,i,fin,.cons a ta,.cons b tb,hf,h,q=>by
  cases u<;>cases v<;>first | (simp[vLt] at h;done)|skip
  case int m n =>
   obtain⟨t,rfl⟩:=a;obtain⟨t',rfl⟩:=b;unfold vLt at h;refine PySem.W.kat_cons (wpAny_eqBool_int ?_);by_cases e:m=n
   .rw[if_pos e] at h;rw[show(m==n)=true by simpa using e];exact PySem.W.kat_yes (nV ta tb (by rw[hf];simp) h q)
   .rw[if_neg e] at h;rw[show(m==n)=false by simpa using e];have hc:decide (m < n)=c:=by simpa using h
    refine PySem.W.kat_no ?_;cases i with
    |zero=>exact oneLt_int (by rw[hc];exact q)
    |succ i=>exact PySem.W.kat_one _ _ (lt_int (show PySem.W.BoolBack Q (.bool _) s from by show Q _ s;rw[hc];exact q))
  case str m n =>
   obtain⟨t,rfl⟩:=a;obtain⟨t',rfl⟩:=b;unfold vLt at h;refine PySem.W.kat_cons (wpAny_eqBool_str ?_);by_cases e:m=n
   .rw[if_pos e] at h;rw[show decide (m=n)=true by simpa using e];exact PySem.W.kat_yes (nV ta tb (by rw[hf];simp) h q)
   .rw[if_neg e] at h;rw[show decide (m=n)=false by simpa using e];have hc:decide (m.cps.toList < n.cps.toList)=c:=by simpa [sLt] using h
    refine PySem.W.kat_no ?_;cases i with
    |zero=>exact oneLt_str (by rw[hc];exact q)
    |succ i=>exact PySem.W.kat_one _ _ (lt_str (show PySem.W.BoolBack Q (.bool _) s from by show Q _ s;rw[hc];exact q))
end
def Fst(rs:List (List V)):Prop:=(∀r∈rs,∃x t,r= .str x::t)\/(∀r∈rs,∃x t,r= .int x::t)
def i7(K:Frag)(H:Hp):List Addr->List (List V)->Prop:=Paired λa ys=>SqT K H a ys
section
variable{s:Shared}
theorem u4{h':Heap}(k:Kept s.heap h')(I:Inv X pins σ H s){T:String}:∀{as:List Addr} {rs:List (List V)},i7 X.K H as rs->(∀r∈rs,∃x t,r=x::t/\∀u,RelV x u->(typeOf u=(pure (.type T):Sem Value))) ->
  ∃fs,PySem.W.KatTups h' (as.map Value.ref) fs/\fs.length=as.length/\∀v∈fs,typeOf v=(pure (.type T):Sem Value)
 |_,_,.nil,_=>⟨[],.nil,rfl,λ_ h=>by cases h⟩
 |a::as,ys::rs,.cons q t,f=>by
  obtain⟨x,r,rfl,hx⟩:=f _ (.head _);obtain⟨its,v,⟨o,ho,hc,n,hd⟩,_⟩:=I.tuple q;obtain⟨fs,h1,h2,h3⟩:=u4 k I t λr hr=>f r (.tail _ hr)
  cases v with
  |cons a1 a2 =>
   rename_i u us;refine⟨u::fs,.cons (k _ _ ho) hc hd (by simp) h1,by simp[h2],λv hv=>?_⟩;rcases List.mem_cons.mp hv with rfl|hv
   .exact hx _ a1
   .exact h3 _ hv
theorem u5{as:List Addr}{rs:List (List V)}{i:Nat}:i7 X.K H as rs->i < as.length->∃a ys,as[i]? = some a/\rs.getD i []=ys/\SqT X.K H a ys:=λr hi=>by
 induction r generalizing i with
 |nil=>simp at hi
 |cons q t ih =>
  cases i with
  |zero=>exact⟨_,_,rfl,rfl,q⟩
  |succ i =>
   obtain⟨a,ys,e,e2,z⟩:=ih (i:=i) (by simpa using hi);exact⟨a,ys,by simpa using e,by simpa using e2,z⟩
end
section
variable(K:Frag)
def kt:List V->Hp->VK->Prop:=λxs H Q=>∃p as rs,xs=[.ref p]/\(SqL K H p (as.map V.ref)\/SqT K H p (as.map V.ref))/\i7 K H as rs/\as.length < 64/\Fst rs/\(∀i j,i≠j->(vLt (rs.getD i []) (rs.getD j [])).isSome) /\
 ∀(q:Array Nat) l,PN as.length q->Srt (vAt rs) q as.length->H l=none->Q (.ref l) (upd H l (.lst (q.toList.map λi=>V.ref (as.getD i 0))))
theorem nW:∀{as:List Addr} {us:List Value},Vals (as.map V.ref) us->us=as.map Value.ref
 | [],_,h=>by cases h;rfl
 |a::as,_,h=>by
  cases h with
  |cons a1 a2=>rw[show _=Value.ref a from a1,nW a2];rfl
theorem u6:∀(as:List Addr),Vals (as.map V.ref) (as.map Value.ref)
 | []=> .nil
 |a::as=> .cons rfl (u6 as)
theorem FL(h:X.K=K:=by rfl):zW X (.builtin "sorted") (kt K):=by
 subst h;intro pins s σ H xs us Q I r h;obtain⟨p,as,rs,rfl,hl,hr,hz,hF,hS,q⟩:=h;obtain⟨u,rfl,rx⟩:=vals1 r;cases rx;have hv:s.heap.IsList p (as.map Value.ref).toArray\/IsTup s.heap p (as.map Value.ref).toArray:=by
  rcases hl with hl|hl
  .obtain⟨its,r',pl,_⟩:=I.list hl;rw[nW r'] at pl;exact .inl pl.isList
  .obtain⟨its,r',pl,_⟩:=I.tuple hl;rw[nW r'] at pl;exact .inr pl
 have hlen:(as.map Value.ref).length=as.length:=List.length_map ..;have tT:∃T:String,(Value.type T !=Value.type "tuple")=true/\(Value.type T==Value.type T)=true/\∀r∈rs,∃x t,r=x::t/\∀u,RelV x u->(typeOf u=(pure (.type T):Sem Value)):=by
  rcases hF with hF|hF
  .refine⟨"str",by decide,by decide,λr hr=>?_⟩;obtain⟨x,t,rfl⟩:=hF r hr;exact⟨_,t,rfl,λu hu=>by obtain⟨t,rfl⟩:=hu;rfl⟩
  .refine⟨"int",by decide,by decide,λr hr=>?_⟩;obtain⟨x,t,rfl⟩:=hF r hr;exact⟨_,t,rfl,λu hu=>by obtain⟨t,rfl⟩:=hu;rfl⟩
 obtain⟨T,hT1,hT2,hT3⟩:=tT;refine FI (κ:=tuples' true) (lt:=vAt rs) hv (FK hS) ⟨λA h' k h2 Q E hq=>?_,λA h' k i j hi hj hij C hC=>?_⟩ (by rw[hlen];exact hz) λp' h1 h2=>?_
 .obtain⟨fs,f1,f2,f3⟩:=u4 k I hr hT3;refine PySem.W.kat_kind f1 (by rw[f2];rw[hlen] at h2;omega) (λv hv=>PySem.W.Looks.of_pure (f3 v hv)) hT2 ?_;rw[hT1];exact hq
 .rw[hlen] at hi hj;obtain⟨a,ys,e1,e2,z⟩:=u5 hr hi;obtain⟨b,zs,e3,e4,z'⟩:=u5 hr hj;obtain⟨its,v,⟨o,ho,hc,n,hd⟩,_⟩:=I.tuple z;obtain⟨its',v',⟨o',ho',hc',n',hd'⟩,_⟩:=I.tuple z';rw[show(as.map Value.ref).getD i .none= .ref a by simp[e1],show(as.map Value.ref).getD j .none= .ref b by simp[e3]];refine PySem.W.kat_lt (s:={s with heap:=h'}) (k _ _ ho) hd (k _ _ ho') hd' ?_;have hs:=hS i j hij;have hval:vLt ys zs=some (vAt rs i j):=by
   unfold vAt;rw[e2,e4] at hs ⊢;cases w:vLt ys zs with
   |none=>rw[w] at hs;cases hs
   |some b=>cases b<;>rfl
  exact nV (xs:=ys) (ys:=zs) (by simpa using v) (by simpa using v') (by simp[v.length,v'.length]) hval hC
 .rw[hlen] at h1 h2;obtain⟨e,he⟩:=sortedAll_at s.heap (as.map Value.ref) (p'.toList.map λi=>(as.map Value.ref).getD i .none).toArray;have hf:H (s.heap.objs.size+1)=none:=I.hok.fresh (Nat.le_succ _);have hout:(p'.toList.map λi=>(as.map Value.ref).getD i .none)=(p'.toList.map λi=>as.getD i 0).map Value.ref:=by
   rw[List.map_map];refine List.map_congr_left λi hi=>?_
   have hi':i < as.length:=List.mem_range.mp (h1.mem_iff.mp hi);simp[hi']
  refine⟨.ref (s.heap.objs.size+1),_,I.laid (a:=s.heap.objs.size+1) (o:= .lst (p'.toList.map λi=>V.ref (as.getD i 0))) (t':=s.toks) (λb o e=>sortedAll_old e) (Nat.le_succ _) ?_,rfl,q p' _ h1 h2 hf⟩;refine⟨by rw[List.length_map,Array.length_toList,h1.sz];exact Nat.le_trans (Nat.le_of_lt hz) (by decide),(p'.toList.map λi=>as.getD i 0).map Value.ref,e,?_,?_⟩
  .have:=u6 (p'.toList.map λi=>as.getD i 0);rw[List.map_map] at this;exact this
  .rw[he,hout]
end
def bV:List D->List D->Option Bool
 | [],[]=>some false
 | [],_::_=>some true
 |_::_,[]=>some false
 | .str a::xs,.str b::ys=>if a=b then bV xs ys else some (sLt a b)
 | .int a::xs,.int b::ys=>if a=b then bV xs ys else some (decide (a < b))
 |_::_,_::_=>none
section
variable{W:Wd}
theorem ku{c:Bool}:∀{ds es:List D} {xs ys:List V},zA K W ds xs->zA K W es ys->bV ds es=some c->vLt xs ys=some c
 | [],[],_,_,a,b,h=>by rw[a.nil',b.nil'];simp[bV] at h;subst h;rfl
 | [],_::_,_,_,a,b,h=>by obtain⟨y,r,rfl,_⟩:=b.uncons;rw[a.nil'];simp[bV] at h;subst h;rfl
 |_::_,[],_,_,a,b,h=>by obtain⟨y,r,rfl,_⟩:=a.uncons;rw[b.nil'];simp[bV] at h;subst h;rfl
 |d::ds,e::es,_,_,a,b,h=>by
  obtain⟨x,xs,rfl,qx,a'⟩:=a.uncons;obtain⟨y,ys,rfl,qy,b'⟩:=b.uncons;cases d<;>cases e<;>first | (simp[bV] at h;done)|skip
  case int m n =>
   rw[qx.i',qy.i'];unfold bV at h;unfold vLt;by_cases z:m=n
   .rw[if_pos z] at h ⊢; exact ku a' b' h
   .rw[if_neg z] at h ⊢; exact h
  case str m n =>
   rw[qx.s',qy.s'];unfold bV at h;unfold vLt;by_cases z:m=n
   .rw[if_pos z] at h ⊢; exact ku a' b' h
   .rw[if_neg z] at h ⊢; exact h
theorem u7:∀{rows:List (List D)} {xs:List V},zA K W (rows.map D.tup) xs->∃as rs,xs=as.map V.ref/\i7 K W.F as rs/\Paired (λds ys=>zA K W ds ys) rows rs
 | [],_,h=>⟨[],[],by rw[h.nil'];rfl,.nil,.nil⟩
 |_::_,_,h=>by
  obtain⟨x,r,rfl,q,z⟩:=h.uncons;obtain⟨a,ys,rfl,e,q⟩:=q.tup';obtain⟨as,rs,rfl,h1,h2⟩:=u7 z;exact⟨a::as,ys::rs,rfl,.cons e h1,.cons q h2⟩
theorem FM{i:Nat}:∀{rows:List (List D)} {as:List Addr} {rs:List (List V)},i7 K W.F as rs->Paired (λds ys=>zA K W ds ys) rows rs->i < as.length ->
  ∃a,as.getD i 0=a/\SqT K W.F a (rs.getD i [])/\zA K W (rows.getD i []) (rs.getD i []):=λ{rows as rs} h g hi=>by
 induction h generalizing i rows with
 |nil=>simp at hi
 |cons q t ih =>
  cases g with
  |cons g1 g2 =>
   cases i with
   |zero=>exact⟨_,rfl,q,g1⟩
   |succ i=>obtain⟨a,e1,e2,e3⟩:=ih g2 (i:=i) (by simpa using hi);exact⟨a,by simpa using e1,by simpa using e2,by simpa using e3⟩
theorem ky:∀{rows:List (List D)} {rs:List (List V)},Paired (λds ys=>zA K W ds ys) rows rs->∀i,zA K W (rows.getD i []) (rs.getD i []):=λ{rows rs} g=>by
 induction g with
 |nil=>intro i;simp[zA.nil]
 |cons g1 _ ih =>
  intro i;cases i with
  |zero=>exact g1
  |succ i=>simpa using ih i
end
def nX(rs:List (List D)):Prop:=(∀r∈rs,∃x t,r= .str x::t)\/(∀r∈rs,∃x t,r= .int x::t)
theorem FN{W:Wd}:∀{rows:List (List D)} {rs:List (List V)},Paired (λds ys=>zA K W ds ys) rows rs->nX rows->Fst rs:=λ{rows rs} g h=>by
 rcases h with h|h
 .refine .inl ?_;induction g with
  |nil=>intro r hr;cases hr
  |cons g1 _ ih =>
   intro r hr;rcases List.mem_cons.mp hr with rfl|hr
   .obtain⟨x,t,rfl⟩:=h _ (.head _);obtain⟨y,s,rfl,q,_⟩:=g1.uncons;exact⟨x,s,by rw[q.s']⟩
   .exact ih (λr hr=>h r (.tail _ hr)) r hr
 .refine .inr ?_;induction g with
  |nil=>intro r hr;cases hr
  |cons g1 _ ih =>
   intro r hr;rcases List.mem_cons.mp hr with rfl|hr
   .obtain⟨x,t,rfl⟩:=h _ (.head _);obtain⟨y,s,rfl,q,_⟩:=g1.uncons;exact⟨x,s,by rw[q.i']⟩
   .exact ih (λr hr=>h r (.tail _ hr)) r hr
def rLe(a b:List D):Prop:=bV b a≠some true
def kB:DRs:=λds μ Q=>match ds with
 | [d]=>∃rows:List (List D),(am μ d=some (rows.map D.tup)\/d= .tup (rows.map D.tup))/\rows.length < 64/\nX rows/\(∀i j,i≠j->(bV (rows.getD i []) (rows.getD j [])).isSome) /\
   ∀rows',List.Perm rows' rows->List.Pairwise rLe rows'->Q (.lst (rows'.map D.tup)) μ
 |_=>False
instance:bu K fl (kt K) kB:=⟨λ{W μ H ds xs Q Q'} r z h k=>by
 unfold kB at h;split at h
 .obtain⟨x,rfl,q⟩:=z.one;obtain⟨rows,hl,hz,hF,hS,h⟩:=h;have hx:∃p xs,x= .ref p/\(SqL K H p xs\/SqT K H p xs)/\zA K W (rows.map D.tup) xs:=by
   rcases hl with hl|rfl
   .obtain⟨a,xs,rfl,e1,z1⟩:=cO r q hl;exact⟨a,xs,rfl,.inl (SqL.of e1),z1⟩
   .obtain⟨a,xs,rfl,e1,z1⟩:=q.tup';exact⟨a,xs,rfl,.inr (e1.sm r.sub),z1⟩
  obtain⟨p,xs,rfl,hp,z1⟩:=hx;obtain⟨as,rs,rfl,g1,g2⟩:=u7 z1;have la:as.length=rows.length:=by have a:=Paired.length g1;have b:=Paired.length g2;omega
  have iSm:∀{o:Option Bool},o.isSome->∃c,o=some c:=λ{o} h=>by cases o with
   |none=>cases h
   |some c=>exact⟨c,rfl⟩
  refine⟨p,as,rs,rfl,hp,Paired.mapP g1 λa ys e=>e.sm r.sub,by omega,FN g2 hF,λi j hij=>?_,λqq l h1 h2 hl=>?_⟩
  .obtain⟨c,hc⟩:=iSm (hS i j hij);rw[ku (ky g2 i) (ky g2 j) hc];rfl
  .have mem:∀i∈qq.toList,i < as.length:=λi hi=>List.mem_range.mp (h1.mem_iff.mp hi)
   obtain⟨r2,le2⟩:=r.newF (o:= .lst (qq.toList.map λi=>V.ref (as.getD i 0))) hl;refine k _ (.lst ((qq.toList.map λi=>rows.getD i []).map D.tup)) _ _ _ le2 r2 (.lst zB ?_) (h _ ?_ ?_)
   .have go:∀l:List Nat,(∀i∈l,i < as.length)->zA K W ((l.map λi=>rows.getD i []).map D.tup) (l.map λi=>V.ref (as.getD i 0)):=λl=>by
     induction l with
     |nil=>intro _;exact .nil
     |cons i l ih =>
      intro hm;obtain⟨a,e1,e2,e3⟩:=FM g1 g2 (hm i (.head _));refine .cons ?_ (ih λj hj=>hm j (.tail _ hj));dsimp only;rw[e1];exact .tup e2 e3
    exact(go _ mem).mono le2
   .have e:rows=(List.range as.length).map λi=>rows.getD i []:=by
     apply List.ext_getElem?;intro i;rw[la];by_cases hi:i < rows.length
     .simp[hi]
     .simp[hi,Nat.le_of_not_lt hi]
    have h1':List.Perm (qq.toList.map λi=>rows.getD i []) ((List.range as.length).map λi=>rows.getD i []):=h1.map _;rw[<- e] at h1';exact h1'
   .rw[List.pairwise_map,List.pairwise_iff_getElem];intro i j hi hj hij;have hn:qq.toList.length=as.length:=by rw[Array.length_toList,h1.sz]
    have gi:gN qq i=qq.toList[i]:=(by
     have z:i < qq.size:=(by simpa using hi);show qq.getD i 0=_;simp[Array.getD,z])
    have gj:gN qq j=qq.toList[j]:=(by
     have z:j < qq.size:=(by simpa using hj);show qq.getD j 0=_;simp[Array.getD,z])
    have:=h2 i j hij (by omega);rw[gi,gj] at this;intro hd;unfold vAt at this;rw[ku (ky g2 _) (ky g2 _) hd] at this;exact absurd this (by decide)
 .exact h.elim⟩
def u8(K:Frag):List V->Hp->VK->Prop:=λxs H Q=>kj K xs H Q\/kt K xs H Q
theorem FO(K:Frag)(h:X.K=K:=by rfl)(hc:X.calm=true:=by rfl):zW X (.builtin "sorted") (u8 K):=(kl K h hc).or (FL K h)
def kC:DRs:=λds μ Q=>e7 ds μ Q\/kB ds μ Q
instance:bu K fl (u8 K) kC:=⟨λ{W μ H ds xs Q Q'} r z h k=>by
 rcases h with h|h
 .exact .inl (bu.run (K:=K) (r:=kj K) (q:=e7) r z h k)
 .exact .inr (bu.run (K:=K) (r:=kt K) (q:=kB) r z h k)⟩
theorem FP{rows:List (List D)}{d:D}(hl:am μ d=some (rows.map D.tup)\/d= .tup (rows.map D.tup))(hz:rows.length < 64)(hF:nX rows)(hS:∀i j,i≠j->(bV (rows.getD i []) (rows.getD j [])).isSome)(h:∀rows',List.Perm rows' rows->List.Pairwise rLe rows'->Q (.lst (rows'.map D.tup)) μ):kC [d] μ Q:= .inr ⟨rows,hl,hz,hF,hS,h⟩
section
variable{W:Wd}
end
section
variable{t:TA}{w:DA}
end
section
variable{R:Result->Shared->Prop}{I:Addr}{fp wr:List Addr}{n:Nat}{P:Nat->Value->Prop}{St:Nat->Heap->Prop}
end
section
variable{s:Shared}
end
section
variable(K:Frag)
end
theorem aw.there{o:HO}(x:aw P w H h a o):∃u,h.get? a=some u:=by
 cases o with
 |lst xs=>obtain⟨_,_,_,_,e⟩:=x;exact⟨_,e⟩
 |tup xs=>obtain⟨_,_,_,o,e,_⟩:=x;exact⟨_,e⟩
 |dK kvs=>obtain⟨_,_,_,_,o,_,_,e,_⟩:=x;exact⟨_,e⟩
 |dT kvs=>obtain⟨_,_,_,_,o,_,_,e,_⟩:=x;exact⟨_,e⟩
 |set S n=>obtain⟨o,_,_,_,e,_⟩:=x;exact⟨_,e⟩
 |ins C dx fs=>obtain⟨_,_,_,e,_⟩:=x;exact⟨_,e⟩
 |own y=>obtain⟨_,e⟩:=x;exact⟨_,e⟩
 |xd fs=>obtain⟨_,⟨_,_,_,e,_⟩,_⟩:=x;exact⟨_,e⟩
 |rng lo hi=>obtain⟨_,_,_,e⟩:=x;exact⟨_,e⟩
 |frz ob u=>obtain⟨e,_⟩:=x;exact⟨_,e⟩
 |tbl ps=>exact⟨_,(show h.get? a=some _ from x)⟩
 |met f y=>exact⟨_,(show h.get? a=some _ from x)⟩
 |ext φ=>obtain⟨_,⟨_,e⟩,_⟩:=x;exact⟨_,e⟩
theorem HOk.keptT(x:HOk P w H h)(k:∀b u,H b≠none->h.get? b=some u->h'.get? b=some u):HOk P w H h':=λa o e =>
 (x a o e).stay (λb u hb q=>k b u (hb.elim (λz=>by rw[z,e];simp) λz=>by rw[z];simp) q) (λ_ q=>q) λ_ _ q=>q
theorem FQ{s:Shared}{L e:Addr}{oe:Obj}{vs:Array Value}{hd:Value}{Q:Unit->Shared->Prop}
  (hfr:A.frames=some (env::outer))(hL:env.frame=some L)(ff:s.heap.FunFrames base (env::outer))(he:s.heap.get? e=some oe)(hv:oe.data= .fields vs)(h1:vs[1]? = some hd)
  (hhd:hd= .none\/∃T oT ts f3,hd= .ref T/\T≠e/\s.heap.get? T=some oT/\oT.data= .fields ts/\ts[3]? = some f3/\(f3==rawInt L)=false)
  (k:∀(h':Heap) (tb:Addr),h'.get? e=some (Obj.mapFields (λx=>x.setIfInBounds 1 (.ref tb)) oe)->tb≠e->(∃ts,h'.get? tb=some {cls:= .type "traceback",data:= .fields ts}/\ts[3]? = some (rawInt L))->s.heap.get? tb=none ->
   (∀b o,b∉frs (env::outer)->b≠e->hd≠ .ref b->s.heap.get? b=some o->h'.get? b=some o)->(∀b o,b∈frs (env::outer)->s.heap.get? b=some o->∃sl,h'.get? b=some {o with slots:=sl})->Q () {s with heap:=h'}) :
  wpAny M A (noteFrame (.ref e) env) Q E s:=by
 have nfe:e∉frs (env::outer):=λz=>by
  obtain⟨_,o,ho,nf⟩:=ff.mem (b:=e) z;rw[he] at ho;cases ho;exact nf vs hv
 have main:∀(g:Heap),g.objs.size=s.heap.objs.size->g.FunFrames base (env::outer)->g.get? e=some oe->(∀b o,b≠e->hd≠ .ref b->s.heap.get? b=some o->g.get? b=some o) ->
   (∀b o,b∈frs (env::outer)->s.heap.get? b=some o->g.get? b=some o)->(∀b,s.heap.get? b=none->g.get? b=none) ->
   ∀hn,wpAny M A (do
    let a<-PySem.frameOf env
    let pl<-entryPlaceOf L hn
    let b<-EntryCells.newEntry hd a Value.none (rawInt L) Value.none pl
    setField (.ref e) 1 b) Q E {s with heap:=g}:=λg sz fg eg kg kf ng hn=>by
  refine wpAny_bind (wpAny_frameOf_fun hfr fg hL λh2 so=>?_);refine wpAny_bind (wpAny_entryPlaceOf λpl hp=>?_);unfold EntryCells.newEntry newFields;obtain⟨so1,so2,so3⟩:=so;have e2:h2.get? e=some oe:=by rw[so2 e nfe];exact eg
  have hsz0:sizeOk (Data.fields ([hd,Value.ref L,Value.none,rawInt L,Value.none]++if pl.isEmpty=true then List.replicate 6 Value.none else pl).toArray):=by
   rcases hp with rfl|⟨_,_,_,_,_,_,_,rfl⟩
   .show 11<=sizeLine+2;decide
   .show 11<=sizeLine+2;decide
  refine wpAny_bind (wpAny_newObj_type ?_ hsz0);have hvs:1 < vs.size:=by
   rcases Nat.lt_or_ge 1 vs.size with z|z
   .exact z
   .rw[Array.getElem?_eq_none z] at h1;cases h1
  have htb:h2.objs.size=s.heap.objs.size:=so1.trans sz;have hne:h2.objs.size≠e:=λz=>absurd (Heap.lt_size e2) (by rw[z];exact Nat.lt_irrefl _)
  refine wpAny_setField (Heap.get?_push_of_some _ e2) hv hvs ?_;refine k _ h2.objs.size ?_ hne ⟨([hd,Value.ref L,Value.none,rawInt L,Value.none]++if pl.isEmpty=true then List.replicate 6 Value.none else pl).toArray,?_,?_⟩ (Heap.get?_none_of_le (Nat.le_of_eq htb.symm)) (λb o hb h1 h2' q=>?_) (λb o hb q=>?_)
  .exact Heap.get?_update_self _ (Heap.get?_push_of_some _ e2) (by
    obtain⟨c,d,dt,sl⟩:=oe;have hv':dt= .fields vs:=hv;subst hv';rfl)
  .rw[Heap.get?_update_other _ _ (Ne.symm hne)];exact Heap.get?_push_size _ rfl
  .rfl
  .rw[Heap.get?_update_other _ _ (Ne.symm h1)];exact Heap.get?_push_of_some _ (by rw[so2 b hb];exact kg b o h1 h2' q)
  .have hbe:b≠e:=λz=>nfe (z▸hb)
   obtain⟨sl,q2⟩:=so3 b o (kf b o hb q);exact⟨sl,by rw[Heap.get?_update_other _ _ (Ne.symm hbe)];exact Heap.get?_push_of_some _ q2⟩
 unfold noteFrame;rw[hL];refine wpAny_bind (wpAny_field he hv h1 ?_);rcases hhd with rfl|⟨T,oT,ts,f3,rfl,hTe,hT,hTd,h3,hf3⟩
 .exact main s.heap rfl ff he (λb o _ _ q=>q) (λb o _ q=>q) (λb q=>q) _
 .refine(show wpAny M A (do
    let h3<-field (.ref T) 3
    if (h3==rawInt L)=true then pure () else do
     let _<-setField (.ref T) 3 .none
     (do
      let a<-PySem.frameOf env
      let pl<-entryPlaceOf L true
      let b<-EntryCells.newEntry (.ref T) a Value.none (rawInt L) Value.none pl
      setField (.ref e) 1 b)) Q E s from ?_)
  refine wpAny_bind (wpAny_field hT hTd h3 ?_);rw[if_neg (by rw[hf3];decide)];have hsz:3 < ts.size:=by
   rcases Nat.lt_or_ge 3 ts.size with z|z
   .exact z
   .rw[Array.getElem?_eq_none z] at h3;cases h3
  have nfT:T∉frs (env::outer):=λz=>by
   obtain⟨_,o,ho,nf⟩:=ff.mem (b:=T) z;rw[hT] at ho;cases ho;exact nf ts hTd
  refine wpAny_bind (wpAny_setField hT hTd hsz ?_);refine main _ (Heap.size_update _ _ _) ?_ (by rw[Heap.get?_update_other _ _ hTe];exact he) (λb o _ hb q=>?_) (λb o hb q=>?_) (λb q=>?_) _
  .refine ff.of_keeps λb o q nf=>⟨o,?_,rfl⟩
   refine Heap.get?_update_of_ne _ (λz=>?_) q;subst z;rw[hT] at q;cases q;exact nf ts hTd
  .exact Heap.get?_update_of_ne _ (λz=>hb (by rw[z])) q
  .exact Heap.get?_update_of_ne _ (λz=>nfT (z▸hb)) q
  .rw[Heap.get?_update_other _ _ (λz=>by subst z;rw[hT] at q;cases q)];exact q
def Fly(g:Heap)(H:Hp)(h:Heap)(e C:Addr)(dx:Option Addr)(f3:Value):Prop :=
 ∃oe vs T oT ts,h.get? e=some oe/\oe.cls= .ref C/\oe.dict=dx/\oe.data= .fields vs/\vs[1]? = some (.ref T)/\T≠e/\h.get? T=some oT/\oT.data= .fields ts/\ts[3]? = some f3/\H e=none/\H T=none/\g.get? e=none/\g.get? T=none
def Made(g:Heap)(H:Hp)(h:Heap)(e C:Addr)(dx:Option Addr):Prop :=
 ∃oe vs,h.get? e=some oe/\oe.cls= .ref C/\oe.dict=dx/\oe.data= .fields vs/\vs[1]? = some .none/\H e=none/\g.get? e=none
structure ci(g:Heap)(H:Hp)(fs:List Addr)(h h':Heap):Prop where
 keep:∀b o,h.get? b=some o->b∉fs->(H b≠none\/g.get? b≠none)->h'.get? b=some o
 slot:∀b o,h.get? b=some o->b∈fs->∃sl,h'.get? b=some {o with slots:=sl}
theorem ci.trans{g:Heap}{fs:List Addr}{h1 h2:Heap}(a:ci g H fs h h1)(b:ci g H fs h1 h2):ci g H fs h h2:=⟨λc o e n t=>b.keep c o (a.keep c o e n t) n t,λc o e n=>by
 obtain⟨sl,e1⟩:=a.slot c o e n;obtain⟨sl2,e2⟩:=b.slot c _ e1 n;exact⟨sl2,e2⟩⟩
theorem ci.hok{g:Heap}{fs:List Addr}(k:ci g H fs h h')(hf:∀b∈fs,H b=none)(x:HOk P w H h):HOk P w H h' :=
 x.keptT λb u hb q=>k.keep b u q (λz=>hb (hf b z)) (.inl hb)
theorem u_{f:Array Value->Array Value}{o:Obj}{vs:Array Value}(h:o.data= .fields vs):(Obj.mapFields f o).cls=o.cls/\(Obj.mapFields f o).dict=o.dict/\(Obj.mapFields f o).data= .fields (f vs)/\(Obj.mapFields f o).isFreed=false:=by
 obtain⟨c,d,dt,sl⟩:=o;have h':dt= .fields vs:=h;subst h';exact⟨rfl,rfl,rfl,rfl⟩
theorem va{vs:Array Value}{i:Nat}{x y:Value}(h:vs[i]? = some y):(vs.setIfInBounds i x)[i]? = some x:=by
 have hi:i < vs.size:=by
  rcases Nat.lt_or_ge i vs.size with z|z
  .exact z
  .rw[Array.getElem?_eq_none z] at h;cases h
 rw[Array.getElem?_setIfInBounds_self_of_lt hi]
section
variable{s:Shared}{g:Heap}{L e:Addr}{f3:Value}
theorem vb{oe:Obj}{vs:Array Value}{hd:Value}{Q:Unit->Shared->Prop}(hfr:A.frames=some (env::outer))(hL:env.frame=some L)(ff:s.heap.FunFrames base (env::outer))(hok:HOk P w H s.heap)(hg:∀b,s.heap.get? b=none->g.get? b=none)
  (he:s.heap.get? e=some oe)(hc:oe.cls= .ref C)(hd':oe.dict=dx)(hv:oe.data= .fields vs)(h1:vs[1]? = some hd)(hHe:H e=none)(hge:g.get? e=none)
  (hhd:hd= .none\/∃T oT ts f3,hd= .ref T/\T≠e/\s.heap.get? T=some oT/\oT.data= .fields ts/\ts[3]? = some f3/\(f3==rawInt L)=false/\H T=none/\g.get? T=none)
  (k:∀h',Fly g H h' e C dx (rawInt L)->ci g H (frs (env::outer)) s.heap h'->Q () {s with heap:=h'}):wpAny M A (noteFrame (.ref e) env) Q E s:=by
 refine FQ hfr hL ff he hv h1 (hhd.imp_right λ⟨T,oT,ts,f3,a,b,c,d,f,f',_,_⟩=>⟨T,oT,ts,f3,a,b,c,d,f,f'⟩) λh' tb e1 ne ⟨ts',t1,t2⟩ tn kp sl=>?_
 obtain⟨m1,m2,m3,_⟩:=u_ (f:=λx=>x.setIfInBounds 1 (.ref tb)) hv;have hT:H tb=none:=by
  cases r:H tb with
  |none=>rfl
  |some o=>obtain⟨u,hu⟩:=(hok tb o r).there;rw[tn] at hu;cases hu
 refine k h' ⟨_,_,tb,_,ts',e1,m1.trans hc,m2.trans hd',m3,va h1,ne,t1,rfl,t2,hHe,hT,hge,hg tb tn⟩ ⟨λb o q hb hn=>kp b o hb (λz=>?_) (λz=>?_) q,λb o q hb=>sl b o hb q⟩
 .subst z;rcases hn with n|n
  .exact n hHe
  .exact n hge
 .rcases hhd with h0|⟨T,oT,ts,f3,h0,_,_,_,_,_,n1,n2⟩
  .rw[h0] at z;cases z
  .rw[h0] at z;cases z;rcases hn with n|n
   .exact n n1
   .exact n n2
theorem vc{Q:Unit->Shared->Prop}(hfr:A.frames=some (env::outer))(hL:env.frame=some L)(ff:s.heap.FunFrames base (env::outer))(hok:HOk P w H s.heap)(hg:∀b,s.heap.get? b=none->g.get? b=none)(F:Fly g H s.heap e C dx .none)
  (k:∀h',Fly g H h' e C dx (rawInt L)->ci g H (frs (env::outer)) s.heap h'->Q () {s with heap:=h'}):wpAny M A (noteFrame (.ref e) env) Q E s:=by
 obtain⟨oe,vs,T,oT,ts,h1,h2,h3,h4,h5,h6,h7,h8,h9,h10,h11,h12,h13⟩:=F;exact vb (P:=P) (w:=w) hfr hL ff hok hg h1 h2 h3 h4 h5 h10 h12 (.inr ⟨T,oT,ts,_,rfl,h6,h7,h8,h9,rfl,h11,h13⟩) k
theorem kD{Q:Unit->Shared->Prop}{l:List Env}(ff:s.heap.FunFrames base l)(F:Fly g H s.heap e C dx f3)
  (k:∀h',Fly g H h' e C dx .none->ci g H (frs l) s.heap h'->(∀b,s.heap.get? b=none->h'.get? b=none)->h'.FunFrames base l->Q () {s with heap:=h'}):wpAny M A (setFlight (.ref e) none) Q E s:=by
 obtain⟨oe,vs,T,oT,ts,h1,h2,h3,h4,h5,h6,h7,h8,h9,h10,h11,h12,h13⟩:=F;have hsz:3 < ts.size:=by
  rcases Nat.lt_or_ge 3 ts.size with z|z
  .exact z
  .rw[Array.getElem?_eq_none z] at h9;cases h9
 obtain⟨m1,m2,m3,m4⟩:=u_ (f:=λx=>x.setIfInBounds 3 .none) h8;refine wpAny_setFlight_none h1 h4 h5 h7 h8 hsz (k _ ⟨oe,vs,T,_,_,?_,h2,h3,h4,h5,h6,Heap.get?_update_self _ h7 m4,m3,va h9,h10,h11,h12,h13⟩ ⟨λb o q hb hn=>?_,λb o q hb=>?_⟩ (λb q=>?_) ?_)
 .rw[Heap.get?_update_other _ _ h6];exact h1
 .refine Heap.get?_update_of_ne _ (λz=>?_) q;subst z;rcases hn with n|n
  .exact n h11
  .exact n h13
 .obtain⟨_,o2,ho2,nf⟩:=ff.mem (b:=b) hb;refine⟨o.slots,Heap.get?_update_of_ne _ (λz=>?_) q⟩;subst z;rw[h7] at ho2;cases ho2;exact nf ts h8
 .rw[Heap.get?_update_other _ _ (λz=>by subst z;rw[h7] at q;cases q)];exact q
 .refine ff.of_keeps λb o q nf=>⟨o,Heap.get?_update_of_ne _ (λz=>?_) q,rfl⟩
  subst z;rw[h7] at q;cases q;exact nf ts h8
theorem ci.ff{l:List Env}{h h':Heap}(k:ci g H (frs l) h h')(ff:h.FunFrames base l):h'.FunFrames base l:=by
 have all:∀l':List Env,(∀b∈frs l',b∈frs l)->h.FunFrames base l'->h'.FunFrames base l':=by
  intro l';induction l' with
  |nil=>intro _ _;trivial
  |cons env r ih =>
   intro hs hl;obtain⟨hk,⟨L,o,hf,hn,ho,hd⟩,hr⟩:=hl;have hL:L∈frs l:=hs L (by unfold frs;rw[List.filterMap_cons,hf];exact List.mem_cons_self);obtain⟨sl,e⟩:=k.slot L o ho hL;exact⟨hk,⟨L,_,hf,hn,e,hd⟩,ih (λb hb=>hs b (by unfold frs;rw[List.filterMap_cons,hf];exact List.mem_cons_of_mem _ hb)) hr⟩
 exact all l (λ_ h=>h) ff
theorem FR{Q:Unit->Shared->Prop}(hfr:A.frames=some (env::outer))(hL:env.frame=some L)(ff:s.heap.FunFrames base (env::outer))(hok:HOk P w H s.heap)(hg:∀b,s.heap.get? b=none->g.get? b=none)(F:Fly g H s.heap e C dx .none)
  (k:∀h',Fly g H h' e C dx .none->ci g H (frs (env::outer)) s.heap h'->Q () {s with heap:=h'}):wpAny M A (leaving env (.ref e)) Q E s:=by
 unfold leaving;refine wpAny_bind (vc (P:=P) (w:=w) hfr hL ff hok hg F λh1 F1 S1=>?_);exact kD (S1.ff ff) F1 λh2 F2 S2 _ _=>k h2 F2 (S1.trans S2)
theorem FS{Q:Unit->Shared->Prop}(hfr:A.frames=some (env::outer))(hL:env.frame=some L)(ff:s.heap.FunFrames base (env::outer))(hok:HOk P w H s.heap)(hg:∀b,s.heap.get? b=none->g.get? b=none)(F:Made g H s.heap e C dx)
  (k:∀h',Fly g H h' e C dx .none->ci g H (frs (env::outer)) s.heap h'->Q () {s with heap:=h'}):wpAny M A (leaving env (.ref e)) Q E s:=by
 obtain⟨oe,vs,h1,h2,h3,h4,h5,h6,h7⟩:=F;unfold leaving;refine wpAny_bind (vb (P:=P) (w:=w) hfr hL ff hok hg h1 h2 h3 h4 h5 h6 h7 (.inl rfl) λh1 F1 S1=>?_);exact kD (S1.ff ff) F1 λh2 F2 S2 _ _=>k h2 F2 (S1.trans S2)
end
structure nY(K:W.Frag)(D:Addr):Prop where
 ga:W.findIn K (.ref D) "__getattribute__"=some (some (.builtin "BaseException.__getattribute__"))
 gh:W.findIn K (.ref D) "__getattr__"=some none
 hb:W.mroIn K D (.type "BaseException")=some true
 ho:W.mroIn K D (.type "object")=some true
 fc:W.findIn K (.ref D) "__class__"=some (some (.builtin "object.__class__"))
 sp:W.specialIn K (.builtin "object.__class__") "__get__"=some (some (.builtin "getset_descriptor.__get__"))
 tk:W.takesIn K (.builtin "object.__class__")=some true
 hk:W.kitCls K (.ref D) (.ref D)=some true
def CX1(P:Program)(w:World):CXT:=λouter H s E e s'=>∃a C dx H',e= .ref a/\s'.os=s.os/\AllBare s'.gens/\Un (frs outer) [] H H' s.heap s'.heap/\HOk P w H' s'.heap/\Fly s.heap H' s'.heap a C dx .none/\E (.ref C) dx H'
theorem Fly.old{g g':Heap}{e:Addr}{f3:Value}(F:Fly g H h e C dx f3)(k:∀b,g.get? b=none->g'.get? b=none):Fly g' H h e C dx f3:=by
 obtain⟨oe,vs,T,oT,ts,h1,h2,h3,h4,h5,h6,h7,h8,h9,h10,h11,h12,h13⟩:=F;exact⟨oe,vs,T,oT,ts,h1,h2,h3,h4,h5,h6,h7,h8,h9,h10,h11,k _ h12,k _ h13⟩
structure Fr0(X:Cx)(pins:List (Addr×Obj))(g:Heap):Prop where
 loc:g.get? X.env.locals≠none
 cell:∀x c,X.env.cells.lookup x=some c->g.get? c≠none
 pin:∀p∈X.pn++pins,g.get? p.1≠none
 old:∀b o,X.s₀.heap.get? b=some o->g.get? b≠none
section
variable{s:Shared}{g:Heap}
theorem Inv.fr0(I:Inv X pins σ H s)(hx:∀b∈X.ex,∃o,(b,o)∈X.pn):Fr0 X pins s.heap where
 loc:=by obtain⟨m,⟨o,es,ep,ho,_⟩,_⟩:=I.loc;rw[ho];simp
 cell:=λx c e=>by obtain⟨v,o,ho,_⟩:=I.cell x c e;rw[ho];simp
 pin:=λp hp=>by rw[(I.pin p hp).1];simp
 old:=λb o e=>by
  by_cases hb:b∈X.ex
  .obtain⟨o',ho⟩:=hx b hb;rw[(I.pin (b,o') (List.mem_append_left _ ho)).1];simp
  .obtain⟨o',e'⟩:=I.base.there b o e hb;rw[e'];simp
theorem Fr0.none(F0:Fr0 X pins g):∀b,g.get? b=none->X.s₀.heap.get? b=none:=λb q=>by
 cases r:X.s₀.heap.get? b with
 |none=>rfl
 |some o=>exact absurd q (F0.old b o r)
theorem Inv.noted{t':Nat}(I:Inv X pins σ H s)(F0:Fr0 X pins g)(S:ci g H (frs X.stack) s.heap h'):Inv X pins σ H {s with heap:=h',toks:=t'}:=by
 have kp:∀b o,s.heap.get? b=some o->b∉frs X.stack->g.get? b≠none->h'.get? b=some o:=λb o e n hg=>S.keep b o e n (.inr hg)
 have sl:∀b o,s.heap.get? b=some o->g.get? b≠none->∃sl,h'.get? b=some {o with slots:=sl}:=λb o e hg=>by
  by_cases hb:b∈frs X.stack
  .exact S.slot b o e hb
  .exact⟨o.slots,kp b o e hb hg⟩
 have cellK:∀x c,X.env.cells.lookup x=some c->∀v,s.heap.IsCell c v->h'.IsCell c v:=λx c e v ⟨o,ho,hd⟩=>by
  obtain⟨sl,q⟩:=sl c o ho (F0.cell x c e);exact⟨_,q,hd⟩
 have neL:∀b o,X.s₀.heap.get? b=some o->b≠X.env.locals:=λb o e=>Nat.ne_of_lt (Nat.lt_of_lt_of_le (Heap.lt_size e) I.ok.above)
 have nst:∀b,b≠X.env.locals->b∉X.fs->b∉frs X.stack:=λb h1 h2 z=>(List.mem_cons.mp (I.stkSub b z)).elim h1 h2
 refine⟨I.ok,I.os,I.bare,⟨λb o e n hb hx=>kp b o (I.base.keep b o e n hb hx) (nst b (neL b o e) hb) (F0.old b o e),λb o e n hb hx=>?_,I.base.free,λb o e hx=>?_,I.base.tups,I.base.frzs,I.base.tbls⟩,?_,λx c e=>?_,I.free,I.freeC,λp hp=>?_,S.hok I.stkFree I.hok,I.len⟩
 .obtain⟨sl1,e1⟩:=I.base.slot b o e n hb hx;obtain⟨sl2,e2⟩:=sl b _ e1 (F0.old b o e);exact⟨sl2,e2⟩
 .obtain⟨o1,e1⟩:=I.base.there b o e hx;obtain⟨sl2,e2⟩:=sl b _ e1 (F0.old b o e);exact⟨_,e2⟩
 .obtain⟨m,⟨o,es,ep,ho,r⟩,hl⟩:=I.loc;obtain⟨sl2,e2⟩:=sl _ o ho F0.loc;refine⟨m,⟨_,es,ep,e2,r⟩,λi x v e1 e2 e3=>?_⟩;obtain⟨u,r,l⟩:=hl i x v e1 e2 e3;refine⟨u,r,?_⟩;rcases l with l|⟨k,c,e,z⟩
  .exact .inl l
  .exact .inr ⟨k,c,e,cellK x c e _ z⟩
 .obtain⟨v,z⟩:=I.cell x c e;exact⟨v,cellK x c e v z⟩
 .obtain⟨e,n,ne,nf,d⟩:=I.pin p hp;exact⟨kp p.1 p.2 e (nst _ ne nf) (F0.pin p hp),n,ne,nf,d⟩
theorem Inv.track{o:HO}(I:Inv X pins σ H s)(F0:Fr0 X pins g)(hg:g.get? a=none)(hn:H a=none)(new:aw X.prog X.w (upd H a o) s.heap a o):Inv X pins σ (upd H a o) s:=by
 have ne:∀b,g.get? b≠none->b≠a:=λb h z=>h (z▸hg)
 refine⟨I.ok,I.os,I.bare,⟨I.base.keep,I.base.slot,λb o e n hx=>by rw[zy (ne b (F0.old b o e))];exact I.base.free b o e n hx,I.base.there,λb xs e=>by rw[zy (zP (I.base.tups b xs e) hn)];exact I.base.tups b xs e,λb o u e=>by rw[zy (zP (I.base.frzs b o u e) hn)];exact I.base.frzs b o u e,λb ps e=>?_⟩,I.loc,I.cell,?_,λx c e=>?_,λp hp=>?_,λb u e=>?_,I.len⟩
 .obtain⟨m,e1⟩:=I.base.tbls b ps e;exact⟨m,by rw[zy (zP e1 hn)];exact e1⟩
 .rw[zy (ne _ F0.loc)];exact I.free
 .rw[zy (ne _ (F0.cell x c e))];exact I.freeC x c e
 .obtain⟨e,n,q⟩:=I.pin p hp;exact⟨e,by rw[zy (ne _ (F0.pin p hp))];exact n,q⟩
 .by_cases hb:b=a
  .subst hb;rw[zB] at e;cases e;exact new
  .rw[zy hb] at e;exact(I.hok b u e).stay (λc v _ q=>q) (λc q=>by rw[zy (zP q hn)];exact q) λc xs q=>by rw[zy (zP q hn)];exact q
theorem Inv.unset{i:Nat}{v:Option Value}{m:Str->Option Value}{t':Nat}(I:Inv X pins σ H s)(hN:X.N.Nodup)(hi:X.N[i]? = some x)(hx:X.env.scope.names.lookup x=some .local)
  (hm:∀(i:Nat) (y:Str) (w:V),X.N[i]? = some y->σ[i]? = some (some w)->Vis X.env.scope y->∃u,RelV w u/\Look X.env s.heap m y u)
  (hn:h'.Ns X.env.locals λy=>if y=x then v else m y)(sb:Heap.SameBut X.env.locals s.heap h'):Inv X pins (σ.set i none) H {s with heap:=h',toks:=t'}:=by
 have kp:∀b o,b≠X.env.locals->s.heap.get? b=some o->h'.get? b=some o:=λb o n e=>(sb.2 b n).trans e
 have neL:∀b o,X.s₀.heap.get? b=some o->b≠X.env.locals:=λb o e=>Nat.ne_of_lt (Nat.lt_of_lt_of_le (Heap.lt_size e) I.ok.above)
 have cellK:∀x c,X.env.cells.lookup x=some c->∀v,s.heap.IsCell c v->h'.IsCell c v:=λx c e v ⟨o,ho,hd⟩=>⟨o,kp c o (I.cne x c e) ho,hd⟩
 refine⟨I.ok,I.os,I.bare,⟨λb o e n hb hx=>kp b o (neL b o e) (I.base.keep b o e n hb hx),λb o e n hb hx=>?_,I.base.free,λb o e hx=>?_,I.base.tups,I.base.frzs,I.base.tbls⟩,⟨_,hn,λj y w e1 e2 e3=>?_⟩,λx c e=>?_,I.free,I.freeC,λp hp=>?_,λb u e=>?_,by simp[I.len]⟩
 .obtain⟨sl1,e1⟩:=I.base.slot b o e n hb hx;exact⟨sl1,kp b _ (neL b o e) e1⟩
 .obtain⟨o1,e1⟩:=I.base.there b o e hx;exact⟨o1,kp b _ (neL b o e) e1⟩
 .have hij:i≠j:=λz=>by
   subst z;by_cases hl:i < σ.length
   .rw[List.getElem?_set_self hl] at e2;cases e2
   .rw[List.getElem?_eq_none (by simp;omega)] at e2;cases e2
  rw[List.getElem?_set_ne hij] at e2;obtain⟨u,r,l⟩:=hm j y w e1 e2 e3;refine⟨u,r,?_⟩;have hyx:y≠x:=λz=>by
   subst z;obtain⟨a1,b1⟩:=List.getElem?_eq_some_iff.mp hi;obtain⟨a2,b2⟩:=List.getElem?_eq_some_iff.mp e1;exact hij ((List.getElem_inj hN).mp (b1.trans b2.symm))
  rcases l with⟨k,l⟩|⟨k,c,e,z⟩
  .exact .inl ⟨k,by show(if y=x then v else m y)=_;rw[if_neg hyx];exact l⟩
  .exact .inr ⟨k,c,e,cellK y c e _ z⟩
 .obtain⟨v,z⟩:=I.cell x c e;exact⟨v,cellK x c e v z⟩
 .obtain⟨e,n,ne,nf,d⟩:=I.pin p hp;exact⟨kp p.1 p.2 ne e,n,ne,nf,d⟩
 .refine(I.hok b u e).stay (λc w hc q=>kp c w (λz=>?_) q) (λ_ q=>q) λ_ _ q=>q
  have hf:=I.free;rw[<- z] at hf;rcases hc with rfl|hc
  .rw[hf] at e;cases e
  .rw[hf] at hc;cases hc
end
structure XOk(X:Cx)(E:St->XK):Prop where
 ex:∀b∈X.ex,∃o,(b,o)∈X.pn
 fly:∀{pins σ H s g e C dx},Inv X pins σ H s->Fr0 X pins g->(∀b,s.heap.get? b=none->g.get? b=none)->Fly g H s.heap e C dx .none->E σ (.ref C) dx H->X.xe (.ref e) s
structure XMk(X:Cx)(E:St->XK):Prop where
 ex:∀b∈X.ex,∃o,(b,o)∈X.pn
 made:∀{pins σ H s g e C dx},Inv X pins σ H s->Fr0 X pins g->(∀b,s.heap.get? b=none->g.get? b=none)->Made g H s.heap e C dx->E σ (.ref C) dx H->X.xe (.ref e) s
theorem XOk.pass{E:St->XK}(x:XOk X E){pins σ H s e s'}(I:Inv X pins σ H s)(h:CX1 X.prog X.w X.stack H s (E σ) e s'):X.xe e s':=by
 obtain⟨a,C,dx,H',rfl,os,bare,un,hok,fl,hE⟩:=h;have I':=I.call' (ch:=[]) os un hok bare (λb z=>absurd z (by simp));exact x.fly I' (I.fr0 x.ex) (λb q=>by
  cases r:s.heap.get? b with
  |none=>rfl
  |some o=>obtain⟨o',e⟩:=un.there b o r (by simp);rw[q] at e;cases e) fl hE
section
variable{cd:Value}{s:Shared}{E:XK}
theorem fU:XOk (cz (CX1 P w) P w K mg base N qual scope f cd A outer s H E cm) (λ_=>E):=⟨(λ_ z=>nomatch z),λ{pins σ H1 s1 g e C dx} I F0 hg F hE=>by
 refine FR (P:=P) (w:=w) (outer:=outer) I.ok.frames rfl I.stack I.hok hg F λh' F' S=>?_
 have I1:=I.noted (t':=s1.toks) F0 S;exact⟨e,C,dx,H1,rfl,I1.os,I1.bare,I1.base,I1.hok,F'.old F0.none,hE⟩⟩
theorem nZ:XMk (cz (CX1 P w) P w K mg base N qual scope f cd A outer s H E cm) (λ_=>E):=⟨(λ_ z=>nomatch z),λ{pins σ H1 s1 g e C dx} I F0 hg F hE=>by
 refine FS (P:=P) (w:=w) (outer:=outer) I.ok.frames rfl I.stack I.hok hg F λh' F' S=>?_
 have I1:=I.noted (t':=s1.toks) F0 S;exact⟨e,C,dx,H1,rfl,I1.os,I1.bare,I1.base,I1.hok,F'.old F0.none,hE⟩⟩
end
abbrev bmV:List Value:=[.type "ValueError",.type "Exception",.type "BaseException",.type "object"]
abbrev newV:String:="ValueError.__new__"
section
variable{E:St->XK}{a:Expr}{as:List Expr}{t:TA}
end
section
variable{E:St->XK}{k:Nat}{c m:Str}{p:Pos}{e o:Expr}{t:TA}{g:List Value->List Value->List Value}
theorem vd{s:Shared}{Q:VK}{vs:List V}(F:zU X.prog X.w X.K X.mg X.base (CX1 X.prog X.w) k f fd ps sp)(hr:aS k X.A)(hb:cV X.K fd ps ks g gV)(hx:XOk X E)
  (I:Inv X pins σ H s)(r:Vals vs us)(rz:Vals zs ws)(h:sp (gV vs zs) H Q (E σ)):wpAny (model X.prog X.w) X.A (call (.ref f) us (ks.zip ws)) (EP X pins σ Q) X.xe s:=by
 have r2:=hb.rel r rz;have hl:(g us ws).length=ps.length:=by rw[<- r2.length];exact F.len _ _ _ _ h
 refine wpAny_call (codeAny_mono (F.run X.A X.stack s H ⟨us,ks.zip ws⟩ (g us ws) (gV vs zs) Q (E σ) hr I.env0 (hb.to s us ws I.kIn hl) r2 h) λr s' hq=>?_);cases r with
 |error e=>exact hx.pass I hq
 |ok fl =>
  cases fl with
  |ret u=>exact I.after hq
  |next=>exact False.elim hq
  |brk=>exact False.elim hq
  |cont=>exact False.elim hq
def ve(sp:Sp)(gV:List V->List V->List V)(E:St->XK)(t tk:TA):TE:=λσ H Q=>t σ H λvs H1=>tk σ H1 λzs H2=>sp (gV vs zs) H2 Q (E σ)
theorem gS(h:fA X.prog X.w X.K X.mg X.base (CX1 X.prog X.w) x j ps sp ks gV)(hr:aS k X.A)(hx:XOk X E)(ha:WA X (e::es) t)(hkw:WK X kws tk)(hj:j<=k:=by decide)(hg:Gl X x:=by rfl)
  (hall:(backToKw pos (keywordEach kws X.env)).all (·.1.isSome)=true:=by rfl)(hks:(backToKw pos (keywordEach kws X.env)).filterMap (·.1)=ks:=by rfl)
  (hdb:(x==("__debug__":Str))=false:=by decide)(he:starEach (e::es) X.env=(false,eval e X.env)::starEach es X.env:=by rfl)
  (hpl:((backTo pos (starEach (e::es) X.env)).any (·.1)||(backToKw pos (keywordEach kws X.env)).any (·.1.isNone))=false:=by rfl):WE X (.Call (.Name x p) (e::es) kws pos) (ve sp gV E t tk):=⟨by
 obtain⟨f,fd,g,F,b,kp,m⟩:=h.ex;intro pins s σ H Q I h;refine wpAny_Call_Name_kw (fm I hg m ?_ hdb);refine callWith_KW (h₀:=X.base) I.ok.mod.kin kp hall (thn (ha.out pos pins s σ H _ I h) λus s1 ⟨vs,H1,I1,r,q⟩=>?_) hpl he;refine thn (hkw.out pos pins s1 σ H1 _ I1 q) λws s2 ⟨zs,H2,I2,rz,q2⟩=>⟨I2.kIn,?_⟩
 rw[hks];exact vd (F.mono hj) hr b hx I2 r rz q2⟩
def vf(K:Frag)(c m:Str)(sp:Sp)(gV:List V->List V->List V)(E:St->XK)(ta:TE)(t tk:TA):TE:=λσ H Q=>ta σ H λx H1=>∃C a dx fs,clsOf K c=some C/\x= .ref a/\H1 a=some (.ins C dx fs)/\fs.lookup m=none /\
 t σ H1 λvs H2=>tk σ H2 λzs H3=>sp (gV (x::vs) zs) H3 Q (E σ)
theorem vg{pl:Sem Bool}(K:Frag)(hh:bT X.prog X.w X.K X.mg X.base (CX1 X.prog X.w) c m j ps sp ks gV)(hr:aS k X.A)(hx:XOk X E)(he:WE X o ta)(ha:WA X (e::es) t)(hkw:WK X kws tk)(hK:X.K=K:=by rfl)(hj:j<=k:=by decide)
  (hall:(backToKw pos (keywordEach kws X.env)).all (·.1.isSome)=true:=by rfl)(hks:(backToKw pos (keywordEach kws X.env)).filterMap (·.1)=ks:=by rfl)
  (hst:starEach (e::es) X.env=(false,eval e X.env)::starEach es X.env:=by rfl)
  (hpl:((backTo pos (starEach (e::es) X.env)).any (·.1)||(backToKw pos (keywordEach kws X.env)).any (·.1.isNone))=false:=by rfl)
  (ht:eval (.Call (.Attribute o m apos) (e::es) kws pos) X.env=(do
   let ov<-eval o X.env
   standAt apos.atName
   let (f,first)<-holding [ov] (getMethod ov m pl)
   callWith pos f first (backTo pos (starEach (e::es) X.env)) (backToKw pos (keywordEach kws X.env))):=by rfl) :
  WE X (.Call (.Attribute o m apos) (e::es) kws pos) (vf K c m sp gV E ta t tk):=⟨by
 subst hK;obtain⟨C0,f,fd,g,hc0,hcl,hm,F,hb⟩:=hh.ex;intro pins s σ H Q I h;refine methodCall_KW (pl:=pl) (thn (he.out pins s σ H _ I h) λu s1 ⟨x,H1,I1,rx,C,a,dx,fs,hc,ex,ea,l,q⟩=>?_) ht;rw[hc0] at hc;cases hc;subst ex;obtain rfl:u=Value.ref a:=rx;refine mq I1 ea hcl hm l ?_;refine callWith_KW (first:=[.ref a]) (h₀:=X.base) I.ok.mod.kin hm.kp hall (thn (ha.out pos pins s1 σ H1 _ I1 q) λus s2 ⟨vs,H2,I2,r,q2⟩=>?_) hpl hst;refine thn (hkw.out pos pins s2 σ H2 _ I2 q2) λws s3 ⟨zs,H3,I3,rz,q3⟩=>⟨I3.kIn,?_⟩
 rw[hks];exact vd (us:= .ref a::us) (vs:= .ref a::vs) (F.mono hj) hr hb hx I3 (.cons rfl r) rz q3⟩
end
abbrev Cx.tr(X:Cx)(xe:Value->Shared->Prop)(pn:List (Addr×Obj)):Cx:={X with xe:=xe,pn:=pn}
abbrev Cx.hand(X:Cx)(e:Addr):Cx:={X with A:=X.A.mark (some (.ref e)),calm:=false,xe:=λ_ _=>False}
section
variable{pn:List (Addr×Obj)}{s:Shared}{xe:Value->Shared->Prop}{e:Addr}{g:Heap}
theorem Cx.Ok.tr(ok:X.Ok):(X.tr xe pn).Ok:=⟨ok.mod,ok.kind,ok.glob,ok.blt,ok.above,ok.inj,ok.has,ok.cab,ok.hd,ok.frames,ok.stk,ok.exf,ok.bs,ok.bsz,ok.noex,ok.exfs,ok.funs,ok.frf⟩
theorem Cx.Ok.untr(ok:(X.tr xe pn).Ok):X.Ok:=⟨ok.mod,ok.kind,ok.glob,ok.blt,ok.above,ok.inj,ok.has,ok.cab,ok.hd,ok.frames,ok.stk,ok.exf,ok.bs,ok.bsz,ok.noex,ok.exfs,ok.funs,ok.frf⟩
theorem Inv.tr(I:Inv X pins σ H s):Inv (X.tr xe (X.pn++pins)) [] σ H s:=⟨I.ok.tr,I.os,I.bare,I.base,I.loc,I.cell,I.free,I.freeC,λp hp=>I.pin p (by simpa using hp),I.hok,I.len⟩
theorem Inv.untr{pins':List (Addr×Obj)}(I:Inv (X.tr xe (X.pn++pins)) pins' σ H s):Inv X pins σ H s:=⟨I.ok.untr,I.os,I.bare,I.base,I.loc,I.cell,I.free,I.freeC,λp hp=>I.pin p (List.mem_append_left _ hp),I.hok,I.len⟩
theorem Fr0.untr{pins':List (Addr×Obj)}(F:Fr0 (X.tr xe (X.pn++pins)) pins' g):Fr0 X pins g:=⟨F.loc,F.cell,λp hp=>F.pin p (List.mem_append_left _ hp),F.old⟩
theorem SP.untr{D:Ends}{f:Flow}{s':Shared}(h:SP (X.tr xe (X.pn++pins)) [] D f s'):SP X pins D f s':=by
 cases f with
 |next=>obtain⟨σ',H',I,q⟩:=h;exact⟨σ',H',I.untr,q⟩
 |brk=>obtain⟨σ',H',I,q⟩:=h;exact⟨σ',H',I.untr,q⟩
 |cont=>obtain⟨σ',H',I,q⟩:=h;exact⟨σ',H',I.untr,q⟩
 |ret u=>obtain⟨v,σ',H',I,r,q⟩:=h;exact⟨v,σ',H',I.untr,r,q⟩
theorem Inv.hand(I:Inv X pins σ H s):Inv (X.hand e) pins σ H s:=⟨⟨I.ok.mod,I.ok.kind,I.ok.glob,I.ok.blt,I.ok.above,I.ok.inj,I.ok.has,I.ok.cab,λz=>(nomatch z),I.ok.frames,I.ok.stk,I.ok.exf,I.ok.bs,I.ok.bsz,I.ok.noex,I.ok.exfs,I.ok.funs,I.ok.frf⟩,I.os,I.bare,I.base,I.loc,I.cell,I.free,I.freeC,I.pin,I.hok,I.len⟩
theorem Inv.unhand(ok:X.Ok)(I:Inv (X.hand e) pins σ H s):Inv X pins σ H s:=⟨ok,I.os,I.bare,I.base,I.loc,I.cell,I.free,I.freeC,I.pin,I.hok,I.len⟩
end
def kE(D:Ends)(i:Nat):Ends:={nx:=λσ' H'=>D.nx (σ'.set i none) H',rt:=D.rt,bk:=λσ' H'=>D.bk (σ'.set i none) H',ct:=λσ' H'=>D.ct (σ'.set i none) H'}
def i8(K:Frag)(Ch:Addr)(i:Nat)(th:TS)(D:Ends):St->XK:=λσ c dx H=>∃C,c= .ref C/\W.exmOne K (.ref C) (.ref Ch)=some true/\∀a,H a=none->th (kE D i) (σ.set i (some (.ref a))) (upd H a (fC a C dx))
def n4(K:Frag)(Ch:Addr)(i:Nat)(tb:(St->XK)->TS)(th:TS):TS:=λD σ0 H0=>tb (i8 K Ch i th D) D σ0 H0
section
variable{i:Nat}{n:Str}{body suite:List Stmt}{b₀:Stmt}{hpos:Pos}{tb:(St->XK)->TS}{th:TS}
theorem FT(hx:X.ex=[])(hs:X.stack=X.env::X.outer)(hL:X.env.frame=some X.env.locals)(hN:X.N.Nodup)(hi:X.N[i]? = some n)(hn:X.env.scope.names.lookup n=some .local)(hg:Gl X x)(hm:X.mg x=some (.ref Ch))
  (hb:∀E xe pn,XOk (X.tr xe pn) E->PSs (X.tr xe pn) body (tb E))(hh:∀a,PSs (X.hand a) (b₀::suite) th)(hdb:(x==("__debug__":Str))=false:=by decide) :
  PS X (.Try body [.ExceptHandler (some (.Name x np)) (some n) (b₀::suite) hpos] [] [] pos) (n4 X.K Ch i tb th):=by
 intro pins s σ0 H0 D I h;have ok:=I.ok;refine wpAny_Try_except ?_;have xo:XOk (X.tr (λe s1=>∃ σ H g a C dx,e= .ref a/\Inv X pins σ H s1/\Fr0 X pins g/\(∀b,s1.heap.get? b=none->g.get? b=none)/\Fly g H s1.heap a C dx .none/\i8 X.K Ch i th D σ (.ref C) dx H) (X.pn++pins)) (i8 X.K Ch i th D) :=
  ⟨(λb z=>by rw[show(X.tr _ _).ex=X.ex from rfl,hx] at z;cases z),λ{pins' σ H s g e C dx} I F0 hg F hE=>⟨σ,H,g,e,C,dx,rfl,I.untr,F0.untr,hg,F,hE⟩⟩
 refine wpAny_mono (hb _ _ _ xo [] s σ0 H0 D I.tr h) (λf s1 hf=>?_) (λe s1 he=>?_)
 .have hf':=SP.untr hf;cases f with
  |next=>obtain⟨σ',H',I',q⟩:=hf';exact qe pins s1 σ' H' D I' q
  |brk=>exact hf'
  |cont=>exact hf'
  |ret u=>exact hf'
 .obtain⟨σ,H,g,a,C,dx,rfl,I1,F0,hg1,F,C',eC,hex,hE⟩:=he;cases eC;have hfr:X.A.frames=some (X.env::X.outer):=by rw[<- hs];exact I1.ok.frames
  have ff:s1.heap.FunFrames X.base (X.env::X.outer):=by rw[<- hs];exact I1.stack
  have fE:frs (X.env::X.outer)=frs X.stack:=by rw[hs]
  refine vc (P:=X.prog) (w:=X.w) hfr hL ff I1.hok hg1 F λh2 F2 S2=>?_
  rw[fE] at S2;have I2:=I1.noted (t':=s1.toks) F0 S2;have ff2:h2.FunFrames X.base (X.env::X.outer):=by rw[<- hs];exact I2.stack
  refine kD ff2 F2 λh3 F3 S3 _ _=>?_
  rw[fE] at S3;have I3:=I2.noted (t':=s1.toks) F0 S3;have ff3:h3.FunFrames X.base (X.env::X.outer):=by rw[<- hs];exact I3.stack
  refine wpAny_handleBy_cons (codeAny_handlers_test ?_) (λz=>nomatch z);refine fm (X:=X.hand a) I3.hand hg hm ?_ hdb;have ty:W.Looks (model X.prog X.w) h3 (typeOf (.ref a)) (.ref C):=by
   obtain⟨oe,vs,T,oT,ts,e1,e2,e3,e4,_⟩:=F3;exact e2▸(W.Looks.ld e1).andThen .now
  refine(W.exm_one I3.kIn ty hex).at ?_;refine codeAny_handlers_suite_as ?_;refine kD ff3 F3 λh4 F4 S4 _ _=>?_
  rw[fE] at S4;have I4:=I3.noted (t':=s1.toks) F0 S4;obtain⟨oe,vs,T,oT,ts,e1,e2,e3,e4,_,_,_,_,_,hHa,_,hga,_⟩:=F4;have I5:Inv X pins σ (upd H a (fC a C dx)) _:=I4.track (o:=fC a C dx) F0 hga hHa ⟨⟨oe,e1,e2,e3,by unfold W.notCls;rw[e4]⟩,⟨oe,e1⟩,λh1 h2 ⟨ox,q1,q2⟩ k=>⟨ox,k _ q1,q2⟩⟩;refine lY I5 hN hi (.inl hn) (show RelV (.ref a) (.ref a) from rfl) (λs6 I6=>?_) (.inr hn);refine wpAny_mono (hh a pins s6 _ _ _ I6.hand (hE a hHa)) (λf s7 hf=>?_) (λ_ _ z=>z.elim);have fin:∀{σ7:St} {H7:Hp} {Q:Unit->Shared->Prop},Inv (X.hand a) pins σ7 H7 s7->(∀s8,Inv X pins (σ7.set i none) H7 s8->Q () s8)->wpAny (model X.prog X.w) X.A (do
    bindName X.env n Value.none
    unbindBehindTheSuite X.env n hpos) Q X.xe s7:=λ{σ7 H7 Q} I7 k=>by
   have I7':=I7.unhand ok;obtain⟨m,hns,hl⟩:=I7'.loc;refine wpAny_nameGoes_keeps hn hns (by rw[ok.kind];rfl) λh8 v n8 sb=>k _ (I7'.unset (t':=s7.toks+1) hN hi hn hl n8 sb)
  cases f with
  |next=>obtain⟨σ7,H7,I7,q⟩:=hf;exact fin I7 λs8 I8=>⟨_,_,I8,q⟩
  |brk=>obtain⟨σ7,H7,I7,q⟩:=hf;exact fin I7 λs8 I8=>⟨_,_,I8,q⟩
  |cont=>obtain⟨σ7,H7,I7,q⟩:=hf;exact fin I7 λs8 I8=>⟨_,_,I8,q⟩
  |ret u=>obtain⟨v,σ7,H7,I7,r,q⟩:=hf;exact fin I7 λs8 I8=>⟨v,_,_,I8,r,q⟩
end
section
variable{k:Nat}{p:Pos}{e:Expr}{t:TA}
end
section
end
def n6(K:Frag)(D:Addr):Bool :=
 W.findIn K (.ref D) "__getattribute__"==some (some (.builtin "BaseException.__getattribute__"))&&W.findIn K (.ref D) "__getattr__"==some none&&W.mroIn K D (.type "BaseException")==some true&&W.mroIn K D (.type "object")==some true &&
 W.findIn K (.ref D) "__class__"==some (some (.builtin "object.__class__"))&&W.specialIn K (.builtin "object.__class__") "__get__"==some (some (.builtin "getset_descriptor.__get__"))&&W.takesIn K (.builtin "object.__class__")==some true&&W.kitCls K (.ref D) (.ref D)==some true
theorem nY.of{D:Addr}(h:n6 K D=true):nY K D:=by
 unfold n6 at h;simp only[Bool.and_eq_true,beq_iff_eq] at h;obtain⟨⟨⟨⟨⟨⟨⟨h1,h2⟩,h3⟩,h4⟩,h5⟩,h6⟩,h7⟩,h8⟩:=h;exact⟨h1,h2,h3,h4,h5,h6,h7,h8⟩
def kF(K:Frag)(es ps ks hs:List Str):Bool:=es.all λc=>match clsOf K c with
 |none=>false
 |some C=>bz c&&n6 K C&&(!ps.contains c||W.excIn K C bmV newV)&&W.kitOne K (.ref C) (.type "ValueError")==some true &&
  (ks.all λk=>match clsOf K k with
   |none=>false
   |some D=>W.kitOne K (.ref C) (.ref D)==some (c==k)) &&
  hs.all λk=>match clsOf K k with
   |none=>false
   |some D=>W.exmOne K (.ref C) (.ref D)==some true
class fV(K:Frag)(es:List Str)(ps:outParam (List Str))(ks:List Str)(hs:outParam (List Str)):Prop where
 ok:kF K es ps ks hs=true
section
variable{es hs:List Str}{c k:Str}{D:Addr}
theorem fV.row(t:fV K es ps ks hs)(hc:c∈es)(h:clsOf K c=some C):(bz c=true/\nY K C)/\(c∈ps->W.excIn K C bmV newV=true)/\W.kitOne K (.ref C) (.type "ValueError")=some true /\
  (∀k∈ks,∀D,clsOf K k=some D->W.kitOne K (.ref C) (.ref D)=some (c==k))/\∀k∈hs,∀D,clsOf K k=some D->W.exmOne K (.ref C) (.ref D)=some true:=by
 have e:=t.ok;unfold kF at e;have e:=List.all_eq_true.mp e c hc;rw[h] at e;simp only[Bool.and_eq_true,beq_iff_eq,List.all_eq_true,Bool.or_eq_true,Bool.not_eq_true'] at e;obtain⟨⟨⟨⟨⟨e0,e1⟩,e2⟩,e3⟩,e4⟩,e5⟩:=e;refine⟨⟨e0,.of e1⟩,λhp=>e2.resolve_left (by rw[List.contains_iff_mem.mpr hp];simp),e3,λk hk D hD=>?_,λk hk D hD=>?_⟩
 .have:=e4 k hk;rw[hD] at this;simpa using this
 .have:=e5 k hk;rw[hD] at this;simpa using this
theorem fV.cf(t:fV K es ps ks hs)(hc:c∈es):bz c=true:=by
 have e:=t.ok;unfold kF at e;have e:=List.all_eq_true.mp e c hc;cases h:clsOf K c with
 |none=>rw[h] at e;cases e
 |some C=>exact(t.row hc h).1.1
end
def vh(es ks:List Str):DRs:=λds μ Q=>match ds with
 | [.exc c,.cls k]=>c∈es/\k∈ks/\Q (.bl (c==k)) μ
 | [.exc c,.ty n]=>c∈es/\n="ValueError"/\Q (.bl true) μ
 |_=>False
abbrev DX:=Str->Mu->Prop
abbrev DXE:=aj->DX
variable{Ex:DXE}
abbrev bW:=List D->Mu->DK->DX->Prop
class XR(K:Frag)(fl:Wd)(Ex:DXE)(E:St->XK):Prop where
 run:∀{W ρ μ σ H c C dx},Rel K fl W μ H->au K W ρ σ->Ex ρ c μ->XAt K W c C dx->E σ (.ref C) dx H
def bH(K:Frag)(dsp:bW):Sp:=λvs H Q E=>∃fl W μ ds Q0 X0,Rel K fl W μ H/\zA K W ds vs/\dsp ds μ Q0 X0/\KV' K fl W Q0 Q/\∀W' c C μ' H' dx,W.le W'->Rel K fl W' μ' H'->X0 c μ'->XAt K W' c C dx->E (.ref C) dx H'
def K4(c:Str)(Ex:DXE)(w:DA):DS:=λ_ ρ μ=>w ρ μ λds μ1=>ds.length<=sizeLine/\Ex ρ c μ1
def fW(dsp:bW)(Ex:DXE)(n m:Nat)(pat:List Src)(cs:List D)(w wk:DA):DE:=λρ μ Q=>w ρ μ λds μ1=>wk ρ μ1 λes μ2=>dsp (sel n m pat .non cs ds es) μ2 Q (Ex ρ)
def n9(c m:Str)(dsp:bW)(Ex:DXE)(n j:Nat)(pat:List Src)(cs:List D)(wo:DE)(w wk:DA):DE:=λρ μ Q=>wo ρ μ λd μ1=>(eX μ1 d λc' ns vs=>c'=c/\(ns.zip vs).lookup m=none)/\w ρ μ1 λds μ2=>wk ρ μ2 λes μ3=>dsp (sel n j pat .non cs (d::ds) es) μ3 Q (Ex ρ)
def kG(D:cN)(i:Nat):cN:={nx:=λρ μ=>D.nx (ρ.set i none) μ,rt:=D.rt,bk:=λρ μ=>D.bk (ρ.set i none) μ,ct:=λρ μ=>D.ct (ρ.set i none) μ}
def K5(es:List Str)(i:Nat)(wb:DXE->DS)(wh:DS):DS:=λD ρ μ=>wb (λρ' c μ'=>c∈es/\wh (kG D i) (ρ'.set i (some (.exc c))) μ') D ρ μ
section
variable{E:St->XK}{t:TA}{w:DA}{n:Nat}{csD:List D}{c:Str}{dsp:bW}
instance[x:XR K fl Ex E][a:aL K fl t w][b:aL K fl tk wk][cr:fL K csD csV]:zV K fl (ve (bH K dsp) (sel n m pat .non csV) E t tk) (fW dsp Ex n m pat csD w wk):=⟨λ{W ρ μ σ H Q Q'} r e h k =>
 a.run r e h λW1 ds μ1 xs H1 le1 r1 q1 h1=>b.run r1 (e.mono le1) h1 λW2 es μ2 ys H2 le2 r2 q2 h2=>⟨fl,W2,μ2,_,Q,_,r2,iT (cr.run W2) (q1.mono le2) q2,h2,λW3 d μ3 x H3 le3=>k W3 d μ3 x H3 (le1.trans (le2.trans le3)),
  λW3 c C μ3 H3 dx3 le3 r3 h3 hc=>x.run r3 (e.mono (le1.trans (le2.trans le3))) h3 hc⟩⟩
instance{mt:Str}[x:XR K fl Ex E][o:zV K fl ta wa][a:aL K fl t w][b:aL K fl tk wk][cr:fL K csD csV]:zV K fl (vf K c mt (bH K dsp) (sel n j pat .non csV) E ta t tk) (n9 c mt dsp Ex n j pat csD wa w wk):=⟨λ{W ρ μ σ H Q Q'} r e h k =>
 o.run r e h λW1 d μ1 xx H1 le1 r1 q1 h1=>by
  obtain⟨c',C,p,dx,ns,vs,xs,hc,rfl,ea,l,z,rfl,hl⟩:=nz r1 q1 h1.1;refine⟨C,p,dx,_,hc,rfl,ea,z.lookup_none hl,a.run r1 (e.mono le1) h1.2 λW2 ds μ2 xs H2 le2 r2 q2 h2=>b.run r2 (e.mono (le1.trans le2)) h2 λW3 es μ3 ys H3 le3 r3 q3 h3=>?_⟩;exact⟨fl,W3,μ3,_,Q,_,r3,iT (cr.run W3) (.cons (q1.mono (le2.trans le3)) (q2.mono le3)) q3,h3,λW4 d4 μ4 x4 H4 le4=>k W4 d4 μ4 x4 H4 (le1.trans (le2.trans (le3.trans le4))),
   λW4 c C μ4 H4 dx4 le4 r4 h4 hc=>x.run r4 (e.mono (le1.trans (le2.trans (le3.trans le4)))) h4 hc⟩⟩
theorem au.unset{W:Wd}{i:Nat}(e:au K W ρ σ):au K W (ρ.set i none) (σ.set i none):=⟨by simp[e.1],λj d h=>by
 by_cases hj:i=j
 .subst hj;by_cases hl:i < ρ.length
  .rw[List.getElem?_set_self hl] at h;cases h
  .rw[List.getElem?_eq_none (by simp;omega)] at h;cases h
 .rw[List.getElem?_set_ne hj] at h ⊢;exact e.2 j d h⟩
theorem dE.kE{W:Wd}{D:Ends}{i:Nat}(k:dE K fl W D' D):dE K fl W (kG D' i) (kE D i) :=
 ⟨λW' ρ μ σ H le r e h=>k.nx W' _ μ _ H le r e.unset h,λW' ρ μ σ H le r e h=>k.bk W' _ μ _ H le r e.unset h,λW' ρ μ σ H le r e h=>k.ct W' _ μ _ H le r e.unset h,k.rt⟩
theorem dE.lower{W:Wd}{fl':Wd}{D:Ends}(k:dE K fl W D' D)(h:fl.le W):dE K fl' W D' D :=
 ⟨λW' ρ μ σ H le r e hh=>k.nx W' _ μ _ H le (r.floor (h.trans le)) e hh,λW' ρ μ σ H le r e hh=>k.bk W' _ μ _ H le (r.floor (h.trans le)) e hh,λW' ρ μ σ H le r e hh=>k.ct W' _ μ _ H le (r.floor (h.trans le)) e hh,λW' d μ x H le r e hh=>k.rt W' d μ x H le (r.floor (h.trans le)) e hh⟩
end
class kH(K:Frag)(es:List Str)(Ch:Addr):Prop where
 run:∀c∈es,∀C,clsOf K c=some C->W.exmOne K (.ref C) (.ref Ch)=some true
 cf:∀c∈es,bz c=true
theorem fV.hd{es hs:List Str}{h:Str}(t:fV K es ps ks hs)(i:iD K h Ch)(hh:h∈hs):kH K es Ch:=⟨λc hc C hC=>(t.row hc hC).2.2.2.2 h hh Ch i.at_,λc hc=>t.cf hc⟩
structure XP(K:Frag)(fl:Wd) where
 Ex:DXE
 E:St->XK
 ok:XR K fl Ex E
instance(p:XP K fl):XR K fl p.Ex p.E:=p.ok
def e9(w:DXE->DS)(N:List Str)(n:Nat):bW:=λds μ Q X0=>ds.length=n/\w (λ_ c μ'=>∃ μ'',MLe μ'' μ'/\X0 c μ'') (ends Q) (iG N ds) μ
section
theorem Fun.okX{k n:Nat}(dw:DXE->DS)(F:Fun K x qual st f fd)(S:zG N ps (zr st))(len:ps.length=n)
  (hbody:∀(cdv:Value) (A:Around) (outer:List Env) (s:Shared) (H:Hp) (E:XK),aS k (A.deeper (envOfC qual (zr st) s.heap.objs.size f cdv)) ->
   ∃t,WSs (cz (CX1 P w) P w K mg base N qual (zr st) f cdv A outer s H E) (cD st) t/\∀fl Ex,XR K fl Ex (λ_=>E)->aV K fl t (dw Ex)):zU P w K mg base (CX1 P w) (k+1) f fd ps (bH K (e9 dw N n)):=by
 obtain⟨oc,od,kV,doc,pm,an,cdv,ct,osl,rfl,lk,hcd⟩:=F.ex;refine my lk hcd S (λvs H Q E h=>?_) λA outer s H vs Q E hr h=>?_
 .obtain⟨_,W,μ,ds,Q0,X0,_,r,h,_⟩:=h;rw[r.length,h.1,len]
 .obtain⟨fl,W,μ,ds,Q0,X0,rel,r,h,k,kx⟩:=h;obtain⟨t,ht,sm⟩:=hbody cdv A outer s H E hr;refine⟨t,ht.out,(sm W _ ⟨λ{W1 ρ1 μ1 σ1 H1 c C dx} r1 e1 ⟨μ'',l,h1⟩ hC=>kx W1 c C μ'' H1 dx r1.up ((r1.floor (rel.up.trans r1.up)).less l) h1 hC⟩).run (rel.floor (.refl W)) (.start r) h.2 ⟨λW' ρ μ σ H le rr ee hh=>?_,λ_ _ _ _ _ _ _ _ hh=>hh.elim,λ_ _ _ _ _ _ _ _ hh=>hh.elim,λW' d μ x H le rr ee hh=>?_⟩⟩
  .obtain⟨μ'',l,hh⟩:=hh;exact k W' .non μ'' _ H le ((rr.floor (rel.up.trans le)).less l) .n hh
  .obtain⟨μ'',l,hh⟩:=hh;exact k W' d μ'' x H le ((rr.floor (rel.up.trans le)).less l) ee hh
end
section
variable{E:St->XK}
theorem FU{i:Nat}{n:Str}{body suite:List Stmt}{b₀:Stmt}{hpos:Pos}{tb:(St->XK)->TS}{th:TS}(K:Frag)(hN:X.N.Nodup)(hm:X.mg x=some (.ref Ch))
  (hb:∀E xe pn,XOk (X.tr xe pn) E->WSs (X.tr xe pn) body (tb E))(hh:∀a,WSs (X.hand a) (b₀::suite) th)(hK:X.K=K:=by rfl)(hx:X.ex=[]:=by rfl)(hs:X.stack=X.env::X.outer:=by rfl)(hL:X.env.frame=some X.env.locals:=by rfl)(hi:X.N[i]? = some n:=by rfl)(hn:X.env.scope.names.lookup n=some .local:=by rfl)(hg:Gl X x:=by rfl)(hdb:(x==("__debug__":Str))=false:=by decide) :
  WS X (.Try body [.ExceptHandler (some (.Name x np)) (some n) (b₀::suite) hpos] [] [] pos) (n4 K Ch i tb th):=hK▸⟨FT hx hs hL hN hi hn hg hm (λE xe pn xo=>(hb E xe pn xo).out) (λa=>(hh a).out) hdb⟩
end
section
end
section
variable{cd:Value}{s:Shared}{E:XK}
end
section
end
theorem K6{es:List Str}{c k:Str}:vh es ks [.exc c,.cls k] μ Q=(c∈es/\k∈ks/\Q (.bl (c==k)) μ):=rfl
theorem K7{es:List Str}{c:Str}{n:String}:vh es ks [.exc c,.ty n] μ Q=(c∈es/\n="ValueError"/\Q (.bl true) μ):=rfl
def vi:DR2:=λd e μ Q=>match d,e with
 | .int _,.bl _=>Q (.bl false) μ
 | .bl a,.bl b=>Q (.bl (a==b)) μ
 |_,_=>False
theorem K8{i:Int}{b:Bool}:vi (.int i) (.bl b) μ Q=Q (.bl false) μ:=rfl
theorem K9{a b:Bool}:vi (.bl a) (.bl b) μ Q=Q (.bl (a==b)) μ:=rfl
section
variable{E:St->XK}{k:Nat}{c:Str}{p:Pos}{e:Expr}{t:TA}{g:List Value->List Value->List Value}
end
def K_(c:Str)(dsp:bW)(Ex:DXE)(n j:Nat)(pat:List Src)(cs:List D)(w wk:DA):DE:=λρ μ Q=>w ρ μ λds μ1=>wk ρ μ1 λes μ2=>∀k,μ2 k=none->dsp (sel n j pat .non cs (.cell k::ds) es) (zR μ2 k (.ins c [] [])) (λd μ3=>d= .non/\Q (.cell k) μ3) (λx μ3=>∃ μ4,MLe μ4 μ3/\Ex ρ x μ4)
def La(c:Str)(dsp:bW)(Ex:DXE)(n j:Nat)(pat:List Src)(cs:List D)(w wk:DA):DE:=λρ μ Q=>w ρ μ λds μ1=>wk ρ μ1 λes μ2=>∀k,μ2 k=none->dsp (sel n j pat .non cs (.cell k::ds) es) (zR μ2 k (.ins c [] [])) (λd μ3=>d= .non/\eh μ3 (.cell k) Q) (λx μ3=>∃ μ4,MLe μ4 μ3/\Ex ρ x μ4)
section
variable{E:St->XK}{c:Str}{dsp:bW}{n:Nat}{csD:List D}{t:TA}{w:DA}
end
def vj:DR2:=λd e μ Q=>match d,e with
 | .int i,.bl b=>Q (.int (i*if b=true then 1 else 0)) μ
 |d,e=>gF d e μ Q
theorem Lb{i:Int}{b:Bool}:vj (.int i) (.bl b) μ Q=Q (.int (i*if b=true then 1 else 0)) μ:=rfl
theorem Lc{i j:Int}:vj (.int i) (.int j) μ Q=(dq i j/\Q (.int (i*j)) μ):=rfl
abbrev TJ:=St->Hp->Str->(Str->Hp->Prop)->Prop
section
variable{e:Expr}{t:TJ}
end
abbrev DJ:=aj->Mu->Str->(Str->Mu->Prop)->Prop
def Ld:DJ:=λ_ μ acc R=>R acc μ
def Le(w:DE)(r:DJ):DJ:=λρ μ acc R=>w ρ μ λd μ1=>match d with
 | .str y=>(acc++y).length<=sizeLine/\r ρ μ1 (acc++y) R
 |_=>False
def Lf(w:DE):DE:=λρ μ Q=>w ρ μ λd μ1=>match d with
 | .str y=>y.length<=sizeLine/\Q (.str y) μ1
 |_=>False
def Lg(l:DJ):DE:=λρ μ Q=>l ρ μ Str.empty λout μ1=>out.length<=sizeLine/\Q (.str out) μ1
section
variable{t:TJ}{w:DJ}
end
section
variable{elt:Expr}{own free:List Str}
end
section
end
section
variable{te:(St->XK)->TE}{we:DXE->DE}{E:St->XK}
end
section
variable{g:Array GenState}{d:Drawn}{t:Nat}
variable{N:Addr}{bs bmB:List Value}{sub:List Value}{k1 k2:Option Value}{B initId:String}
theorem FV(F:ExcBaseFacts B newId initId bmB)(T:OwnTail h bmB bm){mN:Str->Option Value}{rest:List Value}{oI:Obj}{Q:Fin->Shared->Prop}
  (hC:h.get? C=some (excClassObj nm q C N bs bm hdct sn sub ab col dd k0 k1 k2 k3 k5 newId))(hn:h.Ns N mN)(hi:mN "__init__"=some (.ref fI))
  (hfI:h.get? fI=some oI)(hfc:oI.cls= .type "function")
  (hq:∀h' e,Heap.MadeExcOf h h' e (.ref C) rest ->
   wpAny (model prog w) A (call (.ref fI) (.ref e::rest)) (λr s'=>r= .none/\Q (.done (.ret (.ref e))) s') E ⟨h',g,d,t,os⟩) (hrest:rest.length<=sizeLine) :
  wpAny (model prog w) A (Builtin.«type.__call__» ⟨.ref C::rest,[]⟩) Q E ⟨h,g,d,t,os⟩:=by
 repeat (first|with_reducible refine wpAny_loadPart_at hC ?_|with_reducible refine wpAny_madeBy_exc hC ?_|wp_step)
 refine codeAny_call_builtin_code (Code.quiet_builtin _ F.quiet) (wpAny_check_new_subT F T hC ?_);refine codeAny_exc_new_subT F T hC ?_ hrest;show wpAny _ _ _ _ _ _;have hC₁:=Heap.get?_push_of_some {cls:= .ref C,data:= .fields #[.ref h.objs.size,.none,.none,.none,.bool false,.none]}
  (Heap.get?_push_of_some {cls:= .type "tuple",data:= .seq rest.toArray} hC)
 have hfI₁:=Heap.get?_push_of_some {cls:= .ref C,data:= .fields #[.ref h.objs.size,.none,.none,.none,.bool false,.none]}
  (Heap.get?_push_of_some {cls:= .type "tuple",data:= .seq rest.toArray} hfI)
 have hn₁:((h.push {cls:= .type "tuple",data:= .seq rest.toArray}).push {cls:= .ref C,data:= .fields #[.ref h.objs.size,.none,.none,.none,.bool false,.none]}).Ns N mN :=
  let ⟨o,es,ep,e,r⟩:=hn;⟨o,es,ep,Heap.get?_push_of_some _ (Heap.get?_push_of_some _ e),r⟩
 have hget:((h.push {cls:= .type "tuple",data:= .seq rest.toArray}).push
   {cls:= .ref C,data:= .fields #[.ref h.objs.size,.none,.none,.none,.bool false,.none]}).get? (h.objs.size+1)=some
   {cls:= .ref C,data:= .fields #[.ref h.objs.size,.none,.none,.none,.bool false,.none]}:=by heap_get
 have hcC:(Value.ref C::bm).contains (.ref C)=true:=by simp
 have T₁:=T.keeps (h':=(h.push {cls:= .type "tuple",data:= .seq rest.toArray}).push {cls:= .ref C,data:= .fields #[.ref h.objs.size,.none,.none,.none,.bool false,.none]})
  λb o e=>Heap.get?_push_of_some _ (Heap.get?_push_of_some _ e)
 unfold isInstance;repeat (first|with_reducible refine wpAny_loadPart_at hget ?_ | (with_reducible refine wpAny_isSubtype_exc hC₁ ?_;rw[hcC])|wp_step)
 show wpAny _ _ (typeLookup (.ref C) _) _ _ _;refine wpAny_typeLookup_tail hC₁ hn₁ T₁ F.mroIs F.init.lookup ?_;rw[hi];refine wpAny_holding (wpAny_bind ?_);unfold bindSpecial;refine wpAny_bind (wpAny_typeOf (T:="function") ⟨_,hfI₁,hfc⟩ ?_);rw[if_pos (by decide)];refine wpAny_pure (wpAny_bind (wpAny_mono (hq _ (h.objs.size+1) ⟨λb o hb=>Heap.get?_push_of_some _ (Heap.get?_push_of_some _ hb),Heap.get?_none_of_le (Nat.le_succ _),h.objs.size,hget,Heap.get?_none_of_le (Nat.le_refl _),?_⟩) (λr s' hr=>?_) λ_ _ x=>x))
 .exact Heap.get?_push_of_some _ (Heap.get?_push_at rfl rfl)
 .obtain⟨rfl,hQ⟩:=hr;wp_walk
  exact hQ
theorem FW(F:ExcBaseFacts B newId initId bmB)(T:OwnTail h bmB bm){mN:Str->Option Value}{rest:List Value}{oI:Obj}{Q:Value->Shared->Prop}
  (hC:h.get? C=some (excClassObj nm q C N bs bm hdct sn sub ab col dd k0 k1 k2 k3 k5 newId))(hn:h.Ns N mN)(hi:mN "__init__"=some (.ref fI))
  (hfI:h.get? fI=some oI)(hfc:oI.cls= .type "function")
  (hq:∀h' e,Heap.MadeExcOf h h' e (.ref C) rest ->
   wpAny (model prog w) (A.under (.builtin "type.__call__" ⟨.ref C::rest,[]⟩)) (call (.ref fI) (.ref e::rest)) (λr s'=>r= .none/\Q (.ref e) s') E ⟨h',g,d,t,os⟩) (hrest:rest.length<=sizeLine) :
  wpAny (model prog w) A (call (.ref C) rest) Q E ⟨h,g,d,t,os⟩:=by
 have f1:=tc_lookup;have f2:=tc_bind (.ref C);have hT:(⟨h,g,d,t,os⟩:Shared).TypeIs (.ref C) "type":=⟨_,hC,rfl⟩;refine wpAny_call (codeAny_of_tree ?_);show wpAny _ _ (callAny (.ref C) _) _ _ _;repeat (any_goals (first|assumption|with_reducible refine wpAny_loadPart_at hC ?_|wp_step))
 refine⟨rfl,?_⟩;refine codeAny_call_builtin_at (Code.quiet_builtin _ (by decide+kernel)) entry_typeCall (wpAny_check_type_call_sub hC (FV (hrest:=hrest) F T hC hn hi hfI hfc λh' e hm=>?_));exact hq h' e hm
end
section
variable{N:Addr}{bs:List Value}{sub:List Value}{k1 k2:Option Value}
theorem FX{s:Shared}{x:Sem Value}{Q:Flow->Shared->Prop}(hbase:bm.contains (.type "BaseException")=true)(hh:A.handled=none)
  (h:wpAny M A x (λv s₁=>∃e t od sl,v= .ref e/\s₁.heap.get? C=some (excClassObj nm q C N bs bm hdct sn sub ab col dd k0 k1 k2 k3 k5 newId) /\
   s₁.heap.get? e=some {cls:= .ref C,dict:=od,data:= .fields #[.ref t,.none,.none,.none,.bool false,.none],slots:=sl}/\E (.ref e) s₁) E s) :
  wpAny M A (raiseStmt env (some x) none) Q E s:=by
 have hcB:(Value.ref C::bm).contains (.type "BaseException")=true:=by rw[List.contains_cons,hbase,Bool.or_true]
 unfold raiseStmt;refine wpAny_bind (wpAny_mono h (λv s₁ h₁=>?_) λ_ _ x=>x);obtain⟨e,t,od,sl,rfl,hC,he,hE⟩:=h₁;obtain⟨hp,g,d,tk,os⟩:=s₁;repeat (first|with_reducible refine wpAny_loadPart_at he ?_|with_reducible refine wpAny_loadPart_at hC ?_ | (with_reducible refine wpAny_isSubtype_exc hC ?_;rw[hcB])|wp_step)
 exact wpAny_raiseNew_none hh hE
end
theorem vm:Slot "wrapper_descriptor" "__get__" "wrapper_descriptor.__get__":= .of (owner:="wrapper_descriptor") (n:="__get__") (by rw[typeLookup_type,builtinLookup_eq_fast];kernel_rfl) (by decide+kernel) (by decide+kernel) (by decide+kernel)
 (by first|exact .inl (by decide+kernel)|exact .inr (by decide+kernel)) (by rw[isSubtype_type];kernel_rfl)
theorem FY:entryFor table "wrapper_descriptor.__get__"=some Builtin.«wrapper_descriptor.__get__»:= entryFor_of_tree (by kernel_rfl)
theorem FZ(a b c:Value):argsOk "wrapper_descriptor.__get__" ⟨[a,b,c],[]⟩:=by unfold argsOk;kernel_rfl
theorem F5:typeOf (.builtin "ValueError.__init__")=pure (.type "wrapper_descriptor"):=by kernel_rfl
theorem vn:".".intercalate ("ValueError.__init__".cutAt '.').dropLast="ValueError":=by decide+kernel
section
variable{g:Array GenState}{d:Drawn}{t:Nat}
theorem F6{so D x:Addr}{l₀ l:List Value}{K:W.Frag}{tk:Tok}{Q:Fin->Shared->Prop}
  (hso:h.get? so=some {cls:= .type "super",dict:=none,data:= .fields #[.ref D,.ref x,.ref C],slots:= #[]})(hno:W.Looks (model prog w) h (opaqueClassAbove (.ref C)) none)
  (hC:W.Looks (model prog w) h (mroOf (.ref C)) l₀)(hl:(l₀.dropWhile (· != .ref D)).drop 1=l)(X:K.In h)(hx:W.Looks (model prog w) h (typeOf (.ref x)) (.ref C))(hv:W.Looks (model prog w) h (isSubtype (.ref C) (.type "ValueError")) true)
  (hf:W.alongIn K name l=some (some (.builtin "ValueError.__init__")))(hxC:x≠C)(hn:(name==("__class__":Str))=false)
  (hq:Q (.done (.ret (.ref h.objs.size))) ⟨h.push {cls:= .type "method-wrapper",data:= .fields #[.builtin "ValueError.__init__",.ref x]},g,d,t,os⟩) :
  wpAny (model prog w) A (Builtin.«super.__getattribute__» ⟨[.ref so,.str name tk],[]⟩) Q E ⟨h,g,d,t,os⟩:=by
 have hlk:=vm.lookup;have hne:(Value.ref x==Value.ref C)=false:=by simp[hxC]
 have hTf:(⟨h,g,d,t,os⟩:Shared).TypeIs (.builtin "ValueError.__init__") "wrapper_descriptor":=F5;have hdt:({cls:= .type "super",dict:=none,data:= .fields #[.ref D,.ref x,.ref C],slots:= #[]}:Obj).data= .fields #[.ref D,.ref x,.ref C]:=rfl;have f0:(#[.ref D,.ref x,.ref C]:Array Value)[0]? = some (.ref D):=rfl;have f1:(#[.ref D,.ref x,.ref C]:Array Value)[1]? = some (.ref x):=rfl;have f2:(#[.ref D,.ref x,.ref C]:Array Value)[2]? = some (.ref C):=rfl;have hov:=vn;unfold Builtin.«super.__getattribute__»;repeat (first
  | (with_reducible refine wpAny_field hso hdt f0 ?_) | (with_reducible refine wpAny_field hso hdt f1 ?_) | (with_reducible refine wpAny_field hso hdt f2 ?_)
  | (with_reducible refine ks_wpAny_notOpaque hno ?_)
  | (with_reducible refine W.Looks.at hC ?_;rw[hl])
  | (with_reducible refine W.Looks.at hx ?_)
  | (rw[vn];with_reducible refine W.Looks.at hv ?_)
  | (refine ks_forIn_along X (λ_ _=>rfl) rfl ?_ hf)
  | (with_reducible refine wpAny_typeOf hTf ?_)
  | (with_reducible refine wpAny_call_entry vm hTf FY ?_ (FZ _ _ _))
  | (with_reducible refine⟨_,rfl,?_⟩)
  | (simp only[hn,hne,Bool.or_false,Bool.false_eq_true,if_false])
  |wp_step
  |dsimp only)
 all_goals exact hq
end
def gT:List Value->Bool
 | .ref _::r=>gT r
 |l=>l==bmV
theorem vo(self:Value):∀{l:List Value},gT l=true->refuseLoop self "__setattr__" l=pure ()
 | .ref c::r,e=>by rw[refuseLoop_ref];exact vo self e
 | [],e=>nomatch (show([]:List Value)=bmV from beq_iff_eq.mp e)
 | .type n::r,e=>by rw[show Value.type n::r=bmV from beq_iff_eq.mp e];kernel_rfl
 | .none::r,e=>nomatch (show Value.none::r=bmV from beq_iff_eq.mp e)
 | .bool b::r,e=>nomatch (show Value.bool b::r=bmV from beq_iff_eq.mp e)
 | .int i t::r,e=>nomatch (show Value.int i t::r=bmV from beq_iff_eq.mp e)
 | .float i t::r,e=>nomatch (show Value.float i t::r=bmV from beq_iff_eq.mp e)
 | .str i t::r,e=>nomatch (show Value.str i t::r=bmV from beq_iff_eq.mp e)
 | .builtin i::r,e=>nomatch (show Value.builtin i::r=bmV from beq_iff_eq.mp e)
 | .bytes i t::r,e=>nomatch (show Value.bytes i t::r=bmV from beq_iff_eq.mp e)
 | .ellipsis::r,e=>nomatch (show Value.ellipsis::r=bmV from beq_iff_eq.mp e)
section
variable{s:Shared}{K:W.Frag}{x:Addr}
theorem F7{R:Result->Shared->Prop}{tk:Tok}(X:K.In s.heap)(I:W.InstAt s.heap x ox C none)(hc:W.clsIn K C=some cd)(hp:gT cd.mro=true)(ho:W.mroIn K C (.type "object")=some true)(ht:W.takerIn K C name=some none)
  (h:∀b,wpAny (model prog w) A.in1 (Builtin.ObjectAttr.storeInOwnDict (.ref x) (.ref C) (.str name tk) name v b)
   (λfin s'=>match fin with | .done f=>R (.ok f) s' | .again c'=>c'.quiet=true/\codeAny (model prog w) A c' R s') (λe s'=>R (.error e) s') s) :
  codeAny (model prog w) A (.call (.builtin "object.__setattr__") ⟨[.ref x,.str name tk,v],[]⟩) R s:=by
 have SF:=PySem.F.store_object;have sub:W.Looks (model prog w) s.heap (isInstance (.ref x) (.type "object")) true:=I.type.andThen (W.looks_mroIn X ho);refine codeAny_call_builtin SF.slot.plain SF.entry (@W.check_slot (model prog w) _ _ s "object.__setattr__" "object" "__setattr__" (.ref x) [.str name tk,v] [] _ SF.kind SF.split sub (SF.args (.ref x) (.str name tk) v) ?_);obtain⟨attr,ha,hr⟩:=Option.bind_eq_some_iff.mp ht;have hm:W.Looks (model prog w) s.heap (mroOf (.ref C)) cd.mro:=(W.looks_clsIn X hc).andThen .now;have L3:W.Looks (model prog w) s.heap (Builtin.ObjectAttr.storeTaker? attr) none:=by
  cases attr with
  |none=>exact .now
  |some a =>
   obtain⟨b,hb,hq⟩:=Option.map_eq_some_iff.mp hr;refine(W.looks_takesIn X hb).andThen ?_;cases b
   .exact .now
   .cases hq
 rw[W.osa_eq,refuse_eq];refine wpAny_bind (wpAny_bind (I.type.here (wpAny_bind (hm.here ?_))));rw[vo _ hp];refine wpAny_pure (wpAny_bind (I.type.here (wpAny_bind ((W.looks_findIn X ha).here (wpAny_bind (L3.here ?_))))));exact h _
theorem F8{Q:Unit->Shared->Prop}(X:K.In s.heap)(I:W.InstAt s.heap x ox C none)(hc:W.clsIn K C=some cd)(hd:cd.hasDict=true)(hp:gT cd.mro=true)(ho:W.mroIn K C (.type "object")=some true)(ht:W.takerIn K C name=some none)
  (hs:W.findIn K (.ref C) "__setattr__"=some (some (.builtin "object.__setattr__")))
  (hq:∀(h':Heap) (tk':Nat),h'.get? x=some {ox with dict:=some s.heap.objs.size}->h'.Ns1 s.heap.objs.size (λy=>if y=name then some v else none) ->
   (∀b o,b≠x->s.heap.get? b=some o->h'.get? b=some o)->Q () {s with heap:=h',toks:=tk'}) :
  wpAny (model prog w) A (setAttr (.ref x) name v) Q E s:=by
 refine W.set_plain X I hs (F7 (s:={s with toks:=s.toks+1}) X I hc hp ho ht λb=>?_);obtain⟨hx,hxc,hno,hdn⟩:=id I;obtain⟨hh,g,d,t,os⟩:=s;obtain⟨oc,od,odt,osl⟩:=ox;have hdn':od=none:=by cases od with|none=>rfl|some _=>exact hdn.elim
 subst hdn';have hxc':oc= .ref C:=hxc;subst hxc';have hx₁:(hh.push {cls:= .type "dict",data:= .dict #[]}).get? x=some ⟨.ref C,none,odt,osl⟩:=Heap.get?_push_of_some _ hx;have hxs:x≠hh.objs.size:=Nat.ne_of_lt (Heap.lt_size hx);have hgd:((hh.push {cls:= .type "dict",data:= .dict #[]}).update x λo=>{o with dict:=some hh.objs.size}).get? hh.objs.size=some {cls:= .type "dict",data:= .dict #[]} :=
  (Heap.get?_update_ne _ _ _ _ hxs.symm).trans (Heap.get?_push_at rfl rfl)
 have hnd:((hh.push {cls:= .type "dict",data:= .dict #[]}).update x λo=>{o with dict:=some hh.objs.size}).Ns hh.objs.size (λ_=>none) :=
  ⟨_, #[],_,hgd,rfl,λe he=>absurd he (by simp),λ_=>rfl⟩
 refine wpAny_bind (wpAny_pure (wpAny_bind (wpAny_bind (wpAny_loadPart hx (wpAny_bind (PySem.W.Looks.here (s:=⟨hh,g,d,t+1,os⟩) (PySem.W.looks_clsIn X hc) ?_))))));rw[hd];rw[if_neg (by decide)];dsimp only;rw[if_neg (by simp[typeHasDict])];have go:∀{QQ:Option Addr->Shared->Prop} {EE:Value->Shared->Prop},(QQ (some hh.objs.size) ⟨(hh.push {cls:= .type "dict",data:= .dict #[]}).update x λo=>{o with dict:=some hh.objs.size},g,d,t+1,os⟩) ->
   wpAny (model prog w) A.in1 (do
    let d<-alloc {cls:=Value.type "dict",data:=Data.dict #[]}
    update x λo=>{cls:=o.cls,dict:=some d,data:=o.data,slots:=o.slots}
    dictMade (.ref C) x d) QQ EE ⟨hh,g,d,t+1,os⟩:=λh=>wpAny_bind (wpAny_alloc (wpAny_bind (wpAny_update hx₁ (wpAny_pure h))))
 split
 .rename_i c;exact absurd hno (by unfold W.notCls;simp)
 .refine go ?_;show wpAny _ _ (Builtin.ObjectAttr.storeInDict hh.objs.size (.str name _) name v) _ _ _;unfold Builtin.ObjectAttr.storeInDict Builtin.ObjectAttr.newKeyGuard;refine wpAny_bind (wpAny_pure (wpAny_bind (wpAny_nsSet1 (Heap.Ns1.of_empty hnd) λh' hn' hs=>?_)));obtain⟨oD,esD,epD,hoD,hdD,hcD⟩:=hn'.count (Within.cons name v Within.nil);refine wpAny_bind (wpAny_lookBehind hoD (by rw[hdD];exact pastItsLine_dict (Nat.le_trans hcD (by rw[List.length_cons,List.length_nil,sizeLine_eq];omega))) ?_);refine wpAny_pure (hq h' (t+1+1) ((hs.2 x hxs).trans (Heap.get?_update_self _ hx₁ ?_)) hn' λb o hbx hb=>(hs.2 b (Nat.ne_of_lt (Heap.lt_size hb))).trans ((Heap.get?_update_ne _ _ _ _ hbx).trans (Heap.get?_push_of_some _ hb)));have hfr:=(Heap.get?_some_iff.mp hx).2;cases odt<;>first|rfl|exact hfr
end
section
variable{g:Array GenState}{d:Drawn}{t:Nat}
theorem F9{so D x:Addr}{l₀ l:List Value}{K:W.Frag}{pl:Sem Bool}{Q:Value×List Value->Shared->Prop}
  (hso:h.get? so=some {cls:= .type "super",dict:=none,data:= .fields #[.ref D,.ref x,.ref C],slots:= #[]})(hno:W.Looks (model prog w) h (opaqueClassAbove (.ref C)) none)
  (hC:W.Looks (model prog w) h (mroOf (.ref C)) l₀)(hl:(l₀.dropWhile (· != .ref D)).drop 1=l)(X:K.In h)(hx:W.Looks (model prog w) h (typeOf (.ref x)) (.ref C))(hv:W.Looks (model prog w) h (isSubtype (.ref C) (.type "ValueError")) true)
  (hf:W.alongIn K name l=some (some (.builtin "ValueError.__init__")))(hxC:x≠C)(hn:(name==("__class__":Str))=false)
  (hq:Q (.ref h.objs.size,[]) ⟨h.push {cls:= .type "method-wrapper",data:= .fields #[.builtin "ValueError.__init__",.ref x]},g,d,t+1,os⟩) :
  wpAny (model prog w) A (getMethod (.ref so) name pl) Q E ⟨h,g,d,t,os⟩:=by
 have hlk:=F.ks_slot_super_ga.lookup;have hcan:=F.ks_canon_super_ga;have hT:∀t',(⟨h,g,d,t',os⟩:Shared).TypeIs (.ref so) "super":=λ_=>⟨_,hso,rfl⟩
 unfold getMethod;refine wpAny_bind (wpAny_specialOf (hT _) hlk ?_);show wpAny _ _ (if (Manifest.canonical "super.__getattribute__" !="object.__getattribute__")=true then _ else _) _ _ _;rw[if_pos hcan];unfold getAttr getAttrBy;refine wpAny_bind (wpAny_bind (wpAny_mkText (wpAny_holding (wpAny_bind (wpAny_typeOf (hT _) (wpAny_bind (wpAny_of_eq hlk ?_)))))));show wpAny _ _ (getAttrByItsOwn (.ref so) (.str name t) (.type "super") (.builtin "super.__getattribute__") true false) _ _ _;unfold getAttrByItsOwn hookBefore callGetattribute boundAndCalled;refine wpAny_bind (wpAny_of_eq (show(if onTheHeap (.type "super") then typeLookup (.type "super") "__getattr__" else pure none)=pure none from rfl) ?_);refine wpAny_bind (wpAny_attempt (wpAny_holding ?_));show wpAny _ _ (bindSpecial (.builtin "super.__getattribute__") (.ref so) >>= _) _ _ _;refine wpAny_bind (wpAny_of_eq (F.ks_slot_super_ga.bind _) ?_);refine wpAny_mono (Q:=λv s'=>v= .ref h.objs.size/\s'=⟨h.push {cls:= .type "method-wrapper",data:= .fields #[.builtin "ValueError.__init__",.ref x]},g,d,t+1,os⟩) (E:=λ_ _=>False)
  (wpAny_call_entry F.ks_slot_super_ga (hT _) F.ks_entry_super_ga (F6 hso hno hC hl X hx hv hf hxC hn ⟨_,rfl,rfl,rfl⟩) (F.ks_gaArgs_super _ _)) (λv s' hv=>?_) λ_ _ z=>z.elim
 obtain⟨rfl,rfl⟩:=hv;exact wpAny_pure (wpAny_pure hq)
theorem F_{N x:Addr}{bs:List Value}{sub:List Value}{k1 k2:Option Value}{a:Value}{Q:Unit->Shared->Prop}
  (hC:h.get? C=some (excClassObj nm q C N bs bm hdct sn sub ab col dd k0 k1 k2 k3 k5 newId))(T:OwnTail h bmV bm)(he:h.get? x=some ox)(hcls:ox.cls= .ref C)(hq:Q () ⟨h,g,d,t,os⟩) :
  wpAny M A (checkBoundCall "ValueError.__init__" ⟨[.ref x,a],[]⟩) Q E ⟨h,g,d,t,os⟩:=by
 have F:=F.excBase_ValueError;have hcB:(Value.ref C::bm).contains (.type "ValueError")=true:=by rw[List.contains_cons,T.hasType F.hasB,Bool.or_true]
 have hshort:=F.noStar;simp only[checkBoundCall,F.initKind,F.initRow];repeat (first | (with_reducible refine wpAny_loadPart_at he ?_;rw[hcls])|with_reducible refine wpAny_loadPart_at hC ?_ | (with_reducible refine wpAny_isSubtype_exc hC ?_;rw[hcB])|wp_step)
 exact hq
theorem Ga{N:Addr}{bs:List Value}{sub:List Value}{k1 k2:Option Value}{q x:Addr}{t0:Addr}{a:Value}{vs:Array Value}{Q:Value->Shared->Prop}(hC:h.get? C=some (excClassObj nm qn C N bs bm hdct sn sub ab col dd k0 k1 k2 k3 k5 newId))(T:OwnTail h bmV bm)(hxc:ox.cls= .ref C)(hq:h.get? q=some {cls:= .type "method-wrapper",data:= .fields #[.builtin "ValueError.__init__",.ref x]})
  (hx:h.get? x=some ox)(hd:ox.data= .fields vs)(h0:vs[0]? = some (.ref t0))
  (k:Q .none ⟨(h.push {cls:= .type "tuple",data:= .seq #[a]}).update x (Obj.mapFields λy=>y.setIfInBounds 0 (.ref h.objs.size)),g,d,t,os⟩) :
  wpAny (model prog w) A (call (.ref q) [a]) Q E ⟨h,g,d,t,os⟩:=by
 refine wpAny_call (codeAny_of_tree ?_);show wpAny _ A.in1 (callAny (.ref q) ⟨[a],[]⟩) _ _ _;unfold callAny;refine wpAny_bind (wpAny_load hq ?_);show wpAny _ _ (checkBoundCall "ValueError.__init__" ⟨[.ref x,a],[]⟩ >>= λ_=>again (.builtin "ValueError.__init__" ⟨[.ref x,a],[]⟩)) _ _ _;refine wpAny_bind (F_ hC T hx hxc (wpAny_pure ⟨plainId_quiet (by decide+kernel) _,codeAny_builtin F.excBase_ValueError.initEntry ?_⟩));rw[Around.under_plainId (by decide+kernel) _];have hsz:0 < vs.size:=by
  rcases Nat.lt_or_ge 0 vs.size with z|z
  .exact z
  .rw[Array.getElem?_eq_none z] at h0;cases h0
 have hxp:(h.push {cls:= .type "tuple",data:= .seq #[a]}).get? x=some ox:=Heap.get?_push_of_some _ hx;unfold Builtin.«BaseException.__init__»;dsimp only;rw[if_neg (by decide)];refine wpAny_bind (wpAny_newObj_type ?_ (by size_fits));unfold Builtin.BaseException.bexcPut;refine wpAny_bind (wpAny_bind (wpAny_field hxp hd h0 (wpAny_bind (wpAny_setField hxp hd hsz ?_))));wp_walk
 exact k
end
theorem Gb{s:Shared}{q:Addr}{fs:Array Value}{arg:Expr}{Q:Value->Shared->Prop}
  (h:wpAny M A (eval arg env) (λv s₁=>s₁.heap.get? q=some {cls:= .type "method-wrapper",data:= .fields fs}/\wpAny M A (call (.ref q) [v]) Q E s₁) E s)
  (he:starEach [arg] env=[(false,eval arg env)]:=by rfl):wpAny M A (callWith pos (.ref q) [] (backTo pos (starEach [arg] env)) []) Q E s:=by
 refine W.callWith_of (P:=λh=>h.get? q=some {cls:= .type "method-wrapper",data:= .fields fs}) (by rw[he];rfl) (λh ho=>⟨.machine,.inr (.inl rfl),(W.Looks.ld (part:=none) ho).andThen .now⟩) ?_;rw[he];refine Calls.evalArgs_plain ?_;show wpAny _ _ (spliced ((false,eval arg env)::backTo pos [])) _ _ s;exact Calls.spliced_cons (wpAny_mono h (λv s₁ h₁=>wpAny_pure h₁) λ_ _ z=>z)
def fText(x z:Str):List Expr->Str->Option Str
 | [],acc=>some acc
 | .Constant (.str y) _ _::r,acc=>if (acc++y).length<=sizeLine then fText x z r (acc++y) else none
 | .FormattedValue (.Name n _) (-1) none _::r,acc=>if n=x/\(n==("__debug__":Str))=false/\(acc++z).length<=sizeLine/\z.length<=sizeLine then fText x z r (acc++z) else none
 |_::_,_=>none
section
variable{m:Str->Option Value}{out:Str}{tk:Tok}{Q:Value->Shared->Prop}
theorem n_(hk:env.scope.kind= .function)(hl:env.kindOf x=some .local)(hv:m x=some (.str z tk)):∀{es:List Expr} {acc:Str} {s:Shared},s.heap.Ns env.locals m->fText x z es acc=some out->out.length<=sizeLine->(∀t1 t2,Q (.str out t1) {s with toks:=t2}) ->
  wpAny (model prog w) A (joinParts acc (evalEach es env)) Q E s
 | [],acc,s,hn,e,hz,h=>by
  cases e;exact joinParts_nil (h _ _) hz
 |e::r,acc,s,hn,hf,hz,h=>by
  refine(show wpAny (model prog w) A (joinParts acc (eval e env::evalEach r env)) Q E s from joinParts_cons ?_);unfold fText at hf;split at hf
  .rename_i he;cases he
  .rename_i y k p r' acc' he;cases he;split at hf
   .rename_i hle;exact Calls.Constant_str ⟨hle,n_ hk hl hv (s:={s with toks:=s.toks+1}) hn hf hz λt1 t2=>h t1 t2⟩
   .cases hf
  .rename_i n p1 p2 r' acc' he;cases he;split at hf
   .rename_i hc;obtain⟨hx,hd,hle,hzl⟩:=hc;rw[hx] at hd;rw[hx];refine FormattedValue_plain (wpAny_Name (wpAny_loadName_local hk hl hn hv (formatField_str (λt' tk'=>⟨hle,n_ hk hl hv (s:={s with toks:=tk'}) hn hf hz λt1 t2=>h t1 t2⟩) hzl)) hd)
   .cases hf
  .cases hf
theorem Gc{s:Shared}(hk:env.scope.kind= .function)(hl:env.kindOf x=some .local)(hv:m x=some (.str z tk))(hn:s.heap.Ns env.locals m)(hf:fText x z (e1::e2::es) Str.empty=some out)(hz:out.length<=sizeLine)
  (h:∀t1 t2,Q (.str out t1) {s with toks:=t2}):wpAny (model prog w) A (eval (.JoinedStr (e1::e2::es) pos) env) Q E s:=JoinedStr_many (n_ hk hl hv hn hf hz h)
end
abbrev kI(e1 e2:Expr)(es:List Expr)(x:Str)(p0 p1 p2 p3 p4 p5 p6 p7 p8 p9:Pos):List Stmt :=
 [.Expr (.Call (.Attribute (.Call (.Name "super" p0) [] [] p1) "__init__" p2) [.JoinedStr (e1::e2::es) p3] [] p4) p5,.Assign [.Attribute (.Name "self" p6) x p7] (.Name x p8) p9]
abbrev eE(C t:Addr):Obj:={cls:= .ref C,data:= .fields #[.ref t,.none,.none,.none,.bool false,.none]}
theorem Gd{o:Expr}{e:Expr}(hl:apos.endLine=pos.line)(he:starEach [e] env=[(false,eval e env)]:=by rfl):eval (.Call (.Attribute o name apos) [e] [] pos) env=(do
  let ov<-attributeBase o name env (eval o env)
  standAt apos.atName
  let (f,first)<-holding [ov] (getMethod ov name (do return (<- importBound o env).getD true))
  callWith pos f first (backTo pos (starEach [e] env)) []):=by
 have hpos:methodCallPos true o env apos pos=pure pos:=by unfold methodCallPos;simp[hl]
 have hform:methodCallForm ([e].length+([]:List Keyword).length) (backTo pos (starEach [e] env)) (backToKw pos (keywordEach [] env))=true:=by rw[he];rfl
 rw[arm_eval_Call];unfold methodCall calleeOf;rw[hform,hpos];simp only[if_true,pure_bind];rfl
section
variable{s:Shared}{K:W.Frag}{mb:Str->Option Value}{out:Str}{tk:Tok}{p0 p3 p4 p5 p6 p7 p8 p9:Pos}{Q:Value->Shared->Prop}
 {cda cc e t:Addr}{od cdd cld an:Option Addr}{oc ccl cl dV kV doc ct:Value}{osl ccs csl:Array (Option Value)}{vs:Array Value}{file:Str}{tf:Tok}{ar:Arg}
 {N:Addr}{bs:List Value}{sub:List Value}{k1 k2:Option Value}
theorem Ge(X:K.In s.heap)(hg:s.heap.Ns mainGlobals mg)(hsup:mg "super"=none)(hb:s.heap.Ns builtinsNs mb)(hbs:mb "super"=some (.type "super"))(hlim:s.heap.NoLimit)(hroom:A.depth < recursionLimit)
  (lk:K.lookup fI=some ⟨oc,od,.func (W.ksFn "__init__" qual params (kI e1 e2 es x p0 p1 p2 p3 p4 p5 p6 p7 p8 p9) scope dV kV doc pm an (.ref cda) ct cc),osl⟩)(hcd:W.codeIn K (.ref cda) qual=true)
  (hcda:K.lookup cda=some ⟨ccl,cdd,.fields vs,ccs⟩)(hvs:vs[2]? = some (.str file tf))(hfile:((prog.main.file:Str)==file)=true)(htop:(prog.main.scope.names.lookup ("super":Str)).isSome=false)
  (hcc:K.lookup cc=some ⟨cl,cld,.cell (some (.ref C)),csl⟩)(hC:W.clsIn K C=some cd)(hhd:cd.hasDict=true)(hpe:gT cd.mro=true)(hself:W.mroIn K C (.ref C)=some true)(hobj:W.mroIn K C (.type "object")=some true)(hve:W.mroIn K C (.type "ValueError")=some true)
  (hop:W.nsIn K cStatics "thirdparty.any"=some none)(hal:W.ks_superIn K C C "__init__"=some (some (.builtin "ValueError.__init__")))(htk:W.takerIn K C x=some none)(hsa:W.findIn K (.ref C) "__setattr__"=some (some (.builtin "object.__setattr__")))
  (hcls:s.heap.get? C=some (excClassObj nm qn C N bs bm hdct sn sub ab col dd k0 k1 k2 k3 k5 newId))(hT:OwnTail s.heap bmV bm)(hce:C≠e)
  (hbind:BindsTo s (W.ksFn "__init__" qual params (kI e1 e2 es x p0 p1 p2 p3 p4 p5 p6 p7 p8 p9) scope dV kV doc pm an (.ref cda) ct cc) ⟨[.ref e,.str z tk],[]⟩ [("self",.ref e),(x,.str z tk)])(hp:(params.posonlyargs++params.args).head? = some ar)(har:ar.arg="self")
  (hks:scope.names.lookup ("super":Str)=some .globalImplicit)(hkc:scope.names.lookup ("__class__":Str)=some .free)(hsl:scope.names.lookup ("self":Str)=some .local)(hxl:scope.names.lookup x=some .local)(hxs:x≠"self")(hxd:(x==("__debug__":Str))=false)
  (hcell:∀y∈scope.names,y.2≠ .cell)(hk:scope.kind= .function)(hco:scope.isCoroutine=false)(hgen:scope.isGenerator=false)
  (hf:fText x z (e1::e2::es) Str.empty=some out)(hz:out.length<=sizeLine)
  (hx:s.heap.get? e=some (eE C t))(hln:p2.endLine=p4.line)(hKe:K.lookup e=none)
  (q:∀(h':Heap) (tk':Nat) (t2 dx:Addr),h'.get? e=some {eE C t2 with dict:=some dx}->h'.Ns1 dx (λy=>if y=x then some (.str z tk) else none)->s.heap.get? dx=none->(∀b o,b≠e->s.heap.get? b=some o->h'.get? b=some o)->Q .none {s with heap:=h',toks:=tk'}) :
  wpAny (model prog w) A (call (.ref fI) [.ref e,.str z tk]) Q E s:=by
 obtain⟨sk,sns,sg,sco,smo⟩:=scope;obtain rfl:sk= .function:=hk;obtain rfl:sg=false:=hgen;obtain rfl:sco=false:=hco;refine wpAny_call (ks_codeAny_call_defAt hroom (X _ _ lk) rfl hlim (W.codeRec_of X hcd) rfl hbind hcell (λy hy=>?_) (λh1 hns1 kp1=>?_))
 .rcases List.mem_cons.mp hy with rfl|hy
  .exact hsl
  .rw[List.mem_singleton.mp hy];exact hxl
 have hm1:∀v,([("self",Value.ref e),(x,v)]:List (Str×Value)).reverse.lookup ("self":Str)=some (.ref e):=λv=>by
  simp[List.lookup_cons,beq_eq_false_iff_ne.mpr (Ne.symm hxs)]
 have hm2:∀v,([("self",Value.ref e),(x,v)]:List (Str×Value)).reverse.lookup x=some v:=λv=>by simp[List.lookup_cons]
 have X1:K.In h1:=X.keeps kp1;have ksup:∀{Q':Value->Shared->Prop} {E':Value->Shared->Prop} {A':Around} {s':Shared},(∀b o,h1.get? b=some o->s'.heap.get? b=some o)->Q' (.type "super") s'->wpAny (model prog w) A' (loadName (W.ksEnv qual ⟨.function,sns,false,false,smo⟩ s.heap.objs.size fI (.ref cda) cc) "super") Q' E' s':=λk hq =>
  W.ks_loadName_global rfl hks (Calls.loadGlobal_builtin ((hg.keeps kp1).keeps k) hsup ((hb.keeps kp1).keeps k) hbs hq)
 obtain⟨oD,hD1,hD2⟩:∃oD,h1.get? C=some oD/\oD.data= .cls cd:=by
  unfold W.clsIn at hC;split at hC
  .rename_i c d cd' sl ho;cases hC;exact⟨_,X1 _ _ ho,rfl⟩
  .cases hC
 have I1:W.InstAt h1 e (eE C t) C none:=⟨kp1 _ _ hx,rfl,rfl,trivial⟩;refine ks_wpAt_execs_cons (ks_wpAt_Expr_any (ks_wpAt_MethodCall (he:=Gd hln) (ks_wpAt_super_base (env:=W.ksEnv qual ⟨.function,sns,false,false,smo⟩ s.heap.objs.size fI (.ref cda) cc) hks hkc (by decide+kernel) rfl (X1 _ _ lk) rfl hp rfl (X1 _ _ hcda) rfl hvs hfile htop ?_)));refine ksup (λ_ _ z=>z) ⟨rfl,?_⟩;refine wpAny_loadName_free rfl hkc rfl ⟨_,X1 _ _ hcc,rfl⟩ ?_;rw[har];refine wpAny_loadName_local rfl hsl hns1 (hm1 _) ?_;refine ks_wpAny_isType_cls hD1 hD2 ⟨rfl,?_⟩;refine ks_wpAny_call_super hD1 hD2 I1.at_ rfl (λc h=>nomatch h) (W.looks_mroIn X1 hself) (λh2 e2' k2=>?_);have X2:K.In h2:=X1.keeps k2;have I2:W.InstAt h2 e (eE C t) C none:=⟨k2 _ _ I1.at_,rfl,rfl,trivial⟩;unfold W.ks_superIn at hal;rw[hC] at hal;refine F9 e2' (W.looks_opaque X2 hop) (l₀:=cd.mro) (λA Q E s k q=>wpAny_bind ((W.looks_clsIn X2 hC) A _ E s k (wpAny_pure q))) rfl X2 I2.type (W.looks_mroIn X2 hve) hal (Ne.symm hce) (by decide+kernel) ?_;have hq3:(h2.push {cls:= .type "method-wrapper",data:= .fields #[.builtin "ValueError.__init__",.ref e]}).get? h2.objs.size=some {cls:= .type "method-wrapper",data:= .fields #[.builtin "ValueError.__init__",.ref e]}:=Heap.get?_push_size h2 rfl;have k3:∀b o,h2.get? b=some o->(h2.push {cls:= .type "method-wrapper",data:= .fields #[.builtin "ValueError.__init__",.ref e]}).get? b=some o:=λb o q=>Heap.get?_push_of_some _ q
 generalize (h2.push {cls:= .type "method-wrapper",data:= .fields #[.builtin "ValueError.__init__",.ref e]})=h3 at hq3 k3 ⊢
 have k13:∀b o,h1.get? b=some o->h3.get? b=some o:=λb o q=>k3 b o (k2 b o q)
 refine Gb (Gc rfl hxl (hm2 _) (hns1.keeps k13) hf hz λt1 t2=>⟨hq3,?_⟩);refine Ga (k13 _ _ (kp1 _ _ hcls)) ((hT.keeps kp1).keeps k13) (ox:=eE C t) rfl hq3 (k13 _ _ I1.at_) rfl rfl ?_;have hsz3:h3.objs.size≠e:=λz=>absurd (Heap.lt_size (k13 _ _ I1.at_)) (by rw[z];exact Nat.lt_irrefl _)
 have he4:((h3.push {cls:= .type "tuple",data:= .seq #[Value.str out t1]}).update e (Obj.mapFields λy=>y.setIfInBounds 0 (.ref h3.objs.size))).get? e=some (eE C h3.objs.size):=Heap.get?_update_self _ (Heap.get?_push_of_some _ (k13 _ _ I1.at_)) rfl;have k4:∀b o,b≠e->h3.get? b=some o->((h3.push {cls:= .type "tuple",data:= .seq #[Value.str out t1]}).update e (Obj.mapFields λy=>y.setIfInBounds 0 (.ref h3.objs.size))).get? b=some o:=λb o hb q=>(Heap.get?_update_other _ _ (Ne.symm hb)).trans (Heap.get?_push_of_some _ q)
 generalize ((h3.push {cls:= .type "tuple",data:= .seq #[Value.str out t1]}).update e (Obj.mapFields λy=>y.setIfInBounds 0 (.ref h3.objs.size)))=h4 at he4 k4 ⊢
 have k14:∀b o,b≠e->h1.get? b=some o->h4.get? b=some o:=λb o hb q=>k4 b o hb (k13 b o q)
 have X4:K.In h4:=λa o ho=>k14 a o (λz=>by subst z;rw[hKe] at ho;cases ho) (X1 a o ho)
 have hLe:s.heap.objs.size≠e:=λz=>absurd (Heap.lt_size hx) (by rw[z];exact Nat.lt_irrefl _)
 have hns4:h4.Ns s.heap.objs.size (λy=>([("self",Value.ref e),(x,Value.str z tk)]:List (Str×Value)).reverse.lookup y):=by
  obtain⟨o,es',ep,ho,r⟩:=hns1;exact⟨o,es',ep,k14 _ _ hLe ho,r⟩
 refine ks_wpAt_execs_cons (ks_wpAt_Assign_Attr (wpAt_of_wpAny (wpAny_Name (wpAny_loadName_local rfl hxl hns4 (hm2 _) (wpAny_Name (wpAny_loadName_local rfl hsl hns4 (hm1 _) ?_))) hxd)));refine F8 X4 (ox:=eE C h3.objs.size) ⟨he4,rfl,rfl,trivial⟩ hC hhd hpe hobj htk hsa (λh5 tk5 o5 n5 k5=>?_);refine wpAt_of_wpAny (wpAny_pure ?_);refine q h5 tk5 h3.objs.size h4.objs.size o5 n5 ?_ λb o hb e'=>k5 b o hb (k14 b o hb (kp1 b o e'))
 cases r:s.heap.get? h4.objs.size with
 |none=>rfl
 |some o=>exact absurd (Heap.lt_size (k14 _ _ (λz=>absurd (Heap.lt_size he4) (by rw[<- z];exact Nat.lt_irrefl _)) (kp1 _ _ r))) (Nat.lt_irrefl _)
end
theorem Gf{K:W.Frag}{N:Addr}{m:Str->Option Value}{n:Str}(X:K.In h)(G:h.Ns N m)(e:W.nsIn K N n=some (some v)):m n=some v:=by
 obtain⟨o,es,ep,ho,hd,_,hf⟩:=G;unfold W.nsIn at e;split at e
 .rename_i c d es' n' sl q;have:=X _ _ q;rw[ho] at this;cases this;cases hd;split at e
  .rename_i en he;cases e;rw[<- hf];unfold nsFind findBy;rw[<- Array.find?_toList,he];rfl
  .split at e<;>cases e
 .cases e
def kJ(K:W.Frag)(C:Addr)(bmB:List Value)(newId:String)(fI:Addr):Bool:=match K.lookup C with
 |some ⟨.type "type",_,.cls cd,sl⟩=>(match cd.mro,sl.toList with
  | .ref C'::bm,[_,_,_,_,some (.builtin n),_]=>C'==C&&n==newId&& !cd.hasDel&&W.tailIn K bmB bm&&W.nsOkIn K cd.ns&&W.nsIn K cd.ns "__init__"==some (some (.ref fI))
  |_,_=>false)
 |_=>false
theorem vp{K:W.Frag}{bmB:List Value}(KX:K.In h)(e:kJ K C bmB newId fI=true) :
  ∃bm N nm q bs hdct sn sub ab col dd k0 k1 k2 k3 k5 mN,h.get? C=some (excClassObj nm q C N bs bm hdct sn sub ab col dd k0 k1 k2 k3 k5 newId)/\h.Ns N mN/\mN "__init__"=some (.ref fI)/\OwnTail h bmB bm:=by
 unfold kJ at e;split at e
 .rename_i dict cd sl hl;split at e
  .rename_i C' bm k0 k1 k2 k3 n k5 hm hs;simp only[Bool.and_eq_true,beq_iff_eq,Bool.not_eq_true'] at e;obtain⟨⟨⟨⟨⟨e1,e2⟩,e3⟩,e4⟩,e5⟩,e6⟩:=e;subst e1;subst e2;obtain⟨nm,bs,mro,ns,qn,hdct,sn,sub,ab,col,hdel⟩:=cd;have hm':mro= .ref C'::bm:=hm;have e3':hdel=false:=e3;subst hm';subst e3';have hsl:sl= #[k0,k1,k2,k3,some (.builtin n),k5]:=by
    have:=congrArg List.toArray hs;simpa using this
   subst hsl;have hN:=Heap.Ns.of_isNs (W.isNs_of_in KX e5);exact⟨bm,ns,nm,qn,bs,hdct,sn,sub,ab,col,dict,k0,k1,k2,k3,k5,h.nsMap ns,KX _ _ hl,hN,Gf KX hN e6,W.tail_of_in KX e4⟩
  .cases e
 .cases e
structure fX(P:Program)(w:World)(K:W.Frag)(mg:Str->Option Value)(c fld:Str)(f:Str->Option Str):Prop where
 ex:∃C fI oI,clsOf K c=some C/\mg c=some (.ref C)/\kJ K C bmV newV fI=true/\K.lookup fI=some oI/\oI.cls= .type "function"/\W.mroIn K C (.type "BaseException")=some true /\
  ∀{A:Around} {E:Value->Shared->Prop} {s:Shared} {z out:Str} {tk:Tok} {e t:Addr} {Q:Value->Shared->Prop},K.In s.heap->s.heap.Ns mainGlobals mg->(∃mb,s.heap.Ns builtinsNs mb/\∀x:Str,x≠"__name__"->mb x=bootBuiltins x)->s.heap.NoLimit->A.depth < recursionLimit->K.lookup e=none ->
   f z=some out->out.length<=sizeLine->s.heap.get? e=some (eE C t) ->
   (∀(h':Heap) (tk':Nat) (t2 dx:Addr),h'.get? e=some {eE C t2 with dict:=some dx}->h'.Ns1 dx (λy=>if y=fld then some (.str z tk) else none)->s.heap.get? dx=none->(∀b o,b≠e->s.heap.get? b=some o->h'.get? b=some o)->Q .none {s with heap:=h',toks:=tk'}) ->
   wpAny (model P w) A (call (.ref fI) [.ref e,.str z tk]) Q E s
def oa(K:W.Frag)(c fld:Str)(f:Str->Option Str)(E:St->XK)(t:TE):TS:=λ_ σ H=>t σ H λv H1=>∃z out C,v= .str z/\f z=some out/\out.length<=sizeLine/\clsOf K c=some C/\∀dx,H1 dx=none->E σ (.ref C) (some dx) (upd H1 dx (.xd [(fld,.str z)]))
section
variable{E:St->XK}{k:Nat}{c:Str}{f:Str->Option Str}{a:Expr}{t:TE}
theorem Gg(xm:XMk X E)(hc:X.calm=true)(hI:fX X.prog X.w X.K X.mg c fld f)(hr:aS (k+1) X.A)(hg:Gl X c)(ha:PE X a t)(hdb:(c==("__debug__":Str))=false:=by decide)
  (hst:starEach [a] X.env=[(false,eval a X.env)]:=by rfl) :
  PS X (.Raise (some (.Call (.Name c np) [a] [] cpos)) none pos) (oa X.K c fld f E t):=by
 intro pins s σ H D I h;obtain⟨C,fI,oI,hC,hm,hin,hfI,hfc,hbase,run⟩:=hI.ex;obtain⟨bm,N,nm,q,bs,hdct,sn,sub,ab,col,dd,k0,k1,k2,k3,k5,mN,o1,o2,o3,o4⟩:=vp I.ok.mod.kin hin;have hb:bm.contains (Value.type "BaseException")=true:=o4.hasType (by decide+kernel);rw[arm_exec_Raise];simp only[evalOpt,Option.map];refine wpAny_bind (wpAny_standAt (FX (C:=C) (nm:=nm) (q:=q) (N:=N) (bs:=bs) (bm:=bm) (hdct:=hdct) (sn:=sn) (sub:=sub) (ab:=ab) (col:=col) (dd:=dd) (k0:=k0) (k1:=k1) (k2:=k2) (k3:=k3) (k5:=k5) (newId:=newV) hb (I.ok.hd hc) ?_));refine wpAny_bind (wpAny_mono (wpAny_Call_ofName (fm I hg hm ?_ hdb)) (λv s₃ h₃=>wpAny_bind (wpAny_standAt (wpAny_pure h₃))) λ_ _ x=>x);refine W.callWith_of (P:=λh=>h.get? C=some (excClassObj nm q C N bs bm hdct sn sub ab col dd k0 k1 k2 k3 k5 newV)) (by rw[hst];rfl) (λh ho=>⟨.machine,.inr (.inl rfl),λA Q E s k q=>by
  obtain⟨hp,g,d,tk,os⟩:=s;exact wpAny_keeperOf_exc (k _ _ ho) q⟩) ?_
 rw[hst];refine Calls.evalArgs_plain ?_;show wpAny _ _ (spliced ((false,eval a X.env)::backTo cpos [])) _ _ s;refine Calls.spliced_cons (thn (ha pins s σ H _ I h) λu s2 ⟨v,H2,I2,rv,z,out,C',e1,hf,hz,hC',hE⟩=>wpAny_pure ⟨I2.bk _ _ o1,?_⟩);rw[hC] at hC';cases hC';subst e1;obtain⟨tk,rfl⟩:=rv;have o2':=o2.keeps I2.bk;obtain⟨hp2,g2,d2,tk2,os2⟩:=s2;refine FW F.excBase_ValueError (o4.keeps I2.bk) (I2.bk _ _ o1) o2' o3 (I2.kIn _ _ hfI) hfc (λh' e mk=>?_) (by simp[sizeLine_eq]);obtain⟨kp,nw,tt,he,_,_⟩:=mk;have hKe:X.K.lookup e=none:=by
  cases r:X.K.lookup e with
  |none=>rfl
  |some o=>have:=I2.kIn _ _ r;rw[nw] at this;cases this
 obtain⟨mb,hb1,hb2⟩:=I.ok.mod.blt;refine run (λa o r=>kp _ _ (I2.kIn a o r)) ((I.ok.mod.glob.keeps I2.bk).keeps kp) ⟨mb,(hb1.keeps I2.bk).keeps kp,hb2⟩ (I2.nolimit.keeps kp) (hr.make C [.str z tk] []).depth hKe hf hz he (λh5 tk5 t2 dx o5 n5 dn k5=>⟨rfl,?_⟩);have kA:∀b o,hp2.get? b=some o->h5.get? b=some o:=λb o r=>k5 b o (λz=>by subst z;rw[nw] at r;cases r) (kp b o r)
 have dn2:hp2.get? dx=none:=by
  cases r:hp2.get? dx with
  |none=>rfl
  |some o=>have:=kp _ _ r;rw[dn] at this;cases this
 have hHe:H2 e=none:=by
  cases r:H2 e with
  |none=>rfl
  |some o=>obtain⟨u,hu⟩:=(I2.hok e o r).there;rw[nw] at hu;cases hu
 have hHd:H2 dx=none:=by
  cases r:H2 dx with
  |none=>rfl
  |some o=>obtain⟨u,hu⟩:=(I2.hok dx o r).there;rw[dn2] at hu;cases hu
 have hne:e≠dx:=λz=>by subst z;rw[he] at dn;cases dn
 have F0:=I2.fr0 xm.ex;have I5:Inv X pins σ (upd H2 dx (.xd [(fld,.str z)])) _:=(I2.kept (t':=tk5) kA).track F0 dn2 hHd ⟨_,n5,λy=>?_⟩
 .refine⟨e,t2,some dx, #[],rfl,kA _ _ (I2.bk _ _ o1),o5,xm.made (g:=hp2) I5 F0 (λb zb=>?_) ⟨_,_,o5,rfl,rfl,rfl,rfl,?_,nw⟩ (hE dx hHd)⟩
  .cases r:hp2.get? b with
   |none=>rfl
   |some o=>have e1:=kA b o r;rw[show h5.get? b=none from zb] at e1;cases e1
  .rw[zy hne];exact hHe
 .by_cases hy:y=fld
  .subst hy;rw[if_pos rfl,List.lookup_cons,beq_self_eq_true];exact⟨_,rfl⟩
  .rw[if_neg hy,List.lookup_cons,beq_eq_false_iff_ne.mpr hy];trivial
end
section
variable{K:W.Frag}{c:Str}{p0 p3 p4 p5 p6 p7 p8 p9:Pos}
 {cda cc:Addr}{od cdd cld an:Option Addr}{oc ccl cl dV kV doc ct:Value}{osl ccs csl:Array (Option Value)}{vs:Array Value}{file:Str}{tf:Tok}{ar:Arg}
theorem Gh(a:clsOf K c=some C)(hm:mg c=some (.ref C))(_hfi:W.findIn K (.ref C) "__init__"=some (some (.ref fI)))(hin:kJ K C bmV newV fI=true)(hfn:oc= .type "function")(hbe:W.mroIn K C (.type "BaseException")=some true)(hsup:mg "super"=none)
  (lk:K.lookup fI=some ⟨oc,od,.func (W.ksFn "__init__" qual params (kI e1 e2 es x p0 p1 p2 p3 p4 p5 p6 p7 p8 p9) scope dV kV doc pm an (.ref cda) ct cc),osl⟩)(hcd:W.codeIn K (.ref cda) qual=true)
  (hcda:K.lookup cda=some ⟨ccl,cdd,.fields vs,ccs⟩)(hvs:vs[2]? = some (.str file tf))(hfile:((P.main.file:Str)==file)=true)(htop:(P.main.scope.names.lookup ("super":Str)).isSome=false)
  (hcc:K.lookup cc=some ⟨cl,cld,.cell (some (.ref C)),csl⟩)(hC:W.clsIn K C=some cd)(hhd:cd.hasDict=true)(hpe:gT cd.mro=true)(hself:W.mroIn K C (.ref C)=some true)(hobj:W.mroIn K C (.type "object")=some true)(hve:W.mroIn K C (.type "ValueError")=some true)
  (hop:W.nsIn K cStatics "thirdparty.any"=some none)(hal:W.ks_superIn K C C "__init__"=some (some (.builtin "ValueError.__init__")))(htk:W.takerIn K C x=some none)(hsa:W.findIn K (.ref C) "__setattr__"=some (some (.builtin "object.__setattr__")))
  (hbind:∀(s:Shared) (u v:Value),BindsTo s (W.ksFn "__init__" qual params (kI e1 e2 es x p0 p1 p2 p3 p4 p5 p6 p7 p8 p9) scope dV kV doc pm an (.ref cda) ct cc) ⟨[u,v],[]⟩ [("self",u),(x,v)])(hp:(params.posonlyargs++params.args).head? = some ar)(har:ar.arg="self")
  (hks:scope.names.lookup ("super":Str)=some .globalImplicit)(hkc:scope.names.lookup ("__class__":Str)=some .free)(hsl:scope.names.lookup ("self":Str)=some .local)(hxl:scope.names.lookup x=some .local)(hxs:x≠"self")(hxd:(x==("__debug__":Str))=false)
  (hcell:∀y∈scope.names,y.2≠ .cell)(hk:scope.kind= .function)(hco:scope.isCoroutine=false)(hgen:scope.isGenerator=false)(hln:p2.endLine=p4.line) :
  fX P w K mg c x (λz=>fText x z (e1::e2::es) Str.empty):=⟨C,fI,_,a,hm,hin,lk,hfn,hbe,λ{A E s z out tk e t Q} X hg hbl hlim hroom hKe hf hz hx q=>by
 obtain⟨mb,hb,hbs⟩:=hbl;obtain⟨bm,N,nm,qn,bs,hdct,sn,sub,ab,col,dd,k0,k1,k2,k3,k5,mN,o1,o2,o3,o4⟩:=vp X hin;have hce:C≠e:=λh=>by subst h;rw[hx] at o1;cases o1
 exact Ge X hg hsup hb ((hbs _ (by decide+kernel)).trans (by decide+kernel)) hlim hroom lk hcd hcda hvs hfile htop hcc hC hhd hpe hself hobj hve hop hal htk hsa o1 o4 hce (hbind _ _ _) hp har hks hkc hsl hxl hxs hxd hcell hk hco hgen hf hz hx hln hKe q⟩
end
def vq:List Stmt->List Expr
 | .Expr (.Call _ [.JoinedStr l _] _ _) _::_=>l
 |_=>[]
theorem Gi{s:Shared}{K:W.Frag}{x D:Addr}{odo:Option Obj}{expr:Bool}{Q:Value->Shared->Prop}(KX:K.In s.heap)(J:W.InstAt s.heap x ox D odo)
  (hga:W.findIn K (.ref D) "__getattribute__"=some (some (.builtin "BaseException.__getattribute__")))(hgh:W.findIn K (.ref D) "__getattr__"=some none)
  (hb:W.mroIn K D (.type "BaseException")=some true)(hf:W.findObj K D odo name=some (.value v))(hv:W.handedIn v=true)
  (q:Q v {s with toks:=s.toks+1}):wpAny (model prog w) A (getAttr (.ref x) name expr) Q E s:=by
 unfold getAttr;refine wpAny_bind (wpAny_mkText ?_);unfold getAttrBy;refine wpAny_holding (wpAny_bind (J.type.at ?_));refine wpAny_bind ((W.looks_findIn KX hga).at ?_);refine(show wpAny (model prog w) A (getAttrByItsOwn (.ref x) (.str name s.toks) (.ref D) (.builtin "BaseException.__getattribute__") true expr) _ _ _ from ?_);unfold getAttrByItsOwn;refine wpAny_bind ((W.looks_findIn KX hgh).at ?_);refine wpAny_bind (wpAny_attempt (wpAny_holding ?_));have e1:callGetattribute (.ref x) (.str name s.toks) (.builtin "BaseException.__getattribute__") expr=boundAndCalled (.builtin "BaseException.__getattribute__") (.ref x) (.str name s.toks):=by
  unfold callGetattribute;rw[show onTheHeap (.builtin "BaseException.__getattribute__")=false from rfl,Bool.and_false];rfl
 rw[e1];unfold boundAndCalled;rw[F.excAttr_ValueError.ga.bind];refine wpAny_bind (wpAny_pure ?_);refine wpAny_call (codeAny_call_builtin (by decide+kernel) F.entry_bexc_ga ?_);have hck:∀{A:Around} {Q:Unit->Shared->Prop} {E:Value->Shared->Prop} {tk:Nat},Q () {s with toks:=tk}->wpAny (model prog w) A (checkBuiltinCall "BaseException.__getattribute__" ⟨[.ref x,.str name s.toks],[]⟩) Q E {s with toks:=tk}:=by
  intro A Q E tk hq;refine(show wpAny (model prog w) A (isInstance (.ref x) (.type "BaseException") >>= _) _ _ _ from ?_);refine wpAny_bind ?_;unfold isInstance;refine wpAny_bind (J.type.at ((W.looks_mroIn KX hb).at ?_));have e:(match Manifest.signature? "BaseException.__getattribute__" with
   |some sig=>Bind.checkArgs "BaseException.__getattribute__" sig ⟨[.ref x,.str name s.toks],[]⟩
   |none=>pure ())=pure ():=F.args_bexc_ga (.ref x) (.str name s.toks)
  refine(show wpAny (model prog w) A (match Manifest.signature? "BaseException.__getattribute__" with
   |some sig=>Bind.checkArgs "BaseException.__getattribute__" sig ⟨[.ref x,.str name s.toks],[]⟩
   |none=>pure ()) _ _ _ from ?_)
  rw[e];exact wpAny_pure hq
 refine hck ?_;unfold Builtin.«object.__getattribute__»;refine wpAny_bind (show wpAny _ _ (pure (Value.ref x,[Value.str name s.toks])) _ _ _ from wpAny_pure ?_);refine wpAny_bind (show wpAny _ _ (pure name) _ _ _ from wpAny_pure ?_);refine wpAny_bind (J.type.at (wpAny_bind ((W.looks_find KX J hf).at ?_)));refine(show wpAny (model prog w) A.in1 (pure _) _ _ _ from wpAny_pure ?_);refine(show wpAny (model prog w) A (handedOut v) _ _ _ from ?_);rw[W.handedOut_of hv];exact wpAny_pure q
structure kK(K:Frag)(D:Addr):Prop where
 ga:W.findIn K (.ref D) "__getattribute__"=some (some (.builtin "BaseException.__getattribute__"))
 gh:W.findIn K (.ref D) "__getattr__"=some none
 hb:W.mroIn K D (.type "BaseException")=some true
 hd:W.hasDictIn K D=true
 nn:W.findIn K (.ref D) "name"=some none
def kL(K:Frag)(D:Addr):Bool:=W.findIn K (.ref D) "__getattribute__"==some (some (.builtin "BaseException.__getattribute__"))&&W.findIn K (.ref D) "__getattr__"==some none&&W.mroIn K D (.type "BaseException")==some true&&W.hasDictIn K D&&W.findIn K (.ref D) "name"==some none
theorem kK.of{D:Addr}(h:kL K D=true):kK K D:=by
 unfold kL at h;simp only[Bool.and_eq_true,beq_iff_eq] at h;obtain⟨⟨⟨⟨h1,h2⟩,h3⟩,h4⟩,h5⟩:=h;exact⟨h1,h2,h3,h4,h5⟩
def og(K:Frag)(te:TE):TE:=λσ H Q=>te σ H λv H1=>∃a C dx z,v= .ref a/\H1 a=some (fC a C (some dx))/\H1 dx=some (.xd [("name",.str z)])/\kK K C/\Q (.str z) H1
section
variable{e:Expr}
theorem Gj(he:PE X e te)(hb:attributeBase e "name" X.env (eval e X.env)=eval e X.env):PE X (.Attribute e "name" pos) (og X.K te):=by
 intro pins s σ H Q I h;refine mr hb (thn (he pins s σ H _ I h) λu s1 ⟨x,H1,I1,rx,a,C,dx,z,ex,ea,ed,c,q⟩=>?_);subst ex;obtain rfl:u=Value.ref a:=rx;obtain⟨⟨ox,o1,o2,o3,o4⟩,_⟩:=(show aw X.prog X.w H1 s1.heap a (fC a C (some dx)) from I1.hok a _ ea);obtain⟨mA,n1,n2⟩:=(show aw X.prog X.w H1 s1.heap dx (.xd [("name",.str z)]) from I1.hok dx _ ed);obtain⟨od,hod,hlk⟩:=qu n1;have J:W.InstAt s1.heap a ox C (some od):=⟨o1,o2,o4,by rw[o3];exact hod⟩;obtain⟨u,hu,ru⟩:=bx.some_of (v:= .str z) (o:=mA "name") (by have:=n2 "name";rwa [List.lookup_cons,beq_self_eq_true] at this);exact Gi I1.kIn J c.ga c.gh c.hb (W.findObj_own c.hd c.nn rfl (by rw[hlk,hu])) (qC ru) ⟨.str z,H1,I1.tok _,ru,q⟩
theorem Gk(K:Frag)(he:WE X e te)(h:X.K=K:=by rfl)(hb:attributeBase e "name" X.env (eval e X.env)=eval e X.env:=by rfl):WE X (.Attribute e "name" pos) (og K te):=h▸⟨Gj he.out hb⟩
theorem oh{E:St->XK}{k:Nat}{c:Str}{f:Str->Option Str}{a:Expr}{t:TE}(K:Frag)(xm:XMk X E)(hI:fX X.prog X.w X.K X.mg c fld f)(hr:aS k X.A)(ha:WE X a t)(hK:X.K=K:=by rfl)(hj:1<=k:=by decide)(hc:X.calm=true:=by rfl)(hg:Gl X c:=by rfl)(hdb:(c==("__debug__":Str))=false:=by decide)
  (hst:starEach [a] X.env=[(false,eval a X.env)]:=by rfl):WS X (.Raise (some (.Call (.Name c np) [a] [] cpos)) none pos) (oa K c fld f E t):=hK▸⟨Gg xm hc hI (k:=0) (hr.mono hj) hg ha.out hdb hst⟩
end
class i9(K:Frag)(c:Str):Prop where
 at_:∃C,clsOf K c=some C
 cf:bz c=true:=by decide+kernel
def fY(c:Str)(f:Str->Option Str)(Ex:DXE)(w:DE):DS:=λ_ ρ μ=>w ρ μ λd μ1=>match d with
 | .str z=>(∃out,f z=some out/\out.length<=sizeLine)/\Ex ρ (bt c z) μ1
 |_=>False
def oi(es:List Str)(w:DE):DE:=λρ μ Q=>w ρ μ λd μ1=>match d with
 | .exc lab=>∃b z,lab=bt b z/\bz b=true/\b∈es/\Q (.str z) μ1
 |_=>False
def oj(es:List Str)(i:Nat)(wb:DXE->DS)(wh:DS):DS:=λD ρ μ=>wb (λρ' lab μ'=>(lab∈es\/∃b z,lab=bt b z/\bz b=true/\b∈es)/\wh (kG D i) (ρ'.set i (some (.exc lab))) μ') D ρ μ
class ENm(K:Frag)(es:List Str):Prop where
 run:∀b∈es,∀C,clsOf K b=some C->kK K C
section
variable{E:St->XK}{t:TE}{w:DE}{c:Str}{f:Str->Option Str}
instance[x:XR K fl Ex E][i:i9 K c][a:zV K fl t w]:aV K fl (oa K c "name" f E t) (fY c f Ex w):=⟨λ{W ρ μ σ H D' D} r e h k=>a.run r e h λW1 d μ1 v H1 le1 r1 q1 h1=>by
 cases d<;>first|exact h1.elim|skip
 rename_i z;obtain⟨⟨out,hf,hz⟩,hE⟩:=h1;obtain⟨C,hC⟩:=i.at_;refine⟨z,out,C,q1.s',hf,hz,hC,λdx hd=>?_⟩;obtain⟨r2,le2⟩:=r1.newF (o:= .xd [("name",.str z)]) hd;exact x.run r2 ((e.mono le1).mono le2) hE (.inr ⟨c,z,dx,rfl,i.cf,hC,rfl,zB⟩)⟩
instance{es:List Str}[n:ENm K es][a:zV K fl t w]:zV K fl (og K t) (oi es w):=⟨λ{W ρ μ σ H Q Q'} r e h k=>a.run r e h λW1 d μ1 v H1 le1 r1 q1 h1=>by
 cases d<;>first|exact h1.elim|skip
 rename_i lab;obtain⟨b,z,rfl,hb,hes,hQ⟩:=h1;unfold Rep at q1;obtain⟨C,p,dx,rfl,ea,hX⟩:=q1;rcases hX with⟨_,_,h3⟩|⟨b',z',d,h1,h2,h3,h4,h5⟩
 .rw[mZ] at h3;cases h3
 .obtain⟨rfl,rfl⟩:=sE h1 hb h2;subst h4;exact⟨p,C,d,z,rfl,r1.sub _ _ ea,r1.sub _ _ h5,n.run b hes C h3,k W1 (.str z) μ1 _ H1 le1 r1 .s hQ⟩⟩
instance{es:List Str}{i:Nat}{tb:(St->XK)->TS}{th:TS}{wb:DXE->DS}{wh:DS}[hd:kH K es Ch][b:∀fl (p:XP K fl),aV K fl (tb p.E) (wb p.Ex)][a:aV K fl th wh]:aV K fl (n4 K Ch i tb th) (oj es i wb wh):=⟨λ{W ρ μ σ H D' D} r e h k=>by
 have xr:XR K W (λρ' lab μ'=>(lab∈es\/∃b z,lab=bt b z/\bz b=true/\b∈es)/\wh (kG D' i) (ρ'.set i (some (.exc lab))) μ') (i8 K Ch i th D):=⟨λ{W1 ρ1 μ1 σ1 H1 c C dx} r1 e1 h1 hX=>by
  have hex:PySem.W.exmOne K (.ref C) (.ref Ch)=some true:=by
   rcases h1.1 with hc|⟨b,z,rfl,cb,hb⟩
   .exact hd.run c hc C (hX.plain (hd.cf c hc)).1
   .rcases hX with⟨_,_,h3⟩|⟨b',z',d,g1,g2,g3,_,_⟩
    .rw[mZ] at h3;cases h3
    .obtain⟨rfl,rfl⟩:=sE g1 cb g2;exact hd.run b hb C g3
  refine⟨C,rfl,hex,λp hp=>?_⟩;have r1':Rel K fl W1 μ1 H1:=r1.floor (r.up.trans r1.up);obtain⟨r2,le2⟩:=r1'.newF (o:=fC p C dx) hp;refine a.run r2 ((e1.mono le2).set (x:= .ref p) (d:= .exc c) ?_) h1.2 ((k.mono (r1.up.trans le2)).kE);unfold Rep;exact⟨C,p,dx,rfl,zB,hX.mono le2⟩⟩
 exact(b W ⟨_,i8 K Ch i th D,xr⟩).run (r.floor (.refl W)) e h (k.lower r.up)⟩
end
theorem ENm.nil:ENm K []:=⟨λ_ h=>by cases h⟩
theorem ENm.cons{c:Str}{es:List Str}(a:clsOf K c=some C)(h:kL K C=true)(t:ENm K es):ENm K (c::es):=⟨λb hb D hD=>by
 rcases List.mem_cons.mp hb with rfl|hb
 .rw[a] at hD;cases hD;exact .of h
 .exact t.run b hb D hD⟩
section
variable{s:Shared}
end
section
variable{s:Shared}
structure vt(params:Arguments)(body:Expr)(scope:Scope)(x fld:Str):Prop where
 bd:∃p1 p2,body= .Attribute (.Name x p1) fld p2
 ab:∀env:Env,attributeBase (match body with | .Attribute e _ _=>e|e=>e) fld env (eval (match body with | .Attribute e _ _=>e|e=>e) env)=eval (match body with | .Attribute e _ _=>e|e=>e) env
 k:scope.kind= .function
 n:∀y∈scope.names,y.2≠ .cell
 lx:scope.names.lookup x=some .local
 co:scope.isCoroutine=false
 gen:scope.isGenerator=false
 d:(x==("__debug__":Str))=false
 b:∀(qual:Str) (pm cdv ctv u:Value),bindArgs (kla_fn "<lambda>" qual params body scope [] pm cdv ctv) ⟨[u],[]⟩=pure [(x,u)]
theorem Gm{dx:Addr}{ctv:Value}{mA:Str->Option Value}{tz:Tok}{Q:Value->Shared->Prop}(T:vt params body scope x fld)
  (KX:K.In s.heap)(hlim:s.heap.NoLimit)(hroom:A.depth < recursionLimit)
  (hf:s.heap.get? f=some (kla_obj "<lambda>" qual params body scope [] pm c' ctv))(hc:s.heap.CodeRec (.ref c') qual)
  (O:dZ s.heap a dx C mA)(hz:mA fld=some (.str z tz))(cl:Cls K C)(na:bZ K C fld)
  (q:∀(h':Heap) (t':Nat),(∀b o,s.heap.get? b=some o->h'.get? b=some o)->Q (.str z tz) {s with heap:=h',toks:=t'}) :
  wpAny (model prog w) A (call (.ref f) [.ref a]) Q E s:=by
 obtain⟨p1,p2,rfl⟩:=T.bd;refine wpAny_call (PySem.W.kla_callFunE hroom hf rfl T.co T.gen rfl hc ?_);show wpAny _ _ (bindArgs (kla_fn "<lambda>" qual params (.Attribute (.Name x p1) fld p2) scope [] pm (.ref c') ctv) ⟨[.ref a],[]⟩) _ _ s;rw[T.b];refine wpAny_pure ?_;refine wpAny_newFunctionEnv T.n (λy hy=>?_) (λh' hn sb=>?_) T.k
 .rw[List.mem_singleton.mp hy];exact T.lx
 have kp:∀b o,s.heap.get? b=some o->h'.get? b=some o:=λb o e=>by
  rw[sb.2 b (Nat.ne_of_lt (Heap.lt_size e)),Heap.get?_push_ne _ _ _ (Nat.ne_of_lt (Heap.lt_size e))];exact e
 refine⟨hlim.keeps kp,PySem.W.kla_codeExpr ?_⟩;refine mr (T.ab _) ?_;refine wpAny_Name (wpAny_loadName_local T.k ?_ hn (v:= .ref a) (by show List.lookup x [(x,Value.ref a)]=_;rw[List.lookup_cons,beq_self_eq_true]) ?_) T.d
 .exact T.lx
 .have KX':K.In h':=λb o e=>kp b o (KX b o e)
  have O':dZ h' a dx C mA:=⟨kp _ _ O.obj,O.ns.keeps kp,O.ne⟩;exact qz (s:={s with heap:=h',toks:=s.toks+1}) KX' O' (cl.get fld) cl.hd na hz (by rfl) (q h' _ kp)
end
theorem Gn(lp:Pos)(c':Addr):TriplesOk (cK lp.line lp.col c').toList:=by
 show TriplesOk [rawInt lp.line,rawInt lp.col,.ref c'];unfold TriplesOk rawInt;exact trivial
theorem Go(lp:Pos)(c':Addr):codeAmong lp (cK lp.line lp.col c').toList=some (.ref c'):=by
 show codeAmong lp [rawInt lp.line,rawInt lp.col,.ref c']=_;unfold codeAmong rawInt;dsimp only;rw[if_pos (by simp)]
def vv(P:Addr)(ln cl:Nat)(qual:Str)(H:Hp):Prop:=H P=some (.tbl #[])\/∃c',H P=some (.tbl (cK ln cl c'))/\H c'=some (c7 c' qual)
theorem Gp(x:h.CodeRec (.ref c') qual):aw Pr w H h c' (c7 c' qual):=by
 obtain⟨c,o,vs,t,e,h1,h2,h3⟩:=id x;cases e;refine⟨x,⟨o,h1⟩,λg1 g2 ⟨c,o,vs,t,e,h1,h2,h3⟩ k=>?_⟩;cases e;exact⟨c',o,vs,t,rfl,k _ h1,h2,h3⟩
theorem Un.grow{fs:List Addr}{P:Addr}{ps more:Array Value}(hP:H P=some (.tbl ps))(k:∀b u,b≠P->h.get? b=some u->h'.get? b=some u)(he:∃u,h'.get? P=some u)(hc:h.objs.size<=c')(hn:H c'=none) :
  Un fs [] H (upd (upd H c' (c7 c' q)) P (.tbl (ps++more))) h h':=by
 have nP:∀b,H b=none->b≠P:=λb n z=>by rw[z,hP] at n;cases n
 have cP:c'≠P:=nP c' hn;refine⟨λb u q n _ _=>k b u (nP b n) q,λb u q n _ _=>⟨u.slots,k b u (nP b n) q⟩,λb u q n _=>?_,λb u q _=>?_,λb xs q=>?_,λb u xs q=>?_,λb ps' q=>?_⟩
 .rw[zy (nP b n),zy (Nat.ne_of_lt (Nat.lt_of_lt_of_le (Heap.lt_size q) hc))];exact n
 .by_cases e:b=P
  .subst e;exact he
  .exact⟨u,k b u e q⟩
 .have e:b≠P:=λz=>by rw[z,hP] at q;cases q
  rw[zy e,zy (zP q hn)];exact q
 .have e:b≠P:=λz=>by rw[z,hP] at q;cases q
  rw[zy e,zy (zP q hn)];exact q
 .by_cases e:b=P
  .subst e;rw[hP] at q;cases q;exact⟨more,zB⟩
  .rw[zy e,zy (zP q hn),q];exact⟨#[],by simp⟩
theorem HOk.grow{P:Addr}{ps more:Array Value}(ok:HOk Pr w H h)(hP:H P=some (.tbl ps))(k:∀b u,b≠P->h.get? b=some u->h'.get? b=some u)(hn:H c'=none)
  (hg:h'.get? P=some (tabObj (ps++more)))(hc:h'.CodeRec (.ref c') q):HOk Pr w (upd (upd H c' (c7 c' q)) P (.tbl (ps++more))) h':=λb u e=>by
 by_cases hb:b=P
 .subst hb;rw[zB] at e;cases e;exact hg
 .rw[zy hb] at e;by_cases hb2:b=c'
  .subst hb2;rw[zB] at e;cases e;exact Gp hc
  .rw[zy hb2] at e;have keepH:∀d o,(∀ps,o≠HO.tbl ps)->H d=some o->upd (upd H c' (c7 c' q)) P (.tbl (ps++more)) d=some o:=λd o no e=>by
    have:d≠P:=λz=>by rw[z,hP] at e;cases e;exact no _ rfl
    rw[zy this,zy (zP e hn)];exact e
   refine(ok b u e).stay (λd v hd r=>k d v (λz=>?_) r) (λd r=>keepH _ _ (λ_ z=>by cases z) r) λd xs r=>keepH _ _ (λ_ z=>by cases z) r
   rcases hd with rfl|hd
   .exact hb z
   .rw[z,hP] at hd;cases hd
section
variable{s:Shared}{P c:Addr}{lp:Pos}{Q:Value->Shared->Prop}
structure eF(base:Heap)(mg:Str->Option Value)(c P:Addr):Prop where
 hd:CodeHd base c P
 bi:base.BuiltinsAt mg P
 ne:mainGlobals≠P
theorem vw(x:CodeHd h c P)(k:∀b o,h.get? b=some o->h'.get? b=some o):CodeHd h' c P:=by
 obtain⟨o,vs,file,tf,flags,tg,inF,text,tt,e,r⟩:=x;exact⟨o,vs,file,tf,flags,tg,inF,text,tt,k _ _ e,r⟩
theorem vy(x:h.BuiltinsAt mg P)(k:∀b o,h.get? b=some o->h'.get? b=some o):h'.BuiltinsAt mg P:=by
 obtain⟨bm,o,e1,e2,e3,e4,e5,r⟩:=x;exact⟨bm,o,e1,e2,e3,e4,k _ _ e5,r⟩
theorem Gq(I:Inv X pins σ H s)(hcode:X.env.code= .ref c)(B:eF X.base X.mg c P)(hcl:closureFor scope X.env=pure [])(hdf:defaultsOf params X.env=([],[]))(T:vv P lp.line lp.col (X.env.qual++"<lambda>") H)
  (q:∀(s':Shared) (H':Hp) (f c':Addr) (pm ctv:Value),Inv X pins σ H' s'->(H P=some (.tbl #[])/\H c'=none/\H'=upd (upd H c' (c7 c' (X.env.qual++"<lambda>"))) P (.tbl (cK lp.line lp.col c'))\/H'=H/\H P=some (.tbl (cK lp.line lp.col c'))/\H c'=some (c7 c' (X.env.qual++"<lambda>"))) ->
   s'.heap.get? f=some (kla_obj "<lambda>" (X.env.qual++"<lambda>") params body scope [] pm c' ctv)->s'.heap.CodeRec (.ref c') (X.env.qual++"<lambda>")->H' f=none->Q (.ref f) s') :
  wpAny (model X.prog X.w) X.A (eval (.Lambda params body scope lp) X.env) Q X.xe s:=by
 refine PySem.W.kla_eval hdf ?_;have kb:∀b o,X.base.get? b=some o->s.heap.get? b=some o:=λb o e=>(I.bs b o e).1
 rcases T with hP|⟨c',hP,hc'⟩
 .have gP:s.heap.get? P=some (tabObj #[]):=I.hok P _ hP;refine PySem.W.kla_makeFunction (c:=c) (P:=P) (ps:= #[]) hcl I.ok.glob (I.ok.mod.glob.keeps kb) hcode (vw B.hd kb) gP trivial rfl B.ne (vy B.bi kb) λc' ctv h' tk ext hsz hlt hrec hg=>?_
  have hn:H c'=none:=I.hok.fresh hsz;have cP:c'≠P:=λz=>by rw[z,hP] at hn;cases hn
  have k:∀b u,b≠P->s.heap.get? b=some u->(h'.push (kla_obj "<lambda>" (X.env.qual++"<lambda>") params body scope [] ((X.mg "__name__").getD Value.none) c' ctv)).get? b=some u:=λb u hb e=>Heap.get?_push_of_some _ (ext b u hb e)
  have hg2:(h'.push (kla_obj "<lambda>" (X.env.qual++"<lambda>") params body scope [] ((X.mg "__name__").getD Value.none) c' ctv)).get? P=some (tabObj (#[]++cK lp.line lp.col c')):=Heap.get?_push_of_some _ hg;have hr2:(h'.push (kla_obj "<lambda>" (X.env.qual++"<lambda>") params body scope [] ((X.mg "__name__").getD Value.none) c' ctv)).CodeRec (.ref c') (X.env.qual++"<lambda>"):=by
   obtain⟨d,o,vs,t,e,g1,g2,g3⟩:=hrec;exact⟨d,o,vs,t,e,Heap.get?_push_of_some _ g1,g2,g3⟩
  have I':=I.un (t':=tk) (Un.grow (q:=X.env.qual++"<lambda>") hP k ⟨_,hg2⟩ hsz hn) (I.hok.grow hP k hn hg2 hr2);refine q _ _ h'.objs.size c' _ ctv I' (.inl ⟨hP,hn,by simp⟩) (Heap.get?_push_size _ rfl) hr2 ?_;have hPl:P < s.heap.objs.size:=Heap.lt_size gP;rw[zy (Nat.ne_of_gt (Nat.lt_trans (Nat.lt_of_lt_of_le hPl hsz) hlt)),zy (Nat.ne_of_gt hlt)];exact I.hok.fresh (Nat.le_of_lt (Nat.lt_of_le_of_lt hsz hlt))
 .have gP:s.heap.get? P=some (tabObj (cK lp.line lp.col c')):=I.hok P _ hP;refine PySem.W.kla_makeFunctionHit (c:=c) (P:=P) (ps:=cK lp.line lp.col c') hcl I.ok.glob (I.ok.mod.glob.keeps kb) hcode (vw B.hd kb) gP (Gn _ _) (Go _ _) (vy B.bi kb) λctv h' tk ext hsz=>?_
  have k:∀b u,s.heap.get? b=some u->(h'.push (kla_obj "<lambda>" (X.env.qual++"<lambda>") params body scope [] ((X.mg "__name__").getD Value.none) c' ctv)).get? b=some u:=λb u e=>Heap.get?_push_of_some _ (ext b u e)
  have hrec:s.heap.CodeRec (.ref c') (X.env.qual++"<lambda>"):=(I.hok c' _ hc').1;have hr2:(h'.push (kla_obj "<lambda>" (X.env.qual++"<lambda>") params body scope [] ((X.mg "__name__").getD Value.none) c' ctv)).CodeRec (.ref c') (X.env.qual++"<lambda>"):=by
   obtain⟨d,o,vs,t,e,g1,g2,g3⟩:=hrec;exact⟨d,o,vs,t,e,k _ _ g1,g2,g3⟩
  exact q _ _ h'.objs.size c' _ ctv (I.kept (t':=tk) k) (.inr ⟨rfl,hP,hc'⟩) (Heap.get?_push_size _ rfl) hr2 (I.hok.fresh hsz)
end
def sAt(zs:List Str)(i j:Nat):Bool:=sLt (zs.getD i Str.empty) (zs.getD j Str.empty)
theorem Gr(zs:List Str):Ord (sAt zs) where
 as:=λ_ _ h=>uZ h
 tr:=λ_ _ _ h h'=>u3 h h'
section
variable{s:Shared}
def vz(prog:Program)(w:World)(A:Around)(s:Shared)(h0:Heap)(f:Addr)(v:Value)(z:Str):Prop:=∀(h1:Heap) (t1:Nat),Kept h0 h1->∀(C:Value->Shared->Prop),
 (∀h' t' tz,(∀b o,h1.get? b=some o->h'.get? b=some o)->C (.str z tz) {s with heap:=h',toks:=t'})->∀E',wpAny (model prog w) A (call (.ref f) [v]) C E' {s with heap:=h1,toks:=t1}
def vA(zs:List Str)(ks:List Value):Prop:=∀j,j < ks.length->∃tz,ks[j]? = some (.str (zs.getD j Str.empty) tz)
theorem vB{kS:Addr}{b0:Nat}{st:SortSt}{ks:List Value}{p:Array Nat}{e:Nat}{Q:PySem.Fin->Shared->Prop}(hs:Array.map (λx=>x.2) (arrOf st)=(p.toList.map λi=>vs.getD i Value.none).toArray)(hf:failedOf st=none)(hz:p.size<=64)(hk:ks.length<=64)
  (g1:s.heap.get? a=some (seqObj "list" #[] b0))(g2:s.heap.get? kS=some (seqObj "list" ks.toArray e))(ne:kS≠a)
  (q:∀h' n',(∀b,b≠kS->b≠a->h'.get? b=s.heap.get? b)->h'.get? a=some (seqObj "list" (p.toList.map λi=>vs.getD i Value.none).toArray n')->Q (.done (.ret .none)) {s with heap:=h'}) :
  wpAny (model prog w) A (ksk_tail a false b0 (.ref kS) st) Q E s:=by
 unfold ksk_tail;rw[hs];dsimp only;refine wpAny_bind (listUpdate_at g2 rfl ?_ (by rw[List.size_toArray,sizeLine_eq];omega) (Nat.zero_le _));refine wpAny_bind (wpAny_letGo ?_);have g3:(s.heap.update kS (Obj.mapSeq λ_=>(#[]:Array Value))).get? a=some (seqObj "list" #[] b0):=by
  rw[Heap.get?_update_ne _ _ _ _ (Ne.symm ne)];exact g1
 refine wpAny_bind (seqEpoch_at g3 rfl ?_);refine wpAny_bind (listUpdate_at g3 rfl ?_ (Nat.zero_le _) (by rw[if_neg (by decide),List.size_toArray,List.length_map,Array.length_toList,sizeLine_eq];omega));rw[hf];simp only[bne_self_eq_false,Bool.false_eq_true,if_false];have g4:=get?_update_seq g3 (λ_=>(p.toList.map λi=>vs.getD i Value.none).toArray);exact wpAny_pure (q _ _ (λb b1 b2=>by rw[Heap.get?_update_ne _ _ _ _ b2,Heap.get?_update_ne _ _ _ _ b1]) g4)
theorem Gs{kS:Addr}{b0:Nat}{ks:List Value}{zs:List Str}{e:Nat}{Q:PySem.Fin->Shared->Prop}(hkl:ks.length=vs.length)(hK:vA zs ks)(h64:vs.length < 64)
  (g1:s.heap.get? a=some (seqObj "list" #[] b0))(g2:s.heap.get? kS=some (seqObj "list" ks.toArray e))(ne:kS≠a)
  (q:∀(p:Array Nat) h' t' n',PN vs.length p->Srt (sAt zs) p vs.length->(∀b,b≠kS->b≠a->h'.get? b=s.heap.get? b)->h'.get? a=some (seqObj "list" (p.toList.map λi=>vs.getD i Value.none).toArray n')->Q (.done (.ret .none)) {s with heap:=h',toks:=t'}) :
  wpAny (model prog w) A (ksk_end a false vs.toArray b0 (.ref kS) ks.toArray) Q E s:=by
 unfold ksk_end;dsimp only;rw[if_neg (by decide)];have hsz:vs.toArray.size=vs.length:=by simp
 by_cases h2:vs.toArray.size < 2
 .rw[if_pos h2,if_pos h2];refine wpAny_bind (wpAny_pure ?_);rw[StateT.run_pure];refine wpAny_bind (wpAny_pure ?_);dsimp only;have hl2:vs.length < 2:=by rw[hsz] at h2;exact h2
  refine vB (p:=(List.range vs.length).toArray) (vs:=vs) (ks:=ks) (e:=e) ?_ rfl (by rw[List.size_toArray,List.length_range];omega) (by omega) g1 g2 ne λh' n' c1 c2=>q _ h' s.toks n' (by show List.Perm _ _;rw[List.toList_toArray]) (λi j hij hj=>by exfalso;omega) c1 c2
  apply Array.toList_inj.mp;show(((if false=true then(ks.toArray.zip vs.toArray).reverse else ks.toArray.zip vs.toArray)).map (·.2)).toList=_;rw[if_neg (by decide)];match vs,ks,hkl,hl2 with
  | [],[],_,_=>simp
  | [v],[k],_,_=>simp
 .rw[if_neg h2,if_neg h2];have hl2:2<=vs.length:=by rw[hsz] at h2;omega
  refine wpAny_bind (PySem.W.kas_kind (T:= .type "str") (by omega) (λv hv=>?_) (by decide) (by decide) ?_)
  .obtain⟨j,hj,rfl⟩:=List.getElem_of_mem hv;obtain⟨tz,e1⟩:=hK j hj;rw[List.getElem?_eq_getElem hj] at e1;rw[Option.some.inj e1];exact .now
  .have askQ:∀i j (C:Bool->Shared->Prop) s',i < vs.length->j < vs.length->i≠j->s'=s->(∀s'',s''=s->C (sAt zs i j) s'')->kas_ask prog w A oneType' ks i j C s':=λi j C s' hi hj _ es hC=>by
    subst es;obtain⟨ti,e1⟩:=hK i (by omega);obtain⟨tj,e2⟩:=hK j (by omega);unfold kas_ask;have f1:ks.getD i Value.none= .str (zs.getD i Str.empty) ti:=by rw[List.getD_eq_getElem?_getD,e1];rfl
    have f2:ks.getD j Value.none= .str (zs.getD j Str.empty) tj:=by rw[List.getD_eq_getElem?_getD,e2];rfl
    rw[f1,f2];exact PySem.W.kas_lt_str (hC _ rfl)
   have ask:(kas_sort vs.length).kasWp (kas_ask prog w A oneType' ks) (λp s'=>s'=s/\PN vs.length p/\Srt (sAt zs) p vs.length) s :=
    nQ (I:=λs'=>s'=s) askQ (λp s' hp e=>⟨e,hp.1,hp.2⟩) _ _ (uW (Gr zs) (n:=vs.length) (by omega)) rfl
   refine wpAny_bind (wpAny_mono (PySem.W.kat_run (vs:=vs) (ks:=ks) (Q:=λst' s'=>∃p:Array Nat,p.size=vs.length/\arrOf st'=p.map (PySem.W.kas_item (ks.toArray.zip vs.toArray))/\failedOf st'=none/\(s'=s/\PN vs.length p/\Srt (sAt zs) p vs.length))
    hkl hl2 h64 (λp' st' s' a1 a2 a3 a4=>⟨p',a1,a2,a3,a4⟩) ask) ?_ λ_ _ e=>e)
   rintro⟨⟨⟩,st'⟩ s' ⟨p,hpz,har,hf,rfl,hp,hs⟩;dsimp only;exact vB (vs:=vs) (ks:=ks) (PySem.W.kat_snds hkl har) hf (by omega) (by omega) g1 g2 ne λh' n' c1 c2=>q _ h' s'.toks n' hp hs c1 c2
theorem Gu{zs:List Str}{n:Nat}{P:PySem.Fin->Shared->Prop}(ho:s.heap.get? a=some (seqObj "list" vs.toArray n))
  (k0:Kept h0 s.heap)(ha0:h0.get? a=none)(h64:vs.length < 64)(hzl:zs.length=vs.length)
  (key:∀(i:Nat) v z,vs[i]? = some v->zs[i]? = some z->vz prog w A s h0 f v z)
  (h:∀(p:Array Nat) (h':Heap) (t' n':Nat),PN vs.length p->Srt (sAt zs) p vs.length->Kept h0 h'->h'.get? a=some (seqObj "list" (p.toList.map λi=>vs.getD i .none).toArray n')->P (.done (.ret .none)) {s with heap:=h',toks:=t'}) :
  wpAny (model prog w) A (ksk_tree a (.ref f) false) P E s:=by
 unfold ksk_tree;have ha:a < s.heap.objs.size:=Heap.lt_size ho;refine wpAny_bind (listItems_at ho rfl ?_);refine wpAny_bind (listUpdate_at ho rfl ?_ (by rw[List.size_toArray,sizeLine_eq];omega) (Nat.zero_le _));obtain⟨e1,ho1⟩:∃e1,(s.heap.update a (Obj.mapSeq λ_=>(#[]:Array Value))).get? a=some (seqObj "list" #[] e1):=⟨_,get?_update_seq ho (λ_=> #[])⟩;refine wpAny_bind (seqEpoch_at ho1 rfl ?_);refine wpAny_bind (wpAny_newTuple ?_ (by show vs.length<=_;rw[sizeLine_eq];omega));refine wpAny_bind (wpAny_newList ?_ (Nat.zero_le _));refine wpAny_holding ?_;have ho6:(((s.heap.update a (Obj.mapSeq λ_=>(#[]:Array Value))).push (seqObj "tuple" vs.toArray 0)).push (seqObj "list" #[] 0)).get? a=some (seqObj "list" #[] e1):=by
  rw[Heap.get?_push_ne _ _ _ (by rw[size_push',Heap.size_update];exact Nat.ne_of_lt (Nat.lt_succ_of_lt ha)),Heap.get?_push_ne _ _ _ (by rw[Heap.size_update];exact Nat.ne_of_lt ha)];exact ho1
 have kk:Kept h0 (((s.heap.update a (Obj.mapSeq λ_=>(#[]:Array Value))).push (seqObj "tuple" vs.toArray 0)).push (seqObj "list" #[] 0)):=λb o e=>by
  refine Heap.get?_push_of_some _ (Heap.get?_push_of_some _ ?_);have hb:b≠a:=λq=>by rw[q,ha0] at e;cases e
  rw[Heap.get?_update_ne _ _ _ _ hb];exact k0 b o e
 show wpAny (model prog w) A _ P E {s with heap:=((s.heap.update a (Obj.mapSeq λ_=>(#[]:Array Value))).push (seqObj "tuple" vs.toArray 0)).push (seqObj "list" #[] 0)};generalize hg7:((s.heap.update a (Obj.mapSeq λ_=>(#[]:Array Value))).push (seqObj "tuple" vs.toArray 0))=g7 at ho6 kk ⊢
 have hks:(g7.push (seqObj "list" #[] 0)).get? g7.objs.size=some (seqObj "list" #[] 0):=Heap.get?_push_size _ rfl;have s7:g7.objs.size=s.heap.objs.size+1:=by rw[<- hg7,size_push',Heap.size_update]
 have kS0:h0.get? g7.objs.size=none:=by
  cases z:h0.get? g7.objs.size with
  |none=>rfl
  |some o =>
   have:=Heap.lt_size (k0 _ _ z);rw[s7] at this;exact absurd this (Nat.not_lt.mpr (Nat.le_succ _))
 have kSa:g7.objs.size≠a:=by
  rw[s7];exact Nat.ne_of_gt (Nat.lt_succ_of_lt ha)
 generalize g7.push (seqObj "list" #[] 0)=g at ho6 kk hks ⊢
 generalize g7.objs.size=kS at hks kS0 kSa ⊢
 unfold ksk_rest;refine wpAny_bind (wpAny_rule ?_);rw[List.forIn_toArray];refine wpAny_bind (wpAny_forIn_list _ (λrest _ s'=>∃(h1:Heap) (t1:Nat) (ks:List Value) (e:Nat),s'={s with heap:=h1,toks:=t1}/\Kept h0 h1/\h1.get? a=some (seqObj "list" #[] e1)/\h1.get? kS=some (seqObj "list" ks.toArray e)/\rest=vs.drop ks.length/\ks.length<=vs.length/\vA zs ks) _ ?_ ?_ vs PUnit.unit ⟨g,s.toks,[],0,rfl,kk,ho6,hks,by simp,Nat.zero_le _,λj hj=>absurd hj (Nat.not_lt_zero _)⟩)
 .rintro x rest _ s' ⟨h1,t1,ks,e,rfl,k1,g1,g2,hr,hl,hK⟩;have hx:vs[ks.length]? = some x:=by
   have:=congrArg List.head? hr;rw[List.head?_cons,List.head?_drop] at this;exact this.symm
  have hlt:ks.length < vs.length:=(List.getElem?_eq_some_iff.mp hx).1;have hz:zs[ks.length]? = some (zs.getD ks.length Str.empty):=by
   rw[List.getD_eq_getElem?_getD,List.getElem?_eq_getElem (by omega)];rfl
  refine wpAny_bind (wpAny_attempt (key _ x _ hx hz h1 t1 k1 _ (λh' t' tz k2=>?_) _));dsimp only;refine wpAny_bind (listUpdate_at (k2 _ _ g2) rfl ?_ (by rw[List.size_toArray,sizeLine_eq];omega) (by show(ks.toArray.push _).size<=_;rw[Array.size_push,List.size_toArray,sizeLine_eq];omega));refine wpAny_pure ?_;obtain⟨e2,g3⟩:∃e2,(h'.update kS (Obj.mapSeq λxs=>xs.push (Value.str (zs.getD ks.length Str.empty) tz))).get? kS=some (seqObj "list" (ks++[Value.str (zs.getD ks.length Str.empty) tz]).toArray e2):=by
   have:=get?_update_seq (k2 _ _ g2) (λxs=>xs.push (Value.str (zs.getD ks.length Str.empty) tz));have ep:ks.toArray.push (Value.str (zs.getD ks.length Str.empty) tz)=(ks++[Value.str (zs.getD ks.length Str.empty) tz]).toArray:=by simp
   rw[ep] at this;exact⟨_,this⟩
  refine⟨_,t',ks++[Value.str (zs.getD ks.length Str.empty) tz],e2,rfl,λb o eb=>?_,?_,g3,?_,by rw[List.length_append];show ks.length+1<=_;omega,λj hj=>?_⟩
  .rw[Heap.get?_update_ne _ _ _ _ (λq=>by rw[q,kS0] at eb;cases eb)];exact k2 _ _ (k1 b o eb)
  .rw[Heap.get?_update_ne _ _ _ _ (Ne.symm kSa)];exact k2 _ _ g1
  .have:=congrArg List.tail hr;rw[List.tail_cons,List.tail_drop] at this;rw[List.length_append];exact this
  .by_cases q:j < ks.length
   .obtain⟨t,ht⟩:=hK j q;exact⟨t,by rw[List.getElem?_append_left q];exact ht⟩
   .rw[List.length_append] at hj;have:j=ks.length:=by simp at hj;omega
    subst this;exact⟨tz,by simp⟩
 .rintro _ s' ⟨h1,t1,ks,e,rfl,k1,g1,g2,hr,hl,hK⟩;have hkl:ks.length=vs.length:=by
   have:=congrArg List.length hr;rw[List.length_nil,List.length_drop] at this;omega
  refine wpAny_bind (listItems_at g2 rfl ?_);refine Gs (zs:=zs) hkl hK h64 g1 g2 kSa λp h' t' n' c1 c2 c3 c4=>h p h' t' n' c1 c2 (λb o eb=>?_) c4
  rw[c3 b (λq=>by rw[q,kS0] at eb;cases eb) (λq=>by rw[q,ha0] at eb;cases eb)];exact k1 b o eb
theorem Gv{zs:List Str}{Q:Value->Shared->Prop}(hl:s.heap.IsList l vs.toArray\/IsTup s.heap l vs.toArray)(h64:vs.length < 64)(hzl:zs.length=vs.length)
  (key:∀(i:Nat) v z,vs[i]? = some v->zs[i]? = some z->vz prog w A.in1.in1 s s.heap f v z)
  (h:∀(p:Array Nat) (h':Heap) (t' n':Nat),PN vs.length p->Srt (sAt zs) p vs.length->Kept s.heap h'->h'.get? (s.heap.objs.size+1)=some (seqObj "list" (p.toList.map λi=>vs.getD i .none).toArray n')->Q (.ref (s.heap.objs.size+1)) {s with heap:=h',toks:=t'}) :
  wpAny (model prog w) A (call (.builtin "sorted") [.ref l] [("key",.ref f)]) Q E s:=by
 refine call_function_entry_kw kind_sorted plain_sorted entry_sorted (ksk_s1 _ _) ?_;unfold Builtin.«sorted»;refine wpAny_bind (m:=checkCount "sorted" 1 1 _) (wpAny_pure ?_);have g:∀{A':Around} {E':Value->Shared->Prop} (R:List Value->Shared->Prop),R vs {s with heap:=(s.heap.push (seqObj "list" #[] 0)).update s.heap.objs.size (Obj.mapSeq (·++ vs.toArray))}->wpAny (model prog w) A' (collect (.ref l)) R E' s :=
  λR r=>hl.elim (λq=>collect_list q r (by rw[sizeLine_eq];omega)) λq=>uY q r (by rw[sizeLine_eq];omega)
 refine wpAny_bind (g _ ?_);refine wpAny_bind (wpAny_newList ?_ (by rw[sizeLine_eq];omega));have hsz:((s.heap.push (seqObj "list" #[] 0)).update s.heap.objs.size (Obj.mapSeq (·++ vs.toArray))).objs.size=s.heap.objs.size+1:=by
  rw[Heap.size_update,size_push']
 have hoL:(((s.heap.push (seqObj "list" #[] 0)).update s.heap.objs.size (Obj.mapSeq (·++ vs.toArray))).push (seqObj "list" vs.toArray 0)).get? (s.heap.objs.size+1)=some (seqObj "list" vs.toArray 0):=by
  rw[<- hsz];exact Heap.get?_push_size _ rfl
 have keep:Kept s.heap (((s.heap.push (seqObj "list" #[] 0)).update s.heap.objs.size (Obj.mapSeq (·++ vs.toArray))).push (seqObj "list" vs.toArray 0)):=λb o q=>by
  have hlt:b < s.heap.objs.size:=Heap.lt_size q;rw[Heap.get?_push_ne _ _ _ (by rw[hsz];exact Nat.ne_of_lt (Nat.lt_succ_of_lt hlt)),Heap.get?_update_ne _ _ _ _ (Nat.ne_of_lt hlt),Heap.get?_push_ne _ _ _ (Nat.ne_of_lt hlt)];exact q
 show wpAny _ _ _ _ _ {s with heap:=((s.heap.push (seqObj "list" #[] 0)).update s.heap.objs.size (Obj.mapSeq (·++ vs.toArray))).push (seqObj "list" vs.toArray 0)};rw[hsz];refine wpAny_bind (wpAny_holding (wpAny_call_entry_kw slot_list_sort ⟨_,hoL,rfl⟩ entry_list_sort ?_ (ksk_l1 _ _)));rw[ksk_t1];exact Gu (s:={s with heap:=((s.heap.push (seqObj "list" #[] 0)).update s.heap.objs.size (Obj.mapSeq (·++ vs.toArray))).push (seqObj "list" vs.toArray 0)}) (h0:=s.heap) hoL keep (Heap.get?_none_of_le (Nat.le_succ _)) h64 hzl key λp h' t' n' a1 a2 a3 a4=>⟨_,rfl,wpAny_pure ⟨_,rfl,h p h' t' n' a1 a2 a3 a4⟩⟩
end
def vC(K:Frag)(H:Hp)(fld:Str):List V->List Str->Prop:=Paired λx z=>∃a C dx fs,x= .ref a/\H a=some (.ins C dx fs)/\Cls K C/\bZ K C fld/\fs.lookup fld=some (.str z)
def om(K:Frag)(P:Addr)(ln cl:Nat)(qual fld:Str)(Q:VK):VK:=λx H1=>∃l xs zs,x= .ref l/\(SqL K H1 l xs\/SqT K H1 l xs)/\xs.length < 64/\vv P ln cl qual H1/\vC K H1 fld xs zs /\
 ∀(H2:Hp) (c':Addr),(H1 P=some (.tbl #[])/\H1 c'=none/\H2=upd (upd H1 c' (c7 c' qual)) P (.tbl (cK ln cl c'))\/H2=H1/\H1 P=some (.tbl (cK ln cl c'))/\H1 c'=some (c7 c' qual))->∀(p:Array Nat) r,PN xs.length p->Srt (sAt zs) p xs.length->H2 r=none->Q (.ref r) (upd H2 r (.lst (p.toList.map λi=>xs.getD i .non)))
def on(K:Frag)(P:Addr)(ln cl:Nat)(qual fld:Str)(te:TE):TE:=λσ H Q=>te σ H (om K P ln cl qual fld Q)
def vD(R:VK)(vs:List V)(H:Hp):Prop:=match vs with
 | [x]=>R x H
 |_=>False
theorem vE{α β:Type}{F:α->β->Prop}:∀{l1:List α} {l2:List β} {i:Nat} {x:α},Paired F l1 l2->l1[i]? = some x->∃y,l2[i]? = some y/\F x y
 |_,_,_,_,.nil,h=>by simp at h
 |_::_,_::_,0,_,.cons r _,h=>by simp at h;subst h;exact⟨_,rfl,r⟩
 |_::_,_::_,i+1,_,.cons _ t,h=>by simpa using vE (i:=i) t (by simpa using h)
theorem vF{xs:List V}{us:List Value}(r:Vals xs us):∀(is:List Nat),(∀i∈is,i < xs.length)->Vals (is.map λi=>xs.getD i .non) (is.map λi=>us.getD i .none)
 | [],_=> .nil
 |i::is,h=>by
  have hi:=h i (.head _);obtain⟨u,e1,e2⟩:=r.get (List.getElem?_eq_getElem hi);rw[List.map_cons,List.map_cons,List.getD_eq_getElem?_getD,List.getElem?_eq_getElem hi,List.getD_eq_getElem?_getD,e1];exact .cons e2 (vF r is λj hj=>h j (.tail _ hj))
section
variable{P c:Addr}{lp kp:Pos}{e:Expr}{k:Nat}
theorem Gw(hr:aS k X.A)(T:vt params body scope x fld)(hcode:X.env.code= .ref c)(B:eF X.base X.mg c P)(hcl:closureFor scope X.env=pure [])(hdf:defaultsOf params X.env=([],[]))(he:PE X e te)(hg:Gl X "sorted")(hm:X.mg "sorted"=none)
  (hs:starEach [e] X.env=(false,eval e X.env)::starEach [] X.env:=by rfl)(hst:backTo pos (starEach [e] X.env)=(false,eval e X.env)::backTo pos (starEach [] X.env):=by rfl)(hp:(backTo pos (starEach [e] X.env)).any (·.1)=false:=by rfl) :
  PE X (.Call (.Name "sorted" np) [e] [⟨some "key",.Lambda params body scope lp,kp⟩] pos) (on X.K P lp.line lp.col (X.env.qual++"<lambda>") fld te):=by
 intro pins s σ H Q I h;refine wpAny_Call_Name_kw (hU I hg hm (by rfl) ?_ (by decide) (by decide));refine PyProof.Rows.callWith_kw (thn (mw (t:=bJ) he mv hs pos pins s σ H (vD (om X.K P lp.line lp.col (X.env.qual++"<lambda>") fld Q)) I h) λus s1 ⟨vs,H1,I1,r1,q1⟩=>?_) hst hp;obtain⟨v,rfl,l,xs,zs,rfl,hl,h64,T1,hK,q⟩:∃v,vs=[v]/\om X.K P lp.line lp.col (X.env.qual++"<lambda>") fld Q v H1:=by
  unfold vD at q1;split at q1
  .exact⟨_,rfl,q1⟩
  .exact q1.elim
 obtain⟨u,rfl,ru⟩:=vals1 r1;obtain rfl:u= .ref l:=ru;show wpAny _ _ (evalAll [do let v<-eval (.Lambda params body scope lp) X.env;standAt pos;pure v]) _ _ s1;refine wpAny_evalAll_cons (wpAny_bind (Gq I1 hcode B hcl hdf T1 λs2 H2 f c' pm ctv I2 hH hf hc hfn=>?_));refine wpAny_bind (wpAny_standAt (wpAny_pure ?_));refine wpAny_evalAll_nil ?_;show wpAny (model X.prog X.w) X.A (call (.builtin "sorted") [.ref l] [("key",.ref f)]) (EP X pins σ Q) X.xe s2;have keep2:∀b o,(∀ps,o≠HO.tbl ps)->H1 b=some o->H2 b=some o:=λb o no e=>by
  rcases hH with⟨hP,hn,rfl⟩|⟨rfl,_,_⟩
  .have:b≠P:=λz=>by rw[z,hP] at e;cases e;exact no _ rfl
   rw[zy this,zy (zP e hn)];exact e
  .exact e
 have subR:∀b o,(∀ps,o≠HO.tbl ps)->Rd H1 b o->Rd H2 b o:=λb o no r=>r.elim (λe=> .inl (keep2 b o no e)) λ⟨ob,e⟩=> .inr ⟨ob,keep2 b _ (λ_ z=>by cases z) e⟩
 obtain⟨its,rv,hv⟩:∃its:List Value,Vals xs its/\(s2.heap.IsList l its.toArray\/IsTup s2.heap l its.toArray):=by
  rcases hl with hl|hl
  .obtain⟨its,r',pl,_⟩:=I2.list (xs:=xs) (a:=l) (hl.imp (subR _ _ λ_ z=>by cases z) id);exact⟨its,r',.inl pl.isList⟩
  .obtain⟨its,r',pl,_⟩:=I2.tuple (xs:=xs) (a:=l) (hl.imp (subR _ _ λ_ z=>by cases z) id);exact⟨its,r',.inr pl⟩
 have hzl:zs.length=its.length:=by rw[<- hK.length,rv.length]
 refine Gv (zs:=zs) hv (by rw[<- rv.length];exact h64) hzl (λi v z hv1 hz1=>?_) λp h' t' n' a1 a2 a3 a4=>?_
 .have hi:i < xs.length:=by rw[rv.length];exact(List.getElem?_eq_some_iff.mp hv1).1
  obtain⟨u,e1,e2⟩:=rv.get (List.getElem?_eq_getElem hi);rw[hv1] at e1;cases e1;obtain⟨z',e3,a,C,dx,fs,ex,ea,cl,na,lk⟩:=vE hK (List.getElem?_eq_getElem hi);rw[hz1] at e3;cases e3;rw[ex] at e2;obtain rfl:v= .ref a:=e2;intro h1 t1 k1 C' hC E';obtain⟨mA,O,rO,_,_,_⟩:=h_ I2.hok (keep2 _ _ (λ_ z=>by cases z) ea);obtain⟨uz,hu,⟨tz,rfl⟩⟩:=bx.some_of (v:= .str z) (o:=mA fld) (by rw[<- lk];exact rO fld);have kb:∀b o,X.base.get? b=some o->s2.heap.get? b=some o:=λb o e=>(I2.bs b o e).1
  have hd:=hr.dp;refine Gm (s:={s2 with heap:=h1,toks:=t1}) (K:=X.K) (dx:=dx) (C:=C) T (λb o e=>k1 b o (I2.kIn b o e)) ((I2.ok.mod.nolimit.keeps kb).keeps k1) (by show X.A.depth < _;omega) (k1 _ _ hf) ?_ ⟨k1 _ _ O.obj,O.ns.keeps k1,O.ne⟩ hu cl na λh' t' k2=>hC h' t' tz k2
  obtain⟨d,o,vs',t,e,g1,g2,g3⟩:=hc;exact⟨d,o,vs',t,e,k1 _ _ g1,g2,g3⟩
 .rw[<- rv.length] at a1 a2;have hfr:H2 (s2.heap.objs.size+1)=none:=I2.hok.fresh (Nat.le_succ _);refine⟨.ref (s2.heap.objs.size+1),_,I2.laid (a:=s2.heap.objs.size+1) (o:= .lst (p.toList.map λi=>xs.getD i .non)) (t':=t') a3 (Nat.le_succ _) ⟨?_,_,n',?_,a4⟩,rfl,q H2 c' hH p _ a1 a2 hfr⟩
  .rw[List.length_map,Array.length_toList,a1.sz];exact Nat.le_trans (Nat.le_of_lt h64) (by decide)
  .exact vF rv _ λi hi=>List.mem_range.mp (a1.mem_iff.mp hi)
end
theorem Gx{mb:Str->Option Value}{k:Nat}{fa c P:Addr}{s₁:Shared}{ns:List Int}
  (KX:K.In s₁.heap)(hns:s₁.heap.Ns mainGlobals mg)(hb:s₁.heap.Ns builtinsNs mb)(hbb:∀x:Str,x≠"__name__"->mb x=bootBuiltins x)(hlim:s₁.heap.NoLimit)(hg:s₁.gens= #[])
  (hcd:CodeHd s₁.heap c P)(hP:s₁.heap.get? P=some (tabObj #[]))(hKP:K.lookup P=none)(hbm:∃bm ob,mg "__builtins__"=some (.ref bm)/\bm≠builtinsNs/\s₁.heap.get? bm=some ob/\ob.cls= .type "module"/\ob.dict=some builtinsNs/\ob.data= .plain)(hst:∃mc,s₁.heap.Ns cStatics mc)
  (ha:s₁.heap.get? a=some {cls:= .type "list",data:= .seq vs.toArray})(hi:IntsAre vs ns)(hl:ns.length<=sizeLine)(hr:aS k callerA)
  (F:∀base:Heap,K.In base->base.Ns mainGlobals mg->eF base mg c P->zU Pr w K mg base CX k fa fd [x] sp)(hbind:∀(s:Shared) (u:Value),BindsTo s fd ⟨[u],[]⟩ [(x,u)])
  (hsp:∀H:Hp,H P=some (.tbl #[])->SqL K H a (ns.map V.int)->sp [.ref a] H (λv _=>v= .bl true) λ_ _ _=>False)
  (hCX:∀H e s',CX [] H s₁ (λ_ _ _=>False) e s'->False) :
  codeAny (model Pr w) callerA (.call (.ref fa) ⟨[.ref a],[]⟩) (λr s'=>r= .ok (.ret (.bool true))/\OldK s₁.heap s'.heap/\s'.os=s₁.os/\AllBare s'.gens) s₁:=by
 have rv:=rh hi;have lenV:=hi.length;have aP:a≠P:=λz=>by rw[z,hP] at ha;cases ha
 have core:∀H:Hp,H P=some (.tbl #[])->(∀b,H b=none\/b=P\/(b=a/\∃o xs,H b=some (.frz o (.lst xs))))->SqL K H a (ns.map V.int)->HOk Pr w H s₁.heap->(H a≠none->K.lookup a=none) ->
   codeAny (model Pr w) callerA (.call (.ref fa) ⟨[.ref a],[]⟩) (λr s'=>r= .ok (.ret (.bool true))/\OldK s₁.heap s'.heap/\s'.os=s₁.os/\AllBare s'.gens) s₁:=by
  intro H hT hO hS hok hK;have base_of:∀{b:Addr} {o:Obj},s₁.heap.get? b=some o->H b=none->(dh s₁.heap H).get? b=some o:=λe n=>Ax e n
  have noT:∀{b:Addr} {o:Obj},s₁.heap.get? b=some o->(∀ps,o≠tabObj ps)->(∀v:List Value,o≠{cls:= .type "list",data:= .seq v.toArray})->H b=none:=λ{b o} e n1 n2=>by
   rcases hO b with z|z|⟨z,_⟩
   .exact z
   .rw[z,hP] at e;cases e;exact absurd rfl (n1 _)
   .rw[z,ha] at e;cases e;exact absurd rfl (n2 _)
  have noA:∀{b:Addr} {o:Obj} {es:Array DictEntry} {ep:Nat},s₁.heap.get? b=some o->o.data= .dict es ep->H b=none:=λ{b o es ep} e d=>noT e (λps z=>by subst z;cases d) (λv z=>by subst z;cases d)
  have nsK:∀{b:Addr} {m:Str->Option Value},s₁.heap.Ns b m->(dh s₁.heap H).Ns b m:=λ{b m} ⟨o,es,ep,e,d,r⟩=>⟨o,es,ep,base_of e (noA e d),d,r⟩
  have hKb:K.In (dh s₁.heap H):=λb o e=>base_of (KX b o e) (by
   rcases hO b with z|z|⟨z,o',xs,q⟩
   .exact z
   .rw[z,hKP] at e;cases e
   .rw[z] at e q;rw[hK (by rw[q];simp)] at e;cases e)
  have hM:Mod K mg (dh s₁.heap H):=⟨hKb,nsK hns,⟨mb,nsK hb,hbb⟩,let ⟨mc,h1,h2⟩:=hlim;⟨mc,nsK h1,h2⟩⟩;have nP:mainGlobals≠P:=λz=>by
   obtain⟨o,es,ep,e,d,_⟩:=hns;rw[z,hP] at e;cases e;cases d
  have hL:eF (dh s₁.heap H) mg c P:=by
   refine⟨?_,?_,nP⟩
   .obtain⟨o,vs',file,tf,flags,tg,inF,text,tt,e,e1,e2,r⟩:=hcd;exact⟨o,vs',file,tf,flags,tg,inF,text,tt,base_of e (noT e (λps z=>by rw[z] at e1;cases e1) (λv z=>by rw[z] at e1;exact absurd (Value.type.inj e1) (by decide))),e1,e2,r⟩
   .obtain⟨bm,ob,b1,b2,b3,b4,b5,b6⟩:=hbm;have hbn:H bm=none:=noT b3 (λps z=>by rw[z] at b4;cases b4) (λv z=>by rw[z] at b4;exact absurd (Value.type.inj b4) (by decide));refine⟨bm,ob,b1,b2,λz=>?_,λz=>?_,base_of b3 hbn,b4,b5,b6⟩
    .obtain⟨o,es,ep,e,d,_⟩:=hns;rw[<- z,b3] at e;cases e;rw[b6] at d;cases d
    .rw[z,hT] at hbn;cases hbn
  have e0:fu Pr w K mg (dh s₁.heap H) callerA [] s₁ H:=⟨rfl,hM,λb o e=>Ay e,Nat.le_of_eq (Aw _ _),trivial,λb hb=>absurd (show b∈([]:List Addr) from hb) (by simp),hok,.of_eq hg⟩;refine codeAny_mono ((F _ hKb (nsK hns) hL).run callerA [] s₁ H ⟨[.ref a],[]⟩ [.ref a] [.ref a] _ _ hr e0 (hbind s₁ (.ref a)) (.cons rfl .nil) (hsp H hT hS)) λr s' h=>?_
  cases r with
  |error e=>exact(hCX H e s' h).elim
  |ok fl =>
   cases fl with
   |next=>exact False.elim h
   |brk=>exact False.elim h
   |cont=>exact False.elim h
   |ret u =>
    obtain⟨v,H',os,bare,un,hok',r',q⟩:=h;have q':v= .bl true:=q;subst q';obtain rfl:u=Value.bool true:=r';have kp:∀b o,b≠P->s₁.heap.get? b=some o->s'.heap.get? b=some o:=λb o bP e=>by
     cases q:H b with
     |none=>exact un.keep b o e q (by intro z;exact absurd (show b∈([]:List Addr) from z) (by simp)) (by simp)
     |some u =>
      rcases hO b with z|z|⟨_,ob,xs,z⟩
      .rw[q] at z;cases z
      .exact absurd z bP
      .have z2:=un.frzs b ob _ z;obtain⟨e1,_⟩:=hok b _ z;obtain⟨e2,_⟩:=hok' b _ z2;rw[e] at e1;cases e1;exact e2
    obtain⟨more,hm⟩:=un.tbls P _ hT;have hP':s'.heap.get? P=some (tabObj (#[]++more)):=hok' P _ hm;obtain⟨o,vs',file,tf,flags,tg,inF,text,tt,e,e1,e2,e3,_⟩:=hcd;have cP:c≠P:=λz=>by rw[z,hP] at e;cases e;cases e1
    refine⟨rfl,(OldK.refl s₁.heap).step_table (c₀:=c) (c:=c) (P:=P) (ps₀:= #[]) (ps:= #[]) (more:=more) ⟨⟨o,vs',e,e1,e2,e3⟩,hP⟩ ⟨⟨o,vs',e,e1,e2,e3⟩,hP⟩ ⟨⟨o,vs',kp c o cP e,e1,e2,e3⟩,hP'⟩ (λb o bP e=>kp b o bP e) (λz=>?_),os,bare⟩;obtain⟨mc,o,es,ep,e,d,_⟩:=hst;rw[<- z,hP] at e;cases e;cases d
 cases hk:K.lookup a with
 |some o =>
  have e:=KX a o hk;rw[ha] at e;cases e;refine core (λb=>if b=P then some (.tbl #[]) else none) (if_pos rfl) (λb=>?_) (.inr ⟨_,vs.toArray,_,hk,rfl,rfl,rfl,by rw[List.size_toArray,lenV];exact hl,by simpa using rv⟩) (λb u z=>?_) (λz=>?_)
  .by_cases hb:b=P
   .exact .inr (.inl hb)
   .exact .inl (if_neg hb)
  .by_cases hb:b=P
   .have z':=(if_pos hb).symm.trans z;cases z';subst hb;exact hP
   .have z':=(if_neg hb).symm.trans z;cases z'
  .exact absurd (if_neg aP) z
 |none =>
  refine core (λb=>if b=P then some (.tbl #[]) else if b=a then some (.frz {cls:= .type "list",data:= .seq vs.toArray} (.lst (ns.map V.int))) else none) (if_pos rfl) (λb=>?_) (.inl (.inr ⟨{cls:= .type "list",data:= .seq vs.toArray},by show(if a=P then some (HO.tbl #[]) else if a=a then _ else none)=_;rw[if_neg aP,if_pos rfl]⟩)) (λb u z=>?_) λ_=>hk
  .by_cases hb:b=P
   .exact .inr (.inl hb)
   .by_cases hb2:b=a
    .exact .inr (.inr ⟨hb2,_,_,(if_neg hb).trans (if_pos hb2)⟩)
    .exact .inl ((if_neg hb).trans (if_neg hb2))
  .by_cases hb:b=P
   .have z':=(if_pos hb).symm.trans z;cases z';subst hb;exact hP
   .by_cases hb2:b=a
    .have z':some _=some u:=((if_neg hb).trans (if_pos hb2)).symm.trans z;cases z';subst hb2;exact⟨ha,by rw[List.length_map];exact hl,vs,_,rv,ha⟩
    .have z':none=some u:=((if_neg hb).trans (if_neg hb2)).symm.trans z;cases z'
theorem Gy{l:PySem.W.OpenLaw}{n k:Nat}{q:Program}{loose:List Str}{XP:(Str->Option Value)->Heap->Prop}{YP:World->Heap->Prop}{d dL:DefRec}{K:Params->Frag}{CX:World->CXT}{sp:World->Sp}{xL:Str}{c P:Addr}
  (hn:l.most=some n)(hn2:n<=sizeLine)(hdf:d.params.defaults=[])(hr:aS k callerA)
  (hY:∀(w:World) (h:Heap),YP w h->(K w.params).In h)(hf:List.find? (λe=>e.name==xL) (recsOf q)=some dL)(hT:∀w:World,tabIn (K w.params) xL=some (c,P))(hKP:∀w:World,(K w.params).lookup P=none)
  (F:∀(w:World) (mg:Str->Option Value) (fa:Addr) (h:Heap),(K w.params).In h->h.Ns mainGlobals mg->mg d.name=some (.ref fa) ->
   ∃fd:FuncData,(∀(s:Shared) (u:Value),BindsTo s fd ⟨[u],[]⟩ [(x,u)]) /\
    ∀base:Heap,(K w.params).In base->base.Ns mainGlobals mg->eF base mg c P->zU l.prog w (K w.params) mg base (CX w) k fa fd [x] (sp w))
  (hsp:∀(w:World) (H:Hp) (a:Addr) (ns:List Int),ns.length<=n->H P=some (.tbl #[])->SqL (K w.params) H a (ns.map V.int)->sp w [.ref a] H (λv _=>v= .bl true) λ_ _ _=>False)
  (hCX:∀(w:World) (H:Hp) (s:Shared) (e:Value) (s':Shared),CX w [] H s (λ_ _ _=>False) e s'->False) :
  PySem.W.WalkO q loose XP YP l.row.toRowW d [] (λf vs=>PySem.call f vs):=by
 refine Att.Cv hn hdf λw s₀ s₁ mg mb fa o pm cd doc a vs ns G Y ho hd hcd hmg hobj hints hlen hg=>?_
 have KX:=hY w _ Y;obtain⟨fd,hb,hF⟩:=F w mg fa _ KX G.T.g hmg;obtain⟨t1,t2⟩:=PySem.W.tab_of G.T KX hf (hT w);obtain⟨mc,hmc,_⟩:=G.T.nodigits;exact Gx KX G.T.g G.T.b G.T.builtins G.T.nolimit hg t1 t2 (hKP w) G.T.bmain ⟨mc,hmc⟩ hobj hints (Nat.le_trans hlen hn2) hr hF hb (λH hO hS=>hsp w H a ns hlen hO hS) λH e s'=>hCX w H s₁ e s'
class oo(K:Frag)(x:Str)(P:Addr):Prop where
 at_:∃c,tabIn K x=some (c,P)
def oq(tab:Tab)(fld:Str):List D->List Str->Prop:=Paired λd z=>∃c ns vs,d= .obj c ns vs/\cg tab c fld=true/\(ns.zip vs).lookup fld=some (.str z)
def ot(tab:Tab)(x:Str)(ln cl:Nat)(q fld:Str)(w:DE):DE:=λρ μ Q=>w ρ μ λd μ1=>μ1 0=some (.lam 0 x ln cl q)/\∃ds zs,aY μ1 d=some ds/\ds.length < 64/\oq tab fld ds zs/\∀p,PN ds.length p->Srt (sAt zs) p ds.length->Q (.lst (p.toList.map λi=>ds.getD i .non)) μ1
section
variable{W:Wd}{tab:Tab}
theorem Gz{k:Nat}{c:Ct}(h:μ k=some c):zR μ k c=μ:=by
 funext j;by_cases e:j=k
 .subst e;rw[zF,h]
 .rw[zq e]
theorem vG[t:TabOk K tab](s:cX W.F H):∀{ds:List D} {xs:List V} {zs:List Str},zA K W ds xs->oq tab fld ds zs->vC K H fld xs zs
 | [],xs,_,r,.nil=>by rw[r.nil'];exact .nil
 |d::ds,xs,_,r,.cons ⟨c,ns,vs,ed,hi,hl⟩ tl=>by
  obtain⟨x,ys,rfl,q,z⟩:=r.uncons;subst ed;unfold Rep at q;obtain⟨C,a,dx,us,hc,rfl,ea,hn,zz⟩:=q;obtain⟨v,hv,qv⟩:=zz.lookup hl;rw[qv.s'] at hv;obtain⟨c1,c2⟩:=t.run c fld C hi hc;exact .cons ⟨a,C,dx,_,rfl,s _ _ ea,c1,c2,hv⟩ (vG s z tl)
theorem vH{ds:List D}{xs:List V}(r:zA K W ds xs):∀(is:List Nat),(∀i∈is,i < ds.length)->zA K W (is.map λi=>ds.getD i .non) (is.map λi=>xs.getD i .non)
 | [],_=> .nil
 |i::is,h=>by
  have hi:=h i (.head _);obtain⟨u,e1,e2⟩:=r.get (List.getElem?_eq_getElem hi);rw[List.map_cons,List.map_cons,List.getD_eq_getElem?_getD,List.getElem?_eq_getElem hi,List.getD_eq_getElem?_getD,e1];exact .cons e2 (vH r is λj hj=>h j (.tail _ hj))
instance{P:Addr}[t:TabOk K tab][lm:oo K x P][a:zV K fl te we]:zV K fl (on K P ln cl q fld te) (ot tab x ln cl q fld we):=⟨λ{W ρ μ σ H Q Q'} r e h k=>a.run r e h λW1 d μ1 v H1 le1 r1 q1 h1=>by
 obtain⟨hL,ds,zs,hd,hz,hK,hq⟩:=h1;obtain⟨c0,hc0⟩:=lm.at_;obtain⟨a0,hb,hF,c,P',ps,e1,e2,e3,e4⟩:=r1.cel 0 _ hL;rw[hc0] at e1;cases e1;rw[hb] at e2;cases e2;obtain⟨l0,xs,rfl,hl,zz⟩:=fH r1 q1 hd;have fin:∀{W2:Wd} {H2:Hp},W1.le W2->Rel K fl W2 μ1 H2->∀(p:Array Nat) r,PN xs.length p->Srt (sAt zs) p xs.length->H2 r=none->Q' (.ref r) (upd H2 r (.lst (p.toList.map λi=>xs.getD i .non))):=λ{W2 H2} le2 r2 p r pn sr hr=>by
  obtain⟨r3,le3⟩:=r2.newF (o:= .lst (p.toList.map λi=>xs.getD i .non)) hr;rw[zz.length] at pn sr;exact k _ _ μ1 _ _ (le1.trans (le2.trans le3)) r3 (.lst zB ((vH zz _ λi hi=>List.mem_range.mp (pn.mem_iff.mp hi)).mono (le2.trans le3))) (hq p pn sr)
 refine⟨l0,xs,zs,rfl,hl,by rw[zz.length];exact hz,?_,vG r1.sub zz hK,λH2 c' hH=>?_⟩
 .rcases e4 with rfl|⟨c',rfl,hc'⟩
  .exact .inl e3
  .exact .inr ⟨c',e3,r1.sub _ _ hc'⟩
 .rcases hH with⟨_,hn,rfl⟩|⟨rfl,_,_⟩
  .obtain⟨r2,le2⟩:=r1.newF (o:=c7 c' q) hn;have r3:=r2.setC (k:=0) (a:=P) (c':= .lam 0 x ln cl q) (o:= .tbl (cK ln cl c')) hL hb ⟨_,P,_,hc0,hb,rfl,.inr ⟨c',rfl,zB⟩⟩;rw[Gz hL] at r3;exact fin le2 r3
  .exact fin (.refl _) r1⟩
end
section
theorem Fun.okBL{k n:Nat}(dw:DS)(F:Fun K x qual st f fd)(S:zG N ps (zr st))(len:ps.length=n)
  (hbody:∀(cdv:Value) (A:Around) (outer:List Env) (s:Shared) (H:Hp) (E:XK),fd.code=cdv->aS k (A.deeper (envOfC qual (zr st) s.heap.objs.size f cdv)) ->
   ∃t,WSs (cz CX0 Pr w K mg base N qual (zr st) f cdv A outer s H E).nox (cD st) t/\∀fl,aV K fl t dw):zU Pr w K mg base CX0 (k+1) f fd ps (lift K (zO dw N n)):=by
 obtain⟨oc,od,kV,doc,pm,an,cdv,ct,osl,rfl,lk,hcd⟩:=F.ex;refine my lk hcd S (λvs H Q E h=>?_) λA outer s H vs Q E hr h=>?_
 .obtain⟨_,W,μ,ds,Q0,_,r,h,_⟩:=h;rw[r.length,h.1,len]
 .obtain⟨fl,W,μ,ds,Q0,rel,r,h,k⟩:=h;obtain⟨t,ht,sm⟩:=hbody cdv A outer s H E rfl hr;refine⟨t,ht.out.nox,(sm W).run (rel.floor (.refl W)) (.start r) h.2 ⟨λW' ρ μ σ H le rr ee hh=>?_,λ_ _ _ _ _ _ _ _ hh=>hh.elim,λ_ _ _ _ _ _ _ _ hh=>hh.elim,λW' d μ x H le rr ee hh=>?_⟩⟩
  .obtain⟨μ'',l,hh⟩:=hh;exact k W' .non μ'' _ H le ((rr.floor (rel.up.trans le)).less l) .n hh
  .obtain⟨μ'',l,hh⟩:=hh;exact k W' d μ'' x H le ((rr.floor (rel.up.trans le)).less l) ee hh
end
def vI(x:Str)(ln cl:Nat)(q:Str):DSp:=λds μ Q=>∃ns,ds=[.scr ns]/\ns.length<=63/\μ 0=some (.lam 0 x ln cl q)/\∀ μ',Q (.bl true) μ'
def kM(K:Frag)(P:Addr):Sp:=λvs H Q _=>∃(a:Addr) (ns:List Int),vs=[.ref a]/\SqL K H a (ns.map V.int)/\ns.length<=63/\H P=some (.tbl #[])/\∀H',Q (.bl true) H'
theorem GA{c P:Addr}(ht:tabIn K x=some (c,P))(vs:List V)(H:Hp)(Q:VK)(E:XK)(h:kM K P vs H Q E):lift K (vI x ln cl q) vs H Q E:=by
 obtain⟨a,ns,rfl,hs,hl,hP,hq⟩:=h;refine⟨⟨λ_=>none,λ_=>none⟩,⟨λk=>if k=0 then some P else none,λb=>if b=P then none else if b=a then H a else none⟩,λk=>if k=0 then some (.lam 0 x ln cl q) else none,[.scr ns],λd _=>d= .bl true,⟨λb o e=>?_,⟨1,λk hk=>if_neg (by omega)⟩,λk ct e=>?_,λk k' ct ct' y e e' _ _=>?_,⟨λ_ _ e=>(by cases e),λ_ _ e=>(by cases e)⟩⟩,.cons ?_ .nil,⟨ns,rfl,hl,rfl,λ_=>rfl⟩,λW' d μ' y H' _ _ r e=>?_⟩
 .have e':(if b=P then none else if b=a then H a else none)=some o:=e;by_cases h1:b=P
  .rw[if_pos h1] at e';cases e'
  .rw[if_neg h1] at e';by_cases hb:b=a
   .rw[if_pos hb] at e';rw[hb];exact e'
   .rw[if_neg hb] at e';cases e'
 .have e':(if k=0 then some (Ct.lam 0 x ln cl q) else none)=some ct:=e;by_cases hk:k=0
  .rw[if_pos hk] at e';cases e';subst hk;exact⟨P,rfl,by show(if P=P then none else _)=_;rw[if_pos rfl],c,P, #[],ht,rfl,hP,.inl rfl⟩
  .rw[if_neg hk] at e';cases e'
 .have f:∀{j:Nat} {z},(if j=0 then some (Ct.lam 0 x ln cl q) else none)=some z->j=0:=λ{j z} q=>by
   by_cases hj:j=0
   .exact hj
   .rw[if_neg hj] at q;cases q
  rw[f e,f e']
 .unfold Rep;refine⟨a,rfl,?_⟩;rcases hs with h|h
  .have aP:a≠P:=λz=>by
    rcases h with h|⟨o,h⟩
    .rw[z,hP] at h;cases h
    .rw[z,hP] at h;cases h
   refine .inl ?_;rcases h with h|⟨o,h⟩
   .exact .inl (by show(if a=P then none else if a=a then H a else none)=_;rw[if_neg aP,if_pos rfl];exact h)
   .exact .inr ⟨o,by show(if a=P then none else if a=a then H a else none)=_;rw[if_neg aP,if_pos rfl];exact h⟩
  .exact .inr h
 .subst e;rw[r.b'];exact hq H'
theorem GB{P c:Addr}{lp kp:Pos}{e:Expr}{k:Nat}(K:Frag)(B:eF X.base X.mg c P)(hcode:X.env.code= .ref c)(hr:aS k X.A)(he:WE X e te)(hg:Gl X "sorted")(hm:X.mg "sorted"=none)
  (hK:X.K=K:=by rfl)(hln:lp.line=ln:=by rfl)(hcl:lp.col=cl:=by rfl)(hqn:X.env.qual=qn++".<locals>.":=by rfl)(hq:qn++".<locals>."++"<lambda>"=q:=by decide+kernel)(hclo:closureFor scope X.env=pure []:=by rfl)(hdf:defaultsOf params X.env=([],[]):=by rfl)
  (ab:∀env:Env,attributeBase (.Name x p1) fld env (eval (.Name x p1) env)=eval (.Name x p1) env:=by intro _;rfl)(hk:scope.kind= .function:=by rfl)(hn:∀y∈scope.names,y.2≠ .cell:=by decide+kernel)(hx:scope.names.lookup x=some .local:=by rfl)(hco:scope.isCoroutine=false:=by rfl)(hgen:scope.isGenerator=false:=by rfl)(hd:(x==("__debug__":Str))=false:=by decide)
  (hb:∀(qual:Str) (pm cdv ctv u:Value),bindArgs (kla_fn "<lambda>" qual params (.Attribute (.Name x p1) fld p2) scope [] pm cdv ctv) ⟨[u],[]⟩=pure [(x,u)]:=by intro _ _ _ _ _;rfl)
  (hs:starEach [e] X.env=(false,eval e X.env)::starEach [] X.env:=by rfl)(hst:backTo pos (starEach [e] X.env)=(false,eval e X.env)::backTo pos (starEach [] X.env):=by rfl)(hp:(backTo pos (starEach [e] X.env)).any (·.1)=false:=by rfl) :
  WE X (.Call (.Name "sorted" np) [e] [⟨some "key",.Lambda params (.Attribute (.Name x p1) fld p2) scope lp,kp⟩] pos) (on K P ln cl q fld te):=by
 subst hK hln hcl hq;rw[<- hqn];exact⟨Gw hr ⟨⟨p1,p2,rfl⟩,ab,hk,hn,hx,hco,hgen,hd,hb⟩ hcode B hclo hdf he.out hg hm hs hst hp⟩
theorem ag{Q:List Str}{sc:Scope}(a:sc.kind= .function:=by rfl)(b:sc.isCoroutine=false:=by rfl)(c:sc.isGenerator=false:=by rfl)(d:N.Nodup:=by decide+kernel)(e:N.take Q.length=Q:=by rfl)
  (f:∀x∈Q,sc.names.lookup x=some .local\/sc.names.lookup x=some .cell:=by decide+kernel)(g:∀y∈sc.names,y.2≠ .free:=by decide+kernel):zG N Q sc:=⟨a,b,c,d,e,f,g⟩
section
variable{p:List Value->Prop}
theorem al0(h:p []):∀us,us.length=0->p us:=λus e=>match us,e with | [],_=>h
theorem alS{n:Nat}(h:∀a us,us.length=n->p (a::us)):∀us,us.length=n+1->p us:=λus e=>match us,e with|a::us,e=>h a us (Nat.succ.inj e)
theorem al1(h:∀a,p [a]):∀us,us.length=1->p us:=alS λa=>al0 (h a)
theorem al2(h:∀a b,p [a,b]):∀us,us.length=2->p us:=alS λa=>al1 (p:=λus=>p (a::us)) (h a)
theorem al3(h:∀a b c,p [a,b,c]):∀us,us.length=3->p us:=alS λa=>al2 (p:=λus=>p (a::us)) (h a)
theorem al4(h:∀a b c d,p [a,b,c,d]):∀us,us.length=4->p us:=alS λa=>al3 (p:=λus=>p (a::us)) (h a)
theorem al5(h:∀a b c d e,p [a,b,c,d,e]):∀us,us.length=5->p us:=alS λa=>al4 (p:=λus=>p (a::us)) (h a)
theorem al6(h:∀a b c d e f,p [a,b,c,d,e,f]):∀us,us.length=6->p us:=alS λa=>al5 (p:=λus=>p (a::us)) (h a)
theorem al7(h:∀a b c d e f g,p [a,b,c,d,e,f,g]):∀us,us.length=7->p us:=alS λa=>al6 (p:=λus=>p (a::us)) (h a)
theorem al8(h:∀a b c d e f g i,p [a,b,c,d,e,f,g,i]):∀us,us.length=8->p us:=alS λa=>al7 (p:=λus=>p (a::us)) (h a)
end
section
variable{m c:Str}{fs:List Str}
structure i_(K:Frag)(x:Str)(st:Stmt)(f:Addr)(fd:FuncData):Prop where
 at_:nsIn K mainGlobals x=some (some (.ref f))
 F:Fun K x x st f fd
structure av(K:Frag)(x:Str)(st:Stmt)(f:Addr)(fd:FuncData):Prop extends i_ K x st f fd where
 df:fd.defaults= .none
structure bX(K:Frag)(C:Addr)(x q:Str)(st:Stmt)(f:Addr)(fd:FuncData):Prop where
 at_:findIn K (.ref C) x=some (some (.ref f))
 fn:isFn K (.ref f)=true
 F:Fun K x q st f fd
structure kN(K:Frag)(c:Str)(C:Addr)(fs:List Str):Prop where
 at_:nsIn K mainGlobals c=some (some (.ref C))
 cl:Cls K C
 ms:makesIn K C=true
 kp:keepIn K (.ref C)=true
 na:∀f∈fs,bZ K C f
theorem e_{f:Str}(h:findIn K (.ref C) f=some none)(t:∀x∈fs,bZ K C x):∀x∈f::fs,bZ K C x:=List.forall_mem_cons.mpr ⟨h,t⟩
abbrev bw(K:Frag)(fd:FuncData)(ps ks:List Str)(n m:Nat)(pat:List Src)(cs:List Value):Prop:=∀(S:Setting) (us:List Value),us.length=n->∀ws:List Value,ws.length=m->PySem.W.peek K S (bindArgs fd ⟨us,ks.zip ws⟩)=some (ps.zip (sel n m pat .none cs us ws))
theorem kbk{n:Nat}(h:bw K fd ps ks n j pat csU)(hc:Vals csV csU)(hp:ps.length≠0:=by decide):cV K fd ps ks (sel n j pat .none csU) (sel n j pat .non csV):=EF hc hp λS us ws a b=>h S us a ws b
variable{k:Nat}{g:List Value->List Value->List Value}
theorem av.bd(A:av K x st f fd)(b:∀(kV doc pm:Value) (an:Option Addr) (cdv ct:Value) (us:List Value),us.length=ps.length->bindArgs (fnOf x x (il st) (cD st) (zr st) .none kV doc pm an cdv ct) ⟨us,[]⟩=pure (ps.zip us):=by intro _ _ _ _ _ _;first|exact al1 λ_=>rfl|exact al2 λ_ _=>rfl|exact al3 λ_ _ _=>rfl|exact al4 λ_ _ _ _=>rfl|exact al5 λ_ _ _ _ _=>rfl|exact al6 λ_ _ _ _ _ _=>rfl|exact al7 λ_ _ _ _ _ _ _=>rfl|exact al8 λ_ _ _ _ _ _ _ _=>rfl):Binds K fd ps []:=A.F.binds b A.df
theorem i_.has(A:i_ K x st f fd)(b:Binds K fd ps [])(X:K.In h)(G:h.Ns mainGlobals mg)(ok:zU P w K mg base CX k f fd ps sp):Has P w K mg base CX x k ps sp:=⟨_,_,ok,b,A.F.kp,mg_of X G A.at_⟩
theorem i_.hasK(A:i_ K x st f fd)(X:K.In h)(G:h.Ns mainGlobals mg)(ok:zU P w K mg base CX k f fd ps sp)(kb:cV K fd ps ks g gV):fA P w K mg base CX x k ps sp ks gV:=⟨⟨_,_,_,ok,kb,A.F.kp,mg_of X G A.at_⟩⟩
theorem bX.hasT(A:bX K C m q st f fd)(a:kN K c C fs)(ok:zU P w K mg base CX k f fd ps sp)(kb:cV K fd ps ks g gV):bT P w K mg base CX c m k ps sp ks gV:=⟨⟨C,_,_,_,dN a.at_,a.cl,⟨A.at_,A.fn,A.F.kp⟩,ok,kb⟩⟩
theorem bX.hasM(A:bX K C "__init__" q st f fd)(a:kN K c C fs)(X:K.In h)(G:h.Ns mainGlobals mg)(ok:zU P w K mg base CX k f fd ps sp)(kb:cV K fd ps ks g gV):iU P w K mg base CX c k ps sp ks gV:=⟨⟨C,_,_,_,dN a.at_,⟨a.ms,A.at_,A.fn,a.kp⟩,ok,kb,mg_of X G a.at_⟩⟩
end
section
variable{a b e:Expr}
theorem qS(i:Nat)(hN:X.N.Nodup)(he:WE X e te)(hi:X.N[i]? = some x:=by rfl)(hx:Loc X.env.scope x:=by first|exact Or.inl rfl|exact Or.inr rfl)(hs:swapsWith e (some (.Name x pos')) pos.line X.env=pure false:=by rfl)
  (hf:X.fn x=true\/X.env.scope.names.lookup x=some .local:=by first|exact .inl rfl|exact .inr rfl|assumption):WS X (.Assign [.Name x pos'] e pos) (bo te (cx i)):=jP hN hi hx he hs hf
theorem qG(i:Nat)(hN:X.N.Nodup)(hi:X.N[i]? = some x:=by rfl)(hx:Loc X.env.scope x:=by first|exact Or.inl rfl|exact Or.inr rfl)(hf:X.fn x=true\/X.env.scope.names.lookup x=some .local:=by first|exact .inl rfl|exact .inr rfl|assumption):WG X (.Name x pos) (cx i):=aG hN hi hx hf
theorem qx(K:Frag)(ha:WE X a ta)(hb:WE X b tb)(h:X.K=K:=by rfl)(hs:mD b:=by exact λ_ _=>rfl):WE X (.Subscript a b pos) (tOp (rIx K) ta tb):=cG (DP K h) ha hb hs
theorem qa1(ha:WE X a ta)(h1:starEach [a] X.env=(false,eval a X.env)::starEach [] X.env:=by rfl):WA X [a] (cy ta bJ):=zx ha dv h1
theorem qa2(ha:WE X a ta)(hb:WE X b tb)(h1:starEach [a,b] X.env=(false,eval a X.env)::starEach [b] X.env:=by rfl)(h2:starEach [b] X.env=(false,eval b X.env)::starEach [] X.env:=by rfl):WA X [a,b] (cy ta (cy tb bJ)):=zx ha (zx hb dv h2) h1
end
end L2
namespace M
open PySem L2
variable{μ:Mu}{ls:List LR}{Q:DK}{ns ho ga w S E:List Str}{v0 v1 v2 wd v3 v4:D}{na la ck cl h:Nat}{rows:List RW}{x first j:Str}{r a:RW}{R:List Str->List D->Prop}{sl v:Int}{β α:Type}{mg:Str->Option Value}{fd:FuncData}{cL PL f:Addr}{K:Frag}
def top(i:Nat):Stmt:=PySem.Challenge.pw_slotwright_k66_masked_names_refused.main.body.getD i (.Pass ⟨0,0,0,0⟩)
abbrev ou:Stmt:=top 13
abbrev vJ:List Str:=["text","signs","most"]
theorem vK:zG vJ ["text","signs","most"] (zr ou):=ag
abbrev ow:Stmt:=top 14
abbrev vL:List Str:=["text"]
theorem vM:zG vL ["text"] (zr ow):=ag
abbrev oy:Stmt:=top 15
abbrev vN:List Str:=["text"]
theorem vO:zG vN ["text"] (zr oy):=ag
abbrev oz:Stmt:=top 16
abbrev vP:List Str:=["thing"]
theorem vQ:zG vP ["thing"] (zr oz):=ag
abbrev oA:Stmt:=top 17
abbrev vR:List Str:=["thing"]
theorem vS:zG vR ["thing"] (zr oA):=ag
abbrev oB:Stmt:=top 18
abbrev vT:List Str:=["number","least","most"]
theorem vU:zG vT ["number","least","most"] (zr oB):=ag
abbrev oC:Stmt:=inClass (top 24) 0
abbrev vV:List Str:=["self"]
theorem vW:zG vV ["self"] (zr oC):=ag
abbrev oE:Stmt:=inClass (top 24) 1
abbrev vX:List Str:=["self","name"]
theorem vY:zG vX ["self","name"] (zr oE):=ag
abbrev oF:Stmt:=inClass (top 24) 2
abbrev vZ:List Str:=["self","name"]
theorem v6:zG vZ ["self","name"] (zr oF):=ag
abbrev oG:Stmt:=inClass (top 24) 3
abbrev v7:List Str:=["self","name","senders","ears","wire"]
theorem v8:zG v7 ["self","name","senders","ears","wire"] (zr oG):=ag
abbrev oH:Stmt:=inClass (top 24) 5
abbrev v9:List Str:=["self"]
theorem v_:zG v9 ["self"] (zr oH):=ag
abbrev kO:Stmt:=inClass (top 24) 6
abbrev oJ:List Str:=["self","name"]
theorem kP:zG oJ ["self","name"] (zr kO):=ag
abbrev kQ:Stmt:=inClass (top 24) 7
abbrev oK:List Str:=["self","name"]
theorem kR:zG oK ["self","name"] (zr kQ):=ag
abbrev oM:Stmt:=inClass (top 24) 11
abbrev wf:List Str:=["self","name","kind"]
theorem wg:zG wf ["self","name","kind"] (zr oM):=ag
abbrev oN:Stmt:=inClass (top 24) 12
abbrev wj:List Str:=["self","name"]
theorem wm:zG wj ["self","name"] (zr oN):=ag
abbrev oO:Stmt:=inClass (top 24) 13
abbrev wn:List Str:=["self","ends","text"]
theorem wp:zG wn ["self","ends"] (zr oO):=ag
abbrev oP:Stmt:=top 25
abbrev wq:List Str:=["ends"]
theorem wt:zG wq ["ends"] (zr oP):=ag
abbrev kT:Stmt:=top 26
abbrev oQ:List Str:=["net","name"]
theorem kU:zG oQ ["net","name"] (zr kT):=ag
abbrev oR:Stmt:=inClass (top 33) 0
abbrev wu:List Str:=["self","name","ways","every","long","release","last"]
theorem ww:zG wu ["self","name","ways","every","long","release","last"] (zr oR):=ag
abbrev oS:Stmt:=top 34
abbrev wx:List Str:=["ways","way"]
theorem wy:zG wx ["ways"] (zr oS):=ag
abbrev oU:Stmt:=top 35
abbrev wz:List Str:=["way"]
theorem wB:zG wz ["way"] (zr oU):=ag
abbrev oV:Stmt:=top 36
abbrev wC:List Str:=["one","two"]
theorem wD:zG wC ["one","two"] (zr oV):=ag
abbrev oW:Stmt:=top 39
abbrev wE:List Str:=["frames"]
theorem wF:zG wE ["frames"] (zr oW):=ag
abbrev oX:Stmt:=top 40
abbrev wG:List Str:=["way"]
theorem wH:zG wG ["way"] (zr oX):=ag
abbrev kW:Stmt:=top 42
abbrev oY:List Str:=["net","frames","line"]
theorem kX:zG oY ["net","frames","line"] (zr kW):=ag
abbrev kY:Stmt:=top 43
abbrev oZ:List Str:=["net","frames","node"]
theorem kZ:zG oZ ["net","frames","node"] (zr kY):=ag
abbrev k7:Stmt:=top 44
abbrev o6:List Str:=["net","frames","node","lines"]
theorem k8:zG o6 ["net","frames","node"] (zr k7):=ag
abbrev o7:Stmt:=top 45
abbrev wI:List Str:=["frames","lines"]
theorem wJ:zG wI ["frames","lines"] (zr o7):=ag
abbrev o8:Stmt:=top 47
theorem GC:zG ["_law_script"] ["_law_script"] (zr o8):=ag
abbrev o9:Stmt:=top 48
theorem k9:zG ["_law_s","_law_many","_law_cell","_law_found"] ["_law_s","_law_many"] (zr o9):=ag
abbrev o_:Stmt:=top 49
abbrev wK:List Str:=["_law_s","_law_row_here"]
theorem wL:zG wK ["_law_s","_law_row_here"] (zr o_):=ag
abbrev pb:Stmt:=top 50
abbrev wM:List Str:=["_law_s","_law_names","_law_letters","_law_turn","_law_size","_law_word","_law_k"]
theorem wN:zG wM ["_law_s","_law_names"] (zr pb):=ag
abbrev pc:Stmt:=top 51
abbrev wO:List Str:=["_law_s","_law_names","_law_lines","_law_one","_law_two","_law_barred","_law_fit","_law_line"]
theorem wP:zG wO ["_law_s","_law_names","_law_lines","_law_one","_law_two","_law_barred"] (zr pc):=ag
abbrev pd:Stmt:=top 52
abbrev wQ:List Str:=["_law_s","_law_names","_law_lines","_law_gates","_law_first","_law_the_last","_law_barred","_law_free","_law_way_here","_law_k","_law_gate"]
theorem wR:zG wQ ["_law_s","_law_names","_law_lines","_law_gates","_law_first","_law_the_last","_law_barred"] (zr pd):=ag
abbrev pf:Stmt:=top 53
abbrev wS:List Str:=["_law_row_here","_law_lines","_law_the_slack","_law_the_most","_law_way_here","_law_sums","_law_line"]
theorem wT:zG wS ["_law_row_here","_law_lines","_law_the_slack"] (zr pf):=ag
abbrev ph:Stmt:=top 54
abbrev wU:List Str:=["_law_s","_law_names","_law_lines","_law_houses","_law_gates","_law_the_slack","_law_at","_law_first","_law_the_last","_law_ways","_law_the_every","_law_the_long","_law_row_here","_law_spare"]
theorem wV:zG wU ["_law_s","_law_names","_law_lines","_law_houses","_law_gates","_law_the_slack"] (zr ph):=ag
abbrev pj:Stmt:=top 55
abbrev wW:List Str:=["_law_s","_law_the_most","_law_names","_law_houses","_law_gates","_law_the_slack","_law_lines","_law_rows"]
theorem wX:zG wW ["_law_s","_law_the_most"] (zr pj):=ag
abbrev pp:Stmt:=top 56
abbrev wY:List Str:=["_law_world_here","_law_net_here","_law_name_here","_law_senders","_law_ears","_law_the_wire"]
theorem wZ:zG wY ["_law_world_here"] (zr pp):=ag
abbrev pq:Stmt:=top 57
abbrev w6:List Str:=["_law_row_here"]
theorem w8:zG w6 ["_law_row_here"] (zr pq):=ag
abbrev pr:Stmt:=top 58
abbrev w_:List Str:=["_law_rows"]
theorem xa:zG w_ ["_law_rows"] (zr pr):=ag
abbrev k_:Stmt:=top 59
abbrev pv:List Str:=["_law_kind","_law_net_here","_law_frames_here","_law_name_here"]
theorem lf:zG pv ["_law_kind","_law_net_here","_law_frames_here","_law_name_here"] (zr k_):=ag
abbrev pw:Stmt:=top 60
abbrev xc:List Str:=["_law_world_here","_law_kind","_law_name_here","_law_way_here","_law_busy"]
theorem xf:zG xc ["_law_world_here","_law_kind","_law_name_here","_law_way_here"] (zr pw):=ag
abbrev px:Stmt:=top 61
abbrev xh:List Str:=["_law_world_here","_law_kind","_law_name_here","_law_due_here","_law_row_here"]
theorem xi:zG xh ["_law_world_here","_law_kind","_law_name_here"] (zr px):=ag
abbrev pz:Stmt:=top 62
abbrev pA:List Str:=["_law_script","_law_s","_law_world_here","_law_net_here","_law_frames_here","_law_kind","_law_nodes","_law_lines","_law_names","_law_others","_law_wrong","_law_got","e","_law_name_here","_law_told"]
theorem xj:zG pA ["_law_script"] (zr pz):=ag
abbrev xk:Stmt:=inClass (top 8) 0
section
variable{P:Program}{w:World}{base:Heap}
theorem GD(F:Fun K "_law_draw" "_law_draw" o9 f fd)(B:Blt mg):zU P w K mg base CX0 1 f fd ["_law_s","_law_many"] mV:=by
 refine F.okq k9 (λvs H Q E h=>?_) (λcdv A outer s H vs Q E hr h=>?_)
 .obtain⟨a,l,m,rfl,_⟩:=h;rfl
 obtain⟨a,l,many,rfl,⟨ns,i,b,c,ha,hl,hi,hb,hal⟩,hm,hm2,q⟩:=h;refine⟨_,(zf (ae (zE qp (cG (c5 K) (qv 0) zg (λ_ _=>rfl)) zg (zY _))
  (zf (jP (i:=2) k9.nd rfl (Or.inl rfl) zg)
  (zf (ae (zE gg (cG (c5 K) (qv 0) zg (λ_ _=>rfl)) (zH (C6 K) rfl B.len aI (zx (cG (c5 K) (qv 0) zg (λ_ _=>rfl)) dv)) (zY _))
  (zf (jP (i:=2) k9.nd rfl (Or.inl rfl) (cG (c5 K) (cG (c5 K) (qv 0) zg (λ_ _=>rfl)) (cG (c5 K) (qv 0) zg (λ_ _=>rfl)) (λ_ _=>rfl)))
  (zj (jO (al jy (cG (c5 K) (qv 0) zg (λ_ _=>rfl)) zg) (jN (qv 0) zg set_list))))
  zK)
  (zj (ae (WW.qt (gr (zE mm (qv 2) (al qi zg zg) (zY _)) (gq (zE fq (qv 2) (cZ cT (al qi zg zg)) (zY _)))))
  (zj (jO (zH Bm rfl B.abs CL (zx (qv 2) dv)) (jN (qv 0) zg set_list)))
  (zf (jO (al gf (al jy (al jy (al qh (cG (c5 K) (qv 0) zg (λ_ _=>rfl)) zg) (al gf (qv 2) zg)) zg) zg) (jN (qv 0) zg set_list))
  (zj (zN (al gf (al jI (cG (c5 K) (qv 0) zg (λ_ _=>rfl)) zg) (qv 1)))))))))
  zK)
  (zf (jP (i:=3) k9.nd rfl (Or.inl rfl) (al gf (cG (c5 K) (qv 0) zg (λ_ _=>rfl)) (qv 1)))
  (zf (jO (al jI (cG (c5 K) (qv 0) zg (λ_ _=>rfl)) (qv 1)) (jN (qv 0) zg set_list))
  (zj (zN (qv 3)))))),?_⟩
 have fin:∀(H1:Hp) (i1 b1 c1:Int) (x:Option V),H1 a=some (.lst [.ref l,.int i1,.int b1,.int c1])->0<=i1->0<=b1->jL a H H1 ->
   (dk (bo (tOp (rI (λ_ j=>0 < j) λi j=> .int (i % j)) (tOp (cW K) (aB 0) (tC (.int 2))) (aB 1)) (cx 3))
    (dk (bo (tOp (rI fz λi j=> .int (i / j)) (tOp (cW K) (aB 0) (tC (.int 2))) (aB 1)) (eJ (aB 0) (tC (.int 2)) fv)) (fo (aB 3)))) {nx:=λ_ H'=>Q .non H',rt:=Q} [some (.ref a),some (.int many),x,none] H1:=by
  intro H1 i1 b1 c1 x h1 hi1 hb1 o1;refine⟨_,rfl,_,_,_,_,rfl,rfl,SqL.of h1,rfl,_,rfl,_,_,rfl,rfl,hm,?_⟩;refine⟨_,rfl,_,_,_,_,rfl,rfl,SqL.of h1,rfl,_,rfl,_,_,rfl,rfl,⟨hm,hm2⟩,?_⟩;refine⟨_,rfl,_,_,_,_,rfl,rfl,h1,rfl,?_⟩;refine⟨_,rfl,?_⟩;refine q _ _ (Int.emod_nonneg _ (by omega)) (Int.emod_lt_of_pos _ hm) ⟨ns,i1,b1 / many,c1,zB,?_,hi1,Int.ediv_nonneg hb1 (by omega),hal⟩ λz hz=>?_
  .rw[zy hal.symm,o1 _ hal.symm];exact hl
  .rw[zy hz];exact o1 z hz
 refine⟨_,rfl,_,_,_,_,rfl,rfl,SqL.of ha,rfl,rfl,_,rfl,?_⟩;refine jE (λc0=>?_) (λc0=>?_)
 .refine⟨_,rfl,_,_,_,_,rfl,rfl,SqL.of ha,rfl,_,rfl,_,_,_,_,rfl,rfl,SqL.of ha,rfl,_,_,rfl,.inl (SqL.of hl),_,_,rfl,rfl,_,rfl,?_⟩;have cellEnd:∀(H1:Hp) (i1 cell:Int),H1 a=some (.lst [.ref l,.int i1,.int b,.int c])->0<=i1->jL a H H1 ->
   (js (tOr (ft (tOp (rI0 λi j=> .bl (decide (j<=i))) (aB 2) (tOp (rI jx λi j=> .int (i^j.toNat)) (tC (.int 10)) (tC (.int 18)))))
     (ft (tOp (rI0 λi j=> .bl (decide (i<=j))) (aB 2) (tUn (rU λi=> .int (-i)) (tOp (rI jx λi j=> .int (i^j.toNat)) (tC (.int 10)) (tC (.int 18)))))))
    (bo (tCB (λxs H Q=>∃i,xs=[.int i]/\Q (.int (if i < 0 then -i else i)) H) (cy (aB 2) bJ)) (eJ (aB 0) (tC (.int 2)) fv))
    (dk (bo (tOp (rI (λ_ j=>0 < j) λi j=> .int (i % j)) (tOp (rI0 λi j=> .int (i+j)) (tOp (rI0 λi j=> .int (i+j)) (tOp (rI dq λi j=> .int (i*j)) (tOp (cW K) (aB 0) (tC (.int 3))) (tC (.int 48271))) (tOp (rI (λ_ j=>0 < j) λi j=> .int (i % j)) (aB 2) (tC (.int 2147483647)))) (tC (.int 11))) (tC (.int 2147483647))) (eJ (aB 0) (tC (.int 3)) fv))
     (fo (tOp (rI (λ_ j=>0 < j) λi j=> .int (i % j)) (tOp (rI fz λi j=> .int (i / j)) (tOp (cW K) (aB 0) (tC (.int 3))) (tC (.int 64))) (aB 1)))))
    {nx:=(dk (bo (tOp (rI (λ_ j=>0 < j) λi j=> .int (i % j)) (tOp (cW K) (aB 0) (tC (.int 2))) (aB 1)) (cx 3))
    (dk (bo (tOp (rI fz λi j=> .int (i / j)) (tOp (cW K) (aB 0) (tC (.int 2))) (aB 1)) (eJ (aB 0) (tC (.int 2)) fv)) (fo (aB 3)))) {nx:=λ_ H'=>Q .non H',rt:=Q},rt:=Q} [some (.ref a),some (.int many),some (.int cell),none] H1:=by
   intro H1 i1 cell h1 hi1 o1;have big:(bo (tCB (λxs H Q=>∃i,xs=[.int i]/\Q (.int (if i < 0 then -i else i)) H) (cy (aB 2) bJ)) (eJ (aB 0) (tC (.int 2)) fv))
     {nx:=(dk (bo (tOp (rI (λ_ j=>0 < j) λi j=> .int (i % j)) (tOp (cW K) (aB 0) (tC (.int 2))) (aB 1)) (cx 3))
    (dk (bo (tOp (rI fz λi j=> .int (i / j)) (tOp (cW K) (aB 0) (tC (.int 2))) (aB 1)) (eJ (aB 0) (tC (.int 2)) fv)) (fo (aB 3)))) {nx:=λ_ H'=>Q .non H',rt:=Q},rt:=Q} [some (.ref a),some (.int many),some (.int cell),none] H1:=by
    refine⟨_,rfl,_,rfl,_,rfl,_,_,_,_,rfl,rfl,h1,rfl,?_⟩;exact fin _ i1 (if cell < 0 then -cell else cell) c _ zB hi1 (by split<;>omega) λz hz=>by rw[zy hz];exact o1 z hz
   refine⟨_,rfl,_,_,rfl,rfl,⟨by decide,by decide,by decide⟩,_,_,rfl,rfl,_,rfl,?_⟩;refine jE (λc1=>?_) (λc1=>?_)
   .exact Cw big
   .refine⟨_,rfl,_,_,rfl,rfl,⟨by decide,by decide,by decide⟩,_,rfl,_,_,rfl,rfl,_,rfl,?_⟩;refine jE (λc2=>big) (λc2=>?_);refine⟨_,rfl,_,_,_,_,rfl,rfl,SqL.of h1,rfl,_,_,rfl,rfl,.inr ⟨by decide,by decide⟩,_,rfl,_,_,rfl,rfl,(show(0:Int) < 2147483647 by decide),_,_,rfl,rfl,_,_,rfl,rfl,_,_,rfl,rfl,(show(0:Int) < 2147483647 by decide),?_⟩;refine⟨_,rfl,_,_,_,_,rfl,rfl,h1,rfl,?_⟩;refine⟨_,rfl,_,_,_,_,rfl,rfl,SqL.of zB,rfl,_,_,rfl,rfl,⟨by decide,by decide⟩,_,rfl,_,_,rfl,rfl,hm,?_⟩;refine q _ _ (Int.emod_nonneg _ (by omega)) (Int.emod_lt_of_pos _ hm) ⟨ns,i1,b,_,zB,?_,hi1,hb,hal⟩ λz hz=>?_
    .rw[zy hal.symm,o1 _ hal.symm];exact hl
    .rw[zy hz];exact o1 z hz
  refine jE (λc1=>?_) (λc1=>?_)
  .have c1':i < ((ns.map V.int).length:Int):=of_decide_eq_true c1;rw[List.length_map] at c1';have hget:(ns.map V.int)[i.toNat]? = some (.int (ns[i.toNat]'(by omega))):=by rw[List.getElem?_map,List.getElem?_eq_getElem (by omega)];rfl
   have hat:=d_ hget;rw[show((i.toNat:Nat):Int)=i by omega] at hat;refine⟨_,rfl,_,_,_,_,rfl,rfl,SqL.of ha,rfl,_,rfl,_,_,_,_,rfl,rfl,SqL.of ha,rfl,_,_,_,_,rfl,rfl,SqL.of hl,hat,?_⟩;refine⟨_,rfl,_,_,_,_,rfl,rfl,SqL.of ha,rfl,_,_,rfl,rfl,_,rfl,_,_,_,_,rfl,rfl,ha,rfl,?_⟩;exact cellEnd _ (i+1) _ zB (by omega) λz hz=>by rw[zy hz]
  .exact cellEnd H i 0 ha hi λz hz=>rfl
 .exact fin H i b c none ha hi hb λz hz=>rfl
theorem GE(F:Fun K "_law_start" "_law_start" o8 f fd)(B:Blt mg):zU P w K mg base CX0 1 f fd ["_law_script"] (mW K):=by
 refine F.okq GC (λvs H Q E h=>?_) (λcdv A outer s H vs Q E hr h=>?_)
 .obtain⟨a,m,rfl,_⟩:=h;rfl
 obtain⟨a,ns,rfl,hS,q⟩:=h;refine⟨_,(zj (zN (bK (zx (dy (rT K) rfl B.list rE (zx (ir (C3 K) (qv 0) eO (bF zg)) dv)) (zx zg (zx zg (zx zg dv))))))),?_⟩;refine⟨_,rfl,_,rfl,_,_,rfl,hS,λp1 h1=>?_⟩;refine⟨_,_,rfl,.inl (SqL.of zB),λp2 h2=>⟨by show 4<=sizeLine;decide,λp3 h3=>?_⟩⟩;have n21:p2≠p1:=λz=>by rw[z,zB] at h2;cases h2
 have n32:p3≠p2:=λz=>by rw[z,zB] at h3;cases h3
 rw[zy n32] at h3;have n31:p3≠p1:=λz=>by rw[z,zB] at h3;cases h3
 rw[zy n31] at h3;rw[zy n21] at h2;have cut:cA (ns.map V.int) none (some 63)=((ns.drop (HT.sIx (ns.map V.int).length 0 none)).take (HT.sIx (ns.map V.int).length (ns.map V.int).length (some 63) - HT.sIx (ns.map V.int).length 0 none)).map V.int:=by
  unfold cA;rw[List.map_take,List.map_drop]
 refine q p3 p2 _ h3 h2 ⟨((ns.drop (HT.sIx (ns.map V.int).length 0 none)).take (HT.sIx (ns.map V.int).length (ns.map V.int).length (some 63) - HT.sIx (ns.map V.int).length 0 none)),0,0,90210,zB,?_,by decide,by decide,n32⟩ λb o e=>?_
 .rw[zy n32.symm,zB,cut]
 .rw[zy (zP e h3),zy (zP e h2),zy (zP e h1)];exact e
end
abbrev tab:Tab:=[("Net",["kinds","lines"]),("Frame",["name","ways","every","long","release","last"])]
abbrev cn:List Str:=["kinds","lines"]
theorem xp:cg tab "Net" "kinds"=true:=by decide+kernel
theorem Lh{R:D->Prop}:eB tab "kinds" "Net" cn [v0,v1] R=R v0:=by
 simp only[eB,xp,true_and,List.zip_cons_cons,List.lookup_cons,beq_self_eq_true,j5]
theorem Li{w:D}:bv tab "kinds" w "Net" [] [] R=R ["kinds"] [w]:=by
 rw[bv,xp,show putN "kinds" []=(["kinds"]:List Str) from by simp only[putN,if_false],show putD "kinds" w [] []=[w] from by simp only[putD,if_false]];exact propext ⟨λh=>h.2.2,λh=>⟨rfl,by show 0 < 1000;decide,h⟩⟩
theorem xq:cg tab "Net" "lines"=true:=by decide+kernel
theorem Lj{R:D->Prop}:eB tab "lines" "Net" cn [v0,v1] R=R v1:=by
 simp only[eB,xq,true_and,List.zip_cons_cons,List.lookup_cons,show(("lines":Str)=="kinds")=false from by decide+kernel,beq_self_eq_true,j5]
theorem Lk{w:D}:bv tab "lines" w "Net" ["kinds"] [v0] R=R ["kinds","lines"] [v0,w]:=by
 rw[bv,xq,show putN "lines" ["kinds"]=(["kinds","lines"]:List Str) from by simp only[putN,show(("kinds":Str)="lines")=False from eq_false (by decide+kernel),if_false],show putD "lines" w ["kinds"] [v0]=[v0,w] from by simp only[putD,show(("kinds":Str)="lines")=False from eq_false (by decide+kernel),if_false]];exact propext ⟨λh=>h.2.2,λh=>⟨rfl,by show 1 < 1000;decide,h⟩⟩
theorem Ll:List.lookup ("check_new":Str) (cn.zip [v0,v1])=none:=by
 simp only[List.zip_cons_cons,List.zip_nil_left,List.lookup_cons,List.lookup_nil,show(("check_new":Str)=="kinds")=false from by decide+kernel,show(("check_new":Str)=="lines")=false from by decide+kernel]
theorem Lm:List.lookup ("check_nodes":Str) (cn.zip [v0,v1])=none:=by
 simp only[List.zip_cons_cons,List.zip_nil_left,List.lookup_cons,List.lookup_nil,show(("check_nodes":Str)=="kinds")=false from by decide+kernel,show(("check_nodes":Str)=="lines")=false from by decide+kernel]
theorem Ln:List.lookup ("ends":Str) (cn.zip [v0,v1])=none:=by
 simp only[List.zip_cons_cons,List.zip_nil_left,List.lookup_cons,List.lookup_nil,show(("ends":Str)=="kinds")=false from by decide+kernel,show(("ends":Str)=="lines")=false from by decide+kernel]
theorem Lo:List.lookup ("gate":Str) (cn.zip [v0,v1])=none:=by
 simp only[List.zip_cons_cons,List.zip_nil_left,List.lookup_cons,List.lookup_nil,show(("gate":Str)=="kinds")=false from by decide+kernel,show(("gate":Str)=="lines")=false from by decide+kernel]
theorem Lp:List.lookup ("house":Str) (cn.zip [v0,v1])=none:=by
 simp only[List.zip_cons_cons,List.zip_nil_left,List.lookup_cons,List.lookup_nil,show(("house":Str)=="kinds")=false from by decide+kernel,show(("house":Str)=="lines")=false from by decide+kernel]
theorem Lq:List.lookup ("kind":Str) (cn.zip [v0,v1])=none:=by
 simp only[List.zip_cons_cons,List.zip_nil_left,List.lookup_cons,List.lookup_nil,show(("kind":Str)=="kinds")=false from by decide+kernel,show(("kind":Str)=="lines")=false from by decide+kernel]
theorem Lr:List.lookup ("line":Str) (cn.zip [v0,v1])=none:=by
 simp only[List.zip_cons_cons,List.zip_nil_left,List.lookup_cons,List.lookup_nil,show(("line":Str)=="kinds")=false from by decide+kernel,show(("line":Str)=="lines")=false from by decide+kernel]
theorem Ls:List.lookup ("names":Str) (cn.zip [v0,v1])=none:=by
 simp only[List.zip_cons_cons,List.zip_nil_left,List.lookup_cons,List.lookup_nil,show(("names":Str)=="kinds")=false from by decide+kernel,show(("names":Str)=="lines")=false from by decide+kernel]
theorem Lu:List.lookup ("put_node":Str) (cn.zip [v0,v1])=none:=by
 simp only[List.zip_cons_cons,List.zip_nil_left,List.lookup_cons,List.lookup_nil,show(("put_node":Str)=="kinds")=false from by decide+kernel,show(("put_node":Str)=="lines")=false from by decide+kernel]
abbrev gU:List Str:=["name","ways","every","long","release","last"]
theorem pB:cg tab "Frame" "name"=true:=by decide+kernel
theorem Lv{v5:D}{R:D->Prop}:eB tab "name" "Frame" gU [v0,v1,v2,v3,v4,v5] R=R v0:=by
 simp only[eB,pB,true_and,List.zip_cons_cons,List.lookup_cons,beq_self_eq_true,j5]
theorem Lw{w:D}:bv tab "name" w "Frame" [] [] R=R ["name"] [w]:=by
 rw[bv,pB,show putN "name" []=(["name"]:List Str) from by simp only[putN,if_false],show putD "name" w [] []=[w] from by simp only[putD,if_false]];exact propext ⟨λh=>h.2.2,λh=>⟨rfl,by show 0 < 1000;decide,h⟩⟩
theorem xu:cg tab "Frame" "ways"=true:=by decide+kernel
theorem xv{v5:D}{R:D->Prop}:eB tab "ways" "Frame" gU [v0,v1,v2,v3,v4,v5] R=R v1:=by
 simp only[eB,xu,true_and,List.zip_cons_cons,List.lookup_cons,show(("ways":Str)=="name")=false from by decide+kernel,beq_self_eq_true,j5]
theorem Lx{w:D}:bv tab "ways" w "Frame" ["name"] [v0] R=R ["name","ways"] [v0,w]:=by
 rw[bv,xu,show putN "ways" ["name"]=(["name","ways"]:List Str) from by simp only[putN,show(("name":Str)="ways")=False from eq_false (by decide+kernel),if_false],show putD "ways" w ["name"] [v0]=[v0,w] from by simp only[putD,show(("name":Str)="ways")=False from eq_false (by decide+kernel),if_false]];exact propext ⟨λh=>h.2.2,λh=>⟨rfl,by show 1 < 1000;decide,h⟩⟩
theorem GF:cg tab "Frame" "every"=true:=by decide+kernel
theorem Ly{w:D}:bv tab "every" w "Frame" ["name","ways"] [v0,v1] R=R ["name","ways","every"] [v0,v1,w]:=by
 rw[bv,GF,show putN "every" ["name","ways"]=(["name","ways","every"]:List Str) from by simp only[putN,show(("name":Str)="every")=False from eq_false (by decide+kernel),show(("ways":Str)="every")=False from eq_false (by decide+kernel),if_false],show putD "every" w ["name","ways"] [v0,v1]=[v0,v1,w] from by simp only[putD,show(("name":Str)="every")=False from eq_false (by decide+kernel),show(("ways":Str)="every")=False from eq_false (by decide+kernel),if_false]];exact propext ⟨λh=>h.2.2,λh=>⟨rfl,by show 2 < 1000;decide,h⟩⟩
theorem GG:cg tab "Frame" "long"=true:=by decide+kernel
theorem Lz{w:D}:bv tab "long" w "Frame" ["name","ways","every"] [v0,v1,v2] R=R ["name","ways","every","long"] [v0,v1,v2,w]:=by
 rw[bv,GG,show putN "long" ["name","ways","every"]=(["name","ways","every","long"]:List Str) from by simp only[putN,show(("name":Str)="long")=False from eq_false (by decide+kernel),show(("ways":Str)="long")=False from eq_false (by decide+kernel),show(("every":Str)="long")=False from eq_false (by decide+kernel),if_false],show putD "long" w ["name","ways","every"] [v0,v1,v2]=[v0,v1,v2,w] from by simp only[putD,show(("name":Str)="long")=False from eq_false (by decide+kernel),show(("ways":Str)="long")=False from eq_false (by decide+kernel),show(("every":Str)="long")=False from eq_false (by decide+kernel),if_false]];exact propext ⟨λh=>h.2.2,λh=>⟨rfl,by show 3 < 1000;decide,h⟩⟩
theorem GH:cg tab "Frame" "release"=true:=by decide+kernel
theorem LA{w:D}:bv tab "release" w "Frame" ["name","ways","every","long"] [v0,v1,v2,v3] R=R ["name","ways","every","long","release"] [v0,v1,v2,v3,w]:=by
 rw[bv,GH,show putN "release" ["name","ways","every","long"]=(["name","ways","every","long","release"]:List Str) from by simp only[putN,show(("name":Str)="release")=False from eq_false (by decide+kernel),show(("ways":Str)="release")=False from eq_false (by decide+kernel),show(("every":Str)="release")=False from eq_false (by decide+kernel),show(("long":Str)="release")=False from eq_false (by decide+kernel),if_false],show putD "release" w ["name","ways","every","long"] [v0,v1,v2,v3]=[v0,v1,v2,v3,w] from by simp only[putD,show(("name":Str)="release")=False from eq_false (by decide+kernel),show(("ways":Str)="release")=False from eq_false (by decide+kernel),show(("every":Str)="release")=False from eq_false (by decide+kernel),show(("long":Str)="release")=False from eq_false (by decide+kernel),if_false]];exact propext ⟨λh=>h.2.2,λh=>⟨rfl,by show 4 < 1000;decide,h⟩⟩
theorem GI:cg tab "Frame" "last"=true:=by decide+kernel
theorem LB{w:D}:bv tab "last" w "Frame" ["name","ways","every","long","release"] [v0,v1,v2,v3,v4] R=R ["name","ways","every","long","release","last"] [v0,v1,v2,v3,v4,w]:=by
 rw[bv,GI,show putN "last" ["name","ways","every","long","release"]=(["name","ways","every","long","release","last"]:List Str) from by simp only[putN,show(("name":Str)="last")=False from eq_false (by decide+kernel),show(("ways":Str)="last")=False from eq_false (by decide+kernel),show(("every":Str)="last")=False from eq_false (by decide+kernel),show(("long":Str)="last")=False from eq_false (by decide+kernel),show(("release":Str)="last")=False from eq_false (by decide+kernel),if_false],show putD "last" w ["name","ways","every","long","release"] [v0,v1,v2,v3,v4]=[v0,v1,v2,v3,v4,w] from by simp only[putD,show(("name":Str)="last")=False from eq_false (by decide+kernel),show(("ways":Str)="last")=False from eq_false (by decide+kernel),show(("every":Str)="last")=False from eq_false (by decide+kernel),show(("long":Str)="last")=False from eq_false (by decide+kernel),show(("release":Str)="last")=False from eq_false (by decide+kernel),if_false]];exact propext ⟨λh=>h.2.2,λh=>⟨rfl,by show 5 < 1000;decide,h⟩⟩
abbrev ja:List Str:=["NoName"]
abbrev xy:List Str:=[]
abbrev xz:List Str:=[]
abbrev xA:List Str:=["NoName"]
abbrev pC:List Str:=["NoName"]
abbrev fZ:Ct:= .lam 0 "by_name" 182 30 "by_name.<locals>.<lambda>"
abbrev GJ:DSp:=vI "by_name" 182 30 "by_name.<locals>.<lambda>"
def eG(z:Str):Option Str:=fText "name" z (vq (cD xk)) Str.empty
@[reducible] def xB:DS:=(ac (m6 (iE dLe dLe (dC (.int 1)) (dCB aN (za (zc 0) zm)) (zc 2)) (dCB gC (za (aQ ["sign"] [1] [0] (aA (zc 0)) (zu 0) bA (dOp j9 (zc 0) (zc 1))) zm))))
def pE:DSp:=zO xB vJ 3
@[reducible] def xC:DS:=(ac (m6 (dCB cS (za (zc 0) (za (dC (.ty "int")) zm))) (m7 (dCB cS (za (zc 0) (za (dC (.ty "bool")) zm))))))
def lg:DSp:=zO xC vP 1
@[reducible] def xD:DS:=(zJ (dM tab (zc 0) i3 "kinds")
  (dM tab (zc 0) i3 "lines"))
def lh:DSp:=zO xD vV 1
@[reducible] def xE:DS:=(ac (dCB e7 (za (aR tab (zc 0) "kinds") zm)))
def jb:DSp:=zO xE v9 1
@[reducible] def xF:DS:=(zJ (af (zL (dOp (dQ true) (zc 1) (aR tab (zc 0) "kinds")))
  bf
  ah)
  (ac (gM (aR tab (zc 0) "kinds") (zc 1))))
def gW:DSp:=zO xF oJ 2
@[reducible] def xG:DS:=(zJ (af (zL (dOp (dQ true) (zc 1) (aR tab (zc 0) "lines")))
  bf
  ah)
  (ac (gM (aR tab (zc 0) "lines") (zc 1))))
def gX:DSp:=zO xG oK 2
@[reducible] def xH:DS:=(cw (aA (zc 1)) (zu 2)
  (af (dOr (zL (dOp (dQ true) (zc 2) (aR tab (zc 0) "kinds"))) (zL (dOp (dQ false) (zc 2) (aR tab (zc 0) "lines"))))
  bf
  ah))
def jc:DSp:=zO xH wn 2
@[reducible] def xI:DS:=(zJ (af (fF (zL (iE dLe dLe (dC (.int 1)) (dCB aN (za (zc 0) zm)) (dC (.int 6)))))
  bf
  ah)
  (af (zL (dOp dLt (nE (zc 0)) (dCB aN (za (zc 0) zm))))
  bf
  ah))
def jd:DSp:=zO xI wq 1
@[reducible] def xJ:DS:=(zJ (af (dOr (zL (dOp dNe (dOp dIx (zc 0) (dC (.int 0))) (dOp dIx (zc 1) (dC (.int 0))))) (zL (dOp dNe (dOp dIx (zc 0) (dUn ca (dC (.int 1)))) (dOp dIx (zc 1) (dUn ca (dC (.int 1)))))))
  bf
  ah)
  (af (zL (dCB ez (za (aQ ["name"] [1] [0] (aA (dSl aF (zc 0) (aE (dC (.int 1))) (aE (dUn ca (dC (.int 1)))))) (zu 0) bA (dOp (ao false) (zc 0) (zc 1))) zm)))
  bf
  ah))
def li:DSp:=zO xJ wC 2
@[reducible] def xK:DS:=(ac (ot tab "by_name" 182 30 "by_name.<locals>.<lambda>" "name" (zc 0)))
def gY:DSp:=zO xK wE 1
@[reducible] def xM:DS:=(ac (dR (zc 0) (aE (dC (.int 1))) bg (aE (dC (.int 2)))))
def lj:DSp:=zO xM wG 1
@[reducible] def xN:DS:=(zJ (ad (dC (.int 0)) (zu 3))
  (zJ (cw (aA (dOp dIx (zc 0) (dC (.int 1)))) (zu 4)
  (zJ (ad (dC (.int 0)) (zu 5))
  (zJ (cw (aA (zc 1)) (zu 6)
  (af (zL (dOp (ao false) (dOp dIx (zc 6) (dC (.int 0))) (zc 4)))
  (ad (dOp aM (dOp aM (dOp aM (zc 5) (dOp dIx (zc 0) (dC (.int 3)))) (dOp dIx (zc 6) (dC (.int 3)))) (zc 2)) (zu 5))
  ah))
  (ad (dCB gB (za (zc 3) (za (zc 5) zm))) (zu 3)))))
  (ac (zc 3))))
def lq:DSp:=zO xN wS 3
@[reducible] def xO:DS:=(zJ (af (zL (dOp dEq (zc 1) (dC (.int 0))))
  (ac (dOp (ao false) (zc 2) (dR (zc 3) (aE (dC (.int 1))) bg (aE (dC (.int 2))))))
  ah)
  (zJ (af (zL (dOp dEq (zc 1) (dC (.int 1))))
  (ac (dOp (ao false) (zc 2) (dSl aF (zc 3) bg (aE (dUn ca (dC (.int 1)))))))
  ah)
  (zJ (ad (aQ ["_law_line"] [2] [0] (aA (dOp dIx (zc 0) (dC (.int 2)))) (zu 0) (zL (dOp (ao false) (zc 1) (dOp dIx (zc 0) (dC (.int 1))))) (dOp dIx (zc 0) (dC (.int 0)))) (zu 4))
  (ac (dOp dGt (dCB aN (za (aQ ["_law_line"] [4] [0] (aA (dR (zc 3) (aE (dC (.int 1))) bg (aE (dC (.int 2))))) (zu 0) (zL (dOp (ao false) (zc 0) (zc 1))) (zc 0)) zm)) (dC (.int 0)))))))
def fb:DSp:=zO xO xc 4
@[reducible] def xP:DS:=(ac (dCall pE (za (zc 0) (za (dC (.str "abcdefghijklmnopqrstuvwxyz")) (za (dC (.int 8)) zm)))))
def je:DSp:=zO xP vL 1
@[reducible] def xQ:DS:=(af (fF (zL (dCall lg (za (zc 0) zm))))
  bf
  ah)
def lr:DSp:=zO xQ vR 1
@[reducible] def xR(Ex:DXE):DS:=(zJ (af (zL (dOp (dQ true) (zc 1) (aR tab (zc 0) "kinds")))
  (fY "NoName" eG Ex (zc 1))
  ah)
  (ac (gM (aR tab (zc 0) "kinds") (zc 1))))
def jf:bW:=e9 xR oJ 2
@[reducible] def xS(Ex:DXE):DS:=(zJ (af (zL (dOp (dQ true) (zc 1) (aR tab (zc 0) "lines")))
  (fY "NoName" eG Ex (zc 1))
  ah)
  (ac (gM (aR tab (zc 0) "lines") (zc 1))))
def lu:bW:=e9 xS oK 2
@[reducible] def xT:DS:=(af (zL (dOp dEq (bD "Net" "kind" gW 2 0 [.p 0,.p 1] [] (zc 0) (za (zc 1) zm) zm) (dC (.str "line"))))
  bf
  ah)
def jg:DSp:=zO xT oQ 2
@[reducible] def xU:DS:=(ac (jW ["frame"] [1] [0] (aA (dCall gY (za (zc 0) zm))) (zu 0) (zL (dCB ez (za (aQ ["way"] [1] [0] (aA (aR tab (zc 0) "ways")) (zu 0) bA (m7 (dCB ez (za (aQ ["line"] [1] [0] (aA (dCall lj (za (zc 0) zm))) (zu 0) bA (dOp (ao false) (zc 0) (zc 1))) zm)))) zm))) (aR tab (zc 0) "name")))
def f_:DSp:=zO xU wI 2
@[reducible] def xV:DS:=(ac (dOp dIx (zc 1) (dCall aX (za (zc 0) (za (dCB aN (za (zc 1) zm)) zm)))))
def gZ:DSp:=zO xV wK 2
@[reducible] def xW:DS:=(zJ (ad (dC (.str "abcdefghijklmnopqrstuvwxyz")) (zu 2))
  (zJ (cw (eA (za (dC (.int 4)) zm)) (zu 3)
  (zJ (ad (dOp aM (dC (.int 1)) (dCall aX (za (zc 0) (za (dC (.int 3)) zm)))) (zu 4))
  (zJ (af (zL (dOp dEq (zc 4) (dC (.int 3))))
  (ad (dOp aM (dC (.int 1)) (dCall aX (za (zc 0) (za (dC (.int 8)) zm)))) (zu 4))
  ah)
  (zJ (ad (dBM "str" nB (dC (.str "")) (za (aQ ["_law_k"] [2,0] [0] (eA (za (zc 4) zm)) (zu 0) bA (dOp dIx (zc 1) (dCall aX (za (zc 2) (za (dC (.int 26)) zm))))) zm)) (zu 5))
  (af (zL (dOp (ao true) (zc 5) (zc 1)))
  (zJ (ai (dBM "list" bM (zc 1) (za (zc 5) zm)))
  (ac (zc 5)))
  ah)))))
  (zJ (cw (eA (za (dC (.int 104)) zm)) (zu 6)
  (zJ (ad (dOp gF (dOp dIx (zc 2) (dOp nh (zc 6) (dC (.int 26)))) (dOp aM (dC (.int 1)) (dOp nc (zc 6) (dC (.int 26))))) (zu 5))
  (af (zL (dOp (ao true) (zc 5) (zc 1)))
  (zJ (ai (dBM "list" bM (zc 1) (za (zc 5) zm)))
  (ac (zc 5)))
  ah)))
  (ac (dC (.str "zzzzzzzz"))))))
def dU:DSp:=zO xW wM 2
@[reducible] def xX:DS:=(zJ (ad (dF zm) (zu 3))
  (zJ (cw (aA (dCB kC (za (dOp dIx (zc 0) (dC (.int 3))) zm))) (zu 4)
  (af (zL (dOp dGt (dCB aN (za (aQ ["_law_way_here"] [1,2,0] [0] (aA (dOp dIx (zc 4) (dC (.int 1)))) (zu 0) (fF (zL (dCall fb (za (zc 3) (za (zc 1) (za (zc 2) (za (zc 0) zm))))))) (zc 0)) zm)) (dC (.int 0))))
  (ai (dBM "list" bM (zc 3) (za (dOp dIx (zc 4) (dC (.int 0))) zm)))
  ah))
  (m_ 3 (ac (zc 3)))))
def g5:DSp:=zO xX xh 3
@[reducible] def xY:DS:=(af (fF (zL (dCall je (za (zc 0) zm))))
  bf
  ah)
def jh:DSp:=zO xY vN 1
@[reducible] def xZ:DS:=(zJ (ai (dCall lr (za (zc 0) zm)))
  (af (fF (zL (iE dLe dLe (zc 1) (zc 0) (zc 2))))
  bf
  ah))
def gb:DSp:=zO xZ vT 3
@[reducible] def x8(Ex:DXE):DS:=(af (zL (dOp dEq (n9 "Net" "kind" jf Ex 2 0 [.p 0,.p 1] [] (zc 0) (za (zc 1) zm) zm) (dC (.str "line"))))
  (fY "NoName" eG Ex (zc 1))
  ah)
def gc:bW:=e9 x8 oQ 2
@[reducible] def x_:DS:=(zJ (af (zL (dOp (ao true) (dCB aN (za (zc 0) zm)) (dC (.tup (List.map D.int [3,5,7])))))
  bf
  ah)
  (zJ (af (fF (zL (dCB gC (za (aQ ["text"] [] [0] (aA (zc 0)) (zu 0) bA (dCall je (za (zc 0) zm))) zm))))
  bf
  ah)
  (af (zL (dOp dLt (nE (zc 0)) (dCB aN (za (zc 0) zm))))
  bf
  ah)))
def ly:DSp:=zO x_ wz 1
@[reducible] def ya:DS:=(zJ (ai (bD "Net" "ends" gX 2 0 [.p 0,.p 1] [] (zc 0) (za (zc 2) zm) zm))
  (ac (dCall f_ (za (zc 1) (za (c8 (za (zc 2) zm)) zm)))))
def lz:DSp:=zO ya oY 3
@[reducible] def yb(Ex:DXE):DS:=(zJ (ai (n9 "Net" "ends" lu Ex 2 0 [.p 0,.p 1] [] (zc 0) (za (zc 2) zm) zm))
  (ac (dCall f_ (za (zc 1) (za (c8 (za (zc 2) zm)) zm)))))
def lA:bW:=e9 yb oY 3
@[reducible] def yc:DS:=(zJ (ai (dCall jg (za (zc 0) (za (zc 2) zm))))
  (ac (jW ["frame"] [2] [0] (aA (dCall gY (za (zc 1) zm))) (zu 0) (zL (dCB ez (za (aQ ["way"] [1] [0] (aA (aR tab (zc 0) "ways")) (zu 0) bA (dOp (ao true) (zc 1) (dR (zc 0) bg (aE (dUn ca (dC (.int 1)))) (aE (dC (.int 2)))))) zm))) (aR tab (zc 0) "name"))))
def lB:DSp:=zO yc oZ 3
@[reducible] def yd:DS:=(zJ (ai (dCall jg (za (zc 0) (za (zc 2) zm))))
  (zJ (ad (aQ ["name"] [0] [0] (aA (bD "Net" "names" jb 1 0 [.p 0] [] (zc 0) zm zm)) (zu 0) (zL (dOp dEq (bD "Net" "kind" gW 2 0 [.p 0,.p 1] [] (zc 1) (za (zc 0) zm) zm) (dC (.str "line")))) (zc 0)) (zu 3))
  (ac (dCall f_ (za (zc 1) (za (aQ ["line"] [0,2] [0] (aA (zc 3)) (zu 0) (zL (dOp (ao false) (zc 2) (dOp dIx (bD "Net" "ends" gX 2 0 [.p 0,.p 1] [] (zc 1) (za (zc 0) zm) zm) (dC (.int 0))))) (zc 0)) zm))))))
def lC:DSp:=zO yd o6 3
@[reducible] def ye:DS:=(zJ (ad (aQ ["_law_line"] [5,3] [0] (aA (zc 2)) (zu 0) (m5 (zL (dOp (ao true) (dOp dIx (zc 0) (dC (.int 0))) (zc 1))) (dOr (zL (dOp (ao false) (zc 2) (dOp dIx (zc 0) (dC (.int 1))))) (zL (dOp dLt (dCB aN (za (dOp dIx (zc 0) (dC (.int 1))) zm)) (dC (.int 6)))))) (zc 0)) (zu 6))
  (zJ (ad (aQ ["_law_line"] [4] [0] (aA (zc 6)) (zu 0) (dOr (zL (dOp (ao false) (zc 1) (dOp dIx (zc 0) (dC (.int 2))))) (zL (dOp dLt (dCB aN (za (dOp dIx (zc 0) (dC (.int 2))) zm)) (dC (.int 6))))) (zc 0)) (zu 6))
  (zJ (af (m5 (zL (dOp dLt (dCB aN (za (zc 2) zm)) (dC (.int 14)))) (dOr (zL (dOp dEq (dCB aN (za (zc 6) zm)) (dC (.int 0)))) (zL (dOp dEq (dCall aX (za (zc 0) (za (dC (.int 3)) zm))) (dC (.int 0))))))
  (zJ (ai (dBM "list" bM (zc 2) (za (c8 (za (dCall dU (za (zc 0) (za (zc 1) zm))) (za (dF (za (zc 3) zm)) (za (dF (za (zc 4) zm)) (za (dCall aX (za (zc 0) (za (dC (.int 4)) zm))) zm))))) zm)))
  (ac (dOp dIx (dOp dIx (zc 2) (dUn ca (dC (.int 1)))) (dC (.int 0)))))
  ah)
  (zJ (ad (dCall gZ (za (zc 0) (za (zc 6) zm))) (zu 7))
  (zJ (af (zL (dOp (ao true) (zc 3) (dOp dIx (zc 7) (dC (.int 1)))))
  (ai (dBM "list" bM (dOp dIx (zc 7) (dC (.int 1))) (za (zc 3) zm)))
  ah)
  (zJ (af (zL (dOp (ao true) (zc 4) (dOp dIx (zc 7) (dC (.int 2)))))
  (ai (dBM "list" bM (dOp dIx (zc 7) (dC (.int 2))) (za (zc 4) zm)))
  ah)
  (ac (dOp dIx (zc 7) (dC (.int 0))))))))))
def ji:DSp:=zO ye wO 6
@[reducible] def yf:DS:=(zJ (ai (dCall jh (za (zc 1) zm)))
  (af (zL (dOp (dQ false) (zc 1) (aR tab (zc 0) "kinds")))
  bf
  ah))
def jj:DSp:=zO yf wj 2
@[reducible] def yg:DS:=(zJ (af (zL (dOp (ao true) (dCB aN (za (zc 0) zm)) (dTup (za (dC (.int 1)) (za (dC (.int 2)) zm)))))
  bf
  ah)
  (zJ (cw (aA (zc 0)) (zu 1)
  (ai (dCall ly (za (zc 1) zm))))
  (af (zL (dOp dEq (dCB aN (za (zc 0) zm)) (dC (.int 2))))
  (ai (dCall li (za (dOp dIx (zc 0) (dC (.int 0))) (za (dOp dIx (zc 0) (dC (.int 1))) zm))))
  ah)))
def lD:DSp:=zO yg wx 1
@[reducible] def yh(Ex:DXE):DS:=(zJ (ai (fW gc Ex 2 0 [.p 0,.p 1] [] (za (zc 0) (za (zc 2) zm)) zm))
  (ac (jW ["frame"] [2] [0] (aA (dCall gY (za (zc 1) zm))) (zu 0) (zL (dCB ez (za (aQ ["way"] [1] [0] (aA (aR tab (zc 0) "ways")) (zu 0) bA (dOp (ao true) (zc 1) (dR (zc 0) bg (aE (dUn ca (dC (.int 1)))) (aE (dC (.int 2)))))) zm))) (aR tab (zc 0) "name"))))
def lE:bW:=e9 yh oZ 3
@[reducible] def yi(Ex:DXE):DS:=(zJ (ai (fW gc Ex 2 0 [.p 0,.p 1] [] (za (zc 0) (za (zc 2) zm)) zm))
  (zJ (ad (aQ ["name"] [0] [0] (aA (bD "Net" "names" jb 1 0 [.p 0] [] (zc 0) zm zm)) (zu 0) (zL (dOp dEq (bD "Net" "kind" gW 2 0 [.p 0,.p 1] [] (zc 1) (za (zc 0) zm) zm) (dC (.str "line")))) (zc 0)) (zu 3))
  (ac (dCall f_ (za (zc 1) (za (aQ ["line"] [0,2] [0] (aA (zc 3)) (zu 0) (zL (dOp (ao false) (zc 2) (dOp dIx (bD "Net" "ends" gX 2 0 [.p 0,.p 1] [] (zc 1) (za (zc 0) zm) zm) (dC (.int 0))))) (zc 0)) zm))))))
def lF:bW:=e9 yi o6 3
@[reducible] def yj:DS:=(zJ (ad (aQ ["_law_gate"] [6] [0] (aA (zc 3)) (zu 0) (zL (dOp (ao true) (zc 0) (zc 1))) (zc 0)) (zu 7))
  (zJ (ad (dF (za (zc 4) zm)) (zu 8))
  (zJ (cw (eA (za (dCB fK (za (dCall aX (za (zc 0) (za (dC (.int 3)) zm))) (za (dCB aN (za (zc 7) zm)) zm))) zm)) (zu 9)
  (zJ (ad (dCall gZ (za (zc 0) (za (zc 7) zm))) (zu 10))
  (zJ (ad (aQ ["_law_other"] [10] [0] (aA (zc 7)) (zu 0) (zL (dOp dNe (zc 0) (zc 1))) (zc 0)) (zu 7))
  (zJ (ai (dBM "list" bM (zc 8) (za (dCall ji (za (zc 0) (za (zc 1) (za (zc 2) (za (dOp dIx (zc 8) (dUn ca (dC (.int 1)))) (za (zc 10) (za (dOp aM (zc 6) (zc 8)) zm))))))) zm)))
  (ai (dBM "list" bM (zc 8) (za (zc 10) zm)))))))
  (zJ (ai (dBM "list" bM (zc 8) (za (dCall ji (za (zc 0) (za (zc 1) (za (zc 2) (za (dOp dIx (zc 8) (dUn ca (dC (.int 1)))) (za (zc 5) (za (dOp aM (zc 6) (zc 8)) zm))))))) zm)))
  (zJ (ai (dBM "list" bM (zc 8) (za (zc 5) zm)))
  (ac (dCB cQ (za (zc 8) zm))))))))
def jk:DSp:=zO yj wQ 7
@[reducible] def yk:DS:=(zJ (af (zL (dOp dEq (zc 0) (dC (.int 0))))
  (ac (dCall lz (za (zc 1) (za (zc 2) (za (zc 3) zm)))))
  ah)
  (zJ (af (zL (dOp dEq (zc 0) (dC (.int 1))))
  (ac (dCall lB (za (zc 1) (za (zc 2) (za (zc 3) zm)))))
  ah)
  (ac (dCall lC (za (zc 1) (za (zc 2) (za (zc 3) zm)))))))
def g6:DSp:=zO yk pv 4
@[reducible] def yl:DS:=(zJ (ai (bD "Net" "check_new" jj 2 0 [.p 0,.p 1] [] (zc 0) (za (zc 1) zm) zm))
  (zJ (af (zL (dOp dGe (dCB gO (za (aR tab (zc 0) "lines") zm)) (dC (.int 16))))
  bf
  ah)
  (zJ (ai (dCall jd (za (zc 2) zm)))
  (zJ (ai (dCall jd (za (zc 3) zm)))
  (zJ (ai (bD "Net" "check_nodes" jc 2 0 [.p 0,.p 1] [] (zc 0) (za (zc 2) zm) zm))
  (zJ (ai (bD "Net" "check_nodes" jc 2 0 [.p 0,.p 1] [] (zc 0) (za (zc 3) zm) zm))
  (zJ (ai (dCall gb (za (zc 4) (za (dC (.int 0)) (za (dC (.int 30)) zm)))))
  (zJ (fS (aR tab (zc 0) "kinds") (zc 1) (dC (.str "line")))
  (fS (aR tab (zc 0) "lines") (zc 1) (dTup (za (dCB cQ (za (dCB e7 (za (zc 2) zm)) zm)) (za (dCB cQ (za (dCB e7 (za (zc 3) zm)) zm)) (za (zc 4) zm)))))))))))))
def lG:DSp:=zO yl v7 5
@[reducible] def ym:DS:=(zJ (ai (bD "Net" "check_new" jj 2 0 [.p 0,.p 1] [] (zc 0) (za (zc 1) zm) zm))
  (zJ (af (zL (dOp dGe (dOp gy (dCB gO (za (aR tab (zc 0) "kinds") zm)) (dCB gO (za (aR tab (zc 0) "lines") zm))) (dC (.int 16))))
  bf
  ah)
  (fS (aR tab (zc 0) "kinds") (zc 1) (zc 2))))
def jl:DSp:=zO ym wf 3
@[reducible] def yo:DS:=(zJ (ai (dCall jh (za (zc 1) zm)))
  (zJ (ai (dCall lD (za (zc 2) zm)))
  (zJ (af (zL (dOp (ao true) (zc 3) (dC (.tup (List.map D.int [4,5,6,8,10,12,15,20,24,30,40,60,120])))))
  bf
  ah)
  (zJ (ai (dCall gb (za (zc 4) (za (dC (.int 1)) (za (dC (.int 30)) zm)))))
  (zJ (ai (dCall gb (za (zc 5) (za (dC (.int 0)) (za (dOp gy (zc 3) (dC (.int 1))) zm)))))
  (zJ (ai (dCall gb (za (zc 6) (za (dC (.int 1)) (za (dC (.int 480)) zm)))))
  (zJ (dM tab (zc 0) (zc 1) "name")
  (zJ (dM tab (zc 0) (zc 2) "ways")
  (zJ (dM tab (zc 0) (zc 3) "every")
  (zJ (dM tab (zc 0) (zc 4) "long")
  (zJ (dM tab (zc 0) (zc 5) "release")
  (dM tab (zc 0) (zc 6) "last"))))))))))))
def g8:DSp:=zO yo wu 7
@[reducible] def yp:DS:=(zJ (ad (dCall aX (za (zc 0) (za (dCB aN (za (zc 3) zm)) zm))) (zu 6))
  (zJ (ad (dOp dIx (zc 3) (zc 6)) (zu 7))
  (zJ (ad (dOp dIx (zc 3) (dOp nh (dOp aM (dOp aM (zc 6) (dC (.int 1))) (dCall aX (za (zc 0) (za (dOp gy (dCB aN (za (zc 3) zm)) (dC (.int 1))) zm)))) (dCB aN (za (zc 3) zm)))) (zu 8))
  (zJ (ad (dF (za (dCall jk (za (zc 0) (za (zc 1) (za (zc 2) (za (zc 4) (za (zc 7) (za (zc 8) (za (c8 zm) zm)))))))) zm)) (zu 9))
  (zJ (af (zL (dOp dEq (dCall aX (za (zc 0) (za (dC (.int 4)) zm))) (dC (.int 1))))
  (ai (dBM "list" bM (zc 9) (za (dCall jk (za (zc 0) (za (zc 1) (za (zc 2) (za (zc 4) (za (zc 7) (za (zc 8) (za (dCB iK (za (dSl aF (dOp dIx (zc 9) (dC (.int 0))) (aE (dC (.int 1))) (aE (dUn ca (dC (.int 1))))) zm)) zm)))))))) zm)))
  ah)
  (zJ (ad (dOp dIx (c8 (m9 [12,8,20,24,10,30,15,40,60,12,120])) (dCall aX (za (zc 0) (za (dC (.int 11)) zm)))) (zu 10))
  (zJ (ad (dOp aM (dC (.int 1)) (dCall aX (za (zc 0) (za (dCB fK (za (dC (.int 4)) (za (dOp gy (zc 10) (zc 5)) zm))) zm)))) (zu 11))
  (zJ (ad (dTup (za (dCall dU (za (zc 0) (za (zc 1) zm))) (za (dCB cQ (za (zc 9) zm)) (za (zc 10) (za (zc 11) (za (dCall aX (za (zc 0) (za (zc 10) zm))) (za (dC (.int 0)) zm))))))) (zu 12))
  (zJ (ad (dOp dIx (c8 (za (dC (.int 0)) (za (dC (.int 1)) (za (dC (.int 2)) (za (dOp nc (zc 10) (dC (.int 2))) (za (dC (.int 3)) (za (dOp gy (zc 10) (dC (.int 1))) (za (dC (.int 6)) zm)))))))) (dCall aX (za (zc 0) (za (dC (.int 7)) zm)))) (zu 13))
  (ac (dOp aM (dSl aF (zc 12) bg (aE (dC (.int 5)))) (dTup (za (dOp aM (dCall lq (za (zc 12) (za (zc 2) (za (zc 5) zm)))) (zc 13)) zm)))))))))))))
def lH:DSp:=zO yp wU 6
@[reducible] def yq(Ex:DXE):DS:=(zJ (af (zL (dOp dEq (zc 0) (dC (.int 0))))
  (ac (fW lA Ex 3 0 [.p 0,.p 1,.p 2] [] (za (zc 1) (za (zc 2) (za (zc 3) zm))) zm))
  ah)
  (zJ (af (zL (dOp dEq (zc 0) (dC (.int 1))))
  (ac (fW lE Ex 3 0 [.p 0,.p 1,.p 2] [] (za (zc 1) (za (zc 2) (za (zc 3) zm))) zm))
  ah)
  (ac (fW lF Ex 3 0 [.p 0,.p 1,.p 2] [] (za (zc 1) (za (zc 2) (za (zc 3) zm))) zm))))
def lI:bW:=e9 yq pv 4
@[reducible] def yr:DS:=(ai (bD "Net" "put_node" jl 3 0 [.p 0,.p 1,.p 2] [] (zc 0) (za (zc 1) (za (dC (.str "house")) zm)) zm))
def lJ:DSp:=zO yr vX 2
@[reducible] def yt:DS:=(ai (bD "Net" "put_node" jl 3 0 [.p 0,.p 1,.p 2] [] (zc 0) (za (zc 1) (za (dC (.str "gate")) zm)) zm))
def lK:DSp:=zO yt vZ 2
@[reducible] def yu:DS:=(zJ (ad (dF zm) (zu 2))
  (zJ (ad (aQ ["_law_k"] [2,0] [0] (eA (za (dOp aM (dC (.int 2)) (dCall aX (za (zc 0) (za (dC (.int 3)) zm)))) zm)) (zu 0) bA (dCall dU (za (zc 2) (za (zc 1) zm)))) (zu 3))
  (zJ (ad (aQ ["_law_k"] [2,0] [0] (eA (za (dCall aX (za (zc 0) (za (dC (.int 4)) zm))) zm)) (zu 0) bA (dCall dU (za (zc 2) (za (zc 1) zm)))) (zu 4))
  (zJ (ad (dOp dIx (c8 (m9 [0,1,2,0,3,1,5,7])) (dCall aX (za (zc 0) (za (dC (.int 8)) zm)))) (zu 5))
  (zJ (ad (dF zm) (zu 6))
  (zJ (ad (aQ ["_law_k"] [4,3,6,2,0,5] [0] (eA (za (dOp aM (dC (.int 1)) (dCall aX (za (zc 0) (za (zc 1) zm)))) zm)) (zu 0) bA (dCall lH (za (zc 5) (za (zc 4) (za (zc 3) (za (zc 2) (za (zc 1) (za (zc 6) zm)))))))) (zu 7))
  (ac (dTup (za (zc 3) (za (zc 4) (za (zc 6) (za (zc 7) (za (zc 5) (za (zc 2) zm))))))))))))))
def lL:DSp:=zO yu wW 2
@[reducible] def yv:DS:=(zJ (ad (uh "Net" lh 1 0 [.p 0] [] zm zm) (zu 1))
  (zJ (cw (aA (dOp dIx (zc 0) (dC (.int 0)))) (zu 2)
  (ai (bD "Net" "house" lJ 2 0 [.p 0,.p 1] [] (zc 1) (za (zc 2) zm) zm)))
  (zJ (cw (aA (dOp dIx (zc 0) (dC (.int 1)))) (zu 2)
  (ai (bD "Net" "gate" lK 2 0 [.p 0,.p 1] [] (zc 1) (za (zc 2) zm) zm)))
  (zJ (cw (aA (dOp dIx (zc 0) (dC (.int 2)))) (nO 4 (gx (zu 2) (gx (zu 3) (gx (zu 4) (gx (zu 5) sH)))))
  (ai (bD "Net" "line" lG 4 1 [.p 0,.p 1,.p 2,.p 3,.k 0] [] (zc 1) (za (zc 2) (za (dCB cQ (za (zc 3) zm)) (za (dCB cQ (za (zc 4) zm)) zm))) (za (zc 5) zm))))
  (ac (zc 1))))))
def lM:DSp:=zO yv wY 1
@[reducible] def yw:DS:=(ac (iW "Frame" g8 3 4 [.p 0,.p 1,.p 2,.k 0,.k 1,.k 2,.k 3] [] (za (dOp dIx (zc 0) (dC (.int 0))) (za (dOp dIx (zc 0) (dC (.int 1))) zm)) (za (dOp dIx (zc 0) (dC (.int 2))) (za (dOp dIx (zc 0) (dC (.int 3))) (za (dOp dIx (zc 0) (dC (.int 4))) (za (dOp dIx (zc 0) (dC (.int 5))) zm))))))
def lN:DSp:=zO yw w6 1
@[reducible] def yx:DS:=(ac (aQ ["_law_row_here"] [] [0] (aA (zc 0)) (zu 0) bA (dCall lN (za (zc 0) zm))))
def lO:DSp:=zO yx w_ 1
@[reducible] def pF:DS:=(zJ (ad (dCall j4 (za (zc 0) zm)) (zu 1))
  (zJ (ad (dCall lL (za (zc 1) (za (dC (.int 5)) zm))) (zu 2))
  (zJ (ad (dCall lM (za (zc 2) zm)) (zu 3))
  (zJ (ad (dCall lO (za (dOp dIx (zc 2) (dC (.int 3))) zm)) (zu 4))
  (zJ (ad (dCall aX (za (zc 1) (za (dC (.int 3)) zm))) (zu 5))
  (zJ (ad (dOp aM (dOp dIx (zc 2) (dC (.int 0))) (dOp dIx (zc 2) (dC (.int 1)))) (zu 6))
  (zJ (ad (aQ ["_law_line"] [] [0] (aA (dOp dIx (zc 2) (dC (.int 2)))) (zu 0) bA (dOp dIx (zc 0) (dC (.int 0)))) (zu 7))
  (zJ (ad (dIf (zL (dOp dEq (zc 5) (dC (.int 0)))) (zc 7) (zc 6)) (zu 8))
  (zJ (ad (dIf (zL (dOp dEq (zc 5) (dC (.int 0)))) (zc 6) (zc 7)) (zu 9))
  (zJ (ad (dCall gZ (za (zc 1) (za (dOp aM (zc 9) (c8 (za (dCall dU (za (zc 1) (za (dOp dIx (zc 2) (dC (.int 5))) zm))) zm))) zm))) (zu 10))
  (zJ (ad (dC (.str "none")) (zu 11))
  (zJ (oj ja 12 (λEx=>(ai (fW lI Ex 4 0 [.p 0,.p 1,.p 2,.p 3] [] (za (zc 5) (za (zc 3) (za (zc 4) (za (zc 10) zm)))) zm)))
  (ad (oi pC (zc 12)) (zu 11)))
  (zJ (af (zL (dOp dNe (zc 11) (zc 10)))
  (ac (dC (.bl false)))
  ah)
  (zJ (cw (aA (zc 8)) (zu 13)
  (zJ (ad (dCall g6 (za (zc 5) (za (zc 3) (za (zc 4) (za (zc 13) zm))))) (zu 14))
  (zJ (af (zL (dOp dNe (zc 14) (dCall g5 (za (zc 2) (za (zc 5) (za (zc 13) zm))))))
  (ac (dC (.bl false)))
  ah)
  (zJ (ai (dBM "list" bM (zc 14) (za (dC (.str "zzz")) zm)))
  (af (zL (dOp dNe (dCall g6 (za (zc 5) (za (zc 3) (za (zc 4) (za (zc 13) zm))))) (dCall g5 (za (zc 2) (za (zc 5) (za (zc 13) zm))))))
  (ac (dC (.bl false)))
  ah)))))
  (ac (dOp dEq (dCB aN (za (zc 4) zm)) (dCB aN (za (dOp dIx (zc 2) (dC (.int 3))) zm))))))))))))))))))
local macro_rules | `(tactic| rw_mod_cast [$rs,*])=>do
 let ts:Array (Lean.TSyntax `term):=rs.getElems.map λr=>⟨r.raw[1]⟩
 let ids:Array (Lean.TSyntax `term):=(("zJ ad zc dC dOp dUn Jy m5 dOr fF m6 I_ m7 dIf Jz Js nr Jr zm za m9 dTup c8 dF ah Ja Jb ai ac Jc af bf zu sH JB JC JD JE Jd m_ Er Ju Jv Jw Ep cw dCall dCB aQ jW Kh Ki Kj Kk Kl Km aA Kd Ke Kf Kg Jt j5 Jq dSl bg JA dJ JO bA Ji Kw Ks dBM Jh Kt Ku Kv Kp Jx Kq Kr Es JH Et JI JJ gy nc nh Je dLt dGt dLe dGe Jf Jg JF e_i JG JK JL nt Ew JM JN JP JQ JR JS JT JU JV JW Ey JX JY JZ J3 J4 J5 J6 J7 J8 J9 J_ Ka Kb Kc D5 Kx Ky KC KD KE KF KG KH KI Nat.reduceAdd Int.cast_ofNat_Int Int.reduceEq decide_true decide_false List.all_cons List.all_nil List.any_cons List.any_nil id_eq Bool.and_true Bool.true_and Bool.or_false KJ KK KL KM KN KO KP KQ Kz KA KB fW n9 K4 K5 kG K6 K7 K8 K9 Lg Ld Le Lf K_ La Lb Lc nE K1 KZ K0 aR EK KS KU KR KW KY bD uh K3 E5 Lh Li Lj Lk Ll Lm Ln Lo Lp Lq Lr Ls Lu Lv Lw xv Lx Ly Lz LA LB sel pick List.getD_cons_zero List.getD_cons_succ beq_self_eq_true Bool.and_self cond_true Eg Jj Jk Kn Ko iG ends eU zF tU tV Em En Eo Jl Jm Jn Jo Jp List.length_cons List.length_nil List.map_cons List.map_nil List.set_cons_zero List.set_cons_succ List.getElem?_cons_zero List.getElem?_cons_succ List.cons_append List.nil_append List.replicate Option.join_some Option.join_none true_and and_true if_true Bool.true_eq_false Bool.false_eq_true if_false Bool.not_true Bool.not_false".splitOn " ").map λs=>(⟨Lean.mkIdent s.toName⟩:Lean.TSyntax `term)).toArray
 let all:=ids++ts
 `(tactic| simp only[↓EV, ↓EW, ↓EX, ↓EY, ↓EZ, ↓E1, ↓E2, ↓E4, $[$all:term],*])
local macro_rules | `(tactic| walk_at "e")=> `(tactic| rw_mod_cast [])
local macro_rules | `(tactic| walk_at "x")=> `(tactic| repeat' first|exact E7|exact E9|exact E6 rfl|with_reducible apply E_|with_reducible apply E8|exact gI tU|exact gI tV|exact gI Em|exact gI En|exact gI Eo|exact gI E5|exact ux tU|exact ux tV|exact Ff|exact Fe|apply Fd|with_reducible apply Fa|with_reducible apply Fb|with_reducible apply Fc|exact Fg|with_reducible apply Fi|with_reducible apply Fj|with_reducible apply Fk|with_reducible apply Fl|with_reducible apply Fm|with_reducible apply Fn|with_reducible apply Fo|with_reducible apply Fp|with_reducible apply Fq|with_reducible apply Fr | (show _≠[];simp;done) | (show _ < List.length _;simp;done) | (show List.length _<=1000;simp;done) | (show List.length _+List.length _<=1000;simp;done))
def letters:Str:="abcdefghijklmnopqrstuvwxyz"
theorem GK:∀i:_root_.Fin 26,letters.cps.toList[i.val]? = some (97+i.val):=by decide+kernel
theorem yy(h0:0<=v)(h1:v < 26):atI letters.cps.toList v=some (97+v.toNat):=by
 have h:=d_ (GK ⟨v.toNat,by omega⟩);rw[show((v.toNat:Nat):Int)=v by omega] at h;exact h
def dW(k:Nat):Str:=⟨(List.replicate (1+k / 26) (97+k % 26)).toArray⟩
def pG:List Str:=(List.range 104).map dW
theorem GL:pG.Nodup:=by decide+kernel
theorem GM:∀k:_root_.Fin 104,((dW k.val).cps.toList.length<=8/\1<=(dW k.val).cps.toList.length)/\(dW k.val).cps.toList.all (λc=>decide (97<=c/\c<=122))=true:=by decide+kernel
theorem GN(h:ns.length < 104)(all:∀k,k < 104->dW k∈ns):False:=by
 have hs:pG ⊆ ns:=λx hx=>by
  obtain⟨k,hk,rfl⟩:=List.mem_map.mp hx;exact all k (List.mem_range.mp hk)
 have:=List.Nodup.length_le_of_subset GL hs;have e:pG.length=104:=by decide+kernel
 omega
theorem pH{s:Nat}{ds:List D}(hs:μ s=some .draw)(h0:ds≠[])(hl:ds.length<=1000)(q:∀(i:Nat) d,ds[i]? = some d->Q d μ):gZ [.cell s,.lst ds] μ Q:=by
 have hp:0 < ds.length:=List.length_pos_iff.mpr h0;refine⟨rfl,?_⟩;walk_at "e"
 refine⟨hs,by omega,by omega,λv v0 v1=>?_⟩;obtain⟨d,e1,e2⟩:=nq v0 v1;rw_mod_cast [e1];exact⟨_,.refl _,q _ d e2⟩
theorem pI(cs:List Nat):(Str.join (Str.ofString "") (cs.map λc=>(⟨#[c]⟩:Str))).cps.toList=cs:=by
 show(Str.join Str.empty (cs.map λc=>(⟨#[c]⟩:Str))).cps.toList=cs;rw[rZ,List.map_map];induction cs with
 |nil=>rfl
 |cons c r ih=>rw[List.map_cons,List.flatten_cons,ih];rfl
theorem GO(cs:List Nat):iy (cs.map λc=>(⟨#[c]⟩:Str))=cs.length+cs.length:=by
 unfold iy;rw[List.map_map,List.length_map];congr 1
 induction cs with
 |nil=>rfl
 |cons c r ih=>rw[List.map_cons,List.sum_cons,ih,List.length_cons];show 1+r.length=_;omega
theorem lP{s:Nat}(hs:μ s=some .draw)(hn:μ na=some (.lst (ns.map D.str)))(hl:ns.length < 100)(q:∀x,Nm x->x∉ns->Q (.str x) (zR μ na (.lst ((ns++[x]).map D.str)))):dU [.cell s,.cell na] μ Q:=by
 have hz:(200:Nat)<=sizeLine:=by decide
 have el:(Str.ofString "abcdefghijklmnopqrstuvwxyz")=letters:=rfl;have ll:letters.length<=sizeLine:=by decide
 refine⟨rfl,stp λN1 h1=>?_⟩;walk_at "e"
 refine h1 _ _ (dH (λρ μ'=>∃x3 x4 x5,ρ=[some (.cell s),some (.cell na),some (.str letters),x3,x4,x5,none]/\μ'=μ) (λN hN=>?_) ?_)
 .walk_at "e"
  refine⟨by decide,by decide,?_⟩;refine cR (λi ρ μ'=>∃x3 x4 x5,ρ=[some (.cell s),some (.cell na),some (.str letters),x3,x4,x5,none]/\μ'=μ) ⟨_,_,_,rfl,rfl⟩ ?_ (λρ μ' h=>hN _ _ h);rintro i d ρ μ' hd ⟨x3,x4,x5,rfl,rfl⟩ M hM;refine stp λM1 g1=>?_
  walk_at "e"
  refine⟨hs,by decide,by decide,λv v0 v1=>g1 _ _ (dH (λρ μ2=>∃x3 x5 size,ρ=[some (.cell s),some (.cell na),some (.str letters),x3,some (.int size),x5,none]/\μ2=μ'/\1<=size/\size<=8) (λN hN=>?_) ?_)⟩
  .walk_at "e"
   split
   .exact⟨hs,by decide,by decide,λv v0 v1=>hN _ _ ⟨_,_,_,rfl,rfl,by omega,by omega⟩⟩
   .exact hN _ _ ⟨_,_,_,rfl,rfl,by omega,by omega⟩
  rintro ρ μ2 ⟨y3,y5,size,rfl,rfl,z1,z8⟩;refine stp λM2 g2=>?_
  walk_at "e"
  refine⟨by decide,by omega,by omega,?_⟩;refine gG (λi ys μ3=>μ3=μ2/\∃cs:List Nat,ys=(cs.map λc=>(⟨#[c]⟩:Str)).map D.str/\cs.length=i/\∀c∈cs,97<=c/\c<=122) ⟨rfl,[],rfl,rfl,λc hc=>by cases hc⟩ ?_ ?_
  .rintro i d ys μ3 hd ⟨rfl,cs,rfl,hc,hcs⟩;obtain⟨hi,rfl⟩:=iO hd;refine⟨by rw[List.length_map,List.length_map];omega,λN hN=>?_⟩;walk_at "e"
   refine⟨hs,by decide,by decide,λv v0 v1=>?_⟩;rw_mod_cast [yy v0 v1];refine⟨ll,hN _ _ ⟨rfl,cs++[97+v.toNat],by rw[List.map_append,List.map_append];rfl,by rw[List.length_append,hc];rfl,λc h=>?_⟩⟩;rcases List.mem_append.mp h with h|h
   .exact hcs c h
   .rw[List.mem_singleton.mp h];omega
  rintro ys μ3 ⟨rfl,cs,rfl,hc,hcs⟩;rw[iP] at hc;refine⟨cs.map λc=>(⟨#[c]⟩:Str),rfl,by decide,by rw[GO];omega,g2 _ _ ?_⟩;have nm:Nm (Str.join (Str.ofString "") (cs.map λc=>(⟨#[c]⟩:Str))):=⟨by rw[pI];omega,by rw[pI];omega,by rw[pI];exact hcs⟩;generalize Str.join (Str.ofString "") (cs.map λc=>(⟨#[c]⟩:Str))=x at nm
  rw_mod_cast [fM hn,Bool.true_xor];split
  .rename_i c;have c':x∉ns:=by simpa using c
   rw_mod_cast [hn];refine⟨by rw[List.length_map];omega,_,.refl _,?_⟩;have:=q x nm c';rw[List.map_append] at this;exact this
  .exact hM _ _ ⟨_,_,_,rfl,rfl⟩
 rintro ρ μ' ⟨x3,x4,x5,rfl,rfl⟩;refine stp λM1 g1=>?_
 walk_at "e"
 refine⟨by decide,by decide,?_⟩;refine cR (λi ρ μ2=>∃x5 x6,ρ=[some (.cell s),some (.cell na),some (.str letters),x3,x4,x5,x6]/\μ2=μ'/\∀k,k < i->dW k∈ns) ⟨_,_,rfl,rfl,λk hk=>absurd hk (Nat.not_lt_zero k)⟩ ?_ ?_
 .rintro j d ρ μ2 hd ⟨x5,x6,rfl,rfl,hb⟩ M hM;obtain⟨hj,rfl⟩:=iO hd;have hj':j < 104:=hj;refine stp λM2 g2=>?_
  have e0:(0:Int)+(j:Int)=j:=by omega
  rw[e0];rw_mod_cast [yy (v:=(j:Int) % 26) (by omega) (by omega)];refine⟨by decide,ll,⟨by decide,by decide⟩,by omega,by omega,λy hy=>g2 _ _ ?_⟩;have ex:y=dW j:=Dh (by
   rw[hy];show List.replicate (1+(j:Int) / 26).toNat (97+((j:Int) % 26).toNat)=List.replicate (1+j / 26) (97+j % 26);congr 1<;>omega)
  subst ex;have nm:Nm (dW j):=by
   obtain⟨⟨h8,h1⟩,ha⟩:=GM ⟨j,hj'⟩;exact⟨h1,h8,λc hc=>of_decide_eq_true (List.all_eq_true.mp ha c hc)⟩
  rw_mod_cast [fM hn,Bool.true_xor];split
  .rename_i c;have c':dW j∉ns:=by simpa using c
   rw_mod_cast [hn];refine⟨by rw[List.length_map];omega,_,.refl _,?_⟩;have:=q _ nm c';rw[List.map_append] at this;exact this
  .rename_i c;have c':dW j∈ns:=by simpa using c
   refine hM _ _ ⟨_,_,rfl,rfl,λk hk=>?_⟩;by_cases e:k=j
   .rw[e];exact c'
   .exact hb k (by omega)
 .rintro ρ μ2 ⟨x5,x6,rfl,rfl,hb⟩;rw[iP] at hb;exact(GN (by omega) hb).elim
def aH(r:LR):D:= .lst [.str r.nm,.cell r.sa,.cell r.ea,.int r.w]
structure WD(μ:Mu)(s na la:Nat)(ns:List Str)(ls:List LR):Prop where
 ds:μ s=some .draw
 dn:μ na=some (.lst (ns.map D.str))
 dl:μ la=some (.lst (ls.map aH))
 nl:na≠la
 rs:∀r∈ls,μ r.sa=some (.lst (r.S.map D.str))/\μ r.ea=some (.lst (r.E.map D.str))
 ap:∀r∈ls,r.sa≠na/\r.sa≠la/\r.ea≠na/\r.ea≠la
 nd:∀(i j:Nat) (r r':LR),ls[i]? = some r->ls[j]? = some r'->(r.sa=r'.sa->i=j)/\(r.ea=r'.ea->i=j)/\r.sa≠r'.ea
def a9(na la:Nat)(μ:Mu)(ls:List LR)(μ':Mu)(ls':List LR):Prop:=∀k c,μ k=some c->k≠na->k≠la->(∀r∈ls,k≠r.sa/\k≠r.ea)->μ' k=some c/\∀r∈ls',k≠r.sa/\k≠r.ea
theorem a9.refl:a9 na la μ ls μ ls:=λ_ _ e _ _ h=>⟨e,h⟩
theorem a9.trans{μ1 μ2:Mu}{ls1 ls2:List LR}(a:a9 na la μ ls μ1 ls1)(b:a9 na la μ1 ls1 μ2 ls2):a9 na la μ ls μ2 ls2:=λk c e h1 h2 h3=>by
 obtain⟨e1,n1⟩:=a k c e h1 h2 h3;exact b k c e1 h1 h2 n1
theorem WD.sna{s:Nat}(W:WD μ s na la ns ls):s≠na:=λz=>by have:=W.ds;rw[z,W.dn] at this;cases this
theorem WD.sla{s:Nat}(W:WD μ s na la ns ls):s≠la:=λz=>by have:=W.ds;rw[z,W.dl] at this;cases this
theorem WD.names{s:Nat}{ns':List Str}(W:WD μ s na la ns ls):WD (zR μ na (.lst (ns'.map D.str))) s na la ns' ls where
 ds:=by rw[zq W.sna];exact W.ds
 dn:=zF
 dl:=by rw[zq (Ne.symm W.nl)];exact W.dl
 nl:=W.nl
 rs:=λr hr=>by
  obtain⟨a1,a2,a3,a4⟩:=W.ap r hr;rw[zq a1,zq a3];exact W.rs r hr
 ap:=W.ap
 nd:=W.nd
theorem a9.names{c:Ct}:a9 na la μ ls (zR μ na c) ls:=λk c e h1 h2 h3=>⟨by rw[zq h1];exact e,h3⟩
theorem WD.cell{s k:Nat}{c:Ct}(W:WD μ s na la ns ls)(hk:μ k=none):WD (zR μ k c) s na la ns ls where
 ds:=by rw[zq (λz=>by have:=W.ds;rw[z,hk] at this;cases this)];exact W.ds
 dn:=by rw[zq (λz=>by have:=W.dn;rw[z,hk] at this;cases this)];exact W.dn
 dl:=by rw[zq (λz=>by have:=W.dl;rw[z,hk] at this;cases this)];exact W.dl
 nl:=W.nl
 rs:=λr hr=>by
  obtain⟨a1,a2⟩:=W.rs r hr;rw[zq (λz=>by rw[z,hk] at a1;cases a1),zq (λz=>by rw[z,hk] at a2;cases a2)];exact⟨a1,a2⟩
 ap:=W.ap
 nd:=W.nd
theorem pJ{r:LR}(h:r∈ls):∃i:Nat,ls[i]? = some r:=List.getElem?_of_mem h
theorem WD.line{s k1 k2:Nat}{w:Int}{a0:Addr}(W:WD μ s na la ns ls)(h1:μ k1=some (.lst (S.map D.str)))(h2:μ k2=some (.lst (E.map D.str)))(n12:k1≠k2)
  (f1:k1≠na/\k1≠la/\∀r∈ls,k1≠r.sa/\k1≠r.ea)(f2:k2≠na/\k2≠la/\∀r∈ls,k2≠r.sa/\k2≠r.ea):WD (zR μ la (.lst ((ls++[(⟨a0,k1,k2,x,S,E,w⟩:LR)]).map aH))) s na la ns (ls++[(⟨a0,k1,k2,x,S,E,w⟩:LR)]) where
 ds:=by rw[zq W.sla];exact W.ds
 dn:=by rw[zq W.nl];exact W.dn
 dl:=zF
 nl:=W.nl
 rs:=λr hr=>by
  rcases List.mem_append.mp hr with hr|hr
  .obtain⟨a1,a2,a3,a4⟩:=W.ap r hr;rw[zq a2,zq a4];exact W.rs r hr
  .rw[List.mem_singleton.mp hr];exact⟨by rw[zq f1.2.1];exact h1,by rw[zq f2.2.1];exact h2⟩
 ap:=λr hr=>by
  rcases List.mem_append.mp hr with hr|hr
  .exact W.ap r hr
  .rw[List.mem_singleton.mp hr];exact⟨f1.1,f1.2.1,f2.1,f2.2.1⟩
 nd:=λi j r r' hi hj=>by
  have key:∀{i:Nat} {r:LR},(ls++[(⟨a0,k1,k2,x,S,E,w⟩:LR)])[i]? = some r->ls[i]? = some r\/(i=ls.length/\r=⟨a0,k1,k2,x,S,E,w⟩):=λ{i r} h=>by
   by_cases hl:i < ls.length
   .rw[List.getElem?_append_left hl] at h;exact .inl h
   .rw[List.getElem?_append_right (by omega)] at h;by_cases e:i - ls.length=0
    .rw[e] at h;cases h;exact .inr ⟨by omega,rfl⟩
    .rw[List.getElem?_eq_none (by simp;omega)] at h;cases h
  rcases key hi with a|⟨a,rfl⟩<;>rcases key hj with b|⟨b,rfl⟩
  .exact W.nd i j r r' a b
  .obtain⟨p1,p2⟩:=f1.2.2 r (List.mem_of_getElem? a);obtain⟨p3,p4⟩:=f2.2.2 r (List.mem_of_getElem? a);exact⟨λz=>absurd z.symm p1,λz=>absurd z.symm p4,λz=>p3 z.symm⟩
  .obtain⟨p1,p2⟩:=f1.2.2 r' (List.mem_of_getElem? b);obtain⟨p3,p4⟩:=f2.2.2 r' (List.mem_of_getElem? b);exact⟨λz=>absurd z p1,λz=>absurd z p4,λz=>p2 z⟩
  .exact⟨λ_=>by omega,λ_=>by omega,n12⟩
theorem mn{i:Nat}{r r':LR}(hr:ls[i]? = some r)(h:aH r'=aH r):(ls.set i r').map aH=ls.map aH:=by
 rw[List.map_set,h];apply List.ext_getElem?;intro j;by_cases e:i=j
 .subst e;rw[List.getElem?_set_self (by rw[List.length_map];exact(List.getElem?_eq_some_iff.mp hr).1),List.getElem?_map,hr];rfl
 .rw[List.getElem?_set_ne e]
theorem WD.ends{μ':Mu}{s i:Nat}{r:LR}(W:WD μ s na la ns ls)(hr:ls[i]? = some r)(h1:μ' r.sa=some (.lst (S.map D.str)))(h2:μ' r.ea=some (.lst (E.map D.str)))(ho:∀k,k≠r.sa->k≠r.ea->μ' k=μ k):WD μ' s na la ns (ls.set i {r with S:=S,E:=E}):=by
 have hm:=List.mem_of_getElem? hr;obtain⟨a1,a2,a3,a4⟩:=W.ap r hm;obtain⟨b1,b2⟩:=W.rs r hm;have key:∀{j:Nat} {q:LR},(ls.set i {r with S:=S,E:=E})[j]? = some q->(j=i/\q={r with S:=S,E:=E})\/(j≠i/\ls[j]? = some q):=λ{j q} h=>by
  by_cases e:i=j
  .subst e;rw[List.getElem?_set_self (List.getElem?_eq_some_iff.mp hr).1] at h;cases h;exact .inl ⟨rfl,rfl⟩
  .rw[List.getElem?_set_ne e] at h;exact .inr ⟨λz=>e z.symm,h⟩
 refine⟨?_,?_,?_,W.nl,?_,?_,?_⟩
 .rw[ho s (λz=>by have:=W.ds;rw[z,b1] at this;cases this) (λz=>by have:=W.ds;rw[z,b2] at this;cases this)];exact W.ds
 .rw[ho na (Ne.symm a1) (Ne.symm a3)];exact W.dn
 .rw[ho la (Ne.symm a2) (Ne.symm a4),mn (r':={r with S:=S,E:=E}) hr rfl];exact W.dl
 .intro q hq;obtain⟨j,hj⟩:=pJ hq;rcases key hj with⟨rfl,rfl⟩|⟨hne,hj'⟩
  .exact⟨h1,h2⟩
  .obtain⟨c1,c2,c3⟩:=W.nd j i q r hj' hr;obtain⟨d1,d2,d3⟩:=W.nd i j r q hr hj';rw[ho q.sa (λz=>hne (c1 z)) c3,ho q.ea (Ne.symm d3) (λz=>hne (c2 z))];exact W.rs q (List.mem_of_getElem? hj')
 .intro q hq;obtain⟨j,hj⟩:=pJ hq;rcases key hj with⟨rfl,rfl⟩|⟨hne,hj'⟩
  .exact⟨a1,a2,a3,a4⟩
  .exact W.ap q (List.mem_of_getElem? hj')
 .intro j j' q q' hj hj';rcases key hj with⟨rfl,rfl⟩|⟨hne,hj1⟩<;>rcases key hj' with⟨rfl,rfl⟩|⟨hne',hj2⟩
  .exact⟨λ_=>rfl,λ_=>rfl,(W.nd _ _ r r hr hr).2.2⟩
  .exact W.nd _ j' r q' hr hj2
  .exact W.nd j _ q r hj1 hr
  .exact W.nd j j' q q' hj1 hj2
theorem GP{c:DT}{t u:DS}{D0:cN}{ρ:aj}(P:Bool->Mu->Prop)(hc:∀R:Bool->Mu->Prop,(∀b μ1,P b μ1->R b μ1)->c ρ μ R)(h:∀b μ1,P b μ1->if b=true then t D0 ρ μ1 else u D0 ρ μ1):af c t u D0 ρ μ:=hc _ h
theorem yz{s:Nat}{bd:List Str}{one two:Str}(W:WD μ s na la ns ls)(hn:ns.length < 100)(h14:ls.length<=14)(hfit:ls.length=14->∃r∈ls,cI one bd r=true/\dz two r=true)(h6:∀r∈ls,r.S.length<=6/\r.E.length<=6)
  (q:∀x μ' ns' ls',WD μ' s na la ns' ls'->a9 na la μ ls μ' ls'->iA one two bd ns ls x ns' ls'->Q (.str x) μ'):ji [.cell s,.cell na,.cell la,.str one,.str two,.lst (bd.map D.str)] μ Q:=by
 have hz:(200:Nat)<=sizeLine:=by decide
 refine⟨rfl,stp λN1 h1=>?_⟩;rw_mod_cast [W.dl];refine⟨by decide,db ls aH (cI one bd) aH (by omega) (λr hr Y Z hY hZ=>?_) (h1 _ _ (stp λN2 h2=>?_)) W.dl⟩
 .obtain⟨r1,r2⟩:=W.rs r hr;unfold aH at hY ⊢;rw_mod_cast [j8,fM r1,r1,List.length_map,Bool.true_xor,Bool.false_xor];unfold cI at hY hZ;by_cases c1:r.nm∈bd
  .rw_mod_cast [decide_eq_true c1];exact hZ (by simp[c1])
  .rw_mod_cast [decide_eq_false c1];by_cases c2:one∈r.S
   .rw_mod_cast [decide_eq_true c2];exact hY (by simp[c1,c2])
   .rw_mod_cast [decide_eq_false c2];by_cases c3:r.S.length < 6
    .rw_mod_cast [show decide ((r.S.length:Int) < 6)=true from decide_eq_true (by omega)];exact hY (by simp[c1,c3])
    .rw_mod_cast [show decide ((r.S.length:Int) < 6)=false from decide_eq_false (by omega)];exact hZ (by simp[c2,c3])
 walk_at "e"
 have hl1:(ls.filter (cI one bd)).length<=ls.length:=List.length_filter_le _ _;refine⟨by decide,db (ls.filter (cI one bd)) aH (dz two) aH (by omega) (λr hr Y Z hY hZ=>?_) (h2 _ _ (stp λN3 h3=>?_)) trivial⟩
 .obtain⟨r1,r2⟩:=W.rs r (List.mem_filter.mp hr).1;unfold aH at hY ⊢;rw_mod_cast [fM r2,r2,List.length_map,Bool.false_xor];unfold dz at hY hZ;by_cases c2:two∈r.E
  .rw_mod_cast [decide_eq_true c2];exact hY (by simp[c2])
  .rw_mod_cast [decide_eq_false c2];by_cases c3:r.E.length < 6
   .rw_mod_cast [show decide ((r.E.length:Int) < 6)=true from decide_eq_true (by omega)];exact hY (by simp[c3])
   .rw_mod_cast [show decide ((r.E.length:Int) < 6)=false from decide_eq_false (by omega)];exact hZ (by simp[c2,c3])
 generalize hfl:(ls.filter (cI one bd)).filter (dz two)=fl
 have hfm:∀r∈fl,r∈ls/\cI one bd r=true/\dz two r=true:=λr hr=>by
  rw[<- hfl] at hr;obtain⟨a,b⟩:=List.mem_filter.mp hr;obtain⟨c,d⟩:=List.mem_filter.mp a;exact⟨c,d,b⟩
 have hfn:ls.length=14->fl≠[]:=λe z=>by
  obtain⟨r,hr,f1,f2⟩:=hfit e;have:r∈fl:=by rw[<- hfl];exact List.mem_filter.mpr ⟨List.mem_filter.mpr ⟨hr,f1⟩,f2⟩
  rw[z] at this;cases this
 have hfl14:fl.length<=14:=by rw[<- hfl];exact Nat.le_trans (List.length_filter_le _ _) (Nat.le_trans hl1 h14)
 have new:ls.length < 14->zJ (ai (dBM "list" bM (zc 2) (za (c8 (za (dCall dU (za (zc 0) (za (zc 1) zm))) (za (dF (za (zc 3) zm)) (za (dF (za (zc 4) zm)) (za (dCall aX (za (zc 0) (za (dC (.int 4)) zm))) zm))))) zm)))
  (ac (dOp dIx (dOp dIx (zc 2) (dUn ca (dC (.int 1)))) (dC (.int 0)))) {(ends Q) with nx:=N3} [some (.cell s),some (.cell na),some (.cell la),some (.str one),some (.str two),some (.lst (bd.map D.str)),some (.lst (fl.map aH)),none] μ:=by
  intro hlt;refine stp λM1 g1=>?_
  rw_mod_cast [W.dl];refine lP W.ds W.dn hn λx nm hx=>?_
  refine⟨by decide,λk1 hk1=>⟨by decide,λk2 hk2=>?_⟩⟩;have W1:WD _ s na la (ns++[x]) ls:=W.names (ns':=ns++[x]);have W2:WD _ s na la (ns++[x]) ls:=W1.cell (c:= .lst [.str one]) hk1;have W3:WD _ s na la (ns++[x]) ls:=W2.cell (c:= .lst [.str two]) hk2;refine⟨W3.ds,by decide,by decide,λw w0 w1=>⟨by decide,?_⟩⟩;rw[W3.dl];walk_at "e"
  refine⟨by rw[List.length_map];omega,g1 _ _ ?_⟩;have n1:∀k c,μ k=some c->k1≠k:=λk c e z=>by
   subst z;by_cases e2:k1=na
   .subst e2;rw[zF] at hk1;cases hk1
   .rw[zq e2,e] at hk1;cases hk1
  have n12:k1≠k2:=λz=>by subst z;rw[zF] at hk2;cases hk2
  have n2:∀k c,μ k=some c->k2≠k:=λk c e z=>by
   subst z;rw[zq (Ne.symm n12)] at hk2;by_cases e2:k2=na
   .subst e2;rw[zF] at hk2;cases hk2
   .rw[zq e2,e] at hk2;cases hk2
  have WL:=W3.line (x:=x) (S:=[one]) (E:=[two]) (w:=w) (a0:=0) (k1:=k1) (k2:=k2) (by rw[zq n12,zF];rfl) (by rw[zF];rfl) n12 ⟨n1 _ _ W.dn,n1 _ _ W.dl,λr hr=>⟨n1 _ _ (W.rs r hr).1,n1 _ _ (W.rs r hr).2⟩⟩ ⟨n2 _ _ W.dn,n2 _ _ W.dl,λr hr=>⟨n2 _ _ (W.rs r hr).1,n2 _ _ (W.rs r hr).2⟩⟩;have eL:List.map aH (ls++[({a:=0,sa:=k1,ea:=k2,nm:=x,S:=[one],E:=[two],w:=w}:LR)])=ls.map aH++[.lst [.str x,.cell k1,.cell k2,.int w]]:=by rw[List.map_append];rfl
  rw[eL] at WL;rw_mod_cast [qQ];refine⟨_,.refl _,q x _ _ _ WL ?_ (.new 0 k1 k2 w hx nm hlt w0 w1)⟩;intro k c e hna hla hr;refine⟨?_,λr hr'=>?_⟩
  .rw[zq hla,zq (λz=>n2 k c e z.symm),zq (λz=>n1 k c e z.symm),zq hna];exact e
  .rcases List.mem_append.mp hr' with hr' |hr'
   .exact hr r hr'
   .rw[List.mem_singleton.mp hr'];exact⟨λz=>n1 k c e z.symm,λz=>n2 k c e z.symm⟩
 have old:fl≠[]->N3 [some (.cell s),some (.cell na),some (.cell la),some (.str one),some (.str two),some (.lst (bd.map D.str)),some (.lst (fl.map aH)),none] μ:=by
  intro hne;refine h3 _ _ (stp λM1 g1=>?_);walk_at "e"
  refine pH W.ds (by simpa using hne) (by rw[List.length_map];omega) λi d hd=>?_
  rw[List.getElem?_map] at hd;cases hr:fl[i]? with
  |none=>rw[hr] at hd;cases hd
  |some r =>
   rw[hr] at hd;cases hd;obtain⟨hm,f1,f2⟩:=hfm r (List.mem_of_getElem? hr);obtain⟨j,hj⟩:=pJ hm;obtain⟨r1,r2⟩:=W.rs r hm;obtain⟨c1,c2,c3⟩:=W.nd j j r r hj hj;obtain⟨l1,l2⟩:=h6 r hm;unfold aH;refine g1 _ _ (dH (λρ μ'=>ρ=[some (.cell s),some (.cell na),some (.cell la),some (.str one),some (.str two),some (.lst (bd.map D.str)),some (.lst (fl.map aH)),some (.lst [.str r.nm,.cell r.sa,.cell r.ea,.int r.w])]/\μ' r.sa=some (.lst ((aJ one r.S).map D.str))/\∀k,k≠r.sa->μ' k=μ k) (λN hN=>?_) ?_)
   .rw_mod_cast [fM r1,Bool.true_xor];by_cases c:one∈r.S
    .rw_mod_cast [decide_eq_true c];exact hN _ _ ⟨rfl,by rw[aJ,if_pos c];exact r1,λ_ _=>rfl⟩
    .rw_mod_cast [decide_eq_false c,r1];refine⟨by rw[List.length_map];omega,hN _ _ ⟨rfl,?_,λk hk=>zq hk⟩⟩;rw[zF,aJ,if_neg c,List.map_append];rfl
   rintro ρ μ1 ⟨rfl,e1,e2⟩;have r2':μ1 r.ea=some (.lst (r.E.map D.str)):=by rw[e2 _ (Ne.symm c3)];exact r2
   refine dH (λρ μ'=>ρ=[some (.cell s),some (.cell na),some (.cell la),some (.str one),some (.str two),some (.lst (bd.map D.str)),some (.lst (fl.map aH)),some (.lst [.str r.nm,.cell r.sa,.cell r.ea,.int r.w])]/\μ' r.ea=some (.lst ((aJ two r.E).map D.str))/\∀k,k≠r.ea->μ' k=μ1 k) (λN hN=>?_) ?_
   .rw_mod_cast [fM r2',Bool.true_xor];by_cases c:two∈r.E
    .rw_mod_cast [decide_eq_true c];exact hN _ _ ⟨rfl,by rw[aJ,if_pos c];exact r2',λ_ _=>rfl⟩
    .rw_mod_cast [decide_eq_false c,r2'];refine⟨by rw[List.length_map];omega,hN _ _ ⟨rfl,?_,λk hk=>zq hk⟩⟩;rw[zF,aJ,if_neg c,List.map_append];rfl
   rintro ρ μ2 ⟨rfl,e3,e4⟩;walk_at "e"
   refine⟨_,.refl _,q r.nm μ2 ns _ (W.ends hj (by rw[e4 _ c3];exact e1) e3 λk hk1 hk2=>by rw[e4 k hk2,e2 k hk1]) ?_ (.old j r hj rfl f1 f2)⟩;intro k c e hna hla hrr;obtain⟨p1,p2⟩:=hrr r hm;refine⟨by rw[e4 k p2,e2 k p1];exact e,λq' hq'=>?_⟩;rcases se hq' with h|h
   .exact hrr q' h
   .rw[h];exact⟨p1,p2⟩
 refine GP (λb μ1=>μ1=μ/\(b=true->ls.length < 14)/\(b=false->fl≠[])) (λR hR=>?_) (λb μ1 h=>?_)
 .rw_mod_cast [W.dl,List.length_map];by_cases c14:ls.length < 14
  .rw_mod_cast [show decide ((ls.length:Int) < 14)=true from decide_eq_true (by omega)];by_cases c0:fl=[]
   .rw_mod_cast [show decide ((fl.length:Int)=0)=true from decide_eq_true (by rw[c0];rfl)];exact hR _ _ ⟨rfl,λ_=>c14,λz=>(by cases z)⟩
   .rw_mod_cast [show decide ((fl.length:Int)=0)=false from decide_eq_false (λz=>c0 (List.length_eq_zero_iff.mp (by omega)))];exact⟨W.ds,by decide,by decide,λv v0 v1=>hR _ _ ⟨rfl,λ_=>c14,λ_=>c0⟩⟩
  .rw_mod_cast [show decide ((ls.length:Int) < 14)=false from decide_eq_false (by omega)];exact hR _ _ ⟨rfl,λz=>(by cases z),λ_=>hfn (by omega)⟩
 .obtain⟨rfl,hb1,hb2⟩:=h;cases b with
  |true=>exact new (hb1 rfl)
  |false=>exact old (hb2 rfl)
theorem WD.other{s k:Nat}{c c':Ct}(W:WD μ s na la ns ls)(hk:μ k=some c')(hd:c'≠ .draw)(h:k≠na/\k≠la/\∀r∈ls,k≠r.sa/\k≠r.ea):WD (zR μ k c) s na la ns ls where
 ds:=by rw[zq (λz=>by have:=W.ds;rw[z,hk] at this;cases this;exact hd rfl)];exact W.ds
 dn:=by rw[zq (Ne.symm h.1)];exact W.dn
 dl:=by rw[zq (Ne.symm h.2.1)];exact W.dl
 nl:=W.nl
 rs:=λr hr=>by
  obtain⟨a1,a2⟩:=h.2.2 r hr;rw[zq (Ne.symm a1),zq (Ne.symm a2)];exact W.rs r hr
 ap:=W.ap
 nd:=W.nd
theorem a9.put{k:Nat}{μ':Mu}{ls':List LR}{c:Ct}(T:a9 na la μ ls μ' ls')(hk:μ k=none):a9 na la μ ls (zR μ' k c) ls':=λj d e h1 h2 h3=>by
 obtain⟨a,b⟩:=T j d e h1 h2 h3;exact⟨by rw[zq (λz=>by rw[z,hk] at e;cases e)];exact a,b⟩
theorem WD.free{s k:Nat}(W:WD μ s na la ns ls)(hk:μ k=none):k≠na/\k≠la/\∀r∈ls,k≠r.sa/\k≠r.ea :=
 ⟨λz=>(by have:=W.dn;rw[<- z,hk] at this;cases this),λz=>(by have:=W.dl;rw[<- z,hk] at this;cases this),λr hr=>⟨λz=>(by have:=(W.rs r hr).1;rw[<- z,hk] at this;cases this),λz=>(by have:=(W.rs r hr).2;rw[<- z,hk] at this;cases this)⟩⟩
theorem yA{s:Nat}{bd:List Str}{last:Str}{c:Nat}(W:WD μ s na la ns ls)(N:aK ho ga ns ls h c)(hh:h+3<=48)(hc:c<=60)(hfi:first∈ho)(hla:last∈ho)(hfl:first≠last)(hbs:beside ho ga bd<=3)(hbn:∀y∈bd,y∈ns)(hgl:ga.length<=3)(hbl:bd.length<=10)
  (q:∀way k μ' ns' ls',WD μ' s na la ns' ls'->a9 na la μ ls μ' ls'->aK ho ga ns' ls' (h+3) c->a8 ns ls ls'->(∀y∈ns,y∈ns')->1<=k->k<=3->Way ho ga ns' ls' bd first k (2*k) way->way[2*k]? = some last->Q (.tup (way.map D.str)) μ') :
  jk [.cell s,.cell na,.cell la,.lst (ga.map D.str),.str first,.str last,.lst (bd.map D.str)] μ Q:=by
 have hz:(200:Nat)<=sizeLine:=by decide
 refine⟨rfl,stp λN1 h1=>?_⟩;walk_at "e"
 refine⟨by decide,db ga D.str (λx=> !decide (x∈bd)) D.str (by omega) (λx hx Y Z hY hZ=>?_) (h1 _ _ (stp λN2 h2=>?_)) trivial⟩
 .rw_mod_cast [j8,Bool.true_xor];by_cases c1:x∈bd
  .rw_mod_cast [decide_eq_true c1];exact hZ (by simp[c1])
  .rw_mod_cast [decide_eq_false c1];exact hY (by simp[c1])
 walk_at "e"
 refine⟨by decide,λkw hkw=>h2 _ _ ?_⟩;have gnd:ga.Nodup:=(List.nodup_append.mp (List.nodup_append.mp N.nd).1).2.1;have fr0:∀x∈ga.filter (λx=> !decide (x∈bd)),x∈ga/\x∉bd:=λx hx=>by
  obtain⟨m1,m2⟩:=List.mem_filter.mp hx;exact⟨m1,by simpa using m2⟩
 have frd:(ga.filter λx=> !decide (x∈bd)).Nodup:=gnd.sublist List.filter_sublist;have frl:(ga.filter λx=> !decide (x∈bd)).length<=3:=Nat.le_trans (List.length_filter_le _ _) hgl;generalize ga.filter (λx=> !decide (x∈bd))=fr at fr0 frd frl
 have hop:∀(ns':List Str) (ls':List LR) (k:Nat) (wh:List Str) (one two:Str),aK ho ga ns' ls' (h+k) c->(∀y∈ns,y∈ns')->k<=2->Way ho ga ns' ls' bd first k (2*k+1) wh->wh[2*k]? = some one->two∈ho++ga->two∉wh ->
   (ns'.length < 100/\(ls'.length=14->∃r∈ls',cI one (bd++wh) r=true/\dz two r=true)/\∀r∈ls',r.S.length<=6/\r.E.length<=6) /\
   ∀x ns2 ls2,iA one two (bd++wh) ns' ls' x ns2 ls2->aK ho ga ns2 ls2 (h+(k+1)) c/\a8 ns' ls' ls2/\(∀y∈ns,y∈ns2)/\Way ho ga ns2 ls2 bd first (k+1) (2*k+2) (wh++[x,two])/\(two∈ga->two∉bd->Way ho ga ns2 ls2 bd first (k+1) (2*k+3) (wh++[x,two])):=by
  intro ns' ls' k wh one two N' sub' hk Y h1 ht htw;refine⟨⟨?_,λh14=>Dk N' (by omega) one two ?_ h14,λr hr=>⟨(N'.ends r hr).s6,(N'.ends r hr).e6⟩⟩,λx ns2 ls2 R=>?_⟩
  .have:=N'.cnt;have:=N'.len;omega
  .rw[sf];have:=Y.bs;omega
  .have bsub:∀y∈bd++wh,y∈ns':=λy hy=>(List.mem_append.mp hy).elim (λz=>sub' y (hbn y z)) (Y.sub y)
   obtain⟨N2,G2,J2,xb,sub2,xg,xn⟩:=Dj N' (Y.nn k one h1) ht bsub R;have xb1:x∉bd:=λz=>xb (List.mem_append_left _ z)
   have xb2:x∉wh:=λz=>xb (List.mem_append_right _ z)
   obtain⟨Y1,Y2⟩:=(Y.grow G2 sub2).step h1 J2 xg xb1 xb2 xn htw ht (N2.sub two (List.mem_append_left _ ht));exact⟨N2,G2,λy hy=>sub2 y (sub' y hy),Y1,Y2⟩
 have lastOf:∀(k:Nat) (wh:List Str),wh.length=2*k+1->∃one,wh[2*k]? = some one/\atI (wh.map D.str) (-1)=some (.str one):=λk wh e=>by
  have hlt:2*k < wh.length:=by omega
  refine⟨wh[2*k],List.getElem?_eq_getElem hlt,?_⟩;rw[tY,List.getLast?_eq_getElem?,List.length_map,List.getElem?_map,show wh.length - 1=2*k by omega,List.getElem?_eq_getElem hlt];rfl
 refine dH (λρ μ'=>∃(k:Nat) (ns' wh:List Str) (ls':List LR) (x7 x9 x10:Option D),ρ=[some (.cell s),some (.cell na),some (.cell la),some (.lst (ga.map D.str)),some (.str first),some (.str last),some (.lst (bd.map D.str)),x7,some (.cell kw),x9,x10]/\k<=2 /\
  WD μ' s na la ns' ls'/\a9 na la μ ls μ' ls'/\aK ho ga ns' ls' (h+k) c/\a8 ns ls ls'/\(∀y∈ns,y∈ns')/\Way ho ga ns' ls' bd first k (2*k+1) wh/\μ' kw=some (.lst (wh.map D.str))/\(kw≠na/\kw≠la/\∀r∈ls',kw≠r.sa/\kw≠r.ea)) (λNX hNX=>?_) ?_
 .have W1:WD (zR μ kw (.lst [.str first])) s na la ns ls:=W.cell hkw;walk_at "e"
  refine⟨W1.ds,by decide,by decide,λv v0 v1=>?_⟩;rw[List.length_map];have bn:(if (fr.length:Int) < v then(fr.length:Int) else v)<=2/\0<=(if (fr.length:Int) < v then(fr.length:Int) else v)/\(if (fr.length:Int) < v then(fr.length:Int) else v)<=fr.length:=by split<;>omega
  generalize (if (fr.length:Int) < v then(fr.length:Int) else v)=n at bn
  obtain⟨n2,n0,nl⟩:=bn;refine⟨by omega,by omega,?_⟩;refine cR (λj ρ μ'=>∃(ns' wh fr':List Str) (ls':List LR) (x9 x10:Option D),ρ=[some (.cell s),some (.cell na),some (.cell la),some (.lst (ga.map D.str)),some (.str first),some (.str last),some (.lst (bd.map D.str)),some (.lst (fr'.map D.str)),some (.cell kw),x9,x10] /\
   WD μ' s na la ns' ls'/\a9 na la μ ls μ' ls'/\aK ho ga ns' ls' (h+j) c/\a8 ns ls ls'/\(∀y∈ns,y∈ns')/\Way ho ga ns' ls' bd first j (2*j+1) wh/\μ' kw=some (.lst (wh.map D.str))/\(kw≠na/\kw≠la/\∀r∈ls',kw≠r.sa/\kw≠r.ea)/\fr'.Nodup/\(∀x∈fr',x∈ga/\x∉bd/\x∉wh)/\n<=fr'.length+j/\fr'.length<=3)
   ⟨ns,[first],fr,ls,_,_,rfl,W1,a9.refl.put hkw,N,a8.refl _ _,λ_ h=>h,.one (List.mem_append_left _ hfi) (N.sub _ (List.mem_append_left _ (List.mem_append_left _ hfi))),zF,W.free hkw,frd,λx hx=>⟨(fr0 x hx).1,(fr0 x hx).2,λz=>?_⟩,by omega,frl⟩ ?_ ?_
  .rw[List.mem_singleton.mp z] at hx;exact N.nd2 hfi (fr0 _ hx).1
  .rintro j d ρ μ1 hd ⟨ns',wh,fr',ls',x9,x10,rfl,W5,T5,N5,G5,sub5,Y,hw5,f5,fnd,fin,fn,fl⟩ M hM;obtain⟨hj,rfl⟩:=iO hd;refine stp λM1 g1=>?_
   walk_at "e"
   refine pH W5.ds ?_ (by rw[List.length_map];omega) λi d hd=>?_
   .intro z;have:=congrArg List.length z;rw[List.length_map] at this;simp at this;subst this;simp at fn;omega
   rw[List.getElem?_map] at hd;cases hgt:fr'[i]? with
   |none=>rw[hgt] at hd;cases hd
   |some gt =>
    rw[hgt] at hd;cases hd;obtain⟨g1',g2',g3'⟩:=fin gt (List.mem_of_getElem? hgt);refine g1 _ _ (stp λM2 g2=>?_);walk_at "e"
    refine⟨by decide,db fr' D.str (λy=> !decide (y=gt)) D.str (by omega) (λx hx Y Z hY hZ=>?_) (g2 _ _ (stp λM3 g3=>?_)) trivial⟩
    .walk_at "e"
     by_cases c1:x=gt
     .rw_mod_cast [decide_eq_true c1];exact hZ (by simp[c1])
     .rw_mod_cast [decide_eq_false c1];exact hY (by simp[c1])
    have fnd':(fr'.filter λy=> !decide (y=gt)).Nodup:=fnd.sublist List.filter_sublist;have fin':∀x∈fr'.filter (λy=> !decide (y=gt)),x∈fr'/\x≠gt:=λx hx=>by
     obtain⟨m1,m2⟩:=List.mem_filter.mp hx;exact⟨m1,by simpa using m2⟩
    have fl':fr'.length<=(fr'.filter λy=> !decide (y=gt)).length+1:=si fnd;have fl3:(fr'.filter λy=> !decide (y=gt)).length<=3:=Nat.le_trans (List.length_filter_le _ _) fl;generalize fr'.filter (λy=> !decide (y=gt))=fr2 at fnd' fin' fl' fl3
    obtain⟨one,h1',hlast⟩:=lastOf j wh Y.len;obtain⟨⟨c1,c2,c3⟩,post⟩:=hop ns' ls' j wh one gt N5 sub5 (by omega) Y h1' (List.mem_append_right _ g1') g3';rw_mod_cast [hw5,hlast];refine⟨by rw[List.length_map,List.length_map,Y.len];omega,?_⟩;rw[<- List.map_append];refine yz W5 c1 N5.len c2 c3 λx μ2 ns2 ls2 W9 T9 R=>?_
    obtain⟨N9,G9,sub9,Y1,Y2⟩:=post x ns2 ls2 R;obtain⟨hw9,f9⟩:=T9 kw _ hw5 f5.1 f5.2.1 f5.2.2;rw_mod_cast [hw9];refine⟨by rw[List.length_map,Y.len];omega,g3 _ _ ?_⟩;rw_mod_cast [zF];refine⟨by rw[List.length_append,List.length_map,Y.len];show 2*j+1+1 < sizeLine;omega,hM _ _ ?_⟩;have em:wh.map D.str++[.str x]++[.str gt]=(wh++[x,gt]).map D.str:=by rw[List.map_append (l₂:=[x,gt]),List.append_assoc];rfl
    rw[cM,em];refine⟨ns2,wh++[x,gt],fr2,ls2,_,_,rfl,W9.other hw9 (by simp) ⟨f5.1,f5.2.1,f9⟩,(T5.trans T9).put hkw,N9,G5.trans sub5 G9,sub9,Y2 g1' g2',zF,⟨f5.1,f5.2.1,f9⟩,fnd',λy hy=>⟨(fin y (fin' y hy).1).1,(fin y (fin' y hy).1).2.1,λz=>?_⟩,by omega,fl3⟩;rcases List.mem_append.mp z with z|z
    .exact(fin y (fin' y hy).1).2.2 z
    .rcases List.mem_cons.mp z with e|z
     .have:=(Y1.ln j x (by rw[List.getElem?_append_right (by rw[Y.len];omega),Y.len,Nat.sub_self];rfl)).1;exact this (List.mem_append_right _ (e▸(fin y (fin' y hy).1).1))
     .exact(fin' y hy).2 (List.mem_singleton.mp z)
  .rintro ρ μ1 ⟨ns',wh,fr',ls',x9,x10,rfl,W5,T5,N5,G5,sub5,Y,hw5,f5,fnd,fin,fn,fl⟩;rw[iP] at *;exact hNX _ _ ⟨n.toNat,ns',wh,ls',_,_,_,rfl,by omega,W5,T5,N5,G5,sub5,Y,hw5,f5⟩
 .rintro ρ μ1 ⟨k,ns',wh,ls',x7,x9,x10,rfl,hk,W7,T7,N7,G7,sub7,Y,hw7,f7⟩;have lw:last∉wh:=λz=>by
   rcases Y.mem z (Nat.le_refl _) with e|e|e
   .exact hfl e.symm
   .exact e (List.mem_append_left _ hla)
   .exact N.nd2 hla e
  obtain⟨one,h1',hlast⟩:=lastOf k wh Y.len;obtain⟨⟨c1,c2,c3⟩,post⟩:=hop ns' ls' k wh one last N7 sub7 (by omega) Y h1' (List.mem_append_left _ hla) lw;refine stp λM1 g1=>?_
  rw_mod_cast [hw7,hlast];refine⟨by rw[List.length_map,List.length_map,Y.len];omega,?_⟩;rw[<- List.map_append];refine yz W7 c1 N7.len c2 c3 λx μ2 ns2 ls2 W9 T9 R=>?_
  obtain⟨N9,G9,sub9,Y1,Y2⟩:=post x ns2 ls2 R;obtain⟨hw9,f9⟩:=T9 kw _ hw7 f7.1 f7.2.1 f7.2.2;rw_mod_cast [hw9];refine⟨by rw[List.length_map,Y.len];omega,g1 _ _ (stp λM2 g2=>?_)⟩;rw_mod_cast [zF];refine⟨by rw[List.length_append,List.length_map,Y.len];show 2*k+1+1 < sizeLine;omega,g2 _ _ ?_⟩;have em:wh.map D.str++[.str x]++[.str last]=(wh++[x,last]).map D.str:=by rw[List.map_append (l₂:=[x,last]),List.append_assoc];rfl
  rw[cM,em];rw_mod_cast [zF];refine⟨_,.refl _,q (wh++[x,last]) (k+1) _ ns2 ls2 (W9.other hw9 (by simp) ⟨f7.1,f7.2.1,f9⟩) ((T7.trans T9).put hkw) (N9.more (by omega)) (G7.trans sub7 G9) sub9 (by omega) (by omega) Y1 ?_⟩;rw[List.getElem?_append_right (by rw[Y.len];omega),Y.len,show 2*(k+1) - (2*k+1)=1 by omega];rfl
def ay(w:List Str):D:= .tup (w.map D.str)
def a7(r:RW):D:= .tup [.str r.nm,.tup (r.ways.map ay),.int r.e,.int r.lo,.int r.re,.int r.lst]
theorem foldl_take_succ(f:β->α->β)(b:β){xs:List α}{i:Nat}{x:α}(h:xs[i]? = some x):(xs.take (i+1)).foldl f b=f ((xs.take i).foldl f b) x:=by
 rw[List.take_add_one,h,List.foldl_append];rfl
theorem GQ{s:Nat}{ways:List (List Str)}{nm:Str}{e lo re x5:Int}(W:WD μ s na la ns ls)(q:Q (.int (dB ls ways lo sl)) μ):lq [.tup [.str nm,.tup (ways.map ay),.int e,.int lo,.int re,.int x5],.cell la,.int sl] μ Q:=by
 refine⟨rfl,stp λN1 h1=>?_⟩;walk_at "e"
 refine h1 _ _ (stp λN2 h2=>?_);walk_at "e"
 refine cR (λi ρ μ'=>∃x4 x5' x6,ρ=[some (.tup [.str nm,.tup (ways.map ay),.int e,.int lo,.int re,.int x5]),some (.cell la),some (.int sl),some (.int ((ways.take i).foldl (λm way=>if bQ ls way lo sl > m then bQ ls way lo sl else m) 0)),x4,x5',x6]/\μ'=μ) ⟨_,_,_,rfl,rfl⟩ ?_ ?_
 .rintro i d ρ μ' hd ⟨x4,x5',x6,rfl,rfl⟩ N hN;rw[List.getElem?_map] at hd;cases hw:ways[i]? with
  |none=>rw[hw] at hd;cases hd
  |some way =>
   rw[hw] at hd;cases hd;unfold ay;refine stp λM1 g1=>?_
   walk_at "e"
   refine g1 _ _ (stp λM2 g2=>?_);rw_mod_cast [W.dl];refine cR (λj ρ μ2=>∃x6,ρ=[some (.tup [.str nm,.tup (ways.map ay),.int e,.int lo,.int re,.int x5]),some (.cell la),some (.int sl),some (.int ((ways.take i).foldl (λm way=>if bQ ls way lo sl > m then bQ ls way lo sl else m) 0)),some (.tup (way.map D.str)),some (.int ((ls.take j).foldl (λm r=>if r.nm∈way then m+lo+r.w+sl else m) 0)),x6]/\μ2=μ') ⟨_,rfl,rfl⟩ ?_ ?_ (λ_ _ _ h=>by obtain⟨_,_,rfl⟩:=h;exact W.dl)
   .rintro j d ρ μ2 hd ⟨x6,rfl,rfl⟩ M hM;rw[List.getElem?_map] at hd;cases hr:ls[j]? with
    |none=>rw[hr] at hd;cases hd
    |some r =>
     rw[hr] at hd;cases hd;unfold aH;rw_mod_cast [gH,Bool.false_xor];have fs:=foldl_take_succ (λm (r:LR)=>if r.nm∈way then m+lo+r.w+sl else m) (0:Int) hr;by_cases c:r.nm∈way
     .rw_mod_cast [decide_eq_true c];rw[fs,if_pos c] at hM;exact hM _ _ ⟨_,rfl,rfl⟩
     .rw_mod_cast [decide_eq_false c];rw[fs,if_neg c] at hM;exact hM _ _ ⟨_,rfl,rfl⟩
   .rintro ρ μ2 ⟨x6,rfl,rfl⟩;refine g2 _ _ ?_;walk_at "e"
    rw[foldl_take_succ _ _ hw] at hN;rw[List.length_map,List.take_length];exact hN _ _ ⟨_,_,_,rfl,rfl⟩
 .rintro ρ μ' ⟨x4,x5',x6,rfl,rfl⟩;refine h2 _ _ ?_;walk_at "e"
  rw[List.length_map,List.take_length];exact⟨_,.refl _,q⟩
theorem yB(w:List Str)(h:2<=w.length):cutD (w.map D.str) (some 1) (some (-1))=(inner w).map D.str:=by
 unfold cutD inner;have e1:HT.sIx (w.map D.str).length 0 (some 1)=1:=by
  have:=HT.bO (w.map D.str).length 0 1;rw[List.length_map,Nat.min_eq_left (by omega)] at this;rw[List.length_map];exact this
 have e2:HT.sIx (w.map D.str).length (w.map D.str).length (some (-1))=w.length - 1:=by
  rw[List.length_map];unfold HT.sIx;simp;omega
 rw[e1,e2,List.map_take,List.map_drop];congr 1
theorem pK{xs:List Int}(h0:0<=v)(h1:v < xs.length):∃e,atI (xs.map D.int) v=some (.int e)/\e∈xs:=by
 obtain⟨e,a,b⟩:=nq h0 h1;exact⟨e,by rw[tW,a];rfl,List.mem_of_getElem? b⟩
theorem ki{xs:List Str}(h0:0<=v)(h1:v < xs.length):∃e,atI (xs.map D.str) v=some (.str e)/\xs[v.toNat]? = some e:=by
 obtain⟨e,a,b⟩:=nq h0 h1;exact⟨e,by rw[tW,a];rfl,b⟩
theorem GR{s:Nat}{c:Nat}(W:WD μ s na la ns ls)(N:aK ho ga ns ls h c)(hh:h+6<=48)(hc:c<=50)(ho2:2<=ho.length)(ho4:ho.length<=4)(ga3:ga.length<=3)(sl0:0<=sl)(sl7:sl<=7)
  (q:∀r μ' ns' ls',WD μ' s na la ns' ls'->a9 na la μ ls μ' ls'->aK ho ga ns' ls' (h+6) (c+1)->a8 ns ls ls'->(∀y∈ns,y∈ns')->cJ ho ga ns' ls' sl r->r.nm∉ns->Q (a7 r) μ') :
  lH [.cell s,.cell na,.cell la,.lst (ho.map D.str),.lst (ga.map D.str),.int sl] μ Q:=by
 have hz:(200:Nat)<=sizeLine:=by decide
 have hnd:ho.Nodup:=(List.nodup_append.mp (List.nodup_append.mp N.nd).1).1;refine⟨rfl,stp λN1 h1=>?_⟩;rw_mod_cast [List.length_map];refine⟨W.ds,by omega,by omega,λv v0 v1=>h1 _ _ (stp λN2 h2=>?_)⟩;obtain⟨first,e1,f1⟩:=ki v0 v1;rw_mod_cast [e1];refine h2 _ _ (stp λN3 h3=>?_);rw_mod_cast [List.length_map];refine⟨W.ds,by omega,by omega,λu u0 u1=>⟨by omega,?_⟩⟩;have m0:0<=(v+1+u) % (ho.length:Int):=Int.emod_nonneg _ (by omega);have m1:(v+1+u) % (ho.length:Int) < ho.length:=Int.emod_lt_of_pos _ (by omega);obtain⟨last,e2,f2⟩:=ki m0 m1;have hfl:first≠last:=λz=>by
  subst z;have:=Dp hnd f1 f2;have e3:v=(v+1+u) % (ho.length:Int):=by omega
  by_cases hlt:v+1+u < ho.length
  .rw[Int.emod_eq_of_lt (by omega) hlt] at e3;omega
  .have e4:(v+1+u) % (ho.length:Int)=v+1+u - ho.length:=by
    rw[<- Int.sub_emod_right,Int.emod_eq_of_lt (by omega) (by omega)]
   omega
 have hfi:=List.mem_of_getElem? f1;have hla:=List.mem_of_getElem? f2;rw_mod_cast [e2];refine h3 _ _ (stp λN4 h4=>?_);walk_at "e"
 refine⟨by decide,yA (bd:=[]) W N (by omega) (by omega) hfi hla hfl (by simp[beside]) (λy hy=>by cases hy) ga3 (by decide) λw1 k1 μ4 ns4 ls4 W4 T4 N4 G4 sub4 k1a k1b Y1 hl1=>?_⟩;refine⟨by decide,λkw hkw=>h4 _ _ ?_⟩;have W5:WD (zR μ4 kw (.lst [.tup (w1.map D.str)])) s na la ns4 ls4:=W4.cell hkw;have f5:=W4.free hkw;have hkw0:∀k c,μ k=some c->k≠na->k≠la->(∀r∈ls,k≠r.sa/\k≠r.ea)->k≠kw:=λk c e a1 a2 a3 z=>by
  have:=(T4 k c e a1 a2 a3).1;rw[z,hkw] at this;cases this
 refine dH (λρ μ'=>∃(ns6:List Str) (ls6:List LR) (ways:List (List Str)),ρ=[some (.cell s),some (.cell na),some (.cell la),some (.lst (ho.map D.str)),some (.lst (ga.map D.str)),some (.int sl),some (.int v),some (.str first),some (.str last),some (.cell kw),none,none,none,none] /\
  WD μ' s na la ns6 ls6/\a9 na la μ ls μ' ls6/\aK ho ga ns6 ls6 (h+6) c/\a8 ns ls ls6/\(∀y∈ns,y∈ns6)/\μ' kw=some (.lst (ways.map ay))/\(kw≠na/\kw≠la/\∀r∈ls6,kw≠r.sa/\kw≠r.ea)/\ways.length<=2 /\
  ∃first last w1 k1,first∈ho/\last∈ho/\first≠last/\1<=k1/\k1<=3/\Way ho ga ns6 ls6 [] first k1 (2*k1) w1/\w1[2*k1]? = some last/\(ways=[w1]\/∃w2 k2,ways=[w1,w2]/\1<=k2/\k2<=3/\Way ho ga ns6 ls6 (inner w1) first k2 (2*k2) w2/\w2[2*k2]? = some last)) (λNX hNX=>?_) ?_
 .have T5:a9 na la μ ls (zR μ4 kw (.lst [.tup (w1.map D.str)])) ls4:=λk c e a1 a2 a3=>by
   obtain⟨b1,b2⟩:=T4 k c e a1 a2 a3;exact⟨by rw[zq (hkw0 k c e a1 a2 a3)];exact b1,b2⟩
  walk_at "e"
  refine⟨W5.ds,by decide,by decide,λx x0 x1=>?_⟩;split
  .have wl1:w1.length=2*k1+1:=Y1.len;have ns1:¬ (HT.sIx (w1.map D.str).length 0 (some 1)=0/\HT.sIx (w1.map D.str).length (w1.map D.str).length (some (-1))=(w1.map D.str).length):=by
    rintro⟨z,_⟩;have:=HT.bO (w1.map D.str).length 0 1;rw[List.length_map,Nat.min_eq_left (by omega)] at this;rw[List.length_map] at z;have e:HT.sIx w1.length 0 (some 1)=1:=this;omega
   refine⟨ns1,?_⟩;rw[yB w1 (by omega)];refine yA (bd:=inner w1) W5 N4 (by omega) (by omega) hfi hla hfl (Nat.le_trans (Dm _ _ _) (Nat.le_trans Y1.bs k1b)) (λy hy=>Y1.sub y (Dl hy)) ga3 (Nat.le_trans (sj _) (by omega)) λw2 k2 μ9 ns9 ls9 W9 T9 N9 G9 sub9 k2a k2b Y2 hl2=>?_
   obtain⟨hw9,f9⟩:=T9 kw _ zF f5.1 f5.2.1 f5.2.2;rw_mod_cast [hw9];refine⟨by decide,hNX _ _ ⟨ns9,ls9,[w1,w2],rfl,W9.other hw9 (by simp) ⟨f5.1,f5.2.1,f9⟩,λk c e a1 a2 a3=>?_,N9.more (by omega),G4.trans sub4 G9,λy hy=>sub9 y (sub4 y hy),zF,⟨f5.1,f5.2.1,f9⟩,show 2<=2 by decide,first,last,w1,k1,hfi,hla,hfl,k1a,k1b,Y1.grow G9 sub9,hl1,.inr ⟨w2,k2,rfl,k2a,k2b,Y2,hl2⟩⟩⟩;obtain⟨b1,b2⟩:=(T5.trans T9) k c e a1 a2 a3;exact⟨by rw[zq (hkw0 k c e a1 a2 a3)];exact b1,b2⟩
  .exact hNX _ _ ⟨ns4,ls4,[w1],rfl,W5,T5,N4.more (by omega),G4,sub4,zF,f5,show 1<=2 by decide,first,last,w1,k1,hfi,hla,hfl,k1a,k1b,Y1,hl1,.inl rfl⟩
 rintro ρ μ6 ⟨ns6,ls6,ways,rfl,W6,T6,N6,G6,sub6,hw6,f6,wl,shape⟩;refine stp λN6' h6=>?_
 walk_at "e"
 refine⟨by decide,W6.ds,by decide,by decide,λa a0 a1=>?_⟩;obtain⟨e,ge,he⟩:=pK (xs:=jS) a0 (show a < 11 from a1);have eb:8<=e/\e<=120:=by
  have:∀e∈jS,8<=e/\e<=120:=by decide
  exact this e he
 have ge':atI [D.int 12,D.int 8,D.int 20,D.int 24,D.int 10,D.int 30,D.int 15,D.int 40,D.int 60,D.int 12,D.int 120] a=some (.int e):=ge;rw_mod_cast [ge'];refine h6 _ _ (stp λN7 h7=>?_);walk_at "e"
 have mb:0 < (if e - sl < 4 then e - sl else 4)/\(if e - sl < 4 then e - sl else 4)<=4:=by split<;>omega
 refine⟨W6.ds,mb.1,by omega,λb b0 b1=>h7 _ _ (stp λN8 h8=>?_)⟩;have u9:1+b<=4/\1+b+sl<=e:=by split at b1<;>omega
 walk_at "e"
 refine lP W6.ds W6.dn (by have:=N6.cnt;have:=N6.len;omega) λx nm hx=>?_
 have W7:WD _ s na la (ns6++[x]) ls6:=W6.names (ns':=ns6++[x]);have hw7:zR μ6 na (.lst ((ns6++[x]).map D.str)) kw=some (.lst (ways.map ay)):=by rw[zq f6.1];exact hw6
 rw_mod_cast [hw7];refine⟨W7.ds,by omega,by omega,λd d0 d1=>⟨by decide,h8 _ _ (stp λN9 h9=>?_)⟩⟩;walk_at "e"
 refine⟨⟨by decide,by decide⟩,by decide,W7.ds,by decide,by decide,λt t0 t1=>?_⟩;obtain⟨spare,gs,hs⟩:=pK (xs:=[0,1,2,e / 2,3,e - 1,6]) t0 (show t < 7 from t1);have gs':atI [D.int 0,D.int 1,D.int 2,D.int (e / 2),D.int 3,D.int (e - 1),D.int 6] t=some (.int spare):=gs;rw_mod_cast [gs'];refine h9 _ _ ?_;walk_at "e"
 refine⟨by decide,GQ W7 ?_⟩;walk_at "e"
 rw[show cutD [D.str x,D.tup (List.map ay ways),D.int e,D.int (1+b),D.int d,D.int 0] none (some 5)=[D.str x,D.tup (List.map ay ways),D.int e,D.int (1+b),D.int d] from rfl];refine⟨by decide,by simp,show 6<=sizeLine by decide,_,.refl _,?_⟩;have N10:=N6.named hx nm;have hxn:x∉ns:=λz=>hx (sub6 x z)
 have G18:a8 ns6 ls6 ls6:=a8.refl _ _;refine q ⟨x,ways,e,1+b,d,dB ls6 ways (1+b) sl+spare⟩ _ (ns6++[x]) ls6 W7 (T6.trans a9.names) N10 G6 (λy hy=>List.mem_append_left _ (sub6 y hy)) ⟨by simp,λz=>hx (N6.sub x z),?_,he,by show 1<=1+b;omega,u9.1,u9.2,d0,d1,spare,rfl,hs⟩ hxn;obtain⟨f',l',w1',k1',a1,a2,a3,a4,a5,Y,a6,hh'⟩:=shape;refine⟨f',l',w1',k1',a1,a2,a3,a4,a5,Y.grow G18 (λy hy=>List.mem_append_left _ hy),a6,?_⟩;rcases hh' with z|⟨w2,k2,z,b1,b2,Y2,b3⟩
 .exact .inl z
 .exact .inr ⟨w2,k2,z,b1,b2,Y2.grow G18 (λy hy=>List.mem_append_left _ hy),b3⟩
def yC:List Int:=[0,1,2,0,3,1,5,7]
structure WorldD(μ:Mu)(s na la:Nat)(ho ga ns:List Str)(ls:List LR)(rows:List RW)(sl:Int)(most:Nat):Prop where
 W:WD μ s na la ns ls
 N:aK ho ga ns ls 48 (ho.length+ga.length+rows.length)
 ho2:2<=ho.length
 ho4:ho.length<=4
 ga3:ga.length<=3
 r1:1<=rows.length
 rm:rows.length<=most
 ok:∀r∈rows,cJ ho ga ns ls sl r
 nd:(rows.map RW.nm).Nodup
 sl0:0<=sl
 sl7:sl<=7
theorem yD{s:Nat}{pre:List Str}{n:Nat}{Fin:List D->Mu->Prop}(hs:μ s=some .draw)(hn:μ na=some (.lst (pre.map D.str)))(hp:pre.Nodup)(hpn:∀x∈pre,Nm x)(hl:pre.length+n < 100)
  (q:∀xs:List Str,xs.length=n->(pre++xs).Nodup->(∀x∈pre++xs,Nm x)->Fin (xs.map D.str) (zR μ na (.lst ((pre++xs).map D.str)))) :
  bR (zu 0) bA (dCall dU (za (zc 2) (za (zc 1) zm))) [none,some (.cell na),some (.cell s)] (λ_=>True) Fin ((b8 0 n).map D.int) [] μ:=by
 have hz:(200:Nat)<=sizeLine:=by decide
 have sna:s≠na:=λz=>by rw[z,hn] at hs;cases hs
 refine gG (λi ys μ'=>∃xs:List Str,ys=xs.map D.str/\xs.length=i/\(pre++xs).Nodup/\(∀x∈pre++xs,Nm x)/\μ'=zR μ na (.lst ((pre++xs).map D.str))) ⟨[],rfl,rfl,by rw[List.append_nil];exact hp,by rw[List.append_nil];exact hpn,?_⟩ ?_ ?_
 .funext k;unfold zR;split
  .rename_i e;rw[e,List.append_nil];exact hn
  .rfl
 .rintro i d ys μ' hd ⟨xs,rfl,hx,nd,nm,rfl⟩;obtain⟨hi,rfl⟩:=iO hd;refine⟨by rw[List.length_map];omega,λN hN=>?_⟩;walk_at "e"
  refine lP (by rw[zq sna];exact hs) zF (by rw[List.length_append];omega) λx hnm hxn=>hN _ _ ⟨xs++[x],by rw[List.map_append];rfl,by rw[List.length_append,hx];rfl,?_,?_,?_⟩
  .rw[<- List.append_assoc];exact List.nodup_append.mpr ⟨nd,by simp,λa ha b hb e=>by rw[List.mem_singleton.mp hb] at e;exact hxn (e▸ha)⟩
  .intro y hy;rw[<- List.append_assoc] at hy;rcases List.mem_append.mp hy with h|h
   .exact nm y h
   .rw[List.mem_singleton.mp h];exact hnm
  .rw[cM,List.append_assoc]
 .rintro ys μ' ⟨xs,rfl,hx,nd,nm,rfl⟩;rw[iP] at hx;exact q xs hx nd nm
theorem GS{s most:Nat}(hs:μ s=some .draw)(m1:1<=most)(m8:most<=8)
  (q:∀ μ' na la ho ga ns ls rows sl,WorldD μ' s na la ho ga ns ls rows sl most->(∀k c,μ k=some c->μ' k=some c/\k≠na/\k≠la/\∀r∈ls,k≠r.sa/\k≠r.ea) ->
   Q (.tup [.lst (ho.map D.str),.lst (ga.map D.str),.cell la,.lst (rows.map a7),.int sl,.cell na]) μ'):lL [.cell s,.int (most:Int)] μ Q:=by
 have hz:(200:Nat)<=sizeLine:=by decide
 refine⟨rfl,stp λN1 h1=>?_⟩;walk_at "e"
 refine⟨by decide,λna hna=>h1 _ _ (stp λN2 h2=>?_)⟩;have sna:s≠na:=λz=>by rw[z,hna] at hs;cases hs
 have hs1:∀c,zR μ na c s=some .draw:=λc=>by rw[zq sna];exact hs
 walk_at "e"
 refine⟨by decide,hs1 _,by decide,by decide,λa a0 a1=>⟨by omega,by omega,?_⟩⟩;refine yD (pre:=[]) (hs1 _) zF List.nodup_nil (λx hx=>by cases hx) (by simp;omega) λho hol hod hon=>h2 _ _ (stp λN3 h3=>?_)
 rw[cM,List.nil_append];rw[List.nil_append] at hod hon;walk_at "e"
 refine⟨by decide,hs1 _,by decide,by decide,λb b0 b1=>⟨by omega,by omega,?_⟩⟩;refine yD (pre:=ho) (hs1 _) zF hod hon (by omega) λga gal gad gan=>h3 _ _ (stp λN4 h4=>?_)
 rw[cM];walk_at "e"
 refine⟨by decide,hs1 _,by decide,by decide,λt t0 t1=>?_⟩;obtain⟨sl,gs,hsl⟩:=pK (xs:=yC) t0 (show t < 8 from t1);have gs':atI [D.int 0,D.int 1,D.int 2,D.int 0,D.int 3,D.int 1,D.int 5,D.int 7] t=some (.int sl):=gs;have slb:0<=sl/\sl<=7:=by
  have:∀e∈yC,0<=e/\e<=7:=by decide
  exact this sl hsl
 rw_mod_cast [gs'];refine h4 _ _ (stp λN5 h5=>?_);walk_at "e"
 refine⟨by decide,λla hla=>h5 _ _ (stp λN6 h6=>?_)⟩;have nal:na≠la:=λz=>by rw[<- z,zF] at hla;cases hla
 have W0:WD (zR (zR μ na (.lst ((ho++ga).map D.str))) la (.lst [])) s na la (ho++ga) []:=⟨by
   rw[zq (λz=>by rw[<- z,hs1] at hla;cases hla)];exact hs1 _,by rw[zq nal,zF],zF,nal,λr hr=>(by cases hr),λr hr=>(by cases hr),λi j r r' hi=>(by simp at hi)⟩
 have NT0:aK ho ga (ho++ga) [] (6*0) (ho.length+ga.length+0):=⟨by simpa using gad,by simp,gan,gad,λr hr=>(by cases hr),by decide,by decide,by rw[List.length_append];exact Nat.le_refl _⟩;have keep0:∀k c,μ k=some c->(zR (zR μ na (.lst ((ho++ga).map D.str))) la (.lst [])) k=some c/\k≠na/\k≠la:=λk c e=>by
  have k1:k≠na:=λz=>by rw[z,hna] at e;cases e
  have k2:k≠la:=λz=>by rw[<- z,zq k1,e] at hla;cases hla
  exact⟨by rw[zq k2,zq k1];exact e,k1,k2⟩
 generalize zR (zR μ na (.lst ((ho++ga).map D.str))) la (.lst [])=μ0 at W0 keep0
 walk_at "e"
 refine⟨by decide,W0.ds,by omega,by omega,λv v0 v1=>⟨by omega,by omega,?_⟩⟩;refine gG (λi ys μ'=>∃(rows:List RW) (ns:List Str) (ls:List LR),ys=rows.map a7/\rows.length=i/\WD μ' s na la ns ls/\a9 na la μ0 [] μ' ls/\aK ho ga ns ls (6*i) (ho.length+ga.length+i)/\(∀r∈rows,cJ ho ga ns ls sl r)/\(rows.map RW.nm).Nodup) ⟨[],ho++ga,[],rfl,rfl,W0,.refl,NT0,λr hr=>(by cases hr),List.nodup_nil⟩ ?_ ?_
 .rintro i d ys μ' hd ⟨rows,ns,ls,rfl,hr,W,T,NT,ok,nd⟩;obtain⟨hi,rfl⟩:=iO hd;refine⟨by rw[List.length_map];omega,λN hN=>?_⟩;walk_at "e"
  refine GR W NT (by omega) (by omega) (by omega) (by omega) (by omega) slb.1 slb.2 λr μ2 ns2 ls2 W2 T2 NT2 G2 sub2 R2 hn2=>hN _ _ ⟨rows++[r],ns2,ls2,by rw[List.map_append];rfl,by rw[List.length_append,hr];rfl,W2,T.trans T2,?_,?_,?_⟩
  .have:6*(i+1)=6*i+6:=by omega
   rw[this];exact NT2
  .intro r' hr';rcases List.mem_append.mp hr' with h|h
   .exact(ok r' h).grow G2 sub2
   .rw[List.mem_singleton.mp h];exact R2
  .rw[List.map_append];refine List.nodup_append.mpr ⟨nd,by simp,λa ha b hb e=>?_⟩;obtain⟨r',hr',rfl⟩:=List.mem_map.mp ha;have:b=r.nm:=by simpa using hb
   rw[this] at e;exact hn2 (e▸(ok r' hr').nmn)
 .rintro ys μ' ⟨rows,ns,ls,rfl,hr,W,T,NT,ok,nd⟩;rw[iP] at hr NT;refine h6 _ _ ?_;walk_at "e"
  refine⟨by decide,_,.refl _,q μ' na la ho ga ns ls rows sl ⟨W,?_,by omega,by omega,by omega,by omega,by omega,ok,nd,slb.1,slb.2⟩ λk c e=>?_⟩
  .rw[hr];exact NT.more (by omega)
  .obtain⟨b1,b2,b3⟩:=keep0 k c e;obtain⟨c1,c2⟩:=T k c b1 b2 b3 (λr hr=>by cases hr);exact⟨c1,b2,b3,c2⟩
theorem GT{i:Int}(q:Q (.bl true) μ):lg [.int i] μ Q:=by
 refine⟨rfl,?_⟩;walk_at "e"
 exact⟨_,.refl _,q⟩
theorem GU{i:Int}(q:Q .non μ):lr [.int i] μ Q:=by
 refine⟨rfl,?_⟩;walk_at "e"
 refine GT ?_;walk_at "e"
 exact⟨_,.refl _,q⟩
theorem GV{y:Str}{R:List D->(Mu->Prop)->Prop}(h:y.cps.all (· < 128)=true):eW μ (.str y) R=R (y.cps.toList.map λc=> .str ⟨#[c]⟩) λ_=>True:=by
 unfold eW j3;simp only[h,if_true]
theorem GW:∀c:_root_.Fin 128,iX letters ⟨#[c.val]⟩=decide (97<=c.val/\c.val<=122):=by decide+kernel
theorem GX(h:Nm x):x.cps.all (· < 128)=true:=by
 rw[<- Array.all_toList];exact List.all_eq_true.mpr λc hc=>decide_eq_true (by have:=h.az c hc;omega)
theorem GY(h:Nm x):1<=x.length/\x.length<=8:=by
 have h1:=h.l1;have h2:=h.l8;rw[Array.length_toList] at h1 h2;exact⟨h1,h2⟩
theorem yE(h:Nm x)(q:Q (.bl true) μ):je [.str x] μ Q:=by
 obtain⟨l1,l8⟩:=GY h;have hz:(1000:Nat)<=sizeLine:=by decide
 refine⟨rfl,?_⟩;walk_at "e"
 refine⟨rfl,?_⟩;walk_at "e"
 refine⟨by omega,?_⟩;rw_mod_cast [show decide ((1:Int)<=x.length)=true from decide_eq_true (by omega),show decide ((x.length:Int)<=8)=true from decide_eq_true (by omega),GV (GX h)];refine⟨by decide,uO x.cps.toList _ (by have:=h.l8;omega) (λc hc Q' q'=>?_) (λbs hb=>?_) trivial⟩
 .have:=h.az c hc;have e:=GW ⟨c,by omega⟩;walk_at "e"
  rw[show iX (Str.ofString "abcdefghijklmnopqrstuvwxyz") ⟨#[c]⟩=true from by
   show iX letters ⟨#[c]⟩=true;rw[e];exact decide_eq_true this]
  exact q'
 .rw_mod_cast [hb];exact⟨_,.refl _,_,.refl _,q⟩
theorem yF(h:Nm x)(q:Q .non μ):jh [.str x] μ Q:=by
 refine⟨rfl,?_⟩;walk_at "e"
 refine yE h ?_;walk_at "e"
 exact⟨_,.refl _,q⟩
theorem lQ{i lo hi:Int}(h1:lo<=i)(h2:i<=hi)(q:Q .non μ):gb [.int i,.int lo,.int hi] μ Q:=by
 refine⟨rfl,?_⟩;walk_at "e"
 refine GU ?_;rw_mod_cast [decide_eq_true h1,decide_eq_true h2];exact⟨_,.refl _,q⟩
theorem GZ(h:Nm x):PyData.strOk x=true:=by
 unfold PyData.strOk;rw[<- Array.all_toList];exact List.all_eq_true.mpr λc hc=>decide_eq_true (by have:=h.az c hc;omega)
def sLe(a b:Str):Prop:=a.cps.toList<=b.cps.toList
theorem G0{a b:Str}(h:sLe a b)(h':sLe b a):a=b:=by
 have e:a.cps.toList=b.cps.toList:=List.le_antisymm h h';cases a;cases b;simp only[Str.mk.injEq];exact Array.toList_inj.mp e
abbrev SL(β:Type):=List (Str×β)
variable{kn:SL Str}
def aq{β:Type}:SL β->Str->Option β
 | [],_=>none
 |p::r,j=>if p.1=j then some p.2 else aq r j
def ksS(l:SL β):List Key:=l.map λp=>(Sum.inr p.1:Key)
def vsS(f:β->D)(l:SL β):List D:=l.map λp=>f p.2
section
theorem fe{l:SL β}:(aq l j).isSome=true↔j∈l.map (·.1):=by
 induction l with
 |nil=>simp[aq]
 |cons p r ih =>
  rw[aq,List.map_cons,List.mem_cons];by_cases h:p.1=j
  .simp[h]
  .rw[if_neg h,ih];exact⟨λz=> .inr z,λz=>z.resolve_left λe=>h e.symm⟩
theorem dX{l:SL β}:(Sum.inr j:Key)∈ksS l↔j∈l.map (·.1):=by
 unfold ksS;rw[List.mem_map,List.mem_map];constructor
 .rintro⟨p,hp,e⟩;exact⟨p,hp,Sum.inr.inj e⟩
 .rintro⟨p,hp,e⟩;exact⟨p,hp,by rw[e]⟩
theorem pL{f:β->D}{l:SL β}:bN (ksS l) (vsS f l) (.inr j)=(aq l j).map f:=by
 induction l with
 |nil=>rfl
 |cons p r ih =>
  show(if (Sum.inr p.1:Key)= .inr j then some (f p.2) else bN (ksS r) (vsS f r) (.inr j))=_;rw[aq];by_cases h:p.1=j
  .rw[if_pos (by rw[h]),if_pos h];rfl
  .rw[if_neg (λz=>h (Sum.inr.inj z)),if_neg h];exact ih
theorem pM{f:β->D}{l:SL β}{b:β}(h:j∉l.map (·.1)):Ct.dct (fN (ksS l) (.inr j)) (gJ (ksS l) (vsS f l) (.inr j) (f b))= .dct (ksS (l++[(j,b)])) (vsS f (l++[(j,b)])):=by
 unfold fN gJ;rw[if_neg (λz=>h (dX.mp z)),if_neg (λz=>h (dX.mp z))];unfold ksS vsS;rw[List.map_append,List.map_append];rfl
theorem yG{l:SL β}{b:β}(hn:(l.map (·.1)).Nodup)(h:(j,b)∈l):aq l j=some b:=by
 induction l with
 |nil=>cases h
 |cons p r ih =>
  rw[List.map_cons] at hn;obtain⟨h1,h2⟩:=List.nodup_cons.mp hn;rw[aq];rcases List.mem_cons.mp h with rfl|h
  .simp
  .have hne:¬ p.1=j:=λe=>h1 (by rw[e];exact List.mem_map_of_mem (f:=λq:Str×β=>q.1) h)
   rw[if_neg hne,ih h2 h]
theorem G1{l:SL β}{b:β}(h:aq l j=some b):(j,b)∈l:=by
 induction l with
 |nil=>cases h
 |cons p r ih =>
  rw[aq] at h;by_cases e:p.1=j
  .rw[if_pos e] at h;cases h;rw[<- e];exact List.mem_cons_self
  .rw[if_neg e] at h;exact List.mem_cons_of_mem _ (ih h)
theorem jm{l:SL β}:(ksS l).length=l.length:=by unfold ksS;rw[List.length_map]
end
abbrev EN:=List Str×List Str×Int
variable{ln:SL EN}
def enD(e:EN):D:= .tup [.tup (e.1.map D.str),.tup (e.2.1.map D.str),.int e.2.2]
structure ak(μ:Mu)(k ck cl:Nat)(kn:SL Str)(ln:SL EN):Prop where
 o:μ k=some (.ins "Net" cn [.cell ck,.cell cl])
 a:μ ck=some (.dct (ksS kn) (vsS D.str kn))
 b:μ cl=some (.dct (ksS ln) (vsS enD ln))
 ne:ck≠cl
 nd:(kn.map (·.1)).Nodup
theorem ak.k1{k:Nat}(h:ak μ k ck cl kn ln):k≠ck:=λz=>by have:=h.o;rw[z,h.a] at this;cases this
theorem ak.k2{k:Nat}(h:ak μ k ck cl kn ln):k≠cl:=λz=>by have:=h.o;rw[z,h.b] at this;cases this
section
variable{k:Nat}
theorem yH(N:ak μ k ck cl kn ln)(hx:Nm x)(h:x∉kn.map (·.1))(q:Q .non μ):jj [.cell k,.str x] μ Q:=by
 refine⟨rfl,?_⟩;rw_mod_cast [];refine yF hx ?_;rw_mod_cast [fT,N.o,fR,N.a,fQ,dP,decide_eq_false (λz=>h (dX.mp z)),Bool.false_xor];exact⟨_,.refl _,q⟩
theorem yI{es:List Str}(N:ak μ k ck cl kn ln)(h:∀y∈es,y∈kn.map (·.1)/\y∉ln.map (·.1))(q:Q .non μ):jc [.cell k,.tup (es.map D.str)] μ Q:=by
 refine⟨rfl,?_⟩;rw_mod_cast [];refine cR (λi ρ μ'=>∃x2,ρ=[some (.cell k),some (.tup (es.map D.str)),x2]/\μ'=μ) ⟨_,rfl,rfl⟩ ?_ ?_
 .rintro i d ρ μ' hd ⟨x2,rfl,rfl⟩ N' hN;rw[List.getElem?_map] at hd;obtain⟨y,hy,rfl⟩:=Option.map_eq_some_iff.mp hd;obtain⟨h1,h2⟩:=h y (List.mem_of_getElem? hy);rw_mod_cast [fT,N.o,fR,N.a,N.b,fQ,dP,decide_eq_true (dX.mpr h1),decide_eq_false (λz=>h2 (dX.mp z)),Bool.false_xor,Bool.true_xor];exact hN _ _ ⟨_,rfl,rfl⟩
 .rintro ρ μ' ⟨x2,rfl,rfl⟩;exact⟨_,.refl _,q⟩
theorem yJ{kd:Str}(N:ak μ k ck cl kn ln)(hx:Nm x)(h:x∉kn.map (·.1))(hl:kn.length < 16+ln.length)(hz:kn.length<=900)(q:∀ μ',ak μ' k ck cl (kn++[(x,kd)]) ln->(∀j,j≠ck->μ' j=μ j)->Q .non μ'):jl [.cell k,.str x,.str kd] μ Q:=by
 refine⟨rfl,stp λN1 h1=>?_⟩;rw_mod_cast [N.o];refine yH N hx h ?_;rw_mod_cast [];refine h1 _ _ ?_;rw_mod_cast [N.o,uI,nH,N.a,N.b,gL,jm,decide_eq_false (show ¬ (16:Int)<=(kn.length:Int) - (ln.length:Int) by omega)];unfold fS;rw_mod_cast [N.o,N.a,gL,dP,jm];rw[pM (f:=D.str) h];refine⟨by omega,_,.refl _,q _ ⟨?_,zF,?_,N.ne,?_⟩ λj hj=>zq hj⟩
 .rw[zq N.k1];exact N.o
 .rw[zq N.ne.symm];exact N.b
 .rw[List.map_append];refine List.nodup_append.mpr ⟨N.nd,by simp,λa ha b hb=>?_⟩;simp at hb;subst hb;exact λz=>h (z▸ha)
theorem G3(N:ak μ k ck cl kn ln)(hx:Nm x)(h:x∉kn.map (·.1))(hl:kn.length < 16+ln.length)(hz:kn.length<=900)(q:∀ μ',ak μ' k ck cl (kn++[(x,("house":Str))]) ln->(∀j,j≠ck->μ' j=μ j)->Q .non μ'):lJ [.cell k,.str x] μ Q:=by
 refine⟨rfl,?_⟩;rw_mod_cast [N.o];refine yJ N hx h hl hz λμ' N' e=>?_
 exact⟨_,.refl _,q μ' N' e⟩
theorem G8(N:ak μ k ck cl kn ln)(hx:Nm x)(h:x∉kn.map (·.1))(hl:kn.length < 16+ln.length)(hz:kn.length<=900)(q:∀ μ',ak μ' k ck cl (kn++[(x,("gate":Str))]) ln->(∀j,j≠ck->μ' j=μ j)->Q .non μ'):lK [.cell k,.str x] μ Q:=by
 refine⟨rfl,?_⟩;rw_mod_cast [N.o];refine yJ N hx h hl hz λμ' N' e=>?_
 exact⟨_,.refl _,q μ' N' e⟩
theorem yK{es:List Str}(h1:es≠[])(h6:es.length<=6)(hn:es.Nodup)(q:Q .non μ):jd [.tup (es.map D.str)] μ Q:=by
 have hz:(1000:Nat)<=sizeLine:=by decide
 have hp:0 < es.length:=List.length_pos_iff.mpr h1;refine⟨rfl,stp λN1 h1=>?_⟩;rw_mod_cast [List.length_map,decide_eq_true (show(1:Int)<=(es.length:Int) by omega),decide_eq_true (show(es.length:Int)<=6 by omega)];refine h1 _ _ ?_;rw_mod_cast [];refine⟨es,rfl,by omega,?_⟩;rw[sB hn,List.length_map];rw_mod_cast [show decide ((es.length:Int) < es.length)=false from decide_eq_false (by omega)];exact⟨_,.refl _,q⟩
def Srt(xs ys:List Str):Prop:=List.Perm ys xs/\PyProof.Rows.sortedS ys=true
theorem G_{wr:Int}(N:ak μ k ck cl kn ln)(hx:Nm x)(h:x∉kn.map (·.1))(hl:ln.length < 16)(hz:kn.length<=900)
  (s1:S≠[])(s6:S.length<=6)(sn:S.Nodup)(e1:E≠[])(e6:E.length<=6)(en:E.Nodup)(hs:∀y∈S,y∈kn.map (·.1)/\y∉ln.map (·.1))(he:∀y∈E,y∈kn.map (·.1)/\y∉ln.map (·.1))(w0:0<=wr)(w1:wr<=30)(hxl:x∉ln.map (·.1))
  (q:∀ μ' S' E',Srt S S'->Srt E E'->ak μ' k ck cl (kn++[(x,("line":Str))]) (ln++[(x,S',E',wr)])->(∀j,j≠ck->j≠cl->μ' j=μ j)->Q .non μ'):lG [.cell k,.str x,.tup (S.map D.str),.tup (E.map D.str),.int wr] μ Q:=by
 have hzz:(1000:Nat)<=sizeLine:=by decide
 refine⟨rfl,stp λN1 h1=>?_⟩;rw_mod_cast [N.o];refine yH N hx h (h1 _ _ (stp λN2 h2=>?_));rw_mod_cast [N.o,uI,nH,N.b,gL,jm,decide_eq_false (show ¬ (16:Int)<=(ln.length:Int) by omega)];refine h2 _ _ (stp λN3 h3=>?_);rw_mod_cast [];refine yK s1 s6 sn (h3 _ _ (stp λN4 h4=>?_));rw_mod_cast [];refine yK e1 e6 en (h4 _ _ (stp λN5 h5=>?_));rw_mod_cast [N.o];refine yI N hs (h5 _ _ (stp λN6 h6=>?_));rw_mod_cast [N.o];refine yI N he (h6 _ _ (stp λN7 h7=>?_));rw_mod_cast [];refine lQ w0 w1 (h7 _ _ (stp λN8 h8=>?_));unfold fS;rw_mod_cast [N.o,N.a,gL,dP,jm];rw[pM (f:=D.str) h];refine⟨by omega,h8 _ _ ?_⟩;have o':zR μ ck (.dct (ksS (kn++[(x,("line":Str))])) (vsS D.str (kn++[(x,("line":Str))]))) k=some (.ins "Net" cn [.cell ck,.cell cl]):=by rw[zq N.k1];exact N.o
 have b':zR μ ck (.dct (ksS (kn++[(x,("line":Str))])) (vsS D.str (kn++[(x,("line":Str))]))) cl=some (.dct (ksS ln) (vsS enD ln)):=by rw[zq N.ne.symm];exact N.b
 unfold fS;rw_mod_cast [];refine uN (by omega) λS' p1 p2=>?_
 rw_mod_cast [];refine uN (by omega) λE' p3 p4=>?_
 rw_mod_cast [o',b',gL,dP,jm];have e:D.tup [.tup (S'.map D.str),.tup (E'.map D.str),.int wr]=enD (S',E',wr):=rfl;rw[e,pM (f:=enD) hxl];refine⟨by omega,by omega,_,.refl _,q _ S' E' ⟨p1,p2⟩ ⟨p3,p4⟩ ⟨?_,?_,zF,N.ne,?_⟩ λj a b=>?_⟩
 .rw[zq N.k2];exact o'
 .rw[zq N.ne,zF]
 .rw[List.map_append];refine List.nodup_append.mpr ⟨N.nd,by simp,λa ha b hb=>?_⟩;simp at hb;subst hb;exact λz=>h (z▸ha)
 .rw[zq b,zq a]
theorem Ha{l:SL β}:ksS l=(l.map (·.1)).map Sum.inr:=by unfold ksS;rw[List.map_map];rfl
theorem Hb(h:∀ck cl μ',μ ck=none->μ cl=none->ak μ' k ck cl [] []->(∀j c,μ j=some c->j≠k->μ' j=some c)->Q .non μ')(hk:μ k=some (.ins "Net" [] [])):lh [.cell k] μ Q:=by
 refine⟨rfl,stp λN1 h1=>?_⟩;rw_mod_cast [i3];intro ck hck;have kne:k≠ck:=λz=>by rw[z,hck] at hk;cases hk
 rw_mod_cast [zq kne,hk];refine h1 _ _ ?_;rw_mod_cast [i3];intro cl hcl;have n1:cl≠ck:=λz=>by
  rw[z,zq (λy=>kne y.symm),zF] at hcl;cases hcl
 have n2:cl≠k:=λz=>by rw[z,zF] at hcl;cases hcl
 have hcl':μ cl=none:=by rw[zq n2,zq n1] at hcl;exact hcl
 rw_mod_cast [zq (λy:k=cl=>n2 y.symm)];refine⟨_,.refl _,h ck cl _ hck hcl' ⟨zF,?_,?_,λz=>n1 z.symm,by simp⟩ λj c e hj=>?_⟩
 .rw[zq (λy=>kne y.symm),zq (λy=>n1 y.symm),zq (λy=>kne y.symm),zF];rfl
 .rw[zq n2,zF];rfl
 .rw[zq hj,zq (λy=>by rw[y,hcl'] at e;cases e),zq hj,zq (λy=>by rw[y,hck] at e;cases e)];exact e
end
theorem yL{k:Nat}{v:EN}(N:ak μ k ck cl kn ln)(h:aq ln x=some v)(q:Q (enD v) μ):gX [.cell k,.str x] μ Q:=by
 refine⟨rfl,?_⟩;have hm:x∈ln.map (·.1):=fe.mp (by rw[h];rfl);rw_mod_cast [fT,nM,N.o,fR,N.b,fQ,dP,decide_eq_true (dX.mpr hm),pL,h,Option.map_some,Bool.true_xor];exact⟨_,.refl _,q⟩
def kindsOf(ho ga:List Str)(ls:List LR):SL Str:=ho.map (λx=>(x,("house":Str)))++ga.map (λx=>(x,("gate":Str)))++ls.map (λr=>(r.nm,("line":Str)))
def eI(ls:List LR)(ln:SL EN):Prop:=ln.length=ls.length/\∀(i:Nat) r,ls[i]? = some r->∃S' E',ln[i]? = some (r.nm,S',E',r.w)/\Srt r.S S'/\Srt r.E E'
theorem fh:(kindsOf ho ga ls).map (·.1)=ho++ga++ls.map LR.nm:=by
 unfold kindsOf;rw[List.map_append,List.map_append,List.map_map,List.map_map,List.map_map];have e1:∀l:List Str,l.map ((λp:Str×Str=>p.1)∘λx=>(x,("house":Str)))=l:=λl=>by
  rw[show((λp:Str×Str=>p.1)∘λx=>(x,("house":Str)))=id from rfl,List.map_id]
 have e2:∀l:List Str,l.map ((λp:Str×Str=>p.1)∘λx=>(x,("gate":Str)))=l:=λl=>by
  rw[show((λp:Str×Str=>p.1)∘λx=>(x,("gate":Str)))=id from rfl,List.map_id]
 rw[e1,e2];rfl
theorem eI.fst(h:eI ls ln):ln.map (·.1)=ls.map LR.nm:=by
 apply List.ext_getElem?;intro i;rw[List.getElem?_map,List.getElem?_map];by_cases hi:i < ls.length
 .obtain⟨S',E',e,_⟩:=h.2 i ls[i] (List.getElem?_eq_getElem hi);rw[e,List.getElem?_eq_getElem hi];rfl
 .rw[List.getElem?_eq_none (show ln.length<=i by rw[h.1];omega),List.getElem?_eq_none (show ls.length<=i by omega)];rfl
theorem eI.snoc{r:LR}{S' E':List Str}(h:eI ls ln)(h1:Srt r.S S')(h2:Srt r.E E'):eI (ls++[r]) (ln++[(r.nm,S',E',r.w)]):=by
 refine⟨by simp[h.1],λi q e=>?_⟩;rw[List.getElem?_append] at e ⊢;rw[h.1];split at e
 .rename_i hi;rw[if_pos hi];exact h.2 i q e
 .rename_i hi;rw[if_neg hi];have:i - ls.length=0:=by
   have:=(List.getElem?_eq_some_iff.mp e).1;simpa using this
  rw[this] at e ⊢;simp at e;subst e;exact⟨S',E',rfl,h1,h2⟩
theorem Hc{s:Nat}{c:Nat}{rowsD slD:D}(W:WD μ s na la ns ls)(N:aK ho ga ns ls h c)(h4:ho.length<=4)(g3:ga.length<=3)
  (q:∀ μ' k ck cl ln,μ k=none->μ ck=none->μ cl=none->ak μ' k ck cl (kindsOf ho ga ls) ln->eI ls ln->(∀j c,μ j=some c->μ' j=some c)->Q (.cell k) μ') :
  lM [.tup [.lst (ho.map D.str),.lst (ga.map D.str),.cell la,rowsD,slD,.cell na]] μ Q:=by
 have hz:(1000:Nat)<=sizeLine:=by decide
 have l14:=N.len;have nd:=N.nd;have nmx:∀x∈ho++ga++ls.map LR.nm,Nm x:=λx hx=>N.nms x (N.sub x hx)
 refine⟨rfl,stp λN1 h1=>?_⟩;rw_mod_cast [];intro k hk;refine Hb (λck cl μ1 hck hcl A keep=>?_) zF;have kck:k≠ck:=A.k1;have kcl:k≠cl:=A.k2;have hck':μ ck=none:=by rw[zq (λz=>kck z.symm)] at hck;exact hck
 have hcl':μ cl=none:=by rw[zq (λz=>kcl z.symm)] at hcl;exact hcl
 have keep1:∀j c,μ j=some c->μ1 j=some c/\j≠k/\j≠ck/\j≠cl:=λj c e=>by
  have n1:j≠k:=λz=>by rw[z,hk] at e;cases e
  exact⟨keep j c (by rw[zq n1];exact e) n1,n1,λz=>(by rw[z,hck'] at e;cases e),λz=>(by rw[z,hcl'] at e;cases e)⟩
 clear keep hck hcl;refine⟨rfl,h1 _ _ ?_⟩;refine dH (λρ μ'=>∃x2,ρ=[some (.tup [.lst (ho.map D.str),.lst (ga.map D.str),.cell la,rowsD,slD,.cell na]),some (.cell k),x2,none,none,none]/\ak μ' k ck cl (kindsOf ho [] []) []/\∀j c,μ j=some c->μ' j=some c) (λN2 k2=>?_) ?_
 .rw_mod_cast [];refine cR (λi ρ μ'=>∃x2,ρ=[some (.tup [.lst (ho.map D.str),.lst (ga.map D.str),.cell la,rowsD,slD,.cell na]),some (.cell k),x2,none,none,none]/\ak μ' k ck cl (kindsOf (ho.take i) [] []) []/\∀j c,μ j=some c->μ' j=some c) ⟨_,rfl,A,λj c e=>(keep1 j c e).1⟩ ?_ ?_
  .rintro i d ρ μ' hd ⟨x2,rfl,A',ke⟩ N3 hN;rw[List.getElem?_map] at hd;obtain⟨x,hx,rfl⟩:=Option.map_eq_some_iff.mp hd;have hi:=(List.getElem?_eq_some_iff.mp hx).1;rw_mod_cast [A'.o];refine G3 A' (nmx x (by simp[List.mem_of_getElem? hx])) ?_ ?_ ?_ λμ2 A2 ke2=>?_
   .rw[fh];simp only[List.append_nil,List.map_nil];intro hm;have hd2:(ho.take i++[x]).Nodup:=by
     have:ho.take (i+1)=ho.take i++[x]:=by rw[List.take_add_one,hx];rfl
     rw[<- this];exact(List.take_sublist _ _).nodup ((List.nodup_append.mp (List.nodup_append.mp nd).1).1)
    exact(List.nodup_append.mp hd2).2.2 x hm x (by simp) rfl
   .simp[kindsOf];omega
   .simp[kindsOf];omega
   .refine hN _ _ ⟨_,rfl,?_,λj c e=>?_⟩
    .have e:kindsOf (ho.take (i+1)) [] []=kindsOf (ho.take i) [] []++[(x,("house":Str))]:=by
      unfold kindsOf;rw[List.take_add_one,hx];simp
     rw[e];exact A2
    .rw[ke2 j (keep1 j c e).2.2.1];exact ke j c e
  .rintro ρ μ' ⟨x2,rfl,A',ke⟩;rw[List.length_map,List.take_length] at A';exact k2 _ _ ⟨_,rfl,A',ke⟩
 rintro ρ μ2 ⟨x2,rfl,A2,ke2⟩;refine dH (λρ μ'=>∃x2,ρ=[some (.tup [.lst (ho.map D.str),.lst (ga.map D.str),.cell la,rowsD,slD,.cell na]),some (.cell k),x2,none,none,none]/\ak μ' k ck cl (kindsOf ho ga []) []/\∀j c,μ j=some c->μ' j=some c) (λN2 k2=>?_) ?_
 .rw_mod_cast [];refine cR (λi ρ μ'=>∃x2,ρ=[some (.tup [.lst (ho.map D.str),.lst (ga.map D.str),.cell la,rowsD,slD,.cell na]),some (.cell k),x2,none,none,none]/\ak μ' k ck cl (kindsOf ho (ga.take i) []) []/\∀j c,μ j=some c->μ' j=some c) ⟨_,rfl,A2,ke2⟩ ?_ ?_
  .rintro i d ρ μ' hd ⟨x2,rfl,A',ke⟩ N3 hN;rw[List.getElem?_map] at hd;obtain⟨x,hx,rfl⟩:=Option.map_eq_some_iff.mp hd;have hi:=(List.getElem?_eq_some_iff.mp hx).1;rw_mod_cast [A'.o];refine G8 A' (nmx x (by simp[List.mem_of_getElem? hx])) ?_ ?_ ?_ λμ2 A2 ke2=>?_
   .rw[fh];simp only[List.append_nil,List.map_nil];intro hm;have hd2:(ho++(ga.take i++[x])).Nodup:=by
     have:ga.take (i+1)=ga.take i++[x]:=by rw[List.take_add_one,hx];rfl
     rw[<- this];exact((List.Sublist.refl ho).append (List.take_sublist _ _)).nodup (List.nodup_append.mp nd).1
    rw[<- List.append_assoc] at hd2;exact(List.nodup_append.mp hd2).2.2 x hm x (by simp) rfl
   .simp[kindsOf];omega
   .simp[kindsOf];omega
   .refine hN _ _ ⟨_,rfl,?_,λj c e=>?_⟩
    .have e:kindsOf ho (ga.take (i+1)) []=kindsOf ho (ga.take i) []++[(x,("gate":Str))]:=by
      unfold kindsOf;rw[List.take_add_one,hx];simp
     rw[e];exact A2
    .rw[ke2 j (keep1 j c e).2.2.1];exact ke j c e
  .rintro ρ μ' ⟨x2,rfl,A',ke⟩;rw[List.length_map,List.take_length] at A';exact k2 _ _ ⟨_,rfl,A',ke⟩
 clear A2 ke2 x2 A;rintro ρ μ2 ⟨x2,rfl,A2,ke2⟩;refine stp λN4 k4=>?_
 rw_mod_cast [ke2 la _ W.dl];refine cR (λi ρ μ'=>∃x2 x3 x4 x5 ln,ρ=[some (.tup [.lst (ho.map D.str),.lst (ga.map D.str),.cell la,rowsD,slD,.cell na]),some (.cell k),x2,x3,x4,x5]/\ak μ' k ck cl (kindsOf ho ga (ls.take i)) ln/\eI (ls.take i) ln/\∀j c,μ j=some c->μ' j=some c) ⟨_,_,_,_,[],rfl,A2,⟨rfl,λi r e=>by simp at e⟩,ke2⟩ ?_ ?_ ?_
 .rintro i d ρ μ' hd ⟨x2,x3,x4,x5,ln,rfl,A',L',ke⟩ N3 hN;rw[List.getElem?_map] at hd;obtain⟨r,hr,rfl⟩:=Option.map_eq_some_iff.mp hd;have hm:=List.mem_of_getElem? hr;have hi:=(List.getElem?_eq_some_iff.mp hr).1;have E:=N.ends r hm;obtain⟨c1,c2⟩:=W.rs r hm;have tk:ls.take (i+1)=ls.take i++[r]:=by rw[List.take_add_one,hr];rfl
  have hsub:(ho++ga++((ls.take i).map LR.nm++[r.nm])).Nodup:=by
   have:ho++ga++(ls.take (i+1)).map LR.nm=ho++ga++((ls.take i).map LR.nm++[r.nm]):=by rw[tk,List.map_append];rfl
   rw[<- this];exact((List.Sublist.refl _).append ((List.take_sublist _ _).map _)).nodup nd
  have hnew:r.nm∉ho++ga++(ls.take i).map LR.nm:=λhh=>by
   rw[<- List.append_assoc] at hsub;exact(List.nodup_append.mp hsub).2.2 _ hh _ (by simp) rfl
  have fs:=L'.fst;have nodes:∀y∈ho++ga,y∈(kindsOf ho ga (ls.take i)).map (·.1)/\y∉ln.map (·.1):=λy hy=>by
   rw[fh,fs];refine⟨List.mem_append_left _ hy,λhh=>?_⟩;have:=List.nodup_append.mp nd;exact this.2.2 y hy y (((List.take_sublist i ls).map LR.nm).subset hh) rfl
  unfold aH;rw_mod_cast [FE,ke _ _ c1,ke _ _ c2,A'.o];refine G_ A' (nmx _ (by simp[List.mem_map_of_mem (f:=LR.nm) hm])) (by rw[fh];exact hnew) ?_ ?_ E.s0 E.s6 E.sn E.e0 E.e6 E.en (λy hy=>nodes y (E.ss y hy)) (λy hy=>nodes y (E.es y hy)) E.w0 (by have:=E.w3;omega) ?_ λμ3 S' E' p1 p2 A3 ke3=>?_
  .rw[L'.1,List.length_take];omega
  .simp[kindsOf];omega
  .rw[fs];exact λhh=>hnew (List.mem_append_right _ hh)
  .refine hN _ _ ⟨_,_,_,_,ln++[(r.nm,S',E',r.w)],rfl,?_,?_,λj c e=>?_⟩
   .have e:kindsOf ho ga (ls.take (i+1))=kindsOf ho ga (ls.take i)++[(r.nm,("line":Str))]:=by
     unfold kindsOf;rw[tk];simp
    rw[e];exact A3
   .rw[tk];exact L'.snoc p1 p2
   .rw[ke3 j (keep1 j c e).2.2.1 (keep1 j c e).2.2.2];exact ke j c e
 .rintro ρ μ' ⟨x2,x3,x4,x5,ln,rfl,A',L',ke⟩;rw[List.length_map,List.take_length] at A' L';refine k4 _ _ ?_;rw_mod_cast [];exact⟨_,.refl _,q μ' k ck cl ln hk hck' hcl' A' L' ke⟩
 .rintro i ρ μ' ⟨x2,x3,x4,x5,ln,rfl,A',L',ke⟩;exact ke la _ W.dl
structure g9(way:List Str):Prop where
 len:way.length=3\/way.length=5\/way.length=7
 nms:∀x∈way,Nm x
 nd:way.Nodup
theorem Hd{way:List Str}(h:g9 way)(q:Q .non μ):ly [.tup (way.map D.str)] μ Q:=by
 have l7:way.length<=7:=by rcases h.len with e|e|e<;>omega
 have hm:((way.length:Int))∈([3,5,7]:List Int):=by rcases h.len with e|e|e<;>rw[e]<;>decide
 have e3:ao true (.int (way.length:Int)) (.tup [D.int 3,D.int 5,D.int 7]) μ=ao true (.int (way.length:Int)) (.tup (List.map D.int [3,5,7])) μ:=rfl;refine⟨rfl,stp λN1 h1=>?_⟩;walk_at "e"
 rw[List.length_map,e3];simp only[nD,nr,Bool.true_xor,decide_eq_true hm,Bool.not_true,Bool.false_eq_true,if_false];refine h1 _ _ (stp λN2 h2=>?_);walk_at "e"
 refine⟨by decide,uO way D.str (by omega) (λx hx Q' q'=>?_) (λbs hb=>?_) trivial⟩
 .walk_at "e"
  exact yE (h.nms x hx) q'
 .rw_mod_cast [hb];refine h2 _ _ ?_;walk_at "e"
  refine⟨way,rfl,by omega,?_⟩;rw[sB h.nd,List.length_map];rw_mod_cast [show decide ((way.length:Int) < way.length)=false from decide_eq_false (by omega)];exact⟨_,.refl _,q⟩
structure pN(w1 w2:List Str):Prop where
 l1:3<=w1.length
 l1':w1.length<=7
 l2:3<=w2.length
 fst:w1[0]? = w2[0]?
 lst:w1[w1.length - 1]? = w2[w2.length - 1]?
 dj:∀x∈inner w1,x∉w2
theorem yM(h:3<=w.length):∃a b,w[0]? = some a/\w[w.length - 1]? = some b/\atI (w.map D.str) 0=some (.str a)/\atI (w.map D.str) (-1)=some (.str b):=by
 have h0:0 < w.length:=by omega
 have h1:w.length - 1 < w.length:=by omega
 refine⟨w[0],w[w.length - 1],List.getElem?_eq_getElem h0,List.getElem?_eq_getElem h1,tX (j:=0) rfl (by rw[List.getElem?_map,List.getElem?_eq_getElem h0];rfl),?_⟩;rw[tY,List.getLast?_eq_getElem?,List.length_map,List.getElem?_map,List.getElem?_eq_getElem h1];rfl
theorem He{w1 w2:List Str}(h:pN w1 w2)(q:Q .non μ):li [.tup (w1.map D.str),.tup (w2.map D.str)] μ Q:=by
 have l1:=h.l1;have l1':=h.l1';obtain⟨a,b,e1,e2,e3,e4⟩:=yM h.l1;obtain⟨a',b',f1,f2,f3,f4⟩:=yM h.l2;have ea:a=a':=by have:=h.fst;rw[e1,f1] at this;cases this;rfl
 have eb:b=b':=by have:=h.lst;rw[e2,f2] at this;cases this;rfl
 subst ea eb;refine⟨rfl,stp λN1 h1=>?_⟩;rw_mod_cast [e3,e4,f3,f4];refine h1 _ _ ?_;walk_at "e"
 have ns1:¬ (HT.sIx (w1.map D.str).length 0 (some 1)=0/\HT.sIx (w1.map D.str).length (w1.map D.str).length (some (-1))=(w1.map D.str).length):=by
  rintro⟨z,_⟩;have:=HT.bO (w1.map D.str).length 0 1;rw[List.length_map,Nat.min_eq_left (by omega)] at this;rw[List.length_map] at z;have e:HT.sIx w1.length 0 (some 1)=1:=this;omega
 refine⟨by decide,ns1,?_⟩;rw[yB w1 (by omega)];have hil:(inner w1).length<=7:=Nat.le_trans (sj _) l1';have hz:(1000:Nat)<=sizeLine:=by decide
 refine gG (λi ys μ'=>μ'=μ/\ys=(List.replicate i false).map D.bl) ⟨rfl,rfl⟩ ?_ ?_
 .rintro i d ys μ' hd ⟨rfl,rfl⟩;rw[List.getElem?_map] at hd;cases hx:(inner w1)[i]? with
  |none=>rw[hx] at hd;cases hd
  |some x =>
   rw[hx] at hd;cases hd;have hi:=(List.getElem?_eq_some_iff.mp hx).1;refine⟨by rw[List.length_map,List.length_replicate];omega,λN hN=>?_⟩;rw_mod_cast [gH,Bool.false_xor,decide_eq_false (h.dj x (List.mem_of_getElem? hx))];refine hN _ _ ⟨rfl,?_⟩;rw[List.replicate_succ',List.map_append];rfl
 .rintro ys μ' ⟨rfl,rfl⟩;rw_mod_cast [show ∀n,(List.replicate n false).any id=false from λn=>by simp];exact⟨_,.refl _,q⟩
def yN(ways:List (List Str)):Prop:=(∃w1,ways=[w1]/\g9 w1)\/∃w1 w2,ways=[w1,w2]/\g9 w1/\g9 w2/\pN w1 w2
theorem Hf{ways:List (List Str)}(h:yN ways)(q:Q .non μ):lD [.tup (ways.map ay)] μ Q:=by
 have l12:ways.length=1\/ways.length=2:=by rcases h with⟨w1,rfl,_⟩|⟨w1,w2,rfl,_⟩<;>simp
 have hm:((ways.length:Int))∈([1,2]:List Int):=by rcases l12 with e|e<;>rw[e]<;>decide
 have wok:∀w∈ways,g9 w:=by
  rcases h with⟨w1,rfl,a⟩|⟨w1,w2,rfl,a,b,_⟩
  .intro w hw;rw[List.mem_singleton.mp hw];exact a
  .intro w hw;rcases List.mem_cons.mp hw with e|e
   .rw[e];exact a
   .rw[List.mem_singleton.mp e];exact b
 refine⟨rfl,stp λN1 h1=>?_⟩;walk_at "e"
 refine⟨by decide,?_⟩;have e12:ao true (.int (ways.length:Int)) (.tup [D.int 1,D.int 2]) μ=ao true (.int (ways.length:Int)) (.tup (List.map D.int [1,2])) μ:=rfl;rw[List.length_map,e12];simp only[nD,nr,Bool.true_xor,decide_eq_true hm,Bool.not_true,Bool.false_eq_true,if_false];refine h1 _ _ (stp λN2 h2=>?_);walk_at "e"
 refine cR (λi ρ μ'=>∃x,ρ=[some (.tup (ways.map ay)),x]/\μ'=μ) ⟨_,rfl,rfl⟩ ?_ ?_
 .rintro i d ρ μ' hd ⟨x,rfl,rfl⟩ N hN;rw[List.getElem?_map] at hd;cases hx:ways[i]? with
  |none=>rw[hx] at hd;cases hd
  |some w =>
   rw[hx] at hd;cases hd;unfold ay;walk_at "e"
   exact Hd (wok w (List.mem_of_getElem? hx)) (hN _ _ ⟨_,rfl,rfl⟩)
 rintro ρ μ' ⟨x,rfl,rfl⟩;refine h2 _ _ ?_;rcases h with⟨w1,rfl,a⟩|⟨w1,w2,rfl,a,b,c⟩
 .walk_at "e"
  exact⟨_,.refl _,q⟩
 .rw_mod_cast [ay];exact He c ⟨_,.refl _,q⟩
set_option maxHeartbeats 400000
def lR:List Int:=[4,5,6,8,10,12,15,20,24,30,40,60,120]
structure g_(r:RW):Prop where
 nm:Nm r.nm
 ways:yN r.ways
 ev:r.e∈lR
 l1:1<=r.lo
 l2:r.lo<=30
 r0:0<=r.re
 r1:r.re<=r.e - 1
 t1:1<=r.lst
 t2:r.lst<=480
def hG(r:RW):List D:=[.str r.nm,.tup (r.ways.map ay),.int r.e,.int r.lo,.int r.re,.int r.lst]
def frO(r:RW):D:= .obj "Frame" gU (hG r)
theorem Hg{k:Nat}(h:g_ r)(q:Q .non (zR μ k (.ins "Frame" gU (hG r)))):g8 [.cell k,.str r.nm,.tup (r.ways.map ay),.int r.e,.int r.lo,.int r.re,.int r.lst] (zR μ k (.ins "Frame" [] [])) Q:=by
 refine⟨rfl,stp λN1 h1=>?_⟩;walk_at "e"
 refine yF h.nm (h1 _ _ (stp λN2 h2=>?_));walk_at "e"
 refine Hf h.ways (h2 _ _ (stp λN3 h3=>?_));walk_at "e"
 have e1:∀(μ:Mu) (Q:DK),ao true (.int r.e) (.tup [D.int 4,D.int 5,D.int 6,D.int 8,D.int 10,D.int 12,D.int 15,D.int 20,D.int 24,D.int 30,D.int 40,D.int 60,D.int 120]) μ Q=ao true (.int r.e) (.tup (List.map D.int lR)) μ Q:=λ_ _=>rfl
 rw[e1];simp only[nD,nr,Bool.true_xor,decide_eq_true h.ev,Bool.not_true,Bool.false_eq_true,if_false];refine h3 _ _ (stp λN4 h4=>?_);walk_at "e"
 refine lQ h.l1 h.l2 (h4 _ _ (stp λN5 h5=>?_));walk_at "e"
 refine lQ h.r0 h.r1 (h5 _ _ (stp λN6 h6=>?_));walk_at "e"
 refine lQ h.t1 h.t2 (h6 _ _ (stp λN7 h7=>?_));walk_at "e"
 refine h7 _ _ (stp λN8 h8=>?_);rw_mod_cast [cM];refine h8 _ _ (stp λN9 h9=>?_);rw_mod_cast [cM];refine h9 _ _ (stp λN10 h10=>?_);rw_mod_cast [cM];refine h10 _ _ (stp λN11 h11=>?_);rw_mod_cast [cM];refine h11 _ _ ?_;rw_mod_cast [cM];exact⟨_,.refl _,q⟩
theorem Hh{k:Nat}(h:g_ r)(hk:μ k=none)(q:Q (frO r) μ):g8 [.cell k,.str r.nm,.tup (r.ways.map ay),.int r.e,.int r.lo,.int r.re,.int r.lst] (zR μ k (.ins "Frame" [] [])) λd μ3=>d= .non/\eh μ3 (.cell k) Q:=by
 refine Hg h ⟨rfl,?_⟩;rw[Er,zF,Ep,sD hk];exact q
theorem fmk{n j:Nat}{pat:List Src}{cs ds es:List D}(h:g_ r)(hs:∀k,sel n j pat .non cs (.cell k::ds) es=[.cell k,.str r.nm,.tup (r.ways.map ay),.int r.e,.int r.lo,.int r.re,.int r.lst])(q:Q (frO r) μ):nF "Frame" g8 n j pat cs ds es μ Q:=λk hk=>by
 rw[hs k];exact Hh h hk q
theorem Hi(h:g_ r)(q:Q (frO r) μ):lN [a7 r] μ Q:=by
 refine⟨rfl,?_⟩;unfold a7;refine Fh (ds:=[.str r.nm,.tup (r.ways.map ay)]) (es:=[.int r.e,.int r.lo,.int r.re,.int r.lst]) ?_ ?_ (fmk h (λk=>rfl) ⟨_,.refl _,q⟩)
 .walk_at "x"
 .walk_at "x"
theorem Hj(h:x∈inner w):∃j,1<=j/\j+1 < w.length/\w[j]? = some x:=by
 unfold inner at h;obtain⟨j,hj⟩:=List.mem_iff_getElem?.mp h;rw[List.getElem?_take] at hj;split at hj
 .rename_i hlt;rw[List.getElem?_drop] at hj;exact⟨1+j,by omega,by omega,hj⟩
 .cases hj
theorem yO(h:w.Nodup){i j:Nat}(h1:w[i]? = some x)(h2:w[j]? = some x):i=j:=by
 obtain⟨a,ea⟩:=List.getElem?_eq_some_iff.mp h1;obtain⟨b,eb⟩:=List.getElem?_eq_some_iff.mp h2;exact(List.getElem_inj h).mp (ea.trans eb.symm)
theorem pO{c:Nat}{bd:List Str}{k:Nat}(N:aK ho ga ns ls h c)(k1:1<=k)(k3:k<=3)(W:Way ho ga ns ls bd first k (2*k) w):g9 w:=⟨by rw[W.len];omega,λx hx=>N.nms x (W.sub x hx),W.nd⟩
theorem Hk{last:Str}{k1 k2:Nat}{w1 w2:List Str}(a1:1<=k1)(a3:k1<=3)(b1:1<=k2)(b3:k2<=3)(W1:Way ho ga ns ls [] first k1 (2*k1) w1)(e1:w1[2*k1]? = some last)(W2:Way ho ga ns ls (inner w1) first k2 (2*k2) w2)(e2:w2[2*k2]? = some last):pN w1 w2:=by
 have l1:=W1.len;have l2:=W2.len;refine⟨by omega,by omega,by omega,by rw[W1.hd,W2.hd],?_,λx hx hx2=>?_⟩
 .rw[show w1.length - 1=2*k1 from by omega,show w2.length - 1=2*k2 from by omega,e1,e2]
 .obtain⟨i,i1,i2,hi⟩:=Hj hx;obtain⟨j,hj⟩:=List.mem_iff_getElem?.mp hx2;have hlt:j < 2*k2+1:=by have:=(List.getElem?_eq_some_iff.mp hj).1;omega
  by_cases z:j=0
  .subst z;rw[W2.hd] at hj;cases hj;have:=yO W1.nd hi W1.hd;omega
  .by_cases z2:j=2*k2
   .subst z2;rw[e2] at hj;cases hj;have:=yO W1.nd hi e1;omega
   .rcases Nat.mod_two_eq_zero_or_one j with e|e
    .obtain⟨m,rfl⟩:∃m,j=2*m+2:=⟨j / 2 - 1,by omega⟩;exact(W2.gt m x (by omega) hj).2 hx
    .obtain⟨m,rfl⟩:∃m,j=2*m+1:=⟨j / 2,by omega⟩;exact(W2.ln m x hj).2 hx
theorem lS{way:List Str}{lo sl:Int}(h0:1<=lo)(h4:lo<=4)(s0:0<=sl)(s7:sl<=7):∀(ls:List LR) (m:Int),(∀r∈ls,0<=r.w/\r.w<=3)->m<=ls.foldl (λm r=>if r.nm∈way then m+lo+r.w+sl else m) m/\ls.foldl (λm r=>if r.nm∈way then m+lo+r.w+sl else m) m<=m+14*ls.length/\((∃r∈ls,r.nm∈way)->m+1<=ls.foldl (λm r=>if r.nm∈way then m+lo+r.w+sl else m) m)
 | [],m,_=>⟨by simp,by simp,λ⟨r,hr,_⟩=>by cases hr⟩
 |r::t,m,h=>by
  obtain⟨w0,w3⟩:=h r List.mem_cons_self;have h':∀r∈t,0<=r.w/\r.w<=3:=λx hx=>h x (List.mem_cons_of_mem _ hx)
  rw[List.foldl_cons,List.length_cons];by_cases hm:r.nm∈way
  .rw[if_pos hm];obtain⟨a,b,c⟩:=lS (way:=way) h0 h4 s0 s7 t (m+lo+r.w+sl) h';exact⟨by omega,by omega,λ_=>by omega⟩
  .rw[if_neg hm];obtain⟨a,b,c⟩:=lS (way:=way) h0 h4 s0 s7 t m h';refine⟨a,by omega,λ⟨x,hx,hxw⟩=>?_⟩;rcases List.mem_cons.mp hx with rfl|hx
   .exact absurd hxw hm
   .exact c ⟨x,hx,hxw⟩
theorem Hl{c:Nat}(N:aK ho ga ns ls h c)(s0:0<=sl)(s7:sl<=7)(R:cJ ho ga ns ls sl r):g_ r:=by
 have ev:8<=r.e/\r.e<=120/\r.e∈lR:=by
  have:∀e∈jS,8<=e/\e<=120/\e∈lR:=by decide
  exact this _ R.ev
 have wl:∀q∈ls,0<=q.w/\q.w<=3:=λq hq=>⟨(N.ends q hq).w0,(N.ends q hq).w3⟩
 have l14:=N.len;obtain⟨first,last,w1,k1,hf,hl,hfl,k11,k13,W1,e1,hw⟩:=R.way;have ls1:1<=bQ ls w1 r.lo sl:=by
  have le:=W1.len;have i0:2*0 < w1.length:=by omega
  have i1:2*0+1 < w1.length:=by omega
  have i2:2*0+2 < w1.length:=by omega
  obtain⟨q,hq,en,_,_⟩:=W1.jn 0 _ _ _ (List.getElem?_eq_getElem i0) (List.getElem?_eq_getElem i1) (List.getElem?_eq_getElem i2);have:=(lS (way:=w1) R.l1 R.l4 s0 s7 ls 0 wl).2.2 ⟨q,hq,by rw[en];exact List.getElem_mem _⟩;unfold bQ;omega
 have lsb:∀w,0<=bQ ls w r.lo sl/\bQ ls w r.lo sl<=196:=λw=>by
  obtain⟨a,b,_⟩:=lS (way:=w) R.l1 R.l4 s0 s7 ls 0 wl;unfold bQ;exact⟨a,by omega⟩
 have nb:1<=dB ls r.ways r.lo sl/\dB ls r.ways r.lo sl<=196:=by
  have b1:=lsb w1;rcases hw with e|⟨w2,k2,e,_⟩
  .rw[e];unfold dB;simp only[List.foldl_cons,List.foldl_nil];split<;>omega
  .have b2:=lsb w2;rw[e];unfold dB;simp only[List.foldl_cons,List.foldl_nil];split<;>split<;>omega
 obtain⟨sp,es,hs⟩:=R.lst;have sb:0<=sp/\sp<=119:=by
  simp only[List.mem_cons,List.not_mem_nil,or_false] at hs;rcases hs with e|e|e|e|e|e|e<;>omega
 refine⟨N.nms _ R.nmn,?_,ev.2.2,R.l1,by have:=R.l4;omega,R.r0,by have:=R.re;omega,by omega,by omega⟩;rcases hw with e|⟨w2,k2,e,b1,b3,W2,e2⟩
 .exact .inl ⟨w1,e,pO N k11 k13 W1⟩
 .exact .inr ⟨w1,w2,e,pO N k11 k13 W1,pO N b1 b3 W2,Hk k11 k13 b1 b3 W1 e1 W2 e2⟩
theorem yP{f:α->β}:∀{l:List α} {l':List β},List.Perm l' (l.map f)->∃l2,List.Perm l2 l/\l'=l2.map f:=λ{l l'} h=>by
 generalize hm:l.map f=m at h
 induction h generalizing l with
 |nil=>cases l with
  |nil=>exact⟨[],.refl _,rfl⟩
  |cons _ _=>cases hm
 |cons x _ ih =>
  cases l with
  |nil=>cases hm
  |cons a l =>
   cases hm;obtain⟨l2,p,rfl⟩:=ih rfl;exact⟨a::l2,p.cons a,rfl⟩
 |swap x y _ =>
  match l,hm with
  |a::b::l,hm =>
   cases hm;exact⟨b::a::l,.swap _ _ _,rfl⟩
 |trans _ _ ih1 ih2 =>
  obtain⟨l2,p,rfl⟩:=ih2 hm;obtain⟨l3,p3,rfl⟩:=ih1 rfl;exact⟨l3,p3.trans p,rfl⟩
theorem yQ{α:Type}{r:α->α->Prop}:∀{l1 l2:List α},List.Perm l1 l2->List.Pairwise r l1->List.Pairwise r l2->(∀a∈l1,∀b∈l1,r a b->r b a->a=b)->l1=l2
 | [],l2,h,_,_,_=>h.nil_eq
 |a::r1,[],h,_,_,_=>absurd h.length_eq (by simp)
 |a::r1,b::r2,h,h1,h2,anti=>by
  obtain⟨a1,p1⟩:=List.pairwise_cons.mp h1;obtain⟨b1,p2⟩:=List.pairwise_cons.mp h2;have e:a=b:=by
   rcases List.mem_cons.mp (h.mem_iff.mp List.mem_cons_self) with z|z
   .exact z
   .rcases List.mem_cons.mp (h.mem_iff.mpr (List.mem_cons_self (a:=b))) with y|y
    .exact y.symm
    .exact anti a (.head _) b (.tail _ y) (a1 b y) (b1 a z)
  subst e;rw[yQ (List.perm_cons a |>.mp h) p1 p2 λx hx y hy=>anti x (.tail _ hx) y (.tail _ hy)]
def dc(r:RW):List D:=[.str r.nm,.tup (r.ways.map ay),.int r.e,.int r.lo,.int r.re,.int r.lst]
theorem yR(rows:List RW):rows.map a7=(rows.map dc).map D.tup:=by rw[List.map_map];rfl
structure cp(rows l:List RW):Prop where
 p:List.Perm l rows
 s:l.Pairwise λa b=>sLe a.nm b.nm
theorem Hm(nd:(rows.map RW.nm).Nodup){b:RW}(ha:a∈rows)(hb:b∈rows)(e:a.nm=b.nm):a=b:=by
 obtain⟨i,hi,rfl⟩:=List.getElem_of_mem ha;obtain⟨j,hj,rfl⟩:=List.getElem_of_mem hb;by_cases h:i=j
 .subst h;rfl
 .exfalso;have hk:(rows.map RW.nm)[i]'(by simpa using hi)=(rows.map RW.nm)[j]'(by simpa using hj):=by rw[List.getElem_map,List.getElem_map];exact e
  rcases Nat.lt_or_gt_of_ne h with z|z
  .exact(List.pairwise_iff_getElem.mp nd) i j _ _ z hk
  .exact(List.pairwise_iff_getElem.mp nd) j i _ _ z hk.symm
theorem cp.uniq{l1 l2:List RW}(nd:(rows.map RW.nm).Nodup)(h1:cp rows l1)(h2:cp rows l2):l1=l2 :=
 yQ (h1.p.trans h2.p.symm) h1.s h2.s λa ha b hb x y=>Hm nd (h1.p.mem_iff.mp ha) (h1.p.mem_iff.mp hb) (G0 x y)
theorem Hn(nd:(rows.map RW.nm).Nodup):∀i j,i≠j->(bV ((rows.map dc).getD i []) ((rows.map dc).getD j [])).isSome:=by
 intro i j hij;have out:∀{n},¬ n < rows.length->(rows.map dc).getD n []=[]:=λ{n} h=>by simp[Nat.le_of_not_lt h]
 have inn:∀{n} (h:n < rows.length),(rows.map dc).getD n []=dc rows[n]:=λ{n} h=>by simp[h]
 by_cases hi:i < rows.length
 .by_cases hj:j < rows.length
  .rw[inn hi,inn hj];unfold dc;by_cases e1:rows[i].nm=rows[j].nm
   .exfalso;have hk:(rows.map RW.nm)[i]'(by simpa using hi)=(rows.map RW.nm)[j]'(by simpa using hj):=by rw[List.getElem_map,List.getElem_map];exact e1
    rcases Nat.lt_or_gt_of_ne hij with z|z
    .exact(List.pairwise_iff_getElem.mp nd) i j _ _ z hk
    .exact(List.pairwise_iff_getElem.mp nd) j i _ _ z hk.symm
   .simp[bV,e1]
  .rw[out hj,inn hi];rfl
 .rw[out hi];by_cases hj:j < rows.length
  .rw[inn hj];rfl
  .rw[out hj];rfl
theorem Ho{b:RW}(h:rLe (dc a) (dc b)):sLe a.nm b.nm:=by
 unfold rLe dc at h;unfold bV at h;by_cases e:b.nm=a.nm
 .rw[e];exact List.le_refl _
 .rw[if_neg e] at h;have h':sLt b.nm a.nm=false:=by
   cases z:sLt b.nm a.nm with
   |false=>rfl
   |true=>exact absurd (by rw[z]) h
  unfold sLt at h';rw[decide_eq_false_iff_not] at h';exact h'
theorem Hq{d:D}(hl:am μ d=some (rows.map a7))(nd:(rows.map RW.nm).Nodup)(hz:rows.length < 64)(q:∀l,cp rows l->Q (.lst (l.map a7)) μ):kC [d] μ Q:=by
 refine FP (rows:=rows.map dc) (.inl (by rw[hl,yR])) (by rw[List.length_map];exact hz) (.inl λr hr=>?_) (Hn nd) λrows' p s=>?_
 .obtain⟨t,_,rfl⟩:=List.mem_map.mp hr;exact⟨_,_,rfl⟩
 .obtain⟨l,p',rfl⟩:=yP p;rw[<- yR];refine q l ⟨p',?_⟩;rw[List.pairwise_map] at s;exact s.imp λh=>Ho h
theorem pP(h:Nm x):∃out,eG x=some out/\out.length<=sizeLine:=by
 obtain⟨a,b,c,d,e⟩:∃a b c d,vq (cD xk)=[.Constant (.str "there is no such name: ") a b,.FormattedValue (.Name "name" c) (-1) none d]:=⟨_,_,_,_,rfl⟩;have hl:x.length<=8:=by have:=h.l8;rw[Array.length_toList] at this;exact this
 have hz:(1000:Nat)<=sizeLine:=by decide
 have e1:(Str.empty++Str.ofString "there is no such name: ").length=23:=by decide+kernel
 have e2:(Str.empty++Str.ofString "there is no such name: "++x).length=23+x.length:=by
  show((Str.empty++Str.ofString "there is no such name: ").cps++x.cps).size=_;rw[Array.size_append];exact congrArg (·+ x.cps.size) e1
 refine⟨Str.empty++Str.ofString "there is no such name: "++x,?_,by omega⟩;have s1:∀(y z:Str) (r:List Expr) acc,fText "name" z (.Constant (.str y) a b::r) acc=if (acc++y).length<=sizeLine then fText "name" z r (acc++y) else none:=λ_ _ _ _=>rfl
 have s2:∀(z:Str) (r:List Expr) acc,fText "name" z (.FormattedValue (.Name "name" c) (-1) none d::r) acc=if Str.ofString "name"=Str.ofString "name"/\(Str.ofString "name"==("__debug__":Str))=false/\(acc++z).length<=sizeLine/\z.length<=sizeLine then fText "name" z r (acc++z) else none:=λ_ _ _=>rfl
 unfold eG;rw[e,s1,if_pos (by omega),s2,if_pos ⟨rfl,by decide+kernel,by omega,by omega⟩];rfl
section
variable{k:Nat}{out:Str}{X0:DX}
theorem Hr{v:Str}(N:ak μ k ck cl kn ln)(h:aq kn x=some v)(q:Q (.str v) μ):jf [.cell k,.str x] μ Q X0:=by
 refine⟨rfl,?_⟩;have hm:x∈kn.map (·.1):=fe.mp (by rw[h];rfl);rw_mod_cast [fT,nM,N.o,fR,N.a,fQ,dP,decide_eq_true (dX.mpr hm),pL,h,Option.map_some,Bool.true_xor];exact⟨_,.refl _,q⟩
theorem Hs(N:ak μ k ck cl kn ln)(h:x∉kn.map (·.1))(nx:Nm x)(q:X0 (bt "NoName" x) μ):jf [.cell k,.str x] μ Q X0:=by
 obtain⟨out,hf,hz⟩:=pP nx;refine⟨rfl,?_⟩;rw_mod_cast [fT,N.o,fR,N.a,fQ,dP,decide_eq_false (λz=>h (dX.mp z)),Bool.true_xor,fY];exact⟨⟨out,hf,hz⟩,_,.refl _,q⟩
theorem Ht(N:ak μ k ck cl kn ln)(h:x∉ln.map (·.1))(nx:Nm x)(q:X0 (bt "NoName" x) μ):lu [.cell k,.str x] μ Q X0:=by
 obtain⟨out,hf,hz⟩:=pP nx;refine⟨rfl,?_⟩;rw_mod_cast [fT,N.o,fR,N.b,fQ,dP,decide_eq_false (λz=>h (dX.mp z)),Bool.true_xor,fY];exact⟨⟨out,hf,hz⟩,_,.refl _,q⟩
theorem yS{v:Str}(N:ak μ k ck cl kn ln)(h:aq kn x=some v)(q:Q (.str v) μ):gW [.cell k,.str x] μ Q:=by
 refine⟨rfl,?_⟩;have hm:x∈kn.map (·.1):=fe.mp (by rw[h];rfl);rw_mod_cast [fT,nM,N.o,fR,N.a,fQ,dP,decide_eq_true (dX.mpr hm),pL,h,Option.map_some,Bool.true_xor];exact⟨_,.refl _,q⟩
theorem yT{v:Str}(N:ak μ k ck cl kn ln)(h:aq kn x=some v)(hv:v≠"line")(q:Q .non μ):jg [.cell k,.str x] μ Q:=by
 refine⟨rfl,?_⟩;rw_mod_cast [N.o];refine yS N h ?_;rw_mod_cast [decide_eq_false hv];exact⟨_,.refl _,q⟩
theorem Hu(N:ak μ k ck cl kn ln)(h:aq kn x=some "line")(nx:Nm x)(q:X0 (bt "NoName" x) μ):gc [.cell k,.str x] μ Q X0:=by
 obtain⟨out,hf,hz⟩:=pP nx;refine⟨rfl,?_⟩;rw_mod_cast [N.o];refine Hr N h ?_;rw_mod_cast [fY];exact⟨⟨out,hf,hz⟩,_,.refl _,q⟩
theorem Hv(N:ak μ k ck cl kn ln)(h:x∉kn.map (·.1))(nx:Nm x)(q:X0 (bt "NoName" x) μ):gc [.cell k,.str x] μ Q X0:=by
 refine⟨rfl,?_⟩;rw_mod_cast [N.o];exact Hs N h nx ⟨_,.refl _,q⟩
end
theorem Hw{b:RW}(h:frO a=frO b):a.nm=b.nm:=by
 unfold frO hG at h;simp at h;exact h.1
theorem yU:∀rows:List RW,oq tab "name" (rows.map frO) (rows.map RW.nm)
 | []=> .nil
 |r::rows=> .cons ⟨"Frame",gU,hG r,rfl,pB,by
   show List.lookup (Str.ofString "name") ((Str.ofString "name",D.str r.nm)::_)=_;rw[List.lookup_cons,beq_self_eq_true]⟩ (yU rows)
theorem yV(hl:rows.length < 64)(h0:μ 0=some fZ)(q:∀l,cp rows l->Q (.lst (l.map frO)) μ):gY [.lst (rows.map frO)] μ Q:=by
 refine⟨rfl,?_⟩;show ac _ _ _ _;unfold ot;rw_mod_cast [];refine⟨h0,rows.map frO,rows.map RW.nm,rfl,by rw[List.length_map];exact hl,yU rows,λp pn sr=>⟨_,.refl _,?_⟩⟩;have ln:(rows.map frO).length=rows.length:=List.length_map ..;rw[ln] at pn sr;have pm:List.Perm (p.toList.map λi=>(rows.map frO).getD i .non) (rows.map frO):=by
  have h1:List.Perm (p.toList.map λi=>(rows.map frO).getD i .non) ((List.range rows.length).map λi=>(rows.map frO).getD i .non):=List.Perm.map _ pn;have h2:((List.range rows.length).map λi=>(rows.map frO).getD i .non)=rows.map frO:=by
   apply List.ext_getElem?;intro i;rw[List.getElem?_map];by_cases hi:i < rows.length
   .rw[List.getElem?_range hi,Option.map_some,List.getD_eq_getElem?_getD,List.getElem?_eq_getElem (by rw[ln];exact hi)];rfl
   .rw[List.getElem?_eq_none (by rw[List.length_range];omega),List.getElem?_eq_none (by rw[ln];omega)];rfl
  rw[h2] at h1;exact h1
 obtain⟨l,pl,el⟩:=yP pm;rw[el];refine q l ⟨pl,?_⟩;have psz:p.toList.length=rows.length:=by rw[pn.length_eq,List.length_range]
 have at_:∀i (hi:i < l.length),∃(hj:gN p i < rows.length),l[i].nm=(rows[gN p i]).nm:=λi hi=>by
  have hi2:i < p.toList.length:=by rw[psz,<- pl.length_eq];exact hi
  have eg:gN p i=p.toList[i]:=by
   rw[e8];have:p[i]? = some p.toList[i]:=by rw[<- Array.getElem?_toList,List.getElem?_eq_getElem hi2]
   rw[this];rfl
  have hj:p.toList[i] < rows.length:=List.mem_range.mp (pn.mem_iff.mp (List.getElem_mem hi2));have e1:(l.map frO)[i]? = some (frO l[i]):=by rw[List.getElem?_map,List.getElem?_eq_getElem hi];rfl
  rw[<- el,List.getElem?_map,List.getElem?_eq_getElem hi2,Option.map_some,List.getD_eq_getElem?_getD,List.getElem?_map,List.getElem?_eq_getElem hj] at e1;refine⟨by rw[eg];exact hj,?_⟩;have:=Hw (Option.some.inj e1);rw[<- this];simp only[eg]
 rw[List.pairwise_iff_getElem];intro i j hi hj hij;obtain⟨a1,a2⟩:=at_ i hi;obtain⟨b1,b2⟩:=at_ j hj;rw[a2,b2];have h:=sr i j hij (by rw[<- pl.length_eq];exact hj);unfold sAt at h;rw[List.getD_eq_getElem?_getD,List.getD_eq_getElem?_getD,List.getElem?_map,List.getElem?_map,List.getElem?_eq_getElem b1,List.getElem?_eq_getElem a1] at h;have h':sLt (rows[gN p j]).nm (rows[gN p i]).nm=false:=h;unfold sLt at h';rw[decide_eq_false_iff_not] at h';exact h'
def aD{α:Type}:List α->List α
 |_::x::r=>x::aD r
 |_=>[]
theorem pQ{α:Type}:∀(n:Nat) (l:List α),l.length=2*n+1->(aD l).length=n
 |0,[_],_=>rfl
 |0,[],h=>by simp at h
 |0,_::_::_,h=>by simp at h
 |n+1,[],h=>by simp at h
 |n+1,[_],h=>by simp at h
 |n+1,_::x::r,h=>by
  show(x::aD r).length=n+1;rw[List.length_cons,pQ n r (by simp at h;omega)]
theorem yW:∀(i:Nat) (w:List Str),(aD w)[i]? = w[2*i+1]?
 |_,[]=>by simp[aD]
 |_,[_]=>by simp[aD]
 |0,_::x::r=>rfl
 |i+1,_::x::r=>by
  show(aD r)[i]? = _;rw[yW i r,show 2*(i+1)+1=(2*i+1)+1+1 from by omega,List.getElem?_cons_succ,List.getElem?_cons_succ]
theorem pR(h:∃n,w.length=2*n+1/\1<=n/\n<=3):stepT (w.map D.str) (some 1) none 2=(aD w).map D.str:=by
 obtain⟨n,h1,h2,h3⟩:=h;rcases(show n=1\/n=2\/n=3 by omega) with rfl|rfl|rfl
 .match w,h1 with
  | [a,b,c],_ =>
   unfold stepT;rw[show(List.map D.str [a,b,c]).length=3 from rfl,show Builtin.Slice.sliceAdjust (some 1) none 2 ((3:Nat):Int)=(1,3) from by decide+kernel];dsimp only;rw[show Builtin.Slice.slicePlaces 1 3 2=1 from by decide+kernel];rfl
 .match w,h1 with
  | [a,b,c,d,e],_ =>
   unfold stepT;rw[show(List.map D.str [a,b,c,d,e]).length=5 from rfl,show Builtin.Slice.sliceAdjust (some 1) none 2 ((5:Nat):Int)=(1,5) from by decide+kernel];dsimp only;rw[show Builtin.Slice.slicePlaces 1 5 2=2 from by decide+kernel];rfl
 .match w,h1 with
  | [a,b,c,d,e,f,g],_ =>
   unfold stepT;rw[show(List.map D.str [a,b,c,d,e,f,g]).length=7 from rfl,show Builtin.Slice.sliceAdjust (some 1) none 2 ((7:Nat):Int)=(1,7) from by decide+kernel];dsimp only;rw[show Builtin.Slice.slicePlaces 1 7 2=3 from by decide+kernel];rfl
def evs{α:Type}:List α->List α
 |x::_::r=>x::evs r
 |_=>[]
theorem Hx(h:∃n,w.length=2*n+1/\1<=n/\n<=3):stepT (w.map D.str) none (some (-1)) 2=(evs w).map D.str:=by
 obtain⟨n,h1,h2,h3⟩:=h;rcases(show n=1\/n=2\/n=3 by omega) with rfl|rfl|rfl
 .match w,h1 with
  | [a,b,c],_ =>
   unfold stepT;rw[show(List.map D.str [a,b,c]).length=3 from rfl,show Builtin.Slice.sliceAdjust none (some (-1)) 2 ((3:Nat):Int)=(0,2) from by decide+kernel];dsimp only;rw[show Builtin.Slice.slicePlaces 0 2 2=1 from by decide+kernel];rfl
 .match w,h1 with
  | [a,b,c,d,e],_ =>
   unfold stepT;rw[show(List.map D.str [a,b,c,d,e]).length=5 from rfl,show Builtin.Slice.sliceAdjust none (some (-1)) 2 ((5:Nat):Int)=(0,4) from by decide+kernel];dsimp only;rw[show Builtin.Slice.slicePlaces 0 4 2=2 from by decide+kernel];rfl
 .match w,h1 with
  | [a,b,c,d,e,f,g],_ =>
   unfold stepT;rw[show(List.map D.str [a,b,c,d,e,f,g]).length=7 from rfl,show Builtin.Slice.sliceAdjust none (some (-1)) 2 ((7:Nat):Int)=(0,6) from by decide+kernel];dsimp only;rw[show Builtin.Slice.slicePlaces 0 6 2=3 from by decide+kernel];rfl
theorem pS{α:Type}:∀(n:Nat) (l:List α),l.length=2*n+1->(evs l).length=n
 |0,[_],_=>rfl
 |0,[],h=>by simp at h
 |0,_::_::_,h=>by simp at h
 |n+1,[],h=>by simp at h
 |n+1,[_],h=>by simp at h
 |n+1,x::_::r,h=>by
  show(x::evs r).length=n+1;rw[List.length_cons,pS n r (by simp at h;omega)]
theorem pT:∀(n i:Nat) (w:List Str),w.length=2*n+1->i < n->(evs w)[i]? = w[2*i]?
 |0,_,_,_,h=>by omega
 |n+1,_,[],h,_=>by simp at h
 |n+1,_,[_],h,_=>by simp at h
 |n+1,0,x::_::r,_,_=>rfl
 |n+1,i+1,x::_::r,h,hi=>by
  show(evs r)[i]? = _;rw[pT n i r (by simp at h;omega) (by omega),show 2*(i+1)=2*i+1+1 from by omega,List.getElem?_cons_succ,List.getElem?_cons_succ]
theorem jo{g:DG}{we:DE}{ρb:aj}{Fin:List D->Mu->Prop}{Pm:Mu->Prop}(xs:List α)(f f':α->D)(hl:xs.length<=1000)(step:∀x∈xs,∀Q:DK,Q (f' x) μ->g (f x) ρb μ λρ2 μ2=>we ρ2 μ2 Q)(fin:Fin (xs.map f') μ)(hP:Pm μ:=by exact trivial):bR g bA we ρb Pm Fin (xs.map f) [] μ:=by
 have hz:(1001:Nat)<=sizeLine:=by decide
 refine gG (λi ys μ'=>μ'=μ/\ys=(xs.take i).map f') ⟨rfl,rfl⟩ ?_ ?_ (λi ys μ' h=>h.1▸hP)
 .rintro i d ys μ' hd ⟨rfl,rfl⟩;rw[List.getElem?_map] at hd;obtain⟨x,hx,rfl⟩:=Option.map_eq_some_iff.mp hd;have hi:=(List.getElem?_eq_some_iff.mp hx).1;refine⟨by rw[List.length_map,List.length_take];omega,λN hN=>step x (List.mem_of_getElem? hx) _ (hN _ _ ⟨rfl,?_⟩)⟩;rw[List.take_add_one,hx,List.map_append];rfl
 .rintro ys μ' ⟨rfl,rfl⟩;rw[List.length_map,List.take_of_length_le (Nat.le_refl _)];exact fin
abbrev cq(w:List Str):Prop:=∃n,w.length=2*n+1/\1<=n/\n<=3
theorem cq.o(h:cq w):(aD w).length<=3:=by
 obtain⟨n,h1,_,h3⟩:=h;rw[pQ n w h1];exact h3
theorem Hy(h:cq w)(q:Q (.tup ((aD w).map D.str)) μ):lj [.tup (w.map D.str)] μ Q:=by
 have hz:(1000:Nat)<=sizeLine:=by decide
 have:=h.o;refine⟨rfl,?_⟩;show ac _ _ _ _;unfold dR dSt;rw_mod_cast [];rw[pR h];exact⟨⟨by decide,by decide,by rw[List.length_map];omega⟩,_,.refl _,q⟩
def free(bad:List Str)(r:RW):Bool:=r.ways.any λw=> !(aD w).any λx=>decide (x∈bad)
theorem yX{bad:List Str}(hw:∀r∈rows,r.ways.length<=2/\∀w∈r.ways,cq w)(hz:rows.length < 64)(h0:μ 0=some fZ)(q:∀l c,cp rows l->μ c=none->Q (.cell c) (zR μ c (.lst (((l.filter (free bad)).map RW.nm).map D.str)))):f_ [.lst (rows.map frO),.lst (bad.map D.str)] μ Q:=by
 have hz1:(1001:Nat)<=sizeLine:=by decide
 refine⟨rfl,?_⟩;rw_mod_cast [];refine⟨by decide,yV hz h0 λl S=>?_⟩;have ll:l.length=rows.length:=S.p.length_eq;rw_mod_cast [];refine(db l frO (free bad) (λr=>D.str r.nm) (by omega) (λr hr Y Z hY hZ=>?_) (λc hc=>?_))
 .obtain⟨w2,wo⟩:=hw r (S.p.mem_iff.mp hr);unfold frO hG;rw_mod_cast [xv];refine⟨by decide,jo r.ways ay (λw=>D.bl (!(aD w).any λx=>decide (x∈bad))) (by omega) (λw hw' Q1 q1=>?_) ?_⟩
  .unfold ay;rw_mod_cast [];refine⟨by decide,Hy (wo w hw') ?_⟩;have:=(wo w hw').o;rw_mod_cast [];refine jo (aD w) D.str (λx=>D.bl (decide (x∈bad))) (by omega) (λx hx Q2 q2=>?_) ?_
   .rw_mod_cast [j8,Bool.false_xor];exact q2
   .have e:(aD w).map (λx=>D.bl (decide (x∈bad)))=((aD w).map λx=>decide (x∈bad)).map D.bl:=by rw[List.map_map];rfl
    rw[e];rw_mod_cast [];rw[show((aD w).map λx=>decide (x∈bad)).any id=(aD w).any λx=>decide (x∈bad) from by rw[List.any_map];rfl];exact q1
  .have e:r.ways.map (λw=>D.bl (!(aD w).any λx=>decide (x∈bad)))=(r.ways.map λw=> !(aD w).any λx=>decide (x∈bad)).map D.bl:=by rw[List.map_map];rfl
   rw[e];rw_mod_cast [];rw[show(r.ways.map λw=> !(aD w).any λx=>decide (x∈bad)).any id=free bad r from by rw[List.any_map];rfl];by_cases hf:free bad r=true
   .rw[if_pos hf];exact hY hf
   .rw[if_neg hf];exact hZ (by simpa using hf)
 .refine⟨_,.refl _,?_⟩;have:=q l c S hc;rw[List.map_map] at this;exact this
theorem Hz{a b:List Str}(h:∀x,x∈a↔x∈b):free a=free b:=by
 funext r;unfold free;congr 1
 funext w;congr 2
 funext x;exact decide_eq_decide.mpr (h x)
section
variable{k:Nat}
theorem HA{v:EN}(N:ak μ k ck cl kn ln)(h:aq ln x=some v)(hw:∀r∈rows,r.ways.length<=2/\∀w∈r.ways,cq w)(hz:rows.length < 64)(h0:μ 0=some fZ)(q:∀l c,cp rows l->μ c=none->Q (.cell c) (zR μ c (.lst (((l.filter (free [x])).map RW.nm).map D.str)))):lz [.cell k,.lst (rows.map frO),.str x] μ Q:=by
 refine⟨rfl,stp λN1 h1=>?_⟩;rw_mod_cast [N.o];refine yL N h (h1 _ _ ?_);rw_mod_cast [];refine⟨by decide,yX (bad:=[x]) hw hz h0 λl c S hc=>⟨_,.refl _,q l c S hc⟩⟩
def silent(x:Str)(r:RW):Bool:=r.ways.any λw=> !decide (x∈evs w)
theorem HB{v:Str}(N:ak μ k ck cl kn ln)(h:aq kn x=some v)(hv:v≠"line")(hw:∀r∈rows,r.ways.length<=2/\∀w∈r.ways,cq w)(hz:rows.length < 64)(h0:μ 0=some fZ)(q:∀l c,cp rows l->μ c=none->Q (.cell c) (zR μ c (.lst (((l.filter (silent x)).map RW.nm).map D.str)))):lB [.cell k,.lst (rows.map frO),.str x] μ Q:=by
 have hz1:(1001:Nat)<=sizeLine:=by decide
 refine⟨rfl,stp λN1 h1=>?_⟩;rw_mod_cast [];refine yT N h hv (h1 _ _ ?_);rw_mod_cast [];refine⟨by decide,yV hz h0 λl S=>?_⟩;have ll:l.length=rows.length:=S.p.length_eq;rw_mod_cast [];refine db l frO (silent x) (λr=>D.str r.nm) (by omega) (λr hr Y Z hY hZ=>?_) (λc hc=>?_)
 .obtain⟨w2,wo⟩:=hw r (S.p.mem_iff.mp hr);unfold frO hG;rw_mod_cast [xv];refine⟨by decide,jo r.ways ay (λw=>D.bl (!decide (x∈evs w))) (by omega) (λw hw' Q1 q1=>?_) ?_⟩
  .unfold ay dR dSt;rw_mod_cast [];obtain⟨n,n1,n2,n3⟩:=wo w hw';have el:=pS n w n1;rw[Hx (wo w hw')];refine⟨⟨by decide,by decide,by rw[List.length_map];omega⟩,?_⟩;rw_mod_cast [gH,Bool.true_xor];exact q1
  .have e:r.ways.map (λw=>D.bl (!decide (x∈evs w)))=(r.ways.map λw=> !decide (x∈evs w)).map D.bl:=by rw[List.map_map];rfl
   rw[e];rw_mod_cast [];rw[show(r.ways.map λw=> !decide (x∈evs w)).any id=silent x r from by rw[List.any_map];rfl];by_cases hf:silent x r=true
   .rw[if_pos hf];exact hY hf
   .rw[if_neg hf];exact hZ (by simpa using hf)
 .refine⟨_,.refl _,?_⟩;have:=q l c S hc;rw[List.map_map] at this;exact this
theorem HC(N:ak μ k ck cl kn ln)(hz:kn.length < 64)(q:∀ns',Srt (kn.map (·.1)) ns'->Q (.lst (ns'.map D.str)) μ):jb [.cell k] μ Q:=by
 refine⟨rfl,?_⟩;rw_mod_cast [N.o];refine Fw (ns:=kn.map (·.1)) (vs:=vsS D.str kn) (by rw[N.a,Ha]) (by rw[List.length_map];exact hz) λns' p1 p2=>?_
 exact⟨_,.refl _,q ns' ⟨p1,p2⟩⟩
def fi(kn:SL Str)(y:Str):Bool:=decide (aq kn y=some (Str.ofString "line"))
def sends(ln:SL EN)(x y:Str):Bool:=match aq ln y with
 |some e=>decide (x∈e.1)
 |none=>false
theorem HD{v:Str}(N:ak μ k ck cl kn ln)(h:aq kn x=some v)(hv:v≠"line")(hln:∀y,aq kn y=some (Str.ofString "line")->∃e,aq ln y=some e)(hkz:kn.length < 64)(hw:∀r∈rows,r.ways.length<=2/\∀w∈r.ways,cq w)(hz:rows.length < 64)(h0:μ 0=some fZ)
  (q:∀l c bad,cp rows l->(∀y,y∈bad↔aq kn y=some (Str.ofString "line")/\sends ln x y=true)->μ c=none->Q (.cell c) (zR μ c (.lst (((l.filter (free bad)).map RW.nm).map D.str)))):lC [.cell k,.lst (rows.map frO),.str x] μ Q:=by
 have hz1:(1001:Nat)<=sizeLine:=by decide
 refine⟨rfl,stp λN1 h1=>?_⟩;rw_mod_cast [];refine yT N h hv (h1 _ _ (stp λN2 h2=>?_));rw_mod_cast [N.o];refine⟨by decide,HC N hkz λns' S'=>?_⟩;have nl:ns'.length=kn.length:=by rw[S'.1.length_eq,List.length_map]
 have kv:∀y∈ns',∃v',aq kn y=some v':=λy hy=>Option.isSome_iff_exists.mp (fe.mpr (S'.1.mem_iff.mp hy))
 rw_mod_cast [];refine db ns' D.str (fi kn) D.str (by omega) (λy hy Y Z hY hZ=>?_) (h2 _ _ ?_)
 .obtain⟨v',hv'⟩:=kv y hy;rw_mod_cast [N.o];refine yS N hv' ?_;rw_mod_cast [];have e:decide (v'=Str.ofString "line")=fi kn y:=by
   unfold fi;rw[hv'];exact decide_eq_decide.mpr ⟨λz=>by rw[z],λz=>Option.some.inj z⟩
  rw[e];by_cases hf:fi kn y=true
  .rw[if_pos hf];exact hY hf
  .rw[if_neg hf];exact hZ (by simpa using hf)
 rw_mod_cast [];refine⟨by decide,?_⟩;have fl:(ns'.filter (fi kn)).length<=ns'.length:=List.length_filter_le _ _;have lv:∀y∈ns'.filter (fi kn),∃e,aq ln y=some e:=λy hy=>hln y (of_decide_eq_true (List.mem_filter.mp hy).2)
 have ee:∀(en:EN) μ' R,dIx (enD en) (.int 0) μ' R=R (.tup (en.1.map D.str)) μ':=λen μ' R=>by unfold enD;rfl
 refine db (ns'.filter (fi kn)) D.str (sends ln x) D.str (by omega) (λy hy Y Z hY hZ=>?_) ?_
 .obtain⟨en,he⟩:=lv y hy;rw_mod_cast [N.o];refine yL N he ?_;rw[ee];rw_mod_cast [gH,Bool.false_xor];have e:decide (x∈en.1)=sends ln x y:=by unfold sends;rw[he]
  rw[e];by_cases hf:sends ln x y=true
  .rw[if_pos hf];exact hY hf
  .rw[if_neg hf];exact hZ (by simpa using hf)
 refine yX (bad:=(ns'.filter (fi kn)).filter (sends ln x)) hw hz h0 λl c S hc=>⟨_,.refl _,q l c _ S (λy=>?_) hc⟩
 rw[List.mem_filter,List.mem_filter];constructor
 .rintro⟨⟨_,a⟩,b⟩;exact⟨of_decide_eq_true a,b⟩
 .rintro⟨a,b⟩;exact⟨⟨S'.1.mem_iff.mpr (fe.mp (by rw[a];rfl)),decide_eq_true a⟩,b⟩
end
theorem yY(p:α->Bool)(l:List α):decide ((0:Int) < ((l.filter p).length:Int))=l.any p:=by
 induction l with
 |nil=>rfl
 |cons a l ih =>
  rw[List.filter_cons,List.any_cons];cases h:p a with
  |true=>simp
  |false=>rw[if_neg (by decide),ih];rfl
theorem HE:dIx (a7 r) (.int 0) μ Q=Q (.str r.nm) μ:=by unfold a7;rw[nt];rfl
theorem HF:dIx (a7 r) (.int 1) μ Q=Q (.tup (r.ways.map ay)) μ:=by unfold a7;rw[nt];rfl
section
theorem HG(h:cq w)(q:Q (.bl (decide (x∈aD w))) μ):fb [wd,.int 0,.str x,ay w] μ Q:=by
 have hz:(1000:Nat)<=sizeLine:=by decide
 have:=h.o;refine⟨rfl,stp λN1 h1=>?_⟩;unfold ay dR dSt;rw_mod_cast [];rw[pR h];refine⟨⟨by decide,by decide,by rw[List.length_map];omega⟩,?_⟩;rw_mod_cast [gH,Bool.false_xor];exact⟨_,.refl _,q⟩
theorem HH(h:cq w)(q:Q (.bl (decide (x∈w.dropLast))) μ):fb [wd,.int 1,.str x,ay w] μ Q:=by
 have hz:(1000:Nat)<=sizeLine:=by decide
 obtain⟨n,n1,n2,n3⟩:=h;refine⟨rfl,stp λN1 h1=>?_⟩;rw_mod_cast [];refine h1 _ _ (stp λN2 h2=>?_);have e:(List.map D.str w).length=w.length:=by simp
 have e2:HT.sIx w.length w.length (some (-1))=w.length - 1:=by
  show(if (-1:Int) < 0 then((-1:Int)+((w.length:Nat):Int)).toNat else min (-1:Int).toNat w.length)=_;rw[if_pos (by decide)];omega
 have e3:cutD (List.map D.str w) none (some (-1))=w.dropLast.map D.str:=by
  unfold cutD;rw[e,e2];show(List.drop 0 _).take (w.length - 1 - 0)=_;rw[List.drop_zero,List.dropLast_eq_take,List.map_take];rfl
 unfold ay;rw_mod_cast [e,e2,e3];refine⟨λz=>by have:=z.2;omega,?_⟩;rw_mod_cast [gH,Bool.false_xor];exact⟨_,.refl _,q⟩
def busy(ls:List LR)(x:Str):List Str:=(ls.filter λr=>decide (x∈r.S)).map LR.nm
theorem HI(h:cq w)(l14:ls.length<=14)(hwd:∀ μ R,dIx wd (.int 2) μ R=R (.cell la) μ)(dl:μ la=some (.lst (ls.map aH)))(rs:∀r∈ls,μ r.sa=some (.lst (r.S.map D.str)))(q:Q (.bl ((aD w).any λy=>decide (y∈busy ls x))) μ):fb [wd,.int 2,.str x,ay w] μ Q:=by
 have hz:(1000:Nat)<=sizeLine:=by decide
 have:=h.o;refine⟨rfl,stp λN1 h1=>?_⟩;rw_mod_cast [];refine h1 _ _ (stp λN2 h2=>?_);rw_mod_cast [];refine h2 _ _ (stp λN3 h3=>?_);rw_mod_cast [hwd,dl];refine⟨by decide,db ls aH (λr=>decide (x∈r.S)) (λr=>D.str r.nm) (by omega) (λr hr Y Z hY hZ=>?_) (h3 _ _ ?_) dl⟩
 .unfold aH;rw_mod_cast [fM (rs r hr),Bool.false_xor];by_cases hf:x∈r.S
  .rw[if_pos (decide_eq_true hf)];exact hY (decide_eq_true hf)
  .rw[if_neg (by simpa using hf)];exact hZ (decide_eq_false hf)
 have eb:(ls.filter λr=>decide (x∈r.S)).map (λr=>D.str r.nm)=(busy ls x).map D.str:=by unfold busy;rw[List.map_map];rfl
 rw[eb];unfold ay;show ac _ _ _ _;unfold dR dSt;rw_mod_cast [];rw[pR h];refine⟨by decide,⟨by decide,by decide,by rw[List.length_map];omega⟩,?_⟩;rw_mod_cast [];refine db (aD w) D.str (λy=>decide (y∈busy ls x)) D.str (by omega) (λy hy Y Z hY hZ=>?_) ?_
 .rw_mod_cast [j8,Bool.false_xor];by_cases hf:y∈busy ls x
  .rw[if_pos (decide_eq_true hf)];exact hY (decide_eq_true hf)
  .rw[if_neg (by simpa using hf)];exact hZ (decide_eq_false hf)
 rw_mod_cast [List.length_map];have e:decide ((0:Int) < (((aD w).filter λy=>decide (y∈busy ls x)).length:Int))=(aD w).any λy=>decide (y∈busy ls x):=yY _ _
 rw[e];exact⟨_,.refl _,q⟩
theorem HJ{kd:Int}{st:List Str->Bool}(hwd:∀ μ R,dIx wd (.int 3) μ R=R (.lst (rows.map a7)) μ)(nd:(rows.map RW.nm).Nodup)(hz:rows.length < 64)(hw:∀r∈rows,r.ways.length<=2/\∀w∈r.ways,cq w)
  (hst:∀r∈rows,∀w∈r.ways,∀ μ',(∀j ct,μ j=some ct->μ' j=some ct)->∀Q:DK,Q (.bl (st w)) μ'->fb [wd,.int kd,.str x,ay w] μ' Q)
  (q:∀l,cp rows l->Q (.lst (((l.filter λr=>r.ways.any λw=> !st w).map RW.nm).map D.str)) μ):g5 [wd,.int kd,.str x] μ Q:=by
 have hz1:(1001:Nat)<=sizeLine:=by decide
 refine⟨rfl,stp λN1 h1=>?_⟩;rw_mod_cast [];refine⟨by decide,λc hc=>h1 _ _ ?_⟩;have kp:∀(y:Ct) j ct,μ j=some ct->zR μ c y j=some ct:=λy j ct e=>by rw[zq (λz=>by rw[z,hc] at e;cases e)];exact e
 refine stp λN2 h2=>?_
 rw_mod_cast [hwd];refine Hq rfl nd hz λl S=>?_
 have ll:l.length=rows.length:=S.p.length_eq;rw_mod_cast [];refine cR (λi ρ μ'=>∃x4:Option D,ρ=[some wd,some (.int kd),some (.str x),some (.cell c),x4]/\μ'=zR μ c (.lst ((((l.take i).filter λr=>r.ways.any λw=> !st w).map RW.nm).map D.str))) ⟨none,rfl,rfl⟩ ?_ ?_
 .rintro i d ρ μ' hd ⟨x4,rfl,rfl⟩ N hN;rw[List.getElem?_map] at hd;obtain⟨r,hr,rfl⟩:=Option.map_eq_some_iff.mp hd;have hi:=(List.getElem?_eq_some_iff.mp hr).1;have hm:r∈rows:=S.p.mem_iff.mp (List.mem_of_getElem? hr);have fl:=List.length_filter_le (λr:RW=>r.ways.any λw=> !st w) (l.take i);rw[List.length_take] at fl;have tk:(l.take (i+1)).filter (λr=>r.ways.any λw=> !st w)=(l.take i).filter (λr=>r.ways.any λw=> !st w)++(if (r.ways.any λw=> !st w)=true then[r] else[]):=by
   rw[List.take_add_one,hr,List.filter_append];congr 1
   show List.filter _ [r]=_;rw[List.filter_cons];rfl
  rw_mod_cast [HF];refine⟨by decide,db r.ways ay (λw=> !st w) ay (by have:=(hw r hm).1;omega) (λw hw' Y Z hY hZ=>?_) ?_⟩
  .rw_mod_cast [];refine hst r hm w hw' _ (kp _) _ ?_;rw_mod_cast [];cases hs:st w with
   |true =>
    rw_mod_cast [];exact hZ (by rw[hs];rfl)
   |false =>
    rw_mod_cast [];exact hY (by rw[hs];rfl)
  rw_mod_cast [List.length_map];have e:decide ((0:Int) < ((r.ways.filter λw=> !st w).length:Int))=r.ways.any λw=> !st w:=yY _ _
  rw[e];by_cases hf:(r.ways.any λw=> !st w)=true
  .rw[if_pos hf] at tk ⊢;rw_mod_cast [HE,cM];refine⟨by simp only[List.length_map];omega,hN _ _ ⟨_,rfl,?_⟩⟩;rw[tk,List.map_append,List.map_append];rfl
  .rw[if_neg hf] at tk ⊢;refine hN _ _ ⟨_,rfl,?_⟩;rw[tk,List.append_nil]
 .rintro ρ μ' ⟨x4,rfl,rfl⟩;rw[List.length_map,List.take_of_length_le (Nat.le_refl _)];refine h2 _ _ ?_;rw_mod_cast [sD hc];exact⟨_,.refl _,q l S⟩
end
theorem HK{bd:List Str}{k:Nat}(W:Way ho ga ns ls bd first k (2*k) w)(hx:x∈ho++ga):x∈w.dropLast↔x∈evs w:=by
 have wl:=W.len;have el:=pS k w wl;constructor
 .intro h;obtain⟨i,hi⟩:=List.mem_iff_getElem?.mp h;have hlt:=(List.getElem?_eq_some_iff.mp hi).1;rw[List.length_dropLast] at hlt;rw[List.dropLast_eq_take,List.getElem?_take,if_pos hlt] at hi;rcases Nat.mod_two_eq_zero_or_one i with e|e
  .refine List.mem_iff_getElem?.mpr ⟨i / 2,?_⟩;rw[pT k (i / 2) w wl (by omega),show 2*(i / 2)=i from by omega];exact hi
  .have:=(W.ln (i / 2) x (by rw[show 2*(i / 2)+1=i from by omega];exact hi)).1;exact absurd hx this
 .intro h;obtain⟨i,hi⟩:=List.mem_iff_getElem?.mp h;have hlt:=(List.getElem?_eq_some_iff.mp hi).1;rw[pT k i w wl (by omega)] at hi;refine List.mem_iff_getElem?.mpr ⟨2*i,?_⟩;rw[List.dropLast_eq_take,List.getElem?_take,if_pos (by omega)];exact hi
theorem HL(R:cJ ho ga ns ls sl r):r.ways≠[]/\r.ways.length<=2/\∀w∈r.ways,(∃k,w.length=2*k+1/\1<=k/\k<=3)/\∀x∈aD w,x∈ls.map LR.nm:=by
 have one:∀{bd first k w},Way ho ga ns ls bd first k (2*k) w->1<=k->k<=3->(∃k,w.length=2*k+1/\1<=k/\k<=3)/\∀x∈aD w,x∈ls.map LR.nm:=λ{bd first k w} W a b=>by
  refine⟨⟨k,W.len,a,b⟩,λx hx=>?_⟩;obtain⟨i,hi⟩:=List.mem_iff_getElem?.mp hx;have hlt:=(List.getElem?_eq_some_iff.mp hi).1;rw[pQ k w W.len] at hlt;rw[yW] at hi;have wl:=W.len;have j0:2*i < w.length:=by omega
  have j2:2*i+2 < w.length:=by omega
  obtain⟨q,hq,en,_⟩:=W.jn i _ x _ (List.getElem?_eq_getElem j0) hi (List.getElem?_eq_getElem j2);rw[<- en];exact List.mem_map_of_mem hq
 obtain⟨first,last,w1,k1,hf,hl,hfl,k11,k13,W1,e1,hw⟩:=R.way;rcases hw with e|⟨w2,k2,e,b1,b3,W2,e2⟩
 .rw[e];refine⟨by simp,by simp,λw hw=>?_⟩;rw[List.mem_singleton.mp hw];exact one W1 k11 k13
 .rw[e];refine⟨by simp,by simp,λw hw=>?_⟩;rcases List.mem_cons.mp hw with rfl|hw
  .exact one W1 k11 k13
  .rw[List.mem_singleton.mp hw];exact one W2 b1 b3
theorem HM(R:cJ ho ga ns ls sl r)(hw:w∈r.ways):∃bd first k,Way ho ga ns ls bd first k (2*k) w:=by
 obtain⟨first,last,w1,k1,hf,hl,hfl,k11,k13,W1,e1,h⟩:=R.way;rcases h with e|⟨w2,k2,e,b1,b3,W2,e2⟩
 .rw[e,List.mem_singleton] at hw;subst hw;exact⟨_,_,_,W1⟩
 .rw[e] at hw;rcases List.mem_cons.mp hw with rfl|hw
  .exact⟨_,_,_,W1⟩
  .rw[List.mem_singleton.mp hw];exact⟨_,_,_,W2⟩
theorem HN(hl:rows.length<=60)(F:∀r∈rows,g_ r)(q:Q (.lst (rows.map frO)) μ):lO [.lst (rows.map a7)] μ Q:=by
 refine⟨rfl,?_⟩;rw_mod_cast [];refine⟨by decide,jo rows a7 frO (by omega) (λr hr Q1 q1=>?_) ⟨_,.refl _,q⟩⟩;rw_mod_cast [];exact Hi (F r hr) q1
section
variable{k:Nat}{X0:DX}{d:D}
theorem HP(N:ak μ k ck cl kn ln)(h:x∉ln.map (·.1))(nx:Nm x)(q:X0 (bt "NoName" x) μ):lA [.cell k,d,.str x] μ Q X0:=by
 refine⟨rfl,stp λN1 h1=>?_⟩;rw_mod_cast [N.o];exact Ht N h nx ⟨_,.refl _,q⟩
abbrev jp(kn:SL Str)(x:Str):Prop:=aq kn x=some (Str.ofString "line")\/x∉kn.map (·.1)
theorem yZ(N:ak μ k ck cl kn ln)(h:jp kn x)(nx:Nm x)(q:X0 (bt "NoName" x) μ):gc [.cell k,.str x] μ Q X0:=h.elim (λe=>Hu N e nx q) λe=>Hv N e nx q
theorem HQ(N:ak μ k ck cl kn ln)(h:jp kn x)(nx:Nm x)(q:X0 (bt "NoName" x) μ):lE [.cell k,d,.str x] μ Q X0:=by
 refine⟨rfl,stp λN1 h1=>?_⟩;rw_mod_cast [];exact yZ N h nx ⟨_,.refl _,q⟩
theorem HR(N:ak μ k ck cl kn ln)(h:jp kn x)(nx:Nm x)(q:X0 (bt "NoName" x) μ):lF [.cell k,d,.str x] μ Q X0:=by
 refine⟨rfl,stp λN1 h1=>?_⟩;rw_mod_cast [];exact yZ N h nx ⟨_,.refl _,q⟩
theorem HS(v0:0<=v)(v3:v < 3)(N:ak μ k ck cl kn ln)(h:if v=0 then x∉ln.map (·.1) else jp kn x)(nx:Nm x)(q:X0 (bt "NoName" x) μ):lI [.int v,.cell k,d,.str x] μ Q X0:=by
 have h0:v=0->x∉ln.map (·.1):=λe=>by rw[if_pos e] at h;exact h
 have h1':v≠0->jp kn x:=λe=>by rw[if_neg e] at h;exact h
 clear h;obtain rfl|rfl|rfl:v=0\/v=1\/v=2:=by omega
 .have h:=h0 rfl;refine⟨rfl,stp λN1 h1=>?_⟩;refine dO (b:=true) (λQ z=>z) ?_;rw[if_pos rfl];exact HP N h nx ⟨_,.refl _,q⟩
 .have h:=h1' (by decide);refine⟨rfl,stp λN1 h1=>?_⟩;refine dO (b:=false) (λQ z=>z) ?_;rw[if_neg (by decide)];refine h1 _ _ (stp λN2 h2=>?_);refine dO (b:=true) (λQ z=>z) ?_;rw[if_pos rfl];exact HQ N h nx ⟨_,.refl _,q⟩
 .have h:=h1' (by decide);refine⟨rfl,stp λN1 h1=>?_⟩;refine dO (b:=false) (λQ z=>z) ?_;rw[if_neg (by decide)];refine h1 _ _ (stp λN2 h2=>?_);refine dO (b:=false) (λQ z=>z) ?_;rw[if_neg (by decide)];refine h2 _ _ ?_;exact HR N h nx ⟨_,.refl _,q⟩
def comes(v:Int)(ls:List LR)(x:Str):RW->Bool:=if v=0 then free [x] else if v=1 then silent x else free (busy ls x)
theorem HU(v0:0<=v)(v3:v < 3)(N:ak μ k ck cl kn ln)(h0:v=0->∃e,aq ln x=some e)(h1:v≠0->∃u,aq kn x=some u/\u≠"line")
  (hln:∀y,aq kn y=some (Str.ofString "line")->∃e,aq ln y=some e)(hb:∀y,aq kn y=some (Str.ofString "line")/\sends ln x y=true↔y∈busy ls x)(hkz:kn.length < 64)(hw:∀r∈rows,r.ways.length<=2/\∀w∈r.ways,cq w)(hz:rows.length < 64)(hL:μ 0=some fZ)
  (q:∀l c,cp rows l->μ c=none->Q (.cell c) (zR μ c (.lst (((l.filter (comes v ls x)).map RW.nm).map D.str)))):g6 [.int v,.cell k,.lst (rows.map frO),.str x] μ Q:=by
 obtain rfl|rfl|rfl:v=0\/v=1\/v=2:=by omega
 .obtain⟨e,he⟩:=h0 rfl;refine⟨rfl,stp λN1 h1=>?_⟩;refine dO (b:=true) (λQ z=>z) ?_;rw[if_pos rfl];exact HA N he hw hz hL λl c S hc=>⟨_,.refl _,q l c S hc⟩
 .obtain⟨u,hu,hv⟩:=h1 (by decide);refine⟨rfl,stp λN1 h1=>?_⟩;refine dO (b:=false) (λQ z=>z) ?_;rw[if_neg (by decide)];refine h1 _ _ (stp λN2 h2=>?_);refine dO (b:=true) (λQ z=>z) ?_;rw[if_pos rfl];exact HB N hu hv hw hz hL λl c S hc=>⟨_,.refl _,q l c S hc⟩
 .obtain⟨u,hu,hv⟩:=h1 (by decide);refine⟨rfl,stp λN1 h1=>?_⟩;refine dO (b:=false) (λQ z=>z) ?_;rw[if_neg (by decide)];refine h1 _ _ (stp λN2 h2=>?_);refine dO (b:=false) (λQ z=>z) ?_;rw[if_neg (by decide)];refine h2 _ _ ?_;refine HD N hu hv hln hkz hw hz hL λl c bad S hbad hc=>⟨_,.refl _,?_⟩
  rw[Hz λy=>(hbad y).trans (hb y)];exact q l c S hc
end
section
theorem lT(nd:(ho++ga++ls.map LR.nm).Nodup):aq (kindsOf ho ga ls) x=some (Str.ofString "line")↔x∈ls.map LR.nm:=by
 constructor
 .intro h;have:=G1 h;unfold kindsOf at this;simp only[List.mem_append,List.mem_map,Prod.mk.injEq] at this;rcases this with(⟨a,_,rfl,e⟩|⟨a,_,rfl,e⟩)|⟨r,hr,rfl,_⟩
  .exact absurd e (by decide+kernel)
  .exact absurd e (by decide+kernel)
  .exact List.mem_map_of_mem hr
 .intro h;obtain⟨r,hr,rfl⟩:=List.mem_map.mp h;refine yG (by rw[fh];exact nd) ?_;unfold kindsOf;simp only[List.mem_append,List.mem_map,Prod.mk.injEq];exact .inr ⟨r,hr,rfl,trivial⟩
theorem HV(nd:(ho++ga++ls.map LR.nm).Nodup)(h:x∈ho++ga):∃u,aq (kindsOf ho ga ls) x=some u/\u≠Str.ofString "line":=by
 obtain⟨u,hu⟩:=Option.isSome_iff_exists.mp (fe.mpr (show x∈(kindsOf ho ga ls).map (·.1) by rw[fh];exact List.mem_append_left _ h));refine⟨u,hu,λe=>?_⟩;subst e;have:=(lT nd).mp hu;exact(List.nodup_append.mp nd).2.2 _ h _ this rfl
theorem lnS(L:eI ls ln)(nd:(ls.map LR.nm).Nodup){r:LR}(hr:r∈ls):∃S' E',aq ln r.nm=some (S',E',r.w)/\∀y,y∈S'↔y∈r.S:=by
 obtain⟨j,hj⟩:=List.mem_iff_getElem?.mp hr;obtain⟨S',E',f1,f2,_⟩:=L.2 j r hj;exact⟨S',E',yG (by rw[L.fst];exact nd) (List.mem_of_getElem? f1),λy=>f2.1.mem_iff⟩
theorem HW(L:eI ls ln)(nd:(ho++ga++ls.map LR.nm).Nodup)(y:Str):aq (kindsOf ho ga ls) y=some (Str.ofString "line")/\sends ln x y=true↔y∈busy ls x:=by
 have ndl:=(List.nodup_append.mp nd).2.1;rw[lT nd];unfold busy;constructor
 .rintro⟨h,hs⟩;obtain⟨r,hr,rfl⟩:=List.mem_map.mp h;obtain⟨S',E',e1,e2⟩:=lnS L ndl hr;unfold sends at hs;rw[e1] at hs;exact List.mem_map.mpr ⟨r,List.mem_filter.mpr ⟨hr,decide_eq_true ((e2 x).mp (of_decide_eq_true hs))⟩,rfl⟩
 .intro h;obtain⟨r,hr,rfl⟩:=List.mem_map.mp h;obtain⟨hr,hx⟩:=List.mem_filter.mp hr;obtain⟨S',E',e1,e2⟩:=lnS L ndl hr;refine⟨List.mem_map_of_mem hr,?_⟩;unfold sends;rw[e1];exact decide_eq_true ((e2 x).mpr (of_decide_eq_true hx))
def hJ(v:Int)(ls:List LR)(x:Str)(w:List Str):Bool:=if v=0 then decide (x∈aD w) else if v=1 then decide (x∈w.dropLast) else(aD w).any λy=>decide (y∈busy ls x)
theorem HX(v0:0<=v)(v3:v < 3)(R:cJ ho ga ns ls sl r)(hx:v≠0->x∈ho++ga):comes v ls x r=r.ways.any λw=> !hJ v ls x w:=by
 unfold comes hJ;obtain rfl|rfl|rfl:v=0\/v=1\/v=2:=by omega
 .rw[if_pos rfl];unfold free;congr 1
  funext w;rw[if_pos rfl];congr 1
  rw[Bool.eq_iff_iff,List.any_eq_true,decide_eq_true_iff];constructor
  .rintro⟨y,hy,h⟩;have:=of_decide_eq_true h;rw[List.mem_singleton] at this;subst this;exact hy
  .intro h;exact⟨x,h,by simp⟩
 .rw[if_neg (by decide),if_pos rfl];unfold silent;rw[Bool.eq_iff_iff,List.any_eq_true,List.any_eq_true];have key:∀w∈r.ways,(!decide (x∈evs w))= !(if (1:Int)=0 then decide (x∈aD w) else if (1:Int)=1 then decide (x∈w.dropLast) else(aD w).any λy=>decide (y∈busy ls x)):=λw hw=>by
   obtain⟨bd,first,k,W⟩:=HM R hw;rw[if_neg (by decide),if_pos rfl];congr 1
   exact(decide_eq_decide.mpr (HK W (hx (by decide)))).symm
  constructor
  .rintro⟨w,hw,h⟩;exact⟨w,hw,by rw[<- key w hw];exact h⟩
  .rintro⟨w,hw,h⟩;exact⟨w,hw,by rw[key w hw];exact h⟩
 .rw[if_neg (by decide),if_neg (by decide)];unfold free;congr 1
end
theorem HY(v0:0<=v)(v3:v < 3)(h:cq w)(l14:ls.length<=14)(hwd:∀ μ R,dIx wd (.int 2) μ R=R (.cell la) μ)(dl:μ la=some (.lst (ls.map aH)))(rs:∀r∈ls,μ r.sa=some (.lst (r.S.map D.str)))(q:Q (.bl (hJ v ls x w)) μ):fb [wd,.int v,.str x,ay w] μ Q:=by
 unfold hJ at q;obtain rfl|rfl|rfl:v=0\/v=1\/v=2:=by omega
 .rw[if_pos rfl] at q;exact HG h q
 .rw[if_neg (by decide),if_pos rfl] at q;exact HH h q
 .rw[if_neg (by decide),if_neg (by decide)] at q;exact HI h l14 hwd dl rs q
theorem HZ:∀ds μ Q,GJ ds μ Q->zO pF pA 1 ds μ Q:=by
 rintro ds μ Q ⟨ns0,rfl,hl0,hL,q⟩;have hz:(1000:Nat)<=sizeLine:=by decide
 refine⟨rfl,stp λN1 h1=>?_⟩;walk_at "e"
 intro s hs0;refine h1 _ _ (stp λN2 h2=>?_);have hs:zR μ s .draw s=some .draw:=zF;have hL1:zR μ s .draw 0=some fZ:=by rw[zq (λz=>by rw[<- z,hL] at hs0;cases hs0)];exact hL
 generalize zR μ s .draw=μ1 at hs hL1 ⊢
 walk_at "e"
 refine GS (most:=5) hs (by decide) (by decide) λμ2 na la ho ga ns ls rows sl W keep=>h2 _ _ (stp λN3 h3=>?_)
 have hL2:=(keep 0 _ hL1).1;have hna0:=(keep 0 _ hL1).2.1;have l14:=W.N.len;have hc:=W.N.cnt;have g1:=W.ho4;have g2:=W.ga3;have g0:=W.ho2;have rm:=W.rm;have r1:=W.r1;have nd:=W.N.nd;rw_mod_cast [];refine Hc W.W W.N g1 g2 λμ3 k ck cl ln hk hck hcl A L ke=>h3 _ _ (stp λN4 h4=>?_)
 have hL3:=ke 0 _ hL2;have hs3:μ3 s=some .draw:=ke _ _ W.W.ds;have hna3:μ3 na=some (.lst (ns.map D.str)):=ke _ _ W.W.dn;have hla3:μ3 la=some (.lst (ls.map aH)):=ke _ _ W.W.dl;rw_mod_cast [];refine HN (by omega) (λr hr=>Hl W.N W.sl0 W.sl7 (W.ok r hr)) (h4 _ _ (stp λN5 h5=>?_));rw_mod_cast [];refine⟨hs3,by decide,by decide,λv v0 v1=>h5 _ _ (stp λN6 h6=>?_)⟩;have wd0:∀ μ Q,dIx (D.tup [D.lst (List.map D.str ho),D.lst (List.map D.str ga),D.cell la,D.lst (List.map a7 rows),D.int sl,D.cell na]) (.int 0) μ Q=Q (.lst (ho.map D.str)) μ:=λμ Q=>rfl
 have wd1:∀ μ Q,dIx (D.tup [D.lst (List.map D.str ho),D.lst (List.map D.str ga),D.cell la,D.lst (List.map a7 rows),D.int sl,D.cell na]) (.int 1) μ Q=Q (.lst (ga.map D.str)) μ:=λμ Q=>rfl
 have wd2:∀ μ Q,dIx (D.tup [D.lst (List.map D.str ho),D.lst (List.map D.str ga),D.cell la,D.lst (List.map a7 rows),D.int sl,D.cell na]) (.int 2) μ Q=Q (.cell la) μ:=λμ Q=>rfl
 have wd3:∀ μ Q,dIx (D.tup [D.lst (List.map D.str ho),D.lst (List.map D.str ga),D.cell la,D.lst (List.map a7 rows),D.int sl,D.cell na]) (.int 3) μ Q=Q (.lst (rows.map a7)) μ:=λμ Q=>rfl
 have wd5:∀ μ Q,dIx (D.tup [D.lst (List.map D.str ho),D.lst (List.map D.str ga),D.cell la,D.lst (List.map a7 rows),D.int sl,D.cell na]) (.int 5) μ Q=Q (.cell na) μ:=λμ Q=>rfl
 generalize (D.tup [D.lst (List.map D.str ho),D.lst (List.map D.str ga),D.cell la,D.lst (List.map a7 rows),D.int sl,D.cell na])=wd at wd0 wd1 wd2 wd3 wd5 ⊢
 rw_mod_cast [wd0,wd1];refine⟨by simp only[List.length_map];omega,h6 _ _ (stp λN7 h7=>?_)⟩;rw[<- List.map_append];rw_mod_cast [wd2,hla3];refine⟨by decide,?_⟩;refine jo ls aH (λr=>D.str r.nm) (by omega) (λr hr Q1 q1=>?_) (h7 _ _ ?_) hla3
 .unfold aH;rw_mod_cast [];exact q1
 have el:ls.map (λr=>D.str r.nm)=(ls.map LR.nm).map D.str:=by rw[List.map_map];rfl
 rw[el];obtain⟨NM,hNM⟩:∃NM,NM=if v=0 then ls.map LR.nm else ho++ga:=⟨_,rfl⟩
 obtain⟨OT,hOT⟩:∃OT,OT=if v=0 then ho++ga else ls.map LR.nm:=⟨_,rfl⟩
 refine dH (λρ μ'=>ρ=[some (.scr ns0),some (.cell s),some wd,some (.cell k),some (.lst (rows.map frO)),some (.int v),some (.lst ((ho++ga).map D.str)),some (.lst ((ls.map LR.nm).map D.str)),some (.lst (NM.map D.str)),none,none,none,none,none,none]/\μ'=μ3) (λN hN=>?_) ?_
 .rw_mod_cast [];by_cases hv:v=0
  .rw[if_pos (decide_eq_true hv)];exact hN _ _ ⟨by rw[hNM,if_pos hv],rfl⟩
  .rw[if_neg (by simpa using hv)];exact hN _ _ ⟨by rw[hNM,if_neg hv],rfl⟩
 rintro ρ μ' ⟨rfl,rfl⟩;refine dH (λρ μ3=>ρ=[some (.scr ns0),some (.cell s),some wd,some (.cell k),some (.lst (rows.map frO)),some (.int v),some (.lst ((ho++ga).map D.str)),some (.lst ((ls.map LR.nm).map D.str)),some (.lst (NM.map D.str)),some (.lst (OT.map D.str)),none,none,none,none,none]/\μ3=μ') (λN hN=>?_) ?_
 .rw_mod_cast [];by_cases hv:v=0
  .rw[if_pos (decide_eq_true hv)];exact hN _ _ ⟨by rw[hOT,if_pos hv],rfl⟩
  .rw[if_neg (by simpa using hv)];exact hN _ _ ⟨by rw[hOT,if_neg hv],rfl⟩
 rintro ρ μ3 ⟨rfl,rfl⟩;refine stp λN8 h8=>?_
 rw_mod_cast [wd5];refine lP (ns:=ns) hs3 hna3 (by omega) λxn nx xnn=>?_
 have otl:OT.length<=14:=by
  rw[hOT];split
  .rw[List.length_append];omega
  .rw[List.length_map];exact l14
 refine⟨by omega,by rw[List.length_map];omega,?_⟩;have nas:s≠na:=λz=>by rw[z,hna3] at hs3;cases hs3
 have eo:List.map D.str OT++[D.str xn]=(OT++[xn]).map D.str:=by rw[List.map_append];rfl
 rw[eo];refine pH (by rw[zq nas];exact hs3) (by simp) (by rw[List.length_map,List.length_append];simp;omega) λi d hd=>h8 _ _ (stp λN9 h9=>?_)
 rw[List.getElem?_map] at hd;obtain⟨y,hy,rfl⟩:=Option.map_eq_some_iff.mp hd;have hy:=List.mem_of_getElem? hy;have kp:∀j ct,j≠na->μ3 j=some ct->zR μ3 na (.lst ((ns++[xn]).map D.str)) j=some ct:=λj ct h1 h2=>by rw[zq h1];exact h2
 generalize zR μ3 na (.lst ((ns++[xn]).map D.str))=μ4 at kp ⊢
 have hna2:=W.W.dn;have nk:∀{j},μ2 j=none->j≠na:=λ{j} e z=>by rw[z,hna2] at e;cases e
 have A4:ak μ4 k ck cl (kindsOf ho ga ls) ln:=⟨kp _ _ (nk hk) A.o,kp _ _ (nk hck) A.a,kp _ _ (nk hcl) A.b,A.ne,A.nd⟩;have hL4:=kp 0 _ hna0 hL3;rw_mod_cast [];refine h9 _ _ (stp λN10 h10=>?_);rw_mod_cast [oj];have ndl:(ls.map LR.nm).Nodup:=(List.nodup_append.mp nd).2.1;have yn:y∈OT\/y=xn:=by simpa using hy
 have xnw:xn∉ho++ga++ls.map LR.nm:=λz=>xnn (W.N.sub _ z)
 have ny:Nm y:=by
  rcases yn with h|rfl
  .refine W.N.nms y (W.N.sub y ?_);rw[hOT] at h;split at h
   .exact List.mem_append_left _ h
   .exact List.mem_append_right _ h
  .exact nx
 refine HS v0 v1 A4 ?_ ny ?_
 .by_cases hv:v=0
  .rw[if_pos hv,L.fst];rcases yn with h|rfl
   .rw[hOT,if_pos hv] at h;exact λz=>(List.nodup_append.mp nd).2.2 _ h _ z rfl
   .exact λz=>xnw (List.mem_append_right _ z)
  .rw[if_neg hv];rcases yn with h|rfl
   .rw[hOT,if_neg hv] at h;exact .inl ((lT nd).mpr h)
   .exact .inr (by rw[fh];exact xnw)
 refine⟨.inr ⟨"NoName",y,rfl,by decide+kernel,by decide⟩,?_⟩;unfold oi;rw_mod_cast [];refine⟨"NoName",y,rfl,by decide+kernel,by decide,h10 _ _ (stp λN11 h11=>?_)⟩;rw_mod_cast [];refine h11 _ _ (stp λN12 h12=>?_);rw_mod_cast [];have hwr:=λr hr=>HL (W.ok r hr)
 have hw2:∀r∈rows,r.ways.length<=2/\∀w∈r.ways,cq w:=λr hr=>⟨(hwr r hr).2.1,λw hw=>((hwr r hr).2.2 w hw).1⟩
 have hln:∀z,aq (kindsOf ho ga ls) z=some (Str.ofString "line")->∃e,aq ln z=some e:=λz h=>Option.isSome_iff_exists.mp (fe.mpr (by rw[L.fst];exact(lT nd).mp h))
 have kz:(kindsOf ho ga ls).length < 64:=by
  have:=congrArg List.length (fh (ho:=ho) (ga:=ga) (ls:=ls));simp at this;omega
 refine cR (λi ρ μ'=>∃x13 x14:Option D,ρ=[some (.scr ns0),some (.cell s),some wd,some (.cell k),some (.lst (rows.map frO)),some (.int v),some (.lst ((ho++ga).map D.str)),some (.lst ((ls.map LR.nm).map D.str)),some (.lst (NM.map D.str)),some (.lst (OT.map D.str)),some (.str y),some (.str y),none,x13,x14]/\∀j ct,μ4 j=some ct->μ' j=some ct) ⟨_,_,rfl,λ_ _ h=>h⟩ ?_ ?_
 .rintro i d ρ μ' hd ⟨x13,x14,rfl,kq⟩ N hN;rw[List.getElem?_map] at hd;obtain⟨x,hx,rfl⟩:=Option.map_eq_some_iff.mp hd;have hx:=List.mem_of_getElem? hx;have xl:v=0->x∈ls.map LR.nm:=λe=>by rw[hNM,if_pos e] at hx;exact hx
  have xn':v≠0->x∈ho++ga:=λe=>by rw[hNM,if_neg e] at hx;exact hx
  have ask:∀ μ5:Mu,(∀j ct,μ4 j=some ct->μ5 j=some ct)->∀Q:DK,(∀l c,cp rows l->μ5 c=none->Q (.cell c) (zR μ5 c (.lst (((l.filter (comes v ls x)).map RW.nm).map D.str))))->g6 [.int v,.cell k,.lst (rows.map frO),.str x] μ5 Q:=λμ5 k5 Q q=>by
   refine HU v0 v1 ⟨k5 _ _ A4.o,k5 _ _ A4.a,k5 _ _ A4.b,A4.ne,A4.nd⟩ (λe=>?_) (λe=>HV nd (xn' e)) hln (λz=>HW L nd z) kz hw2 (by omega) (k5 _ _ hL4) q;exact Option.isSome_iff_exists.mp (fe.mpr (by rw[L.fst];exact xl e))
  have due:∀ μ5:Mu,(∀j ct,μ4 j=some ct->μ5 j=some ct)->∀Q:DK,(∀l,cp rows l->Q (.lst (((l.filter (comes v ls x)).map RW.nm).map D.str)) μ5)->g5 [wd,.int v,.str x] μ5 Q:=λμ5 k5 Q q=>by
   refine HJ (st:=hJ v ls x) wd3 W.nd (by omega) hw2 (λr hr w hw μ6 k6 Q q=>?_) λl S=>?_
   .refine HY v0 v1 ((hw2 r hr).2 w hw) l14 wd2 (k6 _ _ (k5 _ _ (kp _ _ W.W.nl.symm hla3))) (λz hz=>k6 _ _ (k5 _ _ (kp _ _ (W.W.ap z hz).1 (ke _ _ (W.W.rs z hz).1)))) q
   .have e:l.filter (λr=>r.ways.any λw=> !hJ v ls x w)=l.filter (comes v ls x):=List.filter_congr λr hr=>(HX v0 v1 (W.ok r (S.p.mem_iff.mp hr)) xn').symm
    rw[e];exact q l S
  have sis:∀l:List RW,cp rows l->∀d∈((l.filter (comes v ls x)).map RW.nm).map D.str,SI 0 d:=λl S d hd=>by
   obtain⟨z,hz,rfl⟩:=List.mem_map.mp hd;obtain⟨r,hr,rfl⟩:=List.mem_map.mp hz;have:=S.p.mem_iff.mp (List.mem_filter.mp hr).1;exact GZ (W.N.nms _ (W.ok r this).nmn)
  refine stp λM1 g1=>?_
  rw_mod_cast [];refine ask μ' kq _ λl c S hc=>g1 _ _ (stp λM2 g2=>?_)
  have kc:∀(y:Ct) j ct,μ4 j=some ct->zR μ' c y j=some ct:=λy j ct e=>by rw[zq (λz=>by rw[z, ] at e;rw[kq _ _ e] at hc;cases hc)];exact kq _ _ e
  rw_mod_cast [];refine due _ (kc _) _ λl2 S2=>?_
  obtain rfl:=S.uniq W.nd S2;refine uQ zF rfl (sis l S) (by decide) ?_;rw_mod_cast [];refine g2 _ _ (stp λM3 g3=>?_);have ll:l.length=rows.length:=S.p.length_eq;have fl:=List.length_filter_le (comes v ls x) l;rw_mod_cast [cM];refine⟨by simp only[List.length_map];omega,g3 _ _ ?_⟩;rw_mod_cast [];refine ask _ (kc _) _ λl3 c3 S3 hc3=>?_
  obtain rfl:=S.uniq W.nd S3;have kc3:∀j ct,μ4 j=some ct->zR (zR μ' c (.lst (((l.filter (comes v ls x)).map RW.nm).map D.str++[.str (Str.ofString "zzz")]))) c3 (.lst (((l.filter (comes v ls x)).map RW.nm).map D.str)) j=some ct:=λj ct e=>by
   have e1:=kc (.lst (((l.filter (comes v ls x)).map RW.nm).map D.str++[.str (Str.ofString "zzz")])) j ct e;rw[zq (λz=>by rw[z] at e1;rw[e1] at hc3;cases hc3)];exact e1
  refine due _ kc3 _ λl4 S4=>?_
  obtain rfl:=S.uniq W.nd S4;refine uQ zF rfl (sis l S) (by decide) ?_;rw_mod_cast [];exact hN _ _ ⟨_,_,rfl,kc3⟩
 .rintro ρ μ' ⟨x13,x14,rfl,kq⟩;refine h12 _ _ ?_;rw_mod_cast [wd3,List.length_map];exact⟨_,.refl _,q _⟩
section
variable(P:Program)(w:World)(K:Frag)(mg:Str->Option Value)(base:Heap)
abbrev y0:Prop:=Has P w K mg base CX0 "is_made_of" 1 ["text","signs","most"] (lift K pE)
abbrev y2:Prop:=Has P w K mg base CX0 "is_number" 1 ["thing"] (lift K lg)
abbrev lU:Prop:=bT P w K mg base CX0 "Net" "kind" 1 ["self","name"] (lift K gW) [] (sel 2 0 [.p 0,.p 1] .non [])
abbrev lV:Prop:=Has P w K mg base CX0 "by_name" 1 ["frames"] (lift K gY)
abbrev y4:Prop:=Has P w K mg base CX0 "lines_of" 1 ["way"] (lift K lj)
abbrev fj:Prop:=Has P w K mg base CX0 "_law_draw" 1 ["_law_s","_law_many"] mV
abbrev y6:Prop:=Has P w K mg base CX0 "_law_struck" 1 ["_law_world_here","_law_kind","_law_name_here","_law_way_here"] (lift K fb)
abbrev pU:Prop:=Has P w K mg base CX0 "is_name" 2 ["text"] (lift K je)
abbrev y8:Prop:=Has P w K mg base CX0 "check_whole" 2 ["thing"] (lift K lr)
abbrev y9:Prop:=bT P w K mg base (CX1 P w) "Net" "kind" 2 ["self","name"] (bH K jf) [] (sel 2 0 [.p 0,.p 1] .non [])
abbrev jq:Prop:=Has P w K mg base CX0 "names_free_of" 2 ["frames","lines"] (lift K f_)
abbrev lW:Prop:=bT P w K mg base CX0 "Net" "ends" 1 ["self","name"] (lift K gX) [] (sel 2 0 [.p 0,.p 1] .non [])
abbrev y_:Prop:=bT P w K mg base (CX1 P w) "Net" "ends" 2 ["self","name"] (bH K lu) [] (sel 2 0 [.p 0,.p 1] .non [])
abbrev pV:Prop:=Has P w K mg base CX0 "check_node" 2 ["net","name"] (lift K jg)
abbrev pW:Prop:=bT P w K mg base CX0 "Net" "names" 1 ["self"] (lift K jb) [] (sel 1 0 [.p 0] .non [])
abbrev lX:Prop:=Has P w K mg base CX0 "_law_pick" 2 ["_law_s","_law_row_here"] (lift K gZ)
abbrev jr:Prop:=Has P w K mg base CX0 "_law_name" 2 ["_law_s","_law_names"] (lift K dU)
abbrev pX:Prop:=Has P w K mg base CX0 "check_name" 3 ["text"] (lift K jh)
abbrev zd:Prop:=Has P w K mg base CX0 "check_both_ways" 1 ["one","two"] (lift K li)
abbrev ze:Prop:=Has P w K mg base CX0 "check_way" 3 ["way"] (lift K ly)
abbrev pY:Prop:=fA P w K mg base (CX1 P w) "check_node" 3 ["net","name"] (bH K gc) [] (sel 2 0 [.p 0,.p 1] .non [])
abbrev zh:Prop:=Has P w K mg base CX0 "_law_hop" 3 ["_law_s","_law_names","_law_lines","_law_one","_law_two","_law_barred"] (lift K ji)
abbrev zi:Prop:=Has P w K mg base CX0 "masked_cut" 3 ["net","frames","line"] (lift K lz)
abbrev zk:Prop:=Has P w K mg base CX0 "masked_silent" 3 ["net","frames","node"] (lift K lB)
abbrev zl:Prop:=Has P w K mg base CX0 "masked_babble" 3 ["net","frames","node"] (lift K lC)
abbrev zn:Prop:=Has P w K mg base CX0 "check_ends" 1 ["ends"] (lift K jd)
abbrev pZ:Prop:=Has P w K mg base CX0 "check_number" 3 ["number","least","most"] (lift K gb)
abbrev p_:Prop:=bT P w K mg base CX0 "Net" "check_new" 4 ["self","name"] (lift K jj) [] (sel 2 0 [.p 0,.p 1] .non [])
abbrev zo:Prop:=bT P w K mg base CX0 "Net" "check_nodes" 1 ["self","ends"] (lift K jc) [] (sel 2 0 [.p 0,.p 1] .non [])
abbrev zt:Prop:=Has P w K mg base CX0 "check_ways" 4 ["ways"] (lift K lD)
abbrev zv:Prop:=Has P w K mg base CX0 "_law_need" 1 ["_law_row_here","_law_lines","_law_the_slack"] (lift K lq)
abbrev zw:Prop:=Has P w K mg base CX0 "_law_way" 4 ["_law_s","_law_names","_law_lines","_law_gates","_law_first","_law_the_last","_law_barred"] (lift K jk)
abbrev zC:Prop:=fA P w K mg base (CX1 P w) "masked_cut" 3 ["net","frames","line"] (bH K lA) [] (sel 3 0 [.p 0,.p 1,.p 2] .non [])
abbrev zD:Prop:=fA P w K mg base (CX1 P w) "masked_silent" 4 ["net","frames","node"] (bH K lE) [] (sel 3 0 [.p 0,.p 1,.p 2] .non [])
abbrev zI:Prop:=fA P w K mg base (CX1 P w) "masked_babble" 4 ["net","frames","node"] (bH K lF) [] (sel 3 0 [.p 0,.p 1,.p 2] .non [])
abbrev qa:Prop:=bT P w K mg base CX0 "Net" "put_node" 5 ["self","name","kind"] (lift K jl) [] (sel 3 0 [.p 0,.p 1,.p 2] .non [])
abbrev zS:Prop:=Has P w K mg base CX0 "_law_row" 5 ["_law_s","_law_names","_law_lines","_law_houses","_law_gates","_law_the_slack"] (lift K lH)
abbrev z_:Prop:=iU P w K mg base CX0 "Net" 1 ["self"] (lift K lh) [] (sel 1 0 [.p 0] .non [])
abbrev Aa:Prop:=bT P w K mg base CX0 "Net" "house" 6 ["self","name"] (lift K lJ) [] (sel 2 0 [.p 0,.p 1] .non [])
abbrev Ab:Prop:=bT P w K mg base CX0 "Net" "gate" 6 ["self","name"] (lift K lK) [] (sel 2 0 [.p 0,.p 1] .non [])
abbrev Ac:Prop:=bT P w K mg base CX0 "Net" "line" 5 ["self","name","senders","ears","wire"] (lift K lG) ["wire"] (sel 4 1 [.p 0,.p 1,.p 2,.p 3,.k 0] .non [])
abbrev Ad:Prop:=iU P w K mg base CX0 "Frame" 5 ["self","name","ways","every","long","release","last"] (lift K g8) ["every","long","release","last"] (sel 3 4 [.p 0,.p 1,.p 2,.k 0,.k 1,.k 2,.k 3] .non [])
abbrev Ae:Prop:=Has P w K mg base CX0 "_law_frame" 7 ["_law_row_here"] (lift K lN)
abbrev Af:Prop:=Has P w K mg base CX0 "_law_start" 1 ["_law_script"] (mW K)
abbrev Ag:Prop:=Has P w K mg base CX0 "_law_due" 2 ["_law_world_here","_law_kind","_law_name_here"] (lift K g5)
abbrev Ah:Prop:=Has P w K mg base CX0 "_law_asked" 4 ["_law_kind","_law_net_here","_law_frames_here","_law_name_here"] (lift K g6)
abbrev Ai:Prop:=Has P w K mg base CX0 "_law_world" 6 ["_law_s","_law_the_most"] (lift K lL)
abbrev Aj:Prop:=Has P w K mg base CX0 "_law_net" 7 ["_law_world_here"] (lift K lM)
abbrev Ak:Prop:=Has P w K mg base CX0 "_law_frames" 8 ["_law_rows"] (lift K lO)
abbrev Al:Prop:=fA P w K mg base (CX1 P w) "_law_asked" 5 ["_law_kind","_law_net_here","_law_frames_here","_law_name_here"] (bH K lI) [] (sel 4 0 [.p 0,.p 1,.p 2,.p 3] .non [])
end
section
variable{P:Program}{w:World}{base:Heap}[TabOk K tab]
theorem H_(F:Fun K "is_made_of" "is_made_of" ou f fd)(B:Blt mg):zU P w K mg base CX0 1 f fd ["text","signs","most"] (lift K pE) :=
 F.okB xB vK rfl λ_ _ _ _ _ _ hr=>have nd:=vK.nd;⟨_,(zj (zN (rP (CW fq fq zg (zH (zZ K) rfl B.len aI (qa1 (qv 0))) (qv 2)) (rN (zH (tF K) rfl B.all rC (qa1 (br ["sign"] ["signs"] [1] (.of rfl (by decide+kernel) rfl) rfl rfl (by decide+kernel) (zT K (qv 0)) (λ_ _ _ _=>(aG (i:=0) (show List.Nodup (["sign","signs"]:List Str) by decide+kernel) rfl (Or.inl rfl))) (λ_ _ _ _=>cu) (λ_ _ _ _=>(ef EU (qv 0) (qv 1) (by with_unfolding_all rfl)))))))))),λ_=>by infer_instance⟩
theorem Ia(F:Fun K "is_number" "is_number" oz f fd)(B:Blt mg):zU P w K mg base CX0 1 f fd ["thing"] (lift K lg) :=
 F.okB xC vQ rfl λ_ _ _ _ _ _ hr=>have nd:=vQ.nd;⟨_,(zj (zN (rP (zH (ua K) rfl B.isinstance rD (qa2 (qv 0) (rJ (v:= .ty "int") rfl B.int CN rfl))) (rN (rQ (zH (ua K) rfl B.isinstance rD (qa2 (qv 0) (rJ (v:= .ty "bool") rfl B.bool CO rfl)))))))),λ_=>by infer_instance⟩
theorem Ib(F:Fun K "__init__" "Net.__init__" oC f fd)(B:Blt mg):zU P w K mg base CX0 1 f fd ["self"] (lift K lh) :=
 F.okB xD vW rfl λ_ _ _ _ _ _ hr=>have nd:=vW.nd;⟨_,(zf (eQ K (qv 0) uD)
  (zj (eQ K (qv 0) uD))),λ_=>by infer_instance⟩
theorem Ic(F:Fun K "names" "Net.names" oH f fd)(B:Blt mg):zU P w K mg base CX0 1 f fd ["self"] (lift K jb) :=
 F.okB xE v_ rfl λ_ _ _ _ _ _ hr=>have nd:=v_.nd;⟨_,(zj (zN (zH (kl K) rfl B.sorted jK (qa1 (aU K (qv 0)))))),λ_=>by infer_instance⟩
theorem Id(F:Fun K "kind" "Net.kind" kO f fd)(B:Blt mg):zU P w K mg base CX0 1 f fd ["self","name"] (lift K gW) :=
 F.okB xF kP rfl λ_ _ _ _ _ _ hr=>have nd:=kP.nd;⟨_,(zf (ae (zE (i4 (b7 hr)) (qv 1) (aU K (qv 0)) (by with_unfolding_all rfl))
  (zj bq)
  zK)
  (zj (zN (kh (b7 hr) (aU K (qv 0)) (qv 1))))),λ_=>by infer_instance⟩
theorem Ie(F:Fun K "ends" "Net.ends" kQ f fd)(B:Blt mg):zU P w K mg base CX0 1 f fd ["self","name"] (lift K gX) :=
 F.okB xG kR rfl λ_ _ _ _ _ _ hr=>have nd:=kR.nd;⟨_,(zf (ae (zE (i4 (b7 hr)) (qv 1) (aU K (qv 0)) (by with_unfolding_all rfl))
  (zj bq)
  zK)
  (zj (zN (kh (b7 hr) (aU K (qv 0)) (qv 1))))),λ_=>by infer_instance⟩
theorem Ig(F:Fun K "check_nodes" "Net.check_nodes" oO f fd)(B:Blt mg):zU P w K mg base CX0 1 f fd ["self","ends"] (lift K jc) :=
 F.okB xH wp rfl λ_ _ _ _ _ _ hr=>have nd:=wp.nd;⟨_,(zj (cH PassesOwn.never rfl (zT K (qv 1)) (qG 2 nd)
  (zj (ae (WW.qt (gr (zE (i4 (b7 hr)) (qv 2) (aU K (qv 0)) (by with_unfolding_all rfl)) (gq (zE (uG (b7 hr)) (qv 2) (aU K (qv 0)) (by with_unfolding_all rfl)))))
  (zj bq)
  zK)))),λ_=>by infer_instance⟩
theorem Ih(F:Fun K "check_ends" "check_ends" oP f fd)(B:Blt mg){u_MOST_ENDS:Value}(c_MOST_ENDS:mg "MOST_ENDS"=some u_MOST_ENDS)(c_MOST_ENDS_r:RelV (.int 6) u_MOST_ENDS):zU P w K mg base CX0 1 f fd ["ends"] (lift K jd) :=
 F.okB xI wt rfl λ_ _ _ _ _ _ hr=>have nd:=wt.nd;⟨_,(zf (ae (gu (rK fq fq zg (zH (zZ K) rfl B.len aI (qa1 (qv 0))) (du rfl c_MOST_ENDS c_MOST_ENDS_r)))
  (zj bq)
  zK)
  (zj (ae (zE gg (zH (uw) rfl B.len aI (qa1 (dy (uv K) rfl B.set rF (qa1 (qv 0))))) (zH (zZ K) rfl B.len aI (qa1 (qv 0))) (zY _))
  (zj bq)
  zK))),λ_=>by infer_instance⟩
theorem Ii(F:Fun K "check_both_ways" "check_both_ways" oV f fd)(B:Blt mg):zU P w K mg base CX0 1 f fd ["one","two"] (lift K li) :=
 F.okB xJ wD rfl λ_ _ _ _ _ _ hr=>have nd:=wD.nd;⟨_,(zf (ae (WW.qt (gr (zE (gz K hr) (qx K (qv 0) zg) (qx K (qv 1) zg) (zY _)) (gq (zE (gz K hr) (qx K (qv 0) (cZ cT zg)) (qx K (qv 1) (cZ cT zg)) (zY _)))))
  (zj bq)
  zK)
  (zj (ae (eN (zH (iJ K) rfl B.any ip (qa1 (br ["name"] ["two"] [1] (.of rfl (by decide+kernel) rfl) rfl rfl (by decide+kernel) (zT K (ir (jY K) (qv 0) (bF zg) (bF (cZ cT zg)))) (λ_ _ _ _=>(aG (i:=0) (show List.Nodup (["name","two"]:List Str) by decide+kernel) rfl (Or.inl rfl))) (λ_ _ _ _=>cu) (λ_ _ _ _=>(ef (c_ K hr) (qv 0) (qv 1) (by with_unfolding_all rfl)))))))
  (zj bq)
  zK))),λ_=>by infer_instance⟩
theorem Ij(F:Fun K "by_name" "by_name" oW f fd)(B:Blt mg)(lb9:eF base mg cL PL)(hcL:fd.code= .ref cL)[oo K "by_name" PL]:zU P w K mg base CX0 1 f fd ["frames"] (lift K gY) :=
 F.okBL xK wF rfl λ_ _ _ _ _ _ hc9 hr=>have nd:=wF.nd;⟨_,(zj (zN (GB (ln:=182) (cl:=30) (qn:="by_name") (q:="by_name.<locals>.<lambda>") K lb9 (hc9.symm.trans hcL) hr (qv 0) rfl B.sorted))),λ_=>by infer_instance⟩
theorem Ik(F:Fun K "lines_of" "lines_of" oX f fd)(B:Blt mg):zU P w K mg base CX0 1 f fd ["way"] (lift K lj) :=
 F.okB xM wH rfl λ_ _ _ _ _ _ hr=>have nd:=wH.nd;⟨_,(zj (zN (i6 (i5 K) (qv 0) (bF zg) eO (bF zg)))),λ_=>by infer_instance⟩
theorem Il(F:Fun K "_law_need" "_law_need" pf f fd)(B:Blt mg):zU P w K mg base CX0 1 f fd ["_law_row_here","_law_lines","_law_the_slack"] (lift K lq) :=
 F.okB xN wT rfl λ_ _ _ _ _ _ hr=>have nd:=wT.nd;⟨_,(zf (qS 3 nd zg)
  (zf (cH PassesOwn.never rfl (zT K (qx K (qv 0) zg)) (qG 4 nd)
  (zf (qS 5 nd zg)
  (zf (cH PassesOwn.never rfl (zT K (qv 1)) (qG 6 nd)
  (zj (ae (zE (c_ K hr) (qx K (qv 6) zg) (qv 4) (by with_unfolding_all rfl))
  (zj (qS 5 nd (al (bG K) (al (bG K) (al (bG K) (qv 5) (qx K (qv 0) zg)) (qx K (qv 6) zg)) (qv 2))))
  zK)))
  (zj (qS 3 nd (zH (D1 K) rfl B.max CM (qa2 (qv 3) (qv 5))))))))
  (zj (zN (qv 3))))),λ_=>by infer_instance⟩
theorem Im(F:Fun K "_law_struck" "_law_struck" pw f fd)(B:Blt mg):zU P w K mg base CX0 1 f fd ["_law_world_here","_law_kind","_law_name_here","_law_way_here"] (lift K fb) :=
 F.okB xO xf rfl λ_ _ _ _ _ _ hr=>have nd:=xf.nd;⟨_,(zf (ae (zE (bB K hr) (qv 1) zg (zY _))
  (zj (zN (ef (c_ K hr) (qv 2) (i6 (i5 K) (qv 3) (bF zg) eO (bF zg)) (by with_unfolding_all rfl))))
  zK)
  (zf (ae (zE (bB K hr) (qv 1) zg (zY _))
  (zj (zN (ef (c_ K hr) (qv 2) (ir (jY K) (qv 3) eO (bF (cZ cT zg))) (by with_unfolding_all rfl))))
  zK)
  (zf (qS 4 nd (br ["_law_line"] ["_law_name_here"] [2] (.of rfl (by decide+kernel) rfl) rfl rfl (by decide+kernel) (zT K (qx K (qv 0) zg)) (λ_ _ _ _=>(aG (i:=0) (show List.Nodup (["_law_line","_law_name_here"]:List Str) by decide+kernel) rfl (Or.inl rfl))) (λ_ _ _ _=>(b9 (zE (c_ K hr) (qv 1) (qx K (qv 0) zg) (by with_unfolding_all rfl)))) (λ_ _ _ _=>(qx K (qv 0) zg))))
  (zj (zN (ef qr (zH (zZ K) rfl B.len aI (qa1 (br ["_law_line"] ["_law_busy"] [4] (.of rfl (by decide+kernel) rfl) rfl rfl (by decide+kernel) (zT K (i6 (i5 K) (qv 3) (bF zg) eO (bF zg))) (λ_ _ _ _=>(aG (i:=0) (show List.Nodup (["_law_line","_law_busy"]:List Str) by decide+kernel) rfl (Or.inl rfl))) (λ_ _ _ _=>(b9 (zE (c_ K hr) (qv 0) (qv 1) (by with_unfolding_all rfl)))) (λ_ _ _ _=>(qv 0))))) zg (zY _))))))),λ_=>by infer_instance⟩
theorem Io(F:Fun K "is_name" "is_name" ow f fd)(B:Blt mg)(h_is_made_of:y0 P w K mg base){u_LETTERS:Value}(c_LETTERS:mg "LETTERS"=some u_LETTERS)(c_LETTERS_r:RelV (.str "abcdefghijklmnopqrstuvwxyz") u_LETTERS){u_MOST_LETTERS:Value}(c_MOST_LETTERS:mg "MOST_LETTERS"=some u_MOST_LETTERS)(c_MOST_LETTERS_r:RelV (.int 8) u_MOST_LETTERS):zU P w K mg base CX0 2 f fd ["text"] (lift K je) :=
 F.okB xP vM rfl λ_ _ _ _ _ _ hr=>have nd:=vM.nd;⟨_,(zj (zN (zp h_is_made_of hr (zx (qv 0) (qa2 (du rfl c_LETTERS c_LETTERS_r) (du rfl c_MOST_LETTERS c_MOST_LETTERS_r)))))),λ_=>by infer_instance⟩
theorem Ip(F:Fun K "check_whole" "check_whole" oA f fd)(B:Blt mg)(h_is_number:y2 P w K mg base):zU P w K mg base CX0 2 f fd ["thing"] (lift K lr) :=
 F.okB xQ vS rfl λ_ _ _ _ _ _ hr=>have nd:=vS.nd;⟨_,(zj (ae (gu (eN (zp h_is_number hr (qa1 (qv 0)))))
  (zj bq)
  zK)),λ_=>by infer_instance⟩
theorem Iq(F:Fun K "kind" "Net.kind" kO f fd)(B:Blt mg)(n_NoName:fX P w K mg "NoName" "name" eG)[i9 K "NoName"]:zU P w K mg base (CX1 P w) 2 f fd ["self","name"] (bH K jf) :=
 F.okX xR kP rfl λ_ _ _ _ _ _ hr=>have nd:=kP.nd;⟨_,(zf (ae (zE (i4 (b7 hr)) (qv 1) (aU K (qv 0)) (by with_unfolding_all rfl))
  (zj (oh K nZ n_NoName hr (qv 1)))
  zK)
  (zj (zN (kh (b7 hr) (aU K (qv 0)) (qv 1))))),λ_ _ _=>by infer_instance⟩
theorem Ir(F:Fun K "ends" "Net.ends" kQ f fd)(B:Blt mg)(n_NoName:fX P w K mg "NoName" "name" eG)[i9 K "NoName"]:zU P w K mg base (CX1 P w) 2 f fd ["self","name"] (bH K lu) :=
 F.okX xS kR rfl λ_ _ _ _ _ _ hr=>have nd:=kR.nd;⟨_,(zf (ae (zE (i4 (b7 hr)) (qv 1) (aU K (qv 0)) (by with_unfolding_all rfl))
  (zj (oh K nZ n_NoName hr (qv 1)))
  zK)
  (zj (zN (kh (b7 hr) (aU K (qv 0)) (qv 1))))),λ_ _ _=>by infer_instance⟩
theorem Is(F:Fun K "check_node" "check_node" kT f fd)(B:Blt mg)(hT_Net_kind_2:lU P w K mg base):zU P w K mg base CX0 2 f fd ["net","name"] (lift K jg) :=
 F.okB xT kU rfl λ_ _ _ _ _ _ hr=>have nd:=kU.nd;⟨_,(zj (ae (zE (bB K hr) (bU (pl:=_) K hT_Net_kind_2 hr (qv 0) (qa1 (qv 1)) aT) cF (zY _))
  (zj bq)
  zK)),λ_=>by infer_instance⟩
theorem Iu(F:Fun K "names_free_of" "names_free_of" o7 f fd)(B:Blt mg)(h_by_name:lV P w K mg base)(h_lines_of:y4 P w K mg base):zU P w K mg base CX0 2 f fd ["frames","lines"] (lift K f_) :=
 F.okB xU wJ rfl λ_ _ _ _ _ _ hr=>have nd:=wJ.nd;⟨_,(zj (zN (iF (br ["frame"] ["lines"] [1] (.of rfl (by decide+kernel) rfl) rfl rfl (by decide+kernel) (zT K (zp h_by_name hr (qa1 (qv 0)))) (λ_ _ _ _=>(aG (i:=0) (show List.Nodup (["frame","lines"]:List Str) by decide+kernel) rfl (Or.inl rfl))) (λ_ _ _ _=>(b9 (eN (zH (iJ K) rfl B.any ip (qa1 (br ["way"] ["lines"] [1] (.of rfl (by decide+kernel) rfl) rfl rfl (by decide+kernel) (zT K (aU K (qv 0))) (λ_ _ _ _=>(aG (i:=0) (show List.Nodup (["way","lines"]:List Str) by decide+kernel) rfl (Or.inl rfl))) (λ_ _ _ _=>cu) (λ_ _ _ _=>(rQ (zH (iJ K) rfl B.any ip (qa1 (br ["line"] ["lines"] [1] (.of rfl (by decide+kernel) rfl) rfl rfl (by decide+kernel) (zT K (zp h_lines_of hr (qa1 (qv 0)))) (λ_ _ _ _=>(aG (i:=0) (show List.Nodup (["line","lines"]:List Str) by decide+kernel) rfl (Or.inl rfl))) (λ_ _ _ _=>cu) (λ_ _ _ _=>(ef (c_ K hr) (qv 0) (qv 1) (by with_unfolding_all rfl)))))))))))))) (λ_ _ _ _=>(aU K (qv 0))))))),λ_=>by infer_instance⟩
theorem Iv(F:Fun K "_law_pick" "_law_pick" o_ f fd)(B:Blt mg)(h_law_draw:fj P w K mg base):zU P w K mg base CX0 2 f fd ["_law_s","_law_row_here"] (lift K gZ) :=
 F.okB xV wL rfl λ_ _ _ _ _ _ hr=>have nd:=wL.nd;⟨_,(zj (zN (qx K (qv 1) (zp h_law_draw hr (qa2 (qv 0) (zH (zZ K) rfl B.len aI (qa1 (qv 1)))))))),λ_=>by infer_instance⟩
theorem Iw(F:Fun K "_law_name" "_law_name" pb f fd)(B:Blt mg)(h_law_draw:fj P w K mg base):zU P w K mg base CX0 2 f fd ["_law_s","_law_names"] (lift K dU) :=
 F.okB xW wN rfl λ_ _ _ _ _ _ hr=>have nd:=wN.nd;⟨_,(zf (qS 2 nd cF)
  (zf (cH PassesOwn.never rfl (fB rfl B.range (qa1 zg)) (qG 3 nd)
  (zf (qS 4 nd (al (bG K) zg (zp h_law_draw hr (qa2 (qv 0) zg))))
  (zf (ae (zE (bB K hr) (qv 4) zg (zY _))
  (zj (qS 4 nd (al (bG K) zg (zp h_law_draw hr (qa2 (qv 0) zg)))))
  zK)
  (zf (qS 5 nd (cv K PySem.F.plainAttrs_str PySem.F.slot_str_join PySem.F.type_str_join (ER K) cF (qa1 (br ["_law_k"] ["_law_letters","_law_s"] [2,0] (.of rfl (by decide+kernel) rfl) rfl rfl (by decide+kernel) (fB rfl B.range (qa1 (qv 4))) (λ_ _ _ _=>(aG (i:=0) (show List.Nodup (["_law_k","_law_letters","_law_s"]:List Str) by decide+kernel) rfl (Or.inl rfl))) (λ_ _ _ _=>cu) (λ_ _ _ _=>(qx K (qv 1) (zp h_law_draw hr (qa2 (qv 2) zg))))))))
  (zj (ae (zE (da K hr) (qv 5) (qv 1) (by with_unfolding_all rfl))
  (zf (zM (cv K PySem.F.plainAttrs_list PySem.F.slot_list_append PySem.F.type_list_append cB (qv 1) (qa1 (qv 5))))
  (zj (zN (qv 5))))
  zK))))))
  (zf (cH PassesOwn.never rfl (fB rfl B.range (qa1 zg)) (qG 6 nd)
  (zf (qS 5 nd (al ET (qx K (qv 2) (al gf (qv 6) zg)) (al (bG K) zg (al jI (qv 6) zg))))
  (zj (ae (zE (da K hr) (qv 5) (qv 1) (by with_unfolding_all rfl))
  (zf (zM (cv K PySem.F.plainAttrs_list PySem.F.slot_list_append PySem.F.type_list_append cB (qv 1) (qa1 (qv 5))))
  (zj (zN (qv 5))))
  zK))))
  (zj (zN cF))))),λ_=>by infer_instance⟩
theorem Ix(F:Fun K "_law_due" "_law_due" px f fd)(B:Blt mg)(h_law_struck:y6 P w K mg base):zU P w K mg base CX0 2 f fd ["_law_world_here","_law_kind","_law_name_here"] (lift K g5) :=
 F.okB xX xi rfl λ_ _ _ _ _ _ hr=>have nd:=xi.nd;⟨_,(zf (iN (qS 3 nd (bK dv)))
  (zf (cH PassesOwn.never rfl (zT K (zH (FO K) rfl B.sorted jK (qa1 (qx K (qv 0) zg)))) (qG 4 nd)
  (zj (ae (zE qr (zH (zZ K) rfl B.len aI (qa1 (br ["_law_way_here"] ["_law_kind","_law_name_here","_law_world_here"] [1,2,0] (.of rfl (by decide+kernel) rfl) rfl rfl (by decide+kernel) (zT K (qx K (qv 4) zg)) (λ_ _ _ _=>(aG (i:=0) (show List.Nodup (["_law_way_here","_law_kind","_law_name_here","_law_world_here"]:List Str) by decide+kernel) rfl (Or.inl rfl))) (λ_ _ _ _=>(b9 (gu (eN (zp h_law_struck hr (zx (qv 3) (zx (qv 1) (qa2 (qv 2) (qv 0))))))))) (λ_ _ _ _=>(qv 0))))) zg (zY _))
  (zj (zM (cv K PySem.F.plainAttrs_list PySem.F.slot_list_append PySem.F.type_list_append cB (qv 3) (qa1 (qx K (qv 4) zg)))))
  zK)))
  (DC 3 (zj (zN (qv 3)))))),λ_=>by infer_instance⟩
theorem Iy(F:Fun K "check_name" "check_name" oy f fd)(B:Blt mg)(h_is_name:pU P w K mg base):zU P w K mg base CX0 3 f fd ["text"] (lift K jh) :=
 F.okB xY vO rfl λ_ _ _ _ _ _ hr=>have nd:=vO.nd;⟨_,(zj (ae (gu (eN (zp h_is_name hr (qa1 (qv 0)))))
  (zj bq)
  zK)),λ_=>by infer_instance⟩
theorem Iz(F:Fun K "check_number" "check_number" oB f fd)(B:Blt mg)(h_check_whole:y8 P w K mg base):zU P w K mg base CX0 3 f fd ["number","least","most"] (lift K gb) :=
 F.okB xZ vU rfl λ_ _ _ _ _ _ hr=>have nd:=vU.nd;⟨_,(zf (zM (zp h_check_whole hr (qa1 (qv 0))))
  (zj (ae (gu (rK fq fq (qv 1) (qv 0) (qv 2)))
  (zj bq)
  zK))),λ_=>by infer_instance⟩
theorem IA(F:Fun K "check_node" "check_node" kT f fd)(B:Blt mg)(hT_Net_kindX_2:y9 P w K mg base)(n_NoName:fX P w K mg "NoName" "name" eG)[i9 K "NoName"]:zU P w K mg base (CX1 P w) 3 f fd ["net","name"] (bH K gc) :=
 F.okX x8 kU rfl λ_ _ _ _ _ _ hr=>have nd:=kU.nd;⟨_,(zj (ae (zE (bB K hr) (vg (pl:=_) K hT_Net_kindX_2 hr fU (qv 0) (qa1 (qv 1)) aT) cF (zY _))
  (zj (oh K nZ n_NoName hr (qv 1)))
  zK)),λ_ _ _=>by infer_instance⟩
theorem IB(F:Fun K "check_way" "check_way" oU f fd)(B:Blt mg)(h_is_name:pU P w K mg base){a_WAY_LENGTHS:Addr}(c_WAY_LENGTHS:mg "WAY_LENGTHS"=some (.ref a_WAY_LENGTHS))[KTup K a_WAY_LENGTHS [3,5,7]]:zU P w K mg base CX0 3 f fd ["way"] (lift K ly) :=
 F.okB x_ wB rfl λ_ _ _ _ _ _ hr=>have nd:=wB.nd;⟨_,(zf (ae (zE (da K hr) (zH (zZ K) rfl B.len aI (qa1 (qv 0))) (du (v:= .ref a_WAY_LENGTHS) rfl c_WAY_LENGTHS rfl) (by with_unfolding_all rfl))
  (zj bq)
  zK)
  (zf (ae (gu (eN (zH (tF K) rfl B.all rC (qa1 (br ["text"] [] [] (.of rfl (by decide+kernel) rfl) rfl rfl (by decide+kernel) (zT K (qv 0)) (λ_ _ _ _=>(aG (i:=0) (show List.Nodup (["text"]:List Str) by decide+kernel) rfl (Or.inl rfl))) (λ_ _ _ _=>cu) (λ_ _ _ _=>(zp h_is_name hr (qa1 (qv 0)))))))))
  (zj bq)
  zK)
  (zj (ae (zE gg (zH (uw) rfl B.len aI (qa1 (dy (uv K) rfl B.set rF (qa1 (qv 0))))) (zH (zZ K) rfl B.len aI (qa1 (qv 0))) (zY _))
  (zj bq)
  zK)))),λ_=>by infer_instance⟩
theorem IC(F:Fun K "masked_cut" "masked_cut" kW f fd)(B:Blt mg)(h_names_free_of:jq P w K mg base)(hT_Net_ends_2:lW P w K mg base):zU P w K mg base CX0 3 f fd ["net","frames","line"] (lift K lz) :=
 F.okB ya kX rfl λ_ _ _ _ _ _ hr=>have nd:=kX.nd;⟨_,(zf (zM (bU (pl:=_) K hT_Net_ends_2 hr (qv 0) (qa1 (qv 2)) aT))
  (zj (zN (zp h_names_free_of hr (qa2 (qv 1) (bK (qa1 (qv 2)))))))),λ_=>by infer_instance⟩
theorem ID(F:Fun K "masked_cut" "masked_cut" kW f fd)(B:Blt mg)(h_names_free_of:jq P w K mg base)(hT_Net_endsX_2:y_ P w K mg base):zU P w K mg base (CX1 P w) 3 f fd ["net","frames","line"] (bH K lA) :=
 F.okX yb kX rfl λ_ _ _ _ _ _ hr=>have nd:=kX.nd;⟨_,(zf (zM (vg (pl:=_) K hT_Net_endsX_2 hr fU (qv 0) (qa1 (qv 2)) aT))
  (zj (zN (zp h_names_free_of hr (qa2 (qv 1) (bK (qa1 (qv 2)))))))),λ_ _ _=>by infer_instance⟩
theorem IE(F:Fun K "masked_silent" "masked_silent" kY f fd)(B:Blt mg)(h_by_name:lV P w K mg base)(h_check_node:pV P w K mg base):zU P w K mg base CX0 3 f fd ["net","frames","node"] (lift K lB) :=
 F.okB yc kZ rfl λ_ _ _ _ _ _ hr=>have nd:=kZ.nd;⟨_,(zf (zM (zp h_check_node hr (qa2 (qv 0) (qv 2))))
  (zj (zN (iF (br ["frame"] ["node"] [2] (.of rfl (by decide+kernel) rfl) rfl rfl (by decide+kernel) (zT K (zp h_by_name hr (qa1 (qv 1)))) (λ_ _ _ _=>(aG (i:=0) (show List.Nodup (["frame","node"]:List Str) by decide+kernel) rfl (Or.inl rfl))) (λ_ _ _ _=>(b9 (eN (zH (iJ K) rfl B.any ip (qa1 (br ["way"] ["node"] [1] (.of rfl (by decide+kernel) rfl) rfl rfl (by decide+kernel) (zT K (aU K (qv 0))) (λ_ _ _ _=>(aG (i:=0) (show List.Nodup (["way","node"]:List Str) by decide+kernel) rfl (Or.inl rfl))) (λ_ _ _ _=>cu) (λ_ _ _ _=>(ef (da K hr) (qv 1) (i6 (i5 K) (qv 0) eO (bF (cZ cT zg)) (bF zg)) (by with_unfolding_all rfl))))))))) (λ_ _ _ _=>(aU K (qv 0)))))))),λ_=>by infer_instance⟩
theorem IF(F:Fun K "masked_babble" "masked_babble" k7 f fd)(B:Blt mg)(h_check_node:pV P w K mg base)(h_names_free_of:jq P w K mg base)(hT_Net_names_1:pW P w K mg base)(hT_Net_kind_2:lU P w K mg base)(hT_Net_ends_2:lW P w K mg base):zU P w K mg base CX0 3 f fd ["net","frames","node"] (lift K lC) :=
 F.okB yd k8 rfl λ_ _ _ _ _ _ hr=>have nd:=k8.nd;⟨_,(zf (zM (zp h_check_node hr (qa2 (qv 0) (qv 2))))
  (zf (eP ["name"] ["net"] [0] (i:=3) nd rfl rfl (.of rfl (by decide+kernel) rfl) rfl rfl (by decide+kernel) (zT K (ug (pl:=_) K hT_Net_names_1 hr (qv 0))) (λ_ _ _ _=>(aG (i:=0) (show List.Nodup (["name","net"]:List Str) by decide+kernel) rfl (Or.inl rfl))) (λ_ _ _ _=>(b9 (zE (bB K hr) (bU (pl:=_) K hT_Net_kind_2 hr (qv 1) (qa1 (qv 0)) aT) cF (zY _)))) (λ_ _ _ _=>(qv 0)))
  (zj (zN (zp h_names_free_of hr (qa2 (qv 1) (br ["line"] ["net","node"] [0,2] (.of rfl (by decide+kernel) rfl) rfl rfl (by decide+kernel) (zT K (qv 3)) (λ_ _ _ _=>(aG (i:=0) (show List.Nodup (["line","net","node"]:List Str) by decide+kernel) rfl (Or.inl rfl))) (λ_ _ _ _=>(b9 (zE (c_ K hr) (qv 2) (qx K (bU (pl:=_) K hT_Net_ends_2 hr (qv 1) (qa1 (qv 0)) aT) zg) (by with_unfolding_all rfl)))) (λ_ _ _ _=>(qv 0))))))))),λ_=>by infer_instance⟩
theorem IG(F:Fun K "_law_hop" "_law_hop" pc f fd)(B:Blt mg)(h_law_draw:fj P w K mg base)(h_law_pick:lX P w K mg base)(h_law_name:jr P w K mg base):zU P w K mg base CX0 3 f fd ["_law_s","_law_names","_law_lines","_law_one","_law_two","_law_barred"] (lift K ji) :=
 F.okB ye wP rfl λ_ _ _ _ _ _ hr=>have nd:=wP.nd;⟨_,(zf (eP ["_law_line"] ["_law_barred","_law_one"] [5,3] (i:=6) nd rfl rfl (.of rfl (by decide+kernel) rfl) rfl rfl (by decide+kernel) (zT K (qv 2)) (λ_ _ _ _=>(aG (i:=0) (show List.Nodup (["_law_line","_law_barred","_law_one"]:List Str) by decide+kernel) rfl (Or.inl rfl))) (λ_ _ _ _=>(b9 (WW.qt (rM (zE (da K hr) (qx K (qv 0) zg) (qv 1) (by with_unfolding_all rfl)) (rL (WW.qt (gr (zE (c_ K hr) (qv 2) (qx K (qv 0) zg) (by with_unfolding_all rfl)) (gq (zE gg (zH (zZ K) rfl B.len aI (qa1 (qx K (qv 0) zg))) zg (zY _)))))))))) (λ_ _ _ _=>(qv 0)))
  (zf (eP ["_law_line"] ["_law_two"] [4] (i:=6) nd rfl rfl (.of rfl (by decide+kernel) rfl) rfl rfl (by decide+kernel) (zT K (qv 6)) (λ_ _ _ _=>(aG (i:=0) (show List.Nodup (["_law_line","_law_two"]:List Str) by decide+kernel) rfl (Or.inl rfl))) (λ_ _ _ _=>(b9 (WW.qt (gr (zE (c_ K hr) (qv 1) (qx K (qv 0) zg) (by with_unfolding_all rfl)) (gq (zE gg (zH (zZ K) rfl B.len aI (qa1 (qx K (qv 0) zg))) zg (zY _))))))) (λ_ _ _ _=>(qv 0)))
  (zf (ae (WW.qt (rM (zE gg (zH (zZ K) rfl B.len aI (qa1 (qv 2))) zg (zY _)) (rL (WW.qt (gr (zE (bB K hr) (zH (zZ K) rfl B.len aI (qa1 (qv 6))) zg (zY _)) (gq (zE (bB K hr) (zp h_law_draw hr (qa2 (qv 0) zg)) zg (zY _))))))))
  (zf (zM (cv K PySem.F.plainAttrs_list PySem.F.slot_list_append PySem.F.type_list_append cB (qv 2) (qa1 (bK (zx (zp h_law_name hr (qa2 (qv 0) (qv 1))) (zx (iF (bK (qa1 (qv 3)))) (qa2 (iF (bK (qa1 (qv 4)))) (zp h_law_draw hr (qa2 (qv 0) zg)))))))))
  (zj (zN (qx K (qx K (qv 2) (cZ cT zg)) zg))))
  zK)
  (zf (qS 7 nd (zp h_law_pick hr (qa2 (qv 0) (qv 6))))
  (zf (ae (zE (da K hr) (qv 3) (qx K (qv 7) zg) (by with_unfolding_all rfl))
  (zj (zM (cv K PySem.F.plainAttrs_list PySem.F.slot_list_append PySem.F.type_list_append cB (qx K (qv 7) zg) (qa1 (qv 3)))))
  zK)
  (zf (ae (zE (da K hr) (qv 4) (qx K (qv 7) zg) (by with_unfolding_all rfl))
  (zj (zM (cv K PySem.F.plainAttrs_list PySem.F.slot_list_append PySem.F.type_list_append cB (qx K (qv 7) zg) (qa1 (qv 4)))))
  zK)
  (zj (zN (qx K (qv 7) zg))))))))),λ_=>by infer_instance⟩
theorem IH(F:Fun K "check_new" "Net.check_new" oN f fd)(B:Blt mg)(h_check_name:pX P w K mg base):zU P w K mg base CX0 4 f fd ["self","name"] (lift K jj) :=
 F.okB yf wm rfl λ_ _ _ _ _ _ hr=>have nd:=wm.nd;⟨_,(zf (zM (zp h_check_name hr (qa1 (qv 1))))
  (zj (ae (zE (uG (b7 hr)) (qv 1) (aU K (qv 0)) (by with_unfolding_all rfl))
  (zj bq)
  zK))),λ_=>by infer_instance⟩
theorem II(F:Fun K "check_ways" "check_ways" oS f fd)(B:Blt mg)(h_check_both_ways:zd P w K mg base)(h_check_way:ze P w K mg base):zU P w K mg base CX0 4 f fd ["ways"] (lift K lD) :=
 F.okB yg wy rfl λ_ _ _ _ _ _ hr=>have nd:=wy.nd;⟨_,(zf (ae (zE (da K hr) (zH (zZ K) rfl B.len aI (qa1 (qv 0))) (iq (qa2 zg zg)) (by with_unfolding_all rfl))
  (zj bq)
  zK)
  (zf (cH PassesOwn.never rfl (zT K (qv 0)) (qG 1 nd)
  (zj (zM (zp h_check_way hr (qa1 (qv 1))))))
  (zj (ae (zE (bB K hr) (zH (zZ K) rfl B.len aI (qa1 (qv 0))) zg (zY _))
  (zj (zM (zp h_check_both_ways hr (qa2 (qx K (qv 0) zg) (qx K (qv 0) zg)))))
  zK)))),λ_=>by infer_instance⟩
theorem IJ(F:Fun K "masked_silent" "masked_silent" kY f fd)(B:Blt mg)(h_by_name:lV P w K mg base)(hK_check_nodeX_2:pY P w K mg base):zU P w K mg base (CX1 P w) 4 f fd ["net","frames","node"] (bH K lE) :=
 F.okX yh kZ rfl λ_ _ _ _ _ _ hr=>have nd:=kZ.nd;⟨_,(zf (zM (gS hK_check_nodeX_2 hr fU (qa2 (qv 0) (qv 2)) aT))
  (zj (zN (iF (br ["frame"] ["node"] [2] (.of rfl (by decide+kernel) rfl) rfl rfl (by decide+kernel) (zT K (zp h_by_name hr (qa1 (qv 1)))) (λ_ _ _ _=>(aG (i:=0) (show List.Nodup (["frame","node"]:List Str) by decide+kernel) rfl (Or.inl rfl))) (λ_ _ _ _=>(b9 (eN (zH (iJ K) rfl B.any ip (qa1 (br ["way"] ["node"] [1] (.of rfl (by decide+kernel) rfl) rfl rfl (by decide+kernel) (zT K (aU K (qv 0))) (λ_ _ _ _=>(aG (i:=0) (show List.Nodup (["way","node"]:List Str) by decide+kernel) rfl (Or.inl rfl))) (λ_ _ _ _=>cu) (λ_ _ _ _=>(ef (da K hr) (qv 1) (i6 (i5 K) (qv 0) eO (bF (cZ cT zg)) (bF zg)) (by with_unfolding_all rfl))))))))) (λ_ _ _ _=>(aU K (qv 0)))))))),λ_ _ _=>by infer_instance⟩
theorem IK(F:Fun K "masked_babble" "masked_babble" k7 f fd)(B:Blt mg)(h_names_free_of:jq P w K mg base)(hK_check_nodeX_2:pY P w K mg base)(hT_Net_names_1:pW P w K mg base)(hT_Net_kind_2:lU P w K mg base)(hT_Net_ends_2:lW P w K mg base):zU P w K mg base (CX1 P w) 4 f fd ["net","frames","node"] (bH K lF) :=
 F.okX yi k8 rfl λ_ _ _ _ _ _ hr=>have nd:=k8.nd;⟨_,(zf (zM (gS hK_check_nodeX_2 hr fU (qa2 (qv 0) (qv 2)) aT))
  (zf (eP ["name"] ["net"] [0] (i:=3) nd rfl rfl (.of rfl (by decide+kernel) rfl) rfl rfl (by decide+kernel) (zT K (ug (pl:=_) K hT_Net_names_1 hr (qv 0))) (λ_ _ _ _=>(aG (i:=0) (show List.Nodup (["name","net"]:List Str) by decide+kernel) rfl (Or.inl rfl))) (λ_ _ _ _=>(b9 (zE (bB K hr) (bU (pl:=_) K hT_Net_kind_2 hr (qv 1) (qa1 (qv 0)) aT) cF (zY _)))) (λ_ _ _ _=>(qv 0)))
  (zj (zN (zp h_names_free_of hr (qa2 (qv 1) (br ["line"] ["net","node"] [0,2] (.of rfl (by decide+kernel) rfl) rfl rfl (by decide+kernel) (zT K (qv 3)) (λ_ _ _ _=>(aG (i:=0) (show List.Nodup (["line","net","node"]:List Str) by decide+kernel) rfl (Or.inl rfl))) (λ_ _ _ _=>(b9 (zE (c_ K hr) (qv 2) (qx K (bU (pl:=_) K hT_Net_ends_2 hr (qv 1) (qa1 (qv 0)) aT) zg) (by with_unfolding_all rfl)))) (λ_ _ _ _=>(qv 0))))))))),λ_ _ _=>by infer_instance⟩
theorem IL(F:Fun K "_law_way" "_law_way" pd f fd)(B:Blt mg)(h_law_draw:fj P w K mg base)(h_law_pick:lX P w K mg base)(h_law_hop:zh P w K mg base):zU P w K mg base CX0 4 f fd ["_law_s","_law_names","_law_lines","_law_gates","_law_first","_law_the_last","_law_barred"] (lift K jk) :=
 F.okB yj wR rfl λ_ _ _ _ _ _ hr=>have nd:=wR.nd;⟨_,(zf (eP ["_law_gate"] ["_law_barred"] [6] (i:=7) nd rfl rfl (.of rfl (by decide+kernel) rfl) rfl rfl (by decide+kernel) (zT K (qv 3)) (λ_ _ _ _=>(aG (i:=0) (show List.Nodup (["_law_gate","_law_barred"]:List Str) by decide+kernel) rfl (Or.inl rfl))) (λ_ _ _ _=>(b9 (zE (da K hr) (qv 0) (qv 1) (by with_unfolding_all rfl)))) (λ_ _ _ _=>(qv 0)))
  (zf (iN (qS 8 nd (bK (qa1 (qv 4)))))
  (zf (cH PassesOwn.never rfl (fB rfl B.range (qa1 (zH (tm K) rfl B.min rB (qa2 (zp h_law_draw hr (qa2 (qv 0) zg)) (zH (zZ K) rfl B.len aI (qa1 (qv 7))))))) (qG 9 nd)
  (zf (qS 10 nd (zp h_law_pick hr (qa2 (qv 0) (qv 7))))
  (zf (eP ["_law_other"] ["_law_gate"] [10] (i:=7) nd rfl rfl (.of rfl (by decide+kernel) rfl) rfl rfl (by decide+kernel) (zT K (qv 7)) (λ_ _ _ _=>(aG (i:=0) (show List.Nodup (["_law_other","_law_gate"]:List Str) by decide+kernel) rfl (Or.inl rfl))) (λ_ _ _ _=>(b9 (zE (gz K hr) (qv 0) (qv 1) (zY _)))) (λ_ _ _ _=>(qv 0)))
  (zf (zM (cv K PySem.F.plainAttrs_list PySem.F.slot_list_append PySem.F.type_list_append cB (qv 8) (qa1 (zp h_law_hop hr (zx (qv 0) (zx (qv 1) (zx (qv 2) (zx (qx K (qv 8) (cZ cT zg)) (qa2 (qv 10) (al (bG K) (qv 6) (qv 8)))))))))))
  (zj (zM (cv K PySem.F.plainAttrs_list PySem.F.slot_list_append PySem.F.type_list_append cB (qv 8) (qa1 (qv 10)))))))))
  (zf (zM (cv K PySem.F.plainAttrs_list PySem.F.slot_list_append PySem.F.type_list_append cB (qv 8) (qa1 (zp h_law_hop hr (zx (qv 0) (zx (qv 1) (zx (qv 2) (zx (qx K (qv 8) (cZ cT zg)) (qa2 (qv 5) (al (bG K) (qv 6) (qv 8)))))))))))
  (zf (zM (cv K PySem.F.plainAttrs_list PySem.F.slot_list_append PySem.F.type_list_append cB (qv 8) (qa1 (qv 5))))
  (zj (zN (dy (gA K) rfl B.tuple gp (qa1 (qv 8)))))))))),λ_=>by infer_instance⟩
theorem IM(F:Fun K "_law_asked" "_law_asked" k_ f fd)(B:Blt mg)(h_masked_cut:zi P w K mg base)(h_masked_silent:zk P w K mg base)(h_masked_babble:zl P w K mg base):zU P w K mg base CX0 4 f fd ["_law_kind","_law_net_here","_law_frames_here","_law_name_here"] (lift K g6) :=
 F.okB yk lf rfl λ_ _ _ _ _ _ hr=>have nd:=lf.nd;⟨_,(zf (ae (zE (bB K hr) (qv 0) zg (zY _))
  (zj (zN (zp h_masked_cut hr (zx (qv 1) (qa2 (qv 2) (qv 3))))))
  zK)
  (zf (ae (zE (bB K hr) (qv 0) zg (zY _))
  (zj (zN (zp h_masked_silent hr (zx (qv 1) (qa2 (qv 2) (qv 3))))))
  zK)
  (zj (zN (zp h_masked_babble hr (zx (qv 1) (qa2 (qv 2) (qv 3)))))))),λ_=>by infer_instance⟩
theorem IN(F:Fun K "line" "Net.line" oG f fd)(B:Blt mg)(h_check_ends:zn P w K mg base)(h_check_number:pZ P w K mg base)(hT_Net_check_new_2:p_ P w K mg base)(hT_Net_check_nodes_2:zo P w K mg base){u_MOST_LINES:Value}(c_MOST_LINES:mg "MOST_LINES"=some u_MOST_LINES)(c_MOST_LINES_r:RelV (.int 16) u_MOST_LINES){u_MOST_WIRE:Value}(c_MOST_WIRE:mg "MOST_WIRE"=some u_MOST_WIRE)(c_MOST_WIRE_r:RelV (.int 30) u_MOST_WIRE):zU P w K mg base CX0 5 f fd ["self","name","senders","ears","wire"] (lift K lG) :=
 F.okB yl v8 rfl λ_ _ _ _ _ _ hr=>have nd:=v8.nd;⟨_,(zf (zM (bU (pl:=_) K hT_Net_check_new_2 hr (qv 0) (qa1 (qv 1)) aT))
  (zf (ae (zE mm (zH nL rfl B.len aI (qa1 (aU K (qv 0)))) (du rfl c_MOST_LINES c_MOST_LINES_r) (zY _))
  (zj bq)
  zK)
  (zf (zM (zp h_check_ends hr (qa1 (qv 2))))
  (zf (zM (zp h_check_ends hr (qa1 (qv 3))))
  (zf (zM (bU (pl:=_) K hT_Net_check_nodes_2 hr (qv 0) (qa1 (qv 2)) aT))
  (zf (zM (bU (pl:=_) K hT_Net_check_nodes_2 hr (qv 0) (qa1 (qv 3)) aT))
  (zf (zM (zp h_check_number hr (zx (qv 4) (qa2 zg (du rfl c_MOST_WIRE c_MOST_WIRE_r)))))
  (zf (nK (b7 hr) (aU K (qv 0)) (qv 1) cF)
  (zj (nK (b7 hr) (aU K (qv 0)) (qv 1) (iq (zx (dy (gA K) rfl B.tuple gp (qa1 (zH (kl K) rfl B.sorted jK (qa1 (qv 2))))) (qa2 (dy (gA K) rfl B.tuple gp (qa1 (zH (kl K) rfl B.sorted jK (qa1 (qv 3))))) (qv 4)))))))))))))),λ_=>by infer_instance⟩
theorem IO(F:Fun K "put_node" "Net.put_node" oM f fd)(B:Blt mg)(hT_Net_check_new_2:p_ P w K mg base){u_MOST_NODES:Value}(c_MOST_NODES:mg "MOST_NODES"=some u_MOST_NODES)(c_MOST_NODES_r:RelV (.int 16) u_MOST_NODES):zU P w K mg base CX0 5 f fd ["self","name","kind"] (lift K jl) :=
 F.okB ym wg rfl λ_ _ _ _ _ _ hr=>have nd:=wg.nd;⟨_,(zf (zM (bU (pl:=_) K hT_Net_check_new_2 hr (qv 0) (qa1 (qv 1)) aT))
  (zf (ae (zE mm (al hV (zH nL rfl B.len aI (qa1 (aU K (qv 0)))) (zH nL rfl B.len aI (qa1 (aU K (qv 0))))) (du rfl c_MOST_NODES c_MOST_NODES_r) (zY _))
  (zj bq)
  zK)
  (zj (nK (b7 hr) (aU K (qv 0)) (qv 1) (qv 2))))),λ_=>by infer_instance⟩
theorem IP(F:Fun K "__init__" "Frame.__init__" oR f fd)(B:Blt mg)(h_check_name:pX P w K mg base)(h_check_number:pZ P w K mg base)(h_check_ways:zt P w K mg base){u_MOST_LONG:Value}(c_MOST_LONG:mg "MOST_LONG"=some u_MOST_LONG)(c_MOST_LONG_r:RelV (.int 30) u_MOST_LONG){u_LAST:Value}(c_LAST:mg "LAST"=some u_LAST)(c_LAST_r:RelV (.int 480) u_LAST){a_ROUNDS:Addr}(c_ROUNDS:mg "ROUNDS"=some (.ref a_ROUNDS))[KTup K a_ROUNDS [4,5,6,8,10,12,15,20,24,30,40,60,120]]:zU P w K mg base CX0 5 f fd ["self","name","ways","every","long","release","last"] (lift K g8) :=
 F.okB yo ww rfl λ_ _ _ _ _ _ hr=>have nd:=ww.nd;⟨_,(zf (zM (zp h_check_name hr (qa1 (qv 1))))
  (zf (zM (zp h_check_ways hr (qa1 (qv 2))))
  (zf (ae (zE (da K hr) (qv 3) (du (v:= .ref a_ROUNDS) rfl c_ROUNDS rfl) (by with_unfolding_all rfl))
  (zj bq)
  zK)
  (zf (zM (zp h_check_number hr (zx (qv 4) (qa2 zg (du rfl c_MOST_LONG c_MOST_LONG_r)))))
  (zf (zM (zp h_check_number hr (zx (qv 5) (qa2 zg (al hV (qv 3) zg)))))
  (zf (zM (zp h_check_number hr (zx (qv 6) (qa2 zg (du rfl c_LAST c_LAST_r)))))
  (zf (eQ K (qv 0) (qv 1))
  (zf (eQ K (qv 0) (qv 2))
  (zf (eQ K (qv 0) (qv 3))
  (zf (eQ K (qv 0) (qv 4))
  (zf (eQ K (qv 0) (qv 5))
  (zj (eQ K (qv 0) (qv 6)))))))))))))),λ_=>by infer_instance⟩
theorem IQ(F:Fun K "_law_row" "_law_row" ph f fd)(B:Blt mg)(h_law_draw:fj P w K mg base)(h_law_need:zv P w K mg base)(h_law_name:jr P w K mg base)(h_law_way:zw P w K mg base):zU P w K mg base CX0 5 f fd ["_law_s","_law_names","_law_lines","_law_houses","_law_gates","_law_the_slack"] (lift K lH) :=
 F.okB yp wV rfl λ_ _ _ _ _ _ hr=>have nd:=wV.nd;⟨_,(zf (qS 6 nd (zp h_law_draw hr (qa2 (qv 0) (zH (zZ K) rfl B.len aI (qa1 (qv 3))))))
  (zf (qS 7 nd (qx K (qv 3) (qv 6)))
  (zf (qS 8 nd (qx K (qv 3) (al gf (al (bG K) (al (bG K) (qv 6) zg) (zp h_law_draw hr (qa2 (qv 0) (al hV (zH (zZ K) rfl B.len aI (qa1 (qv 3))) zg)))) (zH (zZ K) rfl B.len aI (qa1 (qv 3))))))
  (zf (iN (qS 9 nd (bK (qa1 (zp h_law_way hr (zx (qv 0) (zx (qv 1) (zx (qv 2) (zx (qv 4) (zx (qv 7) (qa2 (qv 8) (bK dv))))))))))))
  (zf (ae (zE (bB K hr) (zp h_law_draw hr (qa2 (qv 0) zg)) zg (zY _))
  (zj (zM (cv K PySem.F.plainAttrs_list PySem.F.slot_list_append PySem.F.type_list_append cB (qv 9) (qa1 (zp h_law_way hr (zx (qv 0) (zx (qv 1) (zx (qv 2) (zx (qv 4) (zx (qv 7) (qa2 (qv 8) (dy (D3 K) rfl B.list rE (qa1 (ir (jY K) (qx K (qv 9) zg) (bF zg) (bF (cZ cT zg))))))))))))))))
  zK)
  (zf (qS 10 nd (qx K (bK (rS [12,8,20,24,10,30,15,40,60,12,120] rfl)) (zp h_law_draw hr (qa2 (qv 0) zg))))
  (zf (qS 11 nd (al (bG K) zg (zp h_law_draw hr (qa2 (qv 0) (zH (tm K) rfl B.min rB (qa2 zg (al hV (qv 10) (qv 5))))))))
  (zf (qS 12 nd (iq (zx (zp h_law_name hr (qa2 (qv 0) (qv 1))) (zx (dy (gA K) rfl B.tuple gp (qa1 (qv 9))) (zx (qv 10) (zx (qv 11) (qa2 (zp h_law_draw hr (qa2 (qv 0) (qv 10))) zg)))))))
  (zf (qS 13 nd (qx K (bK (zx zg (zx zg (zx zg (zx (al jI (qv 10) zg) (zx zg (qa2 (al hV (qv 10) zg) zg))))))) (zp h_law_draw hr (qa2 (qv 0) zg))))
  (zj (zN (al (bG K) (ir (jY K) (qv 12) eO (bF zg)) (iq (qa1 (al (bG K) (zp h_law_need hr (zx (qv 12) (qa2 (qv 2) (qv 5)))) (qv 13)))))))))))))))),λ_=>by infer_instance⟩
theorem IR(F:Fun K "_law_asked" "_law_asked" k_ f fd)(B:Blt mg)(hK_masked_cutX_3:zC P w K mg base)(hK_masked_silentX_3:zD P w K mg base)(hK_masked_babbleX_3:zI P w K mg base):zU P w K mg base (CX1 P w) 5 f fd ["_law_kind","_law_net_here","_law_frames_here","_law_name_here"] (bH K lI) :=
 F.okX yq lf rfl λ_ _ _ _ _ _ hr=>have nd:=lf.nd;⟨_,(zf (ae (zE (bB K hr) (qv 0) zg (zY _))
  (zj (zN (gS hK_masked_cutX_3 hr fU (zx (qv 1) (qa2 (qv 2) (qv 3))) aT)))
  zK)
  (zf (ae (zE (bB K hr) (qv 0) zg (zY _))
  (zj (zN (gS hK_masked_silentX_3 hr fU (zx (qv 1) (qa2 (qv 2) (qv 3))) aT)))
  zK)
  (zj (zN (gS hK_masked_babbleX_3 hr fU (zx (qv 1) (qa2 (qv 2) (qv 3))) aT))))),λ_ _ _=>by infer_instance⟩
theorem IS(F:Fun K "house" "Net.house" oE f fd)(B:Blt mg)(hT_Net_put_node_3:qa P w K mg base):zU P w K mg base CX0 6 f fd ["self","name"] (lift K lJ) :=
 F.okB yr vY rfl λ_ _ _ _ _ _ hr=>have nd:=vY.nd;⟨_,(zj (zM (bU (pl:=_) K hT_Net_put_node_3 hr (qv 0) (qa2 (qv 1) cF) aT))),λ_=>by infer_instance⟩
theorem IT(F:Fun K "gate" "Net.gate" oF f fd)(B:Blt mg)(hT_Net_put_node_3:qa P w K mg base):zU P w K mg base CX0 6 f fd ["self","name"] (lift K lK) :=
 F.okB yt v6 rfl λ_ _ _ _ _ _ hr=>have nd:=v6.nd;⟨_,(zj (zM (bU (pl:=_) K hT_Net_put_node_3 hr (qv 0) (qa2 (qv 1) cF) aT))),λ_=>by infer_instance⟩
theorem IU(F:Fun K "_law_world" "_law_world" pj f fd)(B:Blt mg)(h_law_draw:fj P w K mg base)(h_law_name:jr P w K mg base)(h_law_row:zS P w K mg base):zU P w K mg base CX0 6 f fd ["_law_s","_law_the_most"] (lift K lL) :=
 F.okB yu wX rfl λ_ _ _ _ _ _ hr=>have nd:=wX.nd;⟨_,(zf (iN (qS 2 nd (bK dv)))
  (zf (qS 3 nd (br ["_law_k"] ["_law_names","_law_s"] [2,0] (.of rfl (by decide+kernel) rfl) rfl rfl (by decide+kernel) (fB rfl B.range (qa1 (al (bG K) zg (zp h_law_draw hr (qa2 (qv 0) zg))))) (λ_ _ _ _=>(aG (i:=0) (show List.Nodup (["_law_k","_law_names","_law_s"]:List Str) by decide+kernel) rfl (Or.inl rfl))) (λ_ _ _ _=>cu) (λ_ _ _ _=>(zp h_law_name hr (qa2 (qv 2) (qv 1))))))
  (zf (qS 4 nd (br ["_law_k"] ["_law_names","_law_s"] [2,0] (.of rfl (by decide+kernel) rfl) rfl rfl (by decide+kernel) (fB rfl B.range (qa1 (zp h_law_draw hr (qa2 (qv 0) zg)))) (λ_ _ _ _=>(aG (i:=0) (show List.Nodup (["_law_k","_law_names","_law_s"]:List Str) by decide+kernel) rfl (Or.inl rfl))) (λ_ _ _ _=>cu) (λ_ _ _ _=>(zp h_law_name hr (qa2 (qv 2) (qv 1))))))
  (zf (qS 5 nd (qx K (bK (rS [0,1,2,0,3,1,5,7] rfl)) (zp h_law_draw hr (qa2 (qv 0) zg))))
  (zf (iN (qS 6 nd (bK dv)))
  (zf (eP ["_law_k"] ["_law_gates","_law_houses","_law_lines","_law_names","_law_s","_law_the_slack"] [4,3,6,2,0,5] (i:=7) nd rfl rfl (.of rfl (by decide+kernel) rfl) rfl rfl (by decide+kernel) (fB rfl B.range (qa1 (al (bG K) zg (zp h_law_draw hr (qa2 (qv 0) (qv 1)))))) (λ_ _ _ _=>(aG (i:=0) (show List.Nodup (["_law_k","_law_gates","_law_houses","_law_lines","_law_names","_law_s","_law_the_slack"]:List Str) by decide+kernel) rfl (Or.inl rfl))) (λ_ _ _ _=>cu) (λ_ _ _ _=>(zp h_law_row hr (zx (qv 5) (zx (qv 4) (zx (qv 3) (zx (qv 2) (qa2 (qv 1) (qv 6)))))))))
  (zj (zN (iq (zx (qv 3) (zx (qv 4) (zx (qv 6) (zx (qv 7) (qa2 (qv 5) (qv 2))))))))))))))),λ_=>by infer_instance⟩
theorem IV(F:Fun K "_law_net" "_law_net" pp f fd)(B:Blt mg)(hM_NetD_initD_1:z_ P w K mg base)(hT_Net_house_2:Aa P w K mg base)(hT_Net_gate_2:Ab P w K mg base)(hT_Net_line_4_wire:Ac P w K mg base):zU P w K mg base CX0 7 f fd ["_law_world_here"] (lift K lM) :=
 F.okB yv wZ rfl λ_ _ _ _ _ _ hr=>have nd:=wZ.nd;⟨_,(zf (qS 1 nd (EM K hM_NetD_initD_1 hr))
  (zf (cH PassesOwn.never rfl (zT K (qx K (qv 0) zg)) (qG 2 nd)
  (zj (zM (bU (pl:=_) K hT_Net_house_2 hr (qv 1) (qa1 (qv 2)) aT))))
  (zf (cH PassesOwn.never rfl (zT K (qx K (qv 0) zg)) (qG 2 nd)
  (zj (zM (bU (pl:=_) K hT_Net_gate_2 hr (qv 1) (qa1 (qv 2)) aT))))
  (zf (cH PassesOwn.never rfl (zT K (qx K (qv 0) zg)) (FD (n:=4) (K:=K) rfl (jM (qG 2 nd) (jM (qG 3 nd) (jM (qG 4 nd) (jM (qG 5 nd) C1)))))
  (zj (zM (bU (pl:=_) K hT_Net_line_4_wire hr (qv 1) (zx (qv 2) (qa2 (dy (gA K) rfl B.tuple gp (qa1 (qv 3))) (dy (gA K) rfl B.tuple gp (qa1 (qv 4))))) (iu (qv 5) aT)))))
  (zj (zN (qv 1))))))),λ_=>by infer_instance⟩
theorem IW(F:Fun K "_law_frame" "_law_frame" pq f fd)(B:Blt mg)(hM_FrameD_initD_3_every_long_release_last:Ad P w K mg base):zU P w K mg base CX0 7 f fd ["_law_row_here"] (lift K lN) :=
 F.okB yw w8 rfl λ_ _ _ _ _ _ hr=>have nd:=w8.nd;⟨_,(zj (zN (EL K hM_FrameD_initD_3_every_long_release_last hr (qa2 (qx K (qv 0) zg) (qx K (qv 0) zg)) (iu (qx K (qv 0) zg) (iu (qx K (qv 0) zg) (iu (qx K (qv 0) zg) (iu (qx K (qv 0) zg) aT))))))),λ_=>by infer_instance⟩
theorem IX(F:Fun K "_law_frames" "_law_frames" pr f fd)(B:Blt mg)(h_law_frame:Ae P w K mg base):zU P w K mg base CX0 8 f fd ["_law_rows"] (lift K lO) :=
 F.okB yx xa rfl λ_ _ _ _ _ _ hr=>have nd:=xa.nd;⟨_,(zj (zN (br ["_law_row_here"] [] [] (.of rfl (by decide+kernel) rfl) rfl rfl (by decide+kernel) (zT K (qv 0)) (λ_ _ _ _=>(aG (i:=0) (show List.Nodup (["_law_row_here"]:List Str) by decide+kernel) rfl (Or.inl rfl))) (λ_ _ _ _=>cu) (λ_ _ _ _=>(zp h_law_frame hr (qa1 (qv 0))))))),λ_=>by infer_instance⟩
def IY:DSp:=zO pF pA 1
theorem IZ(F:Fun K "law" "law" pz f fd)(B:Blt mg)(h_law_start:Af P w K mg base)(h_law_draw:fj P w K mg base)(h_law_pick:lX P w K mg base)(h_law_name:jr P w K mg base)(h_law_due:Ag P w K mg base)(h_law_asked:Ah P w K mg base)(h_law_world:Ai P w K mg base)(h_law_net:Aj P w K mg base)(h_law_frames:Ak P w K mg base)(hK_law_askedX_4:Al P w K mg base){a_NoName:Addr}(c_NoName:mg "NoName"=some (.ref a_NoName))[iD K "NoName" a_NoName][kH K ja a_NoName][ENm K pC]:zU P w K mg base CX0 9 f fd ["_law_script"] (lift K IY) :=
 F.okB pF xj rfl λ_ _ _ _ _ _ hr=>have nd:=xj.nd;⟨_,(zf (qS 1 nd (zp h_law_start hr (qa1 (qv 0))))
  (zf (qS 2 nd (zp h_law_world hr (qa2 (qv 1) zg)))
  (zf (qS 3 nd (zp h_law_net hr (qa1 (qv 2))))
  (zf (qS 4 nd (zp h_law_frames hr (qa1 (qx K (qv 2) zg))))
  (zf (qS 5 nd (zp h_law_draw hr (qa2 (qv 1) zg)))
  (zf (qS 6 nd (al (bG K) (qx K (qv 2) zg) (qx K (qv 2) zg)))
  (zf (eP ["_law_line"] [] [] (i:=7) nd rfl rfl (.of rfl (by decide+kernel) rfl) rfl rfl (by decide+kernel) (zT K (qx K (qv 2) zg)) (λ_ _ _ _=>(aG (i:=0) (show List.Nodup (["_law_line"]:List Str) by decide+kernel) rfl (Or.inl rfl))) (λ_ _ _ _=>cu) (λ_ _ _ _=>(qx K (qv 0) zg)))
  (zf (qS 8 nd (rR (zE (bB K hr) (qv 5) zg (zY _)) (qv 7) (qv 6)))
  (zf (qS 9 nd (rR (zE (bB K hr) (qv 5) zg (zY _)) (qv 6) (qv 7)))
  (zf (qS 10 nd (zp h_law_pick hr (qa2 (qv 1) (al (bG K) (qv 9) (bK (qa1 (zp h_law_name hr (qa2 (qv 1) (qx K (qv 2) zg)))))))))
  (zf (qS 11 nd cF)
  (zf (FU (i:=12) K nd c_NoName (λE xe pn xo=>(zj (zM (gS hK_law_askedX_4 hr xo (zx (qv 5) (zx (qv 3) (qa2 (qv 4) (qv 10)))) aT))))
  (λa=>(zj (qS 11 nd (Gk K (qv 12))))))
  (zf (ae (zE (gz K hr) (qv 11) (qv 10) (zY _))
  (zj (zN mU))
  zK)
  (zf (cH PassesOwn.never rfl (zT K (qv 8)) (qG 13 nd)
  (zf (qS 14 nd (zp h_law_asked hr (zx (qv 5) (zx (qv 3) (qa2 (qv 4) (qv 13))))))
  (zf (ae (zE (gz K hr) (qv 14) (zp h_law_due hr (zx (qv 2) (qa2 (qv 5) (qv 13)))) (zY _))
  (zj (zN mU))
  zK)
  (zf (zM (cv K PySem.F.plainAttrs_list PySem.F.slot_list_append PySem.F.type_list_append cB (qv 14) (qa1 cF)))
  (zj (ae (zE (gz K hr) (zp h_law_asked hr (zx (qv 5) (zx (qv 3) (qa2 (qv 4) (qv 13))))) (zp h_law_due hr (zx (qv 2) (qa2 (qv 5) (qv 13)))) (zY _))
  (zj (zN mU))
  zK))))))
  (zj (zN (ef (bB K hr) (zH (zZ K) rfl B.len aI (qa1 (qv 4))) (zH (zZ K) rfl B.len aI (qa1 (qx K (qv 2) zg))) (zY _)))))))))))))))))),λ_=>by infer_instance⟩
end
theorem I0{l:PySem.W.OpenLaw}{w:World}{h:Heap}{fa:Addr}(X:K.In h)(G:h.Ns mainGlobals mg)(hfa:mg "law"=some (.ref fa))
  {C_Net:Addr}(q_Net:kN K "Net" C_Net cn)
  {C_Frame:Addr}(q_Frame:kN K "Frame" C_Frame gU)
  {C_NoName:Addr}(a_NoName:nsIn K mainGlobals "NoName"=some (some (.ref C_NoName)))
  (n_NoName:fX l.prog w K mg "NoName" "name" eG)
  (en_NoName:kL K C_NoName=true)
  (et0:kF K ja xy xz xA=true)
  {f0:Addr}{d0:FuncData}(p0:av K "is_made_of" ou f0 d0)
  {f1:Addr}{d1:FuncData}(p1:av K "is_name" ow f1 d1)
  {f2:Addr}{d2:FuncData}(p2:av K "check_name" oy f2 d2)
  {f3:Addr}{d3:FuncData}(p3:av K "is_number" oz f3 d3)
  {f4:Addr}{d4:FuncData}(p4:av K "check_whole" oA f4 d4)
  {f5:Addr}{d5:FuncData}(p5:av K "check_number" oB f5 d5)
  {f6:Addr}{d6:FuncData}(p6:bX K C_Net "__init__" "Net.__init__" oC f6 d6)
  {f7:Addr}{d7:FuncData}(p7:bX K C_Net "house" "Net.house" oE f7 d7)
  {f8:Addr}{d8:FuncData}(p8:bX K C_Net "gate" "Net.gate" oF f8 d8)
  {f9:Addr}{d9:FuncData}(p9:bX K C_Net "line" "Net.line" oG f9 d9)
  {f10:Addr}{d10:FuncData}(p10:bX K C_Net "names" "Net.names" oH f10 d10)
  {f11:Addr}{d11:FuncData}(p11:bX K C_Net "kind" "Net.kind" kO f11 d11)
  {f12:Addr}{d12:FuncData}(p12:bX K C_Net "ends" "Net.ends" kQ f12 d12)
  {f13:Addr}{d13:FuncData}(p13:bX K C_Net "put_node" "Net.put_node" oM f13 d13)
  {f14:Addr}{d14:FuncData}(p14:bX K C_Net "check_new" "Net.check_new" oN f14 d14)
  {f15:Addr}{d15:FuncData}(p15:bX K C_Net "check_nodes" "Net.check_nodes" oO f15 d15)
  {f16:Addr}{d16:FuncData}(p16:av K "check_ends" oP f16 d16)
  {f17:Addr}{d17:FuncData}(p17:av K "check_node" kT f17 d17)
  {f18:Addr}{d18:FuncData}(p18:bX K C_Frame "__init__" "Frame.__init__" oR f18 d18)
  {f19:Addr}{d19:FuncData}(p19:av K "check_ways" oS f19 d19)
  {f20:Addr}{d20:FuncData}(p20:av K "check_way" oU f20 d20)
  {f21:Addr}{d21:FuncData}(p21:av K "check_both_ways" oV f21 d21)
  {f22:Addr}{d22:FuncData}(p22:av K "by_name" oW f22 d22)
  {f23:Addr}{d23:FuncData}(p23:av K "lines_of" oX f23 d23)
  {f24:Addr}{d24:FuncData}(p24:av K "masked_cut" kW f24 d24)
  {f25:Addr}{d25:FuncData}(p25:av K "masked_silent" kY f25 d25)
  {f26:Addr}{d26:FuncData}(p26:av K "masked_babble" k7 f26 d26)
  {f27:Addr}{d27:FuncData}(p27:av K "names_free_of" o7 f27 d27)
  {f28:Addr}{d28:FuncData}(p28:av K "_law_start" o8 f28 d28)
  {f29:Addr}{d29:FuncData}(p29:av K "_law_draw" o9 f29 d29)
  {f30:Addr}{d30:FuncData}(p30:av K "_law_pick" o_ f30 d30)
  {f31:Addr}{d31:FuncData}(p31:av K "_law_name" pb f31 d31)
  {f32:Addr}{d32:FuncData}(p32:av K "_law_hop" pc f32 d32)
  {f33:Addr}{d33:FuncData}(p33:av K "_law_way" pd f33 d33)
  {f34:Addr}{d34:FuncData}(p34:av K "_law_need" pf f34 d34)
  {f35:Addr}{d35:FuncData}(p35:av K "_law_row" ph f35 d35)
  {f36:Addr}{d36:FuncData}(p36:av K "_law_world" pj f36 d36)
  {f37:Addr}{d37:FuncData}(p37:av K "_law_net" pp f37 d37)
  {f38:Addr}{d38:FuncData}(p38:av K "_law_frame" pq f38 d38)
  {f39:Addr}{d39:FuncData}(p39:av K "_law_frames" pr f39 d39)
  {f40:Addr}{d40:FuncData}(p40:av K "_law_asked" k_ f40 d40)
  {f41:Addr}{d41:FuncData}(p41:av K "_law_struck" pw f41 d41)
  {f42:Addr}{d42:FuncData}(p42:av K "_law_due" px f42 d42)
  {f43:Addr}{d43:FuncData}(p43:av K "law" pz f43 d43)
  (z_len:nsIn K mainGlobals "len"=some none)
  (z_abs:nsIn K mainGlobals "abs"=some none)
  (z_max:nsIn K mainGlobals "max"=some none)
  (z_min:nsIn K mainGlobals "min"=some none)
  (z_all:nsIn K mainGlobals "all"=some none)
  (z_any:nsIn K mainGlobals "any"=some none)
  (z_sum:nsIn K mainGlobals "sum"=some none)
  (z_sorted:nsIn K mainGlobals "sorted"=some none)
  (z_isinstance:nsIn K mainGlobals "isinstance"=some none)
  (z_list:nsIn K mainGlobals "list"=some none)
  (z_tuple:nsIn K mainGlobals "tuple"=some none)
  (z_int:nsIn K mainGlobals "int"=some none)
  (z_bool:nsIn K mainGlobals "bool"=some none)
  (z_str:nsIn K mainGlobals "str"=some none)
  (z_set:nsIn K mainGlobals "set"=some none)
  (z_dict:nsIn K mainGlobals "dict"=some none)
  (z_zip:nsIn K mainGlobals "zip"=some none)
  (z_range:nsIn K mainGlobals "range"=some none)
  (z_enumerate:nsIn K mainGlobals "enumerate"=some none)
  (z_reversed:nsIn K mainGlobals "reversed"=some none)
  (z_repr:nsIn K mainGlobals "repr"=some none)
  {u_MOST_LONG:Value}(g_MOST_LONG:nsIn K mainGlobals "MOST_LONG"=some (some u_MOST_LONG))
  (v_MOST_LONG:c6 u_MOST_LONG=some 30)
  {u_LAST:Value}(g_LAST:nsIn K mainGlobals "LAST"=some (some u_LAST))
  (v_LAST:c6 u_LAST=some 480)
  {u_LETTERS:Value}(g_LETTERS:nsIn K mainGlobals "LETTERS"=some (some u_LETTERS))
  (v_LETTERS:nG u_LETTERS=some "abcdefghijklmnopqrstuvwxyz")
  {u_MOST_LETTERS:Value}(g_MOST_LETTERS:nsIn K mainGlobals "MOST_LETTERS"=some (some u_MOST_LETTERS))
  (v_MOST_LETTERS:c6 u_MOST_LETTERS=some 8)
  {u_MOST_LINES:Value}(g_MOST_LINES:nsIn K mainGlobals "MOST_LINES"=some (some u_MOST_LINES))
  (v_MOST_LINES:c6 u_MOST_LINES=some 16)
  {u_MOST_WIRE:Value}(g_MOST_WIRE:nsIn K mainGlobals "MOST_WIRE"=some (some u_MOST_WIRE))
  (v_MOST_WIRE:c6 u_MOST_WIRE=some 30)
  {u_MOST_ENDS:Value}(g_MOST_ENDS:nsIn K mainGlobals "MOST_ENDS"=some (some u_MOST_ENDS))
  (v_MOST_ENDS:c6 u_MOST_ENDS=some 6)
  {u_MOST_NODES:Value}(g_MOST_NODES:nsIn K mainGlobals "MOST_NODES"=some (some u_MOST_NODES))
  (v_MOST_NODES:c6 u_MOST_NODES=some 16)
  {aT_ROUNDS:Addr}(g_ROUNDS:nsIn K mainGlobals "ROUNDS"=some (some (.ref aT_ROUNDS)))
  {oT_ROUNDS:Obj}(lo_ROUNDS:K.lookup aT_ROUNDS=some oT_ROUNDS)
  (ti_ROUNDS:jQ oT_ROUNDS=some ([4,5,6,8,10,12,15,20,24,30,40,60,120]:List Int))
  {aT_WAY_LENGTHS:Addr}(g_WAY_LENGTHS:nsIn K mainGlobals "WAY_LENGTHS"=some (some (.ref aT_WAY_LENGTHS)))
  {oT_WAY_LENGTHS:Obj}(lo_WAY_LENGTHS:K.lookup aT_WAY_LENGTHS=some oT_WAY_LENGTHS)
  (ti_WAY_LENGTHS : jQ oT_WAY_LENGTHS = some ([3, 5, 7] : List Int))
   (d_law_askedX_4:bw K d40 ["_law_kind","_law_net_here","_law_frames_here","_law_name_here"] [] 4 0 [.p 0,.p 1,.p 2,.p 3] [])
   (d_masked_cutX_3:bw K d24 ["net","frames","line"] [] 3 0 [.p 0,.p 1,.p 2] [])
   (d_masked_silentX_3:bw K d25 ["net","frames","node"] [] 3 0 [.p 0,.p 1,.p 2] [])
   (d_masked_babbleX_3:bw K d26 ["net","frames","node"] [] 3 0 [.p 0,.p 1,.p 2] [])
   (d_check_nodeX_2:bw K d17 ["net","name"] [] 2 0 [.p 0,.p 1] [])
   (d_Net_names_1:bw K d10 ["self"] [] 1 0 [.p 0] [])
   (d_Net_kind_2:bw K d11 ["self","name"] [] 2 0 [.p 0,.p 1] [])
   (d_Net_ends_2:bw K d12 ["self","name"] [] 2 0 [.p 0,.p 1] [])
   (d_Net_kindX_2:bw K d11 ["self","name"] [] 2 0 [.p 0,.p 1] [])
   (d_Net_endsX_2:bw K d12 ["self","name"] [] 2 0 [.p 0,.p 1] [])
   (d_FrameD_initD_3_every_long_release_last:bw K d18 ["self","name","ways","every","long","release","last"] ["every","long","release","last"] 3 4 [.p 0,.p 1,.p 2,.k 0,.k 1,.k 2,.k 3] [])
   (d_NetD_initD_1:bw K d6 ["self"] [] 1 0 [.p 0] [])
   (d_Net_house_2:bw K d7 ["self","name"] [] 2 0 [.p 0,.p 1] [])
   (d_Net_gate_2:bw K d8 ["self","name"] [] 2 0 [.p 0,.p 1] [])
   (d_Net_line_4_wire:bw K d9 ["self","name","senders","ears","wire"] ["wire"] 4 1 [.p 0,.p 1,.p 2,.p 3,.k 0] [])
   (d_Net_check_new_2:bw K d14 ["self","name"] [] 2 0 [.p 0,.p 1] [])
   (d_Net_check_nodes_2:bw K d15 ["self","ends"] [] 2 0 [.p 0,.p 1] [])
   (d_Net_put_node_3:bw K d13 ["self","name","kind"] [] 3 0 [.p 0,.p 1,.p 2] [])
  (lT9:tabIn K "by_name"=some (cL,PL))(hcL:d22.code= .ref cL)
  : ∃fd:FuncData,(∀(s:Shared) (v:Value),BindsTo s fd ⟨[v],[]⟩ [("_law_script",v)])/\∀base:Heap,K.In base->base.Ns mainGlobals mg->eF base mg cL PL->zU l.prog w K mg base CX0 9 fa fd ["_law_script"] (kM K PL):=by
 have e:=hfa.symm.trans (mg_of X G p43.at_);cases e;have B:Blt mg:=⟨mg_none_of X G z_len,mg_none_of X G z_abs,mg_none_of X G z_max,mg_none_of X G z_min,mg_none_of X G z_all,mg_none_of X G z_any,mg_none_of X G z_sum,mg_none_of X G z_sorted,mg_none_of X G z_isinstance,mg_none_of X G z_list,mg_none_of X G z_tuple,mg_none_of X G z_int,mg_none_of X G z_bool,mg_none_of X G z_str,mg_none_of X G z_set,mg_none_of X G z_dict,mg_none_of X G z_zip,mg_none_of X G z_range,mg_none_of X G z_enumerate,mg_none_of X G z_reversed,mg_none_of X G z_repr⟩;haveI tk:TabOk K tab:=uj (dN q_Net.at_) q_Net.cl q_Net.na (uj (dN q_Frame.at_) q_Frame.cl q_Frame.na (EQ))
 haveI kt_ROUNDS:KTup K aT_ROUNDS [4,5,6,8,10,12,15,20,24,30,40,60,120]:=⟨λH=>rW lo_ROUNDS ti_ROUNDS H⟩
 haveI kt_WAY_LENGTHS:KTup K aT_WAY_LENGTHS [3,5,7]:=⟨λH=>rW lo_WAY_LENGTHS ti_WAY_LENGTHS H⟩
 haveI ic_Net:iD K "Net" C_Net:=⟨dN q_Net.at_,by decide+kernel⟩
 haveI ic_Frame:iD K "Frame" C_Frame:=⟨dN q_Frame.at_,by decide+kernel⟩
 haveI ic_NoName:iD K "NoName" C_NoName:=⟨dN a_NoName,by decide+kernel⟩
 haveI et:fV K ja xy xz xA:=⟨et0⟩
 haveI lb_NoName:i9 K "NoName":=⟨⟨_,dN a_NoName⟩,by decide+kernel⟩
 haveI ens:ENm K pC:=(.cons (dN a_NoName) en_NoName .nil)
 haveI hd_NoName:kH K ja C_NoName:=et.hd ic_NoName (by decide)
 refine⟨d43,λs v=>by obtain⟨e,y⟩:=p43;obtain⟨_,_,kV,_,_,_,_,_,_,rfl,_,_⟩:=e.F.ex;have y1:kV.1= .none:=y;exact .of_eq (by rw[y1];rfl),λbase _ _ lb9=>?_⟩;haveI lp9:oo K "by_name" PL:=⟨⟨_,lT9⟩⟩
 have h_is_made_of:y0 l.prog w K mg base:=p0.has p0.bd X G (H_ p0.F B );have h_is_number:y2 l.prog w K mg base:=p3.has p3.bd X G (Ia p3.F B );have hM_NetD_initD_1:z_ l.prog w K mg base:=p6.hasM q_Net X G (Ib p6.F B ) (kbk d_NetD_initD_1 .nil);have hT_Net_names_1:pW l.prog w K mg base:=p10.hasT q_Net (Ic p10.F B ) (kbk d_Net_names_1 .nil);have hT_Net_kind_2:lU l.prog w K mg base:=p11.hasT q_Net (Id p11.F B ) (kbk d_Net_kind_2 .nil);have hT_Net_ends_2:lW l.prog w K mg base:=p12.hasT q_Net (Ie p12.F B ) (kbk d_Net_ends_2 .nil);have hT_Net_check_nodes_2:zo l.prog w K mg base:=p15.hasT q_Net (Ig p15.F B ) (kbk d_Net_check_nodes_2 .nil);have h_check_ends:zn l.prog w K mg base:=p16.has p16.bd X G (Ih p16.F B (mg_of X G g_MOST_ENDS) (eR v_MOST_ENDS));have h_check_both_ways:zd l.prog w K mg base:=p21.has p21.bd X G (Ii p21.F B );have h_by_name:lV l.prog w K mg base:=p22.has p22.bd X G (Ij p22.F B  lb9 hcL);have h_lines_of:y4 l.prog w K mg base:=p23.has p23.bd X G (Ik p23.F B );have h_law_start:Af l.prog w K mg base:=p28.has p28.bd X G (GE p28.F B);have h_law_draw:fj l.prog w K mg base:=p29.has p29.bd X G (GD p29.F B);have h_law_need:zv l.prog w K mg base:=p34.has p34.bd X G (Il p34.F B );have h_law_struck:y6 l.prog w K mg base:=p41.has p41.bd X G (Im p41.F B );have h_is_name:pU l.prog w K mg base:=p1.has p1.bd X G (Io p1.F B h_is_made_of (mg_of X G g_LETTERS) (Fs v_LETTERS) (mg_of X G g_MOST_LETTERS) (eR v_MOST_LETTERS));have h_check_whole:y8 l.prog w K mg base:=p4.has p4.bd X G (Ip p4.F B h_is_number);have hT_Net_kindX_2:y9 l.prog w K mg base:=p11.hasT q_Net (Iq p11.F B n_NoName) (kbk d_Net_kindX_2 .nil);have hT_Net_endsX_2:y_ l.prog w K mg base:=p12.hasT q_Net (Ir p12.F B n_NoName) (kbk d_Net_endsX_2 .nil);have h_check_node:pV l.prog w K mg base:=p17.has p17.bd X G (Is p17.F B hT_Net_kind_2);have h_names_free_of:jq l.prog w K mg base:=p27.has p27.bd X G (Iu p27.F B h_by_name h_lines_of);have h_law_pick:lX l.prog w K mg base:=p30.has p30.bd X G (Iv p30.F B h_law_draw);have h_law_name:jr l.prog w K mg base:=p31.has p31.bd X G (Iw p31.F B h_law_draw);have h_law_due:Ag l.prog w K mg base:=p42.has p42.bd X G (Ix p42.F B h_law_struck);have h_check_name:pX l.prog w K mg base:=p2.has p2.bd X G (Iy p2.F B h_is_name);have h_check_number:pZ l.prog w K mg base:=p5.has p5.bd X G (Iz p5.F B h_check_whole);have hK_check_nodeX_2:pY l.prog w K mg base:=p17.hasK X G (IA p17.F B hT_Net_kindX_2 n_NoName) (kbk d_check_nodeX_2 .nil);have h_check_way:ze l.prog w K mg base:=p20.has p20.bd X G (IB p20.F B h_is_name (mg_of X G g_WAY_LENGTHS));have h_masked_cut:zi l.prog w K mg base:=p24.has p24.bd X G (IC p24.F B h_names_free_of hT_Net_ends_2);have hK_masked_cutX_3:zC l.prog w K mg base:=p24.hasK X G (ID p24.F B h_names_free_of hT_Net_endsX_2) (kbk d_masked_cutX_3 .nil);have h_masked_silent:zk l.prog w K mg base:=p25.has p25.bd X G (IE p25.F B h_by_name h_check_node);have h_masked_babble:zl l.prog w K mg base:=p26.has p26.bd X G (IF p26.F B h_check_node h_names_free_of hT_Net_names_1 hT_Net_kind_2 hT_Net_ends_2);have h_law_hop:zh l.prog w K mg base:=p32.has p32.bd X G (IG p32.F B h_law_draw h_law_pick h_law_name);have hT_Net_check_new_2:p_ l.prog w K mg base:=p14.hasT q_Net (IH p14.F B h_check_name) (kbk d_Net_check_new_2 .nil);have h_check_ways:zt l.prog w K mg base:=p19.has p19.bd X G (II p19.F B h_check_both_ways h_check_way);have hK_masked_silentX_3:zD l.prog w K mg base:=p25.hasK X G (IJ p25.F B h_by_name hK_check_nodeX_2) (kbk d_masked_silentX_3 .nil);have hK_masked_babbleX_3:zI l.prog w K mg base:=p26.hasK X G (IK p26.F B h_names_free_of hK_check_nodeX_2 hT_Net_names_1 hT_Net_kind_2 hT_Net_ends_2) (kbk d_masked_babbleX_3 .nil);have h_law_way:zw l.prog w K mg base:=p33.has p33.bd X G (IL p33.F B h_law_draw h_law_pick h_law_hop);have h_law_asked:Ah l.prog w K mg base:=p40.has p40.bd X G (IM p40.F B h_masked_cut h_masked_silent h_masked_babble);have hT_Net_line_4_wire:Ac l.prog w K mg base:=p9.hasT q_Net (IN p9.F B h_check_ends h_check_number hT_Net_check_new_2 hT_Net_check_nodes_2 (mg_of X G g_MOST_LINES) (eR v_MOST_LINES) (mg_of X G g_MOST_WIRE) (eR v_MOST_WIRE)) (kbk d_Net_line_4_wire .nil);have hT_Net_put_node_3:qa l.prog w K mg base:=p13.hasT q_Net (IO p13.F B hT_Net_check_new_2 (mg_of X G g_MOST_NODES) (eR v_MOST_NODES)) (kbk d_Net_put_node_3 .nil);have hM_FrameD_initD_3_every_long_release_last:Ad l.prog w K mg base:=p18.hasM q_Frame X G (IP p18.F B h_check_name h_check_number h_check_ways (mg_of X G g_MOST_LONG) (eR v_MOST_LONG) (mg_of X G g_LAST) (eR v_LAST) (mg_of X G g_ROUNDS)) (kbk d_FrameD_initD_3_every_long_release_last .nil);have h_law_row:zS l.prog w K mg base:=p35.has p35.bd X G (IQ p35.F B h_law_draw h_law_need h_law_name h_law_way);have hK_law_askedX_4:Al l.prog w K mg base:=p40.hasK X G (IR p40.F B hK_masked_cutX_3 hK_masked_silentX_3 hK_masked_babbleX_3) (kbk d_law_askedX_4 .nil);have hT_Net_house_2:Aa l.prog w K mg base:=p7.hasT q_Net (IS p7.F B hT_Net_put_node_3) (kbk d_Net_house_2 .nil);have hT_Net_gate_2:Ab l.prog w K mg base:=p8.hasT q_Net (IT p8.F B hT_Net_put_node_3) (kbk d_Net_gate_2 .nil);have h_law_world:Ai l.prog w K mg base:=p36.has p36.bd X G (IU p36.F B h_law_draw h_law_name h_law_row);have h_law_net:Aj l.prog w K mg base:=p37.has p37.bd X G (IV p37.F B hM_NetD_initD_1 hT_Net_house_2 hT_Net_gate_2 hT_Net_line_4_wire);have h_law_frame:Ae l.prog w K mg base:=p38.has p38.bd X G (IW p38.F B hM_FrameD_initD_3_every_long_release_last);have h_law_frames:Ak l.prog w K mg base:=p39.has p39.bd X G (IX p39.F B h_law_frame);exact(IZ p43.F B h_law_start h_law_draw h_law_pick h_law_name h_law_due h_law_asked h_law_world h_law_net h_law_frames hK_law_askedX_4 (mg_of X G a_NoName)).imp λvs H Q E h=>Ef HZ (GA lT9 vs H Q E h)
theorem walk{l:PySem.W.OpenLaw}{q:Program}{loose:List Str}{XP:(Str->Option Value)->Heap->Prop}{YP:World->Heap->Prop}{d dL:DefRec}{K:Params->Frag}(hn:l.most=some 63)(hdf:d.params.defaults=[])
  (hY:∀(w:World) (h:Heap),YP w h->(K w.params).In h)(hf:List.find? (λe=>e.name==Str.ofString "by_name") (PyProof.Rows.recsOf q)=some dL)(hT:∀w:World,tabIn (K w.params) "by_name"=some (cL,PL))(hKP:∀w:World,(K w.params).lookup PL=none)
  (F:∀(w:World) (mg:Str->Option Value) (fa:Addr) (h:Heap),(K w.params).In h->h.Ns mainGlobals mg->mg d.name=some (.ref fa) ->
   ∃fd:FuncData,(∀(s:Shared) (u:Value),BindsTo s fd ⟨[u],[]⟩ [("_law_script",u)])/\∀base:Heap,(K w.params).In base->base.Ns mainGlobals mg->eF base mg cL PL->zU l.prog w (K w.params) mg base CX0 9 fa fd ["_law_script"] (kM (K w.params) PL)) :
  PySem.W.WalkO q loose XP YP l.row.toRowW d [] (λf vs=>PySem.call f vs) :=
 L2.Gy (n:=63) (k:=9) (x:="_law_script") (CX:=λ_=>CX0) (sp:=λw=>kM (K w.params) PL) hn (by decide) hdf ⟨λ_=>rfl,by decide,by decide,rfl⟩ hY hf hT hKP F (λ_ _ a ns hl hP hS=>⟨a,ns,rfl,hS,hl,hP,λ_=>rfl⟩) λ_ _ _ _ _ z=>z
end M
open PySem PySem.W PyProof.Rows L2
set_option maxRecDepth 100000 in
set_option maxHeartbeats 0 in
theorem PySem.Challenge.cw_slotwright_k66_masked_names_refused_holds : PySem.Challenge.rw_slotwright_k66_masked_names_refused.Holds := by
 refine H0.hd0 ?_;k_fill
 refine M.walk (l:=PySem.Challenge.rw_slotwright_k66_masked_names_refused) (cL:=377) (PL:=373) (dL:=?dL) rfl rfl (λw h Y=>PySem.W.km_in_of Y) ?hf ?hT ?hKP ?F
 case hf=>rfl
 case hT=>intro w;kernel_rfl
 case hKP=>intro w;kernel_rfl
 case F =>
  intro w mg fa h KX G hmg;refine' M.I0 KX G hmg ⟨?z0,⟨?z1,?z2,?z3,?z4⟩,?z5,?z6,(L2.e_ ?z7 (L2.e_ ?z8 (List.forall_mem_nil _)))⟩ ⟨?z9,⟨?z10,?z11,?z12,?z13⟩,?z14,?z15,(L2.e_ ?z16 (L2.e_ ?z17 (L2.e_ ?z18 (L2.e_ ?z19 (L2.e_ ?z20 (L2.e_ ?z21 (List.forall_mem_nil _)))))))⟩ ?z22 (L2.Gh (dN ?z22) (mg_of KX G ?z22) ?z23 ?z24 ?z25 ?z26 (mg_none_of KX G ?z27) ?z28 ?z29 ?z30 ?z31 ?z32 ?z33 ?z34 ?z35 ?z36 ?z37 ?z38 ?z39 ?z40 ?z41 ?z42 (L2.bZ.taker ?z43) ?z44 ?z45 ?z46 ?z47 ?z48 ?z49 ?z50 ?z51 ?z52 ?z53 ?z54 ?z55 ?z56 ?z57 ?z58) ?z59 ?z60 ⟨⟨?z61,zQ ?z62 ?z63 ?z64⟩,?z65⟩ ⟨⟨?z66,zQ ?z67 ?z68 ?z69⟩,?z70⟩ ⟨⟨?z71,zQ ?z72 ?z73 ?z74⟩,?z75⟩ ⟨⟨?z76,zQ ?z77 ?z78 ?z79⟩,?z80⟩ ⟨⟨?z81,zQ ?z82 ?z83 ?z84⟩,?z85⟩ ⟨⟨?z86,zQ ?z87 ?z88 ?z89⟩,?z90⟩ ⟨?z91,?z92,zQ ?z93 ?z94 ?z95⟩ ⟨?z96,?z97,zQ ?z98 ?z99 ?z100⟩ ⟨?z101,?z102,zQ ?z103 ?z104 ?z105⟩ ⟨?z106,?z107,zQ ?z108 ?z109 ?z110⟩ ⟨?z111,?z112,zQ ?z113 ?z114 ?z115⟩ ⟨?z116,?z117,zQ ?z118 ?z119 ?z120⟩ ⟨?z121,?z122,zQ ?z123 ?z124 ?z125⟩ ⟨?z126,?z127,zQ ?z128 ?z129 ?z130⟩ ⟨?z131,?z132,zQ ?z133 ?z134 ?z135⟩ ⟨?z136,?z137,zQ ?z138 ?z139 ?z140⟩ ⟨⟨?z141,zQ ?z142 ?z143 ?z144⟩,?z145⟩ ⟨⟨?z146,zQ ?z147 ?z148 ?z149⟩,?z150⟩ ⟨?z151,?z152,zQ ?z153 ?z154 ?z155⟩ ⟨⟨?z156,zQ ?z157 ?z158 ?z159⟩,?z160⟩ ⟨⟨?z161,zQ ?z162 ?z163 ?z164⟩,?z165⟩ ⟨⟨?z166,zQ ?z167 ?z168 ?z169⟩,?z170⟩ ⟨⟨?z171,zQ ?z172 ?z173 ?z174⟩,?z175⟩ ⟨⟨?z176,zQ ?z177 ?z178 ?z179⟩,?z180⟩ ⟨⟨?z181,zQ ?z182 ?z183 ?z184⟩,?z185⟩ ⟨⟨?z186,zQ ?z187 ?z188 ?z189⟩,?z190⟩ ⟨⟨?z191,zQ ?z192 ?z193 ?z194⟩,?z195⟩ ⟨⟨?z196,zQ ?z197 ?z198 ?z199⟩,?z200⟩ ⟨⟨?z201,zQ ?z202 ?z203 ?z204⟩,?z205⟩ ⟨⟨?z206,zQ ?z207 ?z208 ?z209⟩,?z210⟩ ⟨⟨?z211,zQ ?z212 ?z213 ?z214⟩,?z215⟩ ⟨⟨?z216,zQ ?z217 ?z218 ?z219⟩,?z220⟩ ⟨⟨?z221,zQ ?z222 ?z223 ?z224⟩,?z225⟩ ⟨⟨?z226,zQ ?z227 ?z228 ?z229⟩,?z230⟩ ⟨⟨?z231,zQ ?z232 ?z233 ?z234⟩,?z235⟩ ⟨⟨?z236,zQ ?z237 ?z238 ?z239⟩,?z240⟩ ⟨⟨?z241,zQ ?z242 ?z243 ?z244⟩,?z245⟩ ⟨⟨?z246,zQ ?z247 ?z248 ?z249⟩,?z250⟩ ⟨⟨?z251,zQ ?z252 ?z253 ?z254⟩,?z255⟩ ⟨⟨?z256,zQ ?z257 ?z258 ?z259⟩,?z260⟩ ⟨⟨?z261,zQ ?z262 ?z263 ?z264⟩,?z265⟩ ⟨⟨?z266,zQ ?z267 ?z268 ?z269⟩,?z270⟩ ⟨⟨?z271,zQ ?z272 ?z273 ?z274⟩,?z275⟩ ⟨⟨?z276,zQ ?z277 ?z278 ?z279⟩,?z280⟩ ?z281 ?z282 ?z283 ?z284 ?z285 ?z286 ?z287 ?z288 ?z289 ?z290 ?z291 ?z292 ?z293 ?z294 ?z295 ?z296 ?z297 ?z298 ?z299 ?z300 ?z301 ?z302 ?z303 ?z304 ?z305 ?z306 ?z307 ?z308 ?z309 ?z310 ?z311 ?z312 ?z313 ?z314 ?z315 ?z316 ?z317 ?z318 ?z319 ?z320 ?z321 ?z322 ?z323 ?z324 ?z325 ?z326 ?z327 ?z328 ?z329 ?z330 ?z331 ?z332 ?z333 ?z334 ?z335 ?z336 ?z337 ?z338 ?z339 ?z340 ?z341 ?z342 ?z343
  case z0|z1|z2|z3|z4|z5|z6|z7|z8|z9|z10|z11|z12|z13|z14|z15|z16|z17|z18|z19|z20|z21|z22|z23|z28=>k_is
  case z24=>kernel_rfl
  case z25=>rfl
  case z26|z27|z29|z30=>k_is
  case z31=>rfl
  case z32|z33=>first|rfl|decide+kernel
  case z34|z35=>k_is
  case z36=>rfl
  case z37=>first|rfl|decide+kernel
  case z38|z39|z40|z41=>k_is
  case z42=>first|k_is|kernel_rfl
  case z43=>show _=_;k_is
  case z44=>k_is
  case z45=>exact λs u v=> .of_eq rfl
  case z46|z47|z48|z49|z50|z51=>rfl
  case z52=>decide+kernel
  case z53=>rfl
  case z54=>decide+kernel
  case z55|z56|z57|z58=>rfl
  case z59|z60=>kernel_rfl
  case z61|z62|z63|z64=>k_is
  case z65=>rfl
  case z66|z67|z68|z69=>k_is
  case z70=>rfl
  case z71|z72|z73|z74=>k_is
  case z75=>rfl
  case z76|z77|z78|z79=>k_is
  case z80=>rfl
  case z81|z82|z83|z84=>k_is
  case z85=>rfl
  case z86|z87|z88|z89=>k_is
  case z90=>rfl
  case z91|z92|z93|z94|z95|z96|z97|z98|z99|z100|z101|z102|z103|z104|z105|z106|z107|z108|z109|z110|z111|z112|z113|z114|z115|z116|z117|z118|z119|z120|z121|z122|z123|z124|z125|z126|z127|z128|z129|z130|z131|z132|z133|z134|z135|z136|z137|z138|z139|z140|z141|z142|z143|z144=>k_is
  case z145=>rfl
  case z146|z147|z148|z149=>k_is
  case z150=>rfl
  case z151|z152|z153|z154|z155|z156|z157|z158|z159=>k_is
  case z160=>rfl
  case z161|z162|z163|z164=>k_is
  case z165=>rfl
  case z166|z167|z168|z169=>k_is
  case z170=>rfl
  case z171|z172|z173|z174=>k_is
  case z175=>rfl
  case z176|z177|z178|z179=>k_is
  case z180=>rfl
  case z181|z182|z183|z184=>k_is
  case z185=>rfl
  case z186|z187|z188|z189=>k_is
  case z190=>rfl
  case z191|z192|z193|z194=>k_is
  case z195=>rfl
  case z196|z197|z198|z199=>k_is
  case z200=>rfl
  case z201|z202|z203|z204=>k_is
  case z205=>rfl
  case z206|z207|z208|z209=>k_is
  case z210=>rfl
  case z211|z212|z213|z214=>k_is
  case z215=>rfl
  case z216|z217|z218|z219=>k_is
  case z220=>rfl
  case z221|z222|z223|z224=>k_is
  case z225=>rfl
  case z226|z227|z228|z229=>k_is
  case z230=>rfl
  case z231|z232|z233|z234=>k_is
  case z235=>rfl
  case z236|z237|z238|z239=>k_is
  case z240=>rfl
  case z241|z242|z243|z244=>k_is
  case z245=>rfl
  case z246|z247|z248|z249=>k_is
  case z250=>rfl
  case z251|z252|z253|z254=>k_is
  case z255=>rfl
  case z256|z257|z258|z259=>k_is
  case z260=>rfl
  case z261|z262|z263|z264=>k_is
  case z265=>rfl
  case z266|z267|z268|z269=>k_is
  case z270=>rfl
  case z271|z272|z273|z274=>k_is
  case z275=>rfl
  case z276|z277|z278|z279=>k_is
  case z280=>rfl
  case z281|z282|z283|z284|z285|z286|z287|z288|z289|z290|z291|z292|z293|z294|z295|z296|z297|z298|z299|z300|z301|z302=>k_is
  case z303=>rfl
  case z304=>k_is
  case z305=>rfl
  case z306=>k_is
  case z307=>rfl
  case z308=>k_is
  case z309=>rfl
  case z310=>k_is
  case z311=>rfl
  case z312=>k_is
  case z313=>rfl
  case z314=>k_is
  case z315=>rfl
  case z316=>k_is
  case z317=>rfl
  case z318|z319=>k_is
  case z320=>rfl
  case z321|z322=>k_is
  case z323=>rfl
  case z324=>exact λS=>al4 λ_ _ _ _=>al0 <| by with_unfolding_all rfl
  case z325|z326|z327=>exact λS=>al3 λ_ _ _=>al0 <| by with_unfolding_all rfl
  case z328=>exact λS=>al2 λ_ _=>al0 <| by with_unfolding_all rfl
  case z329=>exact λS=>al1 λ_=>al0 <| by with_unfolding_all rfl
  case z330|z331|z332|z333=>exact λS=>al2 λ_ _=>al0 <| by with_unfolding_all rfl
  case z334=>exact λS=>al3 λ_ _ _=>al4 λ_ _ _ _=>by with_unfolding_all rfl
  case z335=>exact λS=>al1 λ_=>al0 <| by with_unfolding_all rfl
  case z336|z337=>exact λS=>al2 λ_ _=>al0 <| by with_unfolding_all rfl
  case z338=>exact λS=>al4 λ_ _ _ _=>al1 λ_=>by with_unfolding_all rfl
  case z339|z340=>exact λS=>al2 λ_ _=>al0 <| by with_unfolding_all rfl
  case z341=>exact λS=>al3 λ_ _ _=>al0 <| by with_unfolding_all rfl
  case z342=>kernel_rfl
  case z343=>rfl
