import PyProof.Rows.All
import Wide.All
import OpenK.AllK
import Wide.FinOn
import Lean
import PyProof.EqAt
import PyProof.EqKinds
import PyProof.TupleCall
import PyProof.P3In
import PyProof.DictCompW
import PyProof.Rows.ReprR
import PyProof.ReprLen
import PySem.Challenge.RW_slotwright_k28_table_of_starts
set_option Elab.async false
open PySem.W (Frag nsIn mg_none_of findIn kia_one emptyDict mg_of instObj keepIn kitOne fnOf kla_obj tabObj tabIn isFn KasT lookIn plainGet kas_ask CodeHd methodObj hasDictIn plainGet_of takerIn makesIn codeIn kas_rev kas_sort kat_nil kla_fn)
namespace H0
open PySem PySem.W PyProof.Rows
def topT(tb:String→Option Builtin)(p:Program)(w:World)(n0:Nat)(ann:Option Value):Nat→SharedT→Thread→Option SharedT
 | 0,_,_=>none
 | n+1,s,t=>match through t with
  | true=>some s
  | false=>match stepOk n0 ann t with
   | false=>none
   | true=>match stepT (denote tb) p w s t with
    | some (s',t')=>topT tb p w n0 ann n s' t'
    | none=>none
theorem topT_run{tb:String→Option Builtin}{p:Program}{w:World}{n0:Nat}{ann:Option Value}:∀{n:Nat} {s s':SharedT} {t:Thread},topT tb p w n0 ann n s t=some s'→topRun tb p w n0 ann n s.abs t=some s'.abs:=by
 intro n;induction n with
 | zero=>intro s s' t h;cases h
 | succ n ih =>
  intro s s' t h;unfold topT at h;unfold topRun;cases ht:through t with
  | true=>rw[ht] at h;cases h;rfl
  | false =>
   rw[ht] at h;cases hk:stepOk n0 ann t with
   | false=>rw[hk] at h;cases h
   | true =>
    rw[hk] at h;cases hs:stepT (denote tb) p w s t with
    | none=>rw[hs] at h;cases h
    | some r=>obtain⟨s2,t2⟩:=r;rw[hs] at h;dsimp only;rw[stepT_spec hs];exact ih h
def treeOf:List Obj→BT→Nat→BT
 | [],t,_=>t
 | o::r,t,n=>treeOf r (t.ins n o) (n+1)
def looksAt(p:Program)(h0:Heap)(s:Shared):Bool:=staticsOk (importedModules p.main.body) h0 s.heap&&namesBound p s.heap&&gensDone s&&laidKept h0 s.heap
noncomputable def st0(m0:Nat)(w:World)(os:OsState):SharedT:=⟨treeOf (boot_heap w.params).objs.toList .nil 0,m0,(boot_heap w.params).life,Array.mk [],boot_drawn,boot_toks,os⟩
theorem left_tree{p q:Program}{loose:List Str}{Xt:Shared→Bool}{α:Type}{Yf:Shared→α}{Ya:World→α}{N:Nat}{g0:Bool}{m0:Nat}{ann:Option Value}
  (open_:∀w:World,(fencedOpening treeTable p w N).map (fun s=>(s.heap,s.gens,s.drawn,s.toks))=some (boot_heap w.params,Array.mk [],boot_drawn,boot_toks))
  (tree:∀w:World,absHeap (treeOf (boot_heap w.params).objs.toList .nil 0) m0 (boot_heap w.params).life=boot_heap w.params)
  (size:∀w:World,((boot_heap w.params).isNs mainGlobals,(boot_heap w.params).objs.size,(boot_heap w.params).nsMap mainGlobals "__annotations__")=(true,m0,ann))
  (runA:∀(w:World) (os:OsState),(topT treeTable p w m0 ann N (st0 m0 w os) (topStub p)).map (fun s=>(looksAt p (boot_heap w.params) s.abs,(openSeen q loose (importedModules p.main.body) Xt g0 s.abs).1,(openSeen q loose (importedModules p.main.body) Xt g0 s.abs).2.1,(openSeen q loose (importedModules p.main.body) Xt g0 s.abs).2.2.1))=some (true,(openGood q loose).1,(openGood q loose).2.1,(openGood q loose).2.2.1))
  (runB:∀(w:World) (os:OsState),(topT treeTable p w m0 ann N (st0 m0 w os) (topStub p)).map (fun s=>(openSeen q loose (importedModules p.main.body) Xt g0 s.abs).2.2.2)=some (openGood q loose).2.2.2)
  (runC:∀(w:World) (os:OsState),(topT treeTable p w m0 ann N (st0 m0 w os) (topStub p)).map (fun s=>Yf s.abs)=some (Ya w)) :
  LeftO p q loose Xt Yf Ya N g0:=fun w=>by
 obtain⟨⟨h,gs,d,k,os⟩,e,e'⟩:=Option.map_eq_some_iff.mp (open_ w);obtain⟨rfl,rfl,rfl,rfl⟩:h=boot_heap w.params∧gs=Array.mk []∧d=boot_drawn∧k=boot_toks:=by simpa using e'
 obtain⟨z1,z2,z3⟩:_∧_∧_:=by simpa only[Prod.mk.injEq] using size w
 obtain⟨s,r,la⟩:=Option.map_eq_some_iff.mp (runA w os);obtain⟨s1,r1,lb⟩:=Option.map_eq_some_iff.mp (runB w os);obtain⟨s2,r2,lc⟩:=Option.map_eq_some_iff.mp (runC w os);have q1:s=s1:=Option.some.inj (r.symm.trans r1);have q2:s=s2:=Option.some.inj (r.symm.trans r2);subst q1 q2;obtain⟨l1,a1,a2,a3⟩:_∧_∧_∧_:=by simpa only[Prod.mk.injEq] using la
 unfold looksAt at l1;have l2:openSeen q loose (importedModules p.main.body) Xt g0 s.abs=openGood q loose:=Prod.ext a1 (Prod.ext a2 (Prod.ext a3 lb));have l3:Yf s.abs=Ya w:=lc;have r2:=topT_run r;have r3:topRun treeTable p w m0 ann N ⟨boot_heap w.params,Array.mk [],boot_drawn,boot_toks,os⟩ (topStub p)=some s.abs:=by
  rw[← r2];show _=topRun treeTable p w m0 ann N ⟨absHeap (treeOf (boot_heap w.params).objs.toList .nil 0) m0 (boot_heap w.params).life,Array.mk [],boot_drawn,boot_toks,os⟩ (topStub p);rw[tree w]
 have z4:((boot_heap w.params).isNs mainGlobals&&(Array.mk []:Array GenState).size==0)=true:=by rw[z1];rfl
 have t:topFrom treeTable p w N ⟨boot_heap w.params,Array.mk [],boot_drawn,boot_toks,os⟩=some s.abs:=by
  unfold topFrom;dsimp only;rw[z4,z2,z3,r3];show(match staticsOk (importedModules p.main.body) (boot_heap w.params) s.abs.heap&&namesBound p s.abs.heap&&gensDone s.abs&&laidKept (boot_heap w.params) s.abs.heap with | true=>_ | false=>_)=_;rw[l1]
 unfold openEnds;rw[e];show(topFrom treeTable p w N _).map _=_;rw[t];exact congrArg some (Prod.ext l2 l3)
def bootSize:Nat:=11
def bootAnn:Option Value:=some (.ref 6)
theorem boot_tree:∀w:World,absHeap (treeOf (boot_heap w.params).objs.toList .nil 0) bootSize (boot_heap w.params).life=boot_heap w.params:=fun w=>by kernel_rfl
theorem boot_size:∀w:World,((boot_heap w.params).isNs mainGlobals,(boot_heap w.params).objs.size,(boot_heap w.params).nsMap mainGlobals "__annotations__")=(true,bootSize,bootAnn):=fun w=>by kernel_rfl
def view0:Program:={ PySem.Challenge.pw_slotwright_k28_table_of_starts with main:={ PySem.Challenge.pw_slotwright_k28_table_of_starts.main with body:=[PySem.Challenge.pw_slotwright_k28_table_of_starts.main.body.getD 1 (.Pass ⟨0,0,0,0⟩),PySem.Challenge.pw_slotwright_k28_table_of_starts.main.body.getD 2 (.Pass ⟨0,0,0,0⟩),PySem.Challenge.pw_slotwright_k28_table_of_starts.main.body.getD 3 (.Pass ⟨0,0,0,0⟩),PySem.Challenge.pw_slotwright_k28_table_of_starts.main.body.getD 4 (.Pass ⟨0,0,0,0⟩),PySem.Challenge.pw_slotwright_k28_table_of_starts.main.body.getD 5 (.Pass ⟨0,0,0,0⟩),PySem.Challenge.pw_slotwright_k28_table_of_starts.main.body.getD 7 (.Pass ⟨0,0,0,0⟩),PySem.Challenge.pw_slotwright_k28_table_of_starts.main.body.getD 8 (.Pass ⟨0,0,0,0⟩),PySem.Challenge.pw_slotwright_k28_table_of_starts.main.body.getD 9 (.Pass ⟨0,0,0,0⟩),PySem.Challenge.pw_slotwright_k28_table_of_starts.main.body.getD 10 (.Pass ⟨0,0,0,0⟩),PySem.Challenge.pw_slotwright_k28_table_of_starts.main.body.getD 11 (.Pass ⟨0,0,0,0⟩),PySem.Challenge.pw_slotwright_k28_table_of_starts.main.body.getD 12 (.Pass ⟨0,0,0,0⟩),PySem.Challenge.pw_slotwright_k28_table_of_starts.main.body.getD 13 (.Pass ⟨0,0,0,0⟩),PySem.Challenge.pw_slotwright_k28_table_of_starts.main.body.getD 14 (.Pass ⟨0,0,0,0⟩),PySem.Challenge.pw_slotwright_k28_table_of_starts.main.body.getD 15 (.Pass ⟨0,0,0,0⟩),PySem.Challenge.pw_slotwright_k28_table_of_starts.main.body.getD 16 (.Pass ⟨0,0,0,0⟩),PySem.Challenge.pw_slotwright_k28_table_of_starts.main.body.getD 18 (.Pass ⟨0,0,0,0⟩),PySem.Challenge.pw_slotwright_k28_table_of_starts.main.body.getD 19 (.Pass ⟨0,0,0,0⟩),PySem.Challenge.pw_slotwright_k28_table_of_starts.main.body.getD 20 (.Pass ⟨0,0,0,0⟩),PySem.Challenge.pw_slotwright_k28_table_of_starts.main.body.getD 21 (.Pass ⟨0,0,0,0⟩),PySem.Challenge.pw_slotwright_k28_table_of_starts.main.body.getD 22 (.Pass ⟨0,0,0,0⟩),PySem.Challenge.pw_slotwright_k28_table_of_starts.main.body.getD 23 (.Pass ⟨0,0,0,0⟩),PySem.Challenge.pw_slotwright_k28_table_of_starts.main.body.getD 24 (.Pass ⟨0,0,0,0⟩),PySem.Challenge.pw_slotwright_k28_table_of_starts.main.body.getD 25 (.Pass ⟨0,0,0,0⟩),PySem.Challenge.pw_slotwright_k28_table_of_starts.main.body.getD 27 (.Pass ⟨0,0,0,0⟩),PySem.Challenge.pw_slotwright_k28_table_of_starts.main.body.getD 28 (.Pass ⟨0,0,0,0⟩),PySem.Challenge.pw_slotwright_k28_table_of_starts.main.body.getD 29 (.Pass ⟨0,0,0,0⟩),PySem.Challenge.pw_slotwright_k28_table_of_starts.main.body.getD 30 (.Pass ⟨0,0,0,0⟩),PySem.Challenge.pw_slotwright_k28_table_of_starts.main.body.getD 32 (.Pass ⟨0,0,0,0⟩),PySem.Challenge.pw_slotwright_k28_table_of_starts.main.body.getD 33 (.Pass ⟨0,0,0,0⟩),PySem.Challenge.pw_slotwright_k28_table_of_starts.main.body.getD 35 (.Pass ⟨0,0,0,0⟩),PySem.Challenge.pw_slotwright_k28_table_of_starts.main.body.getD 36 (.Pass ⟨0,0,0,0⟩),PySem.Challenge.pw_slotwright_k28_table_of_starts.main.body.getD 37 (.Pass ⟨0,0,0,0⟩),PySem.Challenge.pw_slotwright_k28_table_of_starts.main.body.getD 38 (.Pass ⟨0,0,0,0⟩),PySem.Challenge.pw_slotwright_k28_table_of_starts.main.body.getD 39 (.Pass ⟨0,0,0,0⟩),PySem.Challenge.pw_slotwright_k28_table_of_starts.main.body.getD 40 (.Pass ⟨0,0,0,0⟩),PySem.Challenge.pw_slotwright_k28_table_of_starts.main.body.getD 41 (.Pass ⟨0,0,0,0⟩),PySem.Challenge.pw_slotwright_k28_table_of_starts.main.body.getD 42 (.Pass ⟨0,0,0,0⟩),PySem.Challenge.pw_slotwright_k28_table_of_starts.main.body.getD 43 (.Pass ⟨0,0,0,0⟩),PySem.Challenge.pw_slotwright_k28_table_of_starts.main.body.getD 44 (.Pass ⟨0,0,0,0⟩),PySem.Challenge.pw_slotwright_k28_table_of_starts.main.body.getD 45 (.Pass ⟨0,0,0,0⟩),PySem.Challenge.pw_slotwright_k28_table_of_starts.main.body.getD 46 (.Pass ⟨0,0,0,0⟩),PySem.Challenge.pw_slotwright_k28_table_of_starts.main.body.getD 47 (.Pass ⟨0,0,0,0⟩),PySem.Challenge.pw_slotwright_k28_table_of_starts.main.body.getD 48 (.Pass ⟨0,0,0,0⟩)] } }
set_option maxRecDepth 100000
set_option maxHeartbeats 0
theorem runA(w:World)(os:OsState):(topT treeTable PySem.Challenge.pw_slotwright_k28_table_of_starts w bootSize bootAnn 5624 (st0 bootSize w os) (topStub PySem.Challenge.pw_slotwright_k28_table_of_starts)).map (fun s=>(looksAt PySem.Challenge.pw_slotwright_k28_table_of_starts (boot_heap w.params) s.abs,(openSeen view0 [Str.ofString "Frame",Str.ofString "Table"] (importedModules PySem.Challenge.pw_slotwright_k28_table_of_starts.main.body) (fun s=>xlAt view0 [] s&&recOk (RowW.records (PySem.Challenge.rw_slotwright_k28_table_of_starts.row.toRowW)) s) true s.abs).1,(openSeen view0 [Str.ofString "Frame",Str.ofString "Table"] (importedModules PySem.Challenge.pw_slotwright_k28_table_of_starts.main.body) (fun s=>xlAt view0 [] s&&recOk (RowW.records (PySem.Challenge.rw_slotwright_k28_table_of_starts.row.toRowW)) s) true s.abs).2.1,(openSeen view0 [Str.ofString "Frame",Str.ofString "Table"] (importedModules PySem.Challenge.pw_slotwright_k28_table_of_starts.main.body) (fun s=>xlAt view0 [] s&&recOk (RowW.records (PySem.Challenge.rw_slotwright_k28_table_of_starts.row.toRowW)) s) true s.abs).2.2.1))=some (true,(openGood view0 [Str.ofString "Frame",Str.ofString "Table"]).1,(openGood view0 [Str.ofString "Frame",Str.ofString "Table"]).2.1,(openGood view0 [Str.ofString "Frame",Str.ofString "Table"]).2.2.1):=by rewrite [PySem.W.Fast.te14364793385576792824];kernel_rfl
theorem runB(w:World)(os:OsState):(topT treeTable PySem.Challenge.pw_slotwright_k28_table_of_starts w bootSize bootAnn 5624 (st0 bootSize w os) (topStub PySem.Challenge.pw_slotwright_k28_table_of_starts)).map (fun s=>(openSeen view0 [Str.ofString "Frame",Str.ofString "Table"] (importedModules PySem.Challenge.pw_slotwright_k28_table_of_starts.main.body) (fun s=>xlAt view0 [] s&&recOk (RowW.records (PySem.Challenge.rw_slotwright_k28_table_of_starts.row.toRowW)) s) true s.abs).2.2.2)=some (openGood view0 [Str.ofString "Frame",Str.ofString "Table"]).2.2.2:=by rewrite [PySem.W.Fast.te14364793385576792824];kernel_rfl
local macro_rules | `(tactic| o_head $H)=> `(tactic| (refine holds_open (q:=view0) (loose:=[Str.ofString "Frame",Str.ofString "Table"]) (Xt:=fun s=>xlAt view0 [] s&&recOk (RowW.records (PySem.Challenge.rw_slotwright_k28_table_of_starts.row.toRowW)) s) (XP:=XL view0 []) (Yf:=Hook.obs $H) (Ya:=Hook.val $H) (YP:=Hook.says $H) (N:=5624) ?hl (Hook.of $H) (Hook.keeps $H) (fun s e=>xl_of s (Bool.and_eq_true_iff.mp e).1) XL.keeps (by rfl) (by rfl) (by rfl) (fun s e=>recFacts_of (Bool.and_eq_true_iff.mp e).2) (by rfl) (by first | assumption | decide+kernel) (by decide+kernel) ⟨rfl,rfl,rfl,rfl,rfl,by decide+kernel⟩ ?hw ?hc;(case hl=>exact left_tree (m0:=bootSize) (ann:=bootAnn) (boot_open (by kernel_rfl) (by decide+kernel) (fun s=>by kernel_rfl)) boot_tree boot_size runA runB (fun w os=>by rewrite [PySem.W.Fast.te14364793385576792824];kernel_rfl))))
set_option maxRecDepth 100000
set_option maxHeartbeats 0
open_top hd0 for PySem.Challenge.rw_slotwright_k28_table_of_starts
end H0
set_option linter.all false
set_option maxRecDepth 100000
namespace L2
open PySem PySem.Spec PyProof.Rows
abbrev Key:=Sum Int Str
def zhz:Key->Value->Bool
 | .inl k,v=>Value.isInt k v
 | .inr x,v=>Value.isStrOf x v
def zy8(w:World):Key->Int
 | .inl k=>hashInt k
 | .inr x=>hashStr w x
theorem zal:∀{k:Key} {v:Value},zhz k v=true->(∃i t,k=Sum.inl i/\v=Value.int i t)\/(∃x t,k=Sum.inr x/\v=Value.str x t)
 | .inl i,v,h=>by
  obtain⟨t,e⟩:=Value.isInt_shape (k:=i) (v:=v) h;exact .inl ⟨i,t,rfl,e⟩
 | .inr x,v,h=>by
  obtain⟨t,e⟩:=Value.isStrOf_shape (x:=x) (v:=v) h;exact .inr ⟨x,t,rfl,e⟩
theorem zou(i:Int)(t:Tok):zhz (.inl i) (.int i t)=true:=by simp[zhz,Value.isInt]
theorem zo2(x:Str)(t:Tok):zhz (.inr x) (.str x t)=true:=by simp[zhz,Value.isStrOf]
theorem zv4(a b:Int):decide ((Sum.inl a:Key)=Sum.inl b)=(a==b):=by
 by_cases e:a=b
 .subst e;simp
 .have h:¬ (Sum.inl a:Key)=Sum.inl b:=fun q=>e (Sum.inl.inj q)
  rw[decide_eq_false h];exact(beq_eq_false_iff_ne.mpr e).symm
theorem zw0(a b:Str):decide ((Sum.inr a:Key)=Sum.inr b)=decide (a=b):=by
 by_cases e:a=b
 .subst e;simp
 .have h:¬ (Sum.inr a:Key)=Sum.inr b:=fun q=>e (Sum.inr.inj q)
  rw[decide_eq_false h,decide_eq_false e]
theorem zxn(a:Int)(b:Str):decide ((Sum.inl a:Key)=Sum.inr b)=false:=decide_eq_false (fun q=>nomatch q)
theorem zv8(a:Str)(b:Int):decide ((Sum.inr a:Key)=Sum.inl b)=false:=decide_eq_false (fun q=>nomatch q)
def zaw(prog:Program)(w:World):PySem.KeyKind prog w Key where
 is:=zhz
 hash:=zy8 w
 inj:=fun v a b ha hb=>by
  rcases zal ha with⟨i,t,rfl,rfl⟩ | ⟨x,t,rfl,rfl⟩
  .rcases zal hb with⟨j,u,rfl,e⟩ | ⟨y,u,rfl,e⟩
   .injection e with e1 _;rw[e1]
   .exact nomatch e
  .rcases zal hb with⟨j,u,rfl,e⟩ | ⟨y,u,rfl,e⟩
   .exact nomatch e
   .injection e with e1 _;rw[e1]
 byValue:=fun k v h=>by
  rcases zal h with⟨i,t,rfl,rfl⟩ | ⟨x,t,rfl,rfl⟩<;>rfl
 pyHash:=fun hv h=>by
  rcases zal hv with⟨i,t,rfl,rfl⟩ | ⟨x,t,rfl,rfl⟩
  .exact wpAny_pyHash_int h
  .exact wpAny_pyHash_str h
 eqBool:=fun hu hv h=>by
  rcases zal hu with⟨i,t,rfl,rfl⟩ | ⟨x,t,rfl,rfl⟩
  .rcases zal hv with⟨j,u,rfl,rfl⟩ | ⟨y,u,rfl,rfl⟩
   .rw[zv4] at h;exact wpAny_eqBool_int h
   .rw[zxn] at h;exact SeqAt.EqAt.int_str i t y u _ _ _ _ h
  .rcases zal hv with⟨j,u,rfl,rfl⟩ | ⟨y,u,rfl,rfl⟩
   .rw[zv8] at h;exact SeqAt.EqAt.str_int x t j u _ _ _ _ h
   .rw[zw0] at h;exact wpAny_eqBool_str h
 «strs»:= fun k x t v h=>by
  rcases zal h with⟨i,u,rfl,e⟩ | ⟨y,u,rfl,e⟩
  .exact nomatch e
  .injection e with e1 _;subst e1;cases v<;>rfl
theorem zlf(prog:Program)(w:World)(i:Int)(t:Tok):(zaw prog w).is (.inl i) (.int i t)=true:=zou i t
theorem zlL(prog:Program)(w:World)(x:Str)(t:Tok):(zaw prog w).is (.inr x) (.str x t)=true:=zo2 x t
inductive V where
 | non | bl (b:Bool) | int (i:Int) | str (x:Str) | byt (b:Array UInt8) | flt (b:UInt64) | ref (a:Addr) | ty (n:String)
 deriving DecidableEq
def RelV:V->Value->Prop
 | .non,u=>u=Value.none
 | .bl b,u=>u=Value.bool b
 | .int i,u=>∃t,u=Value.int i t
 | .str x,u=>∃t,u=Value.str x t
 | .byt b,u=>∃t,u=Value.bytes b t
 | .flt b,u=>∃t,u=Value.float b t
 | .ref a,u=>u=Value.ref a
 | .ty n,u=>u=Value.type n
abbrev Vals:List V->List Value->Prop:=Paired RelV
theorem Vals.length{xs:List V}{us:List Value}(r:Vals xs us):xs.length=us.length:=Paired.length r
theorem Vals.get:∀{xs:List V} {us:List Value} {i:Nat} {x:V},Vals xs us->xs[i]? = some x->∃u,us[i]? = some u/\RelV x u
 | _,_,_,_, .nil,e=>by simp at e
 | _,_,0,_, .cons r _,e=>by simp at e;subst e;exact⟨_,rfl,r⟩
 | _,_,i+1,x, .cons _ t,e=>by
  obtain⟨u,h1,h2⟩:=Vals.get (i:=i) (x:=x) t (by simpa using e);exact⟨u,by simpa using h1,h2⟩
theorem Vals.set{x:V}{u:Value}(r:RelV x u):∀{xs:List V} {us:List Value} (i:Nat),Vals xs us->Vals (xs.set i x) (us.set i u)
 | _,_,_, .nil=> .nil
 | _,_,0, .cons _ t=> .cons r t
 | _,_,i+1, .cons q t=> .cons q (Vals.set r i t)
theorem Vals.append:∀{xs ys:List V} {us ws:List Value},Vals xs us->Vals ys ws->Vals (xs++ys) (us++ws)
 | _,_,_,_, .nil,s=>s
 | _,_,_,_, .cons r t,s=> .cons r (Vals.append t s)
theorem Vals.take:∀{xs:List V} {us:List Value} (n:Nat),Vals xs us->Vals (xs.take n) (us.take n)
 | _,_,0,_=> .nil
 | _,_,_+1, .nil=> .nil
 | _,_,n+1, .cons r t=> .cons r (Vals.take n t)
theorem Vals.drop:∀{xs:List V} {us:List Value} (n:Nat),Vals xs us->Vals (xs.drop n) (us.drop n)
 | _,_,0,r=>r
 | _,_,_+1, .nil=> .nil
 | _,_,n+1, .cons _ t=>Vals.drop n t
def zc2:Option V->Option Value->Prop
 | some v,some u=>RelV v u
 | none,none=>True
 | _,_=>False
def KV{κ:Type}:List (κ×V)->List (κ×Value)->Prop:=Paired fun(p:κ×V) (q:κ×Value)=>p.1=q.1/\RelV p.2 q.2
def kV:Key->V
 | .inl i=> .int i
 | .inr x=> .str x
inductive HO where
 | lst (xs:List V)
 | tup (xs:List V)
 | dK (kvs:List (Key×V)) | dT (kvs:List (List Key×V))
 | set (S:Int->Bool) (n:Nat)
 | ins (C dx:Addr) (fs:List (Str×V))
 | own (x:Addr)
 | xd (fs:List (Str×V))
 | met (f x:Addr)
 | rng (lo hi:Int)
 | frz (o:Obj) (u:HO)
 | tbl (ps:Array Value)
 | ext (φ:Heap->Prop)
abbrev Hp:=Addr->Option HO
def upd(H:Hp)(a:Addr)(o:HO):Hp:=fun b=>if b=a then some o else H b
theorem zq{H:Hp}{a:Addr}{o:HO}:upd H a o a=some o:=by unfold upd;rw[if_pos rfl]
theorem zm{H:Hp}{a b:Addr}{o:HO}(h:b≠a):upd H a o b=H b:=by unfold upd;rw[if_neg h]
theorem zyS{H:Hp}{a b:Addr}{o u:HO}(h:H a=some o)(h':H b=some u)(d:o≠u):a≠b:=by
 intro e;subst e;rw[h] at h';exact d (Option.some.inj h')
theorem zM{H:Hp}{a b:Addr}{o:HO}(h:H a=some o)(h':H b=none):a≠b:=by
 intro e;subst e;rw[h] at h';cases h'
section
variable(P:Program)(w:World)
def zai(H:Hp)(h:Heap)(a:Addr):HO->Prop
 | .lst xs=>xs.length<=sizeLine/\∃(its:List Value) (n:Nat),Vals xs its/\h.get? a=some { cls:= .type "list",data:= .seq its.toArray n }
 | .tup xs=>xs.length<=sizeLine/\∃its:List Value,Vals xs its/\IsTup h a its.toArray
 | .dK kvs=>kvs.length<=sizeLine/\(a==sysModules)=false/\∃vs,KV kvs vs/\h.DictOf (zaw P w) a vs
 | .dT kvs=>kvs.length<=sizeLine/\(a==sysModules)=false/\∃xs:List (List Key×Addr×Value),
   Paired (fun(p:List Key×V) (q:List Key×Addr×Value)=>p.1=q.1/\H q.2.1=some (.tup (p.1.map kV))/\RelV p.2 q.2.2) kvs xs /\
   ∃o es ep,h.get? a=some o/\o.ExactDict/\o.data= .dict es ep/\es.toList=xs.map (entryOfKey (tupleKind (zaw P w)))/\(xs.map (·.1)).Nodup
 | .set S n=>h.SetOf (intKind P w) a S n
 | .ins C dx fs=>H dx=some (.own a)/\fs.length<=1000/\dx≠a/\h.get? a=some (instObj C dx) /\
   ∃mA,h.Ns1 dx mA/\(∀f,zc2 (fs.lookup f) (mA f))/\PySem.Within mA (fs.map (·.1))
 | .own _=>∃o,h.get? a=some o
 | .xd fs=>∃mA,h.Ns1 a mA/\∀f,zc2 (fs.lookup f) (mA f)
 | .rng lo hi=>∃t u v,h.get? a=some { cls:= .type "range",data:= .fields #[.int lo t, .int hi u, .int 1 v] }
 | .frz o u=>h.get? a=some o/\zai H h a u
 | .tbl ps=>h.get? a=some { cls:= .none,data:= .fields ps }
 | .met f x=>h.get? a=some (methodObj (.ref f) (.ref x))
 | .ext φ=>φ h/\(∃o,h.get? a=some o)/\∀h1 h2:Heap,φ h1->(∀o,h1.get? a=some o->h2.get? a=some o)->φ h2
def HOk(H:Hp)(h:Heap):Prop:=∀a o,H a=some o->zai P w H h a o
end
section
variable{P:Program}{w:World}{H H':Hp}{h h':Heap}{a:Addr}{o:HO}
theorem zai.lt(x:zai P w H h a o):a < h.objs.size:=by
 cases o with
 | lst xs=>obtain⟨_,_,_,_,e⟩:=x;exact Heap.lt_size e
 | tup xs=>obtain⟨_,_,_,p⟩:=x;exact p.lt
 | dK kvs=>obtain⟨_,_,_,_,o,_,_,e,_⟩:=x;exact Heap.lt_size e
 | dT kvs=>obtain⟨_,_,_,_,o,_,_,e,_⟩:=x;exact Heap.lt_size e
 | set S n=>obtain⟨o,_,_,_,e,_⟩:=x;exact Heap.lt_size e
 | ins C dx fs=>obtain⟨_,_,_,e,_⟩:=x;exact Heap.lt_size e
 | own y=>obtain⟨_,e⟩:=x;exact Heap.lt_size e
 | xd fs=>obtain⟨_,⟨_,_,_,e,_⟩,_⟩:=x;exact Heap.lt_size e
 | rng lo hi=>obtain⟨_,_,_,e⟩:=x;exact Heap.lt_size e
 | frz ob u=>obtain⟨e,_⟩:=x;exact Heap.lt_size e
 | tbl ps=>exact Heap.lt_size (show h.get? a=some _ from x)
 | met f y=>exact Heap.lt_size (show h.get? a=some _ from x)
 | ext φ=>obtain⟨_,⟨_,e⟩,_⟩:=x;exact Heap.lt_size e
theorem Paired.mapP{α β:Type}{F G:α->β->Prop}:∀{l₁:List α} {l₂:List β},Paired F l₁ l₂->(∀a b,F a b->G a b)->Paired G l₁ l₂
 | _,_, .nil,_=> .nil
 | _,_, .cons r t,f=> .cons (f _ _ r) (Paired.mapP t f)
theorem zai.stay(x:zai P w H h a o)(k:∀b u,(b=a\/H b=some (.own a))->h.get? b=some u->h'.get? b=some u)
  (ho:∀b,H b=some (.own a)->H' b=some (.own a))(ht:∀b xs,H b=some (.tup xs)->H' b=some (.tup xs)):zai P w H' h' a o:=by
 induction o with
 | lst xs=>obtain⟨z,its,n,r,e⟩:=x;exact⟨z,its,n,r,k _ _ (.inl rfl) e⟩
 | tup xs=>obtain⟨z,its,r,ob,e,c⟩:=x;exact⟨z,its,r,ob,k _ _ (.inl rfl) e,c⟩
 | dK kvs=>obtain⟨z,y,vs,r,ob,es,ep,e,c⟩:=x;exact⟨z,y,vs,r,ob,es,ep,k _ _ (.inl rfl) e,c⟩
 | dT kvs =>
  obtain⟨z,y,xs,r,ob,es,ep,e,c⟩:=x;exact⟨z,y,xs,Paired.mapP r fun p q z=>⟨z.1,ht _ _ z.2.1,z.2.2⟩,ob,es,ep,k _ _ (.inl rfl) e,c⟩
 | set S n=>obtain⟨ob,es,ep,t,e,c⟩:=x;exact⟨ob,es,ep,t,k _ _ (.inl rfl) e,c⟩
 | ins C dx fs =>
  obtain⟨d,z,ne,e,mA,⟨od,es,ep,e2,c⟩,r⟩:=x;exact⟨ho _ d,z,ne,k _ _ (.inl rfl) e,mA,⟨od,es,ep,k _ _ (.inr d) e2,c⟩,r⟩
 | own y=>obtain⟨ob,e⟩:=x;exact⟨ob,k _ _ (.inl rfl) e⟩
 | xd fs=>obtain⟨mA,⟨od,es,ep,e,c⟩,r⟩:=x;exact⟨mA,⟨od,es,ep,k _ _ (.inl rfl) e,c⟩,r⟩
 | rng lo hi=>obtain⟨t,u,v,e⟩:=x;exact⟨t,u,v,k _ _ (.inl rfl) e⟩
 | frz ob u ih=>obtain⟨e,q⟩:=x;exact⟨k _ _ (.inl rfl) e,ih q⟩
 | tbl ps =>
  have e:h.get? a=some { cls:= .none,data:= .fields ps }:=x;show h'.get? a=some { cls:= .none,data:= .fields ps };exact k a _ (.inl rfl) e
 | met f y =>
  have e:h.get? a=some (methodObj (.ref f) (.ref y)):=x;show h'.get? a=some (methodObj (.ref f) (.ref y));exact k a _ (.inl rfl) e
 | ext φ=>obtain⟨p,⟨o,e⟩,st⟩:=x;exact⟨st _ _ p fun o q=>k _ _ (.inl rfl) q,⟨o,k _ _ (.inl rfl) e⟩,st⟩
theorem HOk.lt(x:HOk P w H h)(e:H a=some o):a < h.objs.size:=(x a o e).lt
theorem HOk.fresh(x:HOk P w H h)(e:h.objs.size<=a):H a=none:=by
 cases q:H a with
 | none=>rfl
 | some u=>exact absurd (Nat.lt_of_lt_of_le (x.lt q) e) (Nat.lt_irrefl _)
theorem HOk.kept(x:HOk P w H h)(k:∀b u,h.get? b=some u->h'.get? b=some u):HOk P w H h':=fun a o e =>
 (x a o e).stay (fun b u _ q=>k b u q) (fun _ q=>q) fun _ _ q=>q
theorem HOk.laid(x:HOk P w H h)(k:∀b u,h.get? b=some u->h'.get? b=some u)(hp:h.objs.size<=a)(new:zai P w (upd H a o) h' a o):HOk P w (upd H a o) h':=fun b u e=>by
 have hn:=x.fresh hp;by_cases hb:b=a
 .subst hb;rw[zq] at e;cases e;exact new
 .rw[zm hb] at e;exact(x b u e).stay (fun c v _ q=>k c v q) (fun c q=>by rw[zm (zM q hn)];exact q) fun c xs q=>by rw[zm (zM q hn)];exact q
end
def Rd(H:Hp)(a:Addr)(u:HO):Prop:=H a=some u\/∃o,H a=some (.frz o u)
theorem Rd.ok{P:Program}{w:World}{H:Hp}{h:Heap}{a:Addr}{u:HO}(r:Rd H a u)(x:HOk P w H h):zai P w H h a u:=by
 rcases r with r | ⟨o,r⟩
 .exact x a u r
 .obtain⟨_,q⟩:=x a _ r;exact q
def Mut:Option HO->Prop
 | some (.lst _)=>True
 | some (.dK _)=>True
 | some (.dT _)=>True
 | some (.set _ _)=>True
 | some (.ins _ _ _)=>True
 | some (.ext _)=>True
 | _=>False
section
variable{P:Program}{w:World}{H:Hp}{h h':Heap}{x e:Addr}{o':HO}
theorem HOk.write(ok:HOk P w H h)(mu:Mut (H x))(he:e=x\/H e=some (.own x))(k:∀b u,b≠e->h.get? b=some u->h'.get? b=some u)(heo:∃u,h'.get? e=some u)
  (new:zai P w (upd H x o') h' x o'):HOk P w (upd H x o') h':=fun b u q=>by
 have nown:∀c y,H c=some (.own y)->c≠x:=fun c y r z=>by subst z;rw[r] at mu;exact mu
 have ntup:∀c xs,H c=some (.tup xs)->c≠x:=fun c xs r z=>by subst z;rw[r] at mu;exact mu
 by_cases hb:b=x
 .subst hb;rw[zq] at q;cases q;exact new
 .rw[zm hb] at q;by_cases hbe:b=e
  .have q':H b=some (.own x):=by
    rcases he with z | z
    .exact absurd (hbe.trans z) hb
    .rw[hbe];exact z
   rw[q] at q';cases q';obtain⟨v,hv⟩:=heo;exact⟨v,by rw[hbe];exact hv⟩
  .refine(ok b u q).stay (fun c v hc r=>k c v ?_ r) (fun c r=>by rw[zm (nown c b r)];exact r) fun c xs r=>by rw[zm (ntup c xs r)];exact r
   rcases hc with rfl | hc
   .exact hbe
   .rintro rfl;rcases he with z | z
    .exact nown c b hc z
    .rw[hc] at z;cases z;exact hb rfl
end
structure Un(fs ex:List Addr)(H H':Hp)(h h':Heap):Prop where
 keep:∀b o,h.get? b=some o->H b=none->b∉fs->b∉ex->h'.get? b=some o
 slot:∀b o,h.get? b=some o->H b=none->b∈fs->b∉ex->∃sl,h'.get? b=some { o with slots:=sl }
 free:∀b o,h.get? b=some o->H b=none->b∉ex->H' b=none
 there:∀b o,h.get? b=some o->b∉ex->∃o',h'.get? b=some o'
 tups:∀b xs,H b=some (.tup xs)->H' b=some (.tup xs)
 frzs:∀b o u,H b=some (.frz o u)->H' b=some (.frz o u)
 tbls:∀b ps,H b=some (.tbl ps)->∃more,H' b=some (.tbl (ps++more))
section
variable{fs fs' ex ex':List Addr}{H H1 H2:Hp}{h h1 h2 h':Heap}{a x e:Addr}{o:HO}
theorem Un.any(u:Un fs ex H H1 h h1){b:Addr}{ob:Obj}(q:h.get? b=some ob)(n:H b=none)(hx:b∉ex):∃sl,h1.get? b=some { ob with slots:=sl }:=by
 by_cases hb:b∈fs
 .exact u.slot b ob q n hb hx
 .exact⟨ob.slots,u.keep b ob q n hb hx⟩
theorem Un.kept(k:∀b u,h.get? b=some u->h'.get? b=some u):Un fs ex H H h h' :=
 ⟨fun b ob q _ _ _=>k b ob q,fun b ob q _ _ _=>⟨ob.slots,k b ob q⟩,fun _ _ _ n _=>n,fun b ob q _=>⟨ob,k b ob q⟩,fun _ _ q=>q,fun _ _ _ q=>q,fun _ ps q=>⟨#[],by rw[q];simp⟩⟩
theorem Un.refl:Un fs ex H H h h:=Un.kept fun _ _ q=>q
theorem Un.laid(k:∀b u,h.get? b=some u->h'.get? b=some u)(hp:h.objs.size<=a)(hn:H a=none):Un fs ex H (upd H a o) h h' where
 keep:=fun b u q _ _ _=>k b u q
 slot:=fun b u q _ _ _=>⟨u.slots,k b u q⟩
 free:=fun b u q n _=>by rw[zm (Nat.ne_of_lt (Nat.lt_of_lt_of_le (Heap.lt_size q) hp))];exact n
 there:=fun b u q _=>⟨u,k b u q⟩
 tups:=fun b xs q=>by rw[zm (zM q hn)];exact q
 frzs:=fun b u xs q=>by rw[zm (zM q hn)];exact q
 tbls:=fun b ps q=>⟨#[],by rw[zm (zM q hn),q];simp⟩
theorem Un.write(mu:Mut (H x))(he:e=x\/H e=some (.own x))(k:∀b u,b≠e->h.get? b=some u->h'.get? b=some u)(heo:∃u,h'.get? e=some u):Un fs ex H (upd H x o) h h':=by
 have hx:∀b,H b=none->b≠x:=fun b n z=>by subst z;rw[n] at mu;exact mu
 have hb:∀b,H b=none->b≠e:=fun b n z=>by
  subst z;rcases he with r | r
  .exact hx b n r
  .rw[n] at r;cases r
 have hm:∀b u,H b=some u->¬ Mut (some u)->b≠x:=fun b u q nm z=>by subst z;rw[q] at mu;exact nm mu
 refine⟨fun b u q n _ _=>k b u (hb b n) q,fun b u q n _ _=>⟨u.slots,k b u (hb b n) q⟩,fun b u q n _=>by rw[zm (hx b n)];exact n,fun b u q _=>?_,
  fun b xs q=>by rw[zm (hm b _ q fun z=>z)];exact q,fun b u xs q=>by rw[zm (hm b _ q fun z=>z)];exact q,fun b ps q=>⟨#[],by rw[zm (hm b _ q fun z=>z),q];simp⟩⟩
 by_cases hbe:b=e
 .subst hbe;exact heo
 .exact⟨u,k b u hbe q⟩
end
def trk(h:Heap)(H:Hp):List Addr:=(List.range h.objs.size).filter fun a=>(H a).isSome
def zit(h:Heap)(H:Hp):Heap:=PySem.W.hideAll h (trk h H)
theorem zoe(h:Heap)(H:Hp):(zit h H).objs.size=h.objs.size:=PySem.W.hideAll_size _ _
theorem zsA{h:Heap}{H:Hp}{b:Addr}{o:Obj}(e:h.get? b=some o)(n:H b=none):(zit h H).get? b=some o :=
 PySem.W.hideAll_get _ e fun hm=>by
  have q:(H b).isSome=true:=(List.mem_filter.mp hm).2;rw[n] at q;simp at q
theorem zuq{h:Heap}{H:Hp}{b:Addr}{o:Obj}(e:(zit h H).get? b=some o):h.get? b=some o/\H b=none:=by
 have e':h.get? b=some o:=PySem.W.of_hideAll (trk h H) e;refine⟨e',?_⟩;cases q:H b with
 | none=>rfl
 | some x =>
  have hm:b∈trk h H:=List.mem_filter.mpr ⟨List.mem_range.mpr (Heap.lt_size e'),by simp[q]⟩;have z:(zit h H).get? b=none:=PySem.W.hideAll_none (trk h H) hm;rw[z] at e;cases e
def zuc(g h:Heap)(L:Addr):List (Addr×Obj):=(List.range h.objs.size).filterMap fun a=>if a=L\/(g.get? a).isSome=true then none else(h.get? a).map fun o=>(a,o)
def rest(g h:Heap)(L d:Addr):List (Addr×Obj):=(zuc g h L).filter fun p=>decide (p.1≠d)
structure Mod(K:Frag)(mg:Str->Option Value)(base:Heap):Prop where
 kin:K.In base
 glob:base.Ns mainGlobals mg
 blt:∃mb,base.Ns builtinsNs mb/\∀x:Str,x≠"__name__"->mb x=bootBuiltins x
 nolimit:base.NoLimit
structure Cx where
 prog:Program
 w:World
 K:Frag
 mg:Str->Option Value
 base:Heap
 A:Around
 N:List Str
 s₀:Shared
 H₀:Hp
 env:Env
 outer:List Env
 stack:List Env
 ex:List Addr
 fn:Str->Bool
 calm:Bool
 pn:List (Addr×Obj)
 xe:Value->Shared->Prop
def frs(l:List Env):List Addr:=l.filterMap (·.frame)
abbrev Cx.fs(X:Cx):List Addr:=frs X.outer
def Vis(sc:Scope)(x:Str):Prop:=sc.names.lookup x=some .local\/sc.names.lookup x=some .cell\/sc.names.lookup x=some .free
def Loc(sc:Scope)(x:Str):Prop:=sc.names.lookup x=some .local\/sc.names.lookup x=some .cell
def Look(env:Env)(h:Heap)(m:Str->Option Value)(x:Str)(u:Value):Prop :=
 (env.kindOf x=some .local/\m x=some u)\/((env.kindOf x=some .cell\/env.kindOf x=some .free)/\∃c,env.cells.lookup x=some c/\h.IsCell c (some u))
structure Cx.Ok(X:Cx):Prop where
 mod:Mod X.K X.mg X.base
 kind:X.env.scope.kind= .function
 glob:X.env.globals=mainGlobals
 blt:X.env.builtins=builtinsNs
 above:X.s₀.heap.objs.size<=X.env.locals
 inj:∀x y c,X.env.cells.lookup x=some c->X.env.cells.lookup y=some c->x=y
 has:∀x,(X.env.kindOf x=some .cell\/X.env.kindOf x=some .free)->∃c,X.env.cells.lookup x=some c
 cab:∀x c,X.fn x=true->X.env.cells.lookup x=some c->X.s₀.heap.objs.size<=c
 hd:X.calm=true->X.A.handled=none
 frames:X.A.frames=some X.stack
 stk:X.stack=X.outer\/(X.stack=X.env::X.outer/\X.env.frame=some X.env.locals)
 exf:∀b∈X.ex,b≠X.env.locals/\∀x c,X.env.cells.lookup x=some c->c≠b
 bs:∀b o,X.base.get? b=some o->X.s₀.heap.get? b=some o/\X.H₀ b=none
 bsz:X.base.objs.size<=X.s₀.heap.objs.size
 noex:∀b o,X.base.get? b=some o->b∉X.ex
 exfs:∀b∈X.ex,b∉X.fs
 funs:X.s₀.heap.FunFrames X.base X.outer
 frf:∀b∈X.fs,X.H₀ b=none
structure Inv(X:Cx)(pins:List (Addr×Obj))(σ:List (Option V))(H:Hp)(s:Shared):Prop where
 ok:X.Ok
 os:s.os=X.s₀.os
 bare:AllBare s.gens
 base:Un X.fs X.ex X.H₀ H X.s₀.heap s.heap
 loc:∃m,s.heap.Ns X.env.locals m/\∀(i:Nat) (x:Str) (v:V),X.N[i]? = some x->σ[i]? = some (some v)->Vis X.env.scope x->∃u,RelV v u/\Look X.env s.heap m x u
 cell:∀x c,X.env.cells.lookup x=some c->∃v,s.heap.IsCell c v
 free:H X.env.locals=none
 freeC:∀x c,X.env.cells.lookup x=some c->H c=none
 pin:∀p∈X.pn++pins,s.heap.get? p.1=some p.2/\H p.1=none/\p.1≠X.env.locals/\p.1∉X.fs/\∀v,p.2.data≠ .cell v
 hok:HOk X.prog X.w H s.heap
 len:σ.length=X.N.length
section
variable{X:Cx}{pins:List (Addr×Obj)}{σ:List (Option V)}{H H':Hp}{s:Shared}{h':Heap}
theorem Cx.Ok.nofr(ok:X.Ok){b:Addr}{o:Obj}(e:X.base.get? b=some o):b∉X.fs:=fun hb=>by
 have:=(ok.funs.mem hb).1;rw[e] at this;cases this
theorem Inv.bs(I:Inv X pins σ H s):∀b o,X.base.get? b=some o->s.heap.get? b=some o/\H b=none:=fun b o e =>
 ⟨I.base.keep b o (I.ok.bs b o e).1 (I.ok.bs b o e).2 (I.ok.nofr e) (I.ok.noex b o e),I.base.free b o (I.ok.bs b o e).1 (I.ok.bs b o e).2 (I.ok.noex b o e)⟩
theorem Inv.bk(I:Inv X pins σ H s):∀b o,X.base.get? b=some o->s.heap.get? b=some o:=fun b o e=>(I.bs b o e).1
theorem Inv.mod(I:Inv X pins σ H s):Mod X.K X.mg X.base:=I.ok.mod
theorem Inv.kIn(I:Inv X pins σ H s):X.K.In s.heap:=I.ok.mod.kin.keeps I.bk
theorem Inv.lt(I:Inv X pins σ H s):X.env.locals < s.heap.objs.size:=let ⟨_,hn,_⟩:=I.loc;hn.lt
theorem Inv.sz(I:Inv X pins σ H s):X.s₀.heap.objs.size<=s.heap.objs.size:=Nat.le_trans I.ok.above (Nat.le_of_lt I.lt)
theorem Inv.nofs(I:Inv X pins σ H s){a:Addr}(h:s.heap.objs.size<=a):a∉X.fs:=fun hb=>by
 obtain⟨_,o,ho,_⟩:=I.ok.funs.mem hb;exact absurd (Nat.lt_of_lt_of_le (Heap.lt_size ho) (Nat.le_trans I.sz h)) (Nat.lt_irrefl _)
theorem Inv.cne(I:Inv X pins σ H s):∀x c,X.env.cells.lookup x=some c->c≠X.env.locals:=fun x c e z=>by
 obtain⟨v,o,ho,hd⟩:=I.cell x c e;obtain⟨m,⟨o',es,ep,ho',hd',_⟩,_⟩:=I.loc;rw[z,ho'] at ho;cases ho;rw[hd'] at hd;cases hd
theorem Inv.funs(I:Inv X pins σ H s):s.heap.FunFrames X.base X.outer:=by
 have all:∀(l:List Env),(∀b∈frs l,b∈X.fs)->X.s₀.heap.FunFrames X.base l->s.heap.FunFrames X.base l:=by
  intro l;induction l with
  | nil=>intro _ _;trivial
  | cons env r ih =>
   intro hs hl;obtain⟨hk,⟨L,o,hf,hn,ho,hd⟩,hr⟩:=hl;have hL:L∈X.fs:=hs L (by unfold frs;rw[List.filterMap_cons,hf];exact List.mem_cons_self);obtain⟨sl,e⟩:=I.base.slot L o ho (I.ok.frf L hL) hL fun z=>I.ok.exfs L z hL
   exact⟨hk,⟨L,_,hf,hn,e,hd⟩,ih (fun b hb=>hs b (by unfold frs;rw[List.filterMap_cons,hf];exact List.mem_cons_of_mem _ hb)) hr⟩
 exact all X.outer (fun _ hb=>hb) I.ok.funs
theorem Inv.stack(I:Inv X pins σ H s):s.heap.FunFrames X.base X.stack:=by
 rcases I.ok.stk with e | ⟨e,hf⟩
 .rw[e];exact I.funs
 .rw[e];obtain⟨m,hn,_⟩:=I.loc;refine .cons (by rw[I.ok.kind];decide) hf hn ?_ I.funs;exact Heap.get?_none_of_le (Nat.le_trans I.ok.bsz I.ok.above)
theorem Inv.stkSub(I:Inv X pins σ H s):∀b∈frs X.stack,b∈X.env.locals::X.fs:=fun b hb=>by
 rcases I.ok.stk with e | ⟨e,hf⟩
 .rw[e] at hb;exact List.mem_cons_of_mem _ hb
 .rw[e] at hb;unfold frs at hb;rw[List.filterMap_cons,hf] at hb;exact hb
theorem Inv.stkFree(I:Inv X pins σ H s):∀b∈frs X.stack,H b=none:=fun b hb=>by
 rcases List.mem_cons.mp (I.stkSub b hb) with e | hb
 .rw[e];exact I.free
 .obtain⟨_,o,ho,_⟩:=I.ok.funs.mem hb;exact I.base.free b o ho (I.ok.frf b hb) fun z=>I.ok.exfs b z hb
theorem Inv.step{g':Array GenState}{t':Nat}{d':Drawn}{ch:List Addr}(I:Inv X pins σ H s)
  (hch:∀b∈ch,(b∈X.ex\/X.s₀.heap.objs.size<=b)/\b≠X.env.locals/\(∀x c,X.env.cells.lookup x=some c->c≠b)/\∀p∈X.pn++pins,p.1≠b)
  (keep:∀b o,b≠X.env.locals->b∉X.fs->b∉ch->s.heap.get? b=some o->H b=none->h'.get? b=some o)
  (slot:∀b o,b≠X.env.locals->b∈X.fs->b∉ch->s.heap.get? b=some o->H b=none->∃sl,h'.get? b=some { o with slots:=sl })(free:∀b o,b∉ch->s.heap.get? b=some o->H b=none->H' b=none)
  (there:∀b o,b∉ch->s.heap.get? b=some o->∃o',h'.get? b=some o')
  (tups:∀b xs,H b=some (.tup xs)->H' b=some (.tup xs))(frzs:∀b o u,H b=some (.frz o u)->H' b=some (.frz o u))(tbls:∀b ps,H b=some (.tbl ps)->∃more,H' b=some (.tbl (ps++more)))
  (ns:∀m,s.heap.Ns X.env.locals m->h'.Ns X.env.locals m)(hok:HOk X.prog X.w H' h')(hg:AllBare g') :
  Inv X pins σ H' { s with heap:=h',gens:=g',drawn:=d',toks:=t' }:=by
 have neL:∀b o,X.s₀.heap.get? b=some o->b≠X.env.locals:=fun b o e=>Nat.ne_of_lt (Nat.lt_of_lt_of_le (Heap.lt_size e) I.ok.above)
 have neC:∀b o,X.s₀.heap.get? b=some o->b∉X.ex->b∉ch:=fun b o e hx hb=>by
  rcases(hch b hb).1 with z | z
  .exact hx z
  .exact absurd (Nat.lt_of_lt_of_le (Heap.lt_size e) z) (Nat.lt_irrefl _)
 have cellK:∀x c,X.env.cells.lookup x=some c->∀v,s.heap.IsCell c v->h'.IsCell c v:=fun x c e v ⟨o,ho,hd⟩=>by
  have nch:c∉ch:=fun z=>(hch c z).2.2.1 x c e rfl
  by_cases hc:c∈X.fs
  .obtain⟨sl,q⟩:=slot c o (I.cne x c e) hc nch ho (I.freeC x c e);exact⟨_,q,hd⟩
  .exact⟨o,keep c o (I.cne x c e) hc nch ho (I.freeC x c e),hd⟩
 refine⟨I.ok,I.os,hg,⟨fun b o e n hb hx=>?_,fun b o e n hb hx=>?_,fun b o e n hx=>?_,fun b o e hx=>?_,fun b xs e=>tups b xs (I.base.tups b xs e),fun b o xs e=>frzs b o xs (I.base.frzs b o xs e),fun b ps e=>?_⟩,?_,fun x c e=>?_,?_,fun x c e=>?_,fun p hp=>?_,hok,I.len⟩
 .exact keep b o (neL b o e) hb (neC b o e hx) (I.base.keep b o e n hb hx) (I.base.free b o e n hx)
 .obtain⟨sl,e1⟩:=I.base.slot b o e n hb hx;obtain⟨sl',e2⟩:=slot b _ (neL b o e) hb (neC b o e hx) e1 (I.base.free b o e n hx);exact⟨sl',e2⟩
 .obtain⟨o',e1⟩:=I.base.there b o e hx;exact free b o' (neC b o e hx) e1 (I.base.free b o e n hx)
 .obtain⟨o',e1⟩:=I.base.there b o e hx;exact there b o' (neC b o e hx) e1
 .obtain⟨m1,e1⟩:=I.base.tbls b ps e;obtain⟨m2,e2⟩:=tbls b _ e1;exact⟨m1++m2,by rw[e2,Array.append_assoc]⟩
 .obtain⟨m,hn,hl⟩:=I.loc;refine⟨m,ns m hn,fun i x v e1 e2 e3=>?_⟩;obtain⟨u,r,l⟩:=hl i x v e1 e2 e3;refine⟨u,r,?_⟩;rcases l with l | ⟨k,c,e,z⟩
  .exact .inl l
  .exact .inr ⟨k,c,e,cellK x c e _ z⟩
 .obtain⟨v,z⟩:=I.cell x c e;exact⟨v,cellK x c e v z⟩
 .obtain⟨m,⟨o,_,_,ho,_⟩,_⟩:=I.loc;exact free _ o (fun z=>(hch _ z).2.1 rfl) ho I.free
 .obtain⟨v,o,ho,hd⟩:=I.cell x c e;exact free c o (fun z=>(hch c z).2.2.1 x c e rfl) ho (I.freeC x c e)
 .obtain⟨e,n,ne,nf,d⟩:=I.pin p hp;have nch:p.1∉ch:=fun z=>(hch p.1 z).2.2.2 p hp rfl
  exact⟨keep p.1 p.2 ne nf nch e n,free p.1 p.2 nch e n,ne,nf,d⟩
theorem Inv.un{t':Nat}(I:Inv X pins σ H s)(u:Un X.fs [] H H' s.heap h')(hok:HOk X.prog X.w H' h'):Inv X pins σ H' { s with heap:=h',toks:=t' }:=by
 obtain⟨m,⟨o,es,ep,ho,r⟩,_⟩:=id I.loc;obtain⟨sl,hL⟩:=u.any ho I.free (by simp);exact I.step (g':=s.gens) (d':=s.drawn) (ch:=[]) (fun _ z=>nomatch z) (fun b o _ hb _ e n=>u.keep b o e n hb (by simp)) (fun b o _ hb _ e n=>u.slot b o e n hb (by simp)) (fun b o _ e n=>u.free b o e n (by simp)) (fun b o _ e=>u.there b o e (by simp)) u.tups u.frzs u.tbls (fun m' hm=>by
  obtain⟨o',es',ep',ho',r'⟩:=hm;rw[ho] at ho';cases ho';exact⟨_,es',ep',hL,r'⟩) hok I.bare
theorem Inv.call{g':Array GenState}{t':Nat}{d':Drawn}{ch:List Addr}(I:Inv X pins σ H s)(u:Un (frs X.stack) ch H H' s.heap h')(hok:HOk X.prog X.w H' h')(hg:AllBare g')
  (hch:∀b∈ch,(b∈X.ex\/X.s₀.heap.objs.size<=b)/\b≠X.env.locals/\(∀x c,X.env.cells.lookup x=some c->c≠b)/\∀p∈X.pn++pins,p.1≠b) :
  Inv X pins σ H' { s with heap:=h',gens:=g',drawn:=d',toks:=t' }:=by
 obtain⟨m,⟨o,es,ep,ho,r⟩,_⟩:=id I.loc;obtain⟨sl,hL⟩:=u.any ho I.free fun z=>(hch _ z).2.1 rfl
 exact I.step (ch:=ch) hch (fun b o hL hb hc e n=>u.keep b o e n (fun z=>(List.mem_cons.mp (I.stkSub b z)).elim hL hb) hc) (fun b o _ _ hc e n=>u.any e n hc) (fun b o hc e n=>u.free b o e n hc) (fun b o hc e=>u.there b o e hc) u.tups u.frzs u.tbls (fun m' hm=>by
  obtain⟨o',es',ep',ho',r'⟩:=hm;rw[ho] at ho';cases ho';exact⟨_,es',ep',hL,r'⟩) hok hg
theorem Inv.turned{t':Nat}{it:Addr}(I:Inv X pins σ H s)(k:∀b o,b≠it->s.heap.get? b=some o->h'.get? b=some o)(hn:H it=none)(hL:it≠X.env.locals)
  (h1:it∈X.ex\/X.s₀.heap.objs.size<=it)(h2:∀x c,X.env.cells.lookup x=some c->c≠it)(h3:∀p∈X.pn++pins,p.1≠it):Inv X pins σ H { s with heap:=h',toks:=t' }:=by
 have nit:∀b u,H b=some u->b≠it:=fun b u e z=>by rw[z,hn] at e;cases e
 refine I.step (g':=s.gens) (d':=s.drawn) (ch:=[it]) (fun b hb=>?_) (fun b o _ _ hc e _=>k b o (fun z=>hc (by simp[z])) e) (fun b o _ _ hc e _=>⟨o.slots,k b o (fun z=>hc (by simp[z])) e⟩) (fun _ _ _ _ n=>n)
  (fun b o hc e=>⟨o,k b o (fun z=>hc (by simp[z])) e⟩) (fun _ _ e=>e) (fun _ _ _ e=>e) (fun b ps e=>⟨#[],by rw[e];simp⟩) (fun m hm=>?_) (fun b u e=>?_) I.bare
 .have e:b=it:=by simpa using hb
  subst e;exact⟨h1,hL,h2,h3⟩
 .obtain⟨o,es,ep,ho,r⟩:=hm;exact⟨o,es,ep,k _ o (Ne.symm hL) ho,r⟩
 .refine(I.hok b u e).stay (fun c v hc q=>k c v ?_ q) (fun _ q=>q) fun _ _ q=>q
  rcases hc with z | z
  .rw[z];exact nit b u e
  .exact nit c _ z
theorem Inv.tok(I:Inv X pins σ H s)(t:Nat):Inv X pins σ H { s with toks:=t }:=I.un (h':=s.heap) (t':=t) Un.refl I.hok
theorem Inv.kept{t':Nat}(I:Inv X pins σ H s)(k:∀b u,s.heap.get? b=some u->h'.get? b=some u):Inv X pins σ H { s with heap:=h',toks:=t' }:=I.un (Un.kept k) (I.hok.kept k)
theorem Inv.laid{a:Addr}{o:HO}{t':Nat}(I:Inv X pins σ H s)(k:∀b u,s.heap.get? b=some u->h'.get? b=some u)(hp:s.heap.objs.size<=a)(new:zai X.prog X.w (upd H a o) h' a o) :
  Inv X pins σ (upd H a o) { s with heap:=h',toks:=t' }:=I.un (Un.laid k hp (I.hok.fresh hp)) (I.hok.laid k hp new)
theorem Inv.write{x e:Addr}{o:HO}{t':Nat}(I:Inv X pins σ H s)(mu:Mut (H x))(he:e=x\/H e=some (.own x))(k:∀b u,b≠e->s.heap.get? b=some u->h'.get? b=some u)(heo:∃u,h'.get? e=some u)
  (new:zai X.prog X.w (upd H x o) h' x o):Inv X pins σ (upd H x o) { s with heap:=h',toks:=t' }:=I.un (Un.write mu he k heo) (I.hok.write mu he k heo new)
theorem Inv.weak{σ':List (Option V)}(I:Inv X pins σ H s)(hl:σ'.length=σ.length)(w:∀(i:Nat) v,σ'[i]? = some (some v)->σ[i]? = some (some v)):Inv X pins σ' H s :=
 ⟨I.ok,I.os,I.bare,I.base,let ⟨m,hn,hl'⟩:=I.loc;⟨m,hn,fun i x v e1 e2 e3=>hl' i x v e1 (w i v e2) e3⟩,I.cell,I.free,I.freeC,I.pin,I.hok,hl.trans I.len⟩
theorem Inv.pins_of{pins':List (Addr×Obj)}(I:Inv X pins σ H s)(h:∀p∈pins',s.heap.get? p.1=some p.2/\H p.1=none/\p.1≠X.env.locals/\p.1∉X.fs/\∀v,p.2.data≠ .cell v):Inv X pins' σ H s :=
 ⟨I.ok,I.os,I.bare,I.base,I.loc,I.cell,I.free,I.freeC,fun p hp=>(List.mem_append.mp hp).elim (fun z=>I.pin p (List.mem_append_left _ z)) (h p),I.hok,I.len⟩
theorem zlU{N:List Str}(hN:N.Nodup){i j:Nat}{x:Str}(a:N[i]? = some x)(b:N[j]? = some x):i=j:=by
 obtain⟨h1,e1⟩:=List.getElem?_eq_some_iff.mp a;obtain⟨h2,e2⟩:=List.getElem?_eq_some_iff.mp b;exact(List.getElem_inj hN).mp (e1.trans e2.symm)
theorem zi3{M:Model}{A:Around}{E:Value->Shared->Prop}{i:Nat}{x:Str}{v:V}{u:Value}{Q:Unit->Shared->Prop}(I:Inv X pins σ H s)(hN:X.N.Nodup)(hi:X.N[i]? = some x)(hx:Loc X.env.scope x)(r:RelV v u)
  (h:∀s',Inv X pins (σ.set i (some v)) H s'->(∃a,Heap.SameBut a s.heap s'.heap/\(a=X.env.locals\/X.env.cells.lookup x=some a))->Q () s')(hf:X.fn x=true\/X.env.scope.names.lookup x=some .local:=by first | exact .inl rfl | exact .inr rfl | assumption):wpAny M A (storeName X.env x u) Q E s:=by
 obtain⟨m,hn,hl⟩:=id I.loc;have hcls:(X.env.scope.kind== .class||(X.env.scope.kind== .module&&X.env.locals !=X.env.globals))=false:=by rw[I.ok.kind];rfl
 have hiσ:i < σ.length:=by rw[I.len];exact(List.getElem?_eq_some_iff.mp hi).1
 have cne:=I.cne;have tracked:∀{a:Addr} {h':Heap},(∃o,s.heap.get? a=some o/\H a=none)->Heap.SameBut a s.heap h'->HOk X.prog X.w H h':=fun{a h'} ha hs b ob e=>by
  obtain⟨_,_,hfree⟩:=ha;refine(I.hok b ob e).stay (fun c w' hc q=>(hs.2 c ?_).trans q) (fun _ q=>q) fun _ _ q=>q
  rintro rfl;rcases hc with rfl | hc
  .rw[hfree] at e;cases e
  .rw[hfree] at hc;cases hc
 rcases hx with hk | hk
 .refine wpAny_storeName_local hk hn (fun h' hn' hs=>?_) hcls;obtain⟨oL,_,_,hoL,_⟩:=id hn;refine h _ ⟨I.ok,I.os,I.bare,⟨fun b o e n hb hx=>?_,fun b o e n hb hx=>?_,I.base.free,fun b o e hx=>?_,I.base.tups,I.base.frzs,I.base.tbls⟩,⟨_,hn',fun j y v' e1 e2 e3=>?_⟩,fun y c e=>?_,I.free,I.freeC,fun p hp=>?_,tracked ⟨oL,hoL,I.free⟩ hs,by simpa using I.len⟩ ⟨_,hs, .inl rfl⟩
  .exact(hs.2 b (Nat.ne_of_lt (Nat.lt_of_lt_of_le (Heap.lt_size e) I.ok.above))).trans (I.base.keep b o e n hb hx)
  .obtain⟨sl,e1⟩:=I.base.slot b o e n hb hx;exact⟨sl,(hs.2 b (Nat.ne_of_lt (Nat.lt_of_lt_of_le (Heap.lt_size e) I.ok.above))).trans e1⟩
  .obtain⟨o',e1⟩:=I.base.there b o e hx;exact⟨o',(hs.2 b (Nat.ne_of_lt (Nat.lt_of_lt_of_le (Heap.lt_size e) I.ok.above))).trans e1⟩
  .by_cases hj:j=i
   .subst hj;rw[hi] at e1;cases e1;rw[List.getElem?_set_self hiσ] at e2;cases e2;exact⟨u,r, .inl ⟨hk,by simp⟩⟩
   .rw[List.getElem?_set_ne (Ne.symm hj)] at e2;obtain⟨u',r',q⟩:=hl j y v' e1 e2 e3;refine⟨u',r',?_⟩;rcases q with⟨k,e⟩ | ⟨k,c,e,z⟩
    .refine .inl ⟨k,?_⟩;have:y≠x:=fun e=>hj (zlU hN e1 (e▸hi))
     simp[this,e]
    .exact .inr ⟨k,c,e,z.sameBut hs (cne y c e)⟩
  .obtain⟨w',z⟩:=I.cell y c e;exact⟨w',z.sameBut hs (cne y c e)⟩
  .obtain⟨e,n,ne,nf,d⟩:=I.pin p hp;exact⟨(hs.2 p.1 ne).trans e,n,ne,nf,d⟩
 .have hfn:X.fn x=true:=by
   rcases hf with z | z
   .exact z
   .rw[z] at hk;cases hk
  obtain⟨c,hc⟩:=I.ok.has x (.inl hk);obtain⟨w',z⟩:=I.cell x c hc;refine wpAny_storeName_cell I.ok.kind hk hc z (fun h' hc' hs=>?_);obtain⟨oc,hoc,hocd⟩:=id z;refine h { s with heap:=h' } ⟨I.ok,I.os,I.bare,⟨fun b o e n hb hx=>?_,fun b o e n hb hx=>?_,I.base.free,fun b o e hx=>?_,I.base.tups,I.base.frzs,I.base.tbls⟩,⟨m,hn.sameBut hs (Ne.symm (cne x c hc)),fun j y v' e1 e2 e3=>?_⟩,fun y c' e=>?_,I.free,I.freeC,fun p hp=>?_,tracked ⟨oc,hoc,I.freeC x c hc⟩ hs,by simpa using I.len⟩ ⟨c,hs, .inr hc⟩
  .exact(hs.2 b (Nat.ne_of_lt (Nat.lt_of_lt_of_le (Heap.lt_size e) (I.ok.cab x c hfn hc)))).trans (I.base.keep b o e n hb hx)
  .obtain⟨sl,e1⟩:=I.base.slot b o e n hb hx;exact⟨sl,(hs.2 b (Nat.ne_of_lt (Nat.lt_of_lt_of_le (Heap.lt_size e) (I.ok.cab x c hfn hc)))).trans e1⟩
  .obtain⟨o',e1⟩:=I.base.there b o e hx;exact⟨o',(hs.2 b (Nat.ne_of_lt (Nat.lt_of_lt_of_le (Heap.lt_size e) (I.ok.cab x c hfn hc)))).trans e1⟩
  .by_cases hj:j=i
   .subst hj;rw[hi] at e1;cases e1;rw[List.getElem?_set_self hiσ] at e2;cases e2;exact⟨u,r, .inr ⟨.inl hk,c,hc,hc'⟩⟩
   .rw[List.getElem?_set_ne (Ne.symm hj)] at e2;obtain⟨u',r',q⟩:=hl j y v' e1 e2 e3;refine⟨u',r',?_⟩;rcases q with q | ⟨k,c',e,z'⟩
    .exact .inl q
    .refine .inr ⟨k,c',e,z'.sameBut hs ?_⟩;rintro rfl;exact hj (zlU hN e1 (I.ok.inj _ _ _ e hc▸hi))
  .by_cases hcc:c'=c
   .subst hcc;exact⟨_,hc'⟩
   .obtain⟨w2,z2⟩:=I.cell y c' e;exact⟨w2,z2.sameBut hs hcc⟩
  .obtain⟨e,n,ne,nf,d⟩:=I.pin p hp;refine⟨(hs.2 p.1 ?_).trans e,n,ne,nf,d⟩;intro q;rw[q,hoc] at e;have q':oc=p.2:=Option.some.inj e;exact d w' (by rw[<- q'];exact hocd)
theorem zli{M:Model}{A:Around}{E:Value->Shared->Prop}{i:Nat}{x:Str}{v:V}{u:Value}{Q:Unit->Shared->Prop}(I:Inv X pins σ H s)(hN:X.N.Nodup)(hi:X.N[i]? = some x)(hx:Loc X.env.scope x)(r:RelV v u)
  (h:∀s',Inv X pins (σ.set i (some v)) H s'->Q () s')(hf:X.fn x=true\/X.env.scope.names.lookup x=some .local:=by first | exact .inl rfl | exact .inr rfl | assumption):wpAny M A (storeName X.env x u) Q E s :=
 zi3 I hN hi hx r (fun s' I' _=>h s' I') hf
theorem Inv.call'{s':Shared}{ch:List Addr}(I:Inv X pins σ H s)(ho:s'.os=s.os)(u:Un (frs X.stack) ch H H' s.heap s'.heap)(hok:HOk X.prog X.w H' s'.heap)(hg:AllBare s'.gens)
  (hch:∀b∈ch,(b∈X.ex\/X.s₀.heap.objs.size<=b)/\b≠X.env.locals/\(∀x c,X.env.cells.lookup x=some c->c≠b)/\∀p∈X.pn++pins,p.1≠b):Inv X pins σ H' s':=by
 obtain⟨h',g',d',t',o'⟩:=s';have e:o'=s.os:=ho;subst e;exact I.call (g':=g') (t':=t') (d':=d') u hok hg hch
end
abbrev XK:=Value->Option Addr->Hp->Prop
abbrev St:=List (Option V)
abbrev VK:=V->Hp->Prop
abbrev TE:=St->Hp->VK->Prop
abbrev TT:=St->Hp->(Bool->Hp->Prop)->Prop
abbrev TA:=St->Hp->(List V->Hp->Prop)->Prop
structure Ends where
 nx:St->Hp->Prop
 rt:VK
 bk:St->Hp->Prop:=fun _ _=>False
 ct:St->Hp->Prop:=fun _ _=>False
abbrev TS:=Ends->St->Hp->Prop
def EP(X:Cx)(pins:List (Addr×Obj))(σ:St)(Q:VK)(u:Value)(s':Shared):Prop:=∃v H',Inv X pins σ H' s'/\RelV v u/\Q v H'
def TP(X:Cx)(pins:List (Addr×Obj))(σ:St)(Q:Bool->Hp->Prop)(b:Bool)(s':Shared):Prop:=∃H',Inv X pins σ H' s'/\Q b H'
def AP(X:Cx)(pins:List (Addr×Obj))(σ:St)(Q:List V->Hp->Prop)(us:List Value)(s':Shared):Prop:=∃vs H',Inv X pins σ H' s'/\Vals vs us/\Q vs H'
def SP(X:Cx)(pins:List (Addr×Obj))(D:Ends)(f:Flow)(s':Shared):Prop :=
 match f with
 | .next=>∃ σ' H',Inv X pins σ' H' s'/\D.nx σ' H'
 | .brk=>∃ σ' H',Inv X pins σ' H' s'/\D.bk σ' H'
 | .cont=>∃ σ' H',Inv X pins σ' H' s'/\D.ct σ' H'
 | .ret u=>∃v σ' H',Inv X pins σ' H' s'/\RelV v u/\D.rt v H'
def PE(X:Cx)(e:Expr)(t:TE):Prop :=
 ∀(pins:List (Addr×Obj)) (s:Shared) (σ:St) (H:Hp) (Q:VK),Inv X pins σ H s->t σ H Q->wpAny (model X.prog X.w) X.A (eval e X.env) (EP X pins σ Q) X.xe s
def PT(X:Cx)(e:Expr)(t:TT):Prop :=
 ∀(pins:List (Addr×Obj)) (s:Shared) (σ:St) (H:Hp) (Q:Bool->Hp->Prop),Inv X pins σ H s->t σ H Q->wpAny (model X.prog X.w) X.A (isTrue e X.env (eval e X.env)) (TP X pins σ Q) X.xe s
def PW(X:Cx)(e:Expr)(t:TT):Prop :=
 ∀(whole:Sem Value) (pins:List (Addr×Obj)) (s:Shared) (σ:St) (H:Hp) (Q:Bool->Hp->Prop),Inv X pins σ H s->t σ H Q->wpAny (model X.prog X.w) X.A (isTrue e X.env whole) (TP X pins σ Q) X.xe s
theorem PW.pt{X:Cx}{e:Expr}{t:TT}(h:PW X e t):PT X e t:=h _
def PA(X:Cx)(es:List Expr)(t:TA):Prop :=
 ∀(pos:Pos) (pins:List (Addr×Obj)) (s:Shared) (σ:St) (H:Hp) (Q:List V->Hp->Prop),Inv X pins σ H s->t σ H Q->wpAny (model X.prog X.w) X.A (spliced (backTo pos (starEach es X.env))) (AP X pins σ Q) X.xe s
def PS(X:Cx)(st:Stmt)(t:TS):Prop :=
 ∀(pins:List (Addr×Obj)) (s:Shared) (σ:St) (H:Hp) (D:Ends),Inv X pins σ H s->t D σ H->wpAny (model X.prog X.w) X.A (exec st X.env) (SP X pins D) X.xe s
def PSs(X:Cx)(st:List Stmt)(t:TS):Prop :=
 ∀(pins:List (Addr×Obj)) (s:Shared) (σ:St) (H:Hp) (D:Ends),Inv X pins σ H s->t D σ H->wpAny (model X.prog X.w) X.A (execs st X.env) (SP X pins D) X.xe s
theorem thn{α:Type}{t:Sem α}{Q Q':α->Shared->Prop}{M:Model}{A:Around}{E:Value->Shared->Prop}{s:Shared}(h:wpAny M A t Q E s)(hQ:∀a s,Q a s->Q' a s):wpAny M A t Q' E s:=wpAny_mono h hQ fun _ _ x=>x
section
variable{X:Cx}
def za3(i:Nat):TE:=fun σ H Q=>∃v,σ[i]? = some (some v)/\Q v H
def tC(v:V):TE:=fun _ H Q=>Q v H
theorem zwe{i:Nat}{x:Str}{pos:Pos}(hN:X.N[i]? = some x)(hv:Vis X.env.scope x)(hd:(x==("__debug__":Str))=false:=by decide)(hcd:(x==("__classdict__":Str))=false:=by decide):PE X (.Name x pos) (za3 i):=by
 intro pins s σ H Q I h;obtain⟨v,e,h⟩:=h;obtain⟨m,hn,hl⟩:=I.loc;obtain⟨u,r,l⟩:=hl i x v hN e hv;have fin:EP X pins σ Q u s:=⟨v,H,I,r,h⟩;rcases l with⟨hk,hm⟩ | ⟨hk,c,hc,hcell⟩
 .exact wpAny_Name (wpAny_loadName_local I.ok.kind hk hn hm fin) hd
 .rcases hk with hk | hk
  .exact wpAny_Name (wpAny_loadName_cell I.ok.kind hk hc hcell fin) hd
  .exact wpAny_Name (wpAny_loadName_free I.ok.kind hk hc hcell fin hcd) hd
theorem zsD{i j pos}:PE X (.Constant (.int i) j pos) (tC (.int i)):=fun _ _ _ H _ I h=>wpAny_Constant_int ⟨.int i,H,I.tok _,⟨_,rfl⟩,h⟩
theorem zya{b j pos}:PE X (.Constant (.bool b) j pos) (tC (.bl b)):=fun _ _ _ H _ I h=>Constant_bool ⟨.bl b,H,I,rfl,h⟩
theorem zwN{x j pos}:PE X (.Constant (.str x) j pos) (tC (.str x)):=fun _ _ _ H _ I h=>Calls.Constant_str ⟨.str x,H,I.tok _,⟨_,rfl⟩,h⟩
def Gl(X:Cx)(x:Str):Prop:=X.env.kindOf x=some .globalImplicit
theorem zjT{E:Value->Shared->Prop}{pins:List (Addr×Obj)}{s:Shared}{σ:St}{H:Hp}{x:Str}{u:Value}{pos:Pos}{Q:Value->Shared->Prop}(I:Inv X pins σ H s)(hg:Gl X x)(hm:X.mg x=some u)(h:Q u s)
  (hd:(x==("__debug__":Str))=false:=by decide):wpAny (model X.prog X.w) X.A (eval (.Name x pos) X.env) Q E s :=
 Calls.Name_function_global I.ok.kind hg (Calls.loadGlobal_global (by rw[I.ok.glob];exact I.mod.glob.keeps I.bk) hm h) hd
theorem zeT{E:Value->Shared->Prop}{pins:List (Addr×Obj)}{s:Shared}{σ:St}{H:Hp}{x:Str}{u:Value}{pos:Pos}{Q:Value->Shared->Prop}(I:Inv X pins σ H s)(hg:Gl X x)(hm:X.mg x=none)(hv:bootBuiltins x=some u)(h:Q u s)
  (hn:x≠"__name__":=by decide)(hd:(x==("__debug__":Str))=false:=by decide):wpAny (model X.prog X.w) X.A (eval (.Name x pos) X.env) Q E s:=by
 obtain⟨mb,h1,h2⟩:=I.mod.blt;exact Calls.Name_function_global I.ok.kind hg (Calls.loadGlobal_builtin (by rw[I.ok.glob];exact I.mod.glob.keeps I.bk) hm (by rw[I.ok.blt];exact h1.keeps I.bk) ((h2 x hn).trans hv) h) hd
theorem zt4{x:Str}{v:V}{u:Value}{pos:Pos}(hg:Gl X x)(hm:X.mg x=some u)(r:RelV v u)(hd:(x==("__debug__":Str))=false:=by decide):PE X (.Name x pos) (tC v) :=
 fun _ _ _ H _ I h=>zjT I hg hm ⟨v,H,I,r,h⟩ hd
theorem zul{x:Str}{v:V}{u:Value}{pos:Pos}(hg:Gl X x)(hm:X.mg x=none)(hv:bootBuiltins x=some u)(r:RelV v u)(hn:x≠"__name__":=by decide)(hd:(x==("__debug__":Str))=false:=by decide):PE X (.Name x pos) (tC v) :=
 fun _ _ _ H _ I h=>zeT I hg hm hv ⟨v,H,I,r,h⟩ hn hd
variable{a b:Expr}{ta tb:TE}{pos:Pos}
def tB(t:TE):TT:=fun σ H Q=>t σ H fun x H1=>∃c,x= .bl c/\Q c H1
theorem zwg{e:Expr}{t:TE}(h:PE X e t)(he:∀whole,isTrue e X.env whole=(do let v<-whole;standAt e.pos;holding [v] (truthy v)):=by intro _;rfl):PT X e (tB t):=by
 intro pins s σ H Q I hw;refine isTrue_plain (thn (h pins s σ H _ I hw) fun v s1 ⟨x,H1,I1,r1,q1⟩=>?_) (he _);obtain⟨d,rfl,q⟩:=q1;cases r1;exact wpAny_truthy_bool ⟨H1,I1,q⟩
variable{tA tB':TT}{rest:List Expr}
def zvh(t u:TT):TT:=fun σ H Q=>t σ H fun c H1=>if c=true then u σ H1 Q else Q false H1
def tOr(t u:TT):TT:=fun σ H Q=>t σ H fun c H1=>if c=true then Q true H1 else u σ H1 Q
def zvq(t:TT):TT:=fun σ H Q=>t σ H fun c H1=>Q (!c) H1
theorem zsP(ha:PT X a tA):PW X (.BoolOp .And [a] pos) tA:=by
 intro wh pins s σ H Q I h;refine isTrue_and (thn (ha pins s σ H Q I h) fun c s1 e=>?_);cases c with
 | true=>exact isTrue_and_nil e
 | false=>exact e
theorem zxj(ha:PT X a tA):PW X (.BoolOp .Or [a] pos) tA:=by
 intro wh pins s σ H Q I h;refine isTrue_or (thn (ha pins s σ H Q I h) fun c s1 e=>?_);cases c with
 | false=>exact isTrue_or_nil e
 | true=>exact e
theorem zxe(ha:PT X a tA)(hb:PW X (.BoolOp .And (b::rest) pos) tB'):PW X (.BoolOp .And (a::b::rest) pos) (zvh tA tB'):=by
 intro wh pins s σ H Q I h;refine isTrue_and (thn (ha pins s σ H _ I h) fun c s1 ⟨H1,I1,q1⟩=>?_);cases c with
 | true=>exact hb wh pins s1 σ H1 Q I1 q1
 | false=>exact⟨H1,I1,q1⟩
theorem zxY(ha:PT X a tA)(hb:PW X (.BoolOp .Or (b::rest) pos) tB'):PW X (.BoolOp .Or (a::b::rest) pos) (tOr tA tB'):=by
 intro wh pins s σ H Q I h;refine isTrue_or (thn (ha pins s σ H _ I h) fun c s1 ⟨H1,I1,q1⟩=>?_);cases c with
 | true=>exact⟨H1,I1,q1⟩
 | false=>exact hb wh pins s1 σ H1 Q I1 q1
theorem zwm(ha:PT X a tA):PT X (.UnaryOp .Not a pos) (zvq tA):=by
 intro pins s σ H Q I h;exact isTrue_not (ha pins s σ H (fun c H1=>Q (!c) H1) I h)
def zrO(ta tb:TE):TE:=fun σ H Q=>ta σ H fun x H1=>∃c,x= .bl c/\if c=true then tb σ H1 Q else Q (.bl false) H1
def zpN(ta:TE):TE:=fun σ H Q=>ta σ H fun x H1=>∃c,x= .bl c/\Q (.bl (!c)) H1
theorem zwd{op}{t:TE}(h:PE X a t):PE X (.BoolOp op [a] pos) t:=fun pins s σ H Q I hw=>BoolOp_one (h pins s σ H Q I hw)
theorem zwk(ha:PE X a ta)(hb:PE X (.BoolOp .And (b::rest) pos) tb):PE X (.BoolOp .And (a::b::rest) pos) (zrO ta tb):=by
 intro pins s σ H Q I h;refine BoolOp_and (thn (ha pins s σ H _ I h) fun v s1 ⟨x,H1,I1,r1,q1⟩=>?_);obtain⟨c,rfl,q1⟩:=q1;cases r1;refine wpAny_truthy_bool ?_;cases c with
 | true=>exact hb pins s1 σ H1 Q I1 q1
 | false=>exact⟨.bl false,H1,I1,rfl,q1⟩
theorem zvc(ha:PE X a ta):PE X (.UnaryOp .Not a pos) (zpN ta):=by
 intro pins s σ H Q I h;refine UnaryOp_ (thn (ha pins s σ H _ I h) fun v s1 ⟨x,H1,I1,r1,q1⟩=>?_);obtain⟨c,rfl,q1⟩:=q1;cases r1;exact not_of (wpAny_truthy_bool ⟨.bl (!c),H1,I1,rfl,q1⟩)
end
def SqL(K:Frag)(H:Hp)(a:Addr)(xs:List V):Prop :=
 Rd H a (.lst xs) \/
  ∃(o:Obj) (its:Array Value) (n:Nat),K.lookup a=some o/\o.cls= .type "list"/\o.dict=none/\o.data= .seq its n/\its.size<=sizeLine/\Vals xs its.toList
def SqT(K:Frag)(H:Hp)(a:Addr)(xs:List V):Prop :=
 Rd H a (.tup xs) \/
  ∃(o:Obj) (its:Array Value) (n:Nat),K.lookup a=some o/\o.cls= .type "tuple"/\o.data= .seq its n/\its.size<=sizeLine/\Vals xs its.toList
def zy3:Value->Option V
 | .none=>some .non
 | .bool b=>some (.bl b)
 | .int i _=>some (.int i)
 | .str x _=>some (.str x)
 | .bytes b _=>some (.byt b)
 | .float b _=>some (.flt b)
 | .ref a=>some (.ref a)
 | .type n=>some (.ty n)
 | _=>none
theorem RelV.abs{x:V}{u:Value}(r:RelV x u):zy3 u=some x:=by
 cases x with
 | non=>cases r;rfl
 | bl _=>cases r;rfl
 | int _=>obtain⟨t,rfl⟩:=r;rfl
 | str _=>obtain⟨t,rfl⟩:=r;rfl
 | byt _=>obtain⟨t,rfl⟩:=r;rfl
 | flt _=>obtain⟨t,rfl⟩:=r;rfl
 | ref _=>cases r;rfl
 | ty _=>cases r;rfl
theorem RelV.inj{x y:V}{u:Value}(r:RelV x u)(q:RelV y u):x=y:=Option.some.inj (r.abs.symm.trans q.abs)
theorem Vals.inj:∀{xs ys:List V} {us:List Value},Vals xs us->Vals ys us->xs=ys
 | _,_,_, .nil, .nil=>rfl
 | _,_,_, .cons r t, .cons r' t'=>by rw[r.inj r',Vals.inj t t']
section
variable{X:Cx}{pins:List (Addr×Obj)}{σ:St}{H:Hp}{s:Shared}{a:Addr}{xs ys:List V}
theorem SqL.of{K:Frag}(h:H a=some (.lst xs)):SqL K H a xs:= .inl (.inl h)
theorem SqT.of{K:Frag}(h:H a=some (.tup xs)):SqT K H a xs:= .inl (.inl h)
theorem Inv.list(I:Inv X pins σ H s)(h:SqL X.K H a xs):∃its:List Value,Vals xs its/\PlainL s.heap a its.toArray/\xs.length<=sizeLine:=by
 rcases h with h | ⟨o,its,n,hk,hc,hd,hs,hz,r⟩
 .obtain⟨z,its,n,r,e⟩:=h.ok I.hok;exact⟨its,r,⟨_,n,e,rfl,rfl,rfl⟩,z⟩
 .refine⟨its.toList,r,⟨o,n,I.kIn a o hk,hc,hd,by simpa using hs⟩,?_⟩;have e:=r.length;simp only[Array.length_toList] at e;omega
theorem Inv.tuple(I:Inv X pins σ H s)(h:SqT X.K H a xs):∃its:List Value,Vals xs its/\IsTup s.heap a its.toArray/\xs.length<=sizeLine:=by
 rcases h with h | ⟨o,its,n,hk,hc,hs,hz,r⟩
 .obtain⟨z,its,r,p⟩:=h.ok I.hok;exact⟨its,r,p,z⟩
 .refine⟨its.toList,r,⟨o,I.kIn a o hk,hc,n,by simpa using hs⟩,?_⟩;have e:=r.length;simp only[Array.length_toList] at e;omega
theorem Inv.list_inj(I:Inv X pins σ H s)(h:SqL X.K H a xs)(h':SqL X.K H a ys):xs=ys:=by
 obtain⟨its,r,⟨o,n,e,_,_,d⟩,_⟩:=I.list h;obtain⟨its',r',⟨o',n',e',_,_,d'⟩,_⟩:=I.list h';rw[e] at e';cases e';rw[d] at d';injection d' with d1 _;have:its=its':=by simpa using congrArg Array.toList d1
 subst this;exact r.inj r'
theorem Inv.tuple_inj(I:Inv X pins σ H s)(h:SqT X.K H a xs)(h':SqT X.K H a ys):xs=ys:=by
 obtain⟨its,r,⟨o,e,_,n,d⟩,_⟩:=I.tuple h;obtain⟨its',r',⟨o',e',_,n',d'⟩,_⟩:=I.tuple h';rw[e] at e';cases e';rw[d] at d';injection d' with d1 _;have:its=its':=by simpa using congrArg Array.toList d1
 subst this;exact r.inj r'
end
abbrev Cx.wish(X:Cx)(E:Value->Shared->Prop):Cx:={ X with xe:=E }
abbrev Cx.nox(X:Cx):Cx:=X.wish fun _ _=>False
theorem Cx.Ok.wish{X:Cx}(ok:X.Ok)(E:Value->Shared->Prop):(X.wish E).Ok :=
 ⟨ok.mod,ok.kind,ok.glob,ok.blt,ok.above,ok.inj,ok.has,ok.cab,ok.hd,ok.frames,ok.stk,ok.exf,ok.bs,ok.bsz,ok.noex,ok.exfs,ok.funs,ok.frf⟩
theorem Cx.Ok.unwish{X:Cx}{E:Value->Shared->Prop}(ok:(X.wish E).Ok):X.Ok :=
 ⟨ok.mod,ok.kind,ok.glob,ok.blt,ok.above,ok.inj,ok.has,ok.cab,ok.hd,ok.frames,ok.stk,ok.exf,ok.bs,ok.bsz,ok.noex,ok.exfs,ok.funs,ok.frf⟩
section
variable{X:Cx}{pins:List (Addr×Obj)}{σ:St}{H:Hp}{s:Shared}{E:Value->Shared->Prop}
theorem Inv.wish(I:Inv X pins σ H s)(E:Value->Shared->Prop):Inv (X.wish E) pins σ H s:=⟨I.ok.wish E,I.os,I.bare,I.base,I.loc,I.cell,I.free,I.freeC,I.pin,I.hok,I.len⟩
theorem Inv.unwish(I:Inv (X.wish E) pins σ H s):Inv X pins σ H s:=⟨I.ok.unwish,I.os,I.bare,I.base,I.loc,I.cell,I.free,I.freeC,I.pin,I.hok,I.len⟩
theorem SP.unwish{D:Ends}{f:Flow}{s':Shared}(h:SP (X.wish E) pins D f s'):SP X pins D f s':=by
 cases f with
 | next=>obtain⟨σ',H',I,q⟩:=h;exact⟨σ',H',I.unwish,q⟩
 | brk=>obtain⟨σ',H',I,q⟩:=h;exact⟨σ',H',I.unwish,q⟩
 | cont=>obtain⟨σ',H',I,q⟩:=h;exact⟨σ',H',I.unwish,q⟩
 | ret u=>obtain⟨v,σ',H',I,r,q⟩:=h;exact⟨v,σ',H',I.unwish,r,q⟩
theorem PSs.nox{st:List Stmt}{t:TS}(h:PSs X.nox st t):PSs X st t:=fun pins s σ H D I hw =>
 wpAny_mono (h pins s σ H D (I.wish _) hw) (fun _ _ q=>q.unwish) fun _ _ z=>False.elim z
end
section
variable{X:Cx}{st:Stmt}{rest:List Stmt}{t u:TS}{e:Expr}{te:TE}{pos:Pos}
def zpY:TS:=fun D σ H=>D.nx σ H
def ziE(t u:TS):TS:=fun D σ H=>t { D with nx:=u D } σ H
theorem zts:PSs X [] zpY:=fun _ _ σ H _ I h=>wpAny_execs_nil ⟨σ,H,I,h⟩
theorem zrx(h1:PS X st t)(h2:PSs X rest u):PSs X (st::rest) (ziE t u):=by
 intro pins s σ H D I h;refine wpAny_execs_cons (thn (h1 pins s σ H { D with nx:=u D } I h) fun f s1 q=>?_);cases f with
 | next =>
  obtain⟨σ',H',I',q⟩:=q;exact h2 pins s1 σ' H' D I' q
 | ret v=>exact q
 | brk=>exact q
 | cont=>exact q
theorem zte(h1:PS X st t):PSs X [st] t:=by
 intro pins s σ H D I h;refine wpAny_execs_cons (thn (h1 pins s σ H D I h) fun f s1 q=>?_);cases f with
 | next=>exact wpAny_execs_nil q
 | ret v=>exact q
 | brk=>exact q
 | cont=>exact q
theorem Inv.quiet{pins:List (Addr×Obj)}{σ:St}{H:Hp}{s:Shared}(I:Inv X pins σ H s):interactive X.env=false:=by simp[interactive,I.ok.kind]
def zql(te:TE):TS:=fun D σ H=>te σ H fun _ H1=>D.nx σ H1
theorem zum(he:PE X e te)(hs:swapsWith e none pos.line X.env=pure false:=by rfl):PS X (.Expr e pos) (zql te):=by
 intro pins s σ H D I h;exact wpAny_Expr_any (thn (he pins s σ H _ I h) fun v s1 ⟨x,H1,I1,r1,q1⟩=>⟨σ,H1,I1,q1⟩) I.quiet hs
def zmA(te:TE):TS:=fun D σ H=>te σ H D.rt
theorem zxi(he:PE X e te):PS X (.Return (some e) pos) (zmA te):=by
 intro pins s σ H D I h;exact wpAny_Return_some (thn (he pins s σ H _ I h) fun v s1 ⟨x,H1,I1,r1,q1⟩=>⟨x,σ,H1,I1,r1,q1⟩)
def ztH(c:TT)(t u:TS):TS:=fun D σ H=>c σ H fun b H1=>if b=true then t D σ H1 else u D σ H1
theorem zyw{c:Expr}{a b:List Stmt}{tc:TT}(hc:PT X c tc)(ha:PSs X a t)(hb:PSs X b u):PS X (.If c a b pos) (ztH tc t u):=by
 intro pins s σ H D I h;refine wpAny_If (thn (hc pins s σ H _ I h) fun d s1 ⟨H1,I1,q1⟩=>?_);cases d with
 | true=>exact ha pins s1 σ H1 D I1 q1
 | false=>exact hb pins s1 σ H1 D I1 q1
def zmm:TS:=fun _ _ _=>False
theorem zpV:PS X st zmm:=fun _ _ _ _ _ _ h=>h.elim
end
abbrev TG:=V->St->Hp->(St->Hp->Prop)->Prop
abbrev TGs:=List V->St->Hp->(St->Hp->Prop)->Prop
def PG(X:Cx)(target:Expr)(t:TG):Prop :=
 ∀(pins:List (Addr×Obj)) (s:Shared) (σ:St) (H:Hp) (v:V) (u:Value) (Q:St->Hp->Prop),Inv X pins σ H s->RelV v u->t v σ H Q ->
  wpAny (model X.prog X.w) X.A (assign target X.env u) (fun _ s'=>∃ σ' H',Inv X pins σ' H' s'/\Q σ' H') X.xe s
def PGs(X:Cx)(ts:List Expr)(t:TGs):Prop :=
 ∀(pins:List (Addr×Obj)) (s:Shared) (σ:St) (H:Hp) (vs:List V) (us:List Value) (Q:St->Hp->Prop),Inv X pins σ H s->Vals vs us->t vs σ H Q ->
  wpAny (model X.prog X.w) X.A (assignInOrder ((assignEach ts X.env).map (·.2)) us) (fun _ s'=>∃ σ' H',Inv X pins σ' H' s'/\Q σ' H') X.xe s
abbrev zpD:=V->V->V->Hp->(Hp->Prop)->Prop
def zwu(X:Cx)(t:zpD):Prop :=
 ∀(pins:List (Addr×Obj)) (s:Shared) (σ:St) (H:Hp) (o i v:V) (ov iv u:Value) (Q:Hp->Prop),Inv X pins σ H s->RelV o ov->RelV i iv->RelV v u->t o i v H Q ->
  wpAny (model X.prog X.w) X.A (setItem ov iv u) (fun _ s'=>∃H',Inv X pins σ H' s'/\Q H') X.xe s
section
variable{X:Cx}{pos:Pos}
def zdq(i:Nat):TG:=fun v σ H Q=>Q (σ.set i (some v)) H
theorem zux{i:Nat}{x:Str}(hN:X.N.Nodup)(hi:X.N[i]? = some x)(hx:Loc X.env.scope x)(hf:X.fn x=true\/X.env.scope.names.lookup x=some .local:=by first | exact .inl rfl | exact .inr rfl | assumption):PG X (.Name x pos) (zdq i):=by
 intro pins s σ H v u Q I r h;exact wpAny_assign_Name (zli I hN hi hx r (fun s' I'=>⟨_,H,I',h⟩) hf)
def zvM:TGs:=fun vs σ H Q=>vs=[]/\Q σ H
def zso(t:TG)(u:TGs):TGs:=fun vs σ H Q=>∃v r,vs=v::r/\t v σ H fun σ' H'=>u r σ' H' Q
theorem ztX:PGs X [] zvM:=by
 intro pins s σ H vs us Q I r h;obtain⟨e,h⟩:=h;subst e;cases r;exact assignInOrder_nil ⟨σ,H,I,h⟩
theorem zrW{e:Expr}{es:List Expr}{t:TG}{u:TGs}(h1:PG X e t)(h2:PGs X es u)
  (hs:(assignEach (e::es) X.env).map (·.2)=assign e X.env::(assignEach es X.env).map (·.2):=by rfl):PGs X (e::es) (zso t u):=by
 intro pins s σ H vs us Q I r h;obtain⟨v,vr,e1,h⟩:=h;subst e1;cases r with
 | cons r rr =>
  rw[hs];refine assignInOrder_cons (thn (h1 pins s σ H _ _ _ I r h) fun _ s1 ⟨σ1,H1,I1,q1⟩=>?_);exact h2 pins s1 σ1 H1 _ _ Q I1 rr q1
def ztN(K:Frag)(n:Nat)(t:TGs):TG:=fun v σ H Q=>∃a xs,v= .ref a/\SqT K H a xs/\xs.length=n/\t xs σ H Q
theorem zvT{es:List Expr}{k:Nat}{t:TGs}{n:Nat}(hc:X.calm=true)(h:PGs X es t)
  (hn:(assignEach es X.env).length=n:=by rfl)(hst:(assignEach es X.env).findIdx? (·.1)=none:=by rfl):PG X (.Tuple es k pos) (ztN X.K n t):=by
 intro pins s σ H v u Q I r hw;obtain⟨a,xs,e1,hq,hl,hw⟩:=hw;subst e1;cases r;obtain⟨its,rv,ht,hz⟩:=I.tuple hq;refine assign_Tuple_tuple (I.ok.hd hc) ht (by simp[hn,<- hl,rv.length]) hst fun h' hx=>?_
 have I1:Inv X pins σ H { s with heap:=h' }:=I.kept (t':=s.toks) fun b o e=>hx b o (Nat.ne_of_lt (Heap.lt_size e)) e
 exact h pins _ σ H xs _ Q I1 (by simpa using rv) hw
def zkv(to ti:TE)(t:zpD):TG:=fun v σ H Q=>to σ H fun o H1=>ti σ H1 fun i H2=>t o i v H2 fun H3=>Q σ H3
theorem zwD{o i:Expr}{to ti:TE}{t:zpD}(ho:PE X o to)(hi:PE X i ti)(hs:zwu X t)
  (ha:∀v,assign (.Subscript o i pos) X.env v=(do
   let ov<-holding [v] (eval o X.env)
   let iv<-holding [v,ov] (eval i X.env)
   standAt pos
   holding [v,ov,iv] (setItem ov iv v)
   release [v,ov,iv] []):=by intro _;rfl):PG X (.Subscript o i pos) (zkv to ti t):=by
 intro pins s σ H v u Q I r h;rw[ha];refine wpAny_bind (wpAny_holding (thn (ho pins s σ H _ I h) fun ov s1 ⟨x,H1,I1,r1,q1⟩=>?_));refine wpAny_bind (wpAny_holding (thn (hi pins s1 σ H1 _ I1 q1) fun iv s2 ⟨y,H2,I2,r2,q2⟩=>?_));refine wpAny_bind (wpAny_standAt (wpAny_bind (wpAny_holding (thn (hs pins s2 σ H2 x y v ov iv u _ I2 r1 r2 r q2) fun _ s3 ⟨H3,I3,q3⟩=>?_))));exact wpAny_release ⟨σ,H3,I3,q3⟩
def zdh(te:TE)(g:TG):TS:=fun D σ H=>te σ H fun x H1=>g x σ H1 D.nx
theorem zvx{tg e:Expr}{te:TE}{g:TG}(he:PE X e te)(hg:PG X tg g)(hs:swapsWithSole [tg] e pos.line X.env=pure false:=by rfl)(hw:swappedStores [tg] e X.env=pure none:=by rfl)
  (h1:(assignEach [tg] X.env).map (·.2)=[assign tg X.env]:=by rfl):PS X (.Assign [tg] e pos) (zdh te g):=by
 intro pins s σ H D I h;refine wpAny_Assign_stores (thn (he pins s σ H _ I h) fun v s1 ⟨x,H1,I1,r1,q1⟩=>?_) hs hw;rw[h1];exact thn (hg pins s1 σ H1 x v _ I1 r1 q1) fun _ s2 q=>q
theorem zxx{i:Nat}{x:Str}{e:Expr}{te:TE}{pos':Pos}(hN:X.N.Nodup)(hi:X.N[i]? = some x)(hx:Loc X.env.scope x)(he:PE X e te)(hs:swapsWith e (some (.Name x pos')) pos.line X.env=pure false:=by rfl)(hf:X.fn x=true\/X.env.scope.names.lookup x=some .local:=by first | exact .inl rfl | exact .inr rfl | assumption) :
  PS X (.Assign [.Name x pos'] e pos) (zdh te (zdq i)):=by
 intro pins s σ H D I h;refine wpAny_Assign_Name (thn (he pins s σ H _ I h) fun v s1 ⟨y,H1,I1,r1,q1⟩=>?_) hs;exact zli I1 hN hi hx r1 (fun s2 I2=>⟨_,H1,I2,q1⟩) hf
end
section
variable{X:Cx}{pos:Pos}
end
structure It where
 go:Nat->Hp->Prop
 yld:Nat->Hp->V->Hp->Prop
 stop:Nat->Hp->Prop
def zfd(X:Cx)(pins:List (Addr×Obj))(H:Hp)(b:Addr):Prop :=
 H b=none/\b≠X.env.locals/\b∉X.fs/\(b∈X.ex\/X.s₀.heap.objs.size<=b)/\(∀x c,X.env.cells.lookup x=some c->c≠b)/\∀p∈X.pn++pins,p.1≠b
theorem Inv.fpOk{X:Cx}{pins:List (Addr×Obj)}{σ:St}{H H':Hp}{s:Shared}{b:Addr}(I:Inv X pins σ H s)(hb:s.heap.objs.size<=b)(hn:H' b=none):zfd X pins H' b:=by
 refine⟨hn,Nat.ne_of_gt (Nat.lt_of_lt_of_le I.lt hb),I.nofs hb, .inr (Nat.le_trans I.sz hb),fun x c e z=>?_,fun p hp z=>?_⟩
 .obtain⟨v,q⟩:=I.cell x c e;exact absurd (Nat.lt_of_lt_of_le q.lt (by rw[z];exact hb)) (Nat.lt_irrefl _)
 .exact absurd (Nat.lt_of_lt_of_le (Heap.lt_size (I.pin p hp).1) (by rw[z];exact hb)) (Nat.lt_irrefl _)
structure Turn(P:Program)(w:World)(K:Frag)(tg:Expr)(J:It)(fp:List Addr)(it:Addr)(tn:Nat->Heap->Prop):Prop where
 mem:it∈fp
 obj:∀i h,tn i h->∀b∈fp,∃o,h.get? b=some o/\∀v,o.data≠ .cell v
 keep:∀i h h',tn i h->(∀b∈fp,∀o,h.get? b=some o->h'.get? b=some o)->tn i h'
 item:∀(X:Cx),X.prog=P->X.w=w->X.K=K->X.calm=true->∀(i:Nat) (pins:List (Addr×Obj)) (s:Shared) (σ:St) (H:Hp) (E:Value->Shared->Prop),Inv X pins σ H s->(∀b∈fp,zfd X pins H b)->tn i s.heap->J.go i H ->
  wpAny (model P w) X.A (pyNext (.ref it)) (fun r s1=>∃u,r=some u /\
   wpAny (model P w) X.A (letOwnedTupleGo tg (.ref it) u) (fun _ s2=>∃x H',Inv X pins σ H' s2/\RelV x u/\J.yld i H x H'/\tn (i+1) s2.heap/\∀b∈fp,H' b=none) E s1) E s
 done:∀(X:Cx),X.prog=P->X.w=w->X.K=K->X.calm=true->∀(i:Nat) (pins:List (Addr×Obj)) (s:Shared) (σ:St) (H:Hp) (E:Value->Shared->Prop),Inv X pins σ H s->(∀b∈fp,zfd X pins H b)->tn i s.heap->J.stop i H ->
  wpAny (model P w) X.A (pyNext (.ref it)) (fun r s1=>r=none/\Inv X pins σ H s1) E s
 self:∀(A:Around) (i:Nat) (s:Shared) (Q:Value->Shared->Prop) (E:Value->Shared->Prop),tn i s.heap->Q (.ref it) s->wpAny (model P w) A (pyIter (.ref it)) Q E s
abbrev TI:=St->Hp->(It->Hp->Prop)->Prop
def PIE(X:Cx)(pins:List (Addr×Obj))(σ:St)(tg:Expr)(R:It->Hp->Prop)(itv:Value)(s2:Shared):Prop :=
 ∃(it:Addr) (fp:List Addr) (tn:Nat->Heap->Prop) (J:It) (H':Hp),itv= .ref it/\Inv X pins σ H' s2/\Turn X.prog X.w X.K tg J fp it tn/\tn 0 s2.heap/\(∀b∈fp,zfd X pins H' b)/\R J H'
def PI(X:Cx)(tg iter:Expr)(wi:TI):Prop :=
 ∀(pins:List (Addr×Obj)) (s:Shared) (σ:St) (H:Hp) (R:It->Hp->Prop),Inv X pins σ H s->wi σ H R ->
  wpAny (model X.prog X.w) X.A (eval iter X.env) (fun v s1=>wpAny (model X.prog X.w) X.A (pyIter v) (PIE X pins σ tg R) X.xe s1) X.xe s
theorem zlY{M:Model}{A:Around}{E:Value->Shared->Prop}{s:Shared}{tg:Expr}{it:Addr}{u:Value}{o:Obj}{n:String}{vs:Array Value}{Q:Unit->Shared->Prop}(ho:s.heap.get? it=some o)(hc:o.cls= .type n)(hd:o.data= .fields vs)
  (hn:["enumerate","zip","dict_itemiterator","dict_reverseitemiterator","odict_iterator","itertools.zip_longest","itertools.pairwise"].contains n=false)(hQ:Q () s):wpAny M A (letOwnedTupleGo tg (.ref it) u) Q E s:=by
 unfold letOwnedTupleGo;cases tg<;>first
  | exact wpAny_pure hQ
  | (cases u<;>first
    | exact wpAny_pure hQ
    | (refine wpAny_bind (wpAny_load ho ?_)
       rw[hc,hd];show wpAny M A (if (["enumerate","zip","dict_itemiterator","dict_reverseitemiterator","odict_iterator","itertools.zip_longest","itertools.pairwise"].contains n&&vs[0]? == some (rawInt _))=true then _ else _) Q E s;rw[if_neg (by intro h;rw[hn,Bool.false_and] at h;cases h)];exact wpAny_pure hQ))
def Itl(K:Frag)(a:Addr):It :=
 ⟨fun i H=>∃xs x,SqL K H a xs/\xs[i]? = some x,fun i H x H'=>H'=H/\∀xs,SqL K H a xs->xs[i]? = some x,fun i H=>∃xs,SqL K H a xs/\xs.length<=i⟩
def Itt(K:Frag)(a:Addr):It :=
 ⟨fun i H=>∃xs x,SqT K H a xs/\xs[i]? = some x,fun i H x H'=>H'=H/\∀xs,SqT K H a xs->xs[i]? = some x,fun i H=>∃xs,SqT K H a xs/\xs.length<=i⟩
def Itr(lo:Int)(n:Nat):It:=⟨fun i _=>i < n,fun i H x H'=>H'=H/\x= .int (lo+i),fun i _=>n<=i⟩
theorem zpb{P:Program}{w:World}{K:Frag}{tg:Expr}(a it:Addr):Turn P w K tg (Itl K a) [it] it (fun i h=>h.IsListIter it a i) where
 mem:=by simp
 obj:=fun i h st b hb=>by
  have e:b=it:=by simpa using hb
  subst e;obtain⟨o,e,c,d⟩:=st;exact⟨o,e,fun v z=>by rw[d] at z;cases z⟩
 keep:=fun i h h' st k=>st.at fun o e=>k it (by simp) o e
 item:=by
  intro X hP hw hK hc i pins s σ H E I hf st hg;subst hP hw hK;obtain⟨xs,x,hq,hx⟩:=hg;obtain⟨its,rv,p,hz⟩:=I.list hq;obtain⟨u,hu,ru⟩:=rv.get hx;obtain⟨f0,f1,f2,f3,f4,f5⟩:=hf it (by simp);refine wpAny_pyNext_list_item st p.isList (x:=u) (by simpa using hu) fun h' st' sb=>?_
  have I1:Inv X pins σ H { s with heap:=h' }:=I.turned (t':=s.toks) (fun b o hb e=>(sb.2 b hb).trans e) f0 f1 f3 f4 f5;obtain⟨o,e,c,d⟩:=id st';exact⟨u,rfl,zlY (s:={ s with heap:=h' }) e c d (by decide) ⟨x,H,I1,ru,⟨rfl,fun ys hy=>by rw[I.list_inj hy hq];exact hx⟩,st',fun b hb=>(hf b hb).1⟩⟩
 done:=by
  intro X hP hw hK hc i pins s σ H E I hf st hg;subst hP hw hK;obtain⟨xs,hq,hx⟩:=hg;obtain⟨its,rv,p,hz⟩:=I.list hq;obtain⟨f0,f1,f2,f3,f4,f5⟩:=hf it (by simp);have hl:=rv.length;exact wpAny_pyNext_list_end (I.ok.hd hc) st p.isList (by simp;omega) fun h' eb=>⟨rfl,I.turned (t':=s.toks) (fun b o hb e=>eb b o hb e) f0 f1 f3 f4 f5⟩
 self:=fun _ _ _ _ _ st h=>wpAny_pyIter_listiter st h
theorem zmr{P:Program}{w:World}{K:Frag}{tg:Expr}(a it:Addr):Turn P w K tg (Itt K a) [it] it (fun i h=>h.IsTupleIter it a i) where
 mem:=by simp
 obj:=fun i h st b hb=>by
  have e:b=it:=by simpa using hb
  subst e;obtain⟨o,e,c,d⟩:=st;exact⟨o,e,fun v z=>by rw[d] at z;cases z⟩
 keep:=fun i h h' st k=>st.at fun o e=>k it (by simp) o e
 item:=by
  intro X hP hw hK hc i pins s σ H E I hf st hg;subst hP hw hK;obtain⟨xs,x,hq,hx⟩:=hg;obtain⟨its,rv,p,hz⟩:=I.tuple hq;obtain⟨u,hu,ru⟩:=rv.get hx;obtain⟨f0,f1,f2,f3,f4,f5⟩:=hf it (by simp);refine wpAny_pyNext_tuple_item st (show s.heap.IsTuple a its.toArray from p) (x:=u) (by simpa using hu) fun h' st' sb=>?_
  have I1:Inv X pins σ H { s with heap:=h' }:=I.turned (t':=s.toks) (fun b o hb e=>(sb.2 b hb).trans e) f0 f1 f3 f4 f5;obtain⟨o,e,c,d⟩:=id st';exact⟨u,rfl,zlY (s:={ s with heap:=h' }) e c d (by decide) ⟨x,H,I1,ru,⟨rfl,fun ys hy=>by rw[I.tuple_inj hy hq];exact hx⟩,st',fun b hb=>(hf b hb).1⟩⟩
 done:=by
  intro X hP hw hK hc i pins s σ H E I hf st hg;subst hP hw hK;obtain⟨xs,hq,hx⟩:=hg;obtain⟨its,rv,p,hz⟩:=I.tuple hq;obtain⟨f0,f1,f2,f3,f4,f5⟩:=hf it (by simp);have hl:=rv.length;exact wpAny_pyNext_tuple_end (I.ok.hd hc) st (show s.heap.IsTuple a its.toArray from p) (by simp;omega) fun h' eb=>⟨rfl,I.turned (t':=s.toks) (fun b o hb e=>eb b o hb e) f0 f1 f3 f4 f5⟩
 self:=fun _ _ _ _ _ st h=>wpAny_pyIter_tupleiter st h
theorem zmU{P:Program}{w:World}{K:Frag}{tg:Expr}(it:Addr)(lo:Int)(n:Nat):Turn P w K tg (Itr lo n) [it] it (fun i h=>IsRangeIter h it (lo+(i:Nat)*1) ((n:Int) - (i:Nat)) 1) where
 mem:=by simp
 obj:=fun i h st b hb=>by
  have e:b=it:=by simpa using hb
  subst e;exact⟨_,st,fun v z=>by
   have z':Data.fields _=Data.cell v:=z;cases z'⟩
 keep:=fun i h h' st k=>k it (by simp) _ st
 item:=by
  intro X hP hw hK hc i pins s σ H E I hf st hg;subst hP hw hK;obtain⟨f0,f1,f2,f3,f4,f5⟩:=hf it (by simp);have W:=Walks.range (prog:=X.prog) (w:=X.w) (I.ok.hd hc) it lo 1 n;refine W.item i s _ _ hg st fun v h' tk hv st' kk=>?_
  obtain⟨t,rfl⟩:=hv;have I1:Inv X pins σ H { s with heap:=h',toks:=tk }:=I.turned (fun b o hb e=>kk b o (by simpa using hb) e) f0 f1 f3 f4 f5;refine⟨_,rfl,zlY (s:={ s with heap:=h',toks:=tk }) (n:="range_iterator") st' rfl rfl (by decide) ⟨.int (lo+i),H,I1,⟨t,?_⟩,⟨rfl,rfl⟩,st',fun b hb=>(hf b hb).1⟩⟩;rw[Int.mul_one]
 done:=by
  intro X hP hw hK hc i pins s σ H E I hf st hg;subst hP hw hK;obtain⟨f0,f1,f2,f3,f4,f5⟩:=hf it (by simp);exact wpAny_pyNext_range_end (I.ok.hd hc) st (by have:n<=i:=hg;omega) fun h' eb=>⟨rfl,I.turned (t':=s.toks) (fun b o hb e=>eb b o hb e) f0 f1 f3 f4 f5⟩
 self:=fun _ _ _ _ _ st h=>wpAny_pyIter_rangeiter st h
section
variable{X:Cx}{tg:Expr}
theorem zsC{pins:List (Addr×Obj)}{σ:St}{H:Hp}{s:Shared}{R:It->Hp->Prop}{E:Value->Shared->Prop}{lo hi:Int}{t u v:Tok}{tk:Nat}(I:Inv X pins σ H s)(h1: -(2^62)<=lo)(h2:lo < 2^62)(h3: -(2^62)<=hi)(h4:hi < 2^62)
  (q:R (Itr lo (hi - lo).toNat) H):wpAny (model X.prog X.w) X.A (pyIter (.ref s.heap.objs.size)) (PIE X pins σ tg R) E { s with heap:=s.heap.push { cls:= .type "range",data:= .fields #[.int lo t, .int hi u, .int 1 v] },toks:=tk }:=by
 refine wpAny_pyIter_range (IsRange.new ..) (small_one h1 h2 h3 h4) ?_;have I1:Inv X pins σ H { s with heap:=s.heap.push { cls:= .type "range",data:= .fields #[.int lo t, .int hi u, .int 1 v] },toks:=tk }:=I.kept fun b o e=>Heap.get?_push_of_some _ e
 refine⟨(s.heap.push { cls:= .type "range",data:= .fields #[.int lo t, .int hi u, .int 1 v] }).objs.size,[(s.heap.push { cls:= .type "range",data:= .fields #[.int lo t, .int hi u, .int 1 v] }).objs.size],_,_,H,rfl,
  I1.kept (t':=tk) fun b o e=>Heap.get?_push_of_some _ e,zmU _ lo (hi - lo).toNat,?_,fun b hb=>?_,q⟩
 .have e1:lo+((0:Nat):Int)*1=lo:=by simp
  have e2:(((hi - lo).toNat:Nat):Int) - ((0:Nat):Int)=Builtin.Range.rangeSize lo hi 1:=by rw[rangeSize_one];split<;>omega
  show IsRangeIter _ _ (lo+((0:Nat):Int)*1) ((((hi - lo).toNat:Nat):Int) - ((0:Nat):Int)) 1;rw[e1,e2];exact Heap.get?_push_size _ rfl
 .have e:b=(s.heap.push { cls:= .type "range",data:= .fields #[.int lo t, .int hi u, .int 1 v] }).objs.size:=by simpa using hb
  subst e;exact I1.fpOk (Nat.le_refl _) (I1.hok.fresh (Nat.le_refl _))
def zpP(ta:TA):TI:=fun σ H R=>ta σ H fun vs H1=>∃j:Int,vs=[.int j]/\ -(2^62)<=j/\j < 2^62/\R (Itr 0 j.toNat) H1
theorem zoN{a:Expr}{ta:TA}{p pos:Pos}(hg:Gl X "range")(hm:X.mg "range"=none)(ha:PA X [a] ta)(hs:starEach [a] X.env=[(false,eval a X.env)]:=by rfl):PI X tg (.Call (.Name "range" p) [a] [] pos) (zpP ta):=by
 intro pins s σ H R I h;refine Call_ (zeT I hg hm boot_range (PyProof.Rows.callWith_type1 (thn (ha pos pins s σ H _ I h) fun us s1 ⟨vs,H1,I1,r1,q1⟩=>?_) hs rfl));obtain⟨j,e,q1,q2,q⟩:=q1;subst e;cases r1 with
 | cons r rr =>
  cases rr;obtain⟨t,rfl⟩:=r;exact call_range_1 (zsC I1 (by omega) (by omega) q1 q2 (by simpa using q))
def zwi(wi:TI)(g:TG)(tb:TS):TS:=fun D σ H=>wi σ H fun J H1=>∃W:Nat->Nat->St->Hp->Prop,(∃m,W 0 m σ H1)/\∀i m σ H,W i m σ H ->
 (J.stop i H/\D.nx σ H)\/(J.go i H/\∃N:St->Hp->Prop,(∀ σ' H',N σ' H'->∃m',m' < m/\W (i+1) m' σ' H')/\∀x H',J.yld i H x H'->g x σ H' fun σ2 H2=>tb { D with nx:=N,ct:=N,bk:=D.nx } σ2 H2)
def zcH(fp:List Addr)(h:Heap):List (Addr×Obj):=fp.filterMap fun b=>(h.get? b).map fun o=>(b,o)
theorem zbF{fp:List Addr}{h:Heap}{b:Addr}{o:Obj}(hb:b∈fp)(e:h.get? b=some o):(b,o)∈zcH fp h:=List.mem_filterMap.mpr ⟨b,hb,by rw[e];rfl⟩
theorem zfN{fp:List Addr}{h:Heap}{p:Addr×Obj}(hp:p∈zcH fp h):p.1∈fp/\h.get? p.1=some p.2:=by
 obtain⟨b,hb,e⟩:=List.mem_filterMap.mp hp;cases q:h.get? b with
 | none=>rw[q] at e;cases e
 | some o =>
  rw[q] at e;have e':(b,o)=p:=Option.some.inj e;subst e';exact⟨hb,q⟩
theorem Inv.pinned{pins:List (Addr×Obj)}{σ:St}{H:Hp}{s:Shared}{fp:List Addr}(I:Inv X pins σ H s)(hf:∀b∈fp,zfd X pins H b)(ho:∀b∈fp,∃o,s.heap.get? b=some o/\∀v,o.data≠ .cell v):Inv X (pins++zcH fp s.heap) σ H s :=
 I.pins_of fun p hp=>(List.mem_append.mp hp).elim (fun z=>I.pin p (List.mem_append_right _ z)) fun z=>by
  obtain⟨hb,e⟩:=zfN z;obtain⟨f0,f1,f2,_⟩:=hf p.1 hb;obtain⟨o,e',d⟩:=ho p.1 hb;rw[e] at e';cases e';exact⟨e,f0,f1,f2,d⟩
theorem Inv.unpinned{pins pl:List (Addr×Obj)}{σ:St}{H:Hp}{s:Shared}(I:Inv X (pins++pl) σ H s):Inv X pins σ H s:=I.pins_of fun p hp=>I.pin p (List.mem_append_right _ (List.mem_append_left _ hp))
theorem zwt{iter:Expr}{body:List Stmt}{wi:TI}{g:TG}{tb:TS}{pos:Pos}(hp:PassesOwn (model X.prog X.w) X.A X.env X.xe)(hc:X.calm=true)(hi:PI X tg iter wi)(hg:PG X tg g)(hb:PSs X body tb)
  (hs:∀x,foldedSetIterable iter X.env x=pure x:=by intro _;rfl):PS X (.For tg iter body [] pos) (zwi wi g tb):=by
 intro pins s σ H D I h;refine wpAny_For (thn (hi pins s σ H _ I h) fun v s1 h1=>thn h1 fun itv s2 h2=>?_) hs;obtain⟨it,fp,tn,J,H2,e,I2,T,st2,f2,W,⟨m0,w0⟩,turn⟩:=h2;subst e;have stat:∀{H':Hp},(∀b∈fp,H' b=none)->∀b∈fp,zfd X pins H' b:=fun hn b hb=>⟨hn b hb,(f2 b hb).2⟩
 refine codeAny_forLoop_any (fun n s'=>∃i σ' H',Inv X pins σ' H' s'/\tn i s'.heap/\(∀b∈fp,H' b=none)/\W i n σ' H') ?_ m0 ⟨0,σ,H2,I2,st2,fun b hb=>(f2 b hb).1,w0⟩;rintro n s3 ⟨i,σ3,H3,I3,st3,fr3,w3⟩;rcases turn i n σ3 H3 w3 with⟨stop,qn⟩ | ⟨go,N,hN,step⟩
 .refine wpAny_passesOwn hp (thn (T.done X rfl rfl rfl hc i pins s3 σ3 H3 X.xe I3 (stat fr3) st3 stop) fun r s4 ⟨hr,I4⟩=>?_);subst hr;exact wpAny_execs_nil ⟨σ3,H3,I4,qn⟩
 .refine wpAny_passesOwn hp (thn (T.item X rfl rfl rfl hc i pins s3 σ3 H3 X.xe I3 (stat fr3) st3 go) fun r s4 ⟨u,hr,h4⟩=>?_);subst hr;refine wpAny_passesOwn hp (thn h4 fun _ s5 ⟨x,H5,I5,r5,y5,st5,fr5⟩=>?_);have I5':=I5.pinned (stat fr5) (T.obj _ _ st5);refine wpAny_passesOwn hp (thn (hg _ s5 σ3 H5 x u _ I5' r5 (step x H5 y5)) fun _ s6 ⟨σ6,H6,I6,q6⟩=>?_);refine wpAny_passesOwn hp (thn (hb _ s6 σ6 H6 _ I6 q6) fun f s7 q7=>?_);have again:∀{σ7:St} {H7:Hp},Inv X (pins++zcH fp s5.heap) σ7 H7 s7->N σ7 H7->∃m,m < n/\∃i σ' H',Inv X pins σ' H' s7/\tn i s7.heap/\(∀b∈fp,H' b=none)/\W i m σ' H':=fun{σ7 H7} I7 n7=>by
   obtain⟨m',hm,w7⟩:=hN σ7 H7 n7;refine⟨m',hm,i+1,σ7,H7,I7.unpinned,T.keep _ _ _ st5 fun b hb o e=>(I7.pin (b,o) (List.mem_append_right _ (List.mem_append_right _ (zbF hb e)))).1,fun b hb=>?_,w7⟩;obtain⟨o,e,d⟩:=T.obj _ _ st5 b hb;exact(I7.pin (b,o) (List.mem_append_right _ (List.mem_append_right _ (zbF hb e)))).2.1
  cases f with
  | next=>obtain⟨σ7,H7,I7,n7⟩:=q7;exact again I7 n7
  | cont=>obtain⟨σ7,H7,I7,n7⟩:=q7;exact again I7 n7
  | brk=>obtain⟨σ7,H7,I7,q7⟩:=q7;exact⟨σ7,H7,I7.unpinned,q7⟩
  | ret v=>obtain⟨x7,σ7,H7,I7,r7,q7⟩:=q7;exact⟨x7,σ7,H7,I7.unpinned,r7,q7⟩
end
abbrev R2:=V->V->Hp->VK->Prop
def OpR(X:Cx)(f:Value->Value->Sem Value)(r:R2):Prop :=
 ∀(pins:List (Addr×Obj)) (s:Shared) (σ:St) (H:Hp) (x y:V) (v u:Value) (Q:VK),Inv X pins σ H s->RelV x v->RelV y u->r x y H Q ->
  wpAny (model X.prog X.w) X.A (f v u) (EP X pins σ Q) X.xe s
def UnR(X:Cx)(f:Value->Sem Value)(r:V->Hp->VK->Prop):Prop :=
 ∀(pins:List (Addr×Obj)) (s:Shared) (σ:St) (H:Hp) (x:V) (v:Value) (Q:VK),Inv X pins σ H s->RelV x v->r x H Q ->
  wpAny (model X.prog X.w) X.A (f v) (EP X pins σ Q) X.xe s
def zL(X:Cx)(f:Value)(r:List V->Hp->VK->Prop):Prop :=
 ∀(pins:List (Addr×Obj)) (s:Shared) (σ:St) (H:Hp) (xs:List V) (us:List Value) (Q:VK),Inv X pins σ H s->Vals xs us->r xs H Q ->
  wpAny (model X.prog X.w) X.A (call f us) (EP X pins σ Q) X.xe s
def tOp(r:R2)(ta tb:TE):TE:=fun σ H Q=>ta σ H fun x H1=>tb σ H1 fun y H2=>r x y H2 Q
def tUn(r:V->Hp->VK->Prop)(ta:TE):TE:=fun σ H Q=>ta σ H fun x H1=>r x H1 Q
def rI(C:Int->Int->Prop)(g:Int->Int->V):R2:=fun x y H Q=>∃i j,x= .int i/\y= .int j/\C i j/\Q (g i j) H
def rI0(g:Int->Int->V):R2:=fun x y H Q=>∃i j,x= .int i/\y= .int j/\Q (g i j) H
def rU(g:Int->V):V->Hp->VK->Prop:=fun x H Q=>∃i,x= .int i/\Q (g i) H
section
variable{X:Cx}{a b c:Expr}{ta tb tc:TE}{pos:Pos}
theorem zvC(ha:PE X a ta)(hb:PE X b tb){pins:List (Addr×Obj)}{s:Shared}{σ:St}{H:Hp}{R:V->V->Hp->Prop}(I:Inv X pins σ H s)
  (h:ta σ H fun x H1=>tb σ H1 fun y H2=>R x y H2){Q:Value->Shared->Prop}{f:Value->Value->Sem Value}
  (hf:∀v u s2 x y H2,Inv X pins σ H2 s2->RelV x v->RelV y u->R x y H2->wpAny (model X.prog X.w) X.A (f v u) Q X.xe s2) :
  wpAny (model X.prog X.w) X.A (eval a X.env) (fun v s₁=>wpAny (model X.prog X.w) X.A (eval b X.env) (fun u s₂=>wpAny (model X.prog X.w) X.A (f v u) Q X.xe s₂) X.xe s₁) X.xe s:=by
 refine thn (ha pins s σ H _ I h) fun v s1 ⟨x,H1,I1,r1,q1⟩=>?_
 refine thn (hb pins s1 σ H1 _ I1 q1) fun u s2 ⟨y,H2,I2,r2,q2⟩=>?_
 exact hf v u s2 x y H2 I2 r1 r2 q2
theorem zyf{op:Operator}{r:R2}(ho:OpR X (binaryOp op) r)(ha:PE X a ta)(hb:PE X b tb):PE X (.BinOp a op b pos) (tOp r ta tb):=by
 intro pins s σ H Q I h;exact wpAny_BinOp (zvC ha hb I h fun v u s2 x y H2 I2 rx ry q=>ho pins s2 σ H2 x y v u Q I2 rx ry q)
theorem zx7{op:UnaryOp}{r:V->Hp->VK->Prop}(ho:UnR X (unaryOp op) r)(ha:PE X a ta):PE X (.UnaryOp op a pos) (tUn r ta):=by
 intro pins s σ H Q I h;exact UnaryOp_ (thn (ha pins s σ H _ I h) fun v s1 ⟨x,H1,I1,r1,q1⟩=>ho pins s1 σ H1 x v Q I1 r1 q1)
theorem opI{f:Value->Value->Sem Value}{C:Int->Int->Prop}{g:Int->Int->Int}
  (rule:∀(i j:Int) (t u:Tok) (s:Shared) (Q:Value->Shared->Prop) (E:Value->Shared->Prop),C i j->Q (.int (g i j) s.toks) { s with toks:=s.toks+1 }->wpAny (model X.prog X.w) X.A (f (.int i t) (.int j u)) Q E s) :
  OpR X f (rI C fun i j=> .int (g i j)):=by
 intro pins s σ H x y v u Q I rx ry h;obtain⟨i,j,rfl,rfl,hc,q⟩:=h;obtain⟨t,rfl⟩:=rx;obtain⟨t',rfl⟩:=ry;exact rule i j t t' s _ _ hc ⟨.int (g i j),H,I.tok _,⟨_,rfl⟩,q⟩
theorem zxU{f:Value->Value->Sem Value}{g:Int->Int->Int}
  (rule:∀(i j:Int) (t u:Tok) (s:Shared) (Q:Value->Shared->Prop) (E:Value->Shared->Prop),Q (.int (g i j) s.toks) { s with toks:=s.toks+1 }->wpAny (model X.prog X.w) X.A (f (.int i t) (.int j u)) Q E s) :
  OpR X f (rI0 fun i j=> .int (g i j)):=by
 intro pins s σ H x y v u Q I rx ry h;obtain⟨i,j,rfl,rfl,q⟩:=h;obtain⟨t,rfl⟩:=rx;obtain⟨t',rfl⟩:=ry;exact rule i j t t' s _ _ ⟨.int (g i j),H,I.tok _,⟨_,rfl⟩,q⟩
theorem zvX{f:Value->Value->Sem Value}{g:Int->Int->Bool}
  (rule:∀(i j:Int) (t u:Tok) (s:Shared) (Q:Value->Shared->Prop) (E:Value->Shared->Prop),Q (.bool (g i j)) s->wpAny (model X.prog X.w) X.A (f (.int i t) (.int j u)) Q E s) :
  OpR X f (rI0 fun i j=> .bl (g i j)):=by
 intro pins s σ H x y v u Q I rx ry h;obtain⟨i,j,rfl,rfl,q⟩:=h;obtain⟨t,rfl⟩:=rx;obtain⟨t',rfl⟩:=ry;exact rule i j t t' s _ _ ⟨.bl (g i j),H,I,rfl,q⟩
def ztm(i j:Int):Prop:=0<=j/\j<=1000000/\i.natAbs < 2^64
def ziN(i j:Int):Prop:=(-(2^64) < i/\i < 2^64)\/(-(2^64) < j/\j < 2^64)
theorem ziN.ok{i j:Int}(h:ziN i j):IntMulOk i j:=by
 rcases h with⟨h1,h2⟩ | ⟨h1,h2⟩
 .exact .of_left (intBits_le_64 h1 h2)
 .exact .of_right (intBits_le_64 h1 h2)
theorem zkR:OpR X (binaryOp .Add) (rI0 fun i j=> .int (i+j)):=zxU fun _ _ _ _ _ _ _ q=>add_int q
theorem zj5:OpR X (binaryOp .Sub) (rI0 fun i j=> .int (i - j)):=zxU fun _ _ _ _ _ _ _ q=>sub_int q
theorem zqM:OpR X (binaryOp .Mult) (rI ziN fun i j=> .int (i*j)):=opI fun _ _ _ _ _ _ _ hc q=>mul_int q hc.ok
theorem zf6:OpR X (binaryOp .Mod) (rI (fun _ j=>0 < j) fun i j=> .int (i % j)):=opI fun i j _ _ _ _ _ hc q=>by
 have h1:(0:Int) < j:=hc;exact mod_int' (by omega) (by rw[Int.fmod_eq_emod_of_nonneg i (by omega)];exact q)
theorem zqu:OpR X (binaryOp .Pow) (rI ztm fun i j=> .int (i^j.toNat)):=opI fun _ _ _ _ _ _ _ hc q=>pow_int_small hc.1 hc.2.1 hc.2.2 q
theorem unI{f:Value->Sem Value}{g:Int->Int}
  (rule:∀(i:Int) (t:Tok) (s:Shared) (Q:Value->Shared->Prop) (E:Value->Shared->Prop),Q (.int (g i) s.toks) { s with toks:=s.toks+1 }->wpAny (model X.prog X.w) X.A (f (.int i t)) Q E s) :
  UnR X f (rU fun i=> .int (g i)):=by
 intro pins s σ H x v Q I rx h;obtain⟨i,rfl,q⟩:=h;obtain⟨t,rfl⟩:=rx;exact rule i t s _ _ ⟨.int (g i),H,I.tok _,⟨_,rfl⟩,q⟩
theorem zcn:UnR X (unaryOp .USub) (rU fun i=> .int (-i)):=unI fun _ _ _ _ _ q=>neg_int q
end
def zxL:V->V->Bool
 | .non, .non=>true | .non, .int _=>true | .int _, .non=>true | .non, .bl _=>true | .bl _, .non=>true | .non, .str _=>true | .str _, .non=>true
 | .int _, .int _=>true | .bl _, .bl _=>true | .str _, .str _=>true | .byt _, .byt _=>true
 | .int _, .str _=>true | .str _, .int _=>true | .bl _, .str _=>true | .str _, .bl _=>true
 | _,_=>false
def rEq:R2:=fun x y H Q=>zxL x y=true/\Q (.bl (decide (x=y))) H
def rNe:R2:=fun x y H Q=>zxL x y=true/\Q (.bl (!decide (x=y))) H
theorem zob{i j:Int}:decide (V.int i=V.int j)=(i==j):=by
 rw[Bool.eq_iff_iff];simp
theorem zpZ{i j:Bool}:decide (V.bl i=V.bl j)=(i==j):=by
 rw[Bool.eq_iff_iff];simp
theorem znp{i j:Str}:decide (V.str i=V.str j)=(i==j):=by
 rw[Bool.eq_iff_iff];simp
theorem znF{i j:Array UInt8}:decide (V.byt i=V.byt j)=(i.toList==j.toList):=by
 rw[Bool.eq_iff_iff];cases i;cases j;simp
section
variable{X:Cx}{a b c:Expr}{ta tb tc:TE}{pos:Pos}
theorem zU{pins:List (Addr×Obj)}{σ:St}{H:Hp}{s:Shared}{Q:VK}{k k':Bool}(I:Inv X pins σ H s)(q:Q (.bl k) H)(e:k=k'):EP X pins σ Q (.bool k') s:=by
 subst e;exact⟨.bl k,H,I,rfl,q⟩
theorem zu5:OpR X (compareOp .Eq) rEq:=by
 intro pins s σ H x y v u Q I rx ry h;obtain⟨hs,q⟩:=h;cases x with
 | non =>
  cases rx;cases y with
  | non=>cases ry;exact PySem.EqNone.eq_none_none (zU I q (by simp))
  | bl j=>cases ry;exact PySem.EqNone.eq_none_bool (zU I q (by simp))
  | int j=>obtain⟨t',rfl⟩:=ry;exact PySem.EqNone.eq_none_int (zU I q (by simp))
  | str j=>obtain⟨t',rfl⟩:=ry;exact PySem.EqNone.eq_none_str (zU I q (by simp))
  | _=>exact absurd (show false=true from hs) Bool.false_ne_true
 | bl i =>
  cases rx;cases y with
  | non=>cases ry;exact PySem.EqNone.eq_bool_none (zU I q (by simp))
  | bl j=>cases ry;exact eq_bool (zU I q zpZ)
  | str j=>obtain⟨t',rfl⟩:=ry;exact PySem.EqMixed.eq_bool_str (zU I q (by simp))
  | _=>exact absurd (show false=true from hs) Bool.false_ne_true
 | int i =>
  obtain⟨t,rfl⟩:=rx;cases y with
  | non=>cases ry;exact PySem.EqNone.eq_int_none (zU I q (by simp))
  | int j=>obtain⟨t',rfl⟩:=ry;exact eq_int (zU I q zob)
  | str j=>obtain⟨t',rfl⟩:=ry;exact PySem.EqMixed.eq_int_str (zU I q (by simp))
  | _=>exact absurd (show false=true from hs) Bool.false_ne_true
 | str i =>
  obtain⟨t,rfl⟩:=rx;cases y with
  | non=>cases ry;exact PySem.EqNone.eq_str_none (zU I q (by simp))
  | bl j=>cases ry;exact PySem.EqMixed.eq_str_bool (zU I q (by simp))
  | int j=>obtain⟨t',rfl⟩:=ry;exact PySem.EqMixed.eq_str_int (zU I q (by simp))
  | str j=>obtain⟨t',rfl⟩:=ry;exact eq_str (zU I q znp)
  | _=>exact absurd (show false=true from hs) Bool.false_ne_true
 | byt i =>
  obtain⟨t,rfl⟩:=rx;cases y with
  | byt j=>obtain⟨t',rfl⟩:=ry;exact PySem.W.eq_bytes (zU I q znF)
  | _=>exact absurd (show false=true from hs) Bool.false_ne_true
 | _=>cases y<;>exact absurd (show false=true from hs) Bool.false_ne_true
theorem zyK:OpR X (compareOp .NotEq) rNe:=by
 intro pins s σ H x y v u Q I rx ry h;obtain⟨hs,q⟩:=h;cases x with
 | non =>
  cases rx;cases y with
  | non=>cases ry;exact PySem.EqNone.ne_none_none (zU I q (by simp))
  | bl j=>cases ry;exact PySem.EqNone.ne_none_bool (zU I q (by simp))
  | int j=>obtain⟨t',rfl⟩:=ry;exact PySem.EqNone.ne_none_int (zU I q (by simp))
  | str j=>obtain⟨t',rfl⟩:=ry;exact PySem.EqNone.ne_none_str (zU I q (by simp))
  | _=>exact absurd (show false=true from hs) Bool.false_ne_true
 | bl i =>
  cases rx;cases y with
  | non=>cases ry;exact PySem.EqNone.ne_bool_none (zU I q (by simp))
  | bl j=>cases ry;exact ne_bool (zU I q (congrArg not zpZ))
  | str j=>obtain⟨t',rfl⟩:=ry;exact PySem.EqMixed.ne_bool_str (zU I q (by simp))
  | _=>exact absurd (show false=true from hs) Bool.false_ne_true
 | int i =>
  obtain⟨t,rfl⟩:=rx;cases y with
  | non=>cases ry;exact PySem.EqNone.ne_int_none (zU I q (by simp))
  | int j=>obtain⟨t',rfl⟩:=ry;exact ne_int (zU I q (congrArg not zob))
  | str j=>obtain⟨t',rfl⟩:=ry;exact PySem.EqMixed.ne_int_str (zU I q (by simp))
  | _=>exact absurd (show false=true from hs) Bool.false_ne_true
 | str i =>
  obtain⟨t,rfl⟩:=rx;cases y with
  | non=>cases ry;exact PySem.EqNone.ne_str_none (zU I q (by simp))
  | bl j=>cases ry;exact PySem.EqMixed.ne_str_bool (zU I q (by simp))
  | int j=>obtain⟨t',rfl⟩:=ry;exact PySem.EqMixed.ne_str_int (zU I q (by simp))
  | str j=>obtain⟨t',rfl⟩:=ry;exact ne_str (zU I q (congrArg not znp))
  | _=>exact absurd (show false=true from hs) Bool.false_ne_true
 | byt i =>
  obtain⟨t,rfl⟩:=rx;cases y with
  | byt j=>obtain⟨t',rfl⟩:=ry;exact PySem.W.ne_bytes (zU I q (congrArg not znF))
  | _=>exact absurd (show false=true from hs) Bool.false_ne_true
 | _=>cases y<;>exact absurd (show false=true from hs) Bool.false_ne_true
theorem zlx:OpR X (compareOp .Lt) (rI0 fun i j=> .bl (decide (i < j))):=zvX fun _ _ _ _ _ _ _ q=>lt_int q
theorem zlv:OpR X (compareOp .LtE) (rI0 fun i j=> .bl (decide (i<=j))):=zvX fun _ _ _ _ _ _ _ q=>le_int q
theorem zxG:OpR X (compareOp .GtE) (rI0 fun i j=> .bl (decide (j<=i))):=zvX fun _ _ _ _ _ _ _ q=>ge_int q
theorem zpr:OpR X (compareOp .In) (fun x y H Q=>∃i j,x= .str i/\y= .str j/\Q (.bl (!(Builtin.Str.occurrences j i 0 j.length 1).isEmpty)) H):=by
 intro pins s σ H x y v u Q I rx ry h;obtain⟨i,j,rfl,rfl,q⟩:=h;obtain⟨t,rfl⟩:=rx;obtain⟨t',rfl⟩:=ry;exact in_str (zU I q rfl)
theorem OpR.or{f:Value->Value->Sem Value}{r r':R2}(h:OpR X f r)(h':OpR X f r'):OpR X f (fun x y H Q=>r x y H Q\/r' x y H Q):=by
 intro pins s σ H x y v u Q I rx ry q;rcases q with q | q
 .exact h pins s σ H x y v u Q I rx ry q
 .exact h' pins s σ H x y v u Q I rx ry q
theorem zaD(b:Expr){op:CmpOp}(h:op≠ .In:=by decide)(h2:op≠ .NotIn:=by decide):behindInMarks op b=false:=by
 have e1:(op==CmpOp.In)=false:=by cases op<;>first | rfl | exact absurd rfl h
 have e2:(op==CmpOp.NotIn)=false:=by cases op<;>first | rfl | exact absurd rfl h2
 cases b<;>simp[behindInMarks,e1,e2]
theorem zuj{op:CmpOp}{r:R2}(ho:OpR X (compareOp op) r)(ha:PE X a ta)(hb:PE X b tb)(hm:behindInMarks op b=false):PE X (.Compare a [op] [b] pos) (tOp r ta tb):=by
 intro pins s σ H Q I h;exact wpAny_Compare1 (zvC ha hb I h fun v u s2 x y H2 I2 rx ry q=>ho pins s2 σ H2 x y v u Q I2 rx ry q) hm
def zhk(t:TE):TT:=fun σ H Q=>t σ H fun x H'=>∃k,x= .bl k/\Q k H'
theorem zuw{op:CmpOp}{r:R2}(ho:OpR X (compareOp op) r)(ha:PE X a ta)(hb:PE X b tb)(hm:behindInMarks op b=false):PT X (.Compare a [op] [b] pos) (zhk (tOp r ta tb)):=by
 intro pins s σ H Q I h;refine wpAny_isTrue_Compare1 (thn (ha pins s σ H _ I h) fun v s1 ⟨x,H1,I1,r1,q1⟩=>thn (hb pins s1 σ H1 _ I1 q1) fun u s2 ⟨y,H2,I2,r2,q2⟩ =>
  thn (ho pins s2 σ H2 x y v u _ I2 r1 r2 q2) fun c s3 ⟨z,H3,I3,r3,k,e,q3⟩=>?_) hm
 subst e;cases r3;exact wpAny_truthy_bool ⟨H3,I3,q3⟩
def zhD(r r':R2)(ta tb tc:TE):TE:=fun σ H Q=>ta σ H fun x H1=>tb σ H1 fun y H2=>r x y H2 fun z H3=>∃k,z= .bl k /\
 (if k=true then tc σ H3 fun w' H4=>r' y w' H4 Q else Q (.bl false) H3)
theorem zqq{op op':CmpOp}{r r':R2}(ho:OpR X (compareOp op) r)(ho':OpR X (compareOp op') r')(ha:PE X a ta)(hb:PE X b tb)(hc:PE X c tc)
  (hm:lastMarks [op,op'] [b,c]=false:=by with_unfolding_all rfl):PE X (.Compare a [op,op'] [b,c] pos) (zhD r r' ta tb tc):=by
 intro pins s σ H Q I h;refine Compare_chain (thn (ha pins s σ H _ I h) fun v s1 ⟨x,H1,I1,r1,q1⟩=>chain_link (thn (hb pins s1 σ H1 _ I1 q1) fun u s2 ⟨y,H2,I2,r2,q2⟩ =>
  thn (ho pins s2 σ H2 x y v u _ I2 r1 r2 q2) fun d s3 ⟨z,H3,I3,r3,k,e,q3⟩=>?_)) hm
 subst e;cases r3;refine wpAny_truthy_bool ?_;cases k with
 | false=>exact ite_ff ⟨.bl false,H3,I3,rfl,q3⟩
 | true=>exact ite_tt (chain_last (thn (hc pins s3 σ H3 _ I3 q3) fun w' s4 ⟨z',H4,I4,r4,q4⟩=>ho' pins s4 σ H4 y z' u w' Q I4 r2 r4 q4))
theorem zsq{op op':CmpOp}{r r':R2}(ho:OpR X (compareOp op) r)(ho':OpR X (compareOp op') r')(ha:PE X a ta)(hb:PE X b tb)(hc:PE X c tc)
  (hm:lastMarks [op,op'] [b,c]=false:=by with_unfolding_all rfl):PT X (.Compare a [op,op'] [b,c] pos) (zhk (zhD r r' ta tb tc)):=by
 intro pins s σ H Q I h;refine isTrue_chain (thn (ha pins s σ H _ I h) fun v s1 ⟨x,H1,I1,r1,q1⟩=>test_link (thn (hb pins s1 σ H1 _ I1 q1) fun u s2 ⟨y,H2,I2,r2,q2⟩ =>
  thn (ho pins s2 σ H2 x y v u _ I2 r1 r2 q2) fun d s3 ⟨z,H3,I3,r3,k,e,q3⟩=>?_)) hm
 subst e;cases r3;refine wpAny_truthy_bool ?_;cases k with
 | false =>
  obtain⟨k',e',q'⟩:=q3;cases e';exact ite_ff ⟨H3,I3,q'⟩
 | true =>
  refine ite_tt (test_last (thn (hc pins s3 σ H3 _ I3 q3) fun w' s4 ⟨z',H4,I4,r4,q4⟩=>thn (ho' pins s4 σ H4 y z' u w' _ I4 r2 r4 q4) fun d' s5 ⟨z2,H5,I5,r5,k2,e2,q5⟩=>?_));subst e2;cases r5;exact wpAny_truthy_bool ⟨H5,I5,q5⟩
theorem zfO:(sizeLine:Nat) < 2^63:=by rw[sizeLine_eq];decide
theorem zmJ:OpR X (binaryOp .Add) (fun x y H Q=>∃i j,x= .str i/\y= .str j/\i.length+j.length<=sizeLine/\Q (.str (i++j)) H):=by
 intro pins s σ H x y v u Q I rx ry h;obtain⟨i,j,rfl,rfl,hz,q⟩:=h;obtain⟨t,rfl⟩:=rx;obtain⟨t',rfl⟩:=ry;exact add_str (fun t' tk=>⟨.str (i++j),H,I.tok _,⟨_,rfl⟩,q⟩) hz
theorem vals1{x:V}{us:List Value}(r:Vals [x] us):∃u,us=[u]/\RelV x u:=by
 cases r with
 | cons r1 r2=>cases r2;exact⟨_,rfl,r1⟩
theorem vals2{x y:V}{us:List Value}(r:Vals [x,y] us):∃u w',us=[u,w']/\RelV x u/\RelV y w':=by
 cases r with
 | cons r1 r2 =>
  cases r2 with
  | cons r3 r4=>cases r4;exact⟨_,_,rfl,r1,r3⟩
theorem zr5:zL X (.builtin "abs") (fun xs H Q=>∃i,xs=[.int i]/\Q (.int (if i < 0 then -i else i)) H):=by
 intro pins s σ H xs us Q I r h;obtain⟨i,rfl,q⟩:=h;obtain⟨u,rfl,t,rfl⟩:=vals1 r;exact call_abs_int fun u tk=>⟨.int (if i < 0 then -i else i),H,I.tok _,⟨_,rfl⟩,q⟩
theorem zon(hc:X.calm=true):zL X (.builtin "max") (fun xs H Q=>∃i j,xs=[.int i, .int j]/\Q (.int (if j > i then j else i)) H):=by
 intro pins s σ H xs us Q I r h;obtain⟨i,j,rfl,q⟩:=h;obtain⟨u,w',rfl,⟨t,rfl⟩,⟨t',rfl⟩⟩:=vals2 r;refine max_two_ints (I.ok.hd hc) fun h' tk k=>⟨_,H,I.kept k,?_,q⟩
 by_cases hj:j > i
 .rw[if_pos hj,if_pos hj];exact⟨_,rfl⟩
 .rw[if_neg hj,if_neg hj];exact⟨_,rfl⟩
theorem zpE(hc:X.calm=true):zL X (.builtin "min") (fun xs H Q=>∃i j,xs=[.int i, .int j]/\Q (.int (if j < i then j else i)) H):=by
 intro pins s σ H xs us Q I r h;obtain⟨i,j,rfl,q⟩:=h;obtain⟨u,w',rfl,⟨t,rfl⟩,⟨t',rfl⟩⟩:=vals2 r;refine min_two_ints (I.ok.hd hc) fun h' tk k=>⟨_,H,I.kept k,?_,q⟩
 by_cases hj:j < i
 .rw[if_pos hj,if_pos hj];exact⟨_,rfl⟩
 .rw[if_neg hj,if_neg hj];exact⟨_,rfl⟩
end
structure zkC(h:Heap)(x dx C:Addr)(mA:Str->Option Value):Prop where
 obj:h.get? x=some (instObj C dx)
 ns:h.Ns1 dx mA
 ne:dx≠x
theorem zpG{h:Heap}{dx:Addr}{mA:Str->Option Value}(n:h.Ns1 dx mA):∃od,h.get? dx=some od/\∀name,lookIn name od=some (mA name):=by
 obtain⟨o,es,ep,ho,hd,hk,_,hm⟩:=n;refine⟨o,ho,fun name=>?_⟩;have e:=hm name;unfold nsFind findBy at e;rw[<- Array.find?_toList] at e;unfold lookIn;rw[hd];dsimp only;split
 .rename_i y q;rw[q] at e;exact congrArg some e
 .rename_i q;rw[q] at e;have a:es.toList.any (·.refKey)=false:=by
   rw[List.any_eq_false];intro y hy;obtain⟨z,t,hkey⟩:=hk y (Array.mem_toList_iff.mp hy);simp[DictEntry.refKey,hkey]
  have a':¬ es.toList.any (·.refKey)=true:=by rw[a];exact Bool.false_ne_true
  rw[if_neg a'];exact congrArg some e
theorem zkC.look{h:Heap}{x dx C:Addr}{mA:Str->Option Value}(I:zkC h x dx C mA):∃od,PySem.W.InstAt h x (instObj C dx) C (some od)/\∀name,lookIn name od=some (mA name) :=
 let ⟨od,ho,hl⟩:=zpG I.ns
 ⟨od,⟨I.obj,rfl,rfl,ho⟩,hl⟩
section
variable{prog:Program}{w:World}{A:Around}{E:Value->Shared->Prop}{s:Shared}{K:Frag}{x dx C f:Addr}{mA:Str->Option Value}{name:Str}{v:Value}
theorem zod{expr:Bool}{Q:Value->Shared->Prop}(X:K.In s.heap)(I:zkC s.heap x dx C mA)(hg:plainGet K C name=true)(hh:hasDictIn K C=true)
  (ha:findIn K (.ref C) name=some none)(hv:mA name=some v)(hv':PySem.W.handedIn v=true)(h:Q v { s with toks:=s.toks+1 }) :
  wpAny (model prog w) A (getAttr (.ref x) name expr) Q E s:=by
 obtain⟨od,J,hl⟩:=I.look;exact PySem.W.get_value X J (plainGet_of hg).1 (PySem.W.findObj_own hh ha rfl (by rw[hl,hv])) hv' h
theorem zsm{pl:Sem Bool}{Q:Value×List Value->Shared->Prop}(X:K.In s.heap)(I:zkC s.heap x dx C mA)(hg:plainGet K C name=true)
  (hf:findIn K (.ref C) name=some (some (.ref f)))(ht:isFn K (.ref f)=true)(hv:mA name=none)(h:Q (.ref f,[.ref x]) s) :
  wpAny (model prog w) A (getMethod (.ref x) name pl) Q E s:=by
 obtain⟨od,J,hl⟩:=I.look;exact PySem.W.method_fn X J (plainGet_of hg).1 (plainGet_of hg).2 hf (beq_iff_eq.mp ht) (by show(lookIn name od).map (·.isSome)=some false;rw[hl,hv];rfl) h
theorem zkI{ns:List Str}{Q:Unit->Shared->Prop}(X:K.In s.heap)(I:zkC s.heap x dx C mA)
  (hs:findIn K (.ref C) "__setattr__"=some (some (.builtin "object.__setattr__")))(hp:PySem.W.plainOver K C=true)(ht:takerIn K C name=some none)(hh:hasDictIn K C=true)
  (hw:PySem.Within mA ns)(hsz:ns.length<=sizeLine)
  (h:∀h',zkC h' x dx C (fun y=>if y=name then some v else mA y)->Heap.SameBut dx s.heap h'->Q () { s with heap:=h',toks:=s.toks+2 }) :
  wpAny (model prog w) A (setAttr (.ref x) name v) Q E s:=by
 obtain⟨od,J,hl⟩:=I.look;refine PySem.W.set_plain X J hs (PySem.W.osa_open (s:={ s with toks:=s.toks+1 }) (r:=none) X J hp ht fun b=>?_);obtain⟨cd,hc,hd'⟩:=PySem.W.any_some hh;have hx:s.heap.get? x=some ⟨.ref C,some dx, .plain, #[]⟩:=I.obj;refine wpAny_bind (wpAny_pure (wpAny_bind (wpAny_bind (wpAny_loadPart hx (wpAny_bind (PySem.W.Looks.here (s:={ s with toks:=s.toks+1 }) (PySem.W.looks_clsIn X hc) ?_))))));rw[hd'];refine wpAny_pure (a:=some dx) (wpAny_bind (wpAny_pure (wpAny_bind ?_)));refine wpAny_nsSet1 (s:={ s with toks:=s.toks+1 }) I.ns fun h' hn2 hs2=>?_
 obtain⟨oD,esD,epD,hoD,hdD,hcD⟩:=hn2.count (PySem.Within.cons name v hw);refine wpAny_bind (wpAny_lookBehind hoD (by rw[hdD];exact pastItsLine_dict (Nat.le_trans hcD (by rw[List.length_cons];omega))) ?_);exact wpAny_pure (h _ ⟨(hs2.2 _ (Ne.symm I.ne)).trans I.obj,hn2,I.ne⟩ hs2)
theorem zq9{R:Result->Shared->Prop}{vs:List Value}{kw:List (Str×Value)}(X:K.In s.heap)(hm:makesIn K C=true)
  (hi:findIn K (.ref C) "__init__"=some (some (.ref f)))(hf:PySem.W.typeIn K (.ref f)=some (.type "function"))
  (h:codeAny (model prog w) (A.under (.builtin "type.__call__" ⟨.ref C::vs,kw⟩)) (.call (.ref f) ⟨.ref (s.heap.objs.size+1)::vs,kw⟩) (PySem.W.InitBack (s.heap.objs.size+1) R)
   {s with heap:=(s.heap.push emptyDict).push (instObj C s.heap.objs.size) }) :
  codeAny (model prog w) A (.call (.ref C) ⟨vs,kw⟩) R s:=by
 obtain⟨hh,g,d,t,os⟩:=s;exact PySem.W.make_core (PySem.W.makes_of X hm) (PySem.W.looks_findIn X hi) (fun self=>PySem.W.bind_fn X self hf) (.inl rfl) h
end
def zc7(f:Str)(v:V):List (Str×V)->List (Str×V)
 | []=>[(f,v)]
 | (g,x)::r=>if g=f then(g,v)::r else(g,x)::zc7 f v r
theorem zgg(f g:Str)(v:V):∀fs:List (Str×V),(zc7 f v fs).lookup g=if g=f then some v else fs.lookup g
 | []=>by
  show List.lookup g [(f,v)]=_;by_cases h:g=f
  .have hb:(g==f)=true:=beq_iff_eq.mpr h;simp only[List.lookup,hb,if_pos h]
  .have hb:(g==f)=false:=beq_eq_false_iff_ne.mpr h;simp only[List.lookup,hb,if_neg h]
 | (k,x)::r=>by
  have ih:=zgg f g v r;rw[show zc7 f v ((k,x)::r)=(if k=f then(k,v)::r else(k,x)::zc7 f v r) from rfl];by_cases hk:k=f
  .rw[if_pos hk];by_cases h:g=k
   .have hb:(g==k)=true:=beq_iff_eq.mpr h;simp only[List.lookup,hb,if_pos (h.trans hk)]
   .have hb:(g==k)=false:=beq_eq_false_iff_ne.mpr h;simp only[List.lookup,hb,if_neg (fun e:g=f=>h (e.trans hk.symm))]
  .rw[if_neg hk];by_cases h:g=k
   .have hb:(g==k)=true:=beq_iff_eq.mpr h;simp only[List.lookup,hb,if_neg (fun e:g=f=>hk (h.symm.trans e))]
   .have hb:(g==k)=false:=beq_eq_false_iff_ne.mpr h;simp only[List.lookup,hb];exact ih
theorem zfZ(f:Str)(v:V):∀fs:List (Str×V),f∈(zc7 f v fs).map (·.1)/\∀g,g∈fs.map (·.1)->g∈(zc7 f v fs).map (·.1)
 | []=>⟨by simp[zc7],fun g h=>by simp at h⟩
 | (k,x)::r=>by
  obtain⟨i1,i2⟩:=zfZ f v r;rw[show zc7 f v ((k,x)::r)=(if k=f then(k,v)::r else(k,x)::zc7 f v r) from rfl];by_cases hk:k=f
  .rw[if_pos hk];subst hk;exact⟨by simp,fun g h=>by simpa using h⟩
  .rw[if_neg hk];refine⟨?_,fun g h=>?_⟩
   .rw[List.map_cons];exact List.mem_cons_of_mem _ i1
   .rw[List.map_cons] at h ⊢;rcases List.mem_cons.mp h with e | e
    .exact List.mem_cons.mpr (.inl e)
    .exact List.mem_cons_of_mem _ (i2 g e)
theorem zgK(f:Str)(v:V):∀fs:List (Str×V),(zc7 f v fs).length<=fs.length+1
 | []=>by simp[zc7]
 | (k,x)::r=>by
  have ih:=zgK f v r;rw[show zc7 f v ((k,x)::r)=(if k=f then(k,v)::r else(k,x)::zc7 f v r) from rfl];by_cases hk:k=f
  .rw[if_pos hk,List.length_cons,List.length_cons];omega
  .rw[if_neg hk,List.length_cons,List.length_cons];omega
theorem zc2.some_of{v:V}{o:Option Value}(r:zc2 (some v) o):∃u,o=some u/\RelV v u:=by
 cases o with
 | none=>exact(show False from r).elim
 | some u=>exact⟨u,rfl,r⟩
theorem zc2.none_of{o:Option Value}(r:zc2 none o):o=none:=by
 cases o with
 | none=>rfl
 | some u=>exact(show False from r).elim
theorem zo9{v:V}{u:Value}(r:RelV v u):PySem.W.handedIn u=true:=by
 cases v with
 | non=>cases (show u=Value.none from r);rfl
 | bl b=>cases (show u=Value.bool b from r);rfl
 | int i=>obtain⟨t,e⟩:=(show ∃t,u=Value.int i t from r);cases e;rfl
 | str x=>obtain⟨t,e⟩:=(show ∃t,u=Value.str x t from r);cases e;rfl
 | byt b=>obtain⟨t,e⟩:=(show ∃t,u=Value.bytes b t from r);cases e;rfl
 | flt b=>obtain⟨t,e⟩:=(show ∃t,u=Value.float b t from r);cases e;rfl
 | ref a=>cases (show u=Value.ref a from r);rfl
 | ty n=>cases (show u=Value.type n from r);rfl
section
variable{P:Program}{w:World}{H H':Hp}{h h':Heap}{a C dx:Addr}{fs fs':List (Str×V)}
theorem zd8(hok:HOk P w H h)(e:H a=some (.ins C dx fs)):∃mA,zkC h a dx C mA/\(∀f,zc2 (fs.lookup f) (mA f))/\PySem.Within mA (fs.map (·.1))/\fs.length<=1000/\H dx=some (.own a):=by
 obtain⟨d,z,ne,ob,mA,n,r,q⟩:=(show zai P w H h a (.ins C dx fs) from hok a _ e);exact⟨mA,⟨ob,n,ne⟩,r,q,z,d⟩
end
structure Cls(K:Frag)(C:Addr):Prop where
 pg:plainGet K C Str.empty=true
 hd:hasDictIn K C=true
 po:PySem.W.plainOver K C=true
 sa:findIn K (.ref C) "__setattr__"=some (some (.builtin "object.__setattr__"))
theorem Cls.get{K:Frag}{C:Addr}(c:Cls K C)(f:Str):plainGet K C f=true:=c.pg
def zbH(K:Frag)(C:Addr)(f:Str):Prop:=findIn K (.ref C) f=some none
theorem zbH.taker{K:Frag}{C:Addr}{f:Str}(n:zbH K C f):takerIn K C f=some none:=by
 unfold takerIn;rw[show findIn K (.ref C) f=some none from n];rfl
structure Meth(K:Frag)(C:Addr)(m:Str)(f:Addr):Prop where
 at_:findIn K (.ref C) m=some (some (.ref f))
 fn:isFn K (.ref f)=true
 kp:keepIn K (.ref f)=true
section
variable{X:Cx}{pins:List (Addr×Obj)}{σ:St}{H:Hp}{s:Shared}{a C dx:Addr}{fs:List (Str×V)}{f:Str}{v:V}{A:Around}{E:Value->Shared->Prop}
theorem zmu{b:Bool}{Q:Value->Shared->Prop}(I:Inv X pins σ H s)(e:H a=some (.ins C dx fs))(c:Cls X.K C)(n:zbH X.K C f)(l:fs.lookup f=some v)
  (h:∀u s',Inv X pins σ H s'->RelV v u->Q u s'):wpAny (model X.prog X.w) A (getAttr (.ref a) f b) Q E s:=by
 obtain⟨mA,O,r,_,_,_⟩:=zd8 I.hok e;obtain⟨u,hu,ru⟩:=zc2.some_of (v:=v) (o:=mA f) (by rw[<- l];exact r f);exact zod I.kIn O (c.get f) c.hd n hu (zo9 ru) (h u _ (I.tok _) ru)
theorem zmS{m:Str}{g:Addr}{pl:Sem Bool}{Q:Value×List Value->Shared->Prop}(I:Inv X pins σ H s)(e:H a=some (.ins C dx fs))(c:Cls X.K C)(k:Meth X.K C m g)(l:fs.lookup m=none)
  (h:Q (.ref g,[.ref a]) s):wpAny (model X.prog X.w) A (getMethod (.ref a) m pl) Q E s:=by
 obtain⟨mA,O,r,_,_,_⟩:=zd8 I.hok e;have hn:mA m=none:=zc2.none_of (by rw[<- l];exact r m);exact zsm I.kIn O (c.get m) k.at_ k.fn hn h
theorem zmi{y:V}{u:Value}{Q:Unit->Shared->Prop}(I:Inv X pins σ H s)(e:H a=some (.ins C dx fs))(c:Cls X.K C)(n:zbH X.K C f)(hl:fs.length < 1000)(ry:RelV y u)
  (h:∀s',Inv X pins σ (upd H a (.ins C dx (zc7 f y fs))) s'->Q () s'):wpAny (model X.prog X.w) A (setAttr (.ref a) f u) Q E s:=by
 obtain⟨mA,O,r,wi,_,ho⟩:=zd8 I.hok e;have hz:(fs.map (·.1)).length<=sizeLine:=by rw[List.length_map,sizeLine_eq];omega
 refine zkI I.kIn O c.sa c.po n.taker c.hd wi hz fun h' O' sb=>h _ ?_
 have hd:∃o,h'.get? dx=some o:=let ⟨o,_,_,e',_⟩:=O'.ns;⟨o,e'⟩;refine I.write (x:=a) (e:=dx) (by rw[e];exact True.intro) (.inr ho) (fun b q hb z=>(sb.2 b hb).trans z) hd ?_;refine⟨by rw[zm O.ne];exact ho,?_,O.ne,O'.obj,_,O'.ns,fun g=>?_,fun g hg=>?_⟩
 .have:=zgK f y fs;omega
 .show zc2 ((zc7 f y fs).lookup g) (if g=f then some u else mA g);rw[zgg];by_cases q:g=f
  .rw[if_pos q,if_pos q];exact ry
  .rw[if_neg q,if_neg q];exact r g
 .by_cases q:g=f
  .rw[q];exact(zfZ f y fs).1
  .refine(zfZ f y fs).2 g (wi g fun z=>hg ?_);show(if g=f then some u else mA g)=none;rw[if_neg q];exact z
theorem Inv.made(I:Inv X pins σ H s):Inv X pins σ (upd (upd H s.heap.objs.size (.own (s.heap.objs.size+1))) (s.heap.objs.size+1) (.ins C s.heap.objs.size []))
  {s with heap:=(s.heap.push emptyDict).push (instObj C s.heap.objs.size) }:=by
 have e1:(s.heap.push emptyDict).get? s.heap.objs.size=some emptyDict:=Heap.get?_push_size s.heap rfl;have e2:((s.heap.push emptyDict).push (instObj C s.heap.objs.size)).get? (s.heap.objs.size+1)=some (instObj C s.heap.objs.size):=by
  have:=Heap.get?_push_size (s.heap.push emptyDict) (o:=instObj C s.heap.objs.size) rfl;rwa [Heap.size_push] at this
 have e3:(s.heap.push emptyDict).Ns s.heap.objs.size (fun _=>none):=⟨emptyDict, #[],_,e1,rfl,(fun e he=>absurd he (by simp)),fun _=>rfl⟩;have I1:=I.laid (a:=s.heap.objs.size) (o:= .own (s.heap.objs.size+1)) (h':=s.heap.push emptyDict) (t':=s.toks) (fun b u q=>Heap.get?_push_of_some _ q) (Nat.le_refl _) ⟨_,e1⟩;refine I1.laid (a:=s.heap.objs.size+1) (o:= .ins C s.heap.objs.size []) (t':=s.toks) (fun b u q=>Heap.get?_push_of_some _ q) (Nat.le_of_eq (Heap.size_push _ _)) ?_;have ne:s.heap.objs.size≠s.heap.objs.size+1:=Nat.ne_of_lt (Nat.lt_succ_self _);refine⟨by rw[zm ne,zq],Nat.zero_le _,ne,e2,fun _=>none,(Heap.Ns1.of_empty e3).at fun o q=>Heap.get?_push_of_some _ q,fun _=>True.intro,fun y hy=>absurd rfl hy⟩
theorem zns{prog:Program}{w:World}{env:Env}{e:Expr}{f:Str}{pos:Pos}{s:Shared}{Q:Value->Shared->Prop}(hb:attributeBase e f env (eval e env)=eval e env)
  (h:wpAny (model prog w) A (eval e env) (fun o s₁=>wpAny (model prog w) A (getAttr o f true) Q E s₁) E s):wpAny (model prog w) A (eval (.Attribute e f pos) env) Q E s :=
 Attribute_any_ h (by rw[arm_eval_Attribute,hb])
end
def zsM(K:Frag)(ta:TE)(f:Str):TE:=fun σ H Q=>ta σ H fun x H1=>∃a C dx fs v,x= .ref a/\H1 a=some (.ins C dx fs)/\Cls K C/\zbH K C f/\fs.lookup f=some v/\Q v H1
def ztV(K:Frag)(ta tv:TE)(f:Str):TS:=fun D σ H=>tv σ H fun y H1=>ta σ H1 fun x H2=>∃a C dx fs,x= .ref a/\H2 a=some (.ins C dx fs)/\Cls K C/\zbH K C f/\fs.length < 1000 /\
 D.nx σ (upd H2 a (.ins C dx (zc7 f y fs)))
section
variable{X:Cx}{o e value:Expr}{f:Str}{pos pos' tpos:Pos}{ta tv:TE}
theorem zu7(he:PE X e ta)(hb:attributeBase e f X.env (eval e X.env)=eval e X.env):PE X (.Attribute e f pos) (zsM X.K ta f):=by
 intro pins s σ H Q I h;refine zns hb (thn (he pins s σ H _ I h) fun u s1 ⟨x,H1,I1,rx,a,C,dx,fs,v,ex,ea,c,n,l,q⟩=>?_);subst ex;obtain rfl:u=Value.ref a:=rx;exact zmu I1 ea c n l fun u' s2 I2 ru=>⟨v,H1,I2,ru,q⟩
theorem zwI(ha:PE X o ta)(hv:PE X value tv)(hs:swapsWith value (some (.Attribute o f pos')) pos.line X.env=pure false):PS X (.Assign [.Attribute o f pos'] value pos) (ztV X.K ta tv f):=by
 intro pins s σ H D I h;refine plainObj_wpAny_Assign_Attribute (thn (hv pins s σ H _ I h) fun u s1 ⟨y,H1,I1,ry,q⟩=>thn (ha pins s1 σ H1 _ I1 q) fun ov s2 ⟨x,H2,I2,rx,a,C,dx,fs,ex,ea,c,n,l,q2⟩=>?_) hs;subst ex;obtain rfl:ov=Value.ref a:=rx;exact zmi I2 ea c n l ry fun s3 I3=>⟨σ,_,I3,q2⟩
end
section
variable{X:Cx}{pins:List (Addr×Obj)}{σ:St}{H:Hp}{s:Shared}{A:Around}{E:Value->Shared->Prop}{Q:Value->Shared->Prop}{c:Value}{b:Bool}
inductive zed(K:Frag)(H:Hp):V->Value->Prop where
 | non:zed K H .non (.type "NoneType")
 | bl (x:Bool):zed K H (.bl x) (.type "bool")
 | int (i:Int):zed K H (.int i) (.type "int")
 | str (x:Str):zed K H (.str x) (.type "str")
 | flt (x:UInt64):zed K H (.flt x) (.type "float")
 | lst {a:Addr} {xs:List V} (e:H a=some (.lst xs)):zed K H (.ref a) (.type "list")
 | frz {a:Addr} {o:Obj} {xs:List V} (e:H a=some (.frz o (.lst xs))):zed K H (.ref a) (.type "list")
 | tup {a:Addr} {xs:List V} (e:H a=some (.tup xs)):zed K H (.ref a) (.type "tuple")
 | dK {a:Addr} {kvs:List (Key×V)} (e:H a=some (.dK kvs)):zed K H (.ref a) (.type "dict")
 | dT {a:Addr} {kvs:List (List Key×V)} (e:H a=some (.dT kvs)):zed K H (.ref a) (.type "dict")
 | ins {a C dx:Addr} {fs:List (Str×V)} (e:H a=some (.ins C dx fs)) (cl:Cls K C) (ha:findIn K (.ref C) "__class__"=some (some (.builtin "object.__class__")))
   (hn:PySem.W.specialIn K (.builtin "object.__class__") "__get__"=some (some (.builtin "getset_descriptor.__get__"))) (htk:PySem.W.takesIn K (.builtin "object.__class__")=some true)
   (hm:PySem.W.mroIn K C (.type "object")=some true):zed K H (.ref a) (.ref C)
theorem zok{x:V}{u t:Value}(I:Inv X pins σ H s)(rx:RelV x u)(ty:zed X.K H x t)(e:kitOne X.K t c=some b)(h:∀tk,Q (.bool b) { s with toks:=tk }) :
  wpAny (model X.prog X.w) A (call (.builtin "isinstance") [u,c]) Q E s:=by
 cases ty with
 | non=>cases (show u=Value.none from rx);exact kia_one PySem.W.kitx_none I.kIn True.intro e (fun z=>nomatch z) h
 | bl y=>cases (show u=Value.bool y from rx);exact kia_one PySem.W.kitx_bool I.kIn True.intro e (fun z=>nomatch z) h
 | int i=>obtain⟨t,q⟩:=(show ∃t,u=Value.int i t from rx);cases q;exact kia_one PySem.W.kitx_int I.kIn True.intro e (fun z=>nomatch z) h
 | str y=>obtain⟨t,q⟩:=(show ∃t,u=Value.str y t from rx);cases q;exact kia_one PySem.W.kitx_str I.kIn True.intro e (fun z=>nomatch z) h
 | flt y=>obtain⟨t,q⟩:=(show ∃t,u=Value.float y t from rx);cases q;exact kia_one PySem.W.kitx_float I.kIn True.intro e (fun z=>nomatch z) h
 | @lst a xs ea =>
  cases (show u=Value.ref a from rx);obtain⟨_,_,n,_,h1⟩:=(show zai X.prog X.w H s.heap a (.lst xs) from I.hok a _ ea);exact kia_one PySem.W.kitx_list I.kIn ⟨_,h1,rfl⟩ e (fun z=>nomatch z) h
 | @frz a ob xs ea =>
  cases (show u=Value.ref a from rx);obtain⟨_,_,_,n,_,h1⟩:=(show zai X.prog X.w H s.heap a (.frz ob (.lst xs)) from I.hok a _ ea);exact kia_one PySem.W.kitx_list I.kIn ⟨_,h1,rfl⟩ e (fun z=>nomatch z) h
 | @tup a xs ea =>
  cases (show u=Value.ref a from rx);obtain⟨_,_,_,p⟩:=(show zai X.prog X.w H s.heap a (.tup xs) from I.hok a _ ea);obtain⟨o,h1,h2,_⟩:=p;exact kia_one PySem.W.kitx_tuple I.kIn ⟨o,h1,h2⟩ e (fun z=>nomatch z) h
 | @dK a kvs ea =>
  cases (show u=Value.ref a from rx);obtain⟨_,_,vs,_,p⟩:=(show zai X.prog X.w H s.heap a (.dK kvs) from I.hok a _ ea);obtain⟨o,es,ep,h1,h2,_⟩:=p;exact kia_one PySem.W.kitx_dict I.kIn ⟨o,h1,h2.1⟩ e (fun z=>nomatch z) h
 | @dT a kvs ea =>
  cases (show u=Value.ref a from rx);obtain⟨_,_,xs,_,o,es,ep,h1,h2,_⟩:=(show zai X.prog X.w H s.heap a (.dT kvs) from I.hok a _ ea);exact kia_one PySem.W.kitx_dict I.kIn ⟨o,h1,h2.1⟩ e (fun z=>nomatch z) h
 | @ins a C dx fs ea cl ha hn htk hm =>
  cases (show u=Value.ref a from rx);obtain⟨mA,O,_⟩:=zd8 I.hok ea;obtain⟨od,J,_⟩:=O.look;exact kia_one (PySem.W.kitx_own (cl.get _) cl.hd ha hn htk hm) I.kIn J e (fun z=>nomatch z) h
end
structure zaA(cm:Bool)(k:Nat)(A:Around):Prop where
 hd:cm=true->A.handled=none
 dp:A.depth+3*k+5 < recursionLimit
 un:A.units+16*k+200 < cLine
 gd:A.guards=some []
abbrev zds(k:Nat)(A:Around):Prop:=zaA true k A
theorem zaA.mono{cm:Bool}{j k:Nat}{A:Around}(r:zaA cm k A)(h:j<=k):zaA cm j A:=⟨r.hd,by have:=r.dp;omega,by have:=r.un;omega,r.gd⟩
theorem zaA.deeper{cm:Bool}{k:Nat}{A:Around}(r:zaA cm (k+1) A)(env:Env):zaA cm k (A.deeper env) :=
 ⟨r.hd,by have:=r.dp;show A.depth+1+3*k+5 < _;omega,by have:=r.un;show A.units+3+16*k+200 < _;omega,r.gd⟩
theorem zaA.in1{cm:Bool}{k:Nat}{A:Around}(r:zaA cm (k+1) A):zaA cm k A.in1 :=
 ⟨r.hd,by have:=r.dp;show A.depth+3*k+5 < _;omega,by have:=r.un;show A.units+1+16*k+200 < _;omega,r.gd⟩
theorem zmh{A:Around}{C:Addr}{us:List Value}{kw:List (Str×Value)}:(A.under (.builtin "type.__call__" ⟨.ref C::us,kw⟩)).depth=A.depth+1:=by
 first | rfl | simp[Around.under,Code.weight,Code.isCreation,Code.isGuard,Code.isCaller,Code.frames,Code.isFrame,guardIds]
theorem zmv{A:Around}{C:Addr}{us:List Value}{kw:List (Str×Value)}:(A.under (.builtin "type.__call__" ⟨.ref C::us,kw⟩)).units=A.units+1:=by
 first | rfl | simp[Around.under,Code.cUnits,Code.frames,Code.isFrame]
theorem zlq{A:Around}{C:Addr}{us:List Value}{kw:List (Str×Value)}:(A.under (.builtin "type.__call__" ⟨.ref C::us,kw⟩)).guards=A.guards:=by
 first | rfl | simp[Around.under,Code.guards,Code.isGuard,guardIds,pushGuards]
theorem zaA.make{cm:Bool}{k:Nat}{A:Around}(r:zaA cm (k+1) A)(C:Addr)(us:List Value)(kw:List (Str×Value)):zaA cm k (A.under (.builtin "type.__call__" ⟨.ref C::us,kw⟩)) :=
 ⟨r.hd,by have:=r.dp;rw[zmh];omega,by have:=r.un;rw[zmv];omega,by rw[zlq];exact r.gd⟩
theorem zaA.depth{cm:Bool}{k:Nat}{A:Around}(r:zaA cm k A):A.depth < recursionLimit:=by have:=r.dp;omega
theorem zaA.units{cm:Bool}{k:Nat}{A:Around}(r:zaA cm k A):A.units+64 < cLine:=by have:=r.un;omega
def zfh:TA:=fun _ H Q=>Q [] H
def zdr(ta:TE)(tr:TA):TA:=fun σ H Q=>ta σ H fun x H1=>tr σ H1 fun xs H2=>Q (x::xs) H2
section
variable{X:Cx}{e:Expr}{es:List Expr}{te:TE}{t:TA}{pos:Pos}
theorem znk:PA X [] zfh:=fun _ _ _ _ H Q I h=>Calls.spliced_nil ⟨[],H,I, .nil,h⟩
theorem zkL(ha:PE X e te)(hr:PA X es t)(hs:starEach (e::es) X.env=(false,eval e X.env)::starEach es X.env:=by rfl):PA X (e::es) (zdr te t):=by
 intro pos pins s σ H Q I h;rw[hs];show wpAny _ _ (spliced ((false,eval e X.env)::backTo pos (starEach es X.env))) _ _ s;refine Calls.spliced_cons (thn (ha pins s σ H _ I h) fun u s1 ⟨x,H1,I1,r1,q1⟩=>?_);exact thn (hr pos pins s1 σ H1 _ I1 q1) fun us s2 ⟨xs,H2,I2,r2,q2⟩=>⟨x::xs,H2,I2, .cons r1 r2,q2⟩
def zpw(t:TA):TE:=fun σ H Q=>t σ H fun xs H1=>xs.length<=sizeLine/\∀p,H1 p=none->Q (.ref p) (upd H1 p (.tup xs))
def zt1(t:TA):TE:=fun σ H Q=>t σ H fun xs H1=>xs.length<=sizeLine/\∀p,H1 p=none->Q (.ref p) (upd H1 p (.lst xs))
theorem zxo{x1}(h:PA X es t):PE X (.Tuple es x1 pos) (zpw t):=by
 intro pins s σ H Q I hq;refine wpAny_Tuple_spliced (thn (h pos pins s σ H _ I hq) fun us s1 ⟨xs,H1,I1,r,z,q⟩=>⟨by rw[<- r.length];exact z,?_⟩);have hf:H1 s1.heap.objs.size=none:=I1.hok.fresh (Nat.le_refl _);refine⟨.ref s1.heap.objs.size,upd H1 s1.heap.objs.size (.tup xs),I1.laid (t':=s1.toks) (fun b u e=>Heap.get?_push_of_some _ e) (Nat.le_refl _) ?_,rfl,q _ hf⟩;exact⟨z,us,r,⟨_,Heap.get?_push_size _ rfl,rfl,_,rfl⟩⟩
theorem zvl(h:PA X es t):PE X (.List es pos) (zt1 t):=by
 intro pins s σ H Q I hq;refine wpAny_List_spliced (thn (h pos pins s σ H _ I hq) fun us s1 ⟨xs,H1,I1,r,z,q⟩=>⟨by rw[<- r.length];exact z,?_⟩);have hf:H1 s1.heap.objs.size=none:=I1.hok.fresh (Nat.le_refl _);refine⟨.ref s1.heap.objs.size,upd H1 s1.heap.objs.size (.lst xs),I1.laid (t':=s1.toks) (fun b u e=>Heap.get?_push_of_some _ e) (Nat.le_refl _) ?_,rfl,q _ hf⟩;exact⟨z,us,0,r,Heap.get?_push_size _ rfl⟩
end
abbrev Sp:=List V->Hp->VK->XK->Prop
abbrev CXT:=List Env->Hp->Shared->XK->Value->Shared->Prop
structure ziA(P:Program)(w:World)(K:Frag)(mg:Str->Option Value)(base:Heap)(A:Around)(outer:List Env)(s:Shared)(H:Hp):Prop where
 frames:A.frames=some outer
 mod:Mod K mg base
 bs:∀b o,base.get? b=some o->s.heap.get? b=some o/\H b=none
 bsz:base.objs.size<=s.heap.objs.size
 funs:s.heap.FunFrames base outer
 frf:∀b∈frs outer,H b=none
 hok:HOk P w H s.heap
 bare:AllBare s.gens
def CE(outer:List Env)(P:Program)(w:World)(H:Hp)(s:Shared)(Q:VK)(u:Value)(s':Shared):Prop :=
 ∃v H',s'.os=s.os/\AllBare s'.gens/\Un (frs outer) [] H H' s.heap s'.heap/\HOk P w H' s'.heap/\RelV v u/\Q v H'
def CR(CX:CXT)(outer:List Env)(P:Program)(w:World)(H:Hp)(s:Shared)(Q:VK)(E:XK)(r:Result)(s':Shared):Prop :=
 match r with
 | .ok (.ret u)=>CE outer P w H s Q u s'
 | .ok _=>False
 | .error e=>CX outer H s E e s'
structure zaa(P:Program)(w:World)(K:Frag)(mg:Str->Option Value)(base:Heap)(CX:CXT)(k:Nat)(f:Addr)(fd:FuncData)(ps:List Str)(sp:Sp)(cm:Bool:=true):Prop where
 len:∀vs H Q E,sp vs H Q E->vs.length=ps.length
 run:∀(A:Around) (outer:List Env) (s:Shared) (H:Hp) (args:Args) (us:List Value) (vs:List V) (Q:VK) (E:XK),zaA cm k A->ziA P w K mg base A outer s H->BindsTo s fd args (ps.zip us)->Vals vs us->sp vs H Q E ->
  codeAny (model P w) A (.call (.ref f) args) (CR CX outer P w H s Q E) s
theorem zaa.mono{P:Program}{w:World}{K:Frag}{mg:Str->Option Value}{base:Heap}{CX:CXT}{j k:Nat}{f:Addr}{fd:FuncData}{ps:List Str}{sp:Sp}(F:zaa P w K mg base CX j f fd ps sp)(h:j<=k) :
  zaa P w K mg base CX k f fd ps sp:=⟨F.len,fun A outer s H args us vs Q E hr=>F.run A outer s H args us vs Q E (hr.mono h)⟩
theorem zaa.imp{P:Program}{w:World}{K:Frag}{mg:Str->Option Value}{base:Heap}{CX:CXT}{k:Nat}{f:Addr}{fd:FuncData}{ps:List Str}{sp sp':Sp}(F:zaa P w K mg base CX k f fd ps sp)
  (h:∀vs H Q E,sp' vs H Q E->sp vs H Q E):zaa P w K mg base CX k f fd ps sp' :=
 ⟨fun vs H Q E q=>F.len vs H Q E (h _ _ _ _ q),fun A outer s H args us vs Q E hr he hb hv hs=>F.run A outer s H args us vs Q E hr he hb hv (h _ _ _ _ hs)⟩
theorem ziA.make{P:Program}{w:World}{K:Frag}{mg:Str->Option Value}{base:Heap}{A:Around}{outer:List Env}{s:Shared}{H:Hp}(e:ziA P w K mg base A outer s H)(C:Addr)(us:List Value)(kw:List (Str×Value)) :
  ziA P w K mg base (A.under (.builtin "type.__call__" ⟨.ref C::us,kw⟩)) outer s H:=⟨by first | exact e.frames | (simpa [Around.under,Code.envs,Code.isFrame,pushEnvs] using e.frames),e.mod,e.bs,e.bsz,e.funs,e.frf,e.hok,e.bare⟩
theorem ziA.in1{P:Program}{w:World}{K:Frag}{mg:Str->Option Value}{base:Heap}{A:Around}{outer:List Env}{s:Shared}{H:Hp}(e:ziA P w K mg base A outer s H) :
  ziA P w K mg base A.in1 outer s H:=⟨e.frames,e.mod,e.bs,e.bsz,e.funs,e.frf,e.hok,e.bare⟩
section
variable{X:Cx}{pins:List (Addr×Obj)}{σ:St}{H:Hp}{s s':Shared}
theorem Inv.env0(I:Inv X pins σ H s):ziA X.prog X.w X.K X.mg X.base X.A X.stack s H :=
 ⟨I.ok.frames,I.ok.mod,I.bs,Nat.le_trans I.ok.bsz I.sz,I.stack,I.stkFree,I.hok,I.bare⟩
theorem Inv.after{Q:VK}{u:Value}(I:Inv X pins σ H s)(h:CE X.stack X.prog X.w H s Q u s'):EP X pins σ Q u s':=by
 obtain⟨v,H',os,bare,un,hok,r,q⟩:=h;obtain⟨hh,g,d,t,os'⟩:=s';obtain rfl:os'=s.os:=os;exact⟨v,H',I.call (h':=hh) (g':=g) (d':=d) (t':=t) (ch:=[]) un hok bare (fun b z=>absurd z (by simp)),r,q⟩
end
def zlB(sp:Sp)(dvs:List V)(E:XK)(t:TA):TE:=fun σ H Q=>t σ H fun vs H1=>sp (vs++dvs) H1 Q E
def Binds(K:Frag)(fd:FuncData)(ps:List Str)(ds:List Value):Prop :=
 ∀(s:Shared) (us:List Value),K.In s.heap->(us++ds).length=ps.length->BindsTo s fd ⟨us,[]⟩ (ps.zip (us++ds))
theorem Binds.all{K:Frag}{fd:FuncData}{ps:List Str}(h:∀us:List Value,us.length=ps.length->bindArgs fd ⟨us,[]⟩=pure (ps.zip us)):Binds K fd ps []:=fun s us _ hl=>by
 rw[List.append_nil] at hl ⊢;exact .of_eq (h us hl)
def zck(CX:CXT)(X:Cx)(E:XK):Prop:=∀(pins:List (Addr×Obj)) (σ:St) (H:Hp) (s:Shared) (e:Value) (s':Shared),Inv X pins σ H s->CX X.stack H s E e s'->X.xe e s'
section
variable{X:Cx}{CX:CXT}{k:Nat}{f C:Addr}{fd:FuncData}{ps:List Str}{sp:Sp}{dvs:List V}{ds:List Value}{E:XK}{x m:Str}{p pos apos:Pos}{e o:Expr}{es:List Expr}{ta:TE}{t:TA}
theorem zw5{pins:List (Addr×Obj)}{σ:St}{H:Hp}{s:Shared}{Q:VK}{us:List Value}{vs:List V}(F:zaa X.prog X.w X.K X.mg X.base CX k f fd ps sp)(hr:zds k X.A)(hb:Binds X.K fd ps ds)(hd:Vals dvs ds)(hx:zck CX X E)
  (I:Inv X pins σ H s)(r:Vals vs us)(h:sp (vs++dvs) H Q E):wpAny (model X.prog X.w) X.A (call (.ref f) us) (EP X pins σ Q) X.xe s:=by
 have r2:Vals (vs++dvs) (us++ds):=r.append hd;have hl:(us++ds).length=ps.length:=by rw[<- r2.length];exact F.len _ _ _ _ h
 refine wpAny_call (codeAny_mono (F.run X.A X.stack s H ⟨us,[]⟩ (us++ds) (vs++dvs) Q E hr I.env0 (hb s us I.kIn hl) r2 h) fun r s' hq=>?_);cases r with
 | error e=>exact hx pins σ H s e s' I hq
 | ok fl =>
  cases fl with
  | ret u=>exact I.after hq
  | next=>exact False.elim hq
  | brk=>exact False.elim hq
  | cont=>exact False.elim hq
theorem zuo(F:zaa X.prog X.w X.K X.mg X.base CX k f fd ps sp)(hr:zds k X.A)(hg:Gl X x)(hm:X.mg x=some (.ref f))(hk:keepIn X.K (.ref f)=true)(hb:Binds X.K fd ps ds)(hd:Vals dvs ds)(hx:zck CX X E)
  (ha:PA X (e::es) t)(hdb:(x==("__debug__":Str))=false:=by decide)(he:starEach (e::es) X.env=(false,eval e X.env)::starEach es X.env:=by rfl)(hpl:(backTo pos (starEach es X.env)).any (·.1)=false:=by rfl) :
  PE X (.Call (.Name x p) (e::es) [] pos) (zlB sp dvs E t):=by
 intro pins s σ H Q I h;refine wpAny_Call_Name_kw (zjT I hg hm ?_ hdb);refine PySem.W.callWith_K (h₀:=X.base) I.ok.mod.kin hk (thn (ha pos pins s σ H _ I h) fun us s1 ⟨vs,H1,I1,r,q⟩=>⟨I1.kIn,?_⟩) he hpl;exact zw5 F hr hb hd hx I1 r q
structure Mk(K:Frag)(C f:Addr):Prop where
 makes:makesIn K C=true
 init:findIn K (.ref C) "__init__"=some (some (.ref f))
 fn:isFn K (.ref f)=true
 kp:keepIn K (.ref C)=true
end
def PK(X:Cx)(kws:List Keyword)(t:TA):Prop :=
 ∀(pos:Pos) (pins:List (Addr×Obj)) (s:Shared) (σ:St) (H:Hp) (Q:List V->Hp->Prop),Inv X pins σ H s->t σ H Q->wpAny (model X.prog X.w) X.A (evalAll ((backToKw pos (keywordEach kws X.env)).map (·.2))) (AP X pins σ Q) X.xe s
section
variable{X:Cx}{CX:CXT}{k:Nat}{f C:Addr}{fd:FuncData}{ps ks:List Str}{sp:Sp}{E:XK}{x m:Str}{p pos apos kpos:Pos}{e o:Expr}{es:List Expr}{kws:List Keyword}{te ta:TE}{t tk:TA}{nm:Option Str}
theorem zvW:PK X [] zfh:=fun _ _ _ _ H Q I h=>wpAny_evalAll_nil ⟨[],H,I, .nil,h⟩
theorem zut(ha:PE X e te)(hr:PK X kws t):PK X (⟨nm,e,kpos⟩::kws) (zdr te t):=by
 intro pos pins s σ H Q I h;show wpAny _ _ (evalAll ((do let v<-eval e X.env;standAt pos;pure v)::(backToKw pos (keywordEach kws X.env)).map (·.2))) _ _ s;refine wpAny_evalAll_cons (wpAny_bind (thn (ha pins s σ H _ I h) fun u s1 ⟨x,H1,I1,r1,q1⟩=>wpAny_bind (wpAny_standAt (wpAny_pure ?_))));exact thn (hr pos pins s1 σ H1 _ I1 q1) fun us s2 ⟨xs,H2,I2,r2,q2⟩=>⟨x::xs,H2,I2, .cons r1 r2,q2⟩
structure zdL(K:Frag)(fd:FuncData)(ps ks:List Str)(g:List Value->List Value->List Value)(gV:List V->List V->List V):Prop where
 to:∀(s:Shared) (us ws:List Value),K.In s.heap->(g us ws).length=ps.length->BindsTo s fd ⟨us,ks.zip ws⟩ (ps.zip (g us ws))
 rel:∀{vs:List V} {us:List Value} {zs:List V} {ws:List Value},Vals vs us->Vals zs ws->Vals (gV vs zs) (g us ws)
variable{g:List Value->List Value->List Value}{gV:List V->List V->List V}
theorem ztF{pins:List (Addr×Obj)}{σ:St}{H:Hp}{s:Shared}{Q:VK}{us ws:List Value}{vs zs:List V}(F:zaa X.prog X.w X.K X.mg X.base CX k f fd ps sp)(hr:zds k X.A)(hb:zdL X.K fd ps ks g gV)(hx:zck CX X E)
  (I:Inv X pins σ H s)(r:Vals vs us)(rz:Vals zs ws)(h:sp (gV vs zs) H Q E):wpAny (model X.prog X.w) X.A (call (.ref f) us (ks.zip ws)) (EP X pins σ Q) X.xe s:=by
 have r2:=hb.rel r rz;have hl:(g us ws).length=ps.length:=by rw[<- r2.length];exact F.len _ _ _ _ h
 refine wpAny_call (codeAny_mono (F.run X.A X.stack s H ⟨us,ks.zip ws⟩ (g us ws) (gV vs zs) Q E hr I.env0 (hb.to s us ws I.kIn hl) r2 h) fun r s' hq=>?_);cases r with
 | error e=>exact hx pins σ H s e s' I hq
 | ok fl =>
  cases fl with
  | ret u=>exact I.after hq
  | next=>exact False.elim hq
  | brk=>exact False.elim hq
  | cont=>exact False.elim hq
end
structure zG(N P:List Str)(sc:Scope):Prop where
 kind:sc.kind= .function
 co:sc.isCoroutine=false
 gen:sc.isGenerator=false
 nd:N.Nodup
 pre:N.take P.length=P
 par:∀x∈P,sc.names.lookup x=some .local\/sc.names.lookup x=some .cell
 nofree:∀y∈sc.names,y.2≠ .free
theorem zjm{kindOf:Str->Option NameKind}{x:Str}:∀{binds:List (Str×Value)} {m:Str->Option Value},(∀v,(x,v)∉binds)->bindL kindOf binds m x=m x
 | [],_,_=>rfl
 | (n,v)::r,m,h=>by
  unfold bindL;rw[zjm fun w hw=>h w (List.mem_cons_of_mem _ hw)];split
  .have:x≠n:=by rintro rfl;exact h v List.mem_cons_self
   simp[this]
  .rfl
theorem ziS{kindOf:Str->Option NameKind}{x:Str}:∀{binds:List (Str×Value)} {m:Str->Option Value},(∀v,(x,v)∉binds)->bindC kindOf binds m x=m x
 | [],_,_=>rfl
 | (n,v)::r,m,h=>by
  unfold bindC;rw[ziS fun w hw=>h w (List.mem_cons_of_mem _ hw)];split
  .rfl
  .have:x≠n:=by rintro rfl;exact h v List.mem_cons_self
   simp[this]
theorem zjp{kindOf:Str->Option NameKind}{x:Str}{v:Value}:∀{P:List Str} {vs:List Value} {i:Nat} {m:Str->Option Value},P.Nodup->P[i]? = some x->vs[i]? = some v->kindOf x=some .local ->
  bindL kindOf (P.zip vs) m x=some v
 | [],_,_,_,_,h,_,_=>by simp at h
 | _::_,[],_,_,_,_,h,_=>by simp at h
 | p::P,w::vs,0,m,nd,h1,h2,hk=>by
  simp at h1 h2;subst h1;subst h2;show bindL kindOf ((p,w)::P.zip vs) m p=_;unfold bindL;rw[zjm fun v hv=>(List.nodup_cons.mp nd).1 (List.of_mem_zip hv).1,if_pos hk];simp
 | p::P,w::vs,i+1,m,nd,h1,h2,hk=>by
  show bindL kindOf ((p,w)::P.zip vs) m x=_;unfold bindL;exact zjp (i:=i) (List.nodup_cons.mp nd).2 (by simpa using h1) (by simpa using h2) hk
theorem zjo{kindOf:Str->Option NameKind}{x:Str}{v:Value}:∀{P:List Str} {vs:List Value} {i:Nat} {m:Str->Option Value},P.Nodup->P[i]? = some x->vs[i]? = some v->kindOf x≠some .local ->
  bindC kindOf (P.zip vs) m x=some v
 | [],_,_,_,_,h,_,_=>by simp at h
 | _::_,[],_,_,_,_,h,_=>by simp at h
 | p::P,w::vs,0,m,nd,h1,h2,hk=>by
  simp at h1 h2;subst h1;subst h2;show bindC kindOf ((p,w)::P.zip vs) m p=_;unfold bindC;rw[ziS fun v hv=>(List.nodup_cons.mp nd).1 (List.of_mem_zip hv).1,if_neg hk];simp
 | p::P,w::vs,i+1,m,nd,h1,h2,hk=>by
  show bindC kindOf ((p,w)::P.zip vs) m x=_;unfold bindC;exact zjo (i:=i) (List.nodup_cons.mp nd).2 (by simpa using h1) (by simpa using h2) hk
def start(N:List Str)(vs:List V):St:=vs.map some++List.replicate (N.length - vs.length) none
def zkT(CX:CXT)(P:Program)(w:World)(K:Frag)(mg:Str->Option Value)(base:Heap)(N:List Str)(qual:Str)(scope:Scope)(f:Addr)(cd:Value)(A:Around)(outer:List Env)(s:Shared)(H:Hp)(E:XK)(cm:Bool:=true):Cx where
 prog:=P
 w:=w
 K:=K
 mg:=mg
 base:=base
 A:=A.deeper (envOfC qual scope s.heap.objs.size f cd)
 N:=N
 s₀:=s
 H₀:=H
 env:=envOfC qual scope s.heap.objs.size f cd
 outer:=outer
 stack:=envOfC qual scope s.heap.objs.size f cd::outer
 ex:=[]
 calm:=cm
 fn:=fun _=>true
 pn:=[]
 xe:=fun e s'=>wpAny (model P w) (A.deeper (envOfC qual scope s.heap.objs.size f cd)) (leaving (envOfC qual scope s.heap.objs.size f cd) e) (fun _ s''=>CX outer H s E e s'') (fun e' s''=>CX outer H s E e' s'') s'
theorem zlE{sc:Scope}{n:Nat}{x:Str}(h:sc.names.lookup x=some .cell):∃c,(cellsFrom n sc.names []).lookup x=some c:=by
 have q:=PySem.W.cellsFrom_some sc.names n [] (.inl h);exact Option.isSome_iff_exists.mp q
theorem zoU{cm:Bool}{CX:CXT}{P:Program}{w:World}{K:Frag}{mg:Str->Option Value}{base:Heap}{N ps:List Str}{qual:Str}{scope:Scope}{f:Addr}{cd:Value}{A:Around}{outer:List Env}{s s1:Shared}{H:Hp}{E:XK}{us:List Value}{vs:List V}
  (S:zG N ps scope)(hd:cm=true->A.handled=none)(e0:ziA P w K mg base A outer s H)(hl:vs.length=ps.length)(r:Vals vs us)
  (x:InCallC s s.heap.objs.size (bindL (envOfC qual scope s.heap.objs.size f cd).kindOf (ps.zip us) fun _=>none) (cellsFrom (s.heap.objs.size+1) scope.names []) (bindC (envOfC qual scope s.heap.objs.size f cd).kindOf (ps.zip us) fun _=>none) s1) :
  Inv (zkT CX P w K mg base N qual scope f cd A outer s H E cm) [] (start N vs) H s1:=by
 have hpl:ps.length<=N.length:=by have:=congrArg List.length S.pre;rw[List.length_take] at this;omega
 obtain⟨h1,tk,rfl,hk⟩:=x.done;have noA:∀b:Addr,b∉(zkT CX P w K mg base N qual scope f cd A outer s H E cm).ex:=fun b z=>absurd (show b∈([]:List Addr) from z) (by simp)
 refine⟨⟨e0.mod,S.kind,rfl,rfl,Nat.le_refl _,fun y z c h1 h2=>?_,fun y hy=>?_,fun y c _ h=>?_,hd,Around.frames_deeper e0.frames, .inr ⟨rfl,rfl⟩,fun b z=>absurd z (noA b),e0.bs,e0.bsz,fun b _ _=>noA b,fun b z=>absurd z (noA b),e0.funs,e0.frf⟩,
  rfl,e0.bare,Un.kept hk,⟨_,x.toInCall.ns,fun i y v h1 h2 h3=>?_⟩,fun y c h=>⟨_,x.cell y c h⟩,e0.hok.fresh (Nat.le_refl _),fun y c h=>?_,fun p hp=>absurd (show p∈([]:List (Addr×Obj)) from hp) (by simp),e0.hok.kept hk,?_⟩
 .exact name_of_addr x.apart (PySem.mem_of_lookup h1) (PySem.mem_of_lookup h2)
 .have hy:scope.names.lookup y=some .cell\/scope.names.lookup y=some .free:=hy;rcases hy with hy | hy
  .exact zlE hy
  .exact absurd rfl (S.nofree _ (PySem.mem_of_lookup hy))
 .exact Nat.le_of_lt (x.above y c (PySem.mem_of_lookup h))
 .have hi:i < vs.length:=by
   unfold start at h2;by_cases hi:i < vs.length
   .exact hi
   .rw[List.getElem?_append_right (by simpa using hi)] at h2;rw[List.getElem?_replicate] at h2;split at h2<;>cases h2
  have ha:vs[i]? = some v:=by
   unfold start at h2;rw[List.getElem?_append_left (by simpa using hi),List.getElem?_map] at h2;cases e:vs[i]? with
   | none=>rw[e] at h2;cases h2
   | some a=>rw[e] at h2;cases h2;rfl
  obtain⟨u,hu,rv⟩:=r.get ha;have hp:ps[i]? = some y:=by
   rw[<- S.pre,List.getElem?_take_of_lt (by omega)];exact h1
  have ndP:ps.Nodup:=by rw[<- S.pre];exact S.nd.sublist (List.take_sublist _ _)
  refine⟨u,rv,?_⟩;rcases S.par y (List.mem_of_getElem? hp) with k | k
  .exact .inl ⟨k,zjp ndP hp hu k⟩
  .obtain⟨c,e⟩:=zlE (n:=s.heap.objs.size+1) k;refine .inr ⟨.inl k,c,e,?_⟩;have q:=x.cell y c e;rw[zjo ndP hp hu (by show scope.names.lookup y≠_;rw[k];decide)] at q;exact q
 .exact e0.hok.fresh (Nat.le_of_lt (x.above y c (PySem.mem_of_lookup h)))
 .unfold start;show _=N.length;rw[List.length_append,List.length_map,List.length_replicate];omega
theorem zuX{cm:Bool}{CX:CXT}{P:Program}{w:World}{K:Frag}{mg:Str->Option Value}{base:Heap}{k:Nat}{f:Addr}{name qual:Str}{params:Arguments}{body:List Stmt}{scope:Scope}{dV kV doc pm cdv ct oc:Value}{an od:Option Addr}
  {osl:Array (Option Value)}{N ps:List Str}{sp:Sp}(lk:K.lookup f=some ⟨oc,od, .func (fnOf name qual params body scope dV kV doc pm an cdv ct),osl⟩)(hcd:codeIn K cdv qual=true)(S:zG N ps scope)
  (len:∀vs H Q E,sp vs H Q E->vs.length=ps.length)
  (hbody:∀(A:Around) (outer:List Env) (s:Shared) (H:Hp) (vs:List V) (Q:VK) (E:XK),zaA cm k (A.deeper (envOfC qual scope s.heap.objs.size f cdv))->sp vs H Q E ->
   ∃t,PSs (zkT CX P w K mg base N qual scope f cdv A outer s H E cm) body t/\t { nx:=fun _ H'=>Q .non H',rt:=Q } (start N vs) H) :
  zaa P w K mg base CX (k+1) f (fnOf name qual params body scope dV kV doc pm an cdv ct) ps sp cm:=by
 refine⟨len,fun A outer s H args us vs Q E hr e0 hb r hsp=>?_⟩;have hl:=len _ _ _ _ hsp;have KX:K.In s.heap:=e0.mod.kin.keeps fun b o e=>(e0.bs b o e).1
 have lim:s.heap.NoLimit:=e0.mod.nolimit.keeps fun b o e=>(e0.bs b o e).1
 have hkind:∀y∈ps.zip us,scope.names.lookup y.1=some .local\/(scope.names.lookup y.1=some .cell/\((cellsFrom (s.heap.objs.size+1) scope.names []).lookup y.1).isSome=true):=fun⟨n,v⟩ hy=>by
  rcases S.par n (List.of_mem_zip hy).1 with q | q
  .exact .inl q
  .exact .inr ⟨q,PySem.W.cellsFrom_some _ _ _ (.inl q)⟩
 refine codeAny_call_function hr.depth (KX _ _ lk) rfl S.co S.gen rfl (PySem.W.codeRec_of KX hcd) (hb _ _ _ _ ?_);refine wpAny_newFunctionEnv_cells S.kind hkind fun env he s1 x=>?_
 subst he;refine⟨lim.keeps x.toInCall.keep,codeAny_func ?_⟩;obtain⟨t,ht,hq⟩:=hbody A outer s H vs Q E (hr.deeper _) hsp;have I:Inv (zkT CX P w K mg base N qual scope f cdv A outer s H E cm) [] (start N vs) H s1:=zoU S hr.hd e0 hl r x;refine wpAny_mono (ht [] s1 (start N vs) H _ I hq) (fun fl s' hs=>?_) fun e s' hs=>hs
 have fin:∀{σ':St} {H':Hp} {v:V} {u:Value},Inv (zkT CX P w K mg base N qual scope f cdv A outer s H E cm) [] σ' H' s'->RelV v u->Q v H'->CE outer P w H s Q u s' :=
  fun{σ' H' v u} J rv q=>⟨v,H',J.os,J.bare,J.base,J.hok,rv,q⟩
 cases fl with
 | ret u =>
  obtain⟨v,σ',H',J,rv,q⟩:=hs;exact fin J rv q
 | next =>
  obtain⟨σ',H',J,q⟩:=hs;exact fin (v:=V.non) (u:=Value.none) J rfl q
 | brk =>
  obtain⟨_,_,_,q⟩:=hs;exact False.elim q
 | cont =>
  obtain⟨_,_,_,q⟩:=hs;exact False.elim q
section
variable{X:Cx}{x:Str}{p pos:Pos}{e:Expr}{es:List Expr}{t:TA}{id T:String}{r:List V->Hp->VK->Prop}
def tCB(r:List V->Hp->VK->Prop)(t:TA):TE:=fun σ H Q=>t σ H fun vs H1=>r vs H1 Q
theorem zrd(hc:zL X (.builtin id) r)(hg:Gl X x)(hm:X.mg x=none)(hv:bootBuiltins x=some (.builtin id))(ha:PA X (e::es) t)(hn:x≠"__name__":=by decide)(hdb:(x==("__debug__":Str))=false:=by decide)
  (he:starEach (e::es) X.env=(false,eval e X.env)::starEach es X.env:=by rfl)(hpl:(backTo pos (starEach es X.env)).any (·.1)=false:=by rfl):PE X (.Call (.Name x p) (e::es) [] pos) (tCB r t):=by
 intro pins s σ H Q I h;refine wpAny_Call_Name_kw (zeT I hg hm hv ?_ hn hdb);exact PyProof.Rows.callWith_builtin1 (thn (ha pos pins s σ H _ I h) fun us s1 ⟨vs,H1,I1,r1,q1⟩=>hc pins s1 σ H1 vs us Q I1 r1 q1) he hpl
theorem zpv(hc:zL X (.type T) r)(hg:Gl X x)(hm:X.mg x=none)(hv:bootBuiltins x=some (.type T))(ha:PA X (e::es) t)(hn:x≠"__name__":=by decide)(hdb:(x==("__debug__":Str))=false:=by decide)
  (he:starEach (e::es) X.env=(false,eval e X.env)::starEach es X.env:=by rfl)(hpl:(backTo pos (starEach es X.env)).any (·.1)=false:=by rfl):PE X (.Call (.Name x p) (e::es) [] pos) (tCB r t):=by
 intro pins s σ H Q I h;refine wpAny_Call_Name_kw (zeT I hg hm hv ?_ hn hdb);exact PyProof.Rows.callWith_type1 (thn (ha pos pins s σ H _ I h) fun us s1 ⟨vs,H1,I1,r1,q1⟩=>hc pins s1 σ H1 vs us Q I1 r1 q1) he hpl
end
end L2
namespace HT
open PySem PyProof.Rows
section
open PySem.SeqAt
open PySem.AutoSeq1 (wpAny_loadPart')
open PySem.MeetsSeq PySem.MeetsSeq2 PySem.MeetsSeq3
end
section
variable{prog:Program}{w:World}{A:Around}{E:Value->Shared->Prop}{s:Shared}
theorem ztA{t b:Addr}{vs ws:List Value}{Q:Value->Shared->Prop}(ht:IsTup s.heap t vs.toArray)(hb:IsTup s.heap b ws.toArray)(hv:vs≠[])
  (h1:ws=[]->Q (.ref t) s)(h2:ws≠[]->Q (.ref s.heap.objs.size) { s with heap:=s.heap.push { cls:= .type "tuple",data:= .seq (vs++ws).toArray } })
  (hsz:vs.length+ws.length<=sizeLine):wpAny (model prog w) A (binaryOp .Add (.ref t) (.ref b)) Q E s:=by
 obtain⟨⟨cls,dd,data,sl⟩,ho,hc,n,hd⟩:=id ht;obtain⟨⟨cls2,dd2,data2,sl2⟩,ho2,hc2,n2,hd2⟩:=id hb;simp only at hc hd hc2 hd2;subst hc hd hc2 hd2;have e:vs.toArray++ws.toArray=(vs++ws).toArray:=by simp
 by_cases hw:ws=[]
 .exact concat_meets ⟨_,ho,rfl⟩ ⟨_,ho2,rfl⟩ noFill_tuple_add seq_tuple_add PySem.F.slot_tuple_add PySem.F.entry_tuple_add (PySem.F.args_tuple_add_2 _ _)
   (tuple_addW1 t b vs.toArray ws.toArray n n2 dd dd2 sl sl2 (by simpa using hv) (by simp[hw])) ⟨ho,ho2,h1 hw⟩
 .refine concat_meets ⟨_,ho,rfl⟩ ⟨_,ho2,rfl⟩ noFill_tuple_add seq_tuple_add PySem.F.slot_tuple_add PySem.F.entry_tuple_add (PySem.F.args_tuple_add_2 _ _)
   (tuple_addW2 t b vs.toArray ws.toArray n n2 dd dd2 sl sl2 (by simpa using hv) (by simpa using hw) (by rw[List.size_toArray,List.size_toArray];exact hsz)) ⟨ho,ho2,?_⟩
  rw[e];exact h2 hw
def sIx(n d:Nat):Option Int->Nat
 | none=>d
 | some v=>if v < 0 then(v+(n:Int)).toNat else min v.toNat n
theorem zln(n d:Nat):sIx n d none=d:=rfl
theorem zaI(n d k:Nat):sIx n d (some (k:Int))=min k n:=by
 show(if (k:Int) < 0 then((k:Int)+(n:Int)).toNat else min (k:Int).toNat n)=min k n;rw[if_neg (by omega),Int.toNat_natCast]
theorem zxf(n d:Nat)(hd:d<=n)(o:Option Int):sIx n d o<=n:=by
 cases o with
 | none=>exact hd
 | some v =>
  show(if v < 0 then(v+(n:Int)).toNat else min v.toNat n)<=n;by_cases hv:v < 0
  .rw[if_pos hv];omega
  .rw[if_neg hv];exact Nat.min_le_right _ _
theorem znx(v:Int)(n d:Nat):(if v < 0 then max (v+(n:Int)) 0 else min v (n:Int))=((sIx n d (some v):Nat):Int):=by
 show(if v < 0 then max (v+(n:Int)) 0 else min v (n:Int))=(((if v < 0 then(v+(n:Int)).toNat else min v.toNat n):Nat):Int);by_cases hv:v < 0
 .simp only[if_pos hv];omega
 .simp only[if_neg hv];omega
theorem zmD(lo hi:Option Int)(n:Nat):Builtin.Slice.sliceAdjust lo hi 1 (n:Int)=(((sIx n 0 lo:Nat):Int),((sIx n n hi:Nat):Int)):=by
 have h1:¬ ((1:Int) < 0):=by omega
 unfold Builtin.Slice.sliceAdjust;simp only[h1,if_false];refine Prod.ext ?_ ?_
 .cases lo with
  | none=>rfl
  | some v=>exact znx v n 0
 .cases hi with
  | none=>rfl
  | some v=>exact znx v n n
theorem zmo(i j:Nat):Builtin.Slice.slicePlaces (i:Int) (j:Int) 1=j - i:=by
 unfold Builtin.Slice.slicePlaces;have h1:(1:Int) > 0:=by omega
 simp only[h1,if_true,Int.ediv_one];split<;>omega
theorem zch{v:Value}{o:Option Int}{Q:Option Int->Shared->Prop}(p:IsPart v o)(h:Q o s):wpAny (model prog w) A (Builtin.Slice.slicePartIndex v) Q E s:=by
 cases p with
 | none=>exact slicePart_none h
 | int i t=>exact slicePart_int h
theorem zf3{sl:Addr}{vl vu:Value}{lo hi:Option Int}{n:Nat}{Q:Int×Int×Nat->Shared->Prop}(hs:s.heap.IsSliceOf sl vl vu .none)(pl:IsPart vl lo)(pu:IsPart vu hi)
  (h:Q (((sIx n 0 lo:Nat):Int),1,sIx n n hi - sIx n 0 lo) s):wpAny (model prog w) A (Builtin.Slice.sliceApplied (.ref sl) (pure (n:Int))) Q E s:=by
 obtain⟨os,hos,hcs,hds⟩:=id hs;unfold Builtin.Slice.sliceApplied Builtin.Slice.sliceFields;refine wpAny_bind (wpAny_bind (wpAny_field hos hds (x:=vl) rfl (wpAny_bind (wpAny_field hos hds (x:=vu) rfl (wpAny_bind (wpAny_field hos hds (x:= .none) rfl (wpAny_pure ?_)))))));refine wpAny_bind (slicePart_none ?_);show wpAny _ _ (if ((1:Int)==0)=true then _ else _) _ _ s;rw[if_neg (by decide)];refine wpAny_bind (zch pl (wpAny_bind (zch pu (wpAny_bind (wpAny_pure ?_)))));show wpAny _ _ (match Builtin.Slice.sliceAdjust lo hi 1 (n:Int) with | (lo,hi)=>pure (lo,(1:Int),Builtin.Slice.slicePlaces lo hi 1)) _ _ s;rw[zmD lo hi n];show wpAny _ _ (pure (((sIx n 0 lo:Nat):Int),(1:Int),Builtin.Slice.slicePlaces ((sIx n 0 lo:Nat):Int) ((sIx n n hi:Nat):Int) 1)) _ _ s;rw[zmo];exact wpAny_pure h
theorem zqJ(xs:Array Value)(i k:Nat):((List.range k).filterMap fun(m:Nat)=>xs[((i:Int)+(m:Int)*1).toNat]?).toArray=((xs.toList.drop i).take k).toArray:=by
 have e:(fun(m:Nat)=>xs[((i:Int)+(m:Int)*1).toNat]?)=fun m=>xs[i+m]? := by
  funext m;have:((i:Int)+(m:Int)*1).toNat=i+m:=by omega
  rw[this]
 rw[e];have:=pick_run xs i k;rw[List.filterMap_map] at this;have e2:((fun x=>xs[x]?)∘fun x=>i+x)=fun m=>xs[i+m]? := rfl
 rw[e2] at this;rw[this]
theorem zfG{t sl:Addr}{items:Array Value}{vl vu:Value}{lo hi:Option Int}{Q:Value->Shared->Prop}(ht:IsTup s.heap t items)(hs:s.heap.IsSliceOf sl vl vu .none)(pl:IsPart vl lo)(pu:IsPart vu hi)
  (hw:¬ (sIx items.size 0 lo=0/\sIx items.size items.size hi=items.size))
  (h:Q (.ref s.heap.objs.size) { s with heap:=s.heap.push { cls:= .type "tuple",data:= .seq ((items.toList.drop (sIx items.size 0 lo)).take (sIx items.size items.size hi - sIx items.size 0 lo)).toArray } })
  (hsz:items.size<=sizeLine):wpAny (model prog w) A (getItem (.ref t) (.ref sl)) Q E s:=by
 have htake:sizeOk (.seq ((items.toList.drop (sIx items.size 0 lo)).take (sIx items.size items.size hi - sIx items.size 0 lo)).toArray):=by
  show((items.toList.drop (sIx items.size 0 lo)).take (sIx items.size items.size hi - sIx items.size 0 lo)).toArray.size<=sizeLine;rw[List.size_toArray,List.length_take,List.length_drop,Array.length_toList];omega
 have hj:sIx items.size items.size hi<=items.size:=zxf _ _ (Nat.le_refl _) hi;obtain⟨os,hos,hcs,hds⟩:=id hs;have hTs:s.TypeIs (.ref sl) "slice":=⟨os,hos,hcs⟩;unfold getItem;try with_reducible refine wpAny_holding ?_
 first | refine wpAny_bind (wpAny_pure ?_) | skip
 refine wpAny_bind (wpAny_sequenceKey ht.typeIs (by decide) ?_);refine wpAny_bind (wpAny_callSpecial?_slot (name:=Str.ofString "__getitem__") ht.typeIs PyProof.Rows.slot_tuple_getitem
  (wpAny_call_entry PyProof.Rows.slot_tuple_getitem ht.typeIs entry_tuple_getitem ?_ (args_tuple_getitem _ _)))
 show wpAny _ _ (Builtin.Tuple.tupleItemsOf (.ref t) >>= _) _ _ s;refine wpAny_bind (tupleItemsOf_ ht ?_);refine wpAny_bind (wpAny_typeOf hTs ?_);rw[if_pos (by decide)];refine wpAny_bind (zf3 hs pl pu ?_);have hno:¬ ((((sIx items.size 0 lo:Nat):Int)==0&&(1:Int)==1&&(sIx items.size items.size hi - sIx items.size 0 lo)==items.size)=true):=by
  intro q;rw[Bool.and_eq_true,Bool.and_eq_true] at q;have q1:((sIx items.size 0 lo:Nat):Int)=0:=eq_of_beq q.1.1;have q2:sIx items.size items.size hi - sIx items.size 0 lo=items.size:=eq_of_beq q.2;exact hw ⟨by omega,by omega⟩
 show wpAny _ _ (if (((sIx items.size 0 lo:Nat):Int)==0&&(1:Int)==1&&(sIx items.size items.size hi - sIx items.size 0 lo)==items.size)=true then _ else _) _ _ s;rw[if_neg hno,zqJ];first
  | exact wpAny_bind (m:=Builtin.Tuple.tupleExact _) (wpAny_newObj_type (wpAny_pure ⟨_,rfl,wpAny_pure h⟩) htake)
  | exact wpAny_bind (m:=Builtin.Tuple.tupleExact _) (wpAny_newObj_type (wpAny_bind (wpAny_pure (wpAny_pure ⟨_,rfl,wpAny_pure h⟩))) htake)
  | exact wpAny_bind (wpAny_bind (m:=Builtin.Tuple.tupleExact _) (wpAny_newObj_type (wpAny_pure (wpAny_pure ⟨_,rfl,wpAny_pure h⟩)) htake))
  | exact wpAny_bind (wpAny_bind (m:=Builtin.Tuple.tupleExact _) (wpAny_newObj_type (wpAny_pure ⟨_,rfl,wpAny_pure h⟩) htake))
end
end HT
namespace L2
open PySem PySem.Spec PyProof.Rows
abbrev TO:=St->Hp->(Option Int->Hp->Prop)->Prop
def PO(X:Cx)(e:Option Expr)(t:TO):Prop :=
 ∀(pins:List (Addr×Obj)) (s:Shared) (σ:St) (H:Hp) (Q:Option Int->Hp->Prop),Inv X pins σ H s->t σ H Q ->
  wpAny (model X.prog X.w) X.A (evalPart e X.env) (fun u s'=>∃o H',Inv X pins σ H' s'/\IsPart u o/\Q o H') X.xe s
def zjU:TO:=fun _ H Q=>Q none H
def zrp(t:TE):TO:=fun σ H Q=>t σ H fun x H1=>∃i,x= .int i/\Q (some i) H1
section
variable{X:Cx}{e:Expr}{te:TE}{lo hi:Option Expr}{tl th:TO}{pos p2:Pos}
theorem ztZ:PO X none zjU:=by
 intro pins s σ H Q I h;rw[evalPart_none];exact wpAny_pure ⟨none,H,I, .none,h⟩
theorem ztk(h:PE X e te):PO X (some e) (zrp te):=by
 intro pins s σ H Q I hw;rw[evalPart_some];refine thn (h pins s σ H _ I hw) fun u s1 ⟨x,H1,I1,r1,q1⟩=>?_
 obtain⟨i,rfl,q⟩:=q1;obtain⟨t,rfl⟩:=r1;exact⟨some i,H1,I1, .int i t,q⟩
def SlR(X:Cx)(r:V->Option Int->Option Int->Hp->VK->Prop):Prop :=
 ∀(pins:List (Addr×Obj)) (s:Shared) (σ:St) (H:Hp) (x:V) (v vl vu:Value) (lo hi:Option Int) (sl:Addr) (Q:VK),Inv X pins σ H s->RelV x v->s.heap.IsSliceOf sl vl vu .none->IsPart vl lo->IsPart vu hi->r x lo hi H Q ->
  ∃T id,typeLookup (.type T) "__getitem__"=pure (some (.builtin id))/\s.TypeIs v T/\wpAny (model X.prog X.w) X.A (getItem v (.ref sl)) (EP X pins σ Q) X.xe s
theorem SlR.or{r r':V->Option Int->Option Int->Hp->VK->Prop}(h:SlR X r)(h':SlR X r'):SlR X (fun x lo hi H Q=>r x lo hi H Q\/r' x lo hi H Q):=by
 intro pins s σ H x v vl vu lo hi sl Q I rx hs pl pu q;rcases q with q | q
 .exact h pins s σ H x v vl vu lo hi sl Q I rx hs pl pu q
 .exact h' pins s σ H x v vl vu lo hi sl Q I rx hs pl pu q
def tSl(r:V->Option Int->Option Int->Hp->VK->Prop)(te:TE)(tl th:TO):TE:=fun σ H Q=>te σ H fun x H1=>tl σ H1 fun l H2=>th σ H2 fun u H3=>r x l u H3 Q
theorem zq8{r:V->Option Int->Option Int->Hp->VK->Prop}(hr:SlR X r)(he:PE X e te)(hl:PO X lo tl)(hu:PO X hi th):PE X (.Subscript e (.Slice lo hi none p2) pos) (tSl r te tl th):=by
 intro pins s σ H Q I h;refine Subscript_ (thn (he pins s σ H _ I h) fun v s1 ⟨x,H1,I1,r1,q1⟩=>?_);refine wpAny_Slice (thn (hl pins s1 σ H1 _ I1 q1) fun vl s2 ⟨l,H2,I2,pl,q2⟩=>thn (hu pins s2 σ H2 _ I2 q2) fun vu s3 ⟨u,H3,I3,pu,q3⟩=>?_);rw[evalPart_none];refine wpAny_pure ?_;have I4:Inv X pins σ H3 { s3 with heap:=s3.heap.push { cls:= .type "slice",data:= .fields #[vl,vu, .none] } }:=I3.kept (t':=s3.toks) fun b ob q=>Heap.get?_push_of_some _ q
 obtain⟨T,id,hT,ht,hg⟩:=hr pins { s3 with heap:=s3.heap.push { cls:= .type "slice",data:= .fields #[vl,vu, .none] } } σ H3 x v vl vu l u s3.heap.objs.size Q I4 r1 (Heap.IsSliceOf.new ..) pl pu q3;show wpAny (model X.prog X.w) X.A (subscriptTail e (.Slice lo hi none p2) v (.ref s3.heap.objs.size)) (EP X pins σ Q) X.xe { s3 with heap:=s3.heap.push { cls:= .type "slice",data:= .fields #[vl,vu, .none] } };exact tail_any (ops:=[.ref s3.heap.objs.size,v]) ht hT hg (by with_unfolding_all rfl)
def zgQ(xs:List V)(lo hi:Option Int):List V:=(xs.drop (HT.sIx xs.length 0 lo)).take (HT.sIx xs.length xs.length hi - HT.sIx xs.length 0 lo)
theorem zgt(xs:List V)(lo hi:Option Int):(zgQ xs lo hi).length<=xs.length:=by
 unfold zgQ;rw[List.length_take,List.length_drop];omega
def zxI(K:Frag):V->Option Int->Option Int->Hp->VK->Prop:=fun x lo hi H Q=>∃a xs,x= .ref a/\SqT K H a xs /\
 ¬ (HT.sIx xs.length 0 lo=0/\HT.sIx xs.length xs.length hi=xs.length)/\∀p,H p=none->Q (.ref p) (upd H p (.tup (zgQ xs lo hi)))
theorem zvr:SlR X (zxI X.K):=by
 intro pins s σ H x v vl vu lo hi sl Q I rx hs pl pu h;obtain⟨a,xs,rfl,hx,hw,q⟩:=h;cases rx;obtain⟨its,r,ht,hz⟩:=I.tuple hx;have hlen:its.toArray.size=xs.length:=by rw[List.size_toArray];exact r.length.symm
 refine⟨"tuple",_,PyProof.Rows.slot_tuple_getitem.lookup,ht.typeIs,?_⟩;refine HT.zfG ht hs pl pu (by rw[hlen];exact hw) ?_ (by rw[hlen];exact hz);rw[hlen];refine⟨.ref s.heap.objs.size,_,I.laid (t':=s.toks) (o:= .tup (zgQ xs lo hi)) (fun b ob q=>Heap.get?_push_of_some _ q) (Nat.le_refl _) ?_,rfl,q _ (I.hok.fresh (Nat.le_refl _))⟩;exact⟨Nat.le_trans (zgt xs lo hi) hz,_,(r.drop (HT.sIx xs.length 0 lo)).take (HT.sIx xs.length xs.length hi - HT.sIx xs.length 0 lo),IsTup.new _ _⟩
def zrl(K:Frag):R2:=fun x y H Q=>∃a b xs ys,x= .ref a/\y= .ref b/\SqT K H a xs/\SqT K H b ys/\xs≠[]/\xs.length+ys.length<=sizeLine /\
 (ys=[]->Q (.ref a) H)/\(ys≠[]->∀p,H p=none->Q (.ref p) (upd H p (.tup (xs++ys))))
theorem Vals.nil_iff{xs:List V}{us:List Value}(r:Vals xs us):us=[]↔xs=[]:=by
 cases r with
 | nil=>simp
 | cons _ _=>simp
theorem zoc:OpR X (binaryOp .Add) (zrl X.K):=by
 intro pins s σ H x y v u Q I rx ry h;obtain⟨a,b,xs,ys,rfl,rfl,ha,hb,hx,hz,q1,q2⟩:=h;cases rx;cases ry;obtain⟨its,r1,p1,_⟩:=I.tuple ha;obtain⟨its2,r2,p2,_⟩:=I.tuple hb;refine HT.ztA p1 p2 (fun z=>hx (r1.nil_iff.mp z)) (fun z=>⟨.ref a,H,I,rfl,q1 (r2.nil_iff.mp z)⟩) (fun z=>?_) (by rw[<- r1.length,<- r2.length];exact hz);refine⟨.ref s.heap.objs.size,_,I.laid (t':=s.toks) (o:= .tup (xs++ys)) (fun b ob q=>Heap.get?_push_of_some _ q) (Nat.le_refl _) ?_,rfl,q2 (fun w=>z (r2.nil_iff.mpr w)) _ (I.hok.fresh (Nat.le_refl _))⟩;exact⟨by rw[List.length_append];exact hz,_,r1.append r2,IsTup.new _ _⟩
end
def ixN(n:Nat)(i:Int):Option Nat:=if 0<=i then(if i < n then some i.toNat else none) else if -(n:Int)<=i then some (i+n).toNat else none
def atI{α:Type}(xs:List α)(i:Int):Option α:=(ixN xs.length i).bind fun j=>xs[j]?
theorem znB{n:Nat}{i:Int}{j:Nat}(h:ixN n i=some j):seqIndex? i n=some j/\j < n/\ -(n:Int)<=i/\i < n:=by
 unfold ixN at h;by_cases h0:0<=i
 .rw[if_pos h0] at h;by_cases h1:i < n
  .rw[if_pos h1] at h;have e:i.toNat=j:=Option.some.inj h;exact⟨by rw[seqIndex_of h0 h1,e],by omega,by omega,h1⟩
  .rw[if_neg h1] at h;cases h
 .rw[if_neg h0] at h;by_cases h1: -(n:Int)<=i
  .rw[if_pos h1] at h;have e:(i+n).toNat=j:=Option.some.inj h;exact⟨by rw[seqIndex_neg (by omega) h1,e],by omega,h1,by omega⟩
  .rw[if_neg h1] at h;cases h
theorem zkz{α:Type}{xs:List α}{i:Int}{v:α}(h:atI xs i=some v):∃j,seqIndex? i xs.length=some j/\xs[j]? = some v/\j < xs.length/\ -(xs.length:Int)<=i/\i < xs.length:=by
 unfold atI at h;cases e:ixN xs.length i with
 | none=>rw[e] at h;cases h
 | some j =>
  rw[e] at h;obtain⟨h1,h2,h3,h4⟩:=znB e;exact⟨j,h1,h,h2,h3,h4⟩
theorem zbu{α:Type}{xs:List α}{j:Nat}{v:α}(h:xs[j]? = some v):atI xs (j:Int)=some v:=by
 have hj:j < xs.length:=(List.getElem?_eq_some_iff.mp h).1;have e:ixN xs.length (j:Int)=some j:=by
  unfold ixN;rw[if_pos (by omega),if_pos (by omega)];simp
 unfold atI;rw[e];exact h
theorem zlI{α:Type}(xs:List α)(v:α):atI (xs++[v]) (-1)=some v:=by
 have hl:(xs++[v]).length=xs.length+1:=by simp
 have e:ixN (xs++[v]).length (-1)=some xs.length:=by
  unfold ixN;rw[hl,if_neg (by decide),if_pos (by omega)];congr 1
  omega
 unfold atI;rw[e];show(xs++[v])[xs.length]? = some v;simp
def zkH(b:Expr):Prop:=∀o i,subscripted b false o i=operate [o,i] (getItem o i)
def IxR(X:Cx)(r:R2):Prop :=
 ∀(value slice:Expr) (pins:List (Addr×Obj)) (s:Shared) (σ:St) (H:Hp) (x y:V) (v u:Value) (Q:VK),Inv X pins σ H s->RelV x v->RelV y u->r x y H Q ->
  subscripted slice false v u=operate [v,u] (getItem v u)->wpAny (model X.prog X.w) X.A (subscriptTail value slice v u) (EP X pins σ Q) X.xe s
def MtR(X:Cx)(id:String)(r:V->List V->Hp->VK->Prop):Prop :=
 ∀(pins:List (Addr×Obj)) (s:Shared) (σ:St) (H:Hp) (x:V) (xs:List V) (v:Value) (us:List Value) (Q:VK),Inv X pins σ H s->RelV x v->Vals xs us->r x xs H Q ->
  wpAny (model X.prog X.w) X.A (call (.builtin id) (v::us)) (EP X pins σ Q) X.xe s
section
variable{X:Cx}{a b:Expr}{ta tb:TE}{pos:Pos}
theorem IxR.or{r r':R2}(h:IxR X r)(h':IxR X r'):IxR X (fun x y H Q=>r x y H Q\/r' x y H Q):=by
 intro value slice pins s σ H x y v u Q I rx ry q hs;rcases q with q | q
 .exact h value slice pins s σ H x y v u Q I rx ry q hs
 .exact h' value slice pins s σ H x y v u Q I rx ry q hs
theorem zyJ{r:R2}(hr:IxR X r)(ha:PE X a ta)(hb:PE X b tb)(hs:zkH b):PE X (.Subscript a b pos) (tOp r ta tb):=by
 intro pins s σ H Q I h;exact Subscript_ (zvC ha hb I h fun v u s2 x y H2 I2 rx ry q=>hr a b pins s2 σ H2 x y v u Q I2 rx ry q (hs _ _))
def zhy(K:Frag):R2:=fun x y H Q=>∃p xs i v,x= .ref p/\y= .int i/\SqL K H p xs/\atI xs i=some v/\Q v H
def zyI(K:Frag):R2:=fun x y H Q=>∃p xs i v,x= .ref p/\y= .int i/\SqT K H p xs/\atI xs i=some v/\Q v H
def zyG:R2:=fun x y H Q=>∃z i c,x= .str z/\y= .int i/\z.length<=sizeLine/\atI z.cps.toList i=some c/\Q (.str ⟨#[c]⟩) H
theorem zn4:IxR X (zhy X.K):=by
 intro value slice pins s σ H x y v u Q I rx ry h hs;obtain⟨p,xs,i,z,rfl,rfl,hq,he,q⟩:=h;cases rx;obtain⟨t,rfl⟩:=ry;obtain⟨its,r,pl,hz⟩:=I.list hq;obtain⟨j,h1,h2,h3,h4,h5⟩:=zkz he;obtain⟨w,ew,rw'⟩:=r.get h2;have hl:=r.length;have hn:=zfO;have fin:EP X pins σ Q w s:=⟨z,H,I,rw',q⟩;by_cases h0:0<=i
 .have hj:i.toNat=j:=by
   rw[seqIndex_of h0 h5] at h1;exact Option.some.inj h1
  exact item_listR pl.isList h0 (by omega) (by rw[hj];simpa using ew) fin hs
 .have hj:(i+(its.toArray.size:Int)).toNat=j:=by
   rw[seqIndex_neg (by omega) h4] at h1;rw[List.size_toArray,<- hl];exact Option.some.inj h1
  exact subscriptTail_builtinR (x:=w) pl.isList.typeIs slot_list_getitem.lookup
   (wpAny_getItem_list_neg (Q:=fun r s'=>r=w/\EP X pins σ Q r s') pl.isList (by omega) (by rw[List.size_toArray]<;>omega) (by omega) (by rw[hj];simpa using ew) ⟨rfl,fin⟩) hs
theorem zxr:IxR X (zyI X.K):=by
 intro value slice pins s σ H x y v u Q I rx ry h hs;obtain⟨p,xs,i,z,rfl,rfl,hq,he,q⟩:=h;cases rx;obtain⟨t,rfl⟩:=ry;obtain⟨its,r,pl,hz⟩:=I.tuple hq;obtain⟨j,h1,h2,h3,h4,h5⟩:=zkz he;obtain⟨w,ew,rw'⟩:=r.get h2;have hl:=r.length;have hn:=zfO;have fin:EP X pins σ Q w s:=⟨z,H,I,rw',q⟩;exact subscriptTail_builtinR (x:=w) pl.typeIs slot_tuple_getitem.lookup
  (getItem_tuple (j:=j) (Q:=fun r s'=>r=w/\EP X pins σ Q r s') pl (by omega) (by omega) (by rw[List.size_toArray,<- hl];exact h1) (by simpa using ew) ⟨rfl,fin⟩) hs
theorem zxc:IxR X zyG:=by
 intro value slice pins s σ H x y v u Q I rx ry h hs;obtain⟨z,i,c,rfl,rfl,hz,he,q⟩:=h;obtain⟨t,rfl⟩:=rx;obtain⟨t',rfl⟩:=ry;obtain⟨j,h1,h2,h3,h4,h5⟩:=zkz he;have hl:z.cps.toList.length=z.length:=by simp[Str.length]
 rw[hl] at h1 h4 h5;have hn:=zfO;exact tail_any (typeIs_str s z t) slot_str_getitem.lookup (getItem_str (c:=c) (by
  have e1:decide (i < -(2^63:Int))=false:=decide_eq_false (by omega);have e2:decide (i ≥ 2^63)=false:=decide_eq_false (by omega);rw[e1,e2,Bool.or_false]) (by rw[h1];simpa using h2) ⟨.str ⟨#[c]⟩,H,I.tok _,⟨_,rfl⟩,q⟩) hs
def rIx(K:Frag):R2:=fun x y H Q=>zhy K x y H Q\/zyI K x y H Q\/zyG x y H Q
theorem zv2:IxR X (rIx X.K):=zn4.or (zxr.or zxc)
theorem zmB(its:List Value)(n j:Nat)(u:Value):Obj.mapSeq (·.setIfInBounds j u) { cls:= .type "list",data:= .seq its.toArray n }={ cls:= .type "list",data:= .seq (its.set j u).toArray n }:=by
 simp[Obj.mapSeq]
theorem Inv.lst{pins:List (Addr×Obj)}{σ:St}{H:Hp}{s:Shared}{p:Addr}{xs:List V}(I:Inv X pins σ H s)(h:H p=some (.lst xs)) :
  ∃(its:List Value) (n:Nat),Vals xs its/\s.heap.get? p=some { cls:= .type "list",data:= .seq its.toArray n }/\xs.length<=sizeLine:=by
 obtain⟨z,its,n,r,e⟩:=I.hok p _ h;exact⟨its,n,r,e,z⟩
theorem Inv.lstUpd{pins:List (Addr×Obj)}{σ:St}{H:Hp}{s:Shared}{p:Addr}{xs ys:List V}{its its':List Value}{n n':Nat}{f:Obj->Obj}(I:Inv X pins σ H s)(h:H p=some (.lst xs))
  (ho:s.heap.get? p=some { cls:= .type "list",data:= .seq its.toArray n })(hf:f { cls:= .type "list",data:= .seq its.toArray n }={ cls:= .type "list",data:= .seq its'.toArray n' })(r:Vals ys its')(hz:ys.length<=sizeLine)(t:Nat) :
  Inv X pins σ (upd H p (.lst ys)) { s with heap:=s.heap.update p f,toks:=t }:=by
 have e:(s.heap.update p f).get? p=some { cls:= .type "list",data:= .seq its'.toArray n' }:=by
  rw[Heap.get?_update_self f ho (by rw[hf]<;>rfl),hf]
 refine I.write (x:=p) (e:=p) (by rw[h];trivial) (.inl rfl) (fun b u hb q=>(Heap.get?_update_other _ _ (Ne.symm hb)).trans q) ⟨_,e⟩ ?_;exact⟨hz,its',n',r,e⟩
def zgD:V->V->V->Hp->(Hp->Prop)->Prop:=fun o i v H Q=>∃p xs k j,o= .ref p/\i= .int k/\H p=some (.lst xs)/\ixN xs.length k=some j/\Q (upd H p (.lst (xs.set j v)))
theorem set_list:zwu X zgD:=by
 intro pins s σ H o i v ov iv u Q I ro ri rv h;obtain⟨p,xs,k,j,rfl,rfl,hp,hj,q⟩:=h;cases ro;obtain⟨t,rfl⟩:=ri;obtain⟨its,n,r,ho,hz⟩:=I.lst hp;obtain⟨h1,h2,h3,h4⟩:=znB hj;have hl:=r.length;have hn:=zfO;have I':Inv X pins σ (upd H p (.lst (xs.set j v))) { s with heap:=s.heap.update p (Obj.mapSeq (·.setIfInBounds j u)) } :=
  I.lstUpd hp ho (zmB its n j u) (r.set rv j) (by rw[List.length_set];exact hz) s.toks
 by_cases h0:0<=k
 .have hk:k.toNat=j:=by
   rw[seqIndex_of h0 h4] at h1;exact Option.some.inj h1
  exact PySem.W.ki_setAt ho h0 (by omega) (by rw[List.size_toArray,<- hl];exact h4) (by rw[hk];exact⟨_,I',q⟩)
 .have hk:(k+(its.toArray.size:Int)).toNat=j:=by
   rw[seqIndex_neg (by omega) h3] at h1;rw[List.size_toArray,<- hl];exact Option.some.inj h1
  exact PySem.W.ki_setBack ho (by omega) (by rw[List.size_toArray,<- hl];exact h3) (by omega) (by rw[hk];exact⟨_,I',q⟩)
theorem zjL(lo hi:Option Int)(n:Nat):(sliceBounds lo hi none n).1=((HT.sIx n 0 lo:Nat):Int)/\(sliceBounds lo hi none n).2.1=((HT.sIx n n hi:Nat):Int)/\(sliceBounds lo hi none n).2.2=1:=by
 refine⟨?_,?_,rfl⟩
 .cases lo with
  | none=>simp[sliceBounds,HT.sIx]
  | some i =>
   simp only[sliceBounds,HT.sIx,Option.getD_none,show(1:Int) > 0 by decide,if_true];by_cases h:i < 0
   .simp only[h,if_true]<;>omega
   .simp only[h,if_false]<;>omega
 .cases hi with
  | none=>simp[sliceBounds,HT.sIx]
  | some i =>
   simp only[sliceBounds,HT.sIx,Option.getD_none,show(1:Int) > 0 by decide,if_true];by_cases h:i < 0
   .simp only[h,if_true]<;>omega
   .simp only[h,if_false]<;>omega
theorem ziJ(its:List Value)(lo hi:Option Int):slicePick its.toArray lo hi none=((its.drop (HT.sIx its.length 0 lo)).take (HT.sIx its.length its.length hi - HT.sIx its.length 0 lo)).toArray:=by
 obtain⟨h1,h2,h3⟩:=zjL lo hi its.toArray.size;unfold slicePick;rw[h1,h2,h3];simp only[sliceRange_one,pick_run,List.size_toArray]<;>rfl
def zwV(K:Frag):V->Option Int->Option Int->Hp->VK->Prop:=fun x lo hi H Q=>∃a xs,x= .ref a/\SqL K H a xs/\∀p,H p=none->Q (.ref p) (upd H p (.lst (zgQ xs lo hi)))
theorem znH:SlR X (zwV X.K):=by
 intro pins s σ H x v vl vu lo hi sl Q I rx hs pl pu h;obtain⟨a,xs,rfl,hx,q⟩:=h;cases rx;obtain⟨its,r,ht,hz⟩:=I.list hx;have hlen:=r.length;refine⟨"list",_,slot_list_getitem.lookup,ht.isList.typeIs,?_⟩;refine wpAny_getItem_list_slice ht.isList hs pl pu .none (by simp) ?_ (by rw[List.size_toArray]<;>omega);rw[ziJ,<- hlen];refine⟨.ref s.heap.objs.size,_,I.laid (t':=s.toks) (o:= .lst (zgQ xs lo hi)) (fun b ob q=>Heap.get?_push_of_some _ q) (Nat.le_refl _) ?_,rfl,q _ (I.hok.fresh (Nat.le_refl _))⟩;exact⟨Nat.le_trans (zgt xs lo hi) hz,_,0,(r.drop (HT.sIx xs.length 0 lo)).take (HT.sIx xs.length xs.length hi - HT.sIx xs.length 0 lo),Heap.get?_push_size _ rfl⟩
def zeF:V->Bool
 | .non=>true
 | .bl _=>true
 | .int _=>true
 | .str _=>true
 | _=>false
def eqV:V->V->Bool
 | .non, .non=>true
 | .bl a, .bl b=>a==b
 | .bl a, .int b=>(if a then 1 else 0)==b
 | .int a, .bl b=>a==(if b then 1 else 0)
 | .int a, .int b=>a==b
 | .str a, .str b=>a==b
 | _,_=>false
theorem zv6{A:Around}{s:Shared}{y x:V}{u v:Value}(ry:RelV y u)(rx:RelV x v)(fy:zeF y=true)(fx:zeF x=true):SeqAt.EqAt A s u v (eqV y x):=by
 cases y with
 | non =>
  cases ry;cases x with
  | non=>cases rx;exact SeqAt.EqAt.same _
  | bl b=>cases rx;exact SeqAt.EqAt.none_bool b
  | int b=>obtain⟨t,rfl⟩:=rx;exact SeqAt.EqAt.none_int b t
  | str b=>obtain⟨t,rfl⟩:=rx;exact SeqAt.EqAt.none_str b t
  | _=>exact absurd (show false=true from fx) Bool.false_ne_true
 | bl a =>
  cases ry;cases x with
  | non=>cases rx;exact SeqAt.EqAt.bool_none a
  | bl b=>cases rx;exact SeqAt.EqAt.bool_bool a b
  | int b=>obtain⟨t,rfl⟩:=rx;exact SeqAt.EqAt.bool_int a b t
  | str b=>obtain⟨t,rfl⟩:=rx;exact SeqAt.EqAt.bool_str a b t
  | _=>exact absurd (show false=true from fx) Bool.false_ne_true
 | int a =>
  obtain⟨t',rfl⟩:=ry;cases x with
  | non=>cases rx;exact SeqAt.EqAt.int_none a t'
  | bl b=>cases rx;exact SeqAt.EqAt.int_bool a t' b
  | int b=>obtain⟨t,rfl⟩:=rx;exact SeqAt.EqAt.int_int a t' b t
  | str b=>obtain⟨t,rfl⟩:=rx;exact SeqAt.EqAt.int_str a t' b t
  | _=>exact absurd (show false=true from fx) Bool.false_ne_true
 | str a =>
  obtain⟨t',rfl⟩:=ry;cases x with
  | non=>cases rx;exact SeqAt.EqAt.str_none a t'
  | bl b=>cases rx;exact SeqAt.EqAt.str_bool a t' b
  | int b=>obtain⟨t,rfl⟩:=rx;exact SeqAt.EqAt.str_int a t' b t
  | str b=>obtain⟨t,rfl⟩:=rx;exact SeqAt.EqAt.str_str a t' b t
  | _=>exact absurd (show false=true from fx) Bool.false_ne_true
 | _=>exact absurd (show false=true from fy) Bool.false_ne_true
def eqU(x:V)(u:Value):Bool:=match u with
 | .none=>eqV .non x
 | .bool b=>eqV (.bl b) x
 | .int i _=>eqV (.int i) x
 | .str z _=>eqV (.str z) x
 | _=>false
theorem zr8{x y:V}{u:Value}(r:RelV y u)(f:zeF y=true):eqU x u=eqV y x:=by
 cases y with
 | non=>cases r;rfl
 | bl b=>cases r;rfl
 | int i=>obtain⟨t,rfl⟩:=r;rfl
 | str z=>obtain⟨t,rfl⟩:=r;rfl
 | _=>exact absurd (show false=true from f) Bool.false_ne_true
theorem zfl{x:V}:∀{xs:List V} {us:List Value},Vals xs us->xs.all zeF=true->us.any (eqU x)=xs.any fun y=>eqV y x
 | _,_, .nil,_=>rfl
 | y::xs,u::us, .cons r t,f=>by
  rw[List.all_cons,Bool.and_eq_true] at f;rw[List.any_cons,List.any_cons,zr8 r f.1,zfl t f.2]
theorem zdS{A:Around}{s:Shared}{x:V}{v:Value}(rx:RelV x v)(fx:zeF x=true):∀{xs:List V} {us:List Value},Vals xs us->xs.all zeF=true->∀u∈us,SeqAt.EqAt A s u v (eqU x u)
 | _,_, .nil,_=>fun u hu=>by cases hu
 | y::xs,u::us, .cons r t,f=>fun u' hu=>by
  rw[List.all_cons,Bool.and_eq_true] at f;rcases List.mem_cons.mp hu with rfl | hu
  .rw[zr8 r f.1];exact zv6 r rx f.1 fx
  .exact zdS rx fx t f.2 u' hu
def inV(x:V)(xs:List V):Bool:=xs.any fun y=>eqV y x
def rIn(K:Frag)(neg:Bool):R2:=fun x y H Q=>∃p xs,y= .ref p/\(SqL K H p xs\/SqT K H p xs)/\zeF x=true/\xs.all zeF=true/\Q (.bl (if neg then !inV x xs else inV x xs)) H
theorem zoi:OpR X (compareOp .In) (rIn X.K false):=by
 intro pins s σ H x y v u Q I rx ry h;obtain⟨p,xs,rfl,hq,fx,fs,q⟩:=h;cases ry;rcases hq with hq | hq
 .obtain⟨its,r,pl,hz⟩:=I.list hq;refine SeqAt.in_listAt (eqU x) pl.isList (fun w hw=>zdS rx fx r fs w (by simpa using hw)) ⟨.bl _,H,I,rfl,?_⟩;rw[show its.toArray.any (eqU x)=its.any (eqU x) by simp,zfl r fs];exact q
 .obtain⟨its,r,pl,hz⟩:=I.tuple hq;refine SeqAt.in_tupleAt (eqU x) pl (fun w hw=>zdS rx fx r fs w (by simpa using hw)) ⟨.bl _,H,I,rfl,?_⟩;rw[show its.toArray.any (eqU x)=its.any (eqU x) by simp,zfl r fs];exact q
theorem zj3:OpR X (compareOp .NotIn) (rIn X.K true):=by
 intro pins s σ H x y v u Q I rx ry h;obtain⟨p,xs,rfl,hq,fx,fs,q⟩:=h;cases ry;rcases hq with hq | hq
 .obtain⟨its,r,pl,hz⟩:=I.list hq;refine SeqAt.notIn_listAt (eqU x) pl.isList (fun w hw=>zdS rx fx r fs w (by simpa using hw)) ⟨.bl _,H,I,rfl,?_⟩;rw[show its.toArray.any (eqU x)=its.any (eqU x) by simp,zfl r fs];exact q
 .obtain⟨its,r,pl,hz⟩:=I.tuple hq;refine SeqAt.notIn_tupleAt (eqU x) pl (fun w hw=>zdS rx fx r fs w (by simpa using hw)) ⟨.bl _,H,I,rfl,?_⟩;rw[show its.toArray.any (eqU x)=its.any (eqU x) by simp,zfl r fs];exact q
theorem zfq:zL X (.builtin "len") (fun xs H Q=>∃p ys,xs=[.ref p]/\(SqL X.K H p ys\/SqT X.K H p ys)/\Q (.int ys.length) H):=by
 intro pins s σ H xs us Q I r h;obtain⟨p,ys,rfl,hq,q⟩:=h;obtain⟨u,rfl,rx⟩:=vals1 r;cases rx;have hn:=zfO;rcases hq with hq | hq
 .obtain⟨its,r',pl,hz⟩:=I.list hq;have hlen:=r'.length;exact Calls.call_len_list pl.isList (by simp only[List.size_toArray]<;>omega) ⟨.int ys.length,H,I.tok _,⟨s.toks+1,by rw[List.size_toArray,hlen]⟩,q⟩
 .obtain⟨its,r',pl,hz⟩:=I.tuple hq;have hlen:=r'.length;exact len_tuple pl (by simp only[List.size_toArray]<;>omega) ⟨.int ys.length,H,I.tok _,⟨s.toks+1,by rw[List.size_toArray,hlen]⟩,q⟩
theorem zjN:zL X (.builtin "len") (fun xs H Q=>∃z,xs=[.str z]/\z.length<=sizeLine/\Q (.int z.length) H):=by
 intro pins s σ H xs us Q I r h;obtain⟨z,rfl,hz,q⟩:=h;obtain⟨u,rfl,t,rfl⟩:=vals1 r;have hn:=zfO;exact len_str (by omega) ⟨.int z.length,H,I.tok _,⟨_,rfl⟩,q⟩
theorem zL.or{f:Value}{r r':List V->Hp->VK->Prop}(h:zL X f r)(h':zL X f r'):zL X f (fun xs H Q=>r xs H Q\/r' xs H Q):=by
 intro pins s σ H xs us Q I rs q;rcases q with q | q
 .exact h pins s σ H xs us Q I rs q
 .exact h' pins s σ H xs us Q I rs q
theorem zkm:zL X (.type "list") (fun xs H Q=>∃p ys,xs=[.ref p]/\(SqL X.K H p ys\/SqT X.K H p ys)/\∀l,H l=none->Q (.ref l) (upd H l (.lst ys))):=by
 intro pins s σ H xs us Q I r h;obtain⟨p,ys,rfl,hq,q⟩:=h;obtain⟨u,rfl,rx⟩:=vals1 r;cases rx;have fin:∀(its:List Value),Vals ys its->ys.length<=sizeLine->∀(h':Heap) (c':Nat),(∀b o',s.heap.get? b=some o'->h'.get? b=some o') ->
   h'.get? s.heap.objs.size=some { cls:= .type "list",dict:=none,data:= .seq its.toArray c',slots:= #[] }->EP X pins σ Q (.ref s.heap.objs.size) { s with heap:=h' }:=fun its r' hz h' c' kp e =>
  ⟨.ref s.heap.objs.size,_,I.laid (t':=s.toks) kp (Nat.le_refl _) (show zai X.prog X.w _ h' _ (.lst ys) from ⟨hz,its,c',r',e⟩),rfl,q _ (I.hok.fresh (Nat.le_refl _))⟩
 rcases hq with hq | hq
 .obtain⟨its,r',pl,hz⟩:=I.list hq;have hlen:=r'.length;obtain⟨o,ho,hc,n,hd⟩:=pl.isList;exact call_list_seq p (.inl rfl) ho hc hd (fun h' c' kp e=>fin its r' hz h' c' kp e) (by simp only[List.size_toArray]<;>omega)
 .obtain⟨its,r',pl,hz⟩:=I.tuple hq;have hlen:=r'.length;obtain⟨o,ho,hc,n,hd⟩:=pl;exact call_list_seq p (.inr rfl) ho hc hd (fun h' c' kp e=>fin its r' hz h' c' kp e) (by simp only[List.size_toArray]<;>omega)
theorem ziC:zL X (.type "tuple") (fun xs H Q=>∃p ys,xs=[.ref p]/\((SqL X.K H p ys/\∀l,H l=none->Q (.ref l) (upd H l (.tup ys)))\/(SqT X.K H p ys/\Q (.ref p) H))):=by
 intro pins s σ H xs us Q I r h;obtain⟨p,ys,rfl,h⟩:=h;obtain⟨u,rfl,rx⟩:=vals1 r;cases rx;rcases h with⟨hq,q⟩ | ⟨hq,q⟩
 .obtain⟨its,r',pl,hz⟩:=I.list hq;have hlen:=r'.length;refine call_tuple_list pl.isList (fun h' kp=>?_) (by simp only[List.size_toArray]<;>omega);have I1:Inv X pins σ H { s with heap:=h' }:=I.kept (t':=s.toks) kp;have I2:Inv X pins σ (upd H h'.objs.size (.tup ys)) { s with heap:=h'.push { cls:= .type "tuple",data:= .seq its.toArray } } :=
   I1.laid (t':=s.toks) (fun b o e=>Heap.get?_push_of_some _ e) (Nat.le_refl _) (show zai X.prog X.w _ _ _ (.tup ys) from ⟨hz,its,r',IsTup.new _ _⟩)
  exact⟨.ref h'.objs.size,_,I2,rfl,q _ (I1.hok.fresh (Nat.le_refl _))⟩
 .obtain⟨its,r',pl,hz⟩:=I.tuple hq;exact call_tuple_same pl ⟨.ref p,H,I,rfl,q⟩
def tyV(K:Frag)(T:String)(x:V)(H:Hp):Prop:=match x with
 | .str _=>T="str"
 | .int _=>T="int"
 | .ref p=>(T="list"/\∃xs,SqL K H p xs)\/(T="tuple"/\∃o,K.lookup p=some o/\o.cls= .type "tuple"/\o.dict=none) \/
   (T="dict"/\((∃kvs,H p=some (.dK kvs))\/∃kvs,H p=some (.dT kvs)))\/(T="set"/\∃S n,H p=some (.set S n))
 | _=>False
theorem zwr{pins:List (Addr×Obj)}{σ:St}{H:Hp}{s:Shared}{T:String}{x:V}{v:Value}(I:Inv X pins σ H s)(r:RelV x v)(ty:tyV X.K T x H) :
  s.TypeIs v T/\∀a,v= .ref a->∃ob,s.heap.get? a=some ob/\ob.dict=none:=by
 cases x with
 | str z =>
  obtain⟨t,rfl⟩:=r;cases (show T="str" from ty);exact⟨typeIs_str s z t,fun _ e=>nomatch e⟩
 | int i =>
  obtain⟨t,rfl⟩:=r;cases (show T="int" from ty);exact⟨typeIs_int s i t,fun _ e=>nomatch e⟩
 | ref p =>
  cases r;rcases ty with⟨rfl,xs,hq⟩ | ⟨rfl,o,hk,hc,hd⟩ | ⟨rfl,hk⟩ | ⟨rfl,S,n,hk⟩
  .obtain⟨its,_,pl,_⟩:=I.list hq;refine⟨pl.isList.typeIs,fun a e=>?_⟩;cases e;obtain⟨o,n,e,c,hd,_⟩:=pl;exact⟨o,e,hd⟩
  .refine⟨⟨o,I.kIn p o hk,hc⟩,fun a e=>?_⟩;cases e;exact⟨o,I.kIn _ o hk,hd⟩
  .have z:∃o,s.heap.get? p=some o/\o.ExactDict:=by
    rcases hk with⟨kvs,hk⟩ | ⟨kvs,hk⟩
    .obtain⟨_,_,_,_,o,_,_,e,ex,_⟩:=I.hok p _ hk;exact⟨o,e,ex⟩
    .obtain⟨_,_,_,_,o,_,_,e,ex,_⟩:=I.hok p _ hk;exact⟨o,e,ex⟩
   obtain⟨o,e,ex⟩:=z;refine⟨⟨o,e,ex.1⟩,fun a e2=>?_⟩;cases e2;exact⟨o,e,ex.2.1⟩
  .obtain⟨o,_,_,_,e,ex,_⟩:=I.hok p _ hk;refine⟨⟨o,e,ex.1⟩,fun a e2=>?_⟩;cases e2;exact⟨o,e,ex.2.1⟩
 | _=>exact False.elim ty
def tBM(K:Frag)(T:String)(r:V->List V->Hp->VK->Prop)(to:TE)(t:TA):TE:=fun σ H Q=>to σ H fun x H1=>tyV K T x H1/\t σ H1 fun xs H2=>r x xs H2 Q
variable{o e:Expr}{es:List Expr}{to:TE}{t:TA}{name:Str}{apos cpos:Pos}{T id:String}{r:V->List V->Hp->VK->Prop}
theorem zyD(pa:PlainAttrs T)(slot:Slot T name id)(hty:typeOf (.builtin id)=pure (.type "method_descriptor"))(hm:MtR X id r)(ho:PE X o to)(ha:PA X (e::es) t)
  (hbase:attributeBase o name X.env (eval o X.env)=eval o X.env:=by rfl)
  (hfew:((backTo cpos (starEach (e::es) X.env)).all (fun x=> !x.1)&&(backToKw cpos (keywordEach [] X.env)).all (fun x=>x.1.isSome)
   && decide ((e::es).length+([]:List Keyword).length+(if ([]:List Keyword).isEmpty then 0 else 1) < 30))=true:=by rfl)
  (hline:(apos.endLine==cpos.line)=true:=by rfl) (hs:starEach (e::es) X.env=(false,eval e X.env)::starEach es X.env:=by rfl) (hplain:(backTo cpos (starEach es X.env)).any (·.1)=false:=by rfl) :
  PE X (.Call (.Attribute o name apos) (e::es) [] cpos) (tBM X.K T r to t):=by
 intro pins s σ H Q I h;refine wpAny_Call_method_late hbase hfew hline rfl (thn (ho pins s σ H _ I h) fun v s1 ⟨x,H1,I1,r1,ty,q1⟩=>?_);obtain⟨h1,h2⟩:=zwr I1 r1 ty;refine⟨T,id,pa,slot,hty,h1,h2,?_⟩;have hA:=ha cpos pins s1 σ H1 _ I1 q1;rw[hs] at hA ⊢;refine Calls.callWith_builtin (by show(false||(backTo cpos (starEach es X.env)).any (·.1))=false;rw[hplain]<;>rfl) (Calls.evalArgs_plain ?_);exact thn hA fun us s2 ⟨vs,H2,I2,r2,q2⟩=>hm pins s2 σ H2 x vs v us Q I2 r1 r2 q2
end
def MtM(X:Cx)(id:String)(r:V->List V->Hp->VK->Prop):Prop :=
 ∀(pins:List (Addr×Obj)) (s:Shared) (σ:St) (H:Hp) (x:V) (xs:List V) (v:Value) (us:List Value) (Q:VK),Inv X pins σ H s->RelV x v->Vals xs us->r x xs H Q ->
  wpAny (model X.prog X.w) X.A (call (.builtin id) (v::us)) (EP X pins σ Q) X.xe s
theorem Vals.one:∀{x:V} {us:List Value},Vals [x] us->∃u,us=[u]/\RelV x u
 | _,_, .cons r .nil=>⟨_,rfl,r⟩
theorem Vals.rep{xs:List V}{us:List Value}(h:Vals xs us):∀k:Nat,Vals (List.replicate k xs).flatten (List.replicate k us).flatten
 | 0=> .nil
 | k+1=>by
  rw[List.replicate_succ,List.replicate_succ,List.flatten_cons,List.flatten_cons];exact Vals.append h (Vals.rep h k)
theorem foldl_rep(its:List Value):∀(k:Nat) (acc:List Value),
  List.foldl (fun x1 x2=>x1++x2) acc.toArray (List.replicate k its.toArray)=(acc++(List.replicate k its).flatten).toArray
 | 0,acc=>by simp
 | k+1,acc=>by
  have e:acc.toArray++its.toArray=(acc++its).toArray:=by simp
  have e2:(acc++its)++(List.replicate k its).flatten=acc++(List.replicate (k+1) its).flatten:=by
   rw[List.replicate_succ,List.flatten_cons,List.append_assoc]
  rw[<- e2,<- foldl_rep its k (acc++its),<- e,List.replicate_succ,List.foldl_cons]
section
variable{X:Cx}{pins:List (Addr×Obj)}{σ:St}{H:Hp}{s:Shared}{l b:Addr}{xs ys zs:List V}
theorem Inv.lset{its its':List Value}{n:Nat}{f:Array Value->Array Value}{t':Nat}(I:Inv X pins σ H s)(hH:H l=some (.lst xs))
  (e:s.heap.get? l=some { cls:= .type "list",data:= .seq its.toArray n })(hf:f its.toArray=its'.toArray)(hv:Vals ys its')(hz:ys.length<=sizeLine) :
  Inv X pins σ (upd H l (.lst ys)) { s with heap:=s.heap.update l (Obj.mapSeq f),toks:=t' }:=by
 have q:=PySem.IsL.update e f;rw[hf] at q;refine I.write (x:=l) (e:=l) (by rw[hH];exact trivial) (.inl rfl) (fun b' u hb hu=>(Heap.get?_update_other s.heap (Obj.mapSeq f) (Ne.symm hb)).trans hu) ⟨_,q⟩ ?_;exact⟨hz,its',_,hv,q⟩
theorem Inv.lnew{its:List Value}{t':Nat}(I:Inv X pins σ H s)(hv:Vals ys its)(hz:ys.length<=sizeLine) :
  Inv X pins σ (upd H s.heap.objs.size (.lst ys)) { s with heap:=s.heap.push { cls:= .type "list",data:= .seq its.toArray },toks:=t' } :=
 I.laid (fun _ _ q=>Heap.get?_push_of_some _ q) (Nat.le_refl _) ⟨hz,its,0,hv,Heap.get?_push_size _ rfl⟩
theorem Inv.fresh(I:Inv X pins σ H s):H s.heap.objs.size=none:=I.hok.fresh (Nat.le_refl _)
theorem Inv.lstM(I:Inv X pins σ H s)(hH:H l=some (.lst xs)):xs.length<=sizeLine/\∃(its:List Value) (n:Nat),Vals xs its/\xs.length=its.length/\s.heap.get? l=some { cls:= .type "list",data:= .seq its.toArray n }:=by
 obtain⟨z,its,n,r,e⟩:=I.hok l _ hH;exact⟨z,its,n,r,r.length,e⟩
theorem zp1{n:Nat}(h:n<=sizeLine):Builtin.List.listTooLong n=false:=by
 unfold Builtin.List.listTooLong;exact decide_eq_false (by omega)
end
section
variable{X:Cx}
def znL:V->List V->Hp->VK->Prop:=fun x vs H Q=>∃l xs y,x= .ref l/\vs=[y]/\H l=some (.lst xs)/\xs.length < sizeLine/\Q .non (upd H l (.lst (xs++[y])))
theorem zat:MtM X "list.append" znL:=by
 intro pins s σ H x vs v us Q I rx rv h;obtain⟨l,xs,y,rfl,rfl,hH,hz,q⟩:=h;cases rx;obtain⟨u,rfl,ru⟩:=rv.one;obtain⟨z,its,n,r,hl,e⟩:=I.lstM hH;refine call_meets F.slot_list_append ⟨_,e,rfl⟩ F.entry_list_append (F.args_list_append_2 _ _) (PySem.list_append l its.toArray n u (by rw[List.size_toArray];omega)) ⟨e,?_⟩;refine⟨.non,_,I.lset (its':=its++[u]) hH e (by simp) (r.append (.cons ru .nil)) ?_,rfl,q⟩;rw[List.length_append,List.length_singleton];omega
def zym:R2:=fun x y H Q=>∃l b xs zs,x= .ref l/\y= .ref b/\H l=some (.lst xs)/\H b=some (.lst zs)/\xs.length+zs.length<=sizeLine/\∀p,H p=none->Q (.ref p) (upd H p (.lst (xs++zs)))
theorem zvA:OpR X (binaryOp .Add) zym:=by
 intro pins s σ H x y v u Q I rx ry h;obtain⟨l,b,xs,zs,rfl,rfl,hH,hB,hz,q⟩:=h;cases rx;cases ry;obtain⟨z,its,n,r,hl,e⟩:=I.lstM hH;obtain⟨z2,its2,n2,r2,hl2,e2⟩:=I.lstM hB;refine PySem.P.add_list e e2 ?_ (by rw[List.size_toArray,List.size_toArray];omega);have ea:its.toArray++its2.toArray=(its++its2).toArray:=by simp
 rw[ea];exact⟨.ref _,_,I.lnew (t':=s.toks) (r.append r2) (by rw[List.length_append];omega),rfl,q _ I.fresh⟩
def zxH:R2:=fun x y H Q=>∃l k xs,x= .ref l/\y= .int k/\H l=some (.lst xs)/\ -(2^63)<=k/\k < 2^63/\xs.length*k.toNat<=sizeLine /\
 ∀p,H p=none->Q (.ref p) (upd H p (.lst (List.replicate k.toNat xs).flatten))
theorem len_rep{α:Type}(xs:List α)(k:Nat):(List.replicate k xs).flatten.length=k*xs.length:=by
 induction k with
 | zero=>simp
 | succ k ih=>rw[List.replicate_succ,List.flatten_cons,List.length_append,ih,Nat.succ_mul,Nat.add_comm]
theorem zwh:OpR X (binaryOp .Mult) zxH:=by
 intro pins s σ H x y v u Q I rx ry h;obtain⟨l,k,xs,rfl,rfl,hH,h1,h2,hz,q⟩:=h;cases rx;obtain⟨t,rfl⟩:=ry;obtain⟨z,its,n,r,hl,e⟩:=I.lstM hH;have hlen:its.toArray.size*k.toNat<=sizeLine:=by rw[List.size_toArray,<- hl];exact hz
 have hcap:¬ its.toArray.size*k.toNat > (2^63 - 1) / 8:=by
  have:(sizeLine:Nat)<=(2^63 - 1) / 8:=by decide
  omega
 have hfit:¬ (!Builtin.List.listFitsIndex k)=true:=by
  rw[fitsIndex_both h1 h2];exact Bool.false_ne_true
 have hlong:¬ Builtin.List.listTooLong (its.toArray.size*k.toNat)=true:=by
  rw[zp1 hlen];exact Bool.false_ne_true
 have hnew:List.foldl (fun x1 x2=>x1++x2) #[] (List.replicate (if its.toArray.isEmpty=true then 0 else k.toNat) its.toArray)=(List.replicate k.toNat its).flatten.toArray:=by
  have f0:∀m:Nat,List.foldl (fun x1 x2=>x1++x2) #[] (List.replicate m its.toArray)=(List.replicate m its).flatten.toArray:=fun m=>by
   have:=foldl_rep its m [];rw[List.nil_append] at this;exact this
  rw[f0];cases its with
  | nil=>simp
  | cons a r'=>rw[if_neg (by simp)]
 refine wpAny_binaryOp_repeat_ref (T:="list") (U:="int") (by decide) ⟨_,e,rfl⟩ (fun s'=>typeIs_int s' k t) noFill_list_mul F.fills_int_mul F.slot_int_rmul repeat_list F.slot_int_index.lookup
  (call_meets F.slot_int_rmul (typeIs_int s k t) F.entry_int_rmul (F.args_int_rmul_2 _ _) (int___rmul___int_list k t l its.toArray n)
   ⟨e,rfl,⟨_,e,rfl⟩,call_meets F.slot_list_mul ⟨_,e,rfl⟩ F.entry_list_mul (F.args_list_mul_2 _ _) (AutoListH.list___mul___list_int_3 l its.toArray n k t hfit hcap hlong) ⟨e,?_⟩⟩)
 rw[hnew];exact⟨.ref _,_,I.lnew (t':=s.toks) (r.rep k.toNat) (by rw[len_rep,Nat.mul_comm];exact hz),rfl,q _ I.fresh⟩
end
section
variable{prog:Program}{w:World}{A:Around}{E:Value->Shared->Prop}{s:Shared}
end
section
variable{X:Cx}
end
section
variable{κ:Type}[DecidableEq κ]
def zee(kvs:List (κ×V))(k:κ):Option V:=(kvs.find? fun kv=>decide (kv.1=k)).map (·.2)
def putK(kvs:List (κ×V))(k:κ)(v:V):List (κ×V) :=
 if (kvs.any fun kv=>decide (kv.1=k))=true then kvs.map (fun kv=>if kv.1=k then(kv.1,v) else kv) else kvs++[(k,v)]
theorem zft{p:κ×V}{r:List (κ×V)}{k:κ}(e:p.1=k):zee (p::r) k=some p.2:=by simp[zee,List.find?_cons,e]
theorem zfb{p:κ×V}{r:List (κ×V)}{k:κ}(e:¬ p.1=k):zee (p::r) k=zee r k:=by simp[zee,List.find?_cons,e]
theorem zlt(k:κ):∀kvs:List (κ×V),(kvs.any fun kv=>decide (kv.1=k))=(zee kvs k).isSome
 | []=>rfl
 | p::r=>by
  rw[List.any_cons];by_cases e:p.1=k
  .simp only[zft e,decide_eq_true e,Bool.true_or,Option.isSome_some]
  .rw[zfb e,decide_eq_false e,Bool.false_or];exact zlt k r
theorem zgr(kvs:List (κ×V))(k:κ)(v:V):(putK kvs k v).length<=kvs.length+1:=by
 unfold putK;split
 .rw[List.length_map];omega
 .rw[List.length_append,List.length_cons,List.length_nil];omega
theorem zc2.isSome_eq{o:Option V}{u:Option Value}(r:zc2 o u):o.isSome=u.isSome:=by
 cases o with
 | none=>cases u with
  | none=>rfl
  | some _=>exact(show False from r).elim
 | some _=>cases u with
  | none=>exact(show False from r).elim
  | some _=>rfl
theorem zc2.getD{o:Option V}{u:Option Value}{d:V}{d':Value}(r:zc2 o u)(rd:RelV d d'):RelV (o.getD d) (u.getD d'):=by
 cases o with
 | none=>cases u with
  | none=>exact rd
  | some _=>exact(show False from r).elim
 | some _=>cases u with
  | none=>exact(show False from r).elim
  | some _=>exact r
theorem KV.val{kvs:List (κ×V)}{vs:List (κ×Value)}(r:KV kvs vs)(k:κ):zc2 (zee kvs k) (valueAt vs k):=by
 unfold KV at r;induction r with
 | nil=>exact True.intro
 | @cons p q ps qs h t ih =>
  obtain⟨h1,h2⟩:=h;by_cases e:p.1=k
  .have e':q.1=k:=h1.symm.trans e;have b:valueAt (q::qs) k=some q.2:=by simp[valueAt,List.find?_cons,e']
   rw[zft e,b];exact h2
  .have e':¬ q.1=k:=fun z=>e (h1.trans z)
   have b:valueAt (q::qs) k=valueAt qs k:=by simp[valueAt,List.find?_cons,e']
   rw[zfb e,b];exact ih
theorem KV.any{kvs:List (κ×V)}{vs:List (κ×Value)}(r:KV kvs vs)(k:κ):(kvs.any fun kv=>decide (kv.1=k))=vs.any fun kv=>decide (kv.1=k):=by
 unfold KV at r;induction r with
 | nil=>rfl
 | cons h t ih=>rw[List.any_cons,List.any_cons,ih,h.1]
theorem KV.repl{kvs:List (κ×V)}{vs:List (κ×Value)}(r:KV kvs vs)(k:κ){y:V}{u:Value}(ry:RelV y u) :
  KV (kvs.map fun kv=>if kv.1=k then(kv.1,y) else kv) (vs.map fun kv=>if kv.1=k then(kv.1,u) else kv):=by
 unfold KV at r ⊢;induction r with
 | nil=>exact .nil
 | @cons p q ps qs h t ih =>
  rw[List.map_cons,List.map_cons];refine .cons ?_ ih;obtain⟨h1,h2⟩:=h;by_cases e:p.1=k
  .rw[if_pos e,if_pos (h1.symm.trans e)];exact⟨h1,ry⟩
  .rw[if_neg e,if_neg (fun z=>e (h1.trans z))];exact⟨h1,h2⟩
theorem KV.put{kvs:List (κ×V)}{vs:List (κ×Value)}(r:KV kvs vs)(k:κ){y:V}{u:Value}(ry:RelV y u):KV (putK kvs k y) (stored vs k u):=by
 unfold putK stored;rw[r.any k];by_cases e:(vs.any fun kv=>decide (kv.1=k))=true
 .rw[if_pos e,if_pos e];exact r.repl k ry
 .rw[if_neg e,if_neg e];exact Paired.snoc r ⟨rfl,ry⟩
theorem KV.length{kvs:List (κ×V)}{vs:List (κ×Value)}(r:KV kvs vs):kvs.length=vs.length:=Paired.length r
end
theorem zoa{P:Program}{w:World}{k:Key}{u:Value}(r:RelV (kV k) u):(zaw P w).is k u=true:=by
 cases k with
 | inl i=>obtain⟨t,e⟩:=(show ∃t,u=Value.int i t from r);subst e;exact zlf P w i t
 | inr x=>obtain⟨t,e⟩:=(show ∃t,u=Value.str x t from r);subst e;exact zlL P w x t
theorem zjw{P:Program}{w:World}:∀{ks:List Key} {us:List Value},Vals (ks.map kV) us->ItemsAre (zaw P w) ks us
 | [],_,r=>by rw[List.map_nil] at r;cases r;exact .nil
 | k::ks,_,r=>by
  rw[List.map_cons] at r;cases r with
  | cons h t=>exact .cons (zoa h) (zjw t)
abbrev KT(H:Hp):List (List Key×V)->List (List Key×Addr×Value)->Prop:=Paired fun p q=>p.1=q.1/\H q.2.1=some (.tup (p.1.map kV))/\RelV p.2 q.2.2
theorem KT.val{H:Hp}{kvs:List (List Key×V)}{xs:List (List Key×Addr×Value)}(r:KT H kvs xs)(k:List Key):zc2 (zee kvs k) ((atKey xs k).map (·.2)):=by
 induction r with
 | nil=>exact True.intro
 | @cons p q ps qs h t ih =>
  obtain⟨h1,_,h2⟩:=h;by_cases e:p.1=k
  .have e':q.1=k:=h1.symm.trans e;have b:atKey (q::qs) k=some q.2:=by simp[atKey,List.find?_cons,e']
   rw[zft e,b];exact h2
  .have e':¬ q.1=k:=fun z=>e (h1.trans z)
   have b:atKey (q::qs) k=atKey qs k:=by simp[atKey,List.find?_cons,e']
   rw[zfb e,b];exact ih
theorem KT.repl{H:Hp}{kvs:List (List Key×V)}{xs:List (List Key×Addr×Value)}(r:KT H kvs xs)(k:List Key){y:V}{u:Value}(ry:RelV y u) :
  KT H (kvs.map fun kv=>if kv.1=k then(kv.1,y) else kv) (xs.map (putAt k u)):=by
 induction r with
 | nil=>exact .nil
 | @cons p q ps qs h t ih =>
  rw[List.map_cons,List.map_cons];refine .cons ?_ ih;obtain⟨h1,h2,h3⟩:=h;unfold putAt;by_cases e:p.1=k
  .rw[if_pos e,if_pos (h1.symm.trans e)];exact⟨h1,h2,ry⟩
  .rw[if_neg e,if_neg (fun z=>e (h1.trans z))];exact⟨h1,h2,h3⟩
theorem KT.put{H:Hp}{kvs:List (List Key×V)}{xs:List (List Key×Addr×Value)}(r:KT H kvs xs)(k:List Key){b:Addr}{y:V}{u:Value}(hb:H b=some (.tup (k.map kV)))(ry:RelV y u) :
  KT H (putK kvs k y) (storedH xs k b u):=by
 have e:(kvs.any fun kv=>decide (kv.1=k))=(atKey xs k).isSome:=by
  rw[zlt,(r.val k).isSome_eq,Option.isSome_map]
 unfold putK storedH;rw[e];by_cases q:(atKey xs k).isSome=true
 .rw[if_pos q,if_pos q];exact r.repl k ry
 .rw[if_neg q,if_neg q];exact Paired.snoc r ⟨rfl,hb,ry⟩
theorem KT.keeps{H H':Hp}{kvs:List (List Key×V)}{xs:List (List Key×Addr×Value)}(r:KT H kvs xs)(ht:∀b ys,H b=some (.tup ys)->H' b=some (.tup ys)):KT H' kvs xs :=
 Paired.mapP r fun _ _ z=>⟨z.1,ht _ _ z.2.1,z.2.2⟩
section
variable{P:Program}{w:World}{H:Hp}{h:Heap}{a:Addr}
theorem zu4{u:HO}(ok:HOk P w H h)(e:Rd H a u):zai P w H h a u:=e.ok ok
theorem zje{kvs:List (Key×V)}(ok:HOk P w H h)(e:Rd H a (.dK kvs)):kvs.length<=sizeLine/\(a==sysModules)=false/\∃vs,KV kvs vs/\h.DictOf (zaw P w) a vs :=
 show zai P w H h a (.dK kvs) from zu4 ok e
theorem zxM{kvs:List (Key×V)}(ok:HOk P w H h)(e:H a=some (.dK kvs)):kvs.length<=sizeLine/\(a==sysModules)=false/\∃vs,KV kvs vs/\h.DictOf (zaw P w) a vs:=zje ok (.inl e)
theorem zjR{ks:List Key}(ok:HOk P w H h)(e:H a=some (.tup (ks.map kV))):(tupleKind (zaw P w)).is h ks a:=by
 obtain⟨_,its,r,o,h1,h2,n,h3⟩:=(show zai P w H h a (.tup (ks.map kV)) from ok a _ e);exact⟨o,its.toArray,n,h1,h2,h3,by simpa using zjw r⟩
theorem zkZ{kvs:List (List Key×V)}(ok:HOk P w H h)(e:Rd H a (.dT kvs)):kvs.length<=sizeLine/\(a==sysModules)=false /\
  ∃xs,KT H kvs xs/\h.DictOfH (tupleKind (zaw P w)) a xs:=by
 obtain⟨z,y,xs,r,o,es,ep,h1,h2,h3,h4,h5⟩:=(show zai P w H h a (.dT kvs) from zu4 ok e);refine⟨z,y,xs,r,o,es,ep,h1,h2,h3,h4,fun x hx=>?_,h5⟩;have all:∀{l:List (List Key×V)} {m:List (List Key×Addr×Value)},KT H l m->∀x∈m,(tupleKind (zaw P w)).is h x.1 x.2.1:=by
  intro l m q;induction q with
  | nil=>intro x hx;exact nomatch hx
  | @cons p q ps qs hq t ih =>
   intro x hx;rcases List.mem_cons.mp hx with e | hx
   .subst e;exact zjR ok (by rw[<- hq.1];exact hq.2.1)
   .exact ih x hx
 exact all r x hx
theorem zyl{kvs:List (List Key×V)}(ok:HOk P w H h)(e:H a=some (.dT kvs)):kvs.length<=sizeLine/\(a==sysModules)=false /\
  ∃xs,KT H kvs xs/\h.DictOfH (tupleKind (zaw P w)) a xs:=zkZ ok (.inl e)
end
def zl1(H:Hp)(a:Addr)(y:V)(r:Option V):Prop :=
 (∃kvs k,Rd H a (.dK kvs)/\y=kV k/\r=zee kvs k)\/∃kvs k b,Rd H a (.dT kvs)/\y= .ref b/\H b=some (.tup (k.map kV))/\r=zee kvs k
def zqa(H:Hp)(a:Addr)(y v:V)(H':Hp):Prop :=
 (∃kvs k,H a=some (.dK kvs)/\y=kV k/\kvs.length < sizeLine/\H'=upd H a (.dK (putK kvs k v))) \/
 ∃kvs k b,H a=some (.dT kvs)/\y= .ref b/\H b=some (.tup (k.map kV))/\kvs.length < sizeLine/\H'=upd H a (.dT (putK kvs k v))
theorem zl1.t{H:Hp}{a b:Addr}{kvs:List (List Key×V)}{k:List Key}(e:H a=some (.dT kvs))(eb:H b=some (.tup (k.map kV))):zl1 H a (.ref b) (zee kvs k):= .inr ⟨kvs,k,b, .inl e,rfl,eb,rfl⟩
theorem zqa.t{H:Hp}{a b:Addr}{kvs:List (List Key×V)}{k:List Key}{v:V}(e:H a=some (.dT kvs))(eb:H b=some (.tup (k.map kV)))(hl:kvs.length < sizeLine) :
  zqa H a (.ref b) v (upd H a (.dT (putK kvs k v))):= .inr ⟨kvs,k,b,e,rfl,eb,hl,rfl⟩
section
variable{X:Cx}{pins:List (Addr×Obj)}{σ:St}{H:Hp}{s:Shared}{a:Addr}{y v:V}{u r:Value}{o:Option V}{A:Around}{E:Value->Shared->Prop}
theorem Inv.big(I:Inv X pins σ H s):sysModules < s.heap.objs.size:=by
 have h:mainGlobals < s.heap.objs.size:=(I.mod.glob.keeps I.bk).lt;exact Nat.lt_trans (by decide) h
theorem zoZ{Q:Value->Shared->Prop}(hu:A.units+1 < cLine)(I:Inv X pins σ H s)(g:zl1 H a y (some v))(ry:RelV y u)(h:∀w' s',Inv X pins σ H s'->RelV v w'->Q w' s') :
  wpAny (model X.prog X.w) A (getItem (.ref a) u) Q E s:=by
 rcases g with⟨kvs,k,e,ey,l⟩ | ⟨kvs,k,b,e,ey,eb,l⟩
 .subst ey;obtain⟨z,hd,vs,rel,dd⟩:=zje I.hok e;obtain⟨w',hw,rw'⟩:=zc2.some_of (v:=v) (o:=valueAt vs k) (by rw[l];exact rel.val k);exact wpAny_getItem_of (zoa ry) dd.mapOf hw (h w' _ (I.tok _) rw')
 .subst ey;cases (show u=Value.ref b from ry);obtain⟨z,hd,xs,rel,dd⟩:=zkZ I.hok e;obtain⟨w',hw,rw'⟩:=zc2.some_of (v:=v) (o:=(atKey xs k).map (·.2)) (by rw[l];exact rel.val k);obtain⟨p,hp,hp2⟩:=Option.map_eq_some_iff.mp hw;refine wpAny_getItem_heap (tupleKind_room_in1 hu) (zjR I.hok eb) dd hp ?_;rw[hp2];exact h w' _ (I.tok _) rw'
theorem zn2{h':Heap}{t':Nat}{ob:HO}(I:Inv X pins σ H s)(mu:Mut (H a))(hs:Heap.SameBut a s.heap h')(he:∃q,h'.get? a=some q)(new:zai X.prog X.w (upd H a ob) h' a ob) :
  Inv X pins σ (upd H a ob) { s with heap:=h',toks:=t' } :=
 I.write (x:=a) (e:=a) mu (.inl rfl) (fun b q hb z=>(hs.2 b hb).trans z) he new
theorem zvu{P:Program}{w:World}{H':Hp}{h':Heap}{kvs:List (Key×V)}{vs:List (Key×Value)}(z:kvs.length<=sizeLine)(hd:(a==sysModules)=false)(rel:KV kvs vs)(dd:h'.DictOf (zaw P w) a vs) :
  zai P w H' h' a (.dK kvs):=⟨z,hd,vs,rel,dd⟩
theorem zoj{H':Hp}{Q:Unit->Shared->Prop}(hu:A.units+1 < cLine)(I:Inv X pins σ H s)(g:zqa H a y v H')(ry:RelV y u)(rv:RelV v r)(h:∀s',Inv X pins σ H' s'->Q () s') :
  wpAny (model X.prog X.w) A (setItem (.ref a) u r) Q E s:=by
 rcases g with⟨kvs,k,e,ey,l,eH⟩ | ⟨kvs,k,b,e,ey,eb,l,eH⟩
 .subst ey eH;obtain⟨z,hd,vs,rel,dd⟩:=zxM I.hok e;have hz:vs.length<=sizeLine:=by rw[<- rel.length];exact z
  have hl:(putK kvs k v).length<=sizeLine:=by have:=zgr kvs k v;omega
  refine wpAny_setItem_pairs (hsz:=hz) (zoa ry) dd fun h' dd' hs=>h _ ?_
  have he:∃q,h'.get? a=some q:=let ⟨q,_,_,hq,_⟩:=dd';⟨q,hq⟩;exact zn2 I (by rw[e];exact True.intro) hs he (zvu hl hd (rel.put k rv) dd')
 .subst ey eH;cases (show u=Value.ref b from ry);obtain⟨z,hd,xs,rel,dd⟩:=zyl I.hok e;have hz:xs.length<=sizeLine:=by rw[<- Paired.length rel];exact z
  have hl:(putK kvs k v).length<=sizeLine:=by have:=zgr kvs k v;omega
  refine wpAny_setItem_heap (hsz:=hz) (tupleKind_room_in1 hu) (zjR I.hok eb) dd fun h' dd' hs=>h _ ?_
  obtain⟨q,es,ep,hq,h2,h3,h4,_,h5⟩:=dd';refine zn2 I (by rw[e];exact True.intro) hs ⟨q,hq⟩ ⟨hl,hd,_,(rel.put k eb rv).keeps fun c ys ec=>?_,q,es,ep,hq,h2,h3,h4,h5⟩;rw[zm (zyS ec e (fun z=>nomatch z))];exact ec
end
section
variable{X:Cx}{pins:List (Addr×Obj)}{σ:St}{H:Hp}{s:Shared}{a:Addr}{kvs:List (Key×V)}{k:Key}{u:Value}{A:Around}{E:Value->Shared->Prop}
end
def zvB(i:Expr):Prop:=∀ov iv,subscripted i false ov iv=operate [ov,iv] (getItem ov iv)
theorem ztG{prog:Program}{w:World}{A:Around}{E:Value->Shared->Prop}{s:Shared}{env:Env}{value slice:Expr}{pos:Pos}{T id:String}{Q:Value->Shared->Prop}
  (hl:typeLookup (.type T) "__getitem__"=pure (some (.builtin id)))(hs:zvB slice)
  (h:wpAny (model prog w) A (eval value env) (fun o s₁=>wpAny (model prog w) A (eval slice env) (fun i s₂=>s₂.TypeIs o T/\wpAny (model prog w) A (getItem o i) Q E s₂) E s₁) E s) :
  wpAny (model prog w) A (eval (.Subscript value slice pos) env) Q E s:=by
 refine Subscript_ (wpAny_mono h (fun o s₁ h₁=>wpAny_mono h₁ (fun i s₂ h₂=>?_) fun _ _ x=>x) fun _ _ x=>x);obtain⟨hT,h₂⟩:=h₂;unfold subscriptTail;refine wpAny_bind ?_;rw[getitemInPython_of_ne hT.not_modules];refine wpAny_bind (wpAny_specialOf hT hl ?_);have fin:wpAny (model prog w) A (subscripted slice false o i) (fun r s₃=>wpAny (model prog w) A (letTemporaryGo value o r >>= fun _=>pure r) Q E s₃) E s₂:=by
  rw[hs o i];exact wpAny_operating (wpAny_mono h₂ (fun r s₃ h₃=>wpAny_bind (wpAny_letTemporaryGo (wpAny_pure h₃))) fun _ _ x=>x)
 first
  | exact wpAny_pure (wpAny_bind fin)
  | exact wpAny_bind (wpAny_pure (wpAny_bind fin))
  | exact wpAny_bind fin
theorem zk2{X:Cx}{pins:List (Addr×Obj)}{σ:St}{H:Hp}{s:Shared}{a:Addr}{y:V}{o:Option V}(I:Inv X pins σ H s)(g:zl1 H a y o):s.TypeIs (.ref a) "dict":=by
 rcases g with⟨kvs,k,e,_,_⟩ | ⟨kvs,k,b,e,_,_,_⟩
 .obtain⟨_,_,vs,_,dd⟩:=zje I.hok e;exact dd.typeIs
 .obtain⟨_,_,xs,_,dd⟩:=zkZ I.hok e;exact dd.typeIs
def zpR(td ty:TE):TE:=fun σ H Q=>td σ H fun x H1=>ty σ H1 fun y H2=>∃a v,x= .ref a/\zl1 H2 a y (some v)/\Q v H2
def zp9(td ty tv:TE):TS:=fun D σ H=>tv σ H fun v H1=>td σ H1 fun x H2=>ty σ H2 fun y H3=>∃a H4,x= .ref a/\zqa H3 a y v H4/\D.nx σ H4
section
variable{X:Cx}{o i e value:Expr}{pos pos' tpos:Pos}{td ty tv:TE}
theorem zt2(hu:X.A.units+1 < cLine)(ho:PE X o td)(hi:PE X i ty)(hs:zvB i):PE X (.Subscript o i pos) (zpR td ty):=by
 intro pins s σ H Q I h;refine ztG PySem.F.slot_dict_getitem.lookup hs (thn (ho pins s σ H _ I h) fun u s1 ⟨x,H1,I1,rx,q1⟩=>thn (hi pins s1 σ H1 _ I1 q1) fun iv s2 ⟨y,H2,I2,ry,a,v,ex,g,q2⟩=>?_);subst ex;obtain rfl:u=Value.ref a:=rx;exact⟨zk2 I2 g,zoZ hu I2 g ry fun w' s3 I3 rw'=>⟨v,H2,I3,rw',q2⟩⟩
theorem zud(hu:X.A.units+1 < cLine)(ho:PE X o td)(hi:PE X i ty)(hv:PE X value tv)(hs:swapsWith value (some (.Subscript o i pos')) pos.line X.env=pure false) :
  PS X (.Assign [.Subscript o i pos'] value pos) (zp9 td ty tv):=by
 intro pins s σ H D I h;refine wpAny_Assign_Subscript (thn (hv pins s σ H _ I h) fun r s1 ⟨v,H1,I1,rv,q1⟩=>thn (ho pins s1 σ H1 _ I1 q1) fun u s2 ⟨x,H2,I2,rx,q2⟩=>thn (hi pins s2 σ H2 _ I2 q2) fun iv s3 ⟨y,H3,I3,ry,a,H4,ex,g,q3⟩=>?_) hs;subst ex;obtain rfl:u=Value.ref a:=rx;exact zoj hu I3 g ry rv fun s4 I4=>⟨σ,H4,I4,q3⟩
end
theorem zqS{P:Program}{w:World}{H:Hp}(h:Heap)(hb:sysModules < h.objs.size):zai P w H (h.push { cls:= .type "dict",data:= .dict #[] }) h.objs.size (.dT []) :=
 ⟨Nat.zero_le _,beq_eq_false_iff_ne.mpr (Ne.symm (Nat.ne_of_lt hb)),[], .nil,_, #[],0,Heap.get?_push_size _ rfl,⟨rfl,rfl,rfl⟩,rfl,rfl,List.nodup_nil⟩
def zmM:TE:=fun _ H Q=>∀p,H p=none->Q (.ref p) (upd H p (.dT []))
section
variable{X:Cx}{pos:Pos}
theorem zqK:PE X (.Dict [] [] pos) zmM:=fun pins s σ H Q I h =>
 wpAny_Dict_empty ⟨.ref s.heap.objs.size,_,I.laid (a:=s.heap.objs.size) (o:= .dT []) (t':=s.toks) (fun _ _ q=>Heap.get?_push_of_some _ q) (Nat.le_refl _) (zqS s.heap I.big),rfl,h _ (I.hok.fresh (Nat.le_refl _))⟩
end
structure M1(X:Cx)(o:Expr)(m:Str)(apos:Pos)(e:Expr)(cpos:Pos):Prop where
 base:attributeBase o m X.env (eval o X.env)=eval o X.env
 few:((backTo cpos (starEach [e] X.env)).all (fun x=> !x.1)&&(backToKw cpos (keywordEach [] X.env)).all (fun x=>x.1.isSome)
  && decide (([e]:List Expr).length+([]:List Keyword).length+(if ([]:List Keyword).isEmpty then 0 else 1) < 30))=true
 line:(apos.endLine==cpos.line)=true
 trees:backTo cpos (starEach [e] X.env)=[(false,eval e X.env)]
structure M2(X:Cx)(o:Expr)(m:Str)(apos:Pos)(e f:Expr)(cpos:Pos):Prop where
 base:attributeBase o m X.env (eval o X.env)=eval o X.env
 few:((backTo cpos (starEach [e,f] X.env)).all (fun x=> !x.1)&&(backToKw cpos (keywordEach [] X.env)).all (fun x=>x.1.isSome)
  && decide (([e,f]:List Expr).length+([]:List Keyword).length+(if ([]:List Keyword).isEmpty then 0 else 1) < 30))=true
 line:(apos.endLine==cpos.line)=true
 trees:backTo cpos (starEach [e,f] X.env)=[(false,eval e X.env),(false,eval f X.env)]
def IsD(H:Hp)(a:Addr):Prop:=(∃kvs,Rd H a (.dK kvs))\/∃kvs,Rd H a (.dT kvs)
theorem zw8{X:Cx}{pins:List (Addr×Obj)}{σ:St}{H:Hp}{s:Shared}{a:Addr}(I:Inv X pins σ H s)(d:IsD H a) :
  s.TypeIs (.ref a) "dict"/\(∀b,Value.ref a= .ref b->∃ob,s.heap.get? b=some ob/\ob.dict=none)/\(a==sysModules)=false:=by
 rcases d with⟨kvs,e⟩ | ⟨kvs,e⟩
 .obtain⟨_,hd,vs,_,dd⟩:=zje I.hok e;refine⟨dd.typeIs,fun b q=>?_,hd⟩;cases q;obtain⟨ob,_,_,h1,h2,_⟩:=dd;exact⟨ob,h1,h2.2.1⟩
 .obtain⟨_,hd,xs,_,dd⟩:=zkZ I.hok e;refine⟨dd.typeIs,fun b q=>?_,hd⟩;cases q;obtain⟨ob,_,_,h1,h2,_⟩:=dd;exact⟨ob,h1,h2.2.1⟩
section
variable{X:Cx}{pins:List (Addr×Obj)}{σ:St}{H:Hp}{s:Shared}{a:Addr}{y d:V}{u r:Value}{o:Option V}{A:Around}{E:Value->Shared->Prop}
theorem zxA{Q:Value->Shared->Prop}(hu:A.units+1 < cLine)(I:Inv X pins σ H s)(g:zl1 H a y o)(ry:RelV y u)(rd:RelV d r)(h:∀w' s',Inv X pins σ H s'->RelV (o.getD d) w'->Q w' s') :
  wpAny (model X.prog X.w) A (call (.builtin "dict.get") [.ref a,u,r]) Q E s:=by
 rcases g with⟨kvs,k,e,ey,l⟩ | ⟨kvs,k,b,e,ey,eb,l⟩
 .subst ey;obtain⟨z,hd,vs,rel,dd⟩:=zje I.hok e;refine call_meetsIn PySem.F.slot_dict_get dd.typeIs PySem.F.entry_dict_get (PySem.F.args_dict_get_3 _ _ _) (meets_dict_get_default (zaw X.prog X.w) a (zoa ry) hd r) ⟨_,dd.mapOf,h _ _ (I.tok _) ?_⟩;rw[l];exact(rel.val k).getD rd
 .subst ey;cases (show u=Value.ref b from ry);obtain⟨z,hd,xs,rel,dd⟩:=zkZ I.hok e;refine call_meetsIn PySem.F.slot_dict_get dd.typeIs PySem.F.entry_dict_get (PySem.F.args_dict_get_3 _ _ _) (meetsH_dict_get_default (tupleKind (zaw X.prog X.w)) a b hd r) ⟨tupleKind_room_in1 hu,k,xs,zjR I.hok eb,dd,h _ _ (I.tok _) ?_⟩;rw[l];exact(rel.val k).getD rd
end
def zm3(td ty tx:TE):TE:=fun σ H Q=>td σ H fun x H1=>∃a,x= .ref a/\IsD H1 a/\ty σ H1 fun y H2=>tx σ H2 fun z H3=>∃o,zl1 H3 a y o/\Q (o.getD z) H3
section
variable{X:Cx}{o e f:Expr}{apos cpos:Pos}{td ty tx:TE}
theorem zqZ(hu:X.A.units+1 < cLine)(ho:PE X o td)(he:PE X e ty)(hf:PE X f tx)(m:M2 X o "get" apos e f cpos):PE X (.Call (.Attribute o "get" apos) [e,f] [] cpos) (zm3 td ty tx):=by
 intro pins s σ H Q I h;refine wpAny_Call_method m.base m.few m.line PySem.F.plainAttrs_dict PySem.F.slot_dict_get PySem.F.type_dict_get (thn (ho pins s σ H _ I h) fun u s1 ⟨x,H1,I1,rx,a,ex,d,q1⟩=>?_);subst ex;obtain rfl:u=Value.ref a:=rx;obtain⟨t1,t2,_⟩:=zw8 I1 d;refine⟨t1,t2,?_⟩;rw[m.trees];refine Calls.callWith_builtin rfl (Calls.evalArgs_plain (Calls.spliced_cons (thn (he pins s1 σ H1 _ I1 q1) fun iv s2 ⟨y,H2,I2,ry,q2⟩ =>
  Calls.spliced_cons (thn (hf pins s2 σ H2 _ I2 q2) fun fv s3 ⟨z,H3,I3,rz,ov,g,q3⟩=>Calls.spliced_nil ?_))))
 exact zxA hu I3 g ry rz fun w' s4 I4 rw'=>⟨_,H3,I4,rw',q3⟩
end
section
variable{X:Cx}{pins:List (Addr×Obj)}{σ:St}{H:Hp}{s:Shared}{a:Addr}{kvs:List (Key×V)}{A:Around}{E:Value->Shared->Prop}
end
section
variable{X:Cx}{pins:List (Addr×Obj)}{σ:St}{H:Hp}{s:Shared}{a:Addr}{y:V}{u:Value}{A:Around}{E:Value->Shared->Prop}
end
end L2
namespace Att
open PySem PySem.W PySem.Calls PyProof.Rows
theorem zgV{P:Params}{h:Heap}:∀(ns:List Int) (vs:List Value),WellAll P h vs (ns.map WData.int)->IntsAre vs ns:=by
 intro ns;induction ns with
 | nil =>
  intro vs w;rw[List.map_nil] at w;cases w;exact .nil
 | cons n ns ih =>
  intro vs w;rw[List.map_cons] at w;cases w with
  | cons a b =>
   cases a;exact .cons _ _ (ih _ b)
theorem zoO{l:OpenLaw}{n:Nat}(hn:l.most=some n){P:Params}{h:Heap}{args:List WData}{vals:List Value}
  (hpre:l.row.toRowW.claim.pre args=true)(hwl:WellAll P h vals args) :
  ∃a vs ns,vals=[Value.ref a]/\args=[WData.list (ns.map WData.int)]/\h.get? a=some { cls:= .type "list",data:= .seq vs.toArray }/\IntsAre vs ns/\ns.length<=n:=by
 have hsh:WShape.hasAll [] args [.list .int]=true:=(pre_splitW hpre).1;have hc:l.pre.holds [] { args:=args }=true:=(pre_splitW hpre).2;obtain⟨d,r,rfl,h1,h2⟩:=hasAllW_cons hsh;obtain rfl:=hasAllW_nil h2;obtain⟨xs,rfl,h3⟩:=hasW_list h1;obtain⟨ns,rfl⟩:=items_int h3;have hlen:ns.length<=n:=by
  unfold OpenLaw.pre at hc;have h4:(WTm.not (.lt (.lit (.int (n:Int))) (.len (.arg 0)))).holds [] { args:=[.list (ns.map .int)] }=true:=by
   have h4:=(holds_andW hc).1;rw[hn] at h4;exact h4
  have h5:=condW_of h4 (w_not (w_lt w_lit (w_len_list (w_arg rfl))));rw[List.length_map] at h5;refine Nat.le_of_not_lt fun q=>?_
  have q':(n:Int) < ((ns.length:Nat):Int):=by omega
  first
   | (rw[decide_eq_true q'] at h5;exact absurd h5 (by decide))
   | (simp at h5;omega)
 cases hwl with
 | cons w1 w2 =>
  cases w2;cases w1 with
  | list ho hall=>exact⟨_,_,ns,rfl,rfl,ho,zgV ns _ hall,hlen⟩
theorem zoQ(l:OpenLaw)(args:List WData):l.row.toRowW.claim.post args (.bool true) args=true :=
 postW_of (r:=l.row.toRowW) (X:=(true==true))
  (show WShape.has [] (.bool true) .bool=true by first | rfl | decide | simp[WShape.has,WShape.arms,WShape.armsAll])
  (show(WTm.eq .res (.lit (.bool true))).value [] { args:=args,res:=some (.bool true),after:=args }=some (.bool (true==true)) from w_eq_bool (w_res rfl) w_lit) rfl
theorem zlD{l:OpenLaw}{n:Nat}{q:Program}{loose:List Str}{XP:(Str->Option Value)->Heap->Prop}{YP:World->Heap->Prop}{d:DefRec}
  (hn:l.most=some n)(hdf:d.params.defaults=[])
  (call:∀(w:World) (s₀ s₁:Shared) (mg mb:Str->Option Value) (fa:Addr) (o:Obj) (pm cd doc:Value) (a:Addr) (vs:List Value) (ns:List Int),
   Ground q loose [] XP w s₀ mg mb s₁.heap->YP w s₁.heap ->
   s₁.heap.get? fa=some o->o.data= .func (docDef d.name d.params d.body d.scope pm cd doc)->s₁.heap.CodeRec cd d.name->mg d.name=some (.ref fa) ->
   s₁.heap.get? a=some { cls:= .type "list",data:= .seq vs.toArray }->IntsAre vs ns->ns.length<=n->s₁.gens= #[] ->
   codeAny (model l.prog w) callerA (.call (.ref fa) ⟨[.ref a],[]⟩) (fun r s'=>r= .ok (.ret (.bool true))/\OldK s₁.heap s'.heap/\s'.os=s₁.os/\AllBare s'.gens) s₁) :
  WalkO q loose XP YP l.row.toRowW d [] (fun f vs=>PySem.call f vs):=by
 intro w s₀ s₁ mg mb G Y fa o pm cd doc dV kV ho hd hcd hD hmg hg args vals as hpre hlay hrd hwl hlo;obtain rfl:dV= .none:=Dflts.none hD hdf;obtain rfl:kV= .none:=Dflts.noKw hD;obtain⟨a,vs,ns,rfl,rfl,hobj,hints,hlen⟩:=zoO hn hpre hwl;refine enter_call (codeAny_mono (call w s₀ s₁ mg mb fa o pm cd doc a vs ns G Y ho (fd_plain hd) hcd hmg hobj hints hlen hg) fun r s' hq=>?_);obtain⟨rfl,h2,h3,h4⟩:=hq;exact⟨.inl ⟨.bool true, .bool true,[],rfl,fun _=>rfl, .bool true,zoQ l _,fun _=>⟨List.Pairwise.nil,fun _ hm=>(nomatch hm)⟩⟩,h2,h3,h4⟩
section
variable{prog:Program}{w:World}{A:Around}{E:Value->Shared->Prop}{s:Shared}{K:Frag}
end
end Att
namespace L2
open PySem PySem.Spec PyProof.Rows
theorem zi0:∀{vs:List Value} {ns:List Int},IntsAre vs ns->Vals (ns.map V.int) vs
 | _,_, .nil=> .nil
 | _,_, .cons n t h=> .cons ⟨t,rfl⟩ (zi0 h)
def inClass(s:Stmt)(j:Nat):Stmt:=match s with
 | .ClassDef _ _ _ body _ _ _ _ _ _ _=>body.getD j (.Pass ⟨0,0,0,0⟩)
 | _=> .Pass ⟨0,0,0,0⟩
def zfC(s:Stmt):Arguments:=match s with
 | .FunctionDef _ a _ _ _ _ _ _ _ _=>a
 | _=>{ posonlyargs:=[],args:=[],vararg:=none,kwonlyargs:=[],kw_defaults:=[],kwarg:=none,defaults:=[] }
def zb4(s:Stmt):List Stmt:=match s with
 | .FunctionDef _ _ b _ _ _ _ _ _ _=>b
 | _=>[]
def zx(s:Stmt):Scope:=match s with
 | .FunctionDef _ _ _ _ _ _ sc _ _ _=>sc
 | _=>{ kind:= .function,names:=[],isGenerator:=false,isCoroutine:=false }
abbrev CX0:CXT:=fun _ _ _ _ _ _=>False
abbrev E0:XK:=fun _ _ _=>False
theorem zlc{X:Cx}:zck CX0 X E0:=fun _ _ _ _ _ _ _ h=>h.elim
structure Fun(K:Frag)(x qual:Str)(st:Stmt)(f:Addr)(fd:FuncData):Prop where
 ex:∃(oc:Value) (od:Option Addr) (kV:Value×Value) (doc pm:Value) (an:Option Addr) (cdv ct:Value) (osl:Array (Option Value)),
  fd=fnOf x qual (zfC st) (zb4 st) (zx st) kV.1 kV.2 doc pm an cdv ct/\K.lookup f=some ⟨oc,od, .func fd,osl⟩/\codeIn K cdv qual=true
 kp:keepIn K (.ref f)=true
section
variable{P:Program}{w:World}{K:Frag}{mg:Str->Option Value}{base:Heap}
theorem Fun.ok{x qual:Str}{st:Stmt}{f:Addr}{fd:FuncData}{N ps:List Str}{k:Nat}{sp:Sp}(F:Fun K x qual st f fd)(S:zG N ps (zx st))(len:∀vs H Q E,sp vs H Q E->vs.length=ps.length)
  (hbody:∀(cdv:Value) (A:Around) (outer:List Env) (s:Shared) (H:Hp) (vs:List V) (Q:VK) (E:XK),zds k (A.deeper (envOfC qual (zx st) s.heap.objs.size f cdv))->sp vs H Q E ->
   ∃t,PSs (zkT CX0 P w K mg base N qual (zx st) f cdv A outer s H E).nox (zb4 st) t/\t { nx:=fun _ H'=>Q .non H',rt:=Q } (start N vs) H):zaa P w K mg base CX0 (k+1) f fd ps sp:=by
 obtain⟨oc,od,kV,doc,pm,an,cdv,ct,osl,rfl,lk,hcd⟩:=F.ex;refine zuX lk hcd S len fun A outer s H vs Q E hr hsp=>?_
 obtain⟨t,h,q⟩:=hbody cdv A outer s H vs Q E hr hsp;exact⟨t,h.nox,q⟩
theorem Fun.binds{x qual:Str}{st:Stmt}{f:Addr}{fd:FuncData}{ps:List Str}(F:Fun K x qual st f fd)
  (h:∀(kV doc pm:Value) (an:Option Addr) (cdv ct:Value) (us:List Value),us.length=ps.length->bindArgs (fnOf x qual (zfC st) (zb4 st) (zx st) .none kV doc pm an cdv ct) ⟨us,[]⟩=pure (ps.zip us))(hd:fd.defaults= .none:=by rfl):Binds K fd ps []:=by
 obtain⟨oc,od,kV,doc,pm,an,cdv,ct,osl,rfl,lk,hcd⟩:=F.ex;have e:kV.1= .none:=hd;rw[e];exact .all (h kV.2 doc pm an cdv ct)
theorem zT{x qual:Str}{st:Stmt}{f:Addr}{oc:Value}{od an:Option Addr}{osl:Array (Option Value)}{dV kV doc pm cdv ct:Value}(l:K.lookup f=some ⟨oc,od, .func (fnOf x qual (zfC st) (zb4 st) (zx st) dV kV doc pm an cdv ct),osl⟩)
  (c:codeIn K cdv qual=true)(k:keepIn K (.ref f)=true):Fun K x qual st f (fnOf x qual (zfC st) (zb4 st) (zx st) dV kV doc pm an cdv ct):=⟨⟨oc,od,(dV,kV),doc,pm,an,cdv,ct,osl,rfl,l,c⟩,k⟩
end
theorem zpO{cm:Bool}{A:Around}{k:Nat}(hr:zaA cm k A):A.units+1 < cLine:=Nat.lt_of_le_of_lt (Nat.add_le_add_left (by decide:1<=64) _) hr.units
section
variable{X:Cx}
end
theorem zzc{A B:Prop}(h:A):if true=true then A else B:=by
 rw[if_pos rfl];exact h
theorem ztc{c A B:Prop}[Decidable c](h1:c->A)(h2:¬ c->B):if c then A else B:=by
 by_cases h:c
 .rw[if_pos h];exact h1 h
 .rw[if_neg h];exact h2 h
def zh3(H H':Hp):Prop:=∀b o,H b=some o->H' b=some o
section
variable{X:Cx}
end
section
variable{κ:Type}[DecidableEq κ]
end
def zas(env:Env):List (Str×NameKind)->List (Str×Addr)->List (Str×Addr)
 | [],acc=>acc
 | (n,k)::r,acc=>if k== .free then zas env r ((n,(env.cells.lookup n).getD 0)::acc) else zas env r acc
theorem zh5{env:Env}(f:Str×NameKind->List (Str×Addr)->Sem (ForInStep (List (Str×Addr))))
  (hf:∀n k cs,f (n,k) cs=if k== .free then(do let a<-cellOf env n;pure (.yield ((n,a)::cs))) else pure (.yield cs)) :
  ∀(names:List (Str×NameKind)) (acc:List (Str×Addr)),(∀x∈names,x.2= .free->(env.cells.lookup x.1).isSome=true)->forIn names acc f=(pure (zas env names acc):Sem _)
 | [],acc,_=>rfl
 | (n,k)::r,acc,h=>by
  have hr:∀x∈r,x.2= .free->(env.cells.lookup x.1).isSome=true:=fun x hx=>h x (List.mem_cons_of_mem _ hx)
  rw[List.forIn_cons,hf];unfold zas;cases hk:k==NameKind.free with
  | true =>
   obtain⟨c,hc⟩:=Option.isSome_iff_exists.mp (h (n,k) List.mem_cons_self (by simpa using hk));have e:cellOf env n=pure c:=by unfold cellOf;rw[hc]
   simp only[if_true];rw[e,pure_bind,pure_bind,hc];exact zh5 f hf r _ hr
  | false =>
   simp only[Bool.false_eq_true,if_false];rw[pure_bind];exact zh5 f hf r _ hr
theorem zcF{scope:Scope}{env:Env}(h:∀x∈scope.names,x.2= .free->(env.cells.lookup x.1).isSome=true):closureFor scope env=pure (zas env scope.names []):=by
 simp only[closureFor];rw[zh5 (env:=env) _ (fun n k cs=>by
  cases hk:k==NameKind.free<;>simp[hk]) _ _ h]
 rfl
theorem zbE{env:Env}:∀{names:List (Str×NameKind)} {acc:List (Str×Addr)} {n:Str} {c:Addr},(n,c)∈zas env names acc->(n,c)∈acc\/((n, .free)∈names/\c=(env.cells.lookup n).getD 0)
 | [],_,_,_,h=> .inl h
 | (x,k)::r,acc,n,c,h=>by
  unfold zas at h;cases hk:k==NameKind.free with
  | true =>
   rw[hk] at h;simp only[if_true] at h;have ek:k= .free:=by simpa using hk
   subst ek;rcases zbE h with h | h
   .rcases List.mem_cons.mp h with e | h
    .cases e;exact .inr ⟨List.mem_cons_self,rfl⟩
    .exact .inl h
   .exact .inr ⟨List.mem_cons_of_mem _ h.1,h.2⟩
  | false =>
   rw[hk] at h;simp only[Bool.false_eq_true,if_false] at h;rcases zbE h with h | h
   .exact .inl h
   .exact .inr ⟨List.mem_cons_of_mem _ h.1,h.2⟩
theorem zeX{env:Env}:∀{names:List (Str×NameKind)} {acc:List (Str×Addr)} {p:Str×Addr},p∈acc->p∈zas env names acc
 | [],_,_,h=>h
 | (x,k)::r,acc,p,h=>by
  unfold zas;split
  .exact zeX (List.mem_cons_of_mem _ h)
  .exact zeX h
theorem zeZ{env:Env}:∀{names:List (Str×NameKind)} {acc:List (Str×Addr)} {n:Str},(n, .free)∈names->(n,(env.cells.lookup n).getD 0)∈zas env names acc
 | (x,k)::r,acc,n,h=>by
  unfold zas;rcases List.mem_cons.mp h with e | h
  .cases e;exact zeX List.mem_cons_self
  .split<;>exact zeZ h
theorem zcJ:∀{names:List (Str×NameKind)} {m:Nat} {acc:List (Str×Addr)} {n:Str} {c:Addr},(n,c)∈cellsFrom m names acc->(n,c)∈acc\/((n, .cell)∈names/\m<=c)
 | [],_,_,_,_,h=> .inl h
 | (x,k)::r,m,acc,n,c,h=>by
  unfold cellsFrom at h;cases hk:k==NameKind.cell with
  | true =>
   rw[hk] at h;simp only[if_true] at h;have ek:k= .cell:=by simpa using hk
   subst ek;rcases zcJ h with h | h
   .rcases List.mem_cons.mp h with e | h
    .cases e;exact .inr ⟨List.mem_cons_self,Nat.le_refl _⟩
    .exact .inl h
   .exact .inr ⟨List.mem_cons_of_mem _ h.1,Nat.le_of_succ_le h.2⟩
  | false =>
   rw[hk] at h;simp only[Bool.false_eq_true,if_false] at h;rcases zcJ h with h | h
   .exact .inl h
   .exact .inr ⟨List.mem_cons_of_mem _ h.1,h.2⟩
theorem za2:∀{names:List (Str×NameKind)} {m:Nat} {acc:List (Str×Addr)} {p:Str×Addr},p∈acc->p∈cellsFrom m names acc
 | [],_,_,_,h=>h
 | (x,k)::r,m,acc,p,h=>by
  unfold cellsFrom;split
  .exact za2 (List.mem_cons_of_mem _ h)
  .exact za2 h
theorem zer:∀{names:List (Str×NameKind)} {m:Nat} {acc:List (Str×Addr)} {n:Str},(n, .cell)∈names->∃c,(n,c)∈cellsFrom m names acc
 | (x,k)::r,m,acc,n,h=>by
  unfold cellsFrom;rcases List.mem_cons.mp h with e | h
  .cases e;exact⟨m,za2 List.mem_cons_self⟩
  .split<;>exact zer h
theorem zap{α:Type}:∀{l:List (Str×α)} {n:Str} {c:α},(n,c)∈l->∃c',l.lookup n=some c'/\(n,c')∈l
 | (k,v)::r,n,c,h=>by
  rw[List.lookup_cons];cases hb:n==k with
  | true=>exact⟨v,rfl,by rw[beq_iff_eq.mp hb];exact List.mem_cons_self⟩
  | false =>
   rcases List.mem_cons.mp h with e | h
   .cases e;simp at hb
   .obtain⟨c',e,m⟩:=zap h;exact⟨c',e,List.mem_cons_of_mem _ m⟩
theorem ze6{α:Type}:∀{l:List (Str×α)} {n:Str} {a b:α},(l.map (·.1)).Nodup->(n,a)∈l->(n,b)∈l->a=b
 | x::r,n,a,b,nd,h,h'=>by
  rw[List.map_cons,List.nodup_cons] at nd;have no:∀c,(n,c)∈r->n≠x.1:=fun c hc e=>nd.1 (by rw[<- e];exact List.mem_map_of_mem (f:=(·.1)) hc)
  rcases List.mem_cons.mp h with e | h<;>rcases List.mem_cons.mp h' with e' | h'
  .rw[<- e] at e';cases e';rfl
  .exact absurd (by rw[<- e]) (no b h')
  .exact absurd (by rw[<- e']) (no a h)
  .exact ze6 nd.2 h h'
theorem zdR{α:Type}{l:List (Str×α)}{n:Str}{a:α}(nd:(l.map (·.1)).Nodup)(h:(n,a)∈l):l.lookup n=some a:=by
 obtain⟨c,e,m⟩:=zap h;rw[e,ze6 nd h m]
theorem zbX:∀{names:List (Str×NameKind)} {m:Nat} {acc:List (Str×Addr)},(∀p∈acc,p.2 < m)->(∀n n' c,(n,c)∈acc->(n',c)∈acc->n=n') ->
  ∀n n' c,(n,c)∈cellsFrom m names acc->(n',c)∈cellsFrom m names acc->n=n'
 | [],_,_,_,h,n,n',c,a,b=>h n n' c a b
 | (x,k)::r,m,acc,lt,h,n,n',c,a,b=>by
  unfold cellsFrom at a b;cases hk:k==NameKind.cell with
  | true =>
   rw[hk] at a b;simp only[if_true] at a b;refine zbX (m:=m+1) (acc:=(x,m)::acc) (fun p hp=>?_) (fun n n' c a b=>?_) n n' c a b
   .rcases List.mem_cons.mp hp with rfl | hp
    .exact Nat.lt_succ_self _
    .exact Nat.lt_succ_of_lt (lt p hp)
   .rcases List.mem_cons.mp a with e | a<;>rcases List.mem_cons.mp b with e' | b
    .cases e;cases e';rfl
    .cases e;exact absurd (lt _ b) (Nat.lt_irrefl _)
    .cases e';exact absurd (lt _ a) (Nat.lt_irrefl _)
    .exact h n n' c a b
  | false =>
   rw[hk] at a b;simp only[Bool.false_eq_true,if_false] at a b;exact zbX lt h n n' c a b
theorem zbI:∀(names:List (Str×NameKind)) (h:Heap) (acc:List (Str×Addr)) (n:Str) (c:Addr),(n,c)∈cellsFrom h.objs.size names acc->(n,c)∈acc\/(pushCells h names).IsCell c none
 | [],_,_,_,_,h=> .inl h
 | (x,k)::r,h,acc,n,c,hm=>by
  unfold cellsFrom at hm;unfold pushCells;cases hk:k==NameKind.cell with
  | true =>
   rw[hk] at hm;simp only[if_true] at hm ⊢;rw[show h.objs.size+1=(h.push { cls:= .type "cell",data:= .cell none }).objs.size from (Heap.size_push ..).symm] at hm;rcases zbI r _ _ n c hm with h1 | h1
   .rcases List.mem_cons.mp h1 with e | h1
    .cases e;exact .inr (Heap.IsCell.keeps ⟨_,Heap.get?_push_size _ rfl,rfl⟩ (pushCells_keeps r _))
    .exact .inl h1
   .exact .inr h1
  | false =>
   rw[hk] at hm;simp only[Bool.false_eq_true,if_false] at hm ⊢;exact zbI r h acc n c hm
def za1(scope:Scope)(C:Addr)(env:Env):Env:=compEnvC scope (cellsFrom (C+1) scope.names (zas env scope.names [])) C env
theorem zhw{M:Model}{A:Around}{E:Value->Shared->Prop}{s:Shared}{scope:Scope}{globals:Addr}{cl:List (Str×Addr)}{qual:Str}{env:Env}{Q:Env->Shared->Prop}
  (h:Q (newEnv scope s.heap.objs.size globals (cellsFrom (s.heap.objs.size+1) scope.names cl) qual none .none (some env) builtinsNs) { s with heap:=pushCells (s.heap.push { cls:= .type "dict",data:= .dict #[] }) scope.names }) :
  wpAny M A (newFunctionEnv scope globals cl [] qual none .none (some env)) Q E s:=by
 simp only[newFunctionEnv,Option.isSome_some,if_true];refine wpAny_bind (wpAny_alloc ?_);refine wpAny_bind (wpAny_layCells _ (fun name kind cells=>by cases hkc:kind==NameKind.cell<;>simp[hkc]) _ _ _ _ ?_);rw[show({ s with heap:=s.heap.push { cls:= .type "dict",data:= .dict #[] } }:Shared).heap.objs.size=s.heap.objs.size+1 from Heap.size_push ..];rw[List.forIn_nil];exact wpAny_bind (wpAny_pure (wpAny_pure h))
def zE(X:Cx)(N:List Str)(scope:Scope)(C:Addr)(s:Shared)(H:Hp)(ex:List Addr):Cx where
 prog:=X.prog
 w:=X.w
 K:=X.K
 mg:=X.mg
 base:=X.base
 A:=X.A
 N:=N
 s₀:=s
 H₀:=H
 env:=za1 scope C X.env
 outer:=X.stack
 stack:=X.stack
 ex:=ex
 fn:=fun x=>scope.names.lookup x==some .cell
 calm:=X.calm
 pn:=[]
 xe:=fun _ _=>False
structure zce(X:Cx)(scope:Scope):Prop where
 kind:scope.kind= .function
 nd:(scope.names.map (·.1)).Nodup
 free:∀x∈scope.names,x.2= .free->(X.env.kindOf x.1=some .cell\/X.env.kindOf x.1=some .free)
def freeOk(sc:Scope)(scope:Scope):Bool:=scope.names.all fun x=>x.2 != .free||(sc.names.lookup x.1==some .cell||sc.names.lookup x.1==some .free)
theorem zce.of{X:Cx}{scope:Scope}(k:scope.kind= .function)(nd:(scope.names.map (·.1)).Nodup)(f:freeOk X.env.scope scope=true):zce X scope:=⟨k,nd,fun x hx e=>by
 have q:=List.all_eq_true.mp f x hx;rw[e] at q;show X.env.scope.names.lookup x.1=_\/X.env.scope.names.lookup x.1=_;simpa using q⟩
theorem zbq{env:Env}:∀{names:List (Str×NameKind)} {x:Str} {k:NameKind},
  (names.map fun(n,k)=>if (k==NameKind.free&&env.scope.kind== .function&&env.kindOf n==some .cell) then(n,NameKind.cell) else(n,k)).lookup x=some k ->
  (∃k',names.lookup x=some k'/\(k'=k\/(k'= .free/\k= .cell/\env.kindOf x=some .cell)))
 | [],_,_,h=>by simp at h
 | (n,k0)::r,x,k,h=>by
  rw[List.map_cons,List.lookup_cons] at h;rw[List.lookup_cons];have hn:(if (k0==NameKind.free&&env.scope.kind== .function&&env.kindOf n==some .cell)=true then(n,NameKind.cell) else(n,k0)).1=n:=by split<;>rfl
  dsimp only at h;rw[hn] at h;cases hx:x==n with
  | false =>
   rw[hx] at h;exact zbq h
  | true =>
   rw[hx] at h;simp only[Option.some.injEq] at h;refine⟨k0,rfl,?_⟩;have ex:x=n:=beq_iff_eq.mp hx;subst ex;by_cases hc:(k0==NameKind.free&&env.scope.kind== .function&&env.kindOf x==some .cell)=true
   .rw[if_pos hc] at h;simp only[Bool.and_eq_true,beq_iff_eq] at hc;exact .inr ⟨hc.1.1,h.symm,hc.2⟩
   .rw[if_neg hc] at h;exact .inl h
def zaq(σ:St)(fr:List Nat):St:=fr.map fun j=>(σ[j]?).join
theorem zld{X:Cx}{pins:List (Addr×Obj)}{σ:St}{H:Hp}{s s3:Shared}{scope:Scope}{own free:List Str}{fr:List Nat}{ex:List Addr}(S:zce X scope)
  (I:Inv X pins σ H s)(hex:∀b∈ex,zfd X pins H b)(hob:∀b∈ex,∃o,s.heap.get? b=some o)(hfr:fr.map (fun j=>X.N[j]?)=free.map some)(hff:∀x∈free,scope.names.lookup x=some .free)
  (hs3:∀b o,s.heap.get? b=some o->s3.heap.get? b=some o)(hsz:s.heap.objs.size<=s3.heap.objs.size)(ho:s3.os=s.os)(hg:s3.gens=s.gens) :
  Inv (zE X (own++free) scope s3.heap.objs.size s H ex) [] (own.map (fun _=>none)++zaq σ fr) H { s3 with heap:=pushCells (s3.heap.push { cls:= .type "dict",data:= .dict #[] }) scope.names }:=by
 have hsome:∀x∈scope.names,x.2= .free->∃c,X.env.cells.lookup x.1=some c:=fun x hx e=>I.ok.has x.1 (S.free x hx e)
 have keep:∀b o,s3.heap.get? b=some o->(pushCells (s3.heap.push { cls:= .type "dict",data:= .dict #[] }) scope.names).get? b=some o:=fun b o e=>pushCells_keeps _ _ b o (Heap.get?_push_of_some _ e)
 have hkeep:∀b o,s.heap.get? b=some o->(pushCells (s3.heap.push { cls:= .type "dict",data:= .dict #[] }) scope.names).get? b=some o:=fun b o e=>keep b o (hs3 b o e)
 have cells:∀n c,(n,c)∈(za1 scope s3.heap.objs.size X.env).cells->((n,NameKind.free)∈scope.names/\X.env.cells.lookup n=some c)\/((n,NameKind.cell)∈scope.names/\s3.heap.objs.size+1<=c/\(pushCells (s3.heap.push { cls:= .type "dict",data:= .dict #[] }) scope.names).IsCell c none):=fun n c h=>by
  have h':(n,c)∈cellsFrom (s3.heap.objs.size+1) scope.names (zas X.env scope.names []):=h;have hc:=zcJ h';have e:=zbI scope.names (s3.heap.push { cls:= .type "dict",data:= .dict #[] }) (zas X.env scope.names []) n c (by rw[Heap.size_push];exact h');have fromClos:(n,c)∈zas X.env scope.names []->(n,NameKind.free)∈scope.names/\X.env.cells.lookup n=some c:=fun hm=>by
   rcases zbE hm with h | ⟨hn,rfl⟩
   .exact absurd h (by simp)
   .obtain⟨c',ec⟩:=hsome _ hn rfl;rw[ec];exact⟨hn,rfl⟩
  rcases hc with hc | hc
  .exact .inl (fromClos hc)
  .rcases e with e | e
   .exact .inl (fromClos e)
   .exact .inr ⟨hc.1,hc.2,e⟩
 have cell_lt:∀n c,X.env.cells.lookup n=some c->c < s.heap.objs.size:=fun n c e=>by
  obtain⟨v,o,ho,_⟩:=I.cell n c e;exact Heap.lt_size ho
 have apart:∀n n' c,(n,c)∈(za1 scope s3.heap.objs.size X.env).cells->(n',c)∈(za1 scope s3.heap.objs.size X.env).cells->n=n':=fun n n' c a b=>by
  refine zbX (acc:=zas X.env scope.names []) (m:=s3.heap.objs.size+1) (fun p hp=>?_) (fun n n' c a b=>?_) n n' c a b
  .obtain⟨n,c⟩:=p;rcases zbE hp with h | ⟨hn,e⟩
   .exact absurd h (by simp)
   .obtain⟨c',ec⟩:=hsome _ hn rfl;rw[ec] at e;cases e;exact Nat.lt_succ_of_lt (Nat.lt_of_lt_of_le (cell_lt n _ ec) hsz)
  .rcases zbE a with h | ⟨hn,e⟩
   .exact absurd h (by simp)
   .rcases zbE b with h | ⟨hn',e'⟩
    .exact absurd h (by simp)
    .obtain⟨c1,e1⟩:=hsome _ hn rfl;obtain⟨c2,e2⟩:=hsome _ hn' rfl;have e1':X.env.cells.lookup n=some c1:=e1;have e2':X.env.cells.lookup n'=some c2:=e2;rw[e1'] at e;rw[e2'] at e';exact I.ok.inj n n' c (by rw[e1',e];rfl) (by rw[e2',e'];rfl)
 have vis:∀x,((za1 scope s3.heap.objs.size X.env).kindOf x=some .cell\/(za1 scope s3.heap.objs.size X.env).kindOf x=some .free)->(x,NameKind.cell)∈scope.names\/(x,NameKind.free)∈scope.names:=fun x h=>by
  rcases h with h | h
  .obtain⟨k',e,q⟩:=zbq h;rcases q with q | q
   .exact .inl (by rw[<- q];exact PySem.mem_of_lookup e)
   .exact .inr (by rw[<- q.1];exact PySem.mem_of_lookup e)
  .obtain⟨k',e,q⟩:=zbq h;rcases q with q | q
   .exact .inr (by rw[<- q];exact PySem.mem_of_lookup e)
   .exact .inr (by rw[<- q.1];exact PySem.mem_of_lookup e)
 have fsub:∀b∈frs X.stack,b=X.env.locals\/b∈X.fs:=fun b hb=>by
  have:=I.stkSub b hb;simpa using this
 have fresh:∀b,s.heap.objs.size<=b->s.heap.get? b=none:=fun b hb=>by
  cases e:s.heap.get? b with
  | none=>rfl
  | some o=>exact absurd (Heap.lt_size e) (Nat.not_lt.mpr hb)
 have exlt:∀b∈ex,b < s.heap.objs.size:=fun b hb=>by obtain⟨o,e⟩:=hob b hb;exact Heap.lt_size e
 refine⟨⟨I.ok.mod,S.kind,I.ok.glob,I.ok.blt,hsz,fun x y c a b=>apart x y c (PySem.mem_of_lookup a) (PySem.mem_of_lookup b),fun x hx=>?_,fun x c hx hc=>?_,I.ok.hd,I.ok.frames, .inl rfl,fun b hb=>?_,I.bs,?_,fun b o e hb=>?_,fun b hb hf=>?_,I.stack,I.stkFree⟩,
  ho,?_,Un.kept hkeep,?_,fun x c hc=>?_,I.hok.fresh hsz,fun x c hc=>?_,fun p hp=>absurd hp (by simp[zE]),I.hok.kept hkeep,?_⟩
 .rcases vis x hx with h | h
  .obtain⟨c,hc⟩:=zer (m:=s3.heap.objs.size+1) (acc:=zas X.env scope.names []) h;obtain⟨c',e,_⟩:=zap hc;exact⟨c',e⟩
  .obtain⟨c',e,_⟩:=zap (za2 (names:=scope.names) (m:=s3.heap.objs.size+1) (zeZ (env:=X.env) (acc:=[]) h));exact⟨c',e⟩
 .have hx':scope.names.lookup x=some .cell:=by simpa [zE] using hx
  rcases cells x c (PySem.mem_of_lookup hc) with h | h
  .have:=ze6 S.nd h.1 (PySem.mem_of_lookup hx');cases this
  .show s.heap.objs.size<=c;omega
 .refine⟨Nat.ne_of_lt (Nat.lt_of_lt_of_le (exlt b hb) hsz),fun x c hc=>?_⟩;rcases cells x c (PySem.mem_of_lookup hc) with h | h
  .exact(hex b hb).2.2.2.2.1 x c h.2
  .have:=exlt b hb;intro e;have e':Nat.lt c s.heap.objs.size:=by rw[e];exact this
   exact absurd (Nat.lt_of_lt_of_le e' hsz) (Nat.not_lt.mpr (Nat.le_of_succ_le h.2.1))
 .exact Nat.le_trans I.ok.bsz I.sz
 .have hb':b∈ex:=hb;rcases(hex b hb').2.2.2.1 with h | h
  .exact I.ok.noex b o e h
  .exact absurd (Heap.lt_size (I.ok.bs b o e).1) (Nat.not_lt.mpr h)
 .have hb':b∈ex:=hb;rcases fsub b hf with h | h
  .exact(hex b hb').2.1 h
  .exact(hex b hb').2.2.1 h
 .show AllBare s3.gens;rw[hg];exact I.bare
 .
  refine⟨_,(Heap.Ns.new s3.heap (.type "dict")).keeps (pushCells_keeps _ _),fun i x v hi hv vx=>?_⟩;have hN:(own++free)[i]? = some x:=hi;have hio:own.length<=i:=by
   rcases Nat.lt_or_ge i own.length with h | h
   .rw[List.getElem?_append_left (by simpa using h),List.getElem?_map,List.getElem?_eq_getElem h] at hv;cases hv
   .exact h
  rw[List.getElem?_append_right hio] at hN;rw[List.getElem?_append_right (by simpa using hio)] at hv;simp only[List.length_map] at hv;unfold zaq at hv;rw[List.getElem?_map] at hv;have hx2:=hff x (List.mem_of_getElem? hN);have hmem:(x,NameKind.free)∈scope.names:=PySem.mem_of_lookup hx2;cases ej:fr[i - own.length]? with
  | none=>rw[ej] at hv;cases hv
  | some j =>
   rw[ej] at hv;simp only[Option.map_some,Option.some.injEq] at hv;have hj:X.N[j]? = some x:=by
    have q:=congrArg (fun l=>l[i - own.length]?) hfr;simp only[List.getElem?_map,ej,hN,Option.map_some,Option.some.injEq] at q;exact q
   have hσ:σ[j]? = some (some v):=by
    cases e:σ[j]? with
    | none=>rw[e] at hv;cases hv
    | some w=>rw[e] at hv;simp at hv;rw[hv]
   obtain⟨m,hm,hl⟩:=I.loc;have kx:=S.free _ hmem rfl;obtain⟨u,ru,lk⟩:=hl j x v hj hσ (by rcases kx with k | k;exact .inr (.inl k);exact .inr (.inr k));refine⟨u,ru,?_⟩;rcases lk with⟨k,_⟩ | ⟨_,c,hc,hcell⟩
   .rcases kx with q | q<;>(have q':X.env.kindOf x=_:=q;rw[k] at q';cases q')
   .obtain⟨c',e',m'⟩:=zap (za2 (names:=scope.names) (m:=s3.heap.objs.size+1) (zeZ (env:=X.env) (acc:=[]) hmem));have hcc:c'=c:=by
     rcases cells x c' m' with h | h
     .rw[h.2] at hc;cases hc;rfl
     .have:=ze6 S.nd h.1 hmem;cases this
    subst hcc;refine .inr ⟨?_,c',e',hcell.keeps hkeep⟩;rcases vx with q | q | q
    .obtain⟨k',ek,qq⟩:=zbq (env:=X.env) (names:=scope.names) q;rw[hx2] at ek;cases ek;rcases qq with qq | qq
     .cases qq
     .cases qq.2.1
    .exact .inl q
    .exact .inr q
 .rcases cells x c (PySem.mem_of_lookup hc) with h | h
  .obtain⟨v,hv⟩:=I.cell x c h.2;exact⟨v,hv.keeps hkeep⟩
  .exact⟨_,h.2.2⟩
 .rcases cells x c (PySem.mem_of_lookup hc) with h | h
  .exact I.freeC x c h.2
  .exact I.hok.fresh (by omega)
 .show _=(own++free).length;have q:=congrArg List.length hfr;simp only[List.length_map] at q;simp[zaq,q]
def PTs(X:Cx)(ifs:List Expr)(t:TT):Prop :=
 ∀(pins:List (Addr×Obj)) (s:Shared) (σ:St) (H:Hp) (Q:Bool->Hp->Prop),Inv X pins σ H s->t σ H Q ->
  wpAny (model X.prog X.w) X.A (forIn ifs true fun c r=>if r=true then do let ok<-isTrue c X.env (eval c X.env);pure (ForInStep.yield ok) else pure (ForInStep.yield r)) (TP X pins σ Q) X.xe s
def zwE:TT:=fun _ H Q=>Q true H
theorem zto{X:Cx}:PTs X [] zwE:=fun pins s σ H Q I h=>wpAny_tests_nil ⟨H,I,h⟩
theorem ztY{X:Cx}{c:Expr}{t:TT}(h:PT X c t):PTs X [c] t:=fun pins s σ H Q I q=>wpAny_tests_one (h pins s σ H Q I q)
theorem zjZ{prog:Program}{w:World}{A:Around}{R:Result->Shared->Prop}{s:Shared}{elt target iter:Expr}{ifs:List Expr}{scope:Scope}{pos:Pos}{it acc:Value}{env:Env}(I:Nat->Shared->Prop)
  (turn:∀n s,I n s->wpAny (model prog w) A (pyNext it) (fun r s₁=>match r with
   | none=>R (.ok .next) s₁
   | some v=>wpAny (model prog w) A (letOwnedTupleGo target it v) (fun _ s₁'=>wpAny (model prog w) A (assign target env v) (fun _ s₂ =>
     wpAny (model prog w) A (forIn ifs true fun c r=>if r=true then do let ok<-isTrue c env (eval c env);pure (ForInStep.yield ok) else pure (ForInStep.yield r)) (fun ok s₃ =>
      if ok=true then wpAny (model prog w) A (eval elt env) (fun x s₄ =>
       wpAny (model prog w) A (call (.builtin "list.append") [acc,x]) (fun _ s₅=>∃m,m < n/\I m s₅) (notedBy (model prog w) A env fun e s'=>R (.error e) s') s₄) (notedBy (model prog w) A env fun e s'=>R (.error e) s') s₃
      else ∃m,m < n/\I m s₃) (notedBy (model prog w) A env fun e s'=>R (.error e) s') s₂) (notedBy (model prog w) A env fun e s'=>R (.error e) s') s₁') (notedBy (model prog w) A env fun e s'=>R (.error e) s') s₁) (notedBy (model prog w) A env fun e s'=>R (.error e) s') s)
  (n:Nat) (h:I n s) :
  codeAny (model prog w) A (.compLoop (.ListComp elt [⟨target,iter,ifs,0⟩] scope pos) 0 it acc env) R s:=by
 refine codeAny_loop rfl I (fun n s hI=>?_) n h;show wpAny _ A ((compTurn (.ListComp elt [⟨target,iter,ifs,0⟩] scope pos) 0 it acc env).onRaise (fun x=>do noteFrame x env;theTreesLotGoes x)) _ _ s;refine wpAny_noted ?_;rw[compTurn_list];refine wpAny_bind (wpAny_standAt (wpAny_bind (wpAny_mono (turn n s hI) (fun r s₁ h₁=>?_) fun _ _ h'=>h')));cases r with
 | none=>exact wpAny_pure h₁
 | some v =>
  refine wpAny_bind (wpAny_mono h₁ (fun _ s₁' h₁'=>?_) fun _ _ h'=>h');refine wpAny_bind (wpAny_mono h₁' (fun _ s₂ h₂=>wpAny_bind (wpAny_mono h₂ (fun ok s₃ h₃=>?_) fun _ _ h'=>h')) fun _ _ h'=>h');cases ok with
  | false=>exact wpAny_pure ⟨rfl,h₃⟩
  | true =>
   exact wpAny_bind (wpAny_bind (wpAny_mono h₃ (fun x s₄ h₄=>wpAny_bind (wpAny_mono h₄ (fun _ s₅ h₅=>wpAny_pure (wpAny_pure ⟨rfl,h₅⟩)) fun _ _ h'=>h')) fun _ _ h'=>h'))
def Sub(σ σ2:St):Prop:=σ.length=σ2.length/\∀(i:Nat) v,σ[i]? = some (some v)->σ2[i]? = some (some v)
abbrev lobj(its:List Value)(n:Nat):Obj:={ cls:= .type "list",data:= .seq its.toArray n }
section
variable{X:Cx}{tg iter elt:Expr}{ifs:List Expr}{scope:Scope}{pos:Pos}{own free:List Str}{fr:List Nat}
def zfS(J:It)(g:TG)(tc:TT)(te:TE)(σb:St)(Fin:List V->Hp->Prop)(W:Nat->Nat->List V->Hp->Prop):Prop :=
 ∀i m ys H,W i m ys H->(J.stop i H/\Fin ys H)\/(J.go i H/\ys.length < sizeLine/\∃N:List V->Hp->Prop,(∀ys' H',N ys' H'->∃m',m' < m/\W (i+1) m' ys' H')/\∀x H',J.yld i H x H'->g x σb H' fun σ2 H3=>Sub σb σ2/\tc σ2 H3 fun b H4 =>
  if b=true then te σ2 H4 fun v H5=>N (ys++[v]) H5 else N ys H4)
theorem zla{pins:List (Addr×Obj)}{σ:St}{H2:Hp}{s2:Shared}{J:It}{fp:List Addr}{it:Addr}{tn:Nat->Heap->Prop}{g:TG}{tc:TT}{te:TE}{Fin:List V->Hp->Prop}{W:Nat->Nat->List V->Hp->Prop}{m0:Nat}
  {RR:Value->Addr->Result->Shared->Prop}{E:Value->Shared->Prop}
  (S:zce X scope)(hc:X.calm=true)(hfr:fr.map (fun j=>X.N[j]?)=free.map some)(hff:∀x∈free,scope.names.lookup x=some .free)
  (hg:∀C s H ex,PG (zE X (own++free) scope C s H ex) tg g)(ht:∀C s H ex,PTs (zE X (own++free) scope C s H ex) ifs tc)(he:∀C s H ex,PE (zE X (own++free) scope C s H ex) elt te)
  (I2:Inv X pins σ H2 s2)(T:Turn X.prog X.w X.K tg J fp it tn)(st2:tn 0 s2.heap)(f2:∀b∈fp,zfd X pins H2 b)
  (w0:W 0 m0 [] H2)(turn:zfS J g tc te (own.map (fun _=>none)++zaq σ fr) Fin W)
  (hRR:∀D C its n ys H' s',Inv (zE X (own++free) scope C s2 H2 fp) [(D,lobj its n)] (own.map (fun _=>none)++zaq σ fr) H' s'->Vals ys its->ys.length<=sizeLine->Fin ys H'->s2.heap.objs.size<=D->RR (.ref D) C (.ok .next) s') :
  wpAny (model X.prog X.w) X.A (newList []) (fun acc s₃=>wpAny (model X.prog X.w) X.A (newFunctionEnv scope X.env.globals (zas X.env scope.names []) [] X.env.qual none .none (some X.env)) (fun cenv s₄ =>
   codeAny (model X.prog X.w) X.A (.compStart (.ListComp elt [⟨tg,iter,ifs,0⟩] scope pos) 0 (.ref it) acc { cenv with scope:=relabel scope X.env }) (RR acc cenv.locals) s₄) E s₃) E s2:=by
 refine wpAny_newObj_type (zhw ?_);have hob:∀b∈fp,∃o,s2.heap.get? b=some o:=fun b hb=>by obtain⟨o,e,_⟩:=T.obj _ _ st2 b hb;exact⟨o,e⟩
 have fplt:∀b∈fp,b < s2.heap.objs.size:=fun b hb=>by obtain⟨o,e⟩:=hob b hb;exact Heap.lt_size e
 generalize hs3:({ s2 with heap:=s2.heap.push { cls:= .type "list",dict:=none,data:= .seq ([]:List Value).toArray } }:Shared)=s3
 have hh3:s3.heap=s2.heap.push (lobj [] 0):=by rw[<- hs3]
 have hC:s3.heap.objs.size=s2.heap.objs.size+1:=by rw[hh3,Heap.size_push]
 have keep3:∀b o,s2.heap.get? b=some o->s3.heap.get? b=some o:=fun b o e=>by rw[hh3];exact Heap.get?_push_of_some _ e
 have I3:=zld (own:=own) (ex:=fp) (s3:=s3) S I2 f2 hob hfr hff keep3 (by rw[hC];exact Nat.le_succ _) (by rw[<- hs3]) (by rw[<- hs3]);generalize hs4:({ s3 with heap:=pushCells (s3.heap.push { cls:= .type "dict",data:= .dict #[] }) scope.names }:Shared)=s4 at I3
 have keep4:∀b o,s3.heap.get? b=some o->s4.heap.get? b=some o:=fun b o e=>by rw[<- hs4];exact pushCells_keeps _ _ b o (Heap.get?_push_of_some _ e)
 have hD4:s4.heap.get? s2.heap.objs.size=some (lobj [] 0):=keep4 _ _ (by rw[hh3];exact Heap.get?_push_size _ rfl);have nf:s2.heap.objs.size∉frs X.stack:=fun hb=>by
  obtain⟨_,o,e,_⟩:=I2.stack.mem hb;exact absurd (Heap.lt_size e) (Nat.lt_irrefl _)
 have hDC:s2.heap.objs.size≠s3.heap.objs.size:=by rw[hC];exact Nat.ne_of_lt (Nat.lt_succ_self _)
 have cellD:∀{P:List (Addr×Obj)} {σ' H' s'} {its:List Value} {n:Nat},Inv (zE X (own++free) scope s3.heap.objs.size s2 H2 fp) P σ' H' s'->s'.heap.get? s2.heap.objs.size=some (lobj its n)->∀x c,(za1 scope s3.heap.objs.size X.env).cells.lookup x=some c->c≠s2.heap.objs.size:=fun I e x c hc z=>by
  obtain⟨v,o,eo,ed⟩:=I.cell x c hc;rw[z,e] at eo;cases eo;cases ed
 have pinD:∀{σ' H' s'} {its:List Value} {n:Nat},Inv (zE X (own++free) scope s3.heap.objs.size s2 H2 fp) [] σ' H' s'->s'.heap.get? s2.heap.objs.size=some (lobj its n)->H' s2.heap.objs.size=none ->
   Inv (zE X (own++free) scope s3.heap.objs.size s2 H2 fp) [(s2.heap.objs.size,lobj its n)] σ' H' s':=fun{σ' H' s' its n} I e hn=>I.pins_of fun p hp=>by
  have hp':p=(s2.heap.objs.size,lobj its n):=List.mem_singleton.mp hp;subst hp';exact⟨e,hn,hDC,nf,fun v=>by intro z;cases z⟩
 have I4:=pinD I3 hD4 (I2.hok.fresh (Nat.le_refl _));have fpOk:∀{σ' H' s'} {its:List Value} {n:Nat},Inv (zE X (own++free) scope s3.heap.objs.size s2 H2 fp) [(s2.heap.objs.size,lobj its n)] σ' H' s'->(∀b∈fp,H' b=none)->∀b∈fp,zfd (zE X (own++free) scope s3.heap.objs.size s2 H2 fp) [(s2.heap.objs.size,lobj its n)] H' b:=fun{σ' H' s' its n} I hn b hb=>by
  refine⟨hn b hb,(I.ok.exf b hb).1,I.ok.exfs b hb, .inl hb,(I.ok.exf b hb).2,fun p hp=>?_⟩;have hp':p=(s2.heap.objs.size,lobj its n):=List.mem_singleton.mp hp;subst hp';exact Ne.symm (Nat.ne_of_lt (fplt b hb))
 have stn4:tn 0 s4.heap:=T.keep _ _ _ st2 fun b hb o e=>keep4 b o (keep3 b o e)
 have loop:∀s',s'=s4->codeAny (model X.prog X.w) X.A (.compLoop (.ListComp elt [⟨tg,iter,ifs,0⟩] scope pos) 0 (.ref it) (.ref s2.heap.objs.size) (za1 scope s3.heap.objs.size X.env)) (RR (.ref s2.heap.objs.size) s3.heap.objs.size) s':=by
  rintro s' rfl;refine zjZ (fun k s'=>∃i ys its n H',Inv (zE X (own++free) scope s3.heap.objs.size s2 H2 fp) [(s2.heap.objs.size,lobj its n)] (own.map (fun _=>none)++zaq σ fr) H' s'/\tn i s'.heap/\(∀b∈fp,H' b=none)/\Vals ys its/\ys.length<=sizeLine/\W i k ys H') ?_ m0
   ⟨0,[],[],0,H2,I4,stn4,fun b hb=>(f2 b hb).1, .nil,Nat.zero_le _,w0⟩
  rintro k s5 ⟨i,ys,its,n,H5,I5,st5,fr5,r5,len5,w5⟩;rcases turn i k ys H5 w5 with⟨stop,fin⟩ | ⟨go,hlt,N,hN,step⟩
  .refine wpAny_mono (T.done (zE X (own++free) scope s3.heap.objs.size s2 H2 fp) rfl rfl rfl hc i _ s5 _ H5 (fun _ _=>False) I5 (fpOk I5 fr5) st5 stop) (fun r s6 ⟨hr,I6⟩=>?_) fun _ _ f=>f.elim
   subst hr;exact hRR _ _ its n ys H5 s6 I6 r5 len5 fin (Nat.le_refl _)
  .refine wpAny_mono (T.item (zE X (own++free) scope s3.heap.objs.size s2 H2 fp) rfl rfl rfl hc i _ s5 _ H5 (fun _ _=>False) I5 (fpOk I5 fr5) st5 go) (fun r s6 ⟨u,hr,h6⟩=>?_) fun _ _ f=>f.elim
   subst hr;refine wpAny_mono h6 (fun _ s7 ⟨x,H7,I7,r7,y7,st7,fr7⟩=>?_) fun _ _ f=>f.elim
   have I7':=I7.pinned (fpOk I7 fr7) (T.obj _ _ st7);refine wpAny_mono (hg _ _ _ _ _ s7 _ H7 x u _ I7' r7 (step x H7 y7)) (fun _ s8 ⟨σ8,H8,I8,sub8,q8⟩=>?_) fun _ _ f=>f.elim
   refine wpAny_mono (ht _ _ _ _ _ s8 σ8 H8 _ I8 q8) (fun b s9 ⟨H9,I9,q9⟩=>?_) fun _ _ f=>f.elim
   have back:∀{H' s'},Inv (zE X (own++free) scope s3.heap.objs.size s2 H2 fp) ([(s2.heap.objs.size,lobj its n)]++zcH fp s7.heap) σ8 H' s'->tn (i+1) s'.heap/\(∀b∈fp,H' b=none):=fun{H' s'} I=>by
    refine⟨T.keep _ _ _ st7 fun b hb o e=>(I.pin (b,o) (List.mem_append_right _ (List.mem_append_right _ (zbF hb e)))).1,fun b hb=>?_⟩;obtain⟨o,e,d⟩:=T.obj _ _ st7 b hb;exact(I.pin (b,o) (List.mem_append_right _ (List.mem_append_right _ (zbF hb e)))).2.1
   cases b with
   | false =>
    obtain⟨m',hm,w9⟩:=hN _ _ q9;obtain⟨st9,fr9⟩:=back I9;exact⟨m',hm,i+1,ys,its,n,H9,I9.unpinned.weak sub8.1 sub8.2,st9,fr9,r5,len5,w9⟩
   | true =>
    refine wpAny_mono (he _ _ _ _ _ s9 σ8 H9 _ I9 q9) (fun v s10 ⟨y,H10,I10,r10,q10⟩=>?_) fun _ _ f=>f.elim
    obtain⟨m',hm,w10⟩:=hN _ _ q10;obtain⟨st10,fr10⟩:=back I10;have pD:=I10.pin (s2.heap.objs.size,lobj its n) (List.mem_append_right _ (List.mem_append_left _ List.mem_cons_self));refine append_at (hsz:=by rw[List.size_toArray,<- r5.length];exact len5) pD.1 fun h' hsb hnew=>?_
    have J0:Inv (zE X (own++free) scope s3.heap.objs.size s2 H2 fp) (zcH fp s7.heap) σ8 H10 s10:=I10.pins_of fun p hp=>I10.pin p (by
     have hp':p∈zcH fp s7.heap:=by simpa [zE] using hp
     exact List.mem_append_right _ (List.mem_append_right _ hp'))
    have J1:Inv (zE X (own++free) scope s3.heap.objs.size s2 H2 fp) (zcH fp s7.heap) σ8 H10 { s10 with heap:=h' }:=J0.turned (it:=s2.heap.objs.size) (t':=s10.toks) (fun b o hb e=>hsb.extBut b o hb e) pD.2.1 hDC (.inr (Nat.le_refl _)) (cellD J0 pD.1) (fun p hp=>by
     have hp':p∈zcH fp s7.heap:=by simpa [zE] using hp
     exact Nat.ne_of_lt (fplt _ (zfN hp').1))
    have J2:Inv (zE X (own++free) scope s3.heap.objs.size s2 H2 fp) [] σ8 H10 { s10 with heap:=h' }:=J1.pins_of fun p hp=>absurd hp (by simp[zE])
    have st11:tn (i+1) h':=T.keep _ _ _ st10 fun b hb o e=>hsb.extBut b o (Nat.ne_of_lt (fplt b hb)) e
    have e11:h'.get? s2.heap.objs.size=some (lobj (its++[v]) (n+1)):=by rw[hnew,List.push_toArray]
    refine⟨m',hm,i+1,ys++[y],its++[v],n+1,H10,(pinD J2 e11 pD.2.1).weak sub8.1 sub8.2,st11,fr10,r5.append (.cons r10 .nil),?_,w10⟩;rw[List.length_append,List.length_singleton];exact hlt
 refine codeAny_compStart_list (loop _ rfl) (T.self X.A 0 _ _ _ stn4 (loop _ rfl))
theorem zio{pins:List (Addr×Obj)}{σ σ':St}{H2 H':Hp}{s2 s':Shared}{fp:List Addr}{C D:Addr}{its:List Value}{n:Nat}{ys:List V}{N:List Str}{h'':Heap}
  (I2:Inv X pins σ H2 s2)(f2:∀b∈fp,zfd X pins H2 b)(I:Inv (zE X N scope C s2 H2 fp) [(D,lobj its n)] σ' H' s')(r:Vals ys its)(hz:ys.length<=sizeLine)(hD:s2.heap.objs.size<=D)(hs:Heap.SameBut C s'.heap h'') :
  Inv X pins σ (upd H' D (.lst ys)) { s' with heap:=h'' }/\H' D=none:=by
 have pD:=I.pin (D,lobj its n) (List.mem_append_right _ List.mem_cons_self);have hCs:s2.heap.objs.size<=C:=I.ok.above;have hDC:D≠C:=pD.2.2.1;have u:Un (frs X.stack) fp H2 H' s2.heap s'.heap:=I.base;have lt2:∀b o,s2.heap.get? b=some o->b≠C/\b≠D:=fun b o e=>by
  have:=Heap.lt_size e;exact⟨Nat.ne_of_lt (Nat.lt_of_lt_of_le this hCs),Nat.ne_of_lt (Nat.lt_of_lt_of_le this hD)⟩
 have tD:∀b o,H2 b=some o->b≠D:=fun b o e z=>by
  have:=I2.hok.lt e;rw[z] at this;exact absurd this (Nat.not_lt.mpr hD)
 have hC':∀b o,H' b=some o->b≠C:=fun b o e z=>by
  have:=I.free;rw[show(zE X N scope C s2 H2 fp).env.locals=C from rfl,<- z,e] at this;cases this
 have hok1:HOk X.prog X.w H' h'':=fun a o e=>(I.hok a o e).stay (fun b ob hb eb=>by
   rcases hb with hb | hb
   .rw[hb];rw[hb] at eb;exact hs.extBut _ _ (hC' a o e) eb
   .exact hs.extBut _ _ (hC' b _ hb) eb) (fun _ h=>h) (fun _ _ h=>h)
 have oD:h''.get? D=some (lobj its n):=hs.extBut _ _ hDC pD.1;have hok:HOk X.prog X.w (upd H' D (.lst ys)) h'':=fun a o e=>by
  by_cases ha:a=D
  .subst ha;rw[zq] at e;cases e;exact⟨hz,its,n,r,oD⟩
  .rw[zm ha] at e;refine(hok1 a o e).stay (fun b ob _ eb=>eb) (fun b h=>?_) (fun b xs h=>?_)
   .rw[zm (fun z=>by rw[z,pD.2.1] at h;cases h)];exact h
   .rw[zm (fun z=>by rw[z,pD.2.1] at h;cases h)];exact h
 have u2:Un (frs X.stack) fp H2 (upd H' D (.lst ys)) s2.heap h'' :=
  {keep:=fun b o e hn hf hx=>hs.extBut b o (lt2 b o e).1 (u.keep b o e hn hf hx)
   slot:=fun b o e hn hf hx=>by
    obtain⟨sl,q⟩:=u.slot b o e hn hf hx;exact⟨sl,hs.extBut b _ (lt2 b o e).1 q⟩
   free:=fun b o e hn hx=>by rw[zm (lt2 b o e).2];exact u.free b o e hn hx
   there:=fun b o e hx=>by
    obtain⟨o',q⟩:=u.there b o e hx;exact⟨o',hs.extBut b _ (lt2 b o e).1 q⟩
   tups:=fun b xs e=>by rw[zm (tD b _ e)];exact u.tups b xs e
   frzs:=fun b o v e=>by rw[zm (tD b _ e)];exact u.frzs b o v e
   tbls:=fun b ps e=>by rw[zm (tD b _ e)];exact u.tbls b ps e }
 refine⟨I2.call' (s':={ s' with heap:=h'' }) (ch:=fp) I.os u2 hok I.bare fun b hb=>?_,pD.2.1⟩;have q:=f2 b hb;exact⟨q.2.2.2.1,q.2.1,q.2.2.2.2.1,q.2.2.2.2.2⟩
def zl7(own:List Str)(fr:List Nat)(wi:TI)(g:TG)(tc:TT)(te:TE):TE:=fun σ H Q=>wi σ H fun J H1=>∃W:Nat->Nat->List V->Hp->Prop,(∃m,W 0 m [] H1) /\
 zfS J g tc te (own.map (fun _=>none)++zaq σ fr) (fun ys H'=>∀p,H' p=none->Q (.ref p) (upd H' p (.lst ys))) W
theorem zty{wi:TI}{g:TG}{tc:TT}{te:TE}(own free:List Str)(fr:List Nat)(S:zce X scope)(hc:X.calm=true)(hfr:fr.map (fun j=>X.N[j]?)=free.map some)(hff:∀x∈free,scope.names.lookup x=some .free)
  (hi:PI X tg iter wi)
  (hg:∀C s H ex,PG (zE X (own++free) scope C s H ex) tg g)(ht:∀C s H ex,PTs (zE X (own++free) scope C s H ex) ifs tc)(he:∀C s H ex,PE (zE X (own++free) scope C s H ex) elt te)
  (hs:∀x,foldedSetIterable iter X.env x=pure x:=by intro _;rfl) :
  PE X (.ListComp elt [⟨tg,iter,ifs,0⟩] scope pos) (zl7 own fr wi g tc te):=by
 intro pins s σ H Q I h;have hcl:closureFor scope X.env=pure (zas X.env scope.names []):=zcF fun x hx e=>by
  obtain⟨c,hc⟩:=I.ok.has x.1 (S.free x hx e);rw[hc];rfl
 rw[eval_ListComp];refine wpAny_comprehension_free (use:=none) rfl hs hcl S.kind (fun x hx e=>by have:=zdR S.nd (show(x.1,x.2)∈scope.names from hx);rw[this,e]) (thn (hi pins s σ H _ I h) fun v s1 h1=>thn h1 fun itv s2 h2=>?_);obtain⟨it,fp,tn,J,H2,e,I2,T,st2,f2,W,⟨m0,w0⟩,turn⟩:=h2;subst e;refine zla (RR:=fun acc C=>compPost (model X.prog X.w) X.A X.xe none (EP X pins σ Q) acc C) S hc hfr hff hg ht he I2 T st2 f2 w0 turn ?_;intro D C its n ys H' s' I' r hz fin hD;obtain⟨m,hm,_⟩:=I'.loc;refine⟨m,hm,fun h'' hsb=>?_⟩;obtain⟨J',hn⟩:=zio I2 f2 I' r hz hD hsb;exact⟨.ref D,_,J',rfl,fin D hn⟩
theorem zsO{wi:TI}{g:TG}{tc:TT}{te:TE}{i:Nat}{x:Str}{pos' spos:Pos}(own free:List Str)(fr:List Nat)(hN:X.N.Nodup)(hx:X.N[i]? = some x)(hl:X.env.scope.names.lookup x=some .local)
  (S:zce X scope)(hc:X.calm=true)(hfr:fr.map (fun j=>X.N[j]?)=free.map some)(hff:∀x∈free,scope.names.lookup x=some .free)
  (hi:PI X tg iter wi)
  (hg:∀C s H ex,PG (zE X (own++free) scope C s H ex) tg g)(ht:∀C s H ex,PTs (zE X (own++free) scope C s H ex) ifs tc)(he:∀C s H ex,PE (zE X (own++free) scope C s H ex) elt te)
  (hsw:swapsWith (.ListComp elt [⟨tg,iter,ifs,0⟩] scope pos) (some (.Name x pos')) spos.line X.env=pure true:=by rfl)
  (hs:∀x,foldedSetIterable iter X.env x=pure x:=by intro _;rfl) :
  PS X (.Assign [.Name x pos'] (.ListComp elt [⟨tg,iter,ifs,0⟩] scope pos) spos) (zdh (zl7 own fr wi g tc te) (zdq i)):=by
 intro pins s σ H D0 I h;have hcl:closureFor scope X.env=pure (zas X.env scope.names []):=zcF fun x hx e=>by
  obtain⟨c,hc⟩:=I.ok.has x.1 (S.free x hx e);rw[hc];rfl
 rw[exec_Assign_Name_used _ _ _ _ hsw];refine wpAny_bind (wpAny_standAt (wpAny_bind ?_));show wpAny _ X.A (do let _<-comprehension (.ListComp elt [⟨tg,iter,ifs,0⟩] scope pos) scope X.env _ (newList []) false (eval iter X.env) (some (assign (.Name x pos') X.env))) _ _ s;refine wpAny_bind (thn (wpAny_comprehension_free (use:=some (assign (.Name x pos') X.env)) (Q:=fun _ s'=>SP X pins D0 .next s') rfl hs hcl S.kind (fun x hx e=>by have:=zdR S.nd (show(x.1,x.2)∈scope.names from hx);rw[this,e])
  (thn (hi pins s σ H _ I h) fun v s1 h1=>thn h1 fun itv s2 h2=>?_)) (fun _ s' hq=>wpAny_pure (wpAny_pure hq)))
 obtain⟨it,fp,tn,J,H2,e,I2,T,st2,f2,W,⟨m0,w0⟩,turn⟩:=h2;subst e;refine zla (RR:=fun acc C=>compPost (model X.prog X.w) X.A X.xe (some (assign (.Name x pos') X.env)) (fun _ s'=>SP X pins D0 .next s') acc C) S hc hfr hff hg ht he I2 T st2 f2 w0 turn ?_;intro D C its n ys H' s' I' r hz fin hD;obtain⟨m,hm,_⟩:=I'.loc;obtain⟨J',hn⟩:=zio I2 f2 I' r hz hD (Heap.SameBut.refl C s'.heap);show wpAny _ _ (assign (.Name x pos') X.env (.ref D)) _ _ _;have hCx:(zE X (own++free) scope C s2 H2 fp).env.locals=C:=rfl;have hCl:C≠X.env.locals:=by
  have:=I2.lt;have h2:s2.heap.objs.size<=C:=I'.ok.above;exact Ne.symm (Nat.ne_of_lt (Nat.lt_of_lt_of_le this h2))
 refine wpAny_assign_Name (zi3 (s:={ s' with heap:=s'.heap }) J' hN hx (.inl hl) (show RelV (.ref D) (.ref D) from rfl) (fun s3 I3 ⟨a,sb,ha⟩=>?_) (.inr hl));have haC:C≠a:=by
  rcases ha with rfl | ha
  .exact hCl
  .intro z;obtain⟨v,o,eo,_⟩:=I2.cell x a ha;have h2:s2.heap.objs.size<=C:=I'.ok.above;have:=Heap.lt_size eo;rw[<- z] at this;exact absurd this (Nat.not_lt.mpr h2)
 have nsC:s3.heap.Ns C m:=hm.sameBut sb haC;refine⟨m,nsC,fun h'' hsb=>?_⟩;refine⟨_,_,?_,fin D hn⟩;have hC2:s2.heap.objs.size<=C:=I'.ok.above;have hCn:(upd H' D (.lst ys)) C=none:=by
  rw[zm (fun z=>?_)]
  .exact I'.free
  .exact(I'.pin (D,lobj its n) (List.mem_append_right _ List.mem_cons_self)).2.2.1 z.symm
 have:=I3.turned (it:=C) (h':=h'') (t':=s3.toks) (fun b o hb e=>hsb.extBut b o hb e) hCn hCl (.inr (Nat.le_trans I2.sz hC2)) (fun y c hc z=>by
   obtain⟨v,o,eo,_⟩:=I2.cell y c hc;have:=Heap.lt_size eo;rw[z] at this;exact absurd this (Nat.not_lt.mpr hC2)) (fun p hp z=>by
   have:=Heap.lt_size (I2.pin p hp).1;rw[z] at this;exact absurd this (Nat.not_lt.mpr hC2))
 exact this
end
def zby(lo:Int)(n:Nat):List Int:=(List.range n).map fun(i:Nat)=>lo+(i:Int)
theorem zin{lo:Int}{n i:Nat}(h:i < n):(zby lo n)[i]? = some (lo+i):=by
 unfold zby;rw[List.getElem?_map,List.getElem?_range h];rfl
theorem zaY(lo:Int)(n:Nat):(zby lo n).length=n:=by simp[zby]
section
variable{X:Cx}
def zhf(i j:Int):Prop:=0 < j/\j < 2^250
theorem zfs:OpR X (binaryOp .FloorDiv) (rI zhf fun i j=> .int (i / j)):=opI fun i j t u s Q E h q=>by
 have e:i.fdiv j=i / j:=Int.fdiv_eq_ediv_of_nonneg i (Int.le_of_lt h.1);rw[<- e] at q;refine floordiv_int (by have:=h.1;omega) q (Or.inl (PyProof.noPylong_of_log2 ?_));have h2:=h.2;have hn:j.natAbs < 2^250:=by have:=h.1;omega
 exact Nat.lt_trans (Nat.log2_lt (by have:=h.1;omega) |>.mpr hn) (by decide)
theorem zci:∀{ns:List Int} {us:List Value},Vals (ns.map V.int) us->IntsAre us ns
 | [],_, .nil=> .nil
 | _::_,_, .cons ⟨t,rfl⟩ r=> .cons _ _ (zci r)
theorem zoD(hc:X.calm=true):zL X (.builtin "max") (fun xs H Q=>∃p ns,xs=[.ref p]/\SqL X.K H p (ns.map V.int)/\ns≠[]/\∀M∈ns,(∀a∈ns,a<=M)->Q (.int M) H):=by
 intro pins s σ H xs us Q I r h;obtain⟨p,ns,rfl,hl,hne,q⟩:=h;obtain⟨u,rfl,rx⟩:=vals1 r;cases rx;obtain⟨its,r',pl,hz⟩:=I.list hl;have hi:=zci r';obtain⟨ys,e⟩:=hi.allInts.items;have hns:ns=ys.toList.map (·.1):=by rw[<- hi.numsOf,<- nums_intItems,<- e]
 have hsz:0 < ys.size:=by
  rcases Nat.eq_zero_or_pos ys.size with h0 | h0
  .have:ys.toList=[]:=by simpa using h0
   rw[this] at hns;exact absurd hns hne
  .exact h0
 have hl':=pl.isList;rw[e] at hl';refine max_intList (I.ok.hd hc) hl' hsz fun v h' tk hv hk=>?_
 obtain⟨t,rfl⟩:=intItems_at hv;obtain⟨h1,h2⟩:=argBest_gt (numAt ys) (ys.size - 1);refine⟨.int _,H,I.kept hk,⟨t,rfl⟩,q _ ?_ fun a ha=>?_⟩
 .rw[hns,numAt_eq];exact getD_mem (by rw[List.length_map,Array.length_toList];omega)
 .rw[hns] at ha;obtain⟨j,hj,rfl⟩:=mem_getD ha;rw[List.length_map,Array.length_toList] at hj;rw[<- numAt_eq];exact h2 j (by omega)
theorem zoA(hc:X.calm=true):zL X (.builtin "min") (fun xs H Q=>∃p ns,xs=[.ref p]/\SqL X.K H p (ns.map V.int)/\ns≠[]/\∀M∈ns,(∀a∈ns,M<=a)->Q (.int M) H):=by
 intro pins s σ H xs us Q I r h;obtain⟨p,ns,rfl,hl,hne,q⟩:=h;obtain⟨u,rfl,rx⟩:=vals1 r;cases rx;obtain⟨its,r',pl,hz⟩:=I.list hl;have hi:=zci r';obtain⟨ys,e⟩:=hi.allInts.items;have hns:ns=ys.toList.map (·.1):=by rw[<- hi.numsOf,<- nums_intItems,<- e]
 have hsz:0 < ys.size:=by
  rcases Nat.eq_zero_or_pos ys.size with h0 | h0
  .have:ys.toList=[]:=by simpa using h0
   rw[this] at hns;exact absurd hns hne
  .exact h0
 have hl':=pl.isList;rw[e] at hl';refine min_intList (I.ok.hd hc) hl' hsz fun v h' tk hv hk=>?_
 obtain⟨t,rfl⟩:=intItems_at hv;obtain⟨h1,h2⟩:=argBest_lt (numAt ys) (ys.size - 1);refine⟨.int _,H,I.kept hk,⟨t,rfl⟩,q _ ?_ fun a ha=>?_⟩
 .rw[hns,numAt_eq];exact getD_mem (by rw[List.length_map,Array.length_toList];omega)
 .rw[hns] at ha;obtain⟨j,hj,rfl⟩:=mem_getD ha;rw[List.length_map,Array.length_toList] at hj;rw[<- numAt_eq];exact h2 j (by omega)
theorem zlu:zL X (.builtin "isinstance") (fun xs H Q=>∃x c t b,xs=[x,c]/\zed X.K H x t/\(∀u,RelV c u->kitOne X.K t u=some b)/\Q (.bl b) H):=by
 intro pins s σ H xs us Q I r h;obtain⟨x,c,t,b,rfl,ty,e,q⟩:=h;obtain⟨u,v,rfl,ru,rv⟩:=vals2 r;exact zok I ru ty (e v rv) fun tk=>⟨.bl b,H,I.tok tk,rfl,q⟩
end
theorem zjs{prog:Program}{w:World}{A:Around}{E:Value->Shared->Prop}{s:Shared}{l:Addr}{items:Array Value}{Q:Value->Shared->Prop}(hl:s.heap.IsList l items)
  (h:∀s₂:Shared,s₂={ s with heap:=s.heap.push { cls:= .type "list_iterator",data:= .fields #[.ref l, .int 0 0] } }->(s₂.heap.IsListIter s.heap.objs.size l 0/\s₂.heap.IsList l items)->l≠s.heap.objs.size->Q (.ref s.heap.objs.size) s₂) :
  wpAny (model prog w) A (pyIter (.ref l)) Q E s:=by
 have hlt:l < s.heap.objs.size:=by obtain⟨_,e,_⟩:=hl;exact Heap.lt_size e
 exact wpAny_pyIter_list hl (h _ rfl ⟨⟨_,Heap.get?_push_size _ rfl,rfl,rfl⟩,hl.push _⟩ (Nat.ne_of_lt hlt))
structure Has(P:Program)(w:World)(K:Frag)(mg:Str->Option Value)(base:Heap)(CX:CXT)(x:Str)(k:Nat)(ps:List Str)(sp:Sp):Prop where
 ex:∃f fd,zaa P w K mg base CX k f fd ps sp/\Binds K fd ps []/\keepIn K (.ref f)=true/\mg x=some (.ref f)
section
variable{X:Cx}{CX:CXT}{j k:Nat}{ps:List Str}{sp:Sp}{E:XK}{x:Str}{p pos:Pos}{e:Expr}{es:List Expr}{t:TA}
theorem zsc(h:Has X.prog X.w X.K X.mg X.base CX x j ps sp)(hr:zds k X.A)(ha:PA X (e::es) t)(hj:j<=k:=by decide)(hg:Gl X x:=by rfl)(hx:zck CX X E:=by exact zlc)(hdb:(x==("__debug__":Str))=false:=by decide)
  (he:starEach (e::es) X.env=(false,eval e X.env)::starEach es X.env:=by rfl)(hpl:(backTo pos (starEach es X.env)).any (·.1)=false:=by rfl):PE X (.Call (.Name x p) (e::es) [] pos) (zlB sp [] E t):=by
 obtain⟨f,fd,F,b,kp,m⟩:=h.ex;exact zuo (F.mono hj) hr hg m kp b .nil hx ha hdb he hpl
end
theorem zax:bootBuiltins "len"=some (.builtin "len"):=by decide+kernel
theorem zxz:bootBuiltins "abs"=some (.builtin "abs"):=by decide+kernel
theorem zwG:bootBuiltins "max"=some (.builtin "max"):=by decide+kernel
theorem zsk:bootBuiltins "min"=some (.builtin "min"):=by decide+kernel
theorem zqE:bootBuiltins "all"=some (.builtin "all"):=by decide+kernel
theorem zxu:bootBuiltins "any"=some (.builtin "any"):=by decide+kernel
theorem zvp:bootBuiltins "sum"=some (.builtin "sum"):=by decide+kernel
theorem zfQ:bootBuiltins "sorted"=some (.builtin "sorted"):=by decide+kernel
theorem zeA:bootBuiltins "isinstance"=some (.builtin "isinstance"):=by decide+kernel
theorem zha:bootBuiltins "list"=some (.type "list"):=by decide+kernel
theorem zlN:bootBuiltins "tuple"=some (.type "tuple"):=by decide+kernel
theorem zwK:bootBuiltins "int"=some (.type "int"):=by decide+kernel
theorem ztE:bootBuiltins "bool"=some (.type "bool"):=by decide+kernel
theorem zwP:bootBuiltins "set"=some (.type "set"):=by decide+kernel
theorem zvv:bootBuiltins "zip"=some (.type "zip"):=by decide+kernel
structure Blt(mg:Str->Option Value):Prop where
 len:mg "len"=none
 abs:mg "abs"=none
 max:mg "max"=none
 min:mg "min"=none
 all:mg "all"=none
 any:mg "any"=none
 sum:mg "sum"=none
 sorted:mg "sorted"=none
 isinstance:mg "isinstance"=none
 list:mg "list"=none
 tuple:mg "tuple"=none
 int:mg "int"=none
 bool:mg "bool"=none
 str:mg "str"=none
 set:mg "set"=none
 dict:mg "dict"=none
 zip:mg "zip"=none
 range:mg "range"=none
 enumerate:mg "enumerate"=none
 reversed:mg "reversed"=none
 repr:mg "repr"=none
theorem zqH{N:List Str}{vs:List V}:start N vs=vs.map some++List.replicate (N.length - vs.length) none:=rfl
def zkF(a:Addr)(H H':Hp):Prop:=∀b,b≠a->H' b=H b
def intOf:Expr->Option Int
 | .Constant (.int i) _ _=>some i
 | _=>none
theorem zmN{e:Expr}{i:Int}(h:intOf e=some i):∃k pos,e= .Constant (.int i) k pos:=by
 unfold intOf at h;split at h
 .cases h;exact⟨_,_,rfl⟩
 .cases h
def zrA(ks:List Int):TA:=fun _ H Q=>Q (ks.map V.int) H
theorem zn7{X:Cx}:∀(ks:List Int) {es:List Expr},es.map intOf=ks.map some->PA X es (zrA ks)
 | [],[],_=>znk
 | k::ks,e::es,h=>by
  simp only[List.map_cons,List.cons.injEq] at h;obtain⟨n,p,rfl⟩:=zmN h.1;have ih:=zn7 (X:=X) ks h.2;intro pos pins s σ H Q I q;exact zkL (X:=X) zsD ih rfl pos pins s σ H Q I q
 | [],_::_,h=>by simp at h
 | _::_,[],h=>by simp at h
mutual
def Dat(K:Frag)(H:Hp):PyData->V->Prop
 | .none,v=>v= .non
 | .bool b,v=>v= .bl b
 | .int i,v=>v= .int i
 | .str x,v=>v= .str x
 | .list ds,v=>∃a xs,v= .ref a/\SqL K H a xs/\zcT K H ds xs
 | .tuple ds,v=>∃a xs,v= .ref a/\SqT K H a xs/\zcT K H ds xs
 | .dict _,_=>False
def zcT(K:Frag)(H:Hp):List PyData->List V->Prop
 | [],xs=>xs=[]
 | d::ds,xs=>∃x r,xs=x::r/\Dat K H d x/\zcT K H ds r
end
theorem zcT.nil{K:Frag}{H:Hp}:zcT K H [] []:=by unfold zcT;rfl
theorem zcT.cons{K:Frag}{H:Hp}{d:PyData}{ds:List PyData}{x:V}{xs:List V}(a:Dat K H d x)(b:zcT K H ds xs):zcT K H (d::ds) (x::xs):=by unfold zcT;exact⟨x,xs,rfl,a,b⟩
theorem Dat.i{K:Frag}{H:Hp}{i:Int}:Dat K H (.int i) (.int i):=by unfold Dat;rfl
theorem Dat.s{K:Frag}{H:Hp}{x:Str}:Dat K H (.str x) (.str x):=by unfold Dat;rfl
theorem Dat.b{K:Frag}{H:Hp}{x:Bool}:Dat K H (.bool x) (.bl x):=by unfold Dat;rfl
theorem Dat.n{K:Frag}{H:Hp}:Dat K H .none .non:=by unfold Dat;rfl
theorem Dat.tup{K:Frag}{H:Hp}{a:Addr}{xs:List V}{ds:List PyData}(h:SqT K H a xs)(b:zcT K H ds xs):Dat K H (.tuple ds) (.ref a):=by unfold Dat;exact⟨a,xs,rfl,h,b⟩
theorem Dat.lst{K:Frag}{H:Hp}{a:Addr}{xs:List V}{ds:List PyData}(h:SqL K H a xs)(b:zcT K H ds xs):Dat K H (.list ds) (.ref a):=by unfold Dat;exact⟨a,xs,rfl,h,b⟩
section
variable{X:Cx}{pins:List (Addr×Obj)}{σ:St}{H:Hp}{s:Shared}
mutual
theorem Dat.reads(I:Inv X pins σ H s):∀{d:PyData} {v:V} {u:Value},Dat X.K H d v->RelV v u->∃as,Reads s.heap u d as
 | .none,v,u,h,r=>by unfold Dat at h;subst h;cases r;exact⟨_, .none⟩
 | .bool b,v,u,h,r=>by unfold Dat at h;subst h;cases r;exact⟨_, .bool b⟩
 | .int i,v,u,h,r=>by unfold Dat at h;subst h;obtain⟨t,rfl⟩:=r;exact⟨_, .int i t⟩
 | .str x,v,u,h,r=>by unfold Dat at h;subst h;obtain⟨t,rfl⟩:=r;exact⟨_, .str x t⟩
 | .list ds,v,u,h,r=>by
  unfold Dat at h;obtain⟨a,xs,rfl,hl,hd⟩:=h;cases r;obtain⟨its,r',pl,hz⟩:=I.list hl;obtain⟨as,q⟩:=zcT.reads I hd r';obtain⟨o,ho,hc,n,hdt⟩:=pl.isList;exact⟨_, .list ho hc hdt (by simpa using q)⟩
 | .tuple ds,v,u,h,r=>by
  unfold Dat at h;obtain⟨a,xs,rfl,hl,hd⟩:=h;cases r;obtain⟨its,r',pl,hz⟩:=I.tuple hl;obtain⟨as,q⟩:=zcT.reads I hd r';obtain⟨o,ho,hc,n,hdt⟩:=pl;exact⟨_, .tuple ho hc hdt (by simpa using q)⟩
 | .dict _,v,u,h,r=>by unfold Dat at h;exact h.elim
theorem zcT.reads(I:Inv X pins σ H s):∀{ds:List PyData} {xs:List V} {us:List Value},zcT X.K H ds xs->Vals xs us->∃as,ReadsAll s.heap us ds as
 | [],xs,us,h,r=>by unfold zcT at h;subst h;cases r;exact⟨_, .nil⟩
 | d::ds,xs,us,h,r=>by
  unfold zcT at h;obtain⟨x,rs,rfl,h1,h2⟩:=h;cases r with
  | cons ru rr =>
   obtain⟨as,q⟩:=Dat.reads I h1 ru;obtain⟨bs,q2⟩:=zcT.reads I h2 rr;exact⟨_, .cons q q2⟩
end
end
structure zgU(d:PyData):Prop where
 lay:d.canLay0=true
 deep:d.depth<=60
section
variable{X:Cx}{k:Nat}
theorem zwa{cm:Bool}(hr:zaA cm k X.A):OpR X (compareOp .Eq) (fun x y H Q=>∃d d',Dat X.K H d x/\Dat X.K H d' y/\zgU d/\zgU d'/\Q (.bl (PyData.eqv d d')) H):=by
 intro pins s σ H x y v u Q I rx ry h;obtain⟨d,d',h1,h2,o1,o2,q⟩:=h;obtain⟨as,r1⟩:=h1.reads I rx;obtain⟨bs,r2⟩:=h2.reads I ry;refine SeqAt.compareEq_reads r1 r2 o1.lay o2.lay ?_ ⟨.bl _,H,I,rfl,q⟩;have:=hr.units;have:=o1.deep;omega
theorem zvI{cm:Bool}(hr:zaA cm k X.A):OpR X (compareOp .NotEq) (fun x y H Q=>∃d d',Dat X.K H d x/\Dat X.K H d' y/\zgU d/\zgU d'/\Q (.bl (!PyData.eqv d d')) H):=by
 intro pins s σ H x y v u Q I rx ry h;obtain⟨d,d',h1,h2,o1,o2,q⟩:=h;obtain⟨as,r1⟩:=h1.reads I rx;obtain⟨bs,r2⟩:=h2.reads I ry;refine SeqAt.compareNe_reads r1 r2 o1.lay o2.lay ?_ ⟨.bl _,H,I,rfl,q⟩;have:=hr.units;have:=o1.deep;omega
end
theorem zsx(i j:List PyData):PyData.eqv (.list i) (.list j)=PyData.eqvAll i j:=by unfold PyData.eqv;rfl
theorem all_range(bs:List Bool):(List.range bs.length).all (fun i=>bs.getD i true)=bs.all id:=by
 rw[Bool.eq_iff_iff,List.all_eq_true,List.all_eq_true];constructor
 .intro h x hx;obtain⟨i,hi,e⟩:=List.mem_iff_getElem.mp hx;have:=h i (List.mem_range.mpr hi);rw[List.getD_eq_getElem?_getD,List.getElem?_eq_getElem hi] at this;rw[<- e];exact this
 .intro h i hi;have hi':=List.mem_range.mp hi;rw[List.getD_eq_getElem?_getD,List.getElem?_eq_getElem hi'];exact h _ (List.getElem_mem hi')
theorem any_range(bs:List Bool):(List.range bs.length).any (fun i=>bs.getD i true)=bs.any id:=by
 rw[Bool.eq_iff_iff,List.any_eq_true,List.any_eq_true];constructor
 .rintro⟨i,hi,h⟩;have hi':=List.mem_range.mp hi;rw[List.getD_eq_getElem?_getD,List.getElem?_eq_getElem hi'] at h;exact⟨_,List.getElem_mem hi',h⟩
 .rintro⟨x,hx,h⟩;obtain⟨i,hi,e⟩:=List.mem_iff_getElem.mp hx;refine⟨i,List.mem_range.mpr hi,?_⟩;rw[List.getD_eq_getElem?_getD,List.getElem?_eq_getElem hi,e];exact h
theorem zhV:∀{bs:List Bool} {us:List Value},Vals (bs.map V.bl) us->us=bs.map Value.bool
 | [],_, .nil=>rfl
 | _::_,_, .cons r t=>by cases r;rw[zhV t];rfl
section
variable{X:Cx}
theorem zoI(hc:X.calm=true):zL X (.builtin "all") (fun xs H Q=>∃(p:Addr) (bs:List Bool),xs=[.ref p]/\SqL X.K H p (bs.map V.bl)/\Q (.bl (bs.all id)) H):=by
 intro pins s σ H xs us Q I r h;obtain⟨p,bs,rfl,hl,q⟩:=h;obtain⟨u,rfl,rx⟩:=vals1 r;cases rx;obtain⟨its,r',pl,hz⟩:=I.list hl;have e:=zhV r';subst e;refine call_all_walk (zjs pl.isList fun s₂ e2 st hne=>?_);subst e2;refine⟨_,_,_,_,_,_,fun i=>bs.getD i true,rfl,Walks.list (A:=X.A.in1) (I.ok.hd hc) s.heap.objs.size p hne _,st,fun i v s3 Q3 E3 hP hQ=>?_,fun h' tk hk=>?_⟩
 .have hP':(bs.map Value.bool)[i]? = some v:=by simpa using hP
  rw[List.getElem?_map] at hP';cases eb:bs[i]? with
  | none=>rw[eb] at hP';cases hP'
  | some b =>
   rw[eb] at hP';cases hP';refine wpAny_truthy_bool ?_;dsimp only at hQ;rw[List.getD_eq_getElem?_getD,eb] at hQ;exact hQ
 .rw[List.size_toArray,List.length_map,all_range];refine⟨.bl _,H,I.kept (fun b o e=>hk b o (fun z=>?_) (Heap.get?_push_of_some _ e)),rfl,q⟩;rw[List.mem_singleton] at z;exact absurd (z▸Heap.lt_size e) (Nat.lt_irrefl _)
theorem zoH(hc:X.calm=true):zL X (.builtin "any") (fun xs H Q=>∃(p:Addr) (bs:List Bool),xs=[.ref p]/\SqL X.K H p (bs.map V.bl)/\Q (.bl (bs.any id)) H):=by
 intro pins s σ H xs us Q I r h;obtain⟨p,bs,rfl,hl,q⟩:=h;obtain⟨u,rfl,rx⟩:=vals1 r;cases rx;obtain⟨its,r',pl,hz⟩:=I.list hl;have e:=zhV r';subst e;refine call_any_walk (zjs pl.isList fun s₂ e2 st hne=>?_);subst e2;refine⟨_,_,_,_,_,_,fun i=>bs.getD i true,rfl,Walks.list (A:=X.A.in1) (I.ok.hd hc) s.heap.objs.size p hne _,st,fun i v s3 Q3 E3 hP hQ=>?_,fun h' tk hk=>?_⟩
 .have hP':(bs.map Value.bool)[i]? = some v:=by simpa using hP
  rw[List.getElem?_map] at hP';cases eb:bs[i]? with
  | none=>rw[eb] at hP';cases hP'
  | some b =>
   rw[eb] at hP';cases hP';refine wpAny_truthy_bool ?_;dsimp only at hQ;rw[List.getD_eq_getElem?_getD,eb] at hQ;exact hQ
 .rw[List.size_toArray,List.length_map,any_range];refine⟨.bl _,H,I.kept (fun b o e=>hk b o (fun z=>?_) (Heap.get?_push_of_some _ e)),rfl,q⟩;rw[List.mem_singleton] at z;exact absurd (z▸Heap.lt_size e) (Nat.lt_irrefl _)
end
structure WE(X:Cx)(e:Expr)(t:TE):Prop where out:PE X e t
structure WT(X:Cx)(e:Expr)(t:TT):Prop where out:PT X e t
structure WW(X:Cx)(e:Expr)(t:TT):Prop where out:PW X e t
structure WA(X:Cx)(es:List Expr)(t:TA):Prop where out:PA X es t
structure WS(X:Cx)(s:Stmt)(t:TS):Prop where out:PS X s t
structure WSs(X:Cx)(s:List Stmt)(t:TS):Prop where out:PSs X s t
structure WG(X:Cx)(e:Expr)(t:TG):Prop where out:PG X e t
structure WGs(X:Cx)(e:List Expr)(t:TGs):Prop where out:PGs X e t
structure WI(X:Cx)(tg e:Expr)(t:TI):Prop where out:PI X tg e t
structure WTs(X:Cx)(e:List Expr)(t:TT):Prop where out:PTs X e t
structure WK(X:Cx)(e:List Keyword)(t:TA):Prop where out:PK X e t
structure WO(X:Cx)(e:Option Expr)(t:TO):Prop where out:PO X e t
section
variable{X:Cx}{a b c e o:Expr}{es rest:List Expr}{ta tb tc te to:TE}{t u:TT}{pos pos' p apos cpos p2:Pos}{tA:TA}{x:Str}
theorem qv(i:Nat){x:Str}{pos:Pos}(hN:X.N[i]? = some x:=by rfl)(hv:Vis X.env.scope x:=by first | exact Or.inl rfl | exact Or.inr (Or.inl rfl) | exact Or.inr (Or.inr rfl))(hd:(x==("__debug__":Str))=false:=by decide)
  (hcd:(x==("__classdict__":Str))=false:=by decide):WE X (.Name x pos) (za3 i):=⟨zwe hN hv hd hcd⟩
theorem zc{i j pos}:WE X (.Constant (.int i) j pos) (tC (.int i)):=⟨zsD⟩
theorem zyH{b j pos}:WE X (.Constant (.bool b) j pos) (tC (.bl b)):=⟨zya⟩
theorem zmQ{x j pos}:WE X (.Constant (.str x) j pos) (tC (.str x)):=⟨zwN⟩
theorem zeb{x:Str}{v:V}{u:Value}{pos:Pos}(hg:Gl X x)(hm:X.mg x=some u)(r:RelV v u)(hd:(x==("__debug__":Str))=false:=by decide):WE X (.Name x pos) (tC v):=⟨zt4 hg hm r hd⟩
theorem znR{x:Str}{v:V}{u:Value}{pos:Pos}(hg:Gl X x)(hm:X.mg x=none)(hv:bootBuiltins x=some u)(r:RelV v u)(hn:x≠"__name__":=by decide)(hd:(x==("__debug__":Str))=false:=by decide):WE X (.Name x pos) (tC v):=⟨zul hg hm hv r hn hd⟩
theorem zW{op:Operator}{r:R2}(ho:OpR X (binaryOp op) r)(ha:WE X a ta)(hb:WE X b tb):WE X (.BinOp a op b pos) (tOp r ta tb):=⟨zyf ho ha.out hb.out⟩
theorem zdx{op:UnaryOp}{r:V->Hp->VK->Prop}(ho:UnR X (unaryOp op) r)(ha:WE X a ta):WE X (.UnaryOp op a pos) (tUn r ta):=⟨zx7 ho ha.out⟩
theorem zkM{op:CmpOp}{r:R2}(ho:OpR X (compareOp op) r)(ha:WE X a ta)(hb:WE X b tb)(hm:behindInMarks op b=false):WE X (.Compare a [op] [b] pos) (tOp r ta tb):=⟨zuj ho ha.out hb.out hm⟩
theorem zJ{op:CmpOp}{r:R2}(ho:OpR X (compareOp op) r)(ha:WE X a ta)(hb:WE X b tb)(hm:behindInMarks op b=false):WT X (.Compare a [op] [b] pos) (zhk (tOp r ta tb)):=⟨zuw ho ha.out hb.out hm⟩
theorem zqP{op op':CmpOp}{r r':R2}(ho:OpR X (compareOp op) r)(ho':OpR X (compareOp op') r')(ha:WE X a ta)(hb:WE X b tb)(hc:WE X c tc)(hm:lastMarks [op,op'] [b,c]=false:=by with_unfolding_all rfl):WE X (.Compare a [op,op'] [b,c] pos) (zhD r r' ta tb tc):=⟨zqq ho ho' ha.out hb.out hc.out hm⟩
theorem zp7{op op':CmpOp}{r r':R2}(ho:OpR X (compareOp op) r)(ho':OpR X (compareOp op') r')(ha:WE X a ta)(hb:WE X b tb)(hc:WE X c tc)(hm:lastMarks [op,op'] [b,c]=false:=by with_unfolding_all rfl):WT X (.Compare a [op,op'] [b,c] pos) (zhk (zhD r r' ta tb tc)):=⟨zsq ho ho' ha.out hb.out hc.out hm⟩
theorem zjO{t:TE}(h:WE X e t)(he:∀whole,isTrue e X.env whole=(do let v<-whole;standAt e.pos;holding [v] (truthy v)):=by intro _;rfl):WT X e (tB t):=⟨zwg h.out he⟩
theorem znE(ha:WT X a t):WW X (.BoolOp .And [a] pos) t:=⟨zsP ha.out⟩
theorem zfK(ha:WT X a t):WW X (.BoolOp .Or [a] pos) t:=⟨zxj ha.out⟩
theorem zre(ha:WT X a t)(hb:WW X (.BoolOp .And (b::rest) pos) u):WW X (.BoolOp .And (a::b::rest) pos) (zvh t u):=⟨zxe ha.out hb.out⟩
theorem zjI(ha:WT X a t)(hb:WW X (.BoolOp .Or (b::rest) pos) u):WW X (.BoolOp .Or (a::b::rest) pos) (tOr t u):=⟨zxY ha.out hb.out⟩
theorem WW.qt(h:WW X e t):WT X e t:=⟨h.out.pt⟩
theorem zj0(ha:WT X a t):WT X (.UnaryOp .Not a pos) (zvq t):=⟨zwm ha.out⟩
theorem zrZ{op}{t:TE}(h:WE X a t):WE X (.BoolOp op [a] pos) t:=⟨zwd h.out⟩
theorem zse(ha:WE X a ta)(hb:WE X (.BoolOp .And (b::rest) pos) tb):WE X (.BoolOp .And (a::b::rest) pos) (zrO ta tb):=⟨zwk ha.out hb.out⟩
theorem zxb(ha:WE X a ta):WE X (.UnaryOp .Not a pos) (zpN ta):=⟨zvc ha.out⟩
theorem zb0:WA X [] zfh:=⟨znk⟩
theorem zA(ha:WE X e te)(hr:WA X es tA)(hs:starEach (e::es) X.env=(false,eval e X.env)::starEach es X.env:=by rfl):WA X (e::es) (zdr te tA):=⟨zkL ha.out hr.out hs⟩
theorem znV(ks:List Int){es:List Expr}(h:es.map intOf=ks.map some):WA X es (zrA ks):=⟨zn7 ks h⟩
theorem zaV{x1}(h:WA X es tA):WE X (.Tuple es x1 pos) (zpw tA):=⟨zxo h.out⟩
theorem zbz(h:WA X es tA):WE X (.List es pos) (zt1 tA):=⟨zvl h.out⟩
theorem zdl{r:R2}(hr:IxR X r)(ha:WE X a ta)(hb:WE X b tb)(hs:zkH b):WE X (.Subscript a b pos) (tOp r ta tb):=⟨zyJ hr ha.out hb.out hs⟩
theorem zc9:WO X none zjU:=⟨ztZ⟩
theorem zaT(h:WE X e te):WO X (some e) (zrp te):=⟨ztk h.out⟩
theorem zcd{lo hi:Option Expr}{tl th:TO}{r:V->Option Int->Option Int->Hp->VK->Prop}(hr:SlR X r)(he:WE X e te)(hl:WO X lo tl)(hu:WO X hi th):WE X (.Subscript e (.Slice lo hi none p2) pos) (tSl r te tl th):=⟨zq8 hr he.out hl.out hu.out⟩
theorem zF{id:String}{r:List V->Hp->VK->Prop}(hc:zL X (.builtin id) r)(hg:Gl X x)(hm:X.mg x=none)(hv:bootBuiltins x=some (.builtin id))(ha:WA X (e::es) tA)(hn:x≠"__name__":=by decide)(hdb:(x==("__debug__":Str))=false:=by decide)
  (he:starEach (e::es) X.env=(false,eval e X.env)::starEach es X.env:=by rfl)(hpl:(backTo pos (starEach es X.env)).any (·.1)=false:=by rfl):WE X (.Call (.Name x p) (e::es) [] pos) (tCB r tA):=⟨zrd hc hg hm hv ha.out hn hdb he hpl⟩
theorem zbG{T:String}{r:List V->Hp->VK->Prop}(hc:zL X (.type T) r)(hg:Gl X x)(hm:X.mg x=none)(hv:bootBuiltins x=some (.type T))(ha:WA X (e::es) tA)(hn:x≠"__name__":=by decide)(hdb:(x==("__debug__":Str))=false:=by decide)
  (he:starEach (e::es) X.env=(false,eval e X.env)::starEach es X.env:=by rfl)(hpl:(backTo pos (starEach es X.env)).any (·.1)=false:=by rfl):WE X (.Call (.Name x p) (e::es) [] pos) (tCB r tA):=⟨zpv hc hg hm hv ha.out hn hdb he hpl⟩
theorem zj{CX:CXT}{j k:Nat}{ps:List Str}{sp:Sp}{E:XK}(h:Has X.prog X.w X.K X.mg X.base CX x j ps sp)(hr:zds k X.A)(ha:WA X (e::es) tA)(hj:j<=k:=by decide)(hg:Gl X x:=by rfl)(hx:zck CX X E:=by exact zlc)(hdb:(x==("__debug__":Str))=false:=by decide)
  (he:starEach (e::es) X.env=(false,eval e X.env)::starEach es X.env:=by rfl)(hpl:(backTo pos (starEach es X.env)).any (·.1)=false:=by rfl):WE X (.Call (.Name x p) (e::es) [] pos) (zlB sp [] E tA):=⟨zsc h hr ha.out hj hg hx hdb he hpl⟩
theorem zrm:WK X [] zfh:=⟨zvW⟩
theorem zg2{nm:Option Str}{kpos:Pos}{kws:List Keyword}{tk:TA}(ha:WE X e te)(hr:WK X kws tk):WK X (⟨nm,e,kpos⟩::kws) (zdr te tk):=⟨zut ha.out hr.out⟩
theorem zvH{f:Str}(he:WE X e ta)(hb:attributeBase e f X.env (eval e X.env)=eval e X.env):WE X (.Attribute e f pos) (zsM X.K ta f):=⟨zu7 he.out hb⟩
theorem zyP{name:Str}{T id:String}{r:V->List V->Hp->VK->Prop}(pa:PlainAttrs T)(slot:Slot T name id)(hty:typeOf (.builtin id)=pure (.type "method_descriptor"))(hm:MtR X id r)(ho:WE X o to)(ha:WA X (e::es) tA)
  (hbase:attributeBase o name X.env (eval o X.env)=eval o X.env:=by rfl)
  (hfew:((backTo cpos (starEach (e::es) X.env)).all (fun x=> !x.1)&&(backToKw cpos (keywordEach [] X.env)).all (fun x=>x.1.isSome)&&decide ((e::es).length+([]:List Keyword).length+(if ([]:List Keyword).isEmpty then 0 else 1) < 30))=true:=by rfl)
  (hline:(apos.endLine==cpos.line)=true:=by rfl)(hs:starEach (e::es) X.env=(false,eval e X.env)::starEach es X.env:=by rfl)(hplain:(backTo cpos (starEach es X.env)).any (·.1)=false:=by rfl) :
  WE X (.Call (.Attribute o name apos) (e::es) [] cpos) (tBM X.K T r to tA):=⟨zyD pa slot hty hm ho.out ha.out hbase hfew hline hs hplain⟩
variable{st:Stmt}{sts:List Stmt}{ts us:TS}
theorem zad:WSs X [] zpY:=⟨zts⟩
theorem zf(h1:WS X st ts)(h2:WSs X sts us):WSs X (st::sts) (ziE ts us):=⟨zrx h1.out h2.out⟩
theorem zg(h1:WS X st ts):WSs X [st] ts:=⟨zte h1.out⟩
theorem zaX:WS X st zmm:=⟨zpV⟩
theorem zaj(he:WE X e te)(hs:swapsWith e none pos.line X.env=pure false:=by rfl):WS X (.Expr e pos) (zql te):=⟨zum he.out hs⟩
theorem zac(he:WE X e te):WS X (.Return (some e) pos) (zmA te):=⟨zxi he.out⟩
theorem zaL{ba bb:List Stmt}(hc:WT X c t)(ha:WSs X ba ts)(hb:WSs X bb us):WS X (.If c ba bb pos) (ztH t ts us):=⟨zyw hc.out ha.out hb.out⟩
theorem zcl{tg iter:Expr}{body:List Stmt}{wi:TI}{g:TG}(hp:PassesOwn (model X.prog X.w) X.A X.env X.xe)(hc:X.calm=true)(hi:WI X tg iter wi)(hg:WG X tg g)(hb:WSs X body ts)
  (hs:∀x,foldedSetIterable iter X.env x=pure x:=by intro _;rfl):WS X (.For tg iter body [] pos) (zwi wi g ts):=⟨zwt hp hc hi.out hg.out hb.out hs⟩
theorem zaf{i:Nat}{x:Str}(hN:X.N.Nodup)(hi:X.N[i]? = some x)(hx:Loc X.env.scope x)(hf:X.fn x=true\/X.env.scope.names.lookup x=some .local:=by first | exact .inl rfl | exact .inr rfl | assumption):WG X (.Name x pos) (zdq i):=⟨zux hN hi hx hf⟩
theorem zcv:WGs X [] zvM:=⟨ztX⟩
theorem zZ{g:TG}{gs:TGs}(h1:WG X e g)(h2:WGs X es gs)(hs:(assignEach (e::es) X.env).map (·.2)=assign e X.env::(assignEach es X.env).map (·.2):=by rfl):WGs X (e::es) (zso g gs):=⟨zrW h1.out h2.out hs⟩
theorem zv1{k:Nat}{gs:TGs}{n:Nat}(hc:X.calm=true)(h:WGs X es gs)(hn:(assignEach es X.env).length=n:=by rfl)(hst:(assignEach es X.env).findIdx? (·.1)=none:=by rfl):WG X (.Tuple es k pos) (ztN X.K n gs):=⟨zvT hc h.out hn hst⟩
theorem zhL{i:Expr}{ti:TE}{tS:zpD}(ho:WE X o to)(hi:WE X i ti)(hs:zwu X tS)
  (ha:∀v,assign (.Subscript o i pos) X.env v=(do
    let ov<-holding [v] (eval o X.env)
    let iv<-holding [v,ov] (eval i X.env)
    standAt pos
    holding [v,ov,iv] (setItem ov iv v)
    release [v,ov,iv] []):=by intro _;rfl):WG X (.Subscript o i pos) (zkv to ti tS):=⟨zwD ho.out hi.out hs ha⟩
theorem zhe{tg:Expr}{g:TG}(he:WE X e te)(hg:WG X tg g)(hs:swapsWithSole [tg] e pos.line X.env=pure false:=by rfl)(hw:swappedStores [tg] e X.env=pure none:=by rfl)(h1:(assignEach [tg] X.env).map (·.2)=[assign tg X.env]:=by rfl):WS X (.Assign [tg] e pos) (zdh te g):=⟨zvx he.out hg.out hs hw h1⟩
theorem zj8{i:Nat}{x:Str}(hN:X.N.Nodup)(hi:X.N[i]? = some x)(hx:Loc X.env.scope x)(he:WE X e te)(hs:swapsWith e (some (.Name x pos')) pos.line X.env=pure false:=by rfl)
  (hf:X.fn x=true\/X.env.scope.names.lookup x=some .local:=by first | exact .inl rfl | exact .inr rfl | assumption):WS X (.Assign [.Name x pos'] e pos) (zdh te (zdq i)):=⟨zxx hN hi hx he.out hs hf⟩
theorem zwl{value:Expr}{tv:TE}{f:Str}(ha:WE X o ta)(hv:WE X value tv)(hs:swapsWith value (some (.Attribute o f pos')) pos.line X.env=pure false):WS X (.Assign [.Attribute o f pos'] value pos) (ztV X.K ta tv f):=⟨zwI ha.out hv.out hs⟩
theorem zbi{tg:Expr}(hg:Gl X "range")(hm:X.mg "range"=none)(ha:WA X [a] tA)(hs:starEach [a] X.env=[(false,eval a X.env)]:=by rfl):WI X tg (.Call (.Name "range" p) [a] [] pos) (zpP tA):=⟨zoN hg hm ha.out hs⟩
theorem zaK:WTs X [] zwE:=⟨zto⟩
theorem zgY(h:WT X c t):WTs X [c] t:=⟨ztY h.out⟩
theorem zb1{tg iter elt:Expr}{ifs:List Expr}{scope:Scope}{wi:TI}{g:TG}{tc:TT}{te:TE}(own free:List Str)(fr:List Nat)(S:zce X scope)(hc:X.calm=true)(hfr:fr.map (fun j=>X.N[j]?)=free.map some)(hff:∀x∈free,scope.names.lookup x=some .free)
  (hi:WI X tg iter wi)(hg:∀C s H ex,WG (zE X (own++free) scope C s H ex) tg g)(ht:∀C s H ex,WTs (zE X (own++free) scope C s H ex) ifs tc)(he:∀C s H ex,WE (zE X (own++free) scope C s H ex) elt te)
  (hs:∀x,foldedSetIterable iter X.env x=pure x:=by intro _;rfl):WE X (.ListComp elt [⟨tg,iter,ifs,0⟩] scope pos) (zl7 own fr wi g tc te) :=
 ⟨zty own free fr S hc hfr hff hi.out (fun C s H ex=>(hg C s H ex).out) (fun C s H ex=>(ht C s H ex).out) (fun C s H ex=>(he C s H ex).out) hs⟩
theorem zd5{tg iter elt:Expr}{ifs:List Expr}{scope:Scope}{wi:TI}{g:TG}{tc:TT}{te:TE}{i:Nat}{x:Str}{spos:Pos}(own free:List Str)(fr:List Nat)(hN:X.N.Nodup)(hx:X.N[i]? = some x)(hl:X.env.scope.names.lookup x=some .local)
  (S:zce X scope)(hc:X.calm=true)(hfr:fr.map (fun j=>X.N[j]?)=free.map some)(hff:∀x∈free,scope.names.lookup x=some .free)
  (hi:WI X tg iter wi)(hg:∀C s H ex,WG (zE X (own++free) scope C s H ex) tg g)(ht:∀C s H ex,WTs (zE X (own++free) scope C s H ex) ifs tc)(he:∀C s H ex,WE (zE X (own++free) scope C s H ex) elt te)
  (hsw:swapsWith (.ListComp elt [⟨tg,iter,ifs,0⟩] scope pos) (some (.Name x pos')) spos.line X.env=pure true:=by rfl)
  (hs:∀x,foldedSetIterable iter X.env x=pure x:=by intro _;rfl):WS X (.Assign [.Name x pos'] (.ListComp elt [⟨tg,iter,ifs,0⟩] scope pos) spos) (zdh (zl7 own fr wi g tc te) (zdq i)) :=
 ⟨zsO own free fr hN hx hl S hc hfr hff hi.out (fun C s H ex=>(hg C s H ex).out) (fun C s H ex=>(ht C s H ex).out) (fun C s H ex=>(he C s H ex).out) hsw hs⟩
end
section
variable{X:Cx}(K:Frag)
theorem zaN(h:X.K=K:=by rfl):IxR X (zhy K):=h▸zn4
theorem zp6(h:X.K=K:=by rfl):SlR X (zwV K):=h▸znH
theorem zwT(h:X.K=K:=by rfl):OpR X (compareOp .In) (rIn K false):=h▸zoi
theorem zo6(h:X.K=K:=by rfl):OpR X (compareOp .NotIn) (rIn K true):=h▸zj3
theorem zoF(h:X.K=K:=by rfl):zL X (.builtin "len") (fun xs H Q=>∃p ys,xs=[.ref p]/\(SqL K H p ys\/SqT K H p ys)/\Q (.int ys.length) H):=h▸zfq
theorem zhd(h:X.K=K:=by rfl):zL X (.type "list") (fun xs H Q=>∃p ys,xs=[.ref p]/\(SqL K H p ys\/SqT K H p ys)/\∀l,H l=none->Q (.ref l) (upd H l (.lst ys))):=h▸zkm
theorem zlT(h:X.K=K:=by rfl):zL X (.type "tuple") (fun xs H Q=>∃p ys,xs=[.ref p]/\((SqL K H p ys/\∀l,H l=none->Q (.ref l) (upd H l (.tup ys)))\/(SqT K H p ys/\Q (.ref p) H))):=h▸ziC
theorem zo4(hc:X.calm=true)(h:X.K=K:=by rfl):zL X (.builtin "max") (fun xs H Q=>∃p ns,xs=[.ref p]/\SqL K H p (ns.map V.int)/\ns≠[]/\∀M∈ns,(∀a∈ns,a<=M)->Q (.int M) H):=h▸zoD hc
theorem zog(hc:X.calm=true)(h:X.K=K:=by rfl):zL X (.builtin "min") (fun xs H Q=>∃p ns,xs=[.ref p]/\SqL K H p (ns.map V.int)/\ns≠[]/\∀M∈ns,(∀a∈ns,M<=a)->Q (.int M) H):=h▸zoA hc
theorem zoG(hc:X.calm=true)(h:X.K=K:=by rfl):zL X (.builtin "all") (fun xs H Q=>∃(p:Addr) (bs:List Bool),xs=[.ref p]/\SqL K H p (bs.map V.bl)/\Q (.bl (bs.all id)) H):=h▸zoI hc
theorem zpk(hc:X.calm=true)(h:X.K=K:=by rfl):zL X (.builtin "any") (fun xs H Q=>∃(p:Addr) (bs:List Bool),xs=[.ref p]/\SqL K H p (bs.map V.bl)/\Q (.bl (bs.any id)) H):=h▸zoH hc
theorem zj4(h:X.K=K:=by rfl):zL X (.builtin "isinstance") (fun xs H Q=>∃x c t b,xs=[x,c]/\zed K H x t/\(∀u,RelV c u->kitOne K t u=some b)/\Q (.bl b) H):=h▸zlu
theorem zwo{k:Nat}{cm:Bool}(hr:zaA cm k X.A)(h:X.K=K:=by rfl):OpR X (compareOp .Eq) (fun x y H Q=>∃d d',Dat K H d x/\Dat K H d' y/\zgU d/\zgU d'/\Q (.bl (PyData.eqv d d')) H):=h▸zwa hr
theorem zxB{k:Nat}{cm:Bool}(hr:zaA cm k X.A)(h:X.K=K:=by rfl):OpR X (compareOp .NotEq) (fun x y H Q=>∃d d',Dat K H d x/\Dat K H d' y/\zgU d/\zgU d'/\Q (.bl (!PyData.eqv d d')) H):=h▸zvI hr
variable{a e o:Expr}{es:List Expr}{ta te to:TE}{tA:TA}{pos pos' apos cpos:Pos}
theorem zcu{k:Nat}{gs:TGs}{n:Nat}(hc:X.calm=true)(hg:WGs X es gs)(h:X.K=K:=by rfl)(hn:(assignEach es X.env).length=n:=by rfl)(hst:(assignEach es X.env).findIdx? (·.1)=none:=by rfl):WG X (.Tuple es k pos) (ztN K n gs):=h▸zv1 hc hg hn hst
theorem zg5{f:Str}(he:WE X e ta)(h:X.K=K:=by rfl)(hb:attributeBase e f X.env (eval e X.env)=eval e X.env:=by rfl):WE X (.Attribute e f pos) (zsM K ta f):=h▸zvH he hb
theorem zc6{value:Expr}{tv:TE}{f:Str}(ha:WE X o ta)(hv:WE X value tv)(h:X.K=K:=by rfl)(hs:swapsWith value (some (.Attribute o f pos')) pos.line X.env=pure false:=by rfl):WS X (.Assign [.Attribute o f pos'] value pos) (ztV K ta tv f):=h▸zwl ha hv hs
theorem zbJ{name:Str}{T id:String}{r:V->List V->Hp->VK->Prop}(pa:PlainAttrs T)(slot:Slot T name id)(hty:typeOf (.builtin id)=pure (.type "method_descriptor"))(hm:MtR X id r)(ho:WE X o to)(ha:WA X (e::es) tA)(h:X.K=K:=by rfl)
  (hbase:attributeBase o name X.env (eval o X.env)=eval o X.env:=by rfl)
  (hfew:((backTo cpos (starEach (e::es) X.env)).all (fun x=> !x.1)&&(backToKw cpos (keywordEach [] X.env)).all (fun x=>x.1.isSome)&&decide ((e::es).length+([]:List Keyword).length+(if ([]:List Keyword).isEmpty then 0 else 1) < 30))=true:=by rfl)
  (hline:(apos.endLine==cpos.line)=true:=by rfl)(hs:starEach (e::es) X.env=(false,eval e X.env)::starEach es X.env:=by rfl)(hplain:(backTo cpos (starEach es X.env)).any (·.1)=false:=by rfl) :
  WE X (.Call (.Attribute o name apos) (e::es) [] cpos) (tBM K T r to tA):=h▸zyP pa slot hty hm ho ha hbase hfew hline hs hplain
end
def zeM:Value->Option Int
 | .int i _=>some i
 | _=>none
theorem zda{u:Value}{i:Int}(h:zeM u=some i):RelV (.int i) u:=by
 cases u<;>simp[zeM] at h
 subst h;exact⟨_,rfl⟩
def zfe:List Value->Option (List Int)
 | []=>some []
 | v::r=>match zeM v,zfe r with
  | some i,some l=>some (i::l)
  | _,_=>none
theorem zfc:∀{us:List Value} {ns:List Int},zfe us=some ns->Vals (ns.map V.int) us
 | [],ns,h=>by cases h;exact .nil
 | u::us,ns,h=>by
  unfold zfe at h;cases e1:zeM u with
  | none=>rw[e1] at h;cases h
  | some i =>
   cases e2:zfe us with
   | none=>rw[e1,e2] at h;cases h
   | some l =>
    rw[e1,e2] at h;cases h;exact .cons (zda e1) (zfc e2)
def zgZ(o:Obj):Option (List Int):=match o.cls,o.data with
 | .type "tuple", .seq its _=>if its.size<=1000 then zfe its.toList else none
 | _,_=>none
theorem zsy{K:Frag}{a:Addr}{o:Obj}{ns:List Int}(l:K.lookup a=some o)(h:zgZ o=some ns)(H:Hp):SqT K H a (ns.map V.int):=by
 unfold zgZ at h;split at h
 .rename_i its n hc hd;split at h
  .rename_i hz;exact .inr ⟨o,its,n,l,hc,hd,Nat.le_trans hz (by decide),zfc h⟩
  .cases h
 .cases h
section
variable{P:Program}{w:World}{K:Frag}{mg:Str->Option Value}{base:Heap}
theorem Fun.okq{x qual:Str}{st:Stmt}{f:Addr}{fd:FuncData}{N ps:List Str}{k:Nat}{sp:Sp}(F:Fun K x qual st f fd)(S:zG N ps (zx st))(len:∀vs H Q E,sp vs H Q E->vs.length=ps.length)
  (hbody:∀(cdv:Value) (A:Around) (outer:List Env) (s:Shared) (H:Hp) (vs:List V) (Q:VK) (E:XK),zds k (A.deeper (envOfC qual (zx st) s.heap.objs.size f cdv))->sp vs H Q E ->
   ∃t,WSs (zkT CX0 P w K mg base N qual (zx st) f cdv A outer s H E).nox (zb4 st) t/\t { nx:=fun _ H'=>Q .non H',rt:=Q } (start N vs) H):zaa P w K mg base CX0 (k+1) f fd ps sp :=
 F.ok S len fun cdv A outer s H vs Q E hr h=>by
  obtain⟨t,ht,q⟩:=hbody cdv A outer s H vs Q E hr h;exact⟨t,ht.out,q⟩
end
section
variable{X:Cx}{tg:Expr}
end
theorem zsp{x y:Str}(h:x.cps.toList=y.cps.toList):x=y:=by
 cases x;cases y;simp only[Str.mk.injEq];exact Array.toList_inj.mp h
theorem zea:∀{ys:List Str} {us:List Value},Vals (ys.map V.str) us->StrsAre us ys
 | [],_, .nil=> .nil
 | _::_,_, .cons ⟨t,rfl⟩ r=> .cons _ _ (zea r)
theorem zgu(sep:Str):∀(rest:List Str) (x:Str),(⟨rest.foldl (fun acc p=>acc++sep.cps++p.cps) x.cps⟩:Str)=Str.join sep (x::rest)
 | [],x=>rfl
 | y::r,x=>by
  have ih:=zgu sep r ⟨x.cps++sep.cps++y.cps⟩;show(⟨r.foldl (fun acc p=>acc++sep.cps++p.cps) (x.cps++sep.cps++y.cps)⟩:Str)=x++sep++Str.join sep (y::r);rw[ih];cases r with
  | nil=>rfl
  | cons z r' =>
   show(⟨x.cps++sep.cps++y.cps⟩:Str)++sep++Str.join sep (z::r')=x++sep++(y++sep++Str.join sep (z::r'));apply zsp;have e:∀a b:Str,(a++b).cps.toList=a.cps.toList++b.cps.toList:=fun a b=>by
    show(a.cps++b.cps).toList=_;simp
   simp only[e,Array.toList_append,List.append_assoc]
theorem zhb(sep:Str):∀parts,PySem.Builtin.Str.glued sep parts=Str.join sep parts
 | []=>rfl
 | x::r=>zgu sep r x
def zfv(ys:List Str):Nat:=(ys.map (·.length)).sum+ys.length
section
variable{X:Cx}(K:Frag)
theorem zqW(h:X.K=K:=by rfl):MtR X "str.join" (fun x xs H Q=>∃sep p ys,x= .str sep/\xs=[.ref p]/\(SqL K H p (ys.map V.str)\/SqT K H p (ys.map V.str))/\sep.length<=16/\zfv ys<=1048576/\Q (.str (Str.join sep ys)) H):=by
 subst h;intro pins s σ H x xs v us Q I rx r h;obtain⟨sep,p,ys,rfl,rfl,hl,h1,h2,q⟩:=h;obtain⟨t,rfl⟩:=rx;obtain⟨u,rfl,ru⟩:=vals1 r;cases ru;rcases hl with hl | hl
 .obtain⟨its,r',pl,hz⟩:=I.list hl;refine join_listW pl.isList (by simpa using zea r') h1 h2 fun t' k=>⟨.str _,H,I.tok k,⟨t',?_⟩,q⟩
  show Value.str (PySem.Builtin.Str.glued sep ys) t'=_;rw[zhb]
 .obtain⟨its,r',pl,hz⟩:=I.tuple hl;refine join_tupleW pl (by simpa using zea r') h1 h2 fun t' k=>⟨.str _,H,I.tok k,⟨t',?_⟩,q⟩
  show Value.str (PySem.Builtin.Str.glued sep ys) t'=_;rw[zhb]
end
section
variable{X:Cx}
theorem zmC:OpR X (binaryOp .Mult) (fun x y H Q=>∃c n,x= .str ⟨#[c]⟩/\y= .int n/\0<=n/\n<=1000/\∀z:Str,z.cps.toList=List.replicate n.toNat c->Q (.str z) H):=by
 intro pins s σ H x y v u Q I rx ry h;obtain⟨c,n,rfl,rfl,h0,h1,q⟩:=h;obtain⟨t,rfl⟩:=rx;obtain⟨t',rfl⟩:=ry;refine SB.mul ⟨?_,?_,?_⟩ fun t' k=>⟨.str _,H,I.tok k,⟨t',rfl⟩,q _ (mul_one_list c n)⟩
 .rw[decide_eq_false (by omega),decide_eq_false (by omega)];rfl
 .intro a _;have e:(⟨#[c]⟩:Str).length=1:=rfl;rw[e];have:1<=(2^63 - 1) / n:=Int.le_ediv_of_mul_le (by omega) (by omega);omega
 .intro a _;have e:(⟨#[c]⟩:Str).length=1:=rfl;rw[e];unfold PySem.Builtin.Str.tooLong;simp only[Nat.one_mul,decide_eq_false_iff_not];have:n.toNat<=1000:=by omega
  first
   | omega
   | (intro z;have:=Nat.lt_of_lt_of_le z this;revert this;decide)
end
theorem zdF:∀ys:List Str,(Str.join Str.empty ys).cps.toList=(ys.map fun y=>y.cps.toList).flatten
 | []=>rfl
 | [y]=>by simp[Str.join]
 | y::z::r=>by
  have ih:=zdF (z::r);show((y++Str.empty++Str.join Str.empty (z::r):Str)).cps.toList=_;have e:∀a b:Str,(a++b).cps.toList=a.cps.toList++b.cps.toList:=fun a b=>by
   show(a.cps++b.cps).toList=_;simp
  rw[e,e,ih];simp[Str.empty]
theorem zuh{x y:Str}(h:x.cps.toList=y.cps.toList):x=y:=by
 cases x;cases y;simp only[Str.mk.injEq];exact Array.toList_inj.mp h
def zh9(H:Hp)(a l:Addr):Prop:=∃(ns:List Int) (i b c:Int),H a=some (.lst [.ref l, .int i, .int b, .int c])/\H l=some (.lst (ns.map V.int))/\0<=i/\0<=b/\a≠l
def zkr:Sp:=fun vs H Q _=>∃(a l:Addr) (many:Int),vs=[.ref a, .int many]/\zh9 H a l/\0 < many/\many < 2^250/\∀v H',0<=v->v < many->zh9 H' a l->zkF a H H'->Q (.int v) H'
def zh7(K:Frag):Sp:=fun vs H Q _=>∃(a:Addr) (ns:List Int),vs=[.ref a]/\SqL K H a (ns.map V.int)/\∀(r l:Addr) (H':Hp),H r=none->H l=none->zh9 H' r l->zh3 H H'->Q (.ref r) H'
theorem zlF(x:Str):∀xs:List Str,inV (.str x) (xs.map V.str)=decide (x∈xs)
 | []=>by simp[inV]
 | y::r=>by
  have ih:=zlF x r;unfold inV at ih ⊢;rw[List.map_cons,List.any_cons,ih];show((y==x)||decide (x∈r))=decide (x∈y::r);by_cases h:y=x
  .subst h;simp
  .have h':¬ x=y:=fun e=>h e.symm
   simp[h,h']
structure Nm(x:Str):Prop where
 l1:1<=x.cps.toList.length
 l8:x.cps.toList.length<=8
 az:∀c∈x.cps.toList,97<=c/\c<=122
structure LR where
 a:Addr
 sa:Addr
 ea:Addr
 nm:Str
 S:List Str
 E:List Str
 w:Int
section
variable{κ:Addr->Nat}{H H':Hp}{s l na la:Addr}{ns ns':List Str}{ls:List LR}
end
def zdm(one:Str)(bd:List Str)(r:LR):Bool:= !decide (r.nm∈bd)&&(decide (one∈r.S)||decide (r.S.length < 6))
def zeG(two:Str)(r:LR):Bool:=decide (two∈r.E)||decide (r.E.length < 6)
def zaF(x:Str)(S:List Str):List Str:=if x∈S then S else S++[x]
inductive zrf(one two:Str)(bd:List Str)(ns:List Str)(ls:List LR)(x:Str):List Str->List LR->Prop
 | new (pa ps pe:Addr) (w:Int):x∉ns->Nm x->ls.length < 14->0<=w->w < 4->zrf one two bd ns ls x (ns++[x]) (ls++[⟨pa,ps,pe,x,[one],[two],w⟩])
 | old (i:Nat) (r:LR):ls[i]? = some r->r.nm=x->zdm one bd r=true->zeG two r=true->zrf one two bd ns ls x ns (ls.set i { r with S:=zaF one r.S,E:=zaF two r.E })
theorem zbm{x y:Str}{S:List Str}:y∈zaF x S↔y∈S\/y=x:=by
 unfold zaF;split
 .exact⟨.inl,fun h=>h.elim id (fun e=>by rw[e];assumption)⟩
 .rw[List.mem_append,List.mem_singleton]
theorem zgd{x:Str}{S:List Str}(h:S.Nodup):(zaF x S).Nodup:=by
 unfold zaF;split
 .exact h
 .rename_i c;exact List.nodup_append.mpr ⟨h,by simp,fun a ha b hb e=>by rw[List.mem_singleton.mp hb] at e;exact c (e▸ha)⟩
theorem zi5{x:Str}{S:List Str}:(zaF x S).length<=S.length+1:=by
 unfold zaF;split
 .omega
 .rw[List.length_append];exact Nat.le_refl _
theorem zjz{x:Str}{S:List Str}(h:x∈S\/S.length < 6)(h6:S.length<=6):(zaF x S).length<=6:=by
 unfold zaF;split
 .omega
 .rw[List.length_append];rcases h with h | h
  .contradiction
  .show S.length+1<=6;omega
def wide(r:LR):Nat:=max r.S.length r.E.length
def zcM(ls:List LR):Nat:=(ls.map wide).sum
structure zyx(ho ga:List Str)(r:LR):Prop where
 sn:r.S.Nodup
 en:r.E.Nodup
 s0:r.S≠[]
 e0:r.E≠[]
 s6:r.S.length<=6
 e6:r.E.length<=6
 ss:∀x∈r.S,x∈ho++ga
 es:∀x∈r.E,x∈ho++ga
 w0:0<=r.w
 w3:r.w<=3
structure zbW(ho ga ns:List Str)(ls:List LR)(h c:Nat):Prop where
 nd:(ho++ga++ls.map LR.nm).Nodup
 sub:∀x∈ho++ga++ls.map LR.nm,x∈ns
 nms:∀x∈ns,Nm x
 nsd:ns.Nodup
 ends:∀r∈ls,zyx ho ga r
 len:ls.length<=14
 hops:zcM ls<=h
 cnt:ns.length<=c+ls.length
def sig(ls:List LR):List (Str×Int):=ls.map fun r=>(r.nm,r.w)
def zcD(ns:List Str)(ls ls':List LR):Prop:=(∀r∈ls,∃r'∈ls',r'.nm=r.nm/\r'.w=r.w/\(∀x∈r.S,x∈r'.S)/\(∀x∈r.E,x∈r'.E))/\∃ext,sig ls'=sig ls++ext/\∀p∈ext,p.1∉ns
theorem zcD.refl(ns:List Str)(ls:List LR):zcD ns ls ls:=⟨fun r h=>⟨r,h,rfl,rfl,fun _ h=>h,fun _ h=>h⟩,[],by rw[List.append_nil],fun p hp=>by cases hp⟩
theorem zcD.trans{ns ns':List Str}{a b c:List LR}(x:zcD ns a b)(n:∀y∈ns,y∈ns')(y:zcD ns' b c):zcD ns a c:=⟨fun r h=>by
 obtain⟨r1,h1,e1,e2,e3,e4⟩:=x.1 r h;obtain⟨r2,h2,f1,f2,f3,f4⟩:=y.1 r1 h1;exact⟨r2,h2,f1.trans e1,f2.trans e2,fun z hz=>f3 z (e3 z hz),fun z hz=>f4 z (e4 z hz)⟩,by
 obtain⟨u,hu,hu'⟩:=x.2;obtain⟨v,hv,hv'⟩:=y.2;exact⟨u++v,by rw[hv,hu,List.append_assoc],fun p hp=>(List.mem_append.mp hp).elim (hu' p) fun z q=>hv' p z (n _ q)⟩⟩
def Joins(ls:List LR)(one x two:Str):Prop:=∃r∈ls,r.nm=x/\one∈r.S/\two∈r.E
theorem Joins.grow{ls ls':List LR}{one x two:Str}(h:Joins ls one x two){ns0:List Str}(g:zcD ns0 ls ls'):Joins ls' one x two:=by
 obtain⟨r,hr,e,h1,h2⟩:=h;obtain⟨r',hr',f1,f2,f3,f4⟩:=g.1 r hr;exact⟨r',hr',f1.trans e,f3 _ h1,f4 _ h2⟩
theorem sum_set:∀{ls:List LR} {i:Nat} {r r':LR},ls[i]? = some r->wide r'<=wide r+1->zcM (ls.set i r')<=zcM ls+1
 | [],_,_,_,h,_=>by simp at h
 | a::t,0,r,r',h,hw=>by
  cases h;unfold zcM;rw[List.set_cons_zero,List.map_cons,List.map_cons,List.sum_cons,List.sum_cons];omega
 | a::t,i+1,r,r',h,hw=>by
  have ih:=sum_set (ls:=t) (i:=i) (by simpa using h) hw;unfold zcM at ih ⊢;rw[List.set_cons_succ,List.map_cons,List.map_cons,List.sum_cons,List.sum_cons];omega
theorem zid{ls:List LR}{i:Nat}{q r':LR}(h:q∈ls.set i r'):q∈ls\/q=r':=List.mem_or_eq_of_mem_set h
theorem zt7{ho ga ns ns':List Str}{ls ls':List LR}{h c:Nat}{one two x:Str}{bd:List Str}(N:zbW ho ga ns ls h c)(h1:one∈ho++ga)(h2:two∈ho++ga)(hb:∀y∈bd,y∈ns)(R:zrf one two bd ns ls x ns' ls') :
  zbW ho ga ns' ls' (h+1) c/\zcD ns ls ls'/\Joins ls' one x two/\x∉bd/\(∀y∈ns,y∈ns')/\x∉ho++ga/\x∈ns':=by
 cases R with
 | new pa ps pe w hx nm hl w0 w4 =>
  refine⟨⟨?_,?_,?_,?_,?_,?_,?_,?_⟩,?_,?_,fun z=>hx (hb x z),fun y hy=>List.mem_append_left _ hy,fun z=>hx (N.sub x (List.mem_append_left _ z)),by simp⟩
  .rw[List.map_append,<- List.append_assoc];refine List.nodup_append.mpr ⟨N.nd,by simp,fun a ha b hb e=>?_⟩;rw[show b=x by simpa using hb] at e;exact hx (e▸N.sub a ha)
  .intro y hy;rw[List.map_append,<- List.append_assoc] at hy;rcases List.mem_append.mp hy with hy | hy
   .exact List.mem_append_left _ (N.sub y hy)
   .exact List.mem_append_right _ (by simpa using hy)
  .intro y hy;rcases List.mem_append.mp hy with hy | hy
   .exact N.nms y hy
   .rw[List.mem_singleton.mp hy];exact nm
  .exact List.nodup_append.mpr ⟨N.nsd,by simp,fun a ha b hb e=>by rw[List.mem_singleton.mp hb] at e;exact hx (e▸ha)⟩
  .intro r hr;rcases List.mem_append.mp hr with hr | hr
   .exact N.ends r hr
   .rw[List.mem_singleton.mp hr];exact⟨by simp,by simp,by simp,by simp,by simp,by simp,fun y hy=>by rw[List.mem_singleton.mp hy];exact h1,fun y hy=>by rw[List.mem_singleton.mp hy];exact h2,w0,by show w<=3;omega⟩
  .rw[List.length_append];exact hl
  .unfold zcM;rw[List.map_append,List.sum_append];have:=N.hops;unfold zcM at this;show _+(1+0)<=h+1;omega
  .rw[List.length_append,List.length_append];have:=N.cnt;show ns.length+1<=c+(ls.length+1);omega
  .exact⟨fun r hr=>⟨r,List.mem_append_left _ hr,rfl,rfl,fun _ h=>h,fun _ h=>h⟩,[(x,w)],by unfold sig;rw[List.map_append];rfl,fun p hp=>by rw[List.mem_singleton.mp hp];exact hx⟩
  .exact⟨_,List.mem_append_right _ (List.mem_singleton.mpr rfl),rfl,by simp,by simp⟩
 | old i r hi hn f1 f2 =>
  have hm:r∈ls:=List.mem_of_getElem? hi;have hlt:i < ls.length:=by
   by_cases h:i < ls.length
   .exact h
   .rw[List.getElem?_eq_none (by omega)] at hi;cases hi
  have em:(ls.set i { r with S:=zaF one r.S,E:=zaF two r.E }).map LR.nm=ls.map LR.nm:=by
   rw[List.map_set];apply List.ext_getElem?;intro j;rw[List.getElem?_set];split
   .rename_i e;subst e;rw[List.length_map,if_pos hlt,List.getElem?_map,hi];rfl
   .rfl
  have E:=N.ends r hm;unfold zdm at f1;unfold zeG at f2;simp only[Bool.and_eq_true,Bool.or_eq_true,decide_eq_true_eq,Bool.not_eq_true',decide_eq_false_iff_not] at f1 f2;have hnew:{ r with S:=zaF one r.S,E:=zaF two r.E }∈ls.set i { r with S:=zaF one r.S,E:=zaF two r.E }:=List.mem_of_getElem? (i:=i) (by rw[List.getElem?_set,if_pos rfl,if_pos hlt]);have hx:x∈ls.map LR.nm:=by rw[<- hn];exact List.mem_map.mpr ⟨r,hm,rfl⟩
  refine⟨⟨by rw[em];exact N.nd,by rw[em];exact N.sub,N.nms,N.nsd,fun q hq=>?_,by rw[List.length_set];exact N.len,?_,by rw[List.length_set];exact N.cnt⟩,?_,?_,by rw[<- hn];exact f1.1,fun y hy=>hy,fun z=>?_,N.sub x (List.mem_append_right _ hx)⟩
  .rcases zid hq with hq | rfl
   .exact N.ends q hq
   .exact⟨zgd E.sn,zgd E.en,List.ne_nil_of_mem (zbm.mpr (.inr rfl)),List.ne_nil_of_mem (zbm.mpr (.inr rfl)),zjz f1.2 E.s6,zjz f2 E.e6,
     fun y hy=>(zbm.mp hy).elim (E.ss y) (fun e=>e▸h1),fun y hy=>(zbm.mp hy).elim (E.es y) (fun e=>e▸h2),E.w0,E.w3⟩
  .have:=sum_set (r':={ r with S:=zaF one r.S,E:=zaF two r.E }) hi (by
    unfold wide;have a:=zi5 (x:=one) (S:=r.S);have b:=zi5 (x:=two) (S:=r.E);show max (zaF one r.S).length (zaF two r.E).length<=_;omega)
   have:=N.hops;omega
  .refine⟨fun q hq=>?_,[],?_,fun p hp=>by cases hp⟩;rotate_left
   .rw[List.append_nil];unfold sig;rw[List.map_set];apply List.ext_getElem?;intro j;rw[List.getElem?_set];split
    .rename_i e;subst e;rw[List.length_map,if_pos hlt,List.getElem?_map,hi];rfl
    .rfl
   by_cases e:q=r
   .subst e;exact⟨_,hnew,rfl,rfl,fun y hy=>zbm.mpr (.inl hy),fun y hy=>zbm.mpr (.inl hy)⟩
   .obtain⟨j,hj⟩:=List.mem_iff_getElem?.mp hq;have hji:i≠j:=fun z=>by subst z;rw[hi] at hj;cases hj;exact e rfl
    exact⟨q,List.mem_of_getElem? (i:=j) (by rw[List.getElem?_set,if_neg hji];exact hj),rfl,rfl,fun _ h=>h,fun _ h=>h⟩
  .exact⟨_,hnew,hn,zbm.mpr (.inr rfl),zbm.mpr (.inr rfl)⟩
  .exact(List.nodup_append.mp N.nd).2.2 x z x hx rfl
def beside(ho ga bd:List Str):Nat:=(bd.filter fun x=> !decide (x∈ho++ga)).length
theorem zeo(ho ga a b:List Str):beside ho ga (a++b)=beside ho ga a+beside ho ga b:=by unfold beside;rw[List.filter_append,List.length_append]
theorem zlJ:∀{ls:List LR},(∀r∈ls,1<=wide r)->ls.length+5*(ls.filter fun r=>decide (6<=wide r)).length<=zcM ls
 | [],_=>by simp[zcM]
 | r::t,h=>by
  have ih:=zlJ (ls:=t) fun q hq=>h q (List.mem_cons_of_mem _ hq)
  have h1:=h r List.mem_cons_self;unfold zcM at ih ⊢;rw[List.map_cons,List.sum_cons,List.filter_cons,List.length_cons];split
  .rename_i c;have:=of_decide_eq_true c;rw[List.length_cons];omega
  .omega
theorem split_len{α:Type}(p q:α->Bool):∀{ls:List α},(∀r∈ls,p r=true\/q r=true)->ls.length<=(ls.filter p).length+(ls.filter q).length
 | [],_=>by simp
 | r::t,h=>by
  have ih:=split_len p q (ls:=t) fun x hx=>h x (List.mem_cons_of_mem _ hx)
  have h1:=h r List.mem_cons_self;rw[List.filter_cons,List.filter_cons,List.length_cons];split<;>split
  .rw[List.length_cons,List.length_cons];omega
  .rw[List.length_cons];omega
  .rw[List.length_cons];omega
  .rename_i a b;rcases h1 with h1 | h1
   .exact absurd h1 a
   .exact absurd h1 b
theorem zxh{ho ga ns:List Str}{ls:List LR}{h c:Nat}(N:zbW ho ga ns ls h c)(hh:h<=47)(one two:Str){bd:List Str}(hb:beside ho ga bd<=5)(hl:ls.length=14):∃r∈ls,zdm one bd r=true/\zeG two r=true:=by
 apply Classical.byContradiction;intro no;have all:∀r∈ls,decide (r.nm∈bd)=true\/decide (6<=wide r)=true:=fun r hr=>by
  apply Classical.byContradiction;intro z;apply no;have z1:¬ r.nm∈bd:=fun y=>z (.inl (decide_eq_true y))
  have z2:¬ 6<=wide r:=fun y=>z (.inr (decide_eq_true y))
  unfold wide at z2;refine⟨r,hr,?_,?_⟩
  .unfold zdm;simp only[Bool.and_eq_true,Bool.or_eq_true,decide_eq_true_eq,Bool.not_eq_true',decide_eq_false_iff_not];exact⟨z1, .inr (by omega)⟩
  .unfold zeG;simp only[Bool.or_eq_true,decide_eq_true_eq];exact .inr (by omega)
 have a:=split_len _ _ all;have b:=zlJ (ls:=ls) fun r hr=>by
  have E:=(N.ends r hr).s0;have:=List.length_pos_iff.mpr E;unfold wide;omega
 have hs:=N.hops;have nd2:(ls.map LR.nm).Nodup:=(List.nodup_append.mp N.nd).2.1;have d:(ls.filter fun r=>decide (r.nm∈bd)).length<=beside ho ga bd:=by
  have nd3:((ls.filter fun r=>decide (r.nm∈bd)).map LR.nm).Nodup:=nd2.sublist (List.Sublist.map _ List.filter_sublist);have:=List.Nodup.length_le_of_subset (l₂:=bd.filter fun x=> !decide (x∈ho++ga)) nd3 (fun x hx=>by
   obtain⟨r,hr,rfl⟩:=List.mem_map.mp hx;obtain⟨m1,m2⟩:=List.mem_filter.mp hr;refine List.mem_filter.mpr ⟨of_decide_eq_true m2,?_⟩;rw[decide_eq_false]
   .rfl
   .exact fun z=>(List.nodup_append.mp N.nd).2.2 _ z _ (List.mem_map.mpr ⟨r,m1,rfl⟩) rfl)
  rw[List.length_map] at this;exact this
 omega
structure Way(ho ga ns:List Str)(ls:List LR)(bd:List Str)(first:Str)(k m:Nat)(wh:List Str):Prop where
 len:wh.length=2*k+1
 hd:wh[0]? = some first
 nd:wh.Nodup
 jn:∀i x y z,wh[2*i]? = some x->wh[2*i+1]? = some y->wh[2*i+2]? = some z->Joins ls x y z
 ln:∀i y,wh[2*i+1]? = some y->y∉ho++ga/\y∉bd
 gt:∀i x,2*i+2 < m->wh[2*i+2]? = some x->x∈ga/\x∉bd
 nn:∀i x,wh[2*i]? = some x->x∈ho++ga
 sub:∀y∈wh,y∈ns
 bs:beside ho ga wh<=k
theorem Way.one{ho ga ns:List Str}{ls:List LR}{bd:List Str}{first:Str}(h:first∈ho++ga)(hn:first∈ns):Way ho ga ns ls bd first 0 1 [first] where
 len:=rfl
 hd:=rfl
 nd:=by simp
 jn:=fun i x y z _ e _=>by rw[List.getElem?_eq_none (by show 1<=_;omega)] at e;cases e
 ln:=fun i y e=>by rw[List.getElem?_eq_none (by show 1<=_;omega)] at e;cases e
 gt:=fun i y hm e=>by omega
 nn:=fun i x e=>by
  have:i=0:=Classical.byContradiction fun z=>by rw[List.getElem?_eq_none (by show 1<=_;omega)] at e;cases e
  subst this;cases e;exact h
 sub:=fun y hy=>by rw[List.mem_singleton.mp hy];exact hn
 bs:=by unfold beside;rw[List.filter_cons,if_neg (by rw[decide_eq_true h];decide)];exact Nat.le_refl _
theorem Way.grow{ho ga ns ns':List Str}{ls ls':List LR}{bd:List Str}{first:Str}{k m:Nat}{wh:List Str}(W:Way ho ga ns ls bd first k m wh){ns0:List Str}(g:zcD ns0 ls ls')(n:∀y∈ns,y∈ns'):Way ho ga ns' ls' bd first k m wh :=
 ⟨W.len,W.hd,W.nd,fun i x y z a b c=>(W.jn i x y z a b c).grow g,W.ln,W.gt,W.nn,fun y hy=>n y (W.sub y hy),W.bs⟩
theorem Way.step{ho ga ns:List Str}{ls:List LR}{bd:List Str}{first:Str}{k:Nat}{wh:List Str}(W:Way ho ga ns ls bd first k (2*k+1) wh){one x two:Str}(h1:wh[2*k]? = some one)(j:Joins ls one x two)(xg:x∉ho++ga)(xb:x∉bd)(xw:x∉wh)(xn:x∈ns)
  (tw:two∉wh)(tg:two∈ho++ga)(tn:two∈ns):Way ho ga ns ls bd first (k+1) (2*k+2) (wh++[x,two])/\(two∈ga->two∉bd->Way ho ga ns ls bd first (k+1) (2*k+3) (wh++[x,two])):=by
 have hl:=W.len;have L:∀i,i < 2*k+1->(wh++[x,two])[i]? = wh[i]? := fun i hi=>List.getElem?_append_left (by omega)
 have X:(wh++[x,two])[2*k+1]? = some x:=by rw[List.getElem?_append_right (by omega),hl,Nat.sub_self];rfl
 have T:(wh++[x,two])[2*k+2]? = some two:=by rw[List.getElem?_append_right (by omega),hl,show 2*k+2 - (2*k+1)=1 by omega];rfl
 have O:∀i,2*k+3<=i->(wh++[x,two])[i]? = none:=fun i hi=>List.getElem?_eq_none (by rw[List.length_append,hl];exact hi)
 have xt:x≠two:=fun e=>xg (e▸tg)
 have base:∀m,(∀i y,2*i+2 < m->(wh++[x,two])[2*i+2]? = some y->y∈ga/\y∉bd)->Way ho ga ns ls bd first (k+1) m (wh++[x,two]):=fun m hm=>by
  refine⟨by rw[List.length_append,hl];show 2*k+1+2=_;omega,by rw[L 0 (by omega)];exact W.hd,List.nodup_append.mpr ⟨W.nd,by simp[xt],fun a ha b hb e=>?_⟩,fun i a b c ea eb ec=>?_,fun i y e=>?_,hm,fun i y e=>?_,fun y hy=>?_,?_⟩
  .subst e;rcases List.mem_cons.mp hb with e | hb
   .exact xw (e▸ha)
   .exact tw (List.mem_singleton.mp hb▸ha)
  .rcases Nat.lt_trichotomy i k with hi | hi | hi
   .rw[L _ (by omega)] at ea eb ec;exact W.jn i a b c ea eb ec
   .subst hi;rw[L _ (by omega),h1] at ea;rw[X] at eb;rw[T] at ec;cases ea;cases eb;cases ec;exact j
   .rw[O _ (by omega)] at eb;cases eb
  .rcases Nat.lt_trichotomy i k with hi | hi | hi
   .rw[L _ (by omega)] at e;exact W.ln i y e
   .subst hi;rw[X] at e;cases e;exact⟨xg,xb⟩
   .rw[O _ (by omega)] at e;cases e
  .rcases Nat.lt_trichotomy i (k+1) with hi | hi | hi
   .rw[L _ (by omega)] at e;exact W.nn i y e
   .subst hi;rw[show 2*(k+1)=2*k+2 by omega,T] at e;cases e;exact tg
   .rw[O _ (by omega)] at e;cases e
  .rcases List.mem_append.mp hy with hy | hy
   .exact W.sub y hy
   .rcases List.mem_cons.mp hy with e | hy
    .exact e▸xn
    .exact List.mem_singleton.mp hy▸tn
  .rw[zeo];have:=W.bs;have e:beside ho ga [x,two]=1:=by
    unfold beside;rw[List.filter_cons,if_pos (by rw[decide_eq_false xg];rfl),List.filter_cons,if_neg (by rw[decide_eq_true tg];decide)];rfl
   omega
 refine⟨base _ fun i y hi e=>?_,fun g b=>base _ fun i y hi e=>?_⟩
 .rw[L _ (by omega)] at e;exact W.gt i y (by omega) e
 .by_cases c:i=k
  .subst c;rw[T] at e;cases e;exact⟨g,b⟩
  .rw[L _ (by omega)] at e;exact W.gt i y (by omega) e
theorem Way.mem{ho ga ns:List Str}{ls:List LR}{bd:List Str}{first:Str}{k m:Nat}{wh:List Str}(W:Way ho ga ns ls bd first k m wh){y:Str}(hy:y∈wh)(hm:2*k+1<=m):y=first\/y∉ho++ga\/y∈ga:=by
 obtain⟨j,hj⟩:=List.mem_iff_getElem?.mp hy;have hlt:j < 2*k+1:=by
  by_cases h:j < 2*k+1
  .exact h
  .rw[List.getElem?_eq_none (by rw[W.len];omega)] at hj;cases hj
 rcases Nat.mod_two_eq_zero_or_one j with e | e
 .by_cases z:j=0
  .subst z;rw[W.hd] at hj;cases hj;exact .inl rfl
  .obtain⟨i,rfl⟩:∃i,j=2*i+2:=⟨j / 2 - 1,by omega⟩;exact .inr (.inr (W.gt i y (by omega) hj).1)
 .obtain⟨i,rfl⟩:∃i,j=2*i+1:=⟨j / 2,by omega⟩;exact .inr (.inl (W.ln i y hj).1)
theorem zew{x:Str}:∀{l:List Str},l.Nodup->l.length<=(l.filter fun y=> !decide (y=x)).length+1
 | [],_=>by simp
 | y::t,h=>by
  obtain⟨h1,h2⟩:=List.nodup_cons.mp h;rw[List.filter_cons,List.length_cons];by_cases e:y=x
  .subst e;rw[if_neg (by simp),List.filter_eq_self.mpr (fun z hz=>by
    rw[decide_eq_false]
    .rfl
    .exact fun q=>h1 (q▸hz))]
   exact Nat.le_refl _
  .rw[if_pos (by rw[decide_eq_false e];rfl),List.length_cons];have:=zew (x:=x) h2;omega
theorem zbW.nd2{ho ga ns:List Str}{ls:List LR}{h c:Nat}(N:zbW ho ga ns ls h c){x:Str}(a:x∈ho)(b:x∈ga):False :=
 (List.nodup_append.mp (List.nodup_append.mp N.nd).1).2.2 x a x b rfl
theorem zbW.more{ho ga ns:List Str}{ls:List LR}{h h' c:Nat}(N:zbW ho ga ns ls h c)(l:h<=h'):zbW ho ga ns ls h' c:=⟨N.nd,N.sub,N.nms,N.nsd,N.ends,N.len,Nat.le_trans N.hops l,N.cnt⟩
def zaH(ls:List LR)(way:List Str)(lo sl:Int):Int:=ls.foldl (fun m r=>if r.nm∈way then m+lo+r.w+sl else m) 0
def zeh(ls:List LR)(ways:List (List Str))(lo sl:Int):Int:=ways.foldl (fun m way=>if zaH ls way lo sl > m then zaH ls way lo sl else m) 0
structure RW where
 nm:Str
 ways:List (List Str)
 e:Int
 lo:Int
 re:Int
 lst:Int
def inner(w:List Str):List Str:=(w.drop 1).take (w.length - 2)
theorem zpC{w:List Str}{x:Str}(h:x∈inner w):x∈w:=List.mem_of_mem_drop (List.mem_of_mem_take h)
theorem zja(w:List Str):(inner w).length<=w.length:=by unfold inner;rw[List.length_take,List.length_drop];omega
theorem zkk(ho ga w:List Str):beside ho ga (inner w)<=beside ho ga w:=by
 unfold beside inner;exact(((List.take_sublist _ _).trans (List.drop_sublist _ _)).filter _).length_le
theorem zbW.named{ho ga ns:List Str}{ls:List LR}{h c:Nat}{x:Str}(N:zbW ho ga ns ls h c)(hx:x∉ns)(nm:Nm x):zbW ho ga (ns++[x]) ls h (c+1) where
 nd:=N.nd
 sub:=fun y hy=>List.mem_append_left _ (N.sub y hy)
 nms:=fun y hy=>(List.mem_append.mp hy).elim (N.nms y) fun z=>List.mem_singleton.mp z▸nm
 nsd:=List.nodup_append.mpr ⟨N.nsd,by simp,fun a ha b hb e=>by rw[List.mem_singleton.mp hb] at e;exact hx (e▸ha)⟩
 ends:=N.ends
 len:=N.len
 hops:=N.hops
 cnt:=by rw[List.length_append];have:=N.cnt;show ns.length+1<=_;omega
def zg0:List Int:=[12,8,20,24,10,30,15,40,60,12,120]
structure zex(ho ga ns:List Str)(ls:List LR)(sl:Int)(r:RW):Prop where
 nmn:r.nm∈ns
 nmo:r.nm∉ho++ga++ls.map LR.nm
 way:∃first last w1 k1,first∈ho/\last∈ho/\first≠last/\1<=k1/\k1<=3/\Way ho ga ns ls [] first k1 (2*k1) w1/\w1[2*k1]? = some last/\(r.ways=[w1]\/∃w2 k2,r.ways=[w1,w2]/\1<=k2/\k2<=3/\Way ho ga ns ls (inner w1) first k2 (2*k2) w2/\w2[2*k2]? = some last)
 ev:r.e∈zg0
 l1:1<=r.lo
 l4:r.lo<=4
 le:r.lo+sl<=r.e
 r0:0<=r.re
 re:r.re < r.e
 lst:∃spare,r.lst=zeh ls r.ways r.lo sl+spare/\spare∈[0,1,2,r.e / 2,3,r.e - 1,6]
theorem ziU(ls:List LR):ls.map LR.nm=(sig ls).map Prod.fst:=by unfold sig;rw[List.map_map];rfl
theorem zgv(ls:List LR)(way:List Str)(lo sl:Int):zaH ls way lo sl=(sig ls).foldl (fun m r=>if r.1∈way then m+lo+r.2+sl else m) 0:=by
 unfold zaH sig;rw[List.foldl_map]
theorem zhC{way:List Str}{lo sl:Int}:∀{ext:List (Str×Int)} (m:Int),(∀p∈ext,p.1∉way)->ext.foldl (fun m r=>if r.1∈way then m+lo+r.2+sl else m) m=m
 | [],_,_=>rfl
 | p::t,m,h=>by
  rw[List.foldl_cons,if_neg (h p List.mem_cons_self)];exact zhC m fun q hq=>h q (List.mem_cons_of_mem _ hq)
theorem zjS{ns:List Str}{ls ls':List LR}{way:List Str}{lo sl:Int}(g:zcD ns ls ls')(h:∀y∈way,y∈ns):zaH ls' way lo sl=zaH ls way lo sl:=by
 obtain⟨_,ext,e,hn⟩:=g;rw[zgv,zgv,e,List.foldl_append];exact zhC _ fun p hp z=>hn p hp (h _ z)
theorem znd{ns:List Str}{ls ls':List LR}{lo sl:Int}(g:zcD ns ls ls'):∀{ways:List (List Str)},(∀way∈ways,∀y∈way,y∈ns)->zeh ls' ways lo sl=zeh ls ways lo sl:=by
 intro ways;unfold zeh;generalize (0:Int)=m
 induction ways generalizing m with
 | nil=>intro _;rfl
 | cons w t ih =>
  intro h;rw[List.foldl_cons,List.foldl_cons,zjS g (h w List.mem_cons_self)];exact ih _ fun v hv=>h v (List.mem_cons_of_mem _ hv)
theorem zex.sub{ho ga ns:List Str}{ls:List LR}{sl:Int}{r:RW}(R:zex ho ga ns ls sl r):∀way∈r.ways,∀y∈way,y∈ns:=by
 obtain⟨first,last,w1,k1,_,_,_,_,_,Y,_,h⟩:=R.way;intro way hw;rcases h with e | ⟨w2,k2,e,_,_,Y2,_⟩
 .rw[e] at hw;rw[List.mem_singleton.mp hw];exact Y.sub
 .rw[e] at hw;rcases List.mem_cons.mp hw with rfl | hw
  .exact Y.sub
  .rw[List.mem_singleton.mp hw];exact Y2.sub
theorem zex.grow{ho ga ns ns':List Str}{ls ls':List LR}{sl:Int}{r:RW}(R:zex ho ga ns ls sl r)(g:zcD ns ls ls')(n:∀y∈ns,y∈ns'):zex ho ga ns' ls' sl r where
 nmn:=n _ R.nmn
 nmo:=fun z=>by
  obtain⟨_,ext,e,hn⟩:=g;rw[ziU,e,List.map_append,<- ziU,<- List.append_assoc] at z;rcases List.mem_append.mp z with z | z
  .exact R.nmo z
  .obtain⟨p,hp,ep⟩:=List.mem_map.mp z;exact hn p hp (ep▸R.nmn)
 way:=by
  obtain⟨first,last,w1,k1,a1,a2,a3,a4,a5,Y,a6,h⟩:=R.way;refine⟨first,last,w1,k1,a1,a2,a3,a4,a5,Y.grow g n,a6,?_⟩;rcases h with e | ⟨w2,k2,e,b1,b2,Y2,b3⟩
  .exact .inl e
  .exact .inr ⟨w2,k2,e,b1,b2,Y2.grow g n,b3⟩
 ev:=R.ev
 l1:=R.l1
 l4:=R.l4
 le:=R.le
 r0:=R.r0
 re:=R.re
 lst:=by
  obtain⟨sp,e,h⟩:=R.lst;exact⟨sp,by rw[znd g R.sub];exact e,h⟩
theorem zrb{xs:List Str}{i j:Nat}{x:Str}(nd:xs.Nodup)(h1:xs[i]? = some x)(h2:xs[j]? = some x):i=j:=by
 have hi:i < xs.length:=by
  by_cases h:i < xs.length
  .exact h
  .rw[List.getElem?_eq_none (by omega)] at h1;cases h1
 exact(List.getElem?_inj hi nd).mp (h1.trans h2.symm)
def zcw(σ:List Str)(v:Str):List Str:=if σ.any (·== v)=true then σ else σ++[v]
def zcP(val:Nat->Str)(i:Nat):List Str:=((List.range i).map val).foldl zcw []
theorem zox(val:Nat->Str):zcP val 0=[]:=rfl
theorem zfR(val:Nat->Str)(i:Nat):zcP val (i+1)=zcw (zcP val i) (val i):=by
 unfold zcP;rw[List.range_succ,List.map_append,List.foldl_append];rfl
theorem zi6(σ:List Str)(v:Str):(zcw σ v).length=if σ.any (·== v)=true then σ.length else σ.length+1:=by
 unfold zcw;split<;>simp
theorem zge(val:Nat->Str):∀i,(zcP val i).length<=i
 | 0=>by rw[zox];exact Nat.le_refl _
 | i+1=>by
  rw[zfR,zi6];have ih:=zge val i;split<;>omega
theorem zpp(σ:List Str)(v k:Str):(zcw σ v).any (·== k)=(σ.any (·== k)||decide (k=v)):=by
 unfold zcw;by_cases h:σ.any (·== v)=true
 .rw[if_pos h];by_cases e:k=v
  .subst e;rw[h];simp
  .simp[e]
 .rw[if_neg h,List.any_append];by_cases e:k=v
  .subst e;simp
  .have hb:(v==k)=false:=by simpa [beq_iff_eq] using (fun h':v=k=>e h'.symm)
   simp[hb,e]
theorem znS{σ:List Str}{v:Str}:σ.any (·== v)=true↔v∈σ:=by
 rw[List.any_eq_true];exact⟨fun⟨x,hx,e⟩=>by rw[beq_iff_eq] at e;exact e▸hx,fun h=>⟨v,h,by simp⟩⟩
theorem zhE:∀(ys acc:List Str),acc.Nodup->((ys.foldl zcw acc).length=acc.length+ys.length↔(acc++ys).Nodup)/\(ys.foldl zcw acc).length<=acc.length+ys.length
 | [],acc,h=>by simp[h]
 | y::t,acc,h=>by
  rw[List.foldl_cons];by_cases c:y∈acc
  .have e:zcw acc y=acc:=by unfold zcw;rw[if_pos (znS.mpr c)]
   rw[e];obtain⟨_,ih⟩:=zhE t acc h;refine⟨⟨fun z=>?_,fun z=>?_⟩,?_⟩
   .rw[List.length_cons] at z;omega
   .exact absurd rfl ((List.nodup_append.mp z).2.2 y c y List.mem_cons_self)
   .rw[List.length_cons];omega
  .have e:zcw acc y=acc++[y]:=by unfold zcw;rw[if_neg (fun z=>c (znS.mp z))]
   have h':(acc++[y]).Nodup:=List.nodup_append.mpr ⟨h,by simp,fun a ha b hb q=>by rw[List.mem_singleton.mp hb] at q;exact c (q▸ha)⟩;obtain⟨ih1,ih2⟩:=zhE t (acc++[y]) h';rw[e];rw[List.length_append,List.append_assoc] at ih1;rw[List.length_append] at ih2;rw[List.length_cons];have l1:([y]:List Str).length=1:=rfl;rw[l1] at ih1 ih2;refine⟨⟨fun z=>ih1.mp (by omega),fun z=>?_⟩,by omega⟩;have:=ih1.mpr z;omega
def zjt(ys:List Str):Nat:=(ys.foldl zcw []).length
theorem zlK{ys:List Str}(h:ys.Nodup):zjt ys=ys.length:=by
 have:=(zhE ys [] (by simp)).1.mpr (by simpa using h);unfold zjt;simpa using this
theorem zpM(ys:List Str):zcP (fun i=>ys.getD i Str.empty) ys.length=ys.foldl zcw []:=by
 unfold zcP;congr 1
 apply List.ext_getElem?;intro i;rw[List.getElem?_map];by_cases h:i < ys.length
 .rw[List.getElem?_range h,List.getElem?_eq_getElem h];show some (ys.getD i Str.empty)=_;rw[List.getD_eq_getElem?_getD,List.getElem?_eq_getElem h];rfl
 .rw[List.getElem?_eq_none (by rw[List.length_range];omega),List.getElem?_eq_none (by omega)];rfl
theorem StrsAre.str_at:∀{vs:List Value} {ns:List Str},StrsAre vs ns->∀(i:Nat) (v:Value),vs[i]? = some v->∃t,v= .str (ns.getD i Str.empty) t
 | _,_, .nil,i,v,h=>by simp at h
 | _,_, .cons n t hr,0,v,h=>by simp at h;exact⟨t,by rw[<- h];rfl⟩
 | _,_, .cons n t hr,i+1,v,h=>by
  simp only[List.getElem?_cons_succ] at h;obtain⟨t',e⟩:=StrsAre.str_at hr i v h;exact⟨t',by rw[e];rfl⟩
section
variable{prog:Program}{w:World}{A:Around}{R:Result->Shared->Prop}{I:Addr}{fp wr:List Addr}{G:Array GenState->Array GenState->Prop}{n:Nat}{P:Nat->Value->Prop}{St:Nat->Shared->Prop}
theorem zom(W:WalksS prog w A.in1 I fp wr G n P St)(S:Addr)(hSf:S∉fp)
  (val:Nat->Str)(hval:∀i v,P i v->∃t,v= .str (val i) t)(hb:n+1 < scanBound) :
  ∀(k i:Nat) (s:Shared),n - i=k->i<=n->St i s ->
   s.heap.SetOf (strKind prog w) S (fun k'=>(zcP val i).any (·== k')) (zcP val i).length ->
   (∀s',Moved (S::wr) G s s'->s'.heap.SetOf (strKind prog w) S (fun k'=>(zcP val n).any (·== k')) (zcP val n).length->R (.ok (.ret .none)) s') ->
   codeAny (model prog w) A (.builtin "set.update.loop" ⟨[.ref S, .ref I],[]⟩) R s:=by
 have hSw:S∉wr:=fun h=>hSf (W.sub _ h)
 have hsub:∀b∈wr,b∈S::wr:=fun b hb=>List.mem_cons_of_mem _ hb
 intro k;induction k with
 | zero =>
  intro i s hk hi hst hS hR;have hin:i=n:=by omega
  subst hin;refine codeAny_builtin PyProof.Rows.F.entry_set_update_loop ?_;rw[Around.under_plainId PyProof.Rows.F.plain_set_update_loop _];show wpAny _ A.in1 (pyNext (.ref I) >>= _) _ _ s;refine wpAny_bind (W.done s _ _ hst fun s' hm=>?_);show wpAny _ A.in1 (ret Value.none) _ _ s';exact wpAny_pure (hR s' (hm.mono hsub) (by
   obtain⟨o,es,ep,t,ho,rest⟩:=hS;exact⟨o,es,ep,t,hm.heap S _ hSw ho,rest⟩))
 | succ k ih =>
  intro i s hk hi hst hS hR;have hlt:i < n:=by omega
  refine codeAny_builtin PyProof.Rows.F.entry_set_update_loop ?_;rw[Around.under_plainId PyProof.Rows.F.plain_set_update_loop _];show wpAny _ A.in1 (pyNext (.ref I) >>= _) _ _ s;refine wpAny_bind (W.item i s _ _ hlt hst fun v s' hP hst' hm=>?_);obtain⟨t,rfl⟩:=hval i v hP;have hS':s'.heap.SetOf (strKind prog w) S (fun k'=>(zcP val i).any (·== k')) (zcP val i).length:=by
   obtain⟨o,es,ep,tb,ho,rest⟩:=hS;exact⟨o,es,ep,tb,hm.heap S _ hSw ho,rest⟩
  show wpAny _ A.in1 (holding [Value.str (val i) t] (setAdd S (.str (val i) t)) >>= _) _ _ s';refine wpAny_bind (wpAny_holding ?_);unfold setAdd;refine wpAny_holding ?_;refine wpAny_bind ((strKind prog w).pyHash (k:=val i) (strKind_is _ _ _ _) ?_);have hroom:(zcP val i).length+1 < scanBound:=by have:=zge val i;omega
  refine wpAny_setAddHashed_of (knd:=strKind prog w) (s:={ s' with toks:=s'.toks+1 }) (strKind_is _ _ _ _) rfl hS' hroom fun h' hsb hS2=>?_
  have hSi:h'.SetOf (strKind prog w) S (fun k'=>(zcP val (i+1)).any (·== k')) (zcP val (i+1)).length :=
   SetOf_congr hS2 (fun k'=>by rw[zfR,zpp]) (by rw[zfR,zi6])
  refine wpAny_pure ⟨plainId_quiet PyProof.Rows.F.plain_set_update_loop _,ih (i+1) _ (by omega) hlt (W.frame _ s' _ _ hst' (Nat.le_succ _) fun b hb o e=>?_) hSi fun s'' hm'' hS''=>?_⟩
  .rw[hsb.2 b (fun h:b=S=>hSf (by rw[<- h];exact hb))];exact e
  .refine hR s'' (Moved.trans W.gtrans ((hm.mono hsub).then_heap (Nat.le_succ _) fun b o hb e=>?_) hm'') hS'';rw[hsb.2 b (fun h:b=S=>hb (by rw[h];exact List.mem_cons_self))];exact e
end
end L2
namespace PySem
open PyProof.Rows
theorem zh6:isSubtype (.type "tuple") (.type "set")=pure false:=by rw[isSubtype_type];kernel_rfl
theorem zdD:isSubtype (.type "tuple") (.type "frozenset")=pure false:=by rw[isSubtype_type];kernel_rfl
section
variable{prog:Program}{w:World}{A:Around}{E:Value->Shared->Prop}{s:Shared}
set_option maxHeartbeats 3200000 in
theorem zgT{l:Addr}{items:Array Value}{ns:List Str}{Q:Value->Shared->Prop}
  (hh:A.handled=none)(hl:s.heap.IsTuple l items)(hi:PyProof.Rows.StrsAre items.toList ns)(hb:items.size+1 < scanBound)
  (h:∀(h':Heap) (tk:Nat),h'.SetOf (strKind prog w) s.heap.objs.size (fun k'=>(L2.zcP (fun i=>ns.getD i Str.empty) items.size).any (·== k')) (L2.zcP (fun i=>ns.getD i Str.empty) items.size).length ->
   (∀b o,b < s.heap.objs.size->s.heap.get? b=some o->h'.get? b=some o)->Q (.ref s.heap.objs.size) { s with heap:=h',toks:=tk }) :
  wpAny (model prog w) A (call (.type "set") [.ref l]) Q E s:=by
 obtain⟨c,tl,hmro⟩:=F.called_set.mro;have hmade:=F.called_set.made;have hsub:=F.called_set.sub;refine wpAny_call (codeAny_of_tree ?_);show wpAny _ _ (callAny (.type "set") _) _ _ _;refine wpAny_pure ⟨Code.quiet_builtin _ (by decide+kernel),codeAny_builtin F.entry_type_call ?_⟩;rw[Around.under_plain (weight_type_call_type "set" [.ref l] []) rfl];have h1:=F.called_set.notType;have h2:=F.called_set.canCreate;have hct:=F.typeCall_set_1 (.ref l);repeat (any_goals (first | assumption | wp_step))
 refine codeAny_mono (code_set_new_1 (.ref l) (E:=E) (Q₁:=fun obj s₁=>∃led:Bool,obj= .ref s.heap.objs.size/\s₁={ s with heap:=s.heap.push { cls:= .type "set",dict:=none,data:= .set #[] 0 (.fresh 0 0 led) } }) fun led=>⟨led,rfl,rfl⟩) fun r s₁ hr=>?_
 cases r with
 | error e=>exact hr
 | ok fl =>
  cases fl with
  | ret obj =>
   obtain⟨led,rfl,rfl⟩:=hr;have hS:(s.heap.push { cls:= .type "set",dict:=none,data:= .set #[] 0 (.fresh 0 0 led) }).get? s.heap.objs.size=some { cls:= .type "set",dict:=none,data:= .set #[] 0 (.fresh 0 0 led) }:=Heap.get?_push_size _ rfl;have hT:Shared.TypeIs { s with heap:=s.heap.push { cls:= .type "set",dict:=none,data:= .set #[] 0 (.fresh 0 0 led) } } (.ref s.heap.objs.size) "set":=⟨_,hS,rfl⟩;have hli:=F.called_set.init.lookup;have hbi:=F.called_set.init.bind (.ref s.heap.objs.size);repeat (any_goals (first | assumption | wp_step))
   refine codeAny_mono (codeAny_call_builtin (R:=wants (fun r s₂=>r= .none/\∃h' tk,s₂={ s with heap:=h',toks:=tk } /\
     h'.SetOf (strKind prog w) s.heap.objs.size (fun k'=>(L2.zcP (fun i=>ns.getD i Str.empty) items.size).any (·== k')) (L2.zcP (fun i=>ns.getD i Str.empty) items.size).length /\
     (∀b o,b < s.heap.objs.size->s.heap.get? b=some o->h'.get? b=some o)) E) F.called_set.init.plain F.entry_set_init (check_set_init_1 hT ?_)) fun r₂ s₂ hr₂=>?_
   .have hl1:(s.heap.push { cls:= .type "set",dict:=none,data:= .set #[] 0 (.fresh 0 0 led) }).IsTuple l items:=hl.push _;obtain⟨ol,hol,hcl,nl,hdl⟩:=id hl;obtain⟨ocls,odict,odata,oslots⟩:=ol;simp only at hcl hdl;subst hcl;subst hdl;have hol':(s.heap.push { cls:= .type "set",dict:=none,data:= .set #[] 0 (.fresh 0 0 led) }).get? l=some { cls:= .type "tuple",dict:=odict,data:= .seq items nl,slots:=oslots }:=Heap.get?_push_of_some _ hol;have hsls:=zh6;have hslf:=zdD;have hne:(Value.type "tuple"==Value.type "dict")=false:=by decide
    unfold Builtin.«set.__init__» noKeywords Builtin.Frozenset.updateFrom;generalize hPI:pyIter=PI
    wp_walk
    subst hPI;refine wpAny_pyIter_tuple hl1 ?_;refine wpAny_bind (wpAny_runValue ?_);have hlS:l < s.heap.objs.size:=Heap.lt_size hol;have hh3:A.in1.in1.in1.handled=none:=by simp[hh]
    have hneI:l≠(s.heap.push { cls:= .type "set",dict:=none,data:= .set #[] 0 (.fresh 0 0 led) }).objs.size:=by
     rw[Heap.size_push];exact Nat.ne_of_lt (Nat.lt_succ_of_lt hlS)
    have hSf:s.heap.objs.size∉[(s.heap.push { cls:= .type "set",dict:=none,data:= .set #[] 0 (.fresh 0 0 led) }).objs.size,l]:=by
     rw[Heap.size_push];simp only[List.mem_cons,List.mem_singleton,List.not_mem_nil,or_false,not_or];exact⟨Nat.ne_of_lt (Nat.lt_succ_self _),Nat.ne_of_gt hlS⟩
    have hval:∀(i:Nat) (v:Value),items[i]? = some v->∃t,v= .str ((fun i=>ns.getD i Str.empty) i) t:=fun i v hv =>
     L2.StrsAre.str_at hi i v (by rw[Array.getElem?_toList];exact hv)
    refine L2.zom ((Walks.tuple hh3 _ l hneI items).toS) s.heap.objs.size
     hSf (fun i=>ns.getD i Str.empty) hval hb (items.size - 0) 0 _ (by omega) (Nat.zero_le _)
     ⟨⟨_,Heap.get?_push_size _ rfl,rfl,rfl⟩,(hl1.push _)⟩ ?hS0 ?hR
    case hS0 =>
     have hget:((s.heap.push { cls:= .type "set",dict:=none,data:= .set #[] 0 (.fresh 0 0 led) }).push { cls:= .type "tuple_iterator",data:= .fields #[.ref l, .int 0 0] }).get? s.heap.objs.size
       = some { cls:= .type "set",dict:=none,data:= .set #[] 0 (.fresh 0 0 led) }:=Heap.get?_push_of_some _ hS
     exact PyProof.Rows.SetOf_congr ((PyProof.Rows.setObjOf_fresh (knd:=strKind prog w) led).setOf hget (by unfold scanBound;omega)) (fun _=>rfl) rfl
    case hR =>
     intro s' hm hS';obtain⟨h',g',d',tk',os'⟩:=s';have eg:g'=s.gens:=hm.gens;have ed:d'=s.drawn:=hm.drawn;have eo:os'=s.os:=hm.os;subst eg;subst ed;subst eo;show wpAny _ _ _ _ _ _;refine wpAny_pure ?_;show wpAny _ _ (ret Value.none) _ _ _;refine wpAny_pure ⟨rfl,h',tk',rfl,hS',fun b o hb e=>?_⟩;have hb1:b≠s.heap.objs.size:=Nat.ne_of_lt hb;have hb2:b≠(s.heap.push { cls:= .type "set",dict:=none,data:= .set #[] 0 (.fresh 0 0 led) }).objs.size:=by
      rw[Heap.size_push];exact Nat.ne_of_lt (Nat.lt_succ_of_lt hb)
     exact hm.heap b o (by simp only[List.mem_cons,List.mem_singleton,List.not_mem_nil,or_false,not_or];exact⟨hb1,hb2⟩) (Heap.get?_push_of_some _ (Heap.get?_push_of_some _ e))
   .cases r₂ with
    | error e=>exact hr₂
    | ok fl₂ =>
     cases fl₂ with
     | ret r =>
      obtain⟨rfl,h',tk,rfl,hS',hk'⟩:=hr₂;repeat (any_goals (first | assumption | wp_step))
      exact h _ _ hS' hk'
     | _=>exact hr₂.elim
  | _=>exact hr.elim
end
end PySem
namespace L2
open PySem PySem.Spec PyProof.Rows
def zpg(P:Program)(w:World)(a:Addr)(ys:List Str):HO:= .ext fun h=>∃S,h.SetOf (strKind P w) a S (zjt ys)
section
variable{X:Cx}(K:Frag)
theorem zoW(hc:X.calm=true)(h:X.K=K:=by rfl):zL X (.type "set") (fun xs H Q=>∃p ys,xs=[.ref p]/\SqT K H p (ys.map V.str)/\ys.length<=100/\∀a,H a=none->Q (.ref a) (upd H a (zpg X.prog X.w a ys))):=by
 subst h;intro pins s σ H xs us Q I r h;obtain⟨p,ys,rfl,hl,hz,q⟩:=h;obtain⟨u,rfl,rx⟩:=vals1 r;cases rx;obtain⟨its,r',pl,_⟩:=I.tuple hl;have hlen:its.toArray.size=ys.length:=by rw[List.size_toArray,<- r'.length,List.length_map]
 refine zgT (I.ok.hd hc) (show s.heap.IsTuple p its.toArray from pl) (by simpa using zea r') (by rw[hlen];unfold scanBound;omega) fun h' tk hS hk=>?_
 rw[hlen,zpM] at hS;have hk':∀b u,s.heap.get? b=some u->h'.get? b=some u:=fun b u e=>hk b u (Heap.lt_size e) e
 refine⟨.ref s.heap.objs.size,_,I.laid (o:=zpg X.prog X.w s.heap.objs.size ys) hk' (Nat.le_refl _) ?_,rfl,q _ (I.hok.fresh (Nat.le_refl _))⟩;refine⟨⟨_,hS⟩,?_,fun h1 h2 ⟨S,o,es,ep,t,e,r⟩ k=>⟨S,o,es,ep,t,k o e,r⟩⟩;obtain⟨o,_,_,_,e,_⟩:=hS;exact⟨o,e⟩
theorem zpq:zL X (.builtin "len") (fun xs H Q=>∃a ys,xs=[.ref a]/\H a=some (zpg X.prog X.w a ys)/\Q (.int (zjt ys:Nat)) H):=by
 intro pins s σ H xs us Q I r h;obtain⟨a,ys,rfl,ha,q⟩:=h;obtain⟨u,rfl,rx⟩:=vals1 r;cases rx;obtain⟨⟨S,o,es,ep,t,ho,hex,hd,_,_,hsb,hf,hn⟩,_,_⟩:=(show zai X.prog X.w H s.heap a (zpg X.prog X.w a ys) from I.hok a _ ha);have hb:(es.size:Int) < 2^63:=by unfold scanBound at hsb;omega
 refine call_len_set ho hex hd hf hb ⟨.int _,H,I.tok _,⟨_,rfl⟩,?_⟩;rw[hn];exact q
end
def Its(x:Str):It:=⟨fun i _=>i < x.cps.size,fun i H v H'=>H'=H/\∃c,x.cps.toList[i]? = some c/\v= .str ⟨#[c]⟩,fun i _=>x.cps.size<=i⟩
theorem zqC{P:Program}{w:World}{K:Frag}{tg:Expr}(it:Addr)(x:Str)(t:Tok):Turn P w K tg (Its x) [it] it (fun i h=>h.IsStrIter it "str_ascii_iterator" x t i) where
 mem:=by simp
 obj:=fun i h st b hb=>by
  have e:b=it:=by simpa using hb
  subst e;obtain⟨o,e,c,d⟩:=st;exact⟨o,e,fun v z=>by rw[d] at z;cases z⟩
 keep:=fun i h h' st k=>let ⟨o,ho,r⟩:=st;⟨o,k it (by simp) o ho,r⟩
 item:=by
  intro X hP hw hK hc i pins s σ H E I hf st hg;subst hP hw hK;obtain⟨f0,f1,f2,f3,f4,f5⟩:=hf it (by simp);have W:=Walks.strAscii (prog:=X.prog) (w:=X.w) (I.ok.hd hc) it x t;refine W.item i s _ _ hg st fun v h' tk hv st' kk=>?_
  obtain⟨c,u,hcu,rfl⟩:=hv;have I1:Inv X pins σ H { s with heap:=h',toks:=tk }:=I.turned (fun b o hb e=>kk b o (by simpa using hb) e) f0 f1 f3 f4 f5;obtain⟨o,e,c',d⟩:=id st';exact⟨_,rfl,zlY (s:={ s with heap:=h',toks:=tk }) e c' d (by decide) ⟨.str ⟨#[c]⟩,H,I1,⟨u,rfl⟩,⟨rfl,c,by rw[Array.getElem?_toList];exact hcu,rfl⟩,st',fun b hb=>(hf b hb).1⟩⟩
 done:=by
  intro X hP hw hK hc i pins s σ H E I hf st hg;subst hP hw hK;obtain⟨f0,f1,f2,f3,f4,f5⟩:=hf it (by simp);exact wpAny_pyNext_ascii_end (I.ok.hd hc) st (Array.getElem?_eq_none hg) fun h' eb=>⟨rfl,I.turned (t':=s.toks) (fun b o hb e=>eb b o hb e) f0 f1 f3 f4 f5⟩
 self:=fun _ _ _ _ _ st h=>wpAny_pyIter_striter_ascii st h
section
variable{X:Cx}{tg:Expr}
end
section
variable{X:Cx}{CX:CXT}{k:Nat}{f C:Addr}{fd:FuncData}{ps ks:List Str}{sp:Sp}{E:XK}{x:Str}{p pos:Pos}{e:Expr}{es:List Expr}{kws:List Keyword}{t tk:TA}{g:List Value->List Value->List Value}{gV:List V->List V->List V}
theorem zoS{pins:List (Addr×Obj)}{σ:St}{H:Hp}{s:Shared}{Q:VK}{us ws:List Value}{vs zs:List V}(M:Mk X.K C f)(F:zaa X.prog X.w X.K X.mg X.base CX k f fd ps sp)(hr:zds (k+1) X.A)(hb:zdL X.K fd ps ks g gV)
  (hx:zck CX X E)(I:Inv X pins σ H s)(r:Vals vs us)(rz:Vals zs ws)
  (h:∀x dx,H x=none->H dx=none->dx≠x->sp (gV (.ref x::vs) zs) (upd (upd H dx (.own x)) x (.ins C dx [])) (fun v H2=>v= .non/\Q (.ref x) H2) E) :
  wpAny (model X.prog X.w) X.A (call (.ref C) us (ks.zip ws)) (EP X pins σ Q) X.xe s:=by
 have hq:=h (s.heap.objs.size+1) s.heap.objs.size (I.hok.fresh (Nat.le_succ _)) (I.hok.fresh (Nat.le_refl _)) (Nat.ne_of_lt (Nat.lt_succ_self _));have I2:=Inv.made (C:=C) I;have r2:Vals (gV (V.ref (s.heap.objs.size+1)::vs) zs) (g (Value.ref (s.heap.objs.size+1)::us) ws):=hb.rel (.cons rfl r) rz;have hl:(g (Value.ref (s.heap.objs.size+1)::us) ws).length=ps.length:=by rw[<- r2.length];exact F.len _ _ _ _ hq
 refine wpAny_call (zq9 (f:=f) I.kIn M.makes M.init (beq_iff_eq.mp M.fn) (codeAny_mono (F.run _ X.stack _ _ ⟨Value.ref (s.heap.objs.size+1)::us,ks.zip ws⟩ _ _ _ E (hr.make C us (ks.zip ws))
  (I2.env0.make C us (ks.zip ws)) (hb.to _ (Value.ref (s.heap.objs.size+1)::us) ws I2.kIn hl) r2 hq) fun r s' hq'=>?_))
 cases r with
 | error e=>exact hx pins σ _ _ e s' I2 hq'
 | ok fl =>
  cases fl with
  | ret u =>
   obtain⟨v,H',I3,rv,ev,q3⟩:=I2.after hq';subst ev;exact⟨rv,⟨V.ref (s.heap.objs.size+1),H',I3,rfl,q3⟩⟩
  | next=>exact False.elim hq'
  | brk=>exact False.elim hq'
  | cont=>exact False.elim hq'
end
section
variable{X:Cx}{CX:CXT}
end
inductive D where
 | non | bl (b:Bool) | int (i:Int) | str (x:Str) | ty (n:String)
 | cls (c:Str) | scr (ns:List Int) | cell (k:Nat)
 | tup (ds:List D) | lst (ds:List D)
 | dct (ks:List Key) (vs:List D) | dtt (ks:List (List Key)) (vs:List D)
 | obj (c:Str) (ns:List Str) (vs:List D)
 | exc (c:Str)
inductive Ct where
 | lst (ds:List D) | dct (ks:List Key) (vs:List D) | dtt (ks:List (List Key)) (vs:List D)
 | ins (c:Str) (ns:List Str) (vs:List D) | draw
 | fdct (o:Obj) (ks:List Key) (vs:List D) | fdtt (o:Obj) (ks:List (List Key)) (vs:List D)
 | lam (k0:Nat) (x:Str) (ln cl:Nat) (q:Str)
def zbZ(ln cl:Nat)(c':Addr):Array Value:= #[rawInt ln,rawInt cl, .ref c']
def zd0(c':Addr)(qual:Str):HO:= .ext fun h=>h.CodeRec (.ref c') qual
def clsOf(K:Frag)(c:Str):Option Addr:=match nsIn K mainGlobals c with
 | some (some (.ref C))=>some C
 | _=>none
def zzf(a C:Addr)(dx:Option Addr):HO:= .ext fun h=>∃ox,h.get? a=some ox/\ox.cls= .ref C/\ox.dict=dx/\PySem.W.notCls ox=true
structure Wd where
 b:Nat->Option Addr
 F:Hp
structure Wd.le(W W':Wd):Prop where
 b:∀k a,W.b k=some a->W'.b k=some a
 F:zh3 W.F W'.F
theorem Wd.le.refl(W:Wd):W.le W:=⟨fun _ _ h=>h,fun _ _ h=>h⟩
theorem Wd.le.trans{W W' W'':Wd}(a:W.le W')(b:W'.le W''):W.le W'':=⟨fun k x h=>b.b k x (a.b k x h),fun k x h=>b.F k x (a.F k x h)⟩
abbrev Mu:=Nat->Option Ct
abbrev zX:=List (Option D)
def zH(μ:Mu)(k:Nat)(c:Ct):Mu:=fun j=>if j=k then some c else μ j
def zir(μ:Mu)(k:Nat):Mu:=fun j=>if j=k then none else μ j
theorem zB{μ:Mu}{k:Nat}{c:Ct}:zH μ k c k=some c:=if_pos rfl
theorem zy{μ:Mu}{k j:Nat}{c:Ct}(h:j≠k):zH μ k c j=μ j:=if_neg h
theorem zah{μ:Mu}{k:Nat}{c c':Ct}:zH (zH μ k c) k c'=zH μ k c':=by funext j;unfold zH;split<;>rfl
theorem zd1{μ:Mu}{k:Nat}{c:Ct}(h:μ k=none):zir (zH μ k c) k=μ:=by
 funext j;unfold zH zir;by_cases e:j=k
 .subst e;rw[if_pos rfl,h]
 .show(if j=k then none else if j=k then some c else μ j)=μ j;rw[if_neg e,if_neg e]
def MLe(μ μ':Mu):Prop:=∀k c,μ k=some c->μ' k=some c
theorem MLe.refl(μ:Mu):MLe μ μ:=fun _ _ h=>h
theorem MLe.zH{μ:Mu}{k:Nat}{c:Ct}(h:μ k=none):MLe μ (L2.zH μ k c):=fun j d e=>by
 rw[zy (fun z=>by subst z;rw[h] at e;cases e)];exact e
theorem zdU{H:Hp}{p:Addr}{o:HO}(h:H p=none):zh3 H (upd H p o):=fun b u q=>by rw[zm (zM q h)];exact q
theorem Rd.sm{F F':Hp}{a:Addr}{o:HO}(s:zh3 F F')(h:Rd F a o):Rd F' a o:=by
 rcases h with h | ⟨u,h⟩
 .exact .inl (s _ _ h)
 .exact .inr ⟨u,s _ _ h⟩
theorem SqL.sm{K:Frag}{F F':Hp}{a:Addr}{xs:List V}(s:zh3 F F')(h:SqL K F a xs):SqL K F' a xs:=h.imp (Rd.sm s) id
theorem SqT.sm{K:Frag}{F F':Hp}{a:Addr}{xs:List V}(s:zh3 F F')(h:SqT K F a xs):SqT K F' a xs:=h.imp (Rd.sm s) id
def znn(c:Str):Bool:= !c.cps.contains 58
def zyM(b z:Str):Str:=⟨b.cps++ #[58]++z.cps⟩
def XAt(K:Frag)(W:Wd)(lab:Str)(C:Addr)(dx:Option Addr):Prop:=(clsOf K lab=some C/\dx=none/\znn lab=true)\/∃b z d,lab=zyM b z/\znn b=true/\clsOf K b=some C/\dx=some d/\W.F d=some (.xd [("name", .str z)])
theorem XAt.mono{K:Frag}{W W':Wd}{lab:Str}{C:Addr}{dx:Option Addr}(h:W.le W')(x:XAt K W lab C dx):XAt K W' lab C dx:=x.imp id fun⟨b,z,d,e,c,k,f,g⟩=>⟨b,z,d,e,c,k,f,h.F _ _ g⟩
mutual
def Rep(K:Frag)(W:Wd):D->V->Prop
 | .non,v=>v= .non
 | .bl b,v=>v= .bl b
 | .int i,v=>v= .int i
 | .str x,v=>v= .str x
 | .ty n,v=>v= .ty n
 | .cls c,v=>∃C,clsOf K c=some C/\v= .ref C
 | .scr ns,v=>∃a,v= .ref a/\SqL K W.F a (ns.map V.int)
 | .cell k,v=>∃a,v= .ref a/\W.b k=some a
 | .tup ds,v=>∃a xs,v= .ref a/\SqT K W.F a xs/\zr K W ds xs
 | .lst ds,v=>∃a xs,v= .ref a/\W.F a=some (.lst xs)/\zr K W ds xs
 | .dct ks vs,v=>∃a xs,v= .ref a/\W.F a=some (.dK (ks.zip xs))/\ks.length=xs.length/\zr K W vs xs
 | .dtt ks vs,v=>∃a xs,v= .ref a/\W.F a=some (.dT (ks.zip xs))/\ks.length=xs.length/\zr K W vs xs
 | .obj c ns vs,v=>∃C a dx xs,clsOf K c=some C/\v= .ref a/\W.F a=some (.ins C dx (ns.zip xs))/\ns.length=xs.length/\zr K W vs xs
 | .exc c,v=>∃C a dx,v= .ref a/\W.F a=some (zzf a C dx)/\XAt K W c C dx
def zr(K:Frag)(W:Wd):List D->List V->Prop
 | [],xs=>xs=[]
 | d::ds,xs=>∃x r,xs=x::r/\Rep K W d x/\zr K W ds r
end
section
variable{K:Frag}{fl:Wd}{W W':Wd}
mutual
theorem Rep.mono(h:W.le W'):∀{d:D} {x:V},Rep K W d x->Rep K W' d x
 | .non,_,r=>by unfold Rep at *; exact r
 | .bl _,_,r=>by unfold Rep at *; exact r
 | .int _,_,r=>by unfold Rep at *; exact r
 | .str _,_,r=>by unfold Rep at *; exact r
 | .ty _,_,r=>by unfold Rep at *; exact r
 | .cls _,_,r=>by unfold Rep at *; exact r
 | .scr _,_,r=>by unfold Rep at *; obtain⟨a,e,q⟩:=r;exact⟨a,e,q.sm h.F⟩
 | .cell _,_,r=>by unfold Rep at *; obtain⟨a,e,q⟩:=r;exact⟨a,e,h.b _ _ q⟩
 | .tup _,_,r=>by unfold Rep at *; obtain⟨a,xs,e,q,z⟩:=r;exact⟨a,xs,e,q.sm h.F,zr.mono h z⟩
 | .lst _,_,r=>by unfold Rep at *; obtain⟨a,xs,e,q,z⟩:=r;exact⟨a,xs,e,h.F _ _ q,zr.mono h z⟩
 | .dct _ _,_,r=>by unfold Rep at *; obtain⟨a,xs,e,q,l,z⟩:=r;exact⟨a,xs,e,h.F _ _ q,l,zr.mono h z⟩
 | .dtt _ _,_,r=>by unfold Rep at *; obtain⟨a,xs,e,q,l,z⟩:=r;exact⟨a,xs,e,h.F _ _ q,l,zr.mono h z⟩
 | .obj _ _ _,_,r=>by unfold Rep at *; obtain⟨C,a,dx,xs,hc,e,q,l,z⟩:=r;exact⟨C,a,dx,xs,hc,e,h.F _ _ q,l,zr.mono h z⟩
 | .exc _,_,r=>by unfold Rep at *; obtain⟨C,a,dx,e,q,x⟩:=r;exact⟨C,a,dx,e,h.F _ _ q,x.mono h⟩
theorem zr.mono(h:W.le W'):∀{ds:List D} {xs:List V},zr K W ds xs->zr K W' ds xs
 | [],_,r=>by unfold zr at *; exact r
 | _::_,_,r=>by unfold zr at *; obtain⟨x,t,e,q,z⟩:=r;exact⟨x,t,e,Rep.mono h q,zr.mono h z⟩
end
theorem zr.nil:zr K W [] []:=by unfold zr;rfl
theorem zr.cons{d:D}{ds:List D}{x:V}{xs:List V}(a:Rep K W d x)(b:zr K W ds xs):zr K W (d::ds) (x::xs):=by unfold zr;exact⟨x,xs,rfl,a,b⟩
theorem zr.nil'{xs:List V}(h:zr K W [] xs):xs=[]:=by unfold zr at h;exact h
theorem zr.uncons{d:D}{ds:List D}{xs:List V}(h:zr K W (d::ds) xs):∃x r,xs=x::r/\Rep K W d x/\zr K W ds r:=by unfold zr at h;exact h
theorem zr.length:∀{ds:List D} {xs:List V},zr K W ds xs->xs.length=ds.length
 | [],_,h=>by rw[h.nil'];rfl
 | _::_,_,h=>by obtain⟨x,r,rfl,_,q⟩:=h.uncons;rw[List.length_cons,List.length_cons,q.length]
theorem zr.get:∀{ds:List D} {xs:List V} {i:Nat} {d:D},zr K W ds xs->ds[i]? = some d->∃x,xs[i]? = some x/\Rep K W d x
 | [],_,_,_,_,e=>by simp at e
 | _::_,_,0,_,h,e=>by obtain⟨x,r,rfl,q,_⟩:=h.uncons;simp at e;subst e;exact⟨x,rfl,q⟩
 | _::_,_,i+1,d,h,e=>by obtain⟨x,r,rfl,_,q⟩:=h.uncons;simpa using q.get (i:=i) (d:=d) (by simpa using e)
theorem zr.append:∀{ds es:List D} {xs ys:List V},zr K W ds xs->zr K W es ys->zr K W (ds++es) (xs++ys)
 | [],_,_,_,h,g=>by rw[h.nil'];exact g
 | _::_,_,_,_,h,g=>by obtain⟨x,r,rfl,q,z⟩:=h.uncons;exact .cons q (z.append g)
theorem zr.take:∀{ds:List D} {xs:List V} (n:Nat),zr K W ds xs->zr K W (ds.take n) (xs.take n)
 | _,_,0,_=>by simp[zr.nil]
 | [],_,_+1,h=>by rw[h.nil'];exact .nil
 | _::_,_,n+1,h=>by obtain⟨x,r,rfl,q,z⟩:=h.uncons;exact .cons q (z.take n)
theorem zr.drop:∀{ds:List D} {xs:List V} (n:Nat),zr K W ds xs->zr K W (ds.drop n) (xs.drop n)
 | _,_,0,h=>h
 | [],_,_+1,h=>by rw[h.nil'];exact .nil
 | _::_,_,n+1,h=>by obtain⟨x,r,rfl,q,z⟩:=h.uncons;exact z.drop n
theorem zr.set:∀{ds:List D} {xs:List V} {d:D} {x:V} (n:Nat),zr K W ds xs->Rep K W d x->zr K W (ds.set n d) (xs.set n x)
 | [],_,_,_,_,h,_=>by rw[h.nil'];exact .nil
 | _::_,_,_,_,0,h,g=>by obtain⟨x,r,rfl,q,z⟩:=h.uncons;exact .cons g z
 | _::_,_,_,_,n+1,h,g=>by obtain⟨x,r,rfl,q,z⟩:=h.uncons;exact .cons q (z.set n g)
theorem zr.ints:∀{ns:List Int} {xs:List V},zr K W (ns.map D.int) xs->xs=ns.map V.int
 | [],_,h=>h.nil'
 | _::_,_,h=>by obtain⟨x,r,rfl,q,z⟩:=h.uncons;unfold Rep at q;rw[q,z.ints];rfl
theorem zr.strs:∀{ns:List Str} {xs:List V},zr K W (ns.map D.str) xs->xs=ns.map V.str
 | [],_,h=>h.nil'
 | _::_,_,h=>by obtain⟨x,r,rfl,q,z⟩:=h.uncons;unfold Rep at q;rw[q,z.strs];rfl
theorem zr.bls:∀{ns:List Bool} {xs:List V},zr K W (ns.map D.bl) xs->xs=ns.map V.bl
 | [],_,h=>h.nil'
 | _::_,_,h=>by obtain⟨x,r,rfl,q,z⟩:=h.uncons;unfold Rep at q;rw[q,z.bls];rfl
theorem Rep.i{i:Int}:Rep K W (.int i) (.int i):=by unfold Rep;rfl
theorem Rep.s{x:Str}:Rep K W (.str x) (.str x):=by unfold Rep;rfl
theorem Rep.b{x:Bool}:Rep K W (.bl x) (.bl x):=by unfold Rep;rfl
theorem Rep.n:Rep K W .non .non:=by unfold Rep;rfl
theorem Rep.t{x:String}:Rep K W (.ty x) (.ty x):=by unfold Rep;rfl
theorem Rep.i'{i:Int}{x:V}(h:Rep K W (.int i) x):x= .int i:=by unfold Rep at h;exact h
theorem Rep.s'{i:Str}{x:V}(h:Rep K W (.str i) x):x= .str i:=by unfold Rep at h;exact h
theorem Rep.b'{i:Bool}{x:V}(h:Rep K W (.bl i) x):x= .bl i:=by unfold Rep at h;exact h
theorem Rep.n'{x:V}(h:Rep K W .non x):x= .non:=by unfold Rep at h;exact h
theorem Rep.cell'{k:Nat}{x:V}(h:Rep K W (.cell k) x):∃a,x= .ref a/\W.b k=some a:=by unfold Rep at h;exact h
theorem Rep.lst'{ds:List D}{x:V}(h:Rep K W (.lst ds) x):∃a xs,x= .ref a/\W.F a=some (.lst xs)/\zr K W ds xs:=by unfold Rep at h;exact h
theorem Rep.tup'{ds:List D}{x:V}(h:Rep K W (.tup ds) x):∃a xs,x= .ref a/\SqT K W.F a xs/\zr K W ds xs:=by unfold Rep at h;exact h
theorem Rep.lst{ds:List D}{a:Addr}{xs:List V}(h:W.F a=some (.lst xs))(r:zr K W ds xs):Rep K W (.lst ds) (.ref a):=by unfold Rep;exact⟨a,xs,rfl,h,r⟩
theorem Rep.tup{ds:List D}{a:Addr}{xs:List V}(h:SqT K W.F a xs)(r:zr K W ds xs):Rep K W (.tup ds) (.ref a):=by unfold Rep;exact⟨a,xs,rfl,h,r⟩
end
def Ctn(K:Frag)(W:Wd)(c:Ct)(o:Option HO):Prop:=match c with
 | .lst ds=>∃xs,o=some (.lst xs)/\zr K W ds xs
 | .dct ks vs=>∃xs,o=some (.dK (ks.zip xs))/\ks.length=xs.length/\zr K W vs xs
 | .dtt ks vs=>∃xs,o=some (.dT (ks.zip xs))/\ks.length=xs.length/\zr K W vs xs
 | .fdct ob ks vs=>∃xs,o=some (.frz ob (.dK (ks.zip xs)))/\ks.length=xs.length/\zr K W vs xs
 | .fdtt ob ks vs=>∃xs,o=some (.frz ob (.dT (ks.zip xs)))/\ks.length=xs.length/\zr K W vs xs
 | .ins c ns vs=>∃C dx xs,clsOf K c=some C/\o=some (.ins C dx (ns.zip xs))/\ns.length=xs.length/\zr K W vs xs
 | .draw=>∃(l:Addr) (ns:List Int) (i b c:Int),o=some (.lst [.ref l, .int i, .int b, .int c])/\W.F l=some (.lst (ns.map V.int))/\0<=i/\0<=b
 | .lam k0 x ln cl q=>∃(c P:Addr) (ps:Array Value),tabIn K x=some (c,P)/\W.b k0=some P/\o=some (.tbl ps)/\(ps= #[]\/∃c',ps=zbZ ln cl c'/\W.F c'=some (zd0 c' q))
theorem Ctn.mono{K:Frag}{W W':Wd}{c:Ct}{o:Option HO}(h:W.le W')(r:Ctn K W c o):Ctn K W' c o:=by
 cases c with
 | lst ds=>obtain⟨xs,e,q⟩:=r;exact⟨xs,e,q.mono h⟩
 | dct ks vs=>obtain⟨xs,e,l,q⟩:=r;exact⟨xs,e,l,q.mono h⟩
 | dtt ks vs=>obtain⟨xs,e,l,q⟩:=r;exact⟨xs,e,l,q.mono h⟩
 | fdct ob ks vs=>obtain⟨xs,e,l,q⟩:=r;exact⟨xs,e,l,q.mono h⟩
 | fdtt ob ks vs=>obtain⟨xs,e,l,q⟩:=r;exact⟨xs,e,l,q.mono h⟩
 | ins C ns vs=>obtain⟨C',dx,xs,hc,e,l,q⟩:=r;exact⟨C',dx,xs,hc,e,l,q.mono h⟩
 | draw=>obtain⟨l,ns,i,b,c,e,q,z⟩:=r;exact⟨l,ns,i,b,c,e,h.F _ _ q,z⟩
 | lam k0 x ln cl q=>obtain⟨c,P,ps,e1,e2,e3,e4⟩:=r;exact⟨c,P,ps,e1,h.b _ _ e2,e3,e4.imp id fun⟨c',e5,e6⟩=>⟨c',e5,h.F _ _ e6⟩⟩
theorem Ctn.some{K:Frag}{W:Wd}{c:Ct}{o:Option HO}(r:Ctn K W c o):∃u,o=some u:=by
 cases c with
 | lst ds=>obtain⟨xs,e,q⟩:=r;exact⟨_,e⟩
 | dct ks vs=>obtain⟨xs,e,l,q⟩:=r;exact⟨_,e⟩
 | dtt ks vs=>obtain⟨xs,e,l,q⟩:=r;exact⟨_,e⟩
 | fdct ob ks vs=>obtain⟨xs,e,l,q⟩:=r;exact⟨_,e⟩
 | fdtt ob ks vs=>obtain⟨xs,e,l,q⟩:=r;exact⟨_,e⟩
 | ins C ns vs=>obtain⟨C',dx,xs,hc,e,l,q⟩:=r;exact⟨_,e⟩
 | draw=>obtain⟨l,ns,i,b,c,e,q,z⟩:=r;exact⟨_,e⟩
 | lam k0 x ln cl q=>obtain⟨c,P,ps,e1,e2,e3,e4⟩:=r;exact⟨_,e3⟩
structure Rel(K:Frag)(fl:Wd)(W:Wd)(μ:Mu)(H:Hp):Prop where
 sub:zh3 W.F H
 fin:∃n,∀k,n<=k->W.b k=none
 cel:∀k c,μ k=some c->∃a,W.b k=some a/\W.F a=none/\Ctn K W c (H a)
 inj:∀k k' c c' a,μ k=some c->μ k'=some c'->W.b k=some a->W.b k'=some a->k=k'
 up:fl.le W
def zaS(K:Frag)(W:Wd)(ρ:zX)(σ:St):Prop:=ρ.length=σ.length/\∀(i:Nat) d,ρ[i]? = some (some d)->∃x,σ[i]? = some (some x)/\Rep K W d x
section
variable{K:Frag}{fl:Wd}{W W':Wd}{μ μ':Mu}{H:Hp}{ρ:zX}{σ:St}
theorem Rel.floor{fl':Wd}(r:Rel K fl W μ H)(h:fl'.le W):Rel K fl' W μ H:=⟨r.sub,r.fin,r.cel,r.inj,h⟩
theorem zaS.mono(h:W.le W')(r:zaS K W ρ σ):zaS K W' ρ σ:=⟨r.1,fun i d e=>by obtain⟨x,e',q⟩:=r.2 i d e;exact⟨x,e',q.mono h⟩⟩
theorem zaS.set{i:Nat}{d:D}{x:V}(r:zaS K W ρ σ)(q:Rep K W d x):zaS K W (ρ.set i (some d)) (σ.set i (some x)):=⟨by simp[r.1],fun j d' e=>by
 by_cases hj:i=j
 .subst hj;by_cases hl:i < ρ.length
  .rw[List.getElem?_set_self hl] at e;cases e;exact⟨x,List.getElem?_set_self (r.1▸hl),q⟩
  .rw[List.getElem?_eq_none (by simp;omega)] at e;cases e
 .rw[List.getElem?_set_ne hj] at e;rw[List.getElem?_set_ne hj];exact r.2 j d' e⟩
theorem Rel.less(r:Rel K fl W μ' H)(h:MLe μ μ'):Rel K fl W μ H:=⟨r.sub,r.fin,fun k c e=>r.cel k c (h k c e),fun k k' c c' a e e'=>r.inj k k' c c' a (h _ _ e) (h _ _ e'),r.up⟩
theorem Rel.newF{p:Addr}{o:HO}(r:Rel K fl W μ H)(hp:H p=none):Rel K fl ⟨W.b,upd W.F p o⟩ μ (upd H p o)/\W.le ⟨W.b,upd W.F p o⟩:=by
 have hF:W.F p=none:=by
  cases e:W.F p with
  | none=>rfl
  | some u=>rw[r.sub _ _ e] at hp;cases hp
 have le:W.le ⟨W.b,upd W.F p o⟩:=⟨fun _ _ h=>h,zdU hF⟩;refine⟨⟨fun b u e=>?_,r.fin,fun k c e=>?_,r.inj,r.up.trans le⟩,le⟩
 .by_cases hb:b=p
  .subst hb;have e':(upd W.F b o) b=some u:=e;rw[zq] at e' ⊢; exact e'
  .have e':(upd W.F p o) b=some u:=e;rw[zm hb] at e' ⊢; exact r.sub _ _ e'
 .obtain⟨a,e1,e2,q⟩:=r.cel k c e;obtain⟨u,eu⟩:=q.some;have ha:a≠p:=zM eu hp;exact⟨a,e1,by show upd W.F p o a=none;rw[zm ha];exact e2,by rw[zm ha];exact q.mono le⟩
theorem Rel.newC{p:Addr}{o:HO}{c:Ct}(r:Rel K fl W μ H)(hp:H p=none)(hc:Ctn K W c (some o)):∃(k:Nat) (W':Wd),μ k=none/\W.le W'/\Rel K fl W' (zH μ k c) (upd H p o)/\W'.b k=some p:=by
 obtain⟨n,hn⟩:=r.fin;have hF:W.F p=none:=by
  cases e:W.F p with
  | none=>rfl
  | some u=>rw[r.sub _ _ e] at hp;cases hp
 have hk:μ n=none:=by
  cases e:μ n with
  | none=>rfl
  | some c=>obtain⟨a,e1,_⟩:=r.cel n c e;rw[hn n (Nat.le_refl _)] at e1;cases e1
 have le:W.le ⟨fun j=>if j=n then some p else W.b j,W.F⟩:=⟨fun k a e=>by
  show(if k=n then some p else W.b k)=some a;rw[if_neg (fun z=>by rw[z,hn n (Nat.le_refl _)] at e;cases e)];exact e,fun _ _ h=>h⟩
 refine⟨n,⟨fun j=>if j=n then some p else W.b j,W.F⟩,hk,le,⟨fun b u e=>?_,⟨n+1,fun k hk=>?_⟩,fun k c' e=>?_,fun k k' c1 c2 a e e' q q'=>?_,r.up.trans le⟩,if_pos rfl⟩
 .have:b≠p:=fun z=>by
   have e':W.F b=some u:=e;rw[z,hF] at e';cases e'
  rw[zm this];exact r.sub _ _ e
 .show(if k=n then some p else W.b k)=none;rw[if_neg (by omega)];exact hn k (by omega)
 .by_cases ek:k=n
  .subst ek;rw[zB] at e;cases e;exact⟨p,if_pos rfl,hF,by rw[zq];exact hc.mono le⟩
  .rw[zy ek] at e;obtain⟨a,e1,e2,q⟩:=r.cel k c' e;obtain⟨u,eu⟩:=q.some;have ha:a≠p:=zM eu hp;exact⟨a,by show(if k=n then some p else W.b k)=some a;rw[if_neg ek];exact e1,e2,by rw[zm ha];exact q.mono le⟩
 .have key:∀k c,zH μ n c k=some c->True:=fun _ _ _=>trivial
  have at':∀{j:Nat} {cj:Ct},zH μ n c j=some cj->j≠n->(∃a',W.b j=some a'/\a'≠p):=fun{j cj} ej hj=>by
   rw[zy hj] at ej;obtain⟨a',e1,e2,q⟩:=r.cel j cj ej;obtain⟨u,eu⟩:=q.some;exact⟨a',e1,zM eu hp⟩
  have q1:(if k=n then some p else W.b k)=some a:=q;have q2:(if k'=n then some p else W.b k')=some a:=q';by_cases ek:k=n
  .by_cases ek':k'=n
   .rw[ek,ek']
   .rw[if_pos ek] at q1;rw[if_neg ek'] at q2;obtain⟨a',f1,f2⟩:=at' e' ek';rw[f1] at q2;cases q1;cases q2;exact absurd rfl f2
  .by_cases ek':k'=n
   .rw[if_neg ek] at q1;rw[if_pos ek'] at q2;obtain⟨a',f1,f2⟩:=at' e ek;rw[f1] at q1;cases q2;cases q1;exact absurd rfl f2
   .rw[if_neg ek] at q1;rw[if_neg ek'] at q2;rw[zy ek] at e;rw[zy ek'] at e';exact r.inj k k' _ _ a e e' q1 q2
theorem Rel.setC{k:Nat}{a:Addr}{c c':Ct}{o:HO}(r:Rel K fl W μ H)(hk:μ k=some c)(ha:W.b k=some a)(hc:Ctn K W c' (some o)):Rel K fl W (zH μ k c') (upd H a o):=by
 obtain⟨a',e1,e2,_⟩:=r.cel k c hk;rw[ha] at e1;cases e1;refine⟨fun b u e=>?_,r.fin,fun j d e=>?_,fun j j' d d' x e e'=>?_,r.up⟩
 .rw[zm (fun z=>by rw[z,e2] at e;cases e)];exact r.sub _ _ e
 .by_cases ek:j=k
  .subst ek;rw[zB] at e;cases e;exact⟨a,ha,e2,by rw[zq];exact hc⟩
  .rw[zy ek] at e;obtain⟨x,f1,f2,q⟩:=r.cel j d e;have hx:x≠a:=fun z=>ek (r.inj j k _ _ a e hk (z▸f1) ha)
   exact⟨x,f1,f2,by rw[zm hx];exact q⟩
 .have g:∀{j d},zH μ k c' j=some d->∃d,μ j=some d:=fun{j d} e=>by
   by_cases ek:j=k
   .subst ek;exact⟨_,hk⟩
   .rw[zy ek] at e;exact⟨_,e⟩
  obtain⟨d1,f1⟩:=g e;obtain⟨d2,f2⟩:=g e';exact r.inj j j' _ _ x f1 f2
theorem Rel.freeze{k:Nat}{a:Addr}{c:Ct}{o:HO}(r:Rel K fl W μ H)(hk:μ k=some c)(ha:W.b k=some a)(ho:H a=some o):Rel K fl ⟨W.b,upd W.F a o⟩ (zir μ k) H/\W.le ⟨W.b,upd W.F a o⟩:=by
 obtain⟨a',e1,e2,_⟩:=r.cel k c hk;rw[ha] at e1;cases e1;have le:W.le ⟨W.b,upd W.F a o⟩:=⟨fun _ _ h=>h,zdU e2⟩;have g:∀{j d},zir μ k j=some d->j≠k/\μ j=some d:=fun{j d} e=>by
  unfold zir at e;by_cases ek:j=k
  .rw[if_pos ek] at e;cases e
  .rw[if_neg ek] at e;exact⟨ek,e⟩
 refine⟨⟨fun b u e=>?_,r.fin,fun j d e=>?_,fun j j' d d' x e e'=>r.inj j j' _ _ x (g e).2 (g e').2,r.up.trans le⟩,le⟩
 .by_cases hb:b=a
  .subst hb;have e':(upd W.F b o) b=some u:=e;rw[zq] at e';cases e';exact ho
  .have e':(upd W.F a o) b=some u:=e;rw[zm hb] at e';exact r.sub _ _ e'
 .obtain⟨hj,ej⟩:=g e;obtain⟨x,f1,f2,q⟩:=r.cel j d ej;have hx:x≠a:=fun z=>hj (r.inj j k _ _ a ej hk (z▸f1) ha)
  exact⟨x,f1,by show upd W.F a o x=none;rw[zm hx];exact f2,q.mono le⟩
end
abbrev DK:=D->Mu->Prop
abbrev DE:=zX->Mu->DK->Prop
abbrev DT:=zX->Mu->(Bool->Mu->Prop)->Prop
abbrev DA:=zX->Mu->(List D->Mu->Prop)->Prop
structure zbB where
 nx:zX->Mu->Prop
 rt:DK
 bk:zX->Mu->Prop:=fun _ _=>False
 ct:zX->Mu->Prop:=fun _ _=>False
abbrev DS:=zbB->zX->Mu->Prop
abbrev DG:=D->zX->Mu->(zX->Mu->Prop)->Prop
abbrev DGs:=List D->zX->Mu->(zX->Mu->Prop)->Prop
abbrev DR2:=D->D->Mu->DK->Prop
abbrev DR1:=D->Mu->DK->Prop
abbrev DRs:=List D->Mu->DK->Prop
abbrev DO:=zX->Mu->(Option Int->Mu->Prop)->Prop
abbrev DI:=zX->Mu->(List D->(Mu->Prop)->Mu->Prop)->Prop
abbrev DSp:=List D->Mu->DK->Prop
section
variable(K:Frag)(fl:Wd)
abbrev KV'(W:Wd)(Q:DK)(Q':VK):Prop:=∀W' d μ' x H',W.le W'->Rel K fl W' μ' H'->Rep K W' d x->Q d μ'->Q' x H'
class zN(t:TE)(w:DE):Prop where
 run:∀{W ρ μ σ H Q Q'},Rel K fl W μ H->zaS K W ρ σ->w ρ μ Q->KV' K fl W Q Q'->t σ H Q'
class zdV(t:TT)(w:DT):Prop where
 run:∀{W ρ μ σ H} {Q:Bool->Mu->Prop} {Q':Bool->Hp->Prop},Rel K fl W μ H->zaS K W ρ σ->w ρ μ Q->(∀W' b μ' H',W.le W'->Rel K fl W' μ' H'->Q b μ'->Q' b H')->t σ H Q'
class zbR(t:TA)(w:DA):Prop where
 run:∀{W ρ μ σ H} {Q:List D->Mu->Prop} {Q':List V->Hp->Prop},Rel K fl W μ H->zaS K W ρ σ->w ρ μ Q->(∀W' ds μ' xs H',W.le W'->Rel K fl W' μ' H'->zr K W' ds xs->Q ds μ'->Q' xs H')->t σ H Q'
structure zn9(W:Wd)(D':zbB)(D:Ends):Prop where
 nx:∀W' ρ μ σ H,W.le W'->Rel K fl W' μ H->zaS K W' ρ σ->D'.nx ρ μ->D.nx σ H
 bk:∀W' ρ μ σ H,W.le W'->Rel K fl W' μ H->zaS K W' ρ σ->D'.bk ρ μ->D.bk σ H
 ct:∀W' ρ μ σ H,W.le W'->Rel K fl W' μ H->zaS K W' ρ σ->D'.ct ρ μ->D.ct σ H
 rt:∀W' d μ x H,W.le W'->Rel K fl W' μ H->Rep K W' d x->D'.rt d μ->D.rt x H
class zdb(t:TS)(w:DS):Prop where
 run:∀{W ρ μ σ H D' D},Rel K fl W μ H->zaS K W ρ σ->w D' ρ μ->zn9 K fl W D' D->t D σ H
class zic(g:TG)(dg:DG)(S:outParam (List Nat)):Prop where
 run:∀{W ρ μ σ H d x} {Q:zX->Mu->Prop} {Q':St->Hp->Prop},Rel K fl W μ H->zaS K W ρ σ->Rep K W d x->dg d ρ μ Q ->
  (∀W' ρ' μ' σ' H',W.le W'->Rel K fl W' μ' H'->zaS K W' ρ' σ'->σ'.length=σ.length->(∀i,i∉S->σ'[i]? = σ[i]?)->Q ρ' μ'->Q' σ' H')->g x σ H Q'
class znU(g:TGs)(dg:DGs)(S:outParam (List Nat)):Prop where
 run:∀{W ρ μ σ H ds xs} {Q:zX->Mu->Prop} {Q':St->Hp->Prop},Rel K fl W μ H->zaS K W ρ σ->zr K W ds xs->dg ds ρ μ Q ->
  (∀W' ρ' μ' σ' H',W.le W'->Rel K fl W' μ' H'->zaS K W' ρ' σ'->σ'.length=σ.length->(∀i,i∉S->σ'[i]? = σ[i]?)->Q ρ' μ'->Q' σ' H')->g xs σ H Q'
class zbj(r:R2)(q:DR2):Prop where
 run:∀{W μ H d e x y Q Q'},Rel K fl W μ H->Rep K W d x->Rep K W e y->q d e μ Q->KV' K fl W Q Q'->r x y H Q'
class zuY(r:V->Hp->VK->Prop)(q:DR1):Prop where
 run:∀{W μ H d x Q Q'},Rel K fl W μ H->Rep K W d x->q d μ Q->KV' K fl W Q Q'->r x H Q'
class zbg(r:List V->Hp->VK->Prop)(q:DRs):Prop where
 run:∀{W μ H ds xs Q Q'},Rel K fl W μ H->zr K W ds xs->q ds μ Q->KV' K fl W Q Q'->r xs H Q'
class zm6(t:TO)(w:DO):Prop where
 run:∀{W ρ μ σ H} {Q:Option Int->Mu->Prop} {Q':Option Int->Hp->Prop},Rel K fl W μ H->zaS K W ρ σ->w ρ μ Q->(∀W' b μ' H',W.le W'->Rel K fl W' μ' H'->Q b μ'->Q' b H')->t σ H Q'
def ItR(W:Wd)(J:It)(ds:List D)(Pm:Mu->Prop):Prop:=∀W1 μ H,W.le W1->Rel K fl W1 μ H->Pm μ->∀i:Nat,(∀d,ds[i]? = some d->J.go i H/\∀x H',J.yld i H x H'->∃W2,W1.le W2/\Rel K fl W2 μ H'/\Rep K W2 d x)/\(ds.length<=i->J.stop i H)
class zke(t:TI)(w:DI):Prop where
 run:∀{W ρ μ σ H} {Q:List D->(Mu->Prop)->Mu->Prop} {Q':It->Hp->Prop},Rel K fl W μ H->zaS K W ρ σ->w ρ μ Q->(∀W' J ds Pm μ' H',W.le W'->Rel K fl W' μ' H'->ItR K fl W' J ds Pm->Q ds Pm μ'->Q' J H')->t σ H Q'
end
def zb(i:Nat):DE:=fun ρ μ Q=>match ρ[i]? with
 | some (some d)=>Q d μ
 | _=>False
def dC(d:D):DE:=fun _ μ Q=>Q d μ
section
variable{K:Frag}{fl:Wd}
instance{i:Nat}:zN K fl (za3 i) (zb i):=⟨fun{W ρ μ σ H Q Q'} r e h k=>by
 unfold zb at h;split at h
 .rename_i d hd;obtain⟨x,ex,q⟩:=e.2 i d hd;exact⟨x,ex,k W d μ x H (.refl W) r q h⟩
 .exact h.elim⟩
instance{i:Int}:zN K fl (tC (.int i)) (dC (.int i)):=⟨fun{W ρ μ σ H Q Q'} r e h k=>k W _ μ _ H (.refl W) r .i h⟩
instance{i:Str}:zN K fl (tC (.str i)) (dC (.str i)):=⟨fun{W ρ μ σ H Q Q'} r e h k=>k W _ μ _ H (.refl W) r .s h⟩
instance{i:Bool}:zN K fl (tC (.bl i)) (dC (.bl i)):=⟨fun{W ρ μ σ H Q Q'} r e h k=>k W _ μ _ H (.refl W) r .b h⟩
instance{i:String}:zN K fl (tC (.ty i)) (dC (.ty i)):=⟨fun{W ρ μ σ H Q Q'} r e h k=>k W _ μ _ H (.refl W) r .t h⟩
class zn3(K:Frag)(c:Str)(C:Addr):Prop where
 at_:clsOf K c=some C
 cf:znn c=true:=by decide+kernel
end
def dOp(q:DR2)(wa wb:DE):DE:=fun ρ μ Q=>wa ρ μ fun d μ1=>wb ρ μ1 fun e μ2=>q d e μ2 Q
def dUn(q:DR1)(wa:DE):DE:=fun ρ μ Q=>wa ρ μ fun d μ1=>q d μ1 Q
def zY(w:DE):DT:=fun ρ μ Q=>w ρ μ fun d μ1=>match d with
 | .bl b=>Q b μ1
 | _=>False
def ztL(t u:DT):DT:=fun ρ μ Q=>t ρ μ fun c μ1=>if c=true then u ρ μ1 Q else Q false μ1
def dOr(t u:DT):DT:=fun ρ μ Q=>t ρ μ fun c μ1=>if c=true then Q true μ1 else u ρ μ1 Q
def zop(t:DT):DT:=fun ρ μ Q=>t ρ μ fun c μ1=>Q (!c) μ1
def znJ(ta tb:DE):DE:=fun ρ μ Q=>zY ta ρ μ fun c μ1=>if c=true then tb ρ μ1 Q else Q (.bl false) μ1
def zzg(ta tb:DE):DE:=fun ρ μ Q=>zY ta ρ μ fun c μ1=>if c=true then Q (.bl true) μ1 else tb ρ μ1 Q
def zqV(ta:DE):DE:=fun ρ μ Q=>zY ta ρ μ fun c μ1=>Q (.bl (!c)) μ1
def dIf(t:DT)(ta tb:DE):DE:=fun ρ μ Q=>t ρ μ fun c μ1=>if c=true then ta ρ μ1 Q else tb ρ μ1 Q
def zj2(q q':DR2)(wa wb wc:DE):DE:=fun ρ μ Q=>wa ρ μ fun d μ1=>wb ρ μ1 fun e μ2=>q d e μ2 fun z μ3=>match z with
 | .bl k=>if k=true then wc ρ μ3 fun f μ4=>q' e f μ4 Q else Q (.bl false) μ3
 | _=>False
section
variable{K:Frag}{fl:Wd}{r r':R2}{q q':DR2}{ta tb tc:TE}{wa wb wc:DE}{t u:TT}{v w:DT}
instance[a:zN K fl ta wa][b:zN K fl tb wb][o:zbj K fl r q]:zN K fl (tOp r ta tb) (dOp q wa wb):=⟨fun r e h k =>
 a.run r e h fun W1 d μ1 x H1 le1 r1 q1 h1=>b.run r1 (e.mono le1) h1 fun W2 d' μ2 y H2 le2 r2 q2 h2=>o.run r2 (q1.mono le2) q2 h2 fun W3 d3 μ3 z H3 le3 r3 q3 h3=>k W3 d3 μ3 z H3 (le1.trans (le2.trans le3)) r3 q3 h3⟩
instance{r:V->Hp->VK->Prop}{q:DR1}[a:zN K fl ta wa][o:zuY K fl r q]:zN K fl (tUn r ta) (dUn q wa):=⟨fun r e h k =>
 a.run r e h fun W1 d μ1 x H1 le1 r1 q1 h1=>o.run r1 q1 h1 fun W3 d3 μ3 z H3 le3 r3 q3 h3=>k W3 d3 μ3 z H3 (le1.trans le3) r3 q3 h3⟩
theorem zg3[a:zN K fl ta wa]{W ρ μ σ H}{Q:Bool->Mu->Prop}{Q':Bool->Hp->Prop}(r:Rel K fl W μ H)(e:zaS K W ρ σ)(h:zY wa ρ μ Q)(k:∀W' b μ' H',W.le W'->Rel K fl W' μ' H'->Q b μ'->Q' b H'):ta σ H fun x H'=>∃k,x= .bl k/\Q' k H' :=
 a.run r e h fun W1 d μ1 x H1 le1 r1 q1 h1=>by
  cases d<;>first | exact h1.elim | skip
  rename_i b;exact⟨b,q1.b',k W1 b μ1 H1 le1 r1 h1⟩
instance[a:zN K fl ta wa]:zdV K fl (zhk ta) (zY wa):=⟨fun r e h k=>zg3 r e h k⟩
instance[a:zN K fl ta wa]:zdV K fl (tB ta) (zY wa):=⟨fun r e h k=>zg3 r e h k⟩
instance[a:zdV K fl t v][b:zdV K fl u w]:zdV K fl (zvh t u) (ztL v w):=⟨fun r e h k=>a.run r e h fun W1 c μ1 H1 le1 r1 h1=>by
 cases c with
 | true=>exact b.run r1 (e.mono le1) h1 fun W2 c2 μ2 H2 le2 r2 h2=>k W2 c2 μ2 H2 (le1.trans le2) r2 h2
 | false=>exact k W1 false μ1 H1 le1 r1 h1⟩
instance[a:zdV K fl t v][b:zdV K fl u w]:zdV K fl (tOr t u) (dOr v w):=⟨fun r e h k=>a.run r e h fun W1 c μ1 H1 le1 r1 h1=>by
 cases c with
 | false=>exact b.run r1 (e.mono le1) h1 fun W2 c2 μ2 H2 le2 r2 h2=>k W2 c2 μ2 H2 (le1.trans le2) r2 h2
 | true=>exact k W1 true μ1 H1 le1 r1 h1⟩
instance[a:zdV K fl t v]:zdV K fl (zvq t) (zop v):=⟨fun r e h k=>a.run r e h fun W1 c μ1 H1 le1 r1 h1=>k W1 (!c) μ1 H1 le1 r1 h1⟩
instance[a:zN K fl ta wa][b:zN K fl tb wb]:zN K fl (zrO ta tb) (znJ wa wb):=⟨fun r e h k=>zg3 r e h fun W1 c μ1 H1 le1 r1 h1=>by
 cases c with
 | true=>exact b.run r1 (e.mono le1) h1 fun W2 c2 μ2 x H2 le2 r2 q2 h2=>k W2 c2 μ2 x H2 (le1.trans le2) r2 q2 h2
 | false=>exact k W1 (.bl false) μ1 _ H1 le1 r1 .b h1⟩
instance[a:zN K fl ta wa]:zN K fl (zpN ta) (zqV wa):=⟨fun r e h k=>zg3 r e h fun W1 c μ1 H1 le1 r1 h1=>k W1 (.bl (!c)) μ1 _ H1 le1 r1 .b h1⟩
instance[a:zN K fl ta wa][b:zN K fl tb wb][c:zN K fl tc wc][o:zbj K fl r q][o':zbj K fl r' q']:zN K fl (zhD r r' ta tb tc) (zj2 q q' wa wb wc):=⟨fun r e h k =>
 a.run r e h fun W1 d μ1 x H1 le1 r1 q1 h1=>b.run r1 (e.mono le1) h1 fun W2 d' μ2 y H2 le2 r2 q2 h2=>o.run r2 (q1.mono le2) q2 h2 fun W3 d3 μ3 z H3 le3 r3 q3 h3=>by
  cases d3<;>first | exact h3.elim | skip
  rename_i kk;refine⟨kk,q3.b',?_⟩;cases kk with
  | false=>exact k W3 (.bl false) μ3 _ H3 (le1.trans (le2.trans le3)) r3 .b h3
  | true=>exact c.run r3 (e.mono (le1.trans (le2.trans le3))) h3 fun W4 d4 μ4 x4 H4 le4 r4 q4 h4=>o'.run r4 (q2.mono (le3.trans le4)) q4 h4 fun W5 d5 μ5 x5 H5 le5 r5 q5 h5=>k W5 d5 μ5 x5 H5 (le1.trans (le2.trans (le3.trans (le4.trans le5)))) r5 q5 h5⟩
end
def zu:DA:=fun _ μ Q=>Q [] μ
def za(wa:DE)(wr:DA):DA:=fun ρ μ Q=>wa ρ μ fun d μ1=>wr ρ μ1 fun ds μ2=>Q (d::ds) μ2
def dTup(w:DA):DE:=fun ρ μ Q=>w ρ μ fun ds μ1=>ds.length<=sizeLine/\Q (.tup ds) μ1
def zkc(w:DA):DE:=fun ρ μ Q=>w ρ μ fun ds μ1=>ds.length<=sizeLine/\Q (.lst ds) μ1
def zdn(w:DA):DE:=fun ρ μ Q=>w ρ μ fun ds μ1=>ds.length<=sizeLine/\∀k,μ1 k=none->Q (.cell k) (zH μ1 k (.lst ds))
def znw(ks:List Int):DA:=fun _ μ Q=>Q (ks.map D.int) μ
def zlr(t:TE):TE:=t
section
variable{K:Frag}{fl:Wd}{ta:TE}{wa:DE}{t:TA}{w:DA}
instance:zbR K fl zfh zu:=⟨fun{W ρ μ σ H Q Q'} r e h k=>k W [] μ [] H (.refl W) r .nil h⟩
instance[a:zN K fl ta wa][b:zbR K fl t w]:zbR K fl (zdr ta t) (za wa w):=⟨fun r e h k =>
 a.run r e h fun W1 d μ1 x H1 le1 r1 q1 h1=>b.run r1 (e.mono le1) h1 fun W2 ds μ2 xs H2 le2 r2 q2 h2=>k W2 (d::ds) μ2 (x::xs) H2 (le1.trans le2) r2 (.cons (q1.mono le2) q2) h2⟩
theorem zr.of_ints{W:Wd}:∀ns:List Int,zr K W (ns.map D.int) (ns.map V.int)
 | []=> .nil
 | _::r=> .cons .i (zr.of_ints r)
theorem zr.of_strs{W:Wd}:∀ns:List Str,zr K W (ns.map D.str) (ns.map V.str)
 | []=> .nil
 | _::r=> .cons .s (zr.of_strs r)
instance{ks:List Int}:zbR K fl (zrA ks) (znw ks):=⟨fun{W ρ μ σ H Q Q'} r e h k=>k W _ μ _ H (.refl W) r (.of_ints ks) h⟩
instance[a:zbR K fl t w]:zN K fl (zpw t) (dTup w):=⟨fun r e h k=>a.run r e h fun W1 ds μ1 xs H1 le1 r1 q1 h1=>⟨by rw[q1.length];exact h1.1,fun p hp=>by
 obtain⟨r2,le2⟩:=r1.newF (o:= .tup xs) hp;exact k _ _ _ _ _ (le1.trans le2) r2 (.tup (SqT.of zq) (q1.mono le2)) h1.2⟩⟩
instance[a:zbR K fl t w]:zN K fl (zt1 t) (zkc w):=⟨fun r e h k=>a.run r e h fun W1 ds μ1 xs H1 le1 r1 q1 h1=>⟨by rw[q1.length];exact h1.1,fun p hp=>by
 obtain⟨r2,le2⟩:=r1.newF (o:= .lst xs) hp;exact k _ _ _ _ _ (le1.trans le2) r2 (.lst zq (q1.mono le2)) h1.2⟩⟩
theorem zmd{W W1:Wd}{μ1:Mu}{H1:Hp}{p:Addr}{xs:List V}{ds:List D}{Q:DK}{Q':VK}(le1:W.le W1)(r1:Rel K fl W1 μ1 H1)(q1:zr K W1 ds xs)(hp:H1 p=none)(k:KV' K fl W Q Q')(h:∀k,μ1 k=none->Q (.cell k) (zH μ1 k (.lst ds))):Q' (.ref p) (upd H1 p (.lst xs)):=by
 obtain⟨c,W2,hk,le2,r2,e2⟩:=r1.newC (o:= .lst xs) (c:= .lst ds) hp ⟨xs,rfl,q1⟩;exact k W2 (.cell c) _ _ _ (le1.trans le2) r2 (by unfold Rep;exact⟨p,rfl,e2⟩) (h c hk)
instance[a:zbR K fl t w]:zN K fl (zlr (zt1 t)) (zdn w):=⟨fun r e h k=>a.run r e h fun W1 ds μ1 xs H1 le1 r1 q1 h1=>⟨by rw[q1.length];exact h1.1,fun p hp=>zmd le1 r1 q1 hp k h1.2⟩⟩
end
def zaU:DS:=fun D ρ μ=>D.nx ρ μ
def zK(t u:DS):DS:=fun D ρ μ=>t { D with nx:=u D } ρ μ
def zvG:DS:=fun D ρ μ=>D.bk ρ μ
def zxF:DS:=fun D ρ μ=>D.ct ρ μ
def zaM(w:DE):DS:=fun D ρ μ=>w ρ μ fun _ μ1=>D.nx ρ μ1
def zbf(w:DE):DS:=fun D ρ μ=>w ρ μ D.rt
def zx4:DS:=fun D _ μ=>D.rt .non μ
def zb3(c:DT)(t u:DS):DS:=fun D ρ μ=>c ρ μ fun b μ1=>if b=true then t D ρ μ1 else u D ρ μ1
def zbY:DS:=fun _ _ _=>False
def zp(i:Nat):DG:=fun d ρ μ Q=>Q (ρ.set i (some d)) μ
def zep:DGs:=fun ds ρ μ Q=>ds=[]/\Q ρ μ
def zaz(g:DG)(gs:DGs):DGs:=fun ds ρ μ Q=>match ds with
 | d::r=>g d ρ μ fun ρ' μ'=>gs r ρ' μ' Q
 | []=>False
def zem(n:Nat)(gs:DGs):DG:=fun d ρ μ Q=>match d with
 | .tup ds=>ds.length=n/\gs ds ρ μ Q
 | _=>False
def zay(w:DE)(g:DG):DS:=fun D ρ μ=>w ρ μ fun d μ1=>g d ρ μ1 D.nx
def dPar(i j:Nat)(w:DA):DS:=fun D ρ μ=>w ρ μ fun ds μ1=>match ds with
 | [d,e]=>D.nx ((ρ.set i (some d)).set j (some e)) μ1
 | _=>False
def zzd(i:Nat)(w:DE)(q:DR2):DS:=fun D ρ μ=>zb i ρ μ fun x _=>w ρ μ fun y μ1=>q x y μ1 fun z μ2=>D.nx (ρ.set i (some z)) μ2
def znq(i:Nat)(t:TS):TS:=t
theorem zhH{X:Cx}{sts:List Stmt}{t:TS}(i:Nat)(h:WSs X sts t):WSs X sts (znq i t):=h
theorem zkt{X:Cx}{e:Expr}{t:TE}(h:WE X e t):WE X e (zlr t):=h
def ziH(μ:Mu)(d:D)(Q:DK):Prop:=match d with
 | .cell k=>match μ k with
  | some (.lst ds)=>Q (.lst ds) (zir μ k)
  | some (.dct ks vs)=>Q (.dct ks vs) (zir μ k)
  | some (.dtt ks vs)=>Q (.dtt ks vs) (zir μ k)
  | some (.ins C ns vs)=>Q (.obj C ns vs) (zir μ k)
  | _=>False
 | _=>False
def zfF(i:Nat)(w:DS):DS:=fun D ρ μ=>match ρ[i]? with
 | some (some d)=>ziH μ d fun d' μ'=>w D (ρ.set i (some d')) μ'
 | _=>False
section
variable{K:Frag}{fl:Wd}{ta:TE}{wa:DE}{t u:TS}{v w:DS}
theorem zn9.mono{W W':Wd}{D':zbB}{D:Ends}(le:W.le W')(h:zn9 K fl W D' D):zn9 K fl W' D' D :=
 ⟨fun W2 ρ μ σ H l=>h.nx W2 ρ μ σ H (le.trans l),fun W2 ρ μ σ H l=>h.bk W2 ρ μ σ H (le.trans l),fun W2 ρ μ σ H l=>h.ct W2 ρ μ σ H (le.trans l),fun W2 ρ μ σ H l=>h.rt W2 ρ μ σ H (le.trans l)⟩
instance:zdb K fl zpY zaU:=⟨fun{W ρ μ σ H D' D} r e h k=>k.nx W ρ μ σ H (.refl W) r e h⟩
instance:zdb K fl zmm zbY:=⟨fun r e h k=>h.elim⟩
instance[a:zdb K fl t v][b:zdb K fl u w]:zdb K fl (ziE t u) (zK v w):=⟨fun r e h k=>a.run r e h ⟨fun W1 ρ1 μ1 σ1 H1 le1 r1 e1 h1=>b.run r1 e1 h1 (k.mono le1),k.bk,k.ct,k.rt⟩⟩
instance[a:zN K fl ta wa]:zdb K fl (zql ta) (zaM wa):=⟨fun r e h k=>a.run r e h fun W1 d μ1 x H1 le1 r1 q1 h1=>k.nx W1 _ μ1 _ H1 le1 r1 (e.mono le1) h1⟩
instance[a:zN K fl ta wa]:zdb K fl (zmA ta) (zbf wa):=⟨fun r e h k=>a.run r e h fun W1 d μ1 x H1 le1 r1 q1 h1=>k.rt W1 d μ1 x H1 le1 r1 q1 h1⟩
instance{c:TT}{wc:DT}[a:zdV K fl c wc][x:zdb K fl t v][y:zdb K fl u w]:zdb K fl (ztH c t u) (zb3 wc v w):=⟨fun r e h k=>a.run r e h fun W1 b μ1 H1 le1 r1 h1=>by
 cases b with
 | true=>exact x.run r1 (e.mono le1) h1 (k.mono le1)
 | false=>exact y.run r1 (e.mono le1) h1 (k.mono le1)⟩
instance{i:Nat}:zic K fl (zdq i) (zp i) [i]:=⟨fun{W ρ μ σ H d x Q Q'} r e q h k=>k W _ μ _ H (.refl W) r (e.set q) (by simp) (fun j hj=>by rw[List.getElem?_set_ne (fun z=>hj (by simp[z]))]) h⟩
instance:znU K fl zvM zep []:=⟨fun{W ρ μ σ H ds xs Q Q'} r e q h k=>by obtain⟨rfl,h⟩:=h;exact⟨q.nil',k W _ μ _ H (.refl W) r e rfl (fun _ _=>rfl) h⟩⟩
instance{g:TG}{dg:DG}{S S':List Nat}{gs:TGs}{dgs:DGs}[a:zic K fl g dg S][b:znU K fl gs dgs S']:znU K fl (zso g gs) (zaz dg dgs) (S++S'):=⟨fun{W ρ μ σ H ds xs Q Q'} r e q h k=>by
 cases ds with
 | nil=>exact h.elim
 | cons d ds =>
  obtain⟨x,xs,rfl,q1,q2⟩:=q.uncons;exact⟨x,xs,rfl,a.run r e q1 h fun W1 ρ1 μ1 σ1 H1 le1 r1 e1 l1 s1 h1=>b.run r1 e1 (q2.mono le1) h1 fun W2 ρ2 μ2 σ2 H2 le2 r2 e2 l2 s2 h2=>k W2 ρ2 μ2 σ2 H2 (le1.trans le2) r2 e2 (l2.trans l1) (fun i hi=>by rw[s2 i (fun z=>hi (List.mem_append_right _ z)),s1 i (fun z=>hi (List.mem_append_left _ z))]) h2⟩⟩
instance{n:Nat}{gs:TGs}{dgs:DGs}{S:List Nat}[b:znU K fl gs dgs S]:zic K fl (ztN K n gs) (zem n dgs) S:=⟨fun{W ρ μ σ H d x Q Q'} r e q h k=>by
 cases d<;>first | exact h.elim | skip
 obtain⟨a,xs,rfl,hs,q1⟩:=q.tup';exact⟨a,xs,rfl,hs.sm r.sub,by rw[q1.length];exact h.1,b.run r e q1 h.2 k⟩⟩
instance{g:TG}{dg:DG}{S:List Nat}[a:zN K fl ta wa][b:zic K fl g dg S]:zdb K fl (zdh ta g) (zay wa dg):=⟨fun r e h k=>a.run r e h fun W1 d μ1 x H1 le1 r1 q1 h1=>b.run r1 (e.mono le1) q1 h1 fun W2 ρ2 μ2 σ2 H2 le2 r2 e2 _ _ h2=>k.nx W2 ρ2 μ2 σ2 H2 (le1.trans le2) r2 e2 h2⟩
theorem znt{W:Wd}{μ:Mu}{H:Hp}{d:D}{x:V}{Q:DK}(r:Rel K fl W μ H)(q:Rep K W d x)(h:ziH μ d Q):∃W' d' μ',W.le W'/\Rel K fl W' μ' H/\Rep K W' d' x/\Q d' μ':=by
 unfold ziH at h;split at h
 .rename_i k;obtain⟨a,rfl,hb⟩:=q.cell';split at h
  .rename_i ds hk;obtain⟨a',e1,e2,xs,e3,q3⟩:=r.cel k _ hk;rw[hb] at e1;cases e1;obtain⟨r2,le2⟩:=r.freeze hk hb e3;exact⟨_,_,_,le2,r2, .lst zq (q3.mono le2),h⟩
  .rename_i ks vs hk;obtain⟨a',e1,e2,xs,e3,l3,q3⟩:=r.cel k _ hk;rw[hb] at e1;cases e1;obtain⟨r2,le2⟩:=r.freeze hk hb e3;exact⟨_,_,_,le2,r2,by unfold Rep;exact⟨a,xs,rfl,zq,l3,q3.mono le2⟩,h⟩
  .rename_i ks vs hk;obtain⟨a',e1,e2,xs,e3,l3,q3⟩:=r.cel k _ hk;rw[hb] at e1;cases e1;obtain⟨r2,le2⟩:=r.freeze hk hb e3;exact⟨_,_,_,le2,r2,by unfold Rep;exact⟨a,xs,rfl,zq,l3,q3.mono le2⟩,h⟩
  .rename_i C ns vs hk;obtain⟨a',e1,e2,C',dx,xs,hc,e3,l3,q3⟩:=r.cel k _ hk;rw[hb] at e1;cases e1;obtain⟨r2,le2⟩:=r.freeze hk hb e3;exact⟨_,_,_,le2,r2,by unfold Rep;exact⟨C',a,dx,xs,hc,rfl,zq,l3,q3.mono le2⟩,h⟩
  .exact h.elim
 .exact h.elim
theorem zaS.set_left{W:Wd}{ρ:zX}{σ:St}{i:Nat}{d:D}{x:V}(r:zaS K W ρ σ)(hx:σ[i]? = some (some x))(q:Rep K W d x):zaS K W (ρ.set i (some d)) σ:=⟨by simp[r.1],fun j d' e=>by
 by_cases hj:i=j
 .subst hj;by_cases hl:i < ρ.length
  .rw[List.getElem?_set_self hl] at e;cases e;exact⟨x,hx,q⟩
  .rw[List.getElem?_eq_none (by simp;omega)] at e;cases e
 .rw[List.getElem?_set_ne hj] at e;exact r.2 j d' e⟩
instance{i:Nat}[a:zdb K fl t v]:zdb K fl (znq i t) (zfF i v):=⟨fun{W ρ μ σ H D' D} r e h k=>by
 unfold zfF at h;split at h
 .rename_i d hd;obtain⟨x,ex,qx⟩:=e.2 i d hd;obtain⟨W',d',μ',le,r',q',h'⟩:=znt r qx h;exact a.run r' ((e.mono le).set_left ex q') h' (k.mono le)
 .exact h.elim⟩
end
def zhj(g:DG)(wb:DS)(D:zbB)(Pm:Mu->Prop):List L2.D->zX->Mu->Prop
 | [],ρ,μ=>Pm μ/\D.nx ρ μ
 | d::r,ρ,μ=>Pm μ/\g d ρ μ fun ρ2 μ2=>wb { D with nx:=zhj g wb D Pm r,ct:=zhj g wb D Pm r,bk:=D.nx } ρ2 μ2
def zfY(wi:DI)(g:DG)(wb:DS):DS:=fun D ρ μ=>wi ρ μ fun ds Pm μ1=>zhj g wb D Pm ds ρ μ1
section
variable{K:Frag}{fl:Wd}{tb:TS}{wb:DS}
instance{wi:TI}{di:DI}{g:TG}{dg:DG}{S:List Nat}[a:zke K fl wi di][b:zic K fl g dg S][c:zdb K fl tb wb]:zdb K fl (zwi wi g tb) (zfY di dg wb):=⟨fun{W ρ μ σ H D' D} r e h k =>
 a.run r e h fun W1 J ds Pm μ1 H1 le1 r1 it1 h1=>by
  refine⟨fun i m σ H=>∃W2 ρ2 μ2,W1.le W2/\Rel K fl W2 μ2 H/\zaS K W2 ρ2 σ/\m=ds.length - i/\zhj dg wb D' Pm (ds.drop i) ρ2 μ2,⟨_,W1,ρ,μ1, .refl _,r1,e.mono le1,rfl,h1⟩,?_⟩;rintro i m σ2 H2 ⟨W2,ρ2,μ2,le2,r2,e2,rfl,h2⟩;have hPm:Pm μ2:=by
   cases hdr:ds.drop i with
   | nil=>rw[hdr] at h2;exact h2.1
   | cons _ _=>rw[hdr] at h2;exact h2.1
  obtain⟨go,stop⟩:=it1 W2 μ2 H2 le2 r2 hPm i;by_cases hi:i < ds.length
  .refine .inr ?_;have hd:ds[i]? = some ds[i]:=List.getElem?_eq_getElem hi;obtain⟨g1,g2⟩:=go _ hd;rw[List.drop_eq_getElem_cons hi] at h2;obtain⟨_,h2⟩:=h2;refine⟨g1,fun σ' H'=>∃W3 ρ3 μ3,W1.le W3/\Rel K fl W3 μ3 H'/\zaS K W3 ρ3 σ'/\zhj dg wb D' Pm (ds.drop (i+1)) ρ3 μ3,fun σ' H' ⟨W3,ρ3,μ3,l3,r3,e3,h3⟩=>⟨ds.length - (i+1),by omega,W3,ρ3,μ3,l3,r3,e3,rfl,h3⟩,fun x H' y=>?_⟩;obtain⟨W3,le3,r3,q3⟩:=g2 x H' y;refine b.run r3 (e2.mono le3) q3 h2 fun W4 ρ4 μ4 σ4 H4 le4 r4 e4 _ _ h4=>c.run r4 e4 h4 ⟨fun W5 ρ5 μ5 σ5 H5 le5 r5 e5 h5=>?_,fun W5 ρ5 μ5 σ5 H5 le5 r5 e5 h5=>?_,fun W5 ρ5 μ5 σ5 H5 le5 r5 e5 h5=>?_,fun W5 d5 μ5 x5 H5 le5 r5 e5 h5=>?_⟩
   .exact⟨W5,ρ5,μ5,le2.trans (le3.trans (le4.trans le5)),r5,e5,h5⟩
   .exact k.nx W5 ρ5 μ5 σ5 H5 (le1.trans (le2.trans (le3.trans (le4.trans le5)))) r5 e5 h5
   .exact⟨W5,ρ5,μ5,le2.trans (le3.trans (le4.trans le5)),r5,e5,h5⟩
   .exact k.rt W5 d5 μ5 x5 H5 (le1.trans (le2.trans (le3.trans (le4.trans le5)))) r5 e5 h5
  .rw[List.drop_eq_nil_of_le (by omega)] at h2;exact .inl ⟨stop (by omega),k.nx W2 ρ2 μ2 σ2 H2 (le1.trans le2) r2 e2 h2.2⟩⟩
end
def zej(ρ:zX)(fr:List Nat):zX:=fr.map fun j=>(ρ[j]?).join
def zbe(g:DG)(wc:DT)(we:DE)(ρb:zX)(Pm:Mu->Prop)(Fin:List D->Mu->Prop):List D->List D->Mu->Prop
 | [],ys,μ=>Pm μ/\Fin ys μ
 | d::r,ys,μ=>Pm μ/\ys.length < sizeLine/\g d ρb μ fun ρ2 μ2=>wc ρ2 μ2 fun b μ3=>if b=true then we ρ2 μ3 fun v μ4=>zbe g wc we ρb Pm Fin r (ys++[v]) μ4 else zbe g wc we ρb Pm Fin r ys μ3
def zcO:DT:=fun _ μ Q=>Q true μ
instance{K:Frag}{fl:Wd}:zdV K fl zwE zcO:=⟨fun{W ρ μ σ H Q Q'} r e h k=>k W _ μ H (.refl W) r h⟩
def zbU(own:List Str)(fr:List Nat)(S:List Nat)(wi:DI)(g:DG)(wc:DT)(we:DE):DE:=fun ρ μ Q=>(S.all fun i=>decide (i < own.length))=true/\wi ρ μ fun ds Pm μ1 =>
 zbe g wc we (List.replicate own.length none++zej ρ fr) Pm (fun ys μ2=>Q (.lst ys) μ2) ds [] μ1
def zwU(own:List Str)(fr:List Nat)(S:List Nat)(wi:DI)(g:DG)(wc:DT)(we:DE):DE:=fun ρ μ Q=>(S.all fun i=>decide (i < own.length))=true/\wi ρ μ fun ds Pm μ1 =>
 zbe g wc we (List.replicate own.length none++zej ρ fr) Pm (fun ys μ2=>∀k,μ2 k=none->Q (.cell k) (zH μ2 k (.lst ys))) ds [] μ1
section
variable{K:Frag}{fl:Wd}{te:TE}{we:DE}{tc:TT}{wc:DT}{wi:TI}{di:DI}{g:TG}{dg:DG}{S:List Nat}
theorem zaS.comp{W:Wd}{ρ:zX}{σ:St}(e:zaS K W ρ σ)(own:List Str)(fr:List Nat):zaS K W (List.replicate own.length none++zej ρ fr) (own.map (fun _=>none)++zaq σ fr):=by
 refine⟨by simp[zej,zaq],fun i d h=>?_⟩;by_cases hi:i < own.length
 .rw[List.getElem?_append_left (by simp;exact hi),List.getElem?_replicate] at h;rw[if_pos hi] at h;cases h
 .rw[List.getElem?_append_right (by simp;omega)] at h;rw[List.getElem?_append_right (by simp;omega)];simp only[List.length_replicate,zej,List.getElem?_map] at h;simp only[List.length_map,zaq,List.getElem?_map];cases hj:fr[i - own.length]? with
  | none=>rw[hj] at h;cases h
  | some j =>
   rw[hj] at h;simp only[Option.map_some,Option.some.injEq] at h ⊢;cases hd:ρ[j]? with
   | none=>rw[hd] at h;cases h
   | some o =>
    rw[hd] at h;obtain⟨x,hx,q⟩:=e.2 j d (by rw[hd];simpa using h);exact⟨x,by rw[hx];rfl,q⟩
theorem zrQ(own:List Str)(fr:List Nat)[b:zic K fl g dg S][c:zdV K fl tc wc][v:zN K fl te we]{W1:Wd}{ρ:zX}{μ1:Mu}{σ:St}{H1:Hp}{J:It}{ds:List D}{Pm:Mu->Prop}{Fin:List D->Mu->Prop}{Fin':List V->Hp->Prop}(e:zaS K W1 ρ σ)(r1:Rel K fl W1 μ1 H1)(it1:ItR K fl W1 J ds Pm)
  (hS:(S.all fun i=>decide (i < own.length))=true)(h:zbe dg wc we (List.replicate own.length none++zej ρ fr) Pm Fin ds [] μ1)
  (hF:∀W2 ys μ2 xs H2,W1.le W2->Rel K fl W2 μ2 H2->zr K W2 ys xs->Fin ys μ2->Fin' xs H2) :
  ∃W:Nat->Nat->List V->Hp->Prop,(∃m,W 0 m [] H1)/\zfS J g tc te (own.map (fun _=>none)++zaq σ fr) Fin' W:=by
 refine⟨fun i m xs H=>∃W2 ys μ2,W1.le W2/\Rel K fl W2 μ2 H/\zr K W2 ys xs/\m=ds.length - i/\zbe dg wc we (List.replicate own.length none++zej ρ fr) Pm Fin (ds.drop i) ys μ2,⟨_,W1,[],μ1, .refl _,r1, .nil,rfl,h⟩,?_⟩;rintro i m xs H2 ⟨W2,ys,μ2,le2,r2,q2,rfl,h2⟩;have hPm:Pm μ2:=by
  cases hdr:ds.drop i with
  | nil=>rw[hdr] at h2;exact h2.1
  | cons _ _=>rw[hdr] at h2;exact h2.1
 obtain⟨go,stop⟩:=it1 W2 μ2 H2 le2 r2 hPm i;by_cases hi:i < ds.length
 .refine .inr ?_;have hd:ds[i]? = some ds[i]:=List.getElem?_eq_getElem hi;obtain⟨g1,g2⟩:=go _ hd;rw[List.drop_eq_getElem_cons hi] at h2;obtain⟨_,hz,h2⟩:=h2;refine⟨g1,by rw[q2.length];exact hz,fun xs' H'=>∃W3 ys3 μ3,W1.le W3/\Rel K fl W3 μ3 H'/\zr K W3 ys3 xs'/\zbe dg wc we (List.replicate own.length none++zej ρ fr) Pm Fin (ds.drop (i+1)) ys3 μ3,fun xs' H' ⟨W3,ρ3,μ3,l3,r3,e3,h3⟩=>⟨ds.length - (i+1),by omega,W3,ρ3,μ3,l3,r3,e3,rfl,h3⟩,fun x H' y=>?_⟩;obtain⟨W3,le3,r3,q3⟩:=g2 x H' y;refine b.run r3 (((e.comp own fr).mono le2).mono le3) q3 h2 fun W4 ρ4 μ4 σ4 H4 le4 r4 e4 l4 s4 h4=>⟨⟨l4.symm,fun j v hj=>?_⟩,?_⟩
  .by_cases hjS:j∈S
   .have:j < own.length:=of_decide_eq_true (List.all_eq_true.mp hS j hjS);rw[List.getElem?_append_left (by simp;exact this),List.getElem?_map,List.getElem?_eq_getElem this] at hj;cases hj
   .rw[s4 j hjS];exact hj
  .refine c.run r4 e4 h4 fun W5 bb μ5 H5 le5 r5 h5=>?_
   cases bb with
   | true=>exact v.run r5 (e4.mono le5) h5 fun W6 d6 μ6 x6 H6 le6 r6 q6 h6=>⟨W6,_,μ6,le2.trans (le3.trans (le4.trans (le5.trans le6))),r6,(q2.mono (le3.trans (le4.trans (le5.trans le6)))).append (.cons q6 .nil),h6⟩
   | false=>exact⟨W5,ys,μ5,le2.trans (le3.trans (le4.trans le5)),r5,q2.mono (le3.trans (le4.trans le5)),h5⟩
 .rw[List.drop_eq_nil_of_le (by omega)] at h2;exact .inl ⟨stop (by omega),hF W2 ys μ2 xs H2 le2 r2 q2 h2.2⟩
instance{own:List Str}{fr:List Nat}[a:zke K fl wi di][b:zic K fl g dg S][c:zdV K fl tc wc][v:zN K fl te we]:zN K fl (zl7 own fr wi g tc te) (zbU own fr S di dg wc we):=⟨fun{W ρ μ σ H Q Q'} r e h k =>
 a.run r e h.2 fun W1 J ds Pm μ1 H1 le1 r1 it1 h1=>zrQ own fr (e.mono le1) r1 it1 h.1 h1 fun W2 ys μ2 xs H2 le2 r2 q2 h2 p hp=>by
  obtain⟨r3,le3⟩:=r2.newF (o:= .lst xs) hp;exact k _ _ _ _ _ (le1.trans (le2.trans le3)) r3 (.lst zq (q2.mono le3)) h2⟩
end
def lift(K:Frag)(dsp:DSp):Sp:=fun vs H Q _=>∃fl W μ ds Q0,Rel K fl W μ H/\zr K W ds vs/\dsp ds μ Q0/\KV' K fl W Q0 Q
def dCall(dsp:DSp)(w:DA):DE:=fun ρ μ Q=>w ρ μ fun ds μ1=>dsp ds μ1 Q
instance{K:Frag}{fl:Wd}{dsp:DSp}{E:XK}{t:TA}{w:DA}[a:zbR K fl t w]:zN K fl (zlB (lift K dsp) [] E t) (dCall dsp w):=⟨fun{W ρ μ σ H Q Q'} r e h k =>
 a.run r e h fun W1 ds μ1 xs H1 le1 r1 q1 h1=>⟨fl,W1,μ1,ds,Q,r1,by rw[List.append_nil];exact q1,h1,fun W2 d μ2 x H2 le2=>k W2 d μ2 x H2 (le1.trans le2)⟩⟩
def zie(N:List Str)(ds:List D):zX:=ds.map some++List.replicate (N.length - ds.length) none
theorem zaS.start{K:Frag}{W:Wd}{N:List Str}{ds:List D}{vs:List V}(h:zr K W ds vs):zaS K W (zie N ds) (start N vs):=by
 refine⟨by simp[zie,zqH,h.length],fun i d e=>?_⟩;unfold zie at e;rw[zqH];by_cases hi:i < ds.length
 .rw[List.getElem?_append_left (by simp;exact hi),List.getElem?_map,List.getElem?_eq_getElem hi] at e;simp only[Option.map_some,Option.some.injEq] at e;obtain⟨x,hx,q⟩:=h.get (i:=i) (d:=d) (by rw[List.getElem?_eq_getElem hi,e]);exact⟨x,by rw[List.getElem?_append_left (by simp[h.length];exact hi),List.getElem?_map,hx];rfl,q⟩
 .rw[List.getElem?_append_right (by simp;omega),List.getElem?_replicate] at e;split at e<;>cases e
section
variable{P:Program}{w:World}{K:Frag}{fl:Wd}{mg:Str->Option Value}{base:Heap}
end
section
variable{X:Cx}
end
def zO(μ:Mu):D->Option (List D)
 | .lst ds=>some ds
 | .cell k=>match μ k with
  | some (.lst ds)=>some ds
  | _=>none
 | _=>none
def za0(μ:Mu):D->Option (List D)
 | .tup ds=>some ds
 | d=>zO μ d
section
variable{K:Frag}{fl:Wd}{W:Wd}{μ:Mu}{H:Hp}{d:D}{x:V}{ds:List D}
theorem zau(r:Rel K fl W μ H)(q:Rep K W d x)(h:zO μ d=some ds):∃a xs,x= .ref a/\H a=some (.lst xs)/\zr K W ds xs:=by
 unfold zO at h;split at h
 .cases h;obtain⟨a,xs,rfl,e,z⟩:=q.lst';exact⟨a,xs,rfl,r.sub _ _ e,z⟩
 .rename_i k;obtain⟨a,rfl,hb⟩:=q.cell';split at h
  .rename_i ds' hk;cases h;obtain⟨a',e1,e2,xs,e3,q3⟩:=r.cel k _ hk;rw[hb] at e1;cases e1;exact⟨a,xs,rfl,e3,q3⟩
  .cases h
 .cases h
theorem zbK(r:Rel K fl W μ H)(q:Rep K W d x)(h:za0 μ d=some ds):∃a xs,x= .ref a/\(SqL K H a xs\/SqT K H a xs)/\zr K W ds xs:=by
 unfold za0 at h;split at h
 .cases h;obtain⟨a,xs,rfl,e,z⟩:=q.tup';exact⟨a,xs,rfl, .inr (e.sm r.sub),z⟩
 .obtain⟨a,xs,rfl,e,z⟩:=zau r q h;exact⟨a,xs,rfl, .inl (SqL.of e),z⟩
end
section
variable{X:Cx}
end
def zye:R2:=fun x y H Q=>∃i j,x= .str i/\y= .str j/\i.length+j.length<=sizeLine/\Q (.str (i++j)) H
def zxZ:R2:=rI0 fun i j=> .int (i+j)
def zu1(K:Frag):R2:=fun x y H Q=>zxZ x y H Q\/zye x y H Q\/zym x y H Q\/zrl K x y H Q
theorem zar{X:Cx}(K:Frag)(h:X.K=K:=by rfl):OpR X (binaryOp .Add) (zu1 K):=h▸zkR.or (zmJ.or (zvA.or zoc))
def zbL:DR2:=fun d e μ Q=>match d,e with
 | .int i, .int j=>Q (.int (i+j)) μ
 | .str a, .str b=>a.length+b.length<=sizeLine/\Q (.str (a++b)) μ
 | .tup a, .tup b=>a≠[]/\a.length+b.length<=sizeLine/\Q (.tup (a++b)) μ
 | d,e=>∃a b,zO μ d=some a/\zO μ e=some b/\a.length+b.length<=sizeLine/\Q (.lst (a++b)) μ
instance{K:Frag}{fl:Wd}:zbj K fl (zu1 K) zbL:=⟨fun{W μ H d e x y Q Q'} r q1 q2 h k=>by
 unfold zbL at h;split at h
 .rw[q1.i',q2.i'];exact .inl ⟨_,_,rfl,rfl,k _ _ _ _ _ (.refl _) r .i h⟩
 .rw[q1.s',q2.s'];exact .inr (.inl ⟨_,_,rfl,rfl,h.1,k _ _ _ _ _ (.refl _) r .s h.2⟩)
 .rename_i a b;obtain⟨p,xs,rfl,s1,z1⟩:=q1.tup';obtain⟨p',ys,rfl,s2,z2⟩:=q2.tup';obtain⟨hn,hz,h⟩:=h;refine .inr (.inr (.inr ⟨p,p',xs,ys,rfl,rfl,s1.sm r.sub,s2.sm r.sub,fun z=>?_,by rw[z1.length,z2.length];exact hz,fun z=>?_,fun _ q hq=>?_⟩))
  .have:=z1.length;rw[z] at this;exact hn (List.length_eq_zero_iff.mp this.symm)
  .have:=z2.length;rw[z] at this;have e:b=[]:=List.length_eq_zero_iff.mp this.symm;subst e;rw[List.append_nil] at h;exact k _ _ _ _ _ (.refl _) r q1 h
  .obtain⟨r2,le2⟩:=r.newF (o:= .tup (xs++ys)) hq;exact k _ _ _ _ _ le2 r2 (.tup (SqT.of zq) ((z1.mono le2).append (z2.mono le2))) h
 .obtain⟨a,b,e1,e2,hz,h⟩:=h;obtain⟨p,xs,rfl,s1,z1⟩:=zau r q1 e1;obtain⟨p',ys,rfl,s2,z2⟩:=zau r q2 e2;refine .inr (.inr (.inl ⟨p,p',xs,ys,rfl,rfl,s1,s2,by rw[z1.length,z2.length];exact hz,fun q hq=>?_⟩));obtain⟨r2,le2⟩:=r.newF (o:= .lst (xs++ys)) hq;exact k _ _ _ _ _ le2 r2 (.lst zq ((z1.mono le2).append (z2.mono le2))) h⟩
def dI(C:Int->Int->Prop)(g:Int->Int->D):DR2:=fun d e μ Q=>match d,e with
 | .int i, .int j=>C i j/\Q (g i j) μ
 | _,_=>False
def dI0(g:Int->Int->D):DR2:=fun d e μ Q=>match d,e with
 | .int i, .int j=>Q (g i j) μ
 | _,_=>False
section
variable{K:Frag}{fl:Wd}
theorem zp8{C:Int->Int->Prop}{g:Int->Int->V}{g':Int->Int->D}(hg:∀W i j,Rep K W (g' i j) (g i j)):zbj K fl (rI C g) (dI C g'):=⟨fun{W μ H d e x y Q Q'} r q1 q2 h k=>by
 unfold dI at h;split at h
 .rw[q1.i',q2.i'];exact⟨_,_,rfl,rfl,h.1,k _ _ _ _ _ (.refl _) r (hg _ _ _) h.2⟩
 .exact h.elim⟩
theorem zkO{g:Int->Int->V}{g':Int->Int->D}(hg:∀W i j,Rep K W (g' i j) (g i j)):zbj K fl (rI0 g) (dI0 g'):=⟨fun{W μ H d e x y Q Q'} r q1 q2 h k=>by
 unfold dI0 at h;split at h
 .rw[q1.i',q2.i'];exact⟨_,_,rfl,rfl,k _ _ _ _ _ (.refl _) r (hg _ _ _) h⟩
 .exact h.elim⟩
end
def zoB:DR2:=dI0 fun i j=> .int (i - j)
def znY:DR2:=dI zhf fun i j=> .int (i / j)
def zsL:DR2:=dI (fun _ j=>0 < j) fun i j=> .int (i % j)
def zza:DR2:=dI ztm fun i j=> .int (i^j.toNat)
def dLt:DR2:=dI0 fun i j=> .bl (decide (i < j))
def dLe:DR2:=dI0 fun i j=> .bl (decide (i<=j))
def dGt:DR2:=dI0 fun i j=> .bl (decide (j < i))
def dGe:DR2:=dI0 fun i j=> .bl (decide (j<=i))
def zfz:DR1:=fun d μ Q=>match d with
 | .int i=>Q (.int (-i)) μ
 | _=>False
section
variable{K:Frag}{fl:Wd}
instance:zbj K fl (rI0 fun i j=> .int (i - j)) zoB:=zkO fun _ _ _=> .i
instance:zbj K fl (rI zhf fun i j=> .int (i / j)) znY:=zp8 fun _ _ _=> .i
instance:zbj K fl (rI (fun _ j=>0 < j) fun i j=> .int (i % j)) zsL:=zp8 fun _ _ _=> .i
instance:zbj K fl (rI0 fun i j=> .bl (decide (i < j))) dLt:=zkO fun _ _ _=> .b
instance:zbj K fl (rI0 fun i j=> .bl (decide (i<=j))) dLe:=zkO fun _ _ _=> .b
instance:zuY K fl (rU fun i=> .int (-i)) zfz:=⟨fun{W μ H d x Q Q'} r q h k=>by
 unfold zfz at h;split at h
 .rw[q.i'];exact⟨_,rfl,k _ _ _ _ _ (.refl _) r .i h⟩
 .exact h.elim⟩
end
def zy1:R2:=rI ziN fun i j=> .int (i*j)
def znT:R2:=fun x y H Q=>zy1 x y H Q\/zxH x y H Q
theorem zth{X:Cx}:OpR X (binaryOp .Mult) znT:=zqM.or zwh
def zrz:DR2:=fun d e μ Q=>match d,e with
 | .int i, .int j=>ziN i j/\Q (.int (i*j)) μ
 | d, .int j=>∃a,zO μ d=some a/\ -(2^63)<=j/\j < 2^63/\a.length*j.toNat<=sizeLine/\Q (.lst (List.replicate j.toNat a).flatten) μ
 | _,_=>False
theorem zr.rep{K:Frag}{W:Wd}{ds:List D}{xs:List V}(h:zr K W ds xs):∀n:Nat,zr K W (List.replicate n ds).flatten (List.replicate n xs).flatten
 | 0=> .nil
 | n+1=>by rw[List.replicate_succ,List.replicate_succ,List.flatten_cons,List.flatten_cons];exact h.append (zr.rep h n)
instance{K:Frag}{fl:Wd}:zbj K fl znT zrz:=⟨fun{W μ H d e x y Q Q'} r q1 q2 h k=>by
 unfold zrz at h;split at h
 .rw[q1.i',q2.i'];exact .inl ⟨_,_,rfl,rfl,h.1,k _ _ _ _ _ (.refl _) r .i h.2⟩
 .rename_i j _;obtain⟨a,e1,h1,h2,hz,h⟩:=h;obtain⟨p,xs,rfl,s1,z1⟩:=zau r q1 e1;rw[q2.i'];refine .inr ⟨p,_,xs,rfl,rfl,s1,h1,h2,by rw[z1.length];exact hz,fun q hq=>?_⟩;obtain⟨r2,le2⟩:=r.newF (o:= .lst (List.replicate j.toNat xs).flatten) hq;exact k _ _ _ _ _ le2 r2 (.lst zq ((z1.mono le2).rep _)) h
 .exact h.elim⟩
def zyp:DR2:=fun d e μ Q=>match d,e with
 | .int i, .int j=>Q (.int (i+j)) μ
 | .cell k,e=>∃a b,μ k=some (.lst a)/\zO μ e=some b/\a.length+b.length<=sizeLine/\Q (.cell k) (zH μ k (.lst (a++b)))
 | _,_=>False
def zxJ:DR2:=dI0 fun i j=> .int (i - j)
def zx9:DR2:=dI ziN fun i j=> .int (i*j)
theorem zr.atI{K:Frag}{W:Wd}{ds:List D}{xs:List V}{i:Int}{d:D}(h:zr K W ds xs)(e:L2.atI ds i=some d):∃x,L2.atI xs i=some x/\Rep K W d x:=by
 unfold L2.atI at *;rw[h.length];cases hn:ixN ds.length i with
 | none=>rw[hn] at e;cases e
 | some j =>
  rw[hn] at e;exact h.get e
def dIx:DR2:=fun d e μ Q=>match d,e with
 | .str z, .int i=>z.length<=sizeLine/\(match L2.atI z.cps.toList i with
  | some c=>Q (.str ⟨#[c]⟩) μ
  | none=>False)
 | d, .int i=>match za0 μ d with
  | some ds=>match L2.atI ds i with
   | some v=>Q v μ
   | none=>False
  | none=>False
 | _,_=>False
instance{K:Frag}{fl:Wd}:zbj K fl (rIx K) dIx:=⟨fun{W μ H d e x y Q Q'} r q1 q2 h k=>by
 unfold dIx at h;split at h
 .rename_i z i;obtain⟨hz,h⟩:=h;split at h
  .rename_i c hc;rw[q1.s',q2.i'];exact .inr (.inr ⟨z,i,c,rfl,rfl,hz,hc,k _ _ _ _ _ (.refl _) r .s h⟩)
  .exact h.elim
 .rename_i i _;split at h
  .rename_i ds hds;obtain⟨p,xs,rfl,s1,z1⟩:=zbK r q1 hds;split at h
   .rename_i v hv;obtain⟨w,ew,qw⟩:=z1.atI hv;rw[q2.i'];rcases s1 with s1 | s1
    .exact .inl ⟨p,xs,i,w,rfl,rfl,s1,ew,k _ _ _ _ _ (.refl _) r qw h⟩
    .exact .inr (.inl ⟨p,xs,i,w,rfl,rfl,s1,ew,k _ _ _ _ _ (.refl _) r qw h⟩)
   .exact h.elim
  .exact h.elim
 .exact h.elim⟩
theorem zt6{X:Cx}(K:Frag)(h:X.K=K:=by rfl):IxR X (rIx K):=h▸zv2
def zag:DO:=fun _ μ Q=>Q none μ
def zaG(w:DE):DO:=fun ρ μ Q=>w ρ μ fun d μ1=>match d with
 | .int i=>Q (some i) μ1
 | _=>False
abbrev DSl:=D->Option Int->Option Int->Mu->DK->Prop
class zuV(K:Frag)(fl:Wd)(r:V->Option Int->Option Int->Hp->VK->Prop)(q:DSl):Prop where
 run:∀{W μ H d x lo hi Q Q'},Rel K fl W μ H->Rep K W d x->q d lo hi μ Q->KV' K fl W Q Q'->r x lo hi H Q'
def dSl(q:DSl)(we:DE)(wl wh:DO):DE:=fun ρ μ Q=>we ρ μ fun d μ1=>wl ρ μ1 fun l μ2=>wh ρ μ2 fun u μ3=>q d l u μ3 Q
section
variable{K:Frag}{fl:Wd}{te:TE}{we:DE}{tl th:TO}{wl wh:DO}
instance:zm6 K fl zjU zag:=⟨fun{W ρ μ σ H Q Q'} r e h k=>k W _ μ H (.refl W) r h⟩
instance[a:zN K fl te we]:zm6 K fl (zrp te) (zaG we):=⟨fun r e h k=>a.run r e h fun W1 d μ1 x H1 le1 r1 q1 h1=>by
 cases d<;>first | exact h1.elim | skip
 exact⟨_,q1.i',k W1 _ μ1 H1 le1 r1 h1⟩⟩
instance{r:V->Option Int->Option Int->Hp->VK->Prop}{q:DSl}[a:zN K fl te we][b:zm6 K fl tl wl][c:zm6 K fl th wh][o:zuV K fl r q]:zN K fl (tSl r te tl th) (dSl q we wl wh):=⟨fun r e h k =>
 a.run r e h fun W1 d μ1 x H1 le1 r1 q1 h1=>b.run r1 (e.mono le1) h1 fun W2 l μ2 H2 le2 r2 h2=>c.run r2 (e.mono (le1.trans le2)) h2 fun W3 u μ3 H3 le3 r3 h3=>o.run r3 (q1.mono (le2.trans le3)) h3 fun W4 d4 μ4 x4 H4 le4 r4 q4 h4=>k W4 d4 μ4 x4 H4 (le1.trans (le2.trans (le3.trans le4))) r4 q4 h4⟩
end
def cutD{α:Type}(xs:List α)(lo hi:Option Int):List α:=(xs.drop (HT.sIx xs.length 0 lo)).take (HT.sIx xs.length xs.length hi - HT.sIx xs.length 0 lo)
theorem zr.cut{K:Frag}{W:Wd}{ds:List D}{xs:List V}(h:zr K W ds xs)(lo hi:Option Int):zr K W (cutD ds lo hi) (zgQ xs lo hi):=by
 unfold cutD zgQ;rw[h.length];exact(h.drop _).take _
def zyL(K:Frag):V->Option Int->Option Int->Hp->VK->Prop:=fun x lo hi H Q=>zwV K x lo hi H Q\/zxI K x lo hi H Q
theorem zd9{X:Cx}(K:Frag)(h:X.K=K:=by rfl):SlR X (zyL K):=h▸znH.or zvr
def za6:DSl:=fun d lo hi μ Q=>match d with
 | .tup ds=>¬ (HT.sIx ds.length 0 lo=0/\HT.sIx ds.length ds.length hi=ds.length)/\Q (.tup (cutD ds lo hi)) μ
 | d=>match zO μ d with
  | some ds=>Q (.lst (cutD ds lo hi)) μ
  | none=>False
instance{K:Frag}{fl:Wd}:zuV K fl (zyL K) za6:=⟨fun{W μ H d x lo hi Q Q'} r q1 h k=>by
 unfold za6 at h;split at h
 .obtain⟨p,xs,rfl,s1,z1⟩:=q1.tup';refine .inr ⟨p,xs,rfl,s1.sm r.sub,by rw[z1.length];exact h.1,fun q hq=>?_⟩;obtain⟨r2,le2⟩:=r.newF (o:= .tup (zgQ xs lo hi)) hq;exact k _ _ _ _ _ le2 r2 (.tup (SqT.of zq) ((z1.mono le2).cut _ _)) h.2
 .split at h
  .rename_i ds hds;obtain⟨p,xs,rfl,s1,z1⟩:=zau r q1 hds;refine .inl ⟨p,xs,rfl,SqL.of s1,fun q hq=>?_⟩;obtain⟨r2,le2⟩:=r.newF (o:= .lst (zgQ xs lo hi)) hq;exact k _ _ _ _ _ le2 r2 (.lst zq ((z1.mono le2).cut _ _)) h
  .exact h.elim⟩
mutual
def toPy:D->Option PyData
 | .non=>some .none
 | .bl b=>some (.bool b)
 | .int i=>some (.int i)
 | .str x=>some (.str x)
 | .tup ds=>(zbh ds).map .tuple
 | .lst ds=>(zbh ds).map .list
 | _=>none
def zbh:List D->Option (List PyData)
 | []=>some []
 | d::ds=>match toPy d,zbh ds with
  | some p,some ps=>some (p::ps)
  | _,_=>none
end
def zfn(μ:Mu):D->Option PyData
 | .cell k=>match μ k with
  | some (.lst ds)=>(zbh ds).map .list
  | _=>none
 | d=>toPy d
section
variable{K:Frag}{fl:Wd}{W:Wd}{H:Hp}
mutual
theorem zlw(s:zh3 W.F H):∀{d:D} {p:PyData} {x:V},toPy d=some p->Rep K W d x->Dat K H p x
 | .non,_,_,e,q=>by unfold toPy at e;cases e;rw[q.n'];exact .n
 | .bl _,_,_,e,q=>by unfold toPy at e;cases e;rw[q.b'];exact .b
 | .int _,_,_,e,q=>by unfold toPy at e;cases e;rw[q.i'];exact .i
 | .str _,_,_,e,q=>by unfold toPy at e;cases e;rw[q.s'];exact .s
 | .tup ds,_,_,e,q=>by
  unfold toPy at e;obtain⟨a,xs,rfl,h,z⟩:=q.tup';cases e1:zbh ds with
  | none=>rw[e1] at e;cases e
  | some ps=>rw[e1] at e;cases e;exact .tup (h.sm s) (zd3 s e1 z)
 | .lst ds,_,_,e,q=>by
  unfold toPy at e;obtain⟨a,xs,rfl,h,z⟩:=q.lst';cases e1:zbh ds with
  | none=>rw[e1] at e;cases e
  | some ps=>rw[e1] at e;cases e;exact .lst (SqL.of (s _ _ h)) (zd3 s e1 z)
 | .ty _,_,_,e,_=>by unfold toPy at e;cases e
 | .cls _,_,_,e,_=>by unfold toPy at e;cases e
 | .scr _,_,_,e,_=>by unfold toPy at e;cases e
 | .cell _,_,_,e,_=>by unfold toPy at e;cases e
 | .dct _ _,_,_,e,_=>by unfold toPy at e;cases e
 | .dtt _ _,_,_,e,_=>by unfold toPy at e;cases e
 | .obj _ _ _,_,_,e,_=>by unfold toPy at e;cases e
theorem zd3(s:zh3 W.F H):∀{ds:List D} {ps:List PyData} {xs:List V},zbh ds=some ps->zr K W ds xs->zcT K H ps xs
 | [],_,_,e,q=>by unfold zbh at e;cases e;rw[q.nil'];exact .nil
 | d::ds,_,_,e,q=>by
  unfold zbh at e;obtain⟨x,r,rfl,q1,q2⟩:=q.uncons;cases e1:toPy d with
  | none=>rw[e1] at e;cases e
  | some p =>
   cases e2:zbh ds with
   | none=>rw[e1,e2] at e;cases e
   | some ps=>rw[e1,e2] at e;cases e;exact .cons (zlw s e1 q1) (zd3 s e2 q2)
end
theorem zd7{μ:Mu}{d:D}{p:PyData}{x:V}(r:Rel K fl W μ H)(e:zfn μ d=some p)(q:Rep K W d x):Dat K H p x:=by
 unfold zfn at e;split at e
 .rename_i k;obtain⟨a,rfl,hb⟩:=q.cell';split at e
  .rename_i ds hk;obtain⟨a',e1,e2,xs,e3,q3⟩:=r.cel k _ hk;rw[hb] at e1;cases e1;cases e4:zbh ds with
   | none=>rw[e4] at e;cases e
   | some ps=>rw[e4] at e;cases e;exact .lst (SqL.of e3) (zd3 r.sub e4 q3)
  .cases e
 .exact zlw r.sub e q
end
def zyE(K:Frag)(neg:Bool):R2:=fun x y H Q=>∃d d',Dat K H d x/\Dat K H d' y/\zgU d/\zgU d'/\Q (.bl (if neg then !PyData.eqv d d' else PyData.eqv d d')) H
def zyO(K:Frag):R2:=fun x y H Q=>rEq x y H Q\/zyE K false x y H Q
def zxK(K:Frag):R2:=fun x y H Q=>rNe x y H Q\/zyE K true x y H Q
theorem zeY{X:Cx}(K:Frag){k:Nat}{cm:Bool}(hr:zaA cm k X.A)(h:X.K=K:=by rfl):OpR X (compareOp .Eq) (zyO K):=zu5.or (zwo K hr h)
theorem zih{X:Cx}(K:Frag){k:Nat}{cm:Bool}(hr:zaA cm k X.A)(h:X.K=K:=by rfl):OpR X (compareOp .NotEq) (zxK K):=zyK.or (zxB K hr h)
def zhO(neg:Bool):DR2:=fun d e μ Q=>match d,e with
 | .int i, .int j=>Q (.bl (neg ^^ decide (i=j))) μ
 | .str i, .str j=>Q (.bl (neg ^^ decide (i=j))) μ
 | .bl i, .bl j=>Q (.bl (neg ^^ decide (i=j))) μ
 | d,e=>match zfn μ d,zfn μ e with
  | some p,some q=>zgU p/\zgU q/\Q (.bl (neg ^^ PyData.eqv p q)) μ
  | _,_=>False
def dEq:DR2:=zhO false
def dNe:DR2:=zhO true
theorem zqf(i j:Int):decide (V.int i=V.int j)=decide (i=j):=by by_cases h:i=j<;>simp[h]
theorem zsF(i j:Str):decide (V.str i=V.str j)=decide (i=j):=by by_cases h:i=j<;>simp[h]
theorem zuI(i j:Bool):decide (V.bl i=V.bl j)=decide (i=j):=by by_cases h:i=j<;>simp[h]
instance{K:Frag}{fl:Wd}:zbj K fl (zyO K) dEq:=⟨fun{W μ H d e x y Q Q'} r q1 q2 h k=>by
 unfold dEq zhO at h;simp only[Bool.false_xor] at h;split at h
 .rw[q1.i',q2.i'];exact .inl ⟨rfl,k _ _ _ _ _ (.refl _) r (by rw[zqf];exact .b) h⟩
 .rw[q1.s',q2.s'];exact .inl ⟨rfl,k _ _ _ _ _ (.refl _) r (by rw[zsF];exact .b) h⟩
 .rw[q1.b',q2.b'];exact .inl ⟨rfl,k _ _ _ _ _ (.refl _) r (by rw[zuI];exact .b) h⟩
 .split at h
  .rename_i p q e1 e2;exact .inr ⟨p,q,zd7 r e1 q1,zd7 r e2 q2,h.1,h.2.1,k _ _ _ _ _ (.refl _) r .b h.2.2⟩
  .exact h.elim⟩
instance{K:Frag}{fl:Wd}:zbj K fl (zxK K) dNe:=⟨fun{W μ H d e x y Q Q'} r q1 q2 h k=>by
 unfold dNe zhO at h;simp only[Bool.true_xor] at h;split at h
 .rw[q1.i',q2.i'];exact .inl ⟨rfl,k _ _ _ _ _ (.refl _) r (by rw[zqf];exact .b) h⟩
 .rw[q1.s',q2.s'];exact .inl ⟨rfl,k _ _ _ _ _ (.refl _) r (by rw[zsF];exact .b) h⟩
 .rw[q1.b',q2.b'];exact .inl ⟨rfl,k _ _ _ _ _ (.refl _) r (by rw[zuI];exact .b) h⟩
 .split at h
  .rename_i p q e1 e2;exact .inr ⟨p,q,zd7 r e1 q1,zd7 r e2 q2,h.1,h.2.1,k _ _ _ _ _ (.refl _) r .b h.2.2⟩
  .exact h.elim⟩
def zdT:D->Bool
 | .non=>true
 | _=>false
def dIs:DR2:=fun d e μ Q=>match e with
 | .non=>Q (.bl (zdT d)) μ
 | _=>False
def zvV:DR2:=fun d e μ Q=>match e with
 | .non=>Q (.bl (!zdT d)) μ
 | _=>False
def zij:D->Option V
 | .non=>some .non
 | .bl b=>some (.bl b)
 | .int i=>some (.int i)
 | .str x=>some (.str x)
 | _=>none
def zcN:List D->Option (List V)
 | []=>some []
 | d::ds=>match zij d,zcN ds with
  | some x,some xs=>some (x::xs)
  | _,_=>none
theorem zjv{K:Frag}{W:Wd}{d:D}{x v:V}(e:zij d=some v)(q:Rep K W d x):x=v/\zeF v=true:=by
 cases d<;>simp only[zij,Option.some.injEq,reduceCtorEq] at e
 .rw[<- e];exact⟨q.n',rfl⟩
 .rw[<- e];exact⟨q.b',rfl⟩
 .rw[<- e];exact⟨q.i',rfl⟩
 .rw[<- e];exact⟨q.s',rfl⟩
theorem zhK{K:Frag}{W:Wd}:∀{ds:List D} {xs vs:List V},zcN ds=some vs->zr K W ds xs->xs=vs/\vs.all zeF=true
 | [],_,_,e,q=>by unfold zcN at e;cases e;exact⟨q.nil',rfl⟩
 | d::ds,_,_,e,q=>by
  unfold zcN at e;obtain⟨x,r,rfl,q1,q2⟩:=q.uncons;cases e1:zij d with
  | none=>rw[e1] at e;cases e
  | some v =>
   cases e2:zcN ds with
   | none=>rw[e1,e2] at e;cases e
   | some vs =>
    rw[e1,e2] at e;cases e;obtain⟨a,b⟩:=zjv e1 q1;obtain⟨c,f⟩:=zhK e2 q2;exact⟨by rw[a,c],by rw[List.all_cons,b,f];rfl⟩
def zbA(neg:Bool):DR2:=fun d e μ Q=>match za0 μ e with
 | some ds=>match zij d,zcN ds with
  | some v,some vs=>Q (.bl (if neg then !inV v vs else inV v vs)) μ
  | _,_=>False
 | none=>False
instance{K:Frag}{fl:Wd}{neg:Bool}:zbj K fl (rIn K neg) (zbA neg):=⟨fun{W μ H d e x y Q Q'} r q1 q2 h k=>by
 unfold zbA at h;split at h
 .rename_i ds hds;obtain⟨p,xs,rfl,s1,z1⟩:=zbK r q2 hds;split at h
  .rename_i v vs e1 e2;obtain⟨a,b⟩:=zjv e1 q1;obtain⟨c,f⟩:=zhK e2 z1;subst a c;exact⟨p,_,rfl,s1,b,f,k _ _ _ _ _ (.refl _) r .b h⟩
  .exact h.elim
 .exact h.elim⟩
def dCB(q:DRs)(w:DA):DE:=fun ρ μ Q=>w ρ μ fun ds μ1=>q ds μ1 Q
instance{K:Frag}{fl:Wd}{r:List V->Hp->VK->Prop}{q:DRs}{t:TA}{w:DA}[a:zbR K fl t w][o:zbg K fl r q]:zN K fl (tCB r t) (dCB q w):=⟨fun r e h k =>
 a.run r e h fun W1 ds μ1 xs H1 le1 r1 q1 h1=>o.run r1 q1 h1 fun W2 d μ2 x H2 le2=>k W2 d μ2 x H2 (le1.trans le2)⟩
section
variable{X:Cx}(K:Frag)
def zx2:List V->Hp->VK->Prop:=fun xs H Q=>∃p ys,xs=[.ref p]/\(SqL K H p ys\/SqT K H p ys)/\Q (.int ys.length) H
def zyY:List V->Hp->VK->Prop:=fun xs H Q=>∃z,xs=[.str z]/\z.length<=sizeLine/\Q (.int z.length) H
def zuB:List V->Hp->VK->Prop:=fun xs H Q=>zx2 K xs H Q\/zyY xs H Q
theorem zQ(h:X.K=K:=by rfl):zL X (.builtin "len") (zuB K):=h▸zfq.or zjN
def zxE:List V->Hp->VK->Prop:=fun xs H Q=>∃i j,xs=[.int i, .int j]/\Q (.int (if j > i then j else i)) H
def zx5:List V->Hp->VK->Prop:=fun xs H Q=>∃p ns,xs=[.ref p]/\SqL K H p (ns.map V.int)/\ns≠[]/\∀M∈ns,(∀a∈ns,a<=M)->Q (.int M) H
def zuS:List V->Hp->VK->Prop:=fun xs H Q=>zxE xs H Q\/zx5 K xs H Q
def zx0:List V->Hp->VK->Prop:=fun xs H Q=>∃i j,xs=[.int i, .int j]/\Q (.int (if j < i then j else i)) H
def zx8:List V->Hp->VK->Prop:=fun xs H Q=>∃p ns,xs=[.ref p]/\SqL K H p (ns.map V.int)/\ns≠[]/\∀M∈ns,(∀a∈ns,M<=a)->Q (.int M) H
def zuM:List V->Hp->VK->Prop:=fun xs H Q=>zx0 xs H Q\/zx8 K xs H Q
theorem zoo(hc:X.calm=true:=by rfl)(h:X.K=K:=by rfl):zL X (.builtin "max") (zuS K):=(zon hc).or (zo4 K hc h)
theorem zjh(hc:X.calm=true:=by rfl)(h:X.K=K:=by rfl):zL X (.builtin "min") (zuM K):=(zpE hc).or (zog K hc h)
def zxX:List V->Hp->VK->Prop:=fun xs H Q=>∃(p:Addr) (bs:List Bool),xs=[.ref p]/\SqL K H p (bs.map V.bl)/\Q (.bl (bs.all id)) H
def zxV:List V->Hp->VK->Prop:=fun xs H Q=>∃(p:Addr) (bs:List Bool),xs=[.ref p]/\SqL K H p (bs.map V.bl)/\Q (.bl (bs.any id)) H
def zxW:List V->Hp->VK->Prop:=fun xs H Q=>∃(p:Addr) (ns:List Int),xs=[.ref p]/\SqL K H p (ns.map V.int)/\Q (.int ns.sum) H
theorem zoC(hc:X.calm=true:=by rfl)(h:X.K=K:=by rfl):zL X (.builtin "sum") (zxW K):=by
 subst h;intro pins s σ H xs us Q I r h;obtain⟨p,ns,rfl,hl,q⟩:=h;obtain⟨u,rfl,rx⟩:=vals1 r;cases rx;obtain⟨its,r',pl,hz⟩:=I.list hl;have hi:=zci r';obtain⟨ys,e⟩:=hi.allInts.items;have hns:ns=ys.toList.map (·.1):=by rw[<- hi.numsOf,<- nums_intItems,<- e]
 have hl':=pl.isList;rw[e] at hl';refine sum_intListG (I.ok.hd hc) hl' fun h' tk t' hk=>?_
 refine⟨.int _,H,I.kept hk,⟨t',rfl⟩,?_⟩;rw[preSum_eq,List.take_of_length_le (by simp),<- hns];exact q
def zvk:List V->Hp->VK->Prop:=fun xs H Q=>∃x c t b,xs=[x,c]/\zed K H x t/\(∀u,RelV c u->kitOne K t u=some b)/\Q (.bl b) H
def zri:List V->Hp->VK->Prop:=fun xs H Q=>∃p ys,xs=[.ref p]/\(SqL K H p ys\/SqT K H p ys)/\∀l,H l=none->Q (.ref l) (upd H l (.lst ys))
def zsI:List V->Hp->VK->Prop:=fun xs H Q=>∃p ys,xs=[.ref p]/\((SqL K H p ys/\∀l,H l=none->Q (.ref l) (upd H l (.tup ys)))\/(SqT K H p ys/\Q (.ref p) H))
theorem zjg(hc:X.calm=true:=by rfl)(h:X.K=K:=by rfl):zL X (.builtin "all") (zxX K):=zoG K hc h
theorem zof(hc:X.calm=true:=by rfl)(h:X.K=K:=by rfl):zL X (.builtin "any") (zxV K):=zpk K hc h
theorem zoL(h:X.K=K:=by rfl):zL X (.builtin "isinstance") (zvk K):=zj4 K h
theorem zeL(h:X.K=K:=by rfl):zL X (.type "list") (zri K):=zhd K h
theorem zgC(h:X.K=K:=by rfl):zL X (.type "tuple") (zsI K):=zlT K h
end
def zb9:DRs:=fun ds μ Q=>match ds with
 | [.str z]=>z.length<=sizeLine/\Q (.int z.length) μ
 | [d]=>match za0 μ d with
  | some es=>Q (.int es.length) μ
  | none=>False
 | _=>False
def zy9:DRs:=fun ds μ Q=>match ds with
 | [.int i]=>Q (.int (if i < 0 then -i else i)) μ
 | _=>False
def intsOf:List D->Option (List Int)
 | []=>some []
 | .int i::r=>match intsOf r with
  | some l=>some (i::l)
  | none=>none
 | _=>none
def zbC:List D->Option (List Bool)
 | []=>some []
 | .bl i::r=>match zbC r with
  | some l=>some (i::l)
  | none=>none
 | _=>none
theorem zjj:∀{ds:List D} {ns:List Int},intsOf ds=some ns->ds=ns.map D.int
 | [],_,h=>by cases h;rfl
 | d::r,ns,h=>by
  cases d<;>simp only[intsOf,reduceCtorEq] at h
  cases e:intsOf r with
  | none=>rw[e] at h;cases h
  | some l=>rw[e] at h;cases h;rw[zjj e];rfl
theorem zl3:∀{ds:List D} {ns:List Bool},zbC ds=some ns->ds=ns.map D.bl
 | [],_,h=>by cases h;rfl
 | d::r,ns,h=>by
  cases d<;>simp only[zbC,reduceCtorEq] at h
  cases e:zbC r with
  | none=>rw[e] at h;cases h
  | some l=>rw[e] at h;cases h;rw[zl3 e];rfl
theorem zeR:∀ns:List Int,intsOf (ns.map D.int)=some ns
 | []=>rfl
 | _::r=>by rw[List.map_cons,intsOf,zeR r]
theorem zi7:∀ns:List Bool,zbC (ns.map D.bl)=some ns
 | []=>rfl
 | _::r=>by rw[List.map_cons,zbC,zi7 r]
def zpo:DRs:=fun ds μ Q=>match ds with
 | [.int i, .int j]=>Q (.int (if j > i then j else i)) μ
 | [d]=>match (zO μ d).bind intsOf with
  | some ns=>ns≠[]/\∀M∈ns,(∀a∈ns,a<=M)->Q (.int M) μ
  | none=>False
 | _=>False
def zm7:DRs:=fun ds μ Q=>match ds with
 | [.int i, .int j]=>Q (.int (if j < i then j else i)) μ
 | [d]=>match (zO μ d).bind intsOf with
  | some ns=>ns≠[]/\∀M∈ns,(∀a∈ns,M<=a)->Q (.int M) μ
  | none=>False
 | _=>False
def zq1:DRs:=fun ds μ Q=>match ds with
 | [d]=>match (zO μ d).bind intsOf with
  | some ns=>Q (.int ns.sum) μ
  | none=>False
 | _=>False
def zpn:DRs:=fun ds μ Q=>match ds with
 | [d]=>match (zO μ d).bind zbC with
  | some bs=>Q (.bl (bs.all id)) μ
  | none=>False
 | _=>False
def zqQ:DRs:=fun ds μ Q=>match ds with
 | [d]=>match (zO μ d).bind zbC with
  | some bs=>Q (.bl (bs.any id)) μ
  | none=>False
 | _=>False
def zjJ:DRs:=fun ds μ Q=>match ds with
 | [d]=>match za0 μ d with
  | some es=>Q (.lst es) μ
  | none=>False
 | _=>False
def zhc:DRs:=fun ds μ Q=>match ds with
 | [d]=>match za0 μ d with
  | some es=>∀k,μ k=none->Q (.cell k) (zH μ k (.lst es))
  | none=>False
 | _=>False
def zdW:DRs:=fun ds μ Q=>match ds with
 | [d]=>match za0 μ d with
  | some es=>Q (.tup es) μ
  | none=>False
 | _=>False
def tyD(μ:Mu):D->Option String
 | .non=>some "NoneType"
 | .bl _=>some "bool"
 | .int _=>some "int"
 | .str _=>some "str"
 | .lst _=>some "list"
 | .cell k=>match μ k with
  | some (.lst _)=>some "list"
  | some (.dct _ _)=>some "dict"
  | some (.dtt _ _)=>some "dict"
  | _=>none
 | .dct _ _=>some "dict"
 | .dtt _ _=>some "dict"
 | _=>none
def zae:List String:=["int","bool","str","list","tuple","dict"]
def zfr(t T:String):Bool:=t==T||(t=="bool"&&T=="int")
def zq7:DRs:=fun ds μ Q=>match ds with
 | [d, .ty T]=>match tyD μ d with
  | some t=>T∈zae/\Q (.bl (zfr t T)) μ
  | none=>False
 | _=>False
section
variable{K:Frag}{fl:Wd}{W:Wd}{μ:Mu}{H:Hp}
theorem zr.one{d:D}{xs:List V}(h:zr K W [d] xs):∃x,xs=[x]/\Rep K W d x:=by
 obtain⟨x,r,rfl,q,z⟩:=h.uncons;rw[z.nil'];exact⟨x,rfl,q⟩
theorem zr.two{d e:D}{xs:List V}(h:zr K W [d,e] xs):∃x y,xs=[x,y]/\Rep K W d x/\Rep K W e y:=by
 obtain⟨x,r,rfl,q,z⟩:=h.uncons;obtain⟨y,rfl,q2⟩:=z.one;exact⟨x,y,rfl,q,q2⟩
instance:zbg K fl (zuB K) zb9:=⟨fun{W μ H ds xs Q Q'} r z h k=>by
 unfold zb9 at h;split at h
 .obtain⟨x,rfl,q⟩:=z.one;rw[q.s'];exact .inr ⟨_,rfl,h.1,k _ _ _ _ _ (.refl _) r .i h.2⟩
 .obtain⟨x,rfl,q⟩:=z.one;split at h
  .rename_i es he;obtain⟨p,ys,rfl,s1,z1⟩:=zbK r q he;exact .inl ⟨p,ys,rfl,s1,k _ _ _ _ _ (.refl _) r (by rw[z1.length];exact .i) h⟩
  .exact h.elim
 .exact h.elim⟩
theorem zga{d:D}{x:V}{ns:List Int}(r:Rel K fl W μ H)(q:Rep K W d x)(h:(zO μ d).bind intsOf=some ns):∃a,x= .ref a/\SqL K H a (ns.map V.int):=by
 cases e:zO μ d with
 | none=>rw[e] at h;cases h
 | some ds =>
  rw[e] at h;obtain⟨a,xs,rfl,e1,z⟩:=zau r q e;have:=zjj h;subst this;rw[z.ints] at e1;exact⟨a,rfl,SqL.of e1⟩
theorem zle{d:D}{x:V}{ns:List Bool}(r:Rel K fl W μ H)(q:Rep K W d x)(h:(zO μ d).bind zbC=some ns):∃a,x= .ref a/\SqL K H a (ns.map V.bl):=by
 cases e:zO μ d with
 | none=>rw[e] at h;cases h
 | some ds =>
  rw[e] at h;obtain⟨a,xs,rfl,e1,z⟩:=zau r q e;have:=zl3 h;subst this;rw[z.bls] at e1;exact⟨a,rfl,SqL.of e1⟩
instance:zbg K fl (zuS K) zpo:=⟨fun{W μ H ds xs Q Q'} r z h k=>by
 unfold zpo at h;split at h
 .obtain⟨x,y,rfl,q1,q2⟩:=z.two;rw[q1.i',q2.i'];exact .inl ⟨_,_,rfl,k _ _ _ _ _ (.refl _) r .i h⟩
 .obtain⟨x,rfl,q⟩:=z.one;split at h
  .rename_i ns hn;obtain⟨a,rfl,s⟩:=zga r q hn;exact .inr ⟨a,ns,rfl,s,h.1,fun M hM hb=>k _ _ _ _ _ (.refl _) r .i (h.2 M hM hb)⟩
  .exact h.elim
 .exact h.elim⟩
instance:zbg K fl (zuM K) zm7:=⟨fun{W μ H ds xs Q Q'} r z h k=>by
 unfold zm7 at h;split at h
 .obtain⟨x,y,rfl,q1,q2⟩:=z.two;rw[q1.i',q2.i'];exact .inl ⟨_,_,rfl,k _ _ _ _ _ (.refl _) r .i h⟩
 .obtain⟨x,rfl,q⟩:=z.one;split at h
  .rename_i ns hn;obtain⟨a,rfl,s⟩:=zga r q hn;exact .inr ⟨a,ns,rfl,s,h.1,fun M hM hb=>k _ _ _ _ _ (.refl _) r .i (h.2 M hM hb)⟩
  .exact h.elim
 .exact h.elim⟩
instance:zbg K fl (zxW K) zq1:=⟨fun{W μ H ds xs Q Q'} r z h k=>by
 unfold zq1 at h;split at h
 .obtain⟨x,rfl,q⟩:=z.one;split at h
  .rename_i ns hn;obtain⟨a,rfl,s⟩:=zga r q hn;exact⟨a,ns,rfl,s,k _ _ _ _ _ (.refl _) r .i h⟩
  .exact h.elim
 .exact h.elim⟩
instance:zbg K fl (zxX K) zpn:=⟨fun{W μ H ds xs Q Q'} r z h k=>by
 unfold zpn at h;split at h
 .obtain⟨x,rfl,q⟩:=z.one;split at h
  .rename_i ns hn;obtain⟨a,rfl,s⟩:=zle r q hn;exact⟨a,ns,rfl,s,k _ _ _ _ _ (.refl _) r .b h⟩
  .exact h.elim
 .exact h.elim⟩
instance:zbg K fl (zxV K) zqQ:=⟨fun{W μ H ds xs Q Q'} r z h k=>by
 unfold zqQ at h;split at h
 .obtain⟨x,rfl,q⟩:=z.one;split at h
  .rename_i ns hn;obtain⟨a,rfl,s⟩:=zle r q hn;exact⟨a,ns,rfl,s,k _ _ _ _ _ (.refl _) r .b h⟩
  .exact h.elim
 .exact h.elim⟩
instance:zbg K fl (zri K) zjJ:=⟨fun{W μ H ds xs Q Q'} r z h k=>by
 unfold zjJ at h;split at h
 .obtain⟨x,rfl,q⟩:=z.one;split at h
  .rename_i es he;obtain⟨p,ys,rfl,s1,z1⟩:=zbK r q he;refine⟨p,ys,rfl,s1,fun l hl=>?_⟩;obtain⟨r2,le2⟩:=r.newF (o:= .lst ys) hl;exact k _ _ _ _ _ le2 r2 (.lst zq (z1.mono le2)) h
  .exact h.elim
 .exact h.elim⟩
instance{t:TA}{w:DA}[a:zbR K fl t w]:zN K fl (zlr (tCB (zri K) t)) (dCB zhc w):=⟨fun r e h k =>
 a.run r e h fun W1 ds μ1 xs H1 le1 r1 z h=>by
  unfold zhc at h;split at h
  .obtain⟨x,rfl,q⟩:=z.one;split at h
   .rename_i es he;obtain⟨p,ys,rfl,s1,z1⟩:=zbK r1 q he;exact⟨p,ys,rfl,s1,fun l hl=>zmd le1 r1 z1 hl k h⟩
   .exact h.elim
  .exact h.elim⟩
instance:zbg K fl (zsI K) zdW:=⟨fun{W μ H ds xs Q Q'} r z h k=>by
 unfold zdW at h;split at h
 .obtain⟨x,rfl,q⟩:=z.one;split at h
  .rename_i es he;unfold za0 at he;split at he
   .cases he;obtain⟨p,ys,rfl,t,z2⟩:=q.tup';exact⟨p,ys,rfl, .inr ⟨t.sm r.sub,k _ _ _ _ _ (.refl _) r q h⟩⟩
   .obtain⟨p,ys,rfl,t,z2⟩:=zau r q he;refine⟨p,ys,rfl, .inl ⟨SqL.of t,fun l hl=>?_⟩⟩;obtain⟨r2,le2⟩:=r.newF (o:= .tup ys) hl;exact k _ _ _ _ _ le2 r2 (.tup (SqT.of zq) (z2.mono le2)) h
  .exact h.elim
 .exact h.elim⟩
theorem zq2{d:D}{x:V}{t:String}(r:Rel K fl W μ H)(q:Rep K W d x)(h:tyD μ d=some t):zed K H x (.type t):=by
 unfold tyD at h;split at h<;>try cases h
 .rw[q.n'];exact .non
 .rw[q.b'];exact .bl _
 .rw[q.i'];exact .int _
 .rw[q.s'];exact .str _
 .obtain⟨a,xs,rfl,e,z⟩:=q.lst';exact .lst (r.sub _ _ e)
 .rename_i k;obtain⟨a,rfl,hb⟩:=q.cell';split at h<;>try cases h
  .rename_i ds hk;obtain⟨a',e1,e2,xs,e3,q3⟩:=r.cel k _ hk;rw[hb] at e1;cases e1;exact .lst e3
  .rename_i ks vs hk;obtain⟨a',e1,e2,xs,e3,l3,q3⟩:=r.cel k _ hk;rw[hb] at e1;cases e1;exact .dK e3
  .rename_i ks vs hk;obtain⟨a',e1,e2,xs,e3,l3,q3⟩:=r.cel k _ hk;rw[hb] at e1;cases e1;exact .dT e3
 .unfold Rep at q;obtain⟨a,xs,rfl,e,_⟩:=q;exact .dK (r.sub _ _ e)
 .unfold Rep at q;obtain⟨a,xs,rfl,e,_⟩:=q;exact .dT (r.sub _ _ e)
theorem zsn{d:D}{t:String}(h:tyD μ d=some t):t∈["NoneType","bool","int","str","list","dict"]:=by
 unfold tyD at h;split at h<;>(try cases h)<;>(try decide)
 split at h<;>(try cases h)<;>decide
theorem zv9{t T:String}(h:t∈["NoneType","bool","int","str","list","dict"])(h':T∈zae):kitOne K (.type t) (.type T)=some (zfr t T):=by
 simp only[zae,List.mem_cons,List.not_mem_nil,or_false] at h h';rcases h with rfl | rfl | rfl | rfl | rfl | rfl<;>rcases h' with rfl | rfl | rfl | rfl | rfl | rfl<;>rfl
instance:zbg K fl (zvk K) zq7:=⟨fun{W μ H ds xs Q Q'} r z h k=>by
 unfold zq7 at h;split at h
 .rename_i d T;obtain⟨x,y,rfl,q1,q2⟩:=z.two;split at h
  .rename_i t ht;unfold Rep at q2;subst q2;exact⟨x, .ty T, .type t,zfr t T,rfl,zq2 r q1 ht,fun u hu=>by cases hu;exact zv9 (zsn ht) h.1,k _ _ _ _ _ (.refl _) r .b h.2⟩
  .exact h.elim
 .exact h.elim⟩
end
def zxQ(K:Frag)(tl:TE):TI:=fun σ H R=>tl σ H fun x H1=>(∃a,x= .ref a/\(∃xs,SqL K H1 a xs)/\R (Itl K a) H1)\/(∃a,x= .ref a/\(∃xs,SqT K H1 a xs)/\R (Itt K a) H1)\/∃y,x= .str y/\y.cps.all (· < 128)=true/\R (Its y) H1
theorem zaJ{X:Cx}{tg l:Expr}{tl:TE}(K:Frag)(hl:WE X l tl)(h:X.K=K:=by rfl):WI X tg l (zxQ K tl):=⟨by
 subst h;intro pins s σ H R I h;refine thn (hl.out pins s σ H _ I h) fun v s1 ⟨x,H1,I1,r1,q1⟩=>?_
 rcases q1 with⟨a,e,⟨xs,hq⟩,q⟩ | ⟨a,e,⟨xs,hq⟩,q⟩ | ⟨y,e,ha,q⟩
 .subst e;cases r1;obtain⟨its,rv,p,hz⟩:=I1.list hq;refine wpAny_pyIter_list p.isList ?_;refine⟨s1.heap.objs.size,[s1.heap.objs.size],_,_,H1,rfl,I1.kept (t':=s1.toks) fun b o e=>Heap.get?_push_of_some _ e,zpb a _,⟨_,Heap.get?_push_size _ rfl,rfl,rfl⟩,fun b hb=>?_,q⟩;have e:b=s1.heap.objs.size:=by simpa using hb
  subst e;exact I1.fpOk (Nat.le_refl _) (I1.hok.fresh (Nat.le_refl _))
 .subst e;cases r1;obtain⟨its,rv,p,hz⟩:=I1.tuple hq;refine wpAny_pyIter_tuple (show s1.heap.IsTuple a its.toArray from p) ?_;refine⟨s1.heap.objs.size,[s1.heap.objs.size],_,_,H1,rfl,I1.kept (t':=s1.toks) fun b o e=>Heap.get?_push_of_some _ e,zmr a _,⟨_,Heap.get?_push_size _ rfl,rfl,rfl⟩,fun b hb=>?_,q⟩;have e:b=s1.heap.objs.size:=by simpa using hb
  subst e;exact I1.fpOk (Nat.le_refl _) (I1.hok.fresh (Nat.le_refl _))
 .subst e;obtain⟨t,rfl⟩:=r1;refine wpAny_pyIter_ascii ha ?_;refine⟨s1.heap.objs.size,[s1.heap.objs.size],_,_,H1,rfl,I1.kept (t':=s1.toks) fun b o e=>Heap.get?_push_of_some _ e,zqC _ y t,⟨_,Heap.get?_push_size _ rfl,rfl,rfl⟩,fun b hb=>?_,q⟩;have e:b=s1.heap.objs.size:=by simpa using hb
  subst e;exact I1.fpOk (Nat.le_refl _) (I1.hok.fresh (Nat.le_refl _))⟩
def zue:D->Option (List D)
 | .lst ds=>some ds
 | .tup ds=>some ds
 | .str y=>if y.cps.all (· < 128)=true then some (y.cps.toList.map fun c=> .str ⟨#[c]⟩) else none
 | _=>none
def zlb(μ:Mu)(d:D)(Q:List D->(Mu->Prop)->Prop):Prop:=match d with
 | .cell k=>match μ k with
  | some (.lst ds)=>Q ds fun μ'=>μ' k=some (.lst ds)
  | _=>False
 | d=>match zue d with
  | some ds=>Q ds fun _=>True
  | none=>False
def zbS(w:DE):DI:=fun ρ μ Q=>w ρ μ fun d μ1=>zlb μ1 d fun ds Pm=>Q ds Pm μ1
def zcE(w:DA):DI:=fun ρ μ Q=>w ρ μ fun ds μ1=>match ds with
 | [.int j]=> -(2^62)<=j/\j < 2^62/\Q ((zby 0 j.toNat).map D.int) (fun _=>True) μ1
 | _=>False
def zw2(w:DA):DI:=fun ρ μ Q=>w ρ μ fun ds μ1=>match ds with
 | [.int i, .int j]=>(-(2^62)<=i/\i < 2^62/\ -(2^62)<=j/\j < 2^62)/\Q ((zby i (j - i).toNat).map D.int) (fun _=>True) μ1
 | _=>False
section
variable{K:Frag}{fl:Wd}{te:TE}{we:DE}{ta:TA}{wa:DA}
theorem zrV(W:Wd)(lo:Int)(n:Nat)(Pm:Mu->Prop):ItR K fl W (Itr lo n) ((zby lo n).map D.int) Pm:=fun W1 μ H le r _ i=>by
 constructor
 .intro d hd;rw[List.getElem?_map] at hd;by_cases hi:i < n
  .rw[zin hi] at hd;cases hd;refine⟨hi,fun x H' y=>?_⟩;obtain⟨e,y⟩:=y;subst e y;exact⟨W1, .refl _,r, .i⟩
  .rw[List.getElem?_eq_none (by rw[zaY];omega)] at hd;cases hd
 .intro h;rw[List.length_map,zaY] at h;exact h
theorem zuk{W:Wd}{p:Addr}{xs:List V}{ds:List D}{Pm:Mu->Prop}(z1:zr K W ds xs)(hp:∀W1 μ H,W.le W1->Rel K fl W1 μ H->Pm μ->H p=some (.lst xs)):ItR K fl W (Itl K p) ds Pm:=fun W2 μ2 H2 le2 r2 pm i=>by
 have s2:=hp W2 μ2 H2 le2 r2 pm;constructor
 .intro d hd;obtain⟨x,ex,qx⟩:=z1.get hd;refine⟨⟨xs,x,SqL.of s2,ex⟩,fun y H' hy=>?_⟩;obtain⟨e',y'⟩:=hy;have ey:=y' xs (SqL.of s2);rw[ex] at ey;cases ey;exact⟨W2, .refl _,e'▸r2,qx.mono le2⟩
 .intro hl;exact⟨xs,SqL.of s2,by rw[z1.length];exact hl⟩
theorem zf5{W:Wd}{μ:Mu}{H:Hp}{k:Nat}{a:Addr}{ds:List D}(r:Rel K fl W μ H)(hb:W.b k=some a)(hk:μ k=some (.lst ds)):∃xs,H a=some (.lst xs)/\zr K W ds xs:=by
 obtain⟨a',e1,e2,xs,e3,q3⟩:=r.cel k _ hk;rw[hb] at e1;cases e1;exact⟨xs,e3,q3⟩
theorem zt8{W:Wd}{k:Nat}{a:Addr}{ds:List D}(hb:W.b k=some a):ItR K fl W (Itl K a) ds (fun μ'=>μ' k=some (.lst ds)):=fun W2 μ2 H2 le2 r2 pm i=>by
 obtain⟨xs,s2,z1⟩:=zf5 r2 (le2.b _ _ hb) pm;constructor
 .intro d hd;obtain⟨x,ex,qx⟩:=z1.get hd;refine⟨⟨xs,x,SqL.of s2,ex⟩,fun y H' hy=>?_⟩;obtain⟨e',y'⟩:=hy;have ey:=y' xs (SqL.of s2);rw[ex] at ey;cases ey;exact⟨W2, .refl _,e'▸r2,qx⟩
 .intro hl;exact⟨xs,SqL.of s2,by rw[z1.length];exact hl⟩
instance[a:zN K fl te we]:zke K fl (zxQ K te) (zbS we):=⟨fun{W ρ μ σ H Q Q'} r e h k=>a.run r e h fun W1 d μ1 x H1 le1 r1 q1 h1=>by
 unfold zlb at h1;split at h1
 .rename_i c;obtain⟨p,rfl,hb⟩:=q1.cell';split at h1
  .rename_i ds hk;obtain⟨xs,s1,z1⟩:=zf5 r1 hb hk;exact .inl ⟨p,rfl,⟨xs,SqL.of s1⟩,k W1 _ ds _ μ1 H1 le1 r1 (zt8 hb) h1⟩
  .exact h1.elim
 .cases hd:zue d with
  | none=>rw[hd] at h1;exact h1.elim
  | some ds =>
   rw[hd] at h1;have h1:Q ds (fun _=>True) μ1:=h1;unfold zue at hd;split at hd
   .cases hd;obtain⟨p,xs,rfl,s1,z1⟩:=q1.lst';exact .inl ⟨p,rfl,⟨xs,SqL.of (r1.sub _ _ s1)⟩,k W1 _ ds _ μ1 H1 le1 r1 (zuk z1 fun W2 μ2 H2 le2 r2 _=>r2.sub _ _ (le2.F _ _ s1)) h1⟩
   .cases hd;obtain⟨p,xs,rfl,s1,z1⟩:=q1.tup';refine .inr (.inl ⟨p,rfl,⟨xs,s1.sm r1.sub⟩,k W1 _ ds _ μ1 H1 le1 r1 (fun W2 μ2 H2 le2 r2 _ i=>?_) h1⟩);have s2:SqT K H2 p xs:=(s1.sm le2.F).sm r2.sub;constructor
    .intro d hd;obtain⟨x,ex,qx⟩:=z1.get hd;refine⟨⟨xs,x,s2,ex⟩,fun y H' hy=>?_⟩;obtain⟨e',y'⟩:=hy;have ey:=y' xs s2;rw[ex] at ey;cases ey;exact⟨W2, .refl _,e'▸r2,qx.mono le2⟩
    .intro hl;exact⟨xs,s2,by rw[z1.length];exact hl⟩
   .rename_i y _;split at hd
    .rename_i ha;cases hd;rw[q1.s'];refine .inr (.inr ⟨y,rfl,ha,k W1 _ _ _ μ1 H1 le1 r1 (fun W2 μ2 H2 le2 r2 _ i=>?_) h1⟩);constructor
     .intro d hd;rw[List.getElem?_map] at hd;cases hc:y.cps.toList[i]? with
      | none=>rw[hc] at hd;cases hd
      | some c =>
       rw[hc] at hd;cases hd;have hi:i < y.cps.size:=by have:=(List.getElem?_eq_some_iff.mp hc).1;rwa [Array.length_toList] at this
       refine⟨hi,fun x H' hy=>?_⟩;obtain⟨e',c',hc',rfl⟩:=hy;rw[hc] at hc';cases hc';exact⟨W2, .refl _,e'▸r2, .s⟩
     .intro hl;rw[List.length_map,Array.length_toList] at hl;exact hl
    .cases hd
   .cases hd⟩
instance[a:zbR K fl ta wa]:zke K fl (zpP ta) (zcE wa):=⟨fun{W ρ μ σ H Q Q'} r e h k=>a.run r e h fun W1 ds μ1 xs H1 le1 r1 q1 h1=>by
 split at h1
 .obtain⟨x,rfl,q⟩:=q1.one;rw[q.i'];exact⟨_,rfl,h1.1,h1.2.1,k W1 _ _ _ μ1 H1 le1 r1 (zrV _ _ _ _) h1.2.2⟩
 .exact h1.elim⟩
end
abbrev DM:=D->List D->Mu->DK->Prop
class zrG(K:Frag)(fl:Wd)(T:String)(r:V->List V->Hp->VK->Prop)(q:DM):Prop where
 run:∀{W μ H d x ds xs Q Q'},Rel K fl W μ H->Rep K W d x->zr K W ds xs->q d ds μ Q->KV' K fl W Q Q'->r x xs H Q'
def tyM(T:String)(μ:Mu)(d:D):Prop:=tyD μ d=some T
def dBM(T:String)(q:DM)(wo:DE)(w:DA):DE:=fun ρ μ Q=>wo ρ μ fun d μ1=>tyM T μ1 d/\w ρ μ1 fun ds μ2=>q d ds μ2 Q
def zy4(T:String)(q:DM)(wo:DE):DE:=fun ρ μ Q=>wo ρ μ fun d μ1=>tyM T μ1 d/\q d [] μ1 Q
theorem zs8{K:Frag}{fl:Wd}{W:Wd}{μ:Mu}{H:Hp}{d:D}{x:V}{T:String}(hT:T="list"\/T="str"\/T="dict")(r:Rel K fl W μ H)(q:Rep K W d x)(h:tyM T μ d):tyV K T x H:=by
 have ty:=zq2 r q h;cases ty with
 | non=>rcases hT with h | h | h<;>exact absurd h (by decide)
 | bl=>rcases hT with h | h | h<;>exact absurd h (by decide)
 | int=>rcases hT with h | h | h<;>exact absurd h (by decide)
 | str=>rfl
 | flt=>rcases hT with h | h | h<;>exact absurd h (by decide)
 | lst e=>exact .inl ⟨rfl,_,SqL.of e⟩
 | frz e=>exact .inl ⟨rfl,_, .inl (.inr ⟨_,e⟩)⟩
 | tup=>rcases hT with h | h | h<;>exact absurd h (by decide)
 | dK e=>exact .inr (.inr (.inl ⟨rfl, .inl ⟨_,e⟩⟩))
 | dT e=>exact .inr (.inr (.inl ⟨rfl, .inr ⟨_,e⟩⟩))
section
variable{K:Frag}{fl:Wd}{to:TE}{wo:DE}{t:TA}{w:DA}{r:V->List V->Hp->VK->Prop}{q:DM}
theorem zpQ{T:String}(hT:T="list"\/T="str"\/T="dict")[a:zN K fl to wo][b:zbR K fl t w][o:zrG K fl T r q]:zN K fl (tBM K T r to t) (dBM T q wo w):=⟨fun r e h k=>a.run r e h fun W1 d μ1 x H1 le1 r1 q1 h1 =>
 ⟨zs8 hT r1 q1 h1.1,b.run r1 (e.mono le1) h1.2 fun W2 ds μ2 xs H2 le2 r2 q2 h2=>o.run r2 (q1.mono le2) q2 h2 fun W3 d3 μ3 x3 H3 le3=>k W3 d3 μ3 x3 H3 (le1.trans (le2.trans le3))⟩⟩
instance[a:zN K fl to wo][b:zbR K fl t w][o:zrG K fl "list" r q]:zN K fl (tBM K "list" r to t) (dBM "list" q wo w):=zpQ (.inl rfl)
instance[a:zN K fl to wo][b:zbR K fl t w][o:zrG K fl "str" r q]:zN K fl (tBM K "str" r to t) (dBM "str" q wo w):=zpQ (.inr (.inl rfl))
end
def zcq(μ:Mu)(d:D)(Q:Nat->List D->Prop):Prop:=match d with
 | .cell k=>match μ k with
  | some (.lst ds)=>Q k ds
  | _=>False
 | _=>False
theorem zjH{K:Frag}{fl:Wd}{W:Wd}{μ:Mu}{H:Hp}{d:D}{x:V}{Q:Nat->List D->Prop}(r:Rel K fl W μ H)(q:Rep K W d x)(h:zcq μ d Q):∃k ds a xs,x= .ref a/\W.b k=some a/\μ k=some (.lst ds)/\H a=some (.lst xs)/\zr K W ds xs/\Q k ds:=by
 unfold zcq at h;split at h
 .rename_i k;obtain⟨a,rfl,hb⟩:=q.cell';split at h
  .rename_i ds hk;obtain⟨a',e1,e2,xs,e3,q3⟩:=r.cel k _ hk;rw[hb] at e1;cases e1;exact⟨k,ds,a,xs,rfl,hb,hk,e3,q3,h⟩
  .exact h.elim
 .exact h.elim
def zaC:DM:=fun d es μ Q=>match es with
 | [e]=>zcq μ d fun k ds=>ds.length < sizeLine/\Q .non (zH μ k (.lst (ds++[e])))
 | _=>False
def zuG:DM:=fun d es μ Q=>match es with
 | []=>zcq μ d fun k ds=>match ds[ds.length - 1]? with
  | some y=>Q y (zH μ k (.lst ds.dropLast))
  | none=>False
 | [.int i]=>zcq μ d fun k ds=> -(2^63)<=i/\i < 2^63/\match ixN ds.length i with
  | some j=>match ds[j]? with
   | some y=>Q y (zH μ k (.lst (ds.eraseIdx j)))
   | none=>False
  | none=>False
 | _=>False
def zkh:D->D->D->Mu->(Mu->Prop)->Prop:=fun d i v μ Q=>match i with
 | .int i=>zcq μ d fun k ds=>match ixN ds.length i with
  | some j=>Q (zH μ k (.lst (ds.set j v)))
  | none=>False
 | _=>False
class zrX(K:Frag)(fl:Wd)(r:zpD)(q:D->D->D->Mu->(Mu->Prop)->Prop):Prop where
 run:∀{W μ H d i v x y z} {Q:Mu->Prop} {Q':Hp->Prop},Rel K fl W μ H->Rep K W d x->Rep K W i y->Rep K W v z->q d i v μ Q->(∀W' μ' H',W.le W'->Rel K fl W' μ' H'->Q μ'->Q' H')->r x y z H Q'
def zsE(wo wi:DE)(q:D->D->D->Mu->(Mu->Prop)->Prop):DG:=fun v ρ μ Q=>wo ρ μ fun d μ1=>wi ρ μ1 fun i μ2=>q d i v μ2 fun μ3=>Q ρ μ3
section
variable{K:Frag}{fl:Wd}
instance:zrG K fl "list" znL zaC:=⟨fun{W μ H d x ds xs Q Q'} r q z h k=>by
 unfold zaC at h;split at h
 .obtain⟨y,rfl,qy⟩:=z.one;obtain⟨c,es,a,ys,rfl,hb,hk,ha,z2,hz,h⟩:=zjH r q h;exact⟨a,ys,y,rfl,rfl,ha,by rw[z2.length];exact hz,k _ _ _ _ _ (.refl _) (r.setC (c':= .lst _) hk hb ⟨_,rfl,z2.append (.cons qy .nil)⟩) .n h⟩
 .exact h.elim⟩
instance:zrX K fl zgD zkh:=⟨fun{W μ H d i v x y z Q Q'} r q qi qv h k=>by
 unfold zkh at h;split at h
 .obtain⟨c,es,a,ys,rfl,hb,hk,ha,z2,h⟩:=zjH r q h;split at h
  .rename_i j hj;rw[qi.i'];exact⟨a,ys,_,j,rfl,rfl,ha,by rw[z2.length];exact hj,k _ _ _ (.refl _) (r.setC (c':= .lst _) hk hb ⟨_,rfl,z2.set j qv⟩) h⟩
  .exact h.elim
 .exact h.elim⟩
instance{to ti:TE}{wo wi:DE}{r:zpD}{q:D->D->D->Mu->(Mu->Prop)->Prop}[a:zN K fl to wo][b:zN K fl ti wi][c:zrX K fl r q]:zic K fl (zkv to ti r) (zsE wo wi q) []:=⟨fun{W ρ μ σ H d x Q Q'} r e qd h k =>
 a.run r e h fun W1 d1 μ1 x1 H1 le1 r1 q1 h1=>b.run r1 (e.mono le1) h1 fun W2 d2 μ2 x2 H2 le2 r2 q2 h2=>c.run r2 (q1.mono le2) q2 (qd.mono (le1.trans le2)) h2 fun W3 μ3 H3 le3 r3 h3 =>
  k W3 ρ μ3 σ H3 (le1.trans (le2.trans le3)) r3 (e.mono (le1.trans (le2.trans le3))) rfl (fun _ _=>rfl) h3⟩
end
theorem zo8{K:Frag}{fl:Wd}{W:Wd}{μ:Mu}{H:Hp}{k:Nat}{a:Addr}(r:Rel K fl W μ H)(hk:μ k=some .draw)(ha:W.b k=some a):∃l,zh9 H a l/\W.F a=none/\(∃ns:List Int,W.F l=some (.lst (ns.map V.int))) /\
  ∀H',zh9 H' a l->zkF a H H'->Rel K fl W μ H':=by
 obtain⟨a',e1,e2,l,ns,i,b,c,e3,e4,hi,hb⟩:=r.cel k _ hk;rw[ha] at e1;cases e1;have hal:a≠l:=fun z=>by rw[<- z,e2] at e4;cases e4
 refine⟨l,⟨ns,i,b,c,e3,r.sub _ _ e4,hi,hb,hal⟩,e2,⟨ns,e4⟩,fun H' d o=>⟨fun x u e=>?_,r.fin,fun j ct e=>?_,r.inj,r.up⟩⟩
 .rw[o x (fun z=>by rw[z,e2] at e;cases e)];exact r.sub _ _ e
 .by_cases hj:j=k
  .subst hj;rw[hk] at e;cases e;obtain⟨ns',i',b',c',f1,f2,f3,f4,f5⟩:=d;exact⟨a,ha,e2,l,ns,i',b',c',f1,e4,f3,f4⟩
  .obtain⟨x,f1,f2,q⟩:=r.cel j ct e;have hx:x≠a:=fun z=>hj (r.inj j k _ _ a e hk (z▸f1) ha)
   exact⟨x,f1,f2,by rw[o x hx];exact q⟩
class zr7(K:Frag)(fl:Wd)(sp:Sp)(dsp:DSp):Prop where
 run:∀{W μ H ds vs Q Q'} (E:XK),Rel K fl W μ H->zr K W ds vs->dsp ds μ Q->KV' K fl W Q Q'->sp vs H Q' E
instance{K:Frag}{fl:Wd}{sp:Sp}{dsp:DSp}{E:XK}{t:TA}{w:DA}[a:zbR K fl t w][o:zr7 K fl sp dsp]:zN K fl (zlB sp [] E t) (dCall dsp w):=⟨fun{W ρ μ σ H Q Q'} r e h k =>
 a.run r e h fun W1 ds μ1 xs H1 le1 r1 q1 h1=>o.run E r1 (by rw[List.append_nil];exact q1) h1 fun W2 d μ2 x H2 le2=>k W2 d μ2 x H2 (le1.trans le2)⟩
def zV:DSp:=fun ds μ Q=>match ds with
 | [.cell k, .int many]=>μ k=some .draw/\0 < many/\many < 2^250/\∀v,0<=v->v < many->Q (.int v) μ
 | _=>False
instance{K:Frag}{fl:Wd}:zr7 K fl zkr zV:=⟨fun{W μ H ds vs Q Q'} E r z h k=>by
 unfold zV at h;split at h
 .rename_i c many;obtain⟨x,y,rfl,q1,q2⟩:=z.two;obtain⟨a,rfl,hb⟩:=q1.cell';rw[q2.i'];obtain⟨hk,h1,h2,h⟩:=h;obtain⟨l,d,_,_,fin⟩:=zo8 r hk hb;exact⟨a,l,many,rfl,d,h1,h2,fun v H' l1 l2 d' o=>k W _ μ _ H' (.refl _) (fin H' d' o) .i (h v l1 l2)⟩
 .exact h.elim⟩
def zfa:DSp:=fun ds μ Q=>match ds with
 | [.scr _]=>∀k,μ k=none->Q (.cell k) (zH μ k .draw)
 | _=>False
section
variable{K:Frag}{fl:Wd}{W W':Wd}{μ μ':Mu}{H H':Hp}
theorem Rel.same(r:Rel K fl W μ H)(s:zh3 H H'):Rel K fl W μ H':=⟨fun b o e=>s _ _ (r.sub _ _ e),r.fin,fun k c e=>by
 obtain⟨a,e1,e2,q⟩:=r.cel k c e;obtain⟨u,eu⟩:=q.some;exact⟨a,e1,e2,by rw[s _ _ eu,<- eu];exact q⟩,r.inj,r.up⟩
theorem Rel.newAt{p:Addr}(r:Rel K fl W μ H)(hp:H p=none):W.F p=none/\∀k c,μ k=some c->W.b k≠some p:=by
 constructor
 .cases e:W.F p with
  | none=>rfl
  | some u=>rw[r.sub _ _ e] at hp;cases hp
 .intro k c e h;obtain⟨a,e1,_,q⟩:=r.cel k c e;obtain⟨u,eu⟩:=q.some;rw[h] at e1;cases e1;rw[hp] at eu;cases eu
theorem Rel.adoptF{p:Addr}{o:HO}(r:Rel K fl W μ H)(hp:H p=some o)(hF:W.F p=none)(hc:∀k c,μ k=some c->W.b k≠some p):Rel K fl ⟨W.b,upd W.F p o⟩ μ H/\W.le ⟨W.b,upd W.F p o⟩:=by
 have le:W.le ⟨W.b,upd W.F p o⟩:=⟨fun _ _ h=>h,zdU hF⟩;refine⟨⟨fun b u e=>?_,r.fin,fun k c e=>?_,r.inj,r.up.trans le⟩,le⟩
 .have e':(upd W.F p o) b=some u:=e;by_cases hb:b=p
  .subst hb;rw[zq] at e';cases e';exact hp
  .rw[zm hb] at e';exact r.sub _ _ e'
 .obtain⟨a,e1,e2,q⟩:=r.cel k c e;have ha:a≠p:=fun z=>hc k c e (z▸e1)
  exact⟨a,e1,by show upd W.F p o a=none;rw[zm ha];exact e2,q.mono le⟩
theorem Rel.adoptC{p:Addr}{c:Ct}(r:Rel K fl W μ H)(hF:W.F p=none)(hc:∀k c,μ k=some c->W.b k≠some p)(hq:Ctn K W c (H p)):∃(k:Nat) (W':Wd),μ k=none/\W.le W'/\Rel K fl W' (zH μ k c) H/\W'.b k=some p:=by
 obtain⟨n,hn⟩:=r.fin;have hk:μ n=none:=by
  cases e:μ n with
  | none=>rfl
  | some c=>obtain⟨a,e1,_⟩:=r.cel n c e;rw[hn n (Nat.le_refl _)] at e1;cases e1
 have le:W.le ⟨fun j=>if j=n then some p else W.b j,W.F⟩:=⟨fun k a e=>by
  show(if k=n then some p else W.b k)=some a;rw[if_neg (fun z=>by rw[z,hn n (Nat.le_refl _)] at e;cases e)];exact e,fun _ _ h=>h⟩
 refine⟨n,⟨fun j=>if j=n then some p else W.b j,W.F⟩,hk,le,⟨r.sub,⟨n+1,fun k hk=>?_⟩,fun k c' e=>?_,fun k k' c1 c2 a e e' q q'=>?_,r.up.trans le⟩,if_pos rfl⟩
 .show(if k=n then some p else W.b k)=none;rw[if_neg (by omega)];exact hn k (by omega)
 .by_cases ek:k=n
  .subst ek;rw[zB] at e;cases e;exact⟨p,if_pos rfl,hF,hq.mono le⟩
  .rw[zy ek] at e;obtain⟨a,e1,e2,q⟩:=r.cel k c' e;exact⟨a,by show(if k=n then some p else W.b k)=some a;rw[if_neg ek];exact e1,e2,q.mono le⟩
 .have q1:(if k=n then some p else W.b k)=some a:=q;have q2:(if k'=n then some p else W.b k')=some a:=q';by_cases ek:k=n
  .by_cases ek':k'=n
   .rw[ek,ek']
   .rw[if_pos ek] at q1;rw[if_neg ek'] at q2;rw[zy ek'] at e';cases q1;exact absurd q2 (hc _ _ e')
  .by_cases ek':k'=n
   .rw[if_neg ek] at q1;rw[if_pos ek'] at q2;rw[zy ek] at e;cases q2;exact absurd q1 (hc _ _ e)
   .rw[if_neg ek] at q1;rw[if_neg ek'] at q2;rw[zy ek] at e;rw[zy ek'] at e';exact r.inj k k' _ _ a e e' q1 q2
end
instance{K:Frag}{fl:Wd}:zr7 K fl (zh7 K) zfa:=⟨fun{W μ H ds vs Q Q'} E r z h k=>by
 unfold zfa at h;split at h
 .rename_i ns;obtain⟨x,rfl,q⟩:=z.one;unfold Rep at q;obtain⟨a,rfl,hs⟩:=q;refine⟨a,ns,rfl,hs.sm r.sub,fun p l H' hp hl d sm=>?_⟩;obtain⟨ns',i,b,c,e1,e2,hi,hb,hne⟩:=d;have r1:=r.same sm;obtain⟨f1,g1⟩:=r.newAt hl;obtain⟨r2,le2⟩:=r1.adoptF e2 f1 g1;obtain⟨f2,g2⟩:=r.newAt hp;have f2':(upd W.F l (.lst (ns'.map V.int))) p=none:=by rw[zm hne];exact f2
  obtain⟨j,W3,hj,le3,r3,e3⟩:=r2.adoptC (c:= .draw) (p:=p) f2' g2 ⟨l,ns',i,b,c,e1,zq,hi,hb⟩;exact k W3 _ _ _ _ (le2.trans le3) r3 (by unfold Rep;exact⟨p,rfl,e3⟩) (h j hj)
 .exact h.elim⟩
theorem zbc{X:Cx}{s:Stmt}{t:TE}{g:TG}(h:WS X s (zdh t g)):WS X s (zdh (zlr t) g):=h
theorem zjV{X:Cx}(K:Frag){k:Nat}{cm:Bool}(hr:zaA cm k X.A)(h:X.K=K:=by rfl):OpR X (compareOp .In) (rIn K false):=zwT K h
theorem zaR{X:Cx}(K:Frag){k:Nat}{cm:Bool}(hr:zaA cm k X.A)(h:X.K=K:=by rfl):OpR X (compareOp .NotIn) (rIn K true):=zo6 K h
def ends(Q:DK):zbB:={ nx:=fun _ μ'=>∃ μ'',MLe μ'' μ'/\Q .non μ'',rt:=fun d μ'=>∃ μ'',MLe μ'' μ'/\Q d μ'' }
def zR(w:DS)(N:List Str)(n:Nat):DSp:=fun ds μ Q=>ds.length=n/\w (ends Q) (zie N ds) μ
section
variable{P:Program}{w:World}{K:Frag}{fl:Wd}{mg:Str->Option Value}{base:Heap}
theorem Fun.okB{x qual:Str}{st:Stmt}{f:Addr}{fd:FuncData}{N ps:List Str}{k n:Nat}(dw:DS)(F:Fun K x qual st f fd)(S:zG N ps (zx st))(len:ps.length=n)
  (hbody:∀(cdv:Value) (A:Around) (outer:List Env) (s:Shared) (H:Hp) (E:XK),zds k (A.deeper (envOfC qual (zx st) s.heap.objs.size f cdv)) ->
   ∃t,WSs (zkT CX0 P w K mg base N qual (zx st) f cdv A outer s H E).nox (zb4 st) t/\∀fl,zdb K fl t dw):zaa P w K mg base CX0 (k+1) f fd ps (lift K (zR dw N n)):=by
 refine F.okq S (fun vs H Q E h=>?_) (fun cdv A outer s H vs Q E hr h=>?_)
 .obtain⟨_,W,μ,ds,Q0,_,r,h,_⟩:=h;rw[r.length,h.1,len]
 .obtain⟨fl,W,μ,ds,Q0,rel,r,h,k⟩:=h;obtain⟨t,ht,sm⟩:=hbody cdv A outer s H E hr;refine⟨t,ht,(sm W).run (rel.floor (.refl W)) (.start r) h.2 ⟨fun W' ρ μ σ H le rr ee hh=>?_,fun _ _ _ _ _ _ _ _ hh=>hh.elim,fun _ _ _ _ _ _ _ _ hh=>hh.elim,fun W' d μ x H le rr ee hh=>?_⟩⟩
  .obtain⟨μ'',l,hh⟩:=hh;exact k W' .non μ'' _ H le ((rr.floor (rel.up.trans le)).less l) .n hh
  .obtain⟨μ'',l,hh⟩:=hh;exact k W' d μ'' x H le ((rr.floor (rel.up.trans le)).less l) ee hh
end
theorem zrc{K:Frag}{dsp dsp':DSp}(h:∀ds μ Q,dsp ds μ Q->dsp' ds μ Q){vs:List V}{H:Hp}{Q:VK}{E:XK}(q:lift K dsp vs H Q E):lift K dsp' vs H Q E:=by
 obtain⟨fl,W,μ,ds,Q0,a,b,c,d⟩:=q;exact⟨fl,W,μ,ds,Q0,a,b,h _ _ _ c,d⟩
section
variable{Pm:Mu->Prop}{g:DG}{wb:DS}{D':zbB}{ds:List D}{ρ:zX}{μ:Mu}{wc:DT}{we:DE}{ρb:zX}{Fin:List D->Mu->Prop}{ys:List D}
theorem zaP(I:Nat->zX->Mu->Prop)(h0:I 0 ρ μ)
  (step:∀i d ρ μ,ds[i]? = some d->I i ρ μ->∀N:zX->Mu->Prop,(∀ ρ' μ',I (i+1) ρ' μ'->N ρ' μ')->g d ρ μ fun ρ2 μ2=>wb { D' with nx:=N,ct:=N,bk:=D'.nx } ρ2 μ2)
  (fin:∀ ρ μ,I ds.length ρ μ->D'.nx ρ μ)(hP:∀i ρ μ,I i ρ μ->Pm μ:=by exact fun _ _ _ _=>trivial):zhj g wb D' Pm ds ρ μ:=by
 have key:∀(n i:Nat) ρ μ,i+n=ds.length->I i ρ μ->zhj g wb D' Pm (ds.drop i) ρ μ:=by
  intro n;induction n with
  | zero =>
   intro i ρ μ hi hI;rw[List.drop_eq_nil_of_le (by omega)];have:i=ds.length:=by omega
   subst this;exact⟨hP _ _ _ hI,fin ρ μ hI⟩
  | succ n ih =>
   intro i ρ μ hi hI;rw[List.drop_eq_getElem_cons (by omega)];exact⟨hP _ _ _ hI,step i _ ρ μ (List.getElem?_eq_getElem (by omega)) hI _ fun ρ' μ' h=>ih (i+1) ρ' μ' (by omega) h⟩
 exact key ds.length 0 ρ μ (by omega) h0
theorem zi1(I:Nat->List D->Mu->Prop)(h0:I 0 ys μ)
  (step:∀i d ys μ,ds[i]? = some d->I i ys μ->ys.length < sizeLine/\∀N:List D->Mu->Prop,(∀ys' μ',I (i+1) ys' μ'->N ys' μ')->g d ρb μ fun ρ2 μ2=>wc ρ2 μ2 fun b μ3=>if b=true then we ρ2 μ3 fun v μ4=>N (ys++[v]) μ4 else N ys μ3)
  (fin:∀ys μ,I ds.length ys μ->Fin ys μ)(hP:∀i ys μ,I i ys μ->Pm μ:=by exact fun _ _ _ _=>trivial):zbe g wc we ρb Pm Fin ds ys μ:=by
 have key:∀(n i:Nat) ys μ,i+n=ds.length->I i ys μ->zbe g wc we ρb Pm Fin (ds.drop i) ys μ:=by
  intro n;induction n with
  | zero =>
   intro i ys μ hi hI;rw[List.drop_eq_nil_of_le (by omega)];have:i=ds.length:=by omega
   subst this;exact⟨hP _ _ _ hI,fin ys μ hI⟩
  | succ n ih =>
   intro i ys μ hi hI;rw[List.drop_eq_getElem_cons (by omega)];obtain⟨hz,st⟩:=step i _ ys μ (List.getElem?_eq_getElem (by omega)) hI;exact⟨hP _ _ _ hI,hz,st (fun ys' μ'=>zbe g wc we ρb Pm Fin (ds.drop (i+1)) ys' μ') fun ys' μ' h=>ih (i+1) ys' μ' (by omega) h⟩
 exact key ds.length 0 ys μ (by omega) h0
end
theorem zbn{lo:Int}{n i:Nat}{d:D}(h:((zby lo n).map D.int)[i]? = some d):i < n/\d= .int (lo+i):=by
 rw[List.getElem?_map] at h;by_cases hi:i < n
 .rw[zin hi] at h;cases h;exact⟨hi,rfl⟩
 .rw[List.getElem?_eq_none (by rw[zaY];omega)] at h;cases h
theorem za8(lo:Int)(n:Nat):((zby lo n).map D.int).length=n:=by rw[List.length_map,zaY]
theorem znK{i j:Int}{μ:Mu}{Q:DK}:dEq (.int i) (.int j) μ Q=Q (.bl (decide (i=j))) μ:=by simp[dEq,zhO]
theorem ztf{i j:Int}{μ:Mu}{Q:DK}:dNe (.int i) (.int j) μ Q=Q (.bl (!decide (i=j))) μ:=by simp[dNe,zhO]
theorem zua{i j:Str}{μ:Mu}{Q:DK}:dNe (.str i) (.str j) μ Q=Q (.bl (!decide (i=j))) μ:=by simp[dNe,zhO]
theorem zcb{μ:Mu}{ds:List D}:zO μ (.lst ds)=some ds:=rfl
theorem zo3{μ:Mu}{ds:List D}:za0 μ (.tup ds)=some ds:=rfl
theorem znc{μ:Mu}{k:Nat}{ds:List D}(h:μ k=some (.lst ds)):za0 μ (.cell k)=some ds:=by simp[za0,zO,h]
def Pl:Nat->D->Prop
 | _, .non=>True
 | _, .bl _=>True
 | _, .int _=>True
 | _, .str x=>PyData.strOk x=true
 | n+1, .tup ds=>∀d∈ds,Pl n d
 | n+1, .lst ds=>∀d∈ds,Pl n d
 | _,_=>False
theorem Pl.pys{n:Nat}(ih:∀d,Pl n d->∃p,toPy d=some p/\p.canLay0=true/\p.depth<=n):∀ds:List D,(∀d∈ds,Pl n d)->∃ps,zbh ds=some ps/\PyData.canLayAll0 ps=true/\PyData.depthAll ps<=n
 | [],_=>⟨[],by unfold zbh;rfl,by unfold PyData.canLayAll0;rfl,by unfold PyData.depthAll;omega⟩
 | d::ds,h=>by
  obtain⟨p,e,c,b⟩:=ih d (h d List.mem_cons_self);obtain⟨ps,e',c',b'⟩:=Pl.pys ih ds fun x hx=>h x (List.mem_cons_of_mem _ hx)
  refine⟨p::ps,by unfold zbh;rw[e,e'],by unfold PyData.canLayAll0;rw[c,c'];rfl,?_⟩;unfold PyData.depthAll;omega
theorem Pl.py:∀(n:Nat) (d:D),Pl n d->∃p,toPy d=some p/\p.canLay0=true/\p.depth<=n:=by
 intro n;induction n with
 | zero =>
  intro d h;cases d<;>first | exact h.elim | skip
  .exact⟨_,by unfold toPy;rfl,by simp[PyData.canLay0],by simp[PyData.depth]⟩
  .exact⟨_,by unfold toPy;rfl,by simp[PyData.canLay0],by simp[PyData.depth]⟩
  .exact⟨_,by unfold toPy;rfl,by simp[PyData.canLay0],by simp[PyData.depth]⟩
  .exact⟨_,by unfold toPy;rfl,by rw[PyData.canLay0];exact h,by simp[PyData.depth]⟩
 | succ n ih =>
  intro d h;cases d<;>first | exact h.elim | skip
  .exact⟨_,by unfold toPy;rfl,by simp[PyData.canLay0],by simp[PyData.depth]⟩
  .exact⟨_,by unfold toPy;rfl,by simp[PyData.canLay0],by simp[PyData.depth]⟩
  .exact⟨_,by unfold toPy;rfl,by simp[PyData.canLay0],by simp[PyData.depth]⟩
  .exact⟨_,by unfold toPy;rfl,by rw[PyData.canLay0];exact h,by simp[PyData.depth]⟩
  .rename_i ds;obtain⟨ps,e,c,b⟩:=Pl.pys ih ds h;exact⟨.tuple ps,by unfold toPy;rw[e];rfl,by rw[PyData.canLay0];exact c,by rw[PyData.depth];omega⟩
  .rename_i ds;obtain⟨ps,e,c,b⟩:=Pl.pys ih ds h;exact⟨.list ps,by unfold toPy;rw[e];rfl,by rw[PyData.canLay0];exact c,by rw[PyData.depth];omega⟩
theorem zly{μ:Mu}{d:D}{p:PyData}(h:toPy d=some p):zfn μ d=some p:=by
 cases d<;>first | exact h | (unfold toPy at h;cases h)
section
variable{D':zbB}{ρ:zX}{μ:Mu}
end
theorem zdf{α:Type}(xs:List α)(n:Nat):cutD xs none (some (n:Int))=xs.take n:=by
 unfold cutD;rw[HT.zln,HT.zaI,List.drop_zero,Nat.sub_zero];rcases Nat.le_total n xs.length with h | h
 .rw[Nat.min_eq_left h]
 .rw[Nat.min_eq_right h,List.take_length,List.take_of_length_le h]
theorem zd4{α:Type}(xs:List α)(n:Nat):cutD xs (some (n:Int)) none=xs.drop n:=by
 unfold cutD;rw[HT.zln,HT.zaI];rcases Nat.le_total n xs.length with h | h
 .rw[Nat.min_eq_left h,List.take_of_length_le (by rw[List.length_drop];omega)]
 .rw[Nat.min_eq_right h,Nat.sub_self,List.take_zero,List.drop_eq_nil_of_le h]
section
variable{X:Cx}{pins:List (Addr×Obj)}{σ:St}{H:Hp}{s:Shared}{h':Heap}
theorem Inv.turnedL{t':Nat}(ch:List Addr)(I:Inv X pins σ H s)(k:∀b o,b∉ch->s.heap.get? b=some o->h'.get? b=some o)(hf:∀b∈ch,zfd X pins H b):Inv X pins σ H { s with heap:=h',toks:=t' }:=by
 have nit:∀b u,H b=some u->b∉ch:=fun b u e z=>by rw[(hf b z).1] at e;cases e
 have hL:X.env.locals∉ch:=fun z=>(hf _ z).2.1 rfl
 refine I.step (g':=s.gens) (d':=s.drawn) (ch:=ch) (fun b hb=>?_) (fun b o _ _ hc e _=>k b o hc e) (fun b o _ _ hc e _=>⟨o.slots,k b o hc e⟩) (fun _ _ _ _ n=>n)
  (fun b o hc e=>⟨o,k b o hc e⟩) (fun _ _ e=>e) (fun _ _ _ e=>e) (fun b ps e=>⟨#[],by rw[e];simp⟩) (fun m hm=>?_) (fun b u e=>?_) I.bare
 .obtain⟨f0,f1,f2,f3,f4,f5⟩:=hf b hb;exact⟨f3,f1,f4,f5⟩
 .obtain⟨o,es,ep,ho,r⟩:=hm;exact⟨o,es,ep,k _ o hL ho,r⟩
 .refine(I.hok b u e).stay (fun c v hc q=>k c v ?_ q) (fun _ q=>q) fun _ _ q=>q
  rcases hc with z | z
  .rw[z];exact nit b u e
  .exact nit c _ z
end
theorem zjq{h:Heap}{o u:Obj}{b:Addr}(hb:b≠h.objs.size)(e:(h.push o).get? b=some u):h.get? b=some u:=by
 unfold Heap.get? Heap.push at *;rw[Array.getElem?_push] at e;rw[if_neg hb] at e;exact e
theorem zuK{X:Cx}{pins:List (Addr×Obj)}{σ:St}{H:Hp}{s:Shared}{l:Addr}{xs ys:List V}(I:Inv X pins σ H s)(q:SqL X.K H l xs)(q':SqL X.K H l ys):xs=ys:=by
 obtain⟨its1,r1,p1,_⟩:=I.list q;obtain⟨its2,r2,p2,_⟩:=I.list q';obtain⟨o1,n1,e1,c1,d1,s1⟩:=p1;obtain⟨o2,n2,e2,c2,d2,s2⟩:=p2;rw[e1] at e2;cases e2;rw[s1] at s2;have:its1=its2:=by
  have:=(Data.seq.inj s2).1;simpa using this
 subst this;exact r1.inj r2
def Itz(K:Frag)(l1 l2:Addr):It :=
 ⟨fun i H => ∃xs ys x y, SqL K H l1 xs /\ SqL K H l2 ys /\ xs[i]? = some x /\ ys[i]? = some y,
  fun i H v H'=>∃p,H p=none/\v= .ref p/\∀xs ys,SqL K H l1 xs->SqL K H l2 ys->∃x y,xs[i]? = some x/\ys[i]? = some y/\H'=upd H p (.tup [x,y]),
  fun i H=>∃xs ys,SqL K H l1 xs/\SqL K H l2 ys/\(xs.length<=i\/ys.length<=i)⟩
def zyq(z TI TO i1 i2 l1 l2:Addr)(i:Nat)(h:Heap):Prop:=IsZip h z TI TO .none/\IsPair h TI (.ref i1) (.ref i2)/\(∃a b,IsPair h TO a b)/\h.IsListIter i1 l1 i/\h.IsListIter i2 l2 i
theorem zrF{P:Program}{w:World}{K:Frag}{elts:List Expr}{k:Nat}{pos:Pos}(z TI TO i1 i2 l1 l2:Addr)(d:TI≠z/\TO≠z/\i1≠z/\i2≠z/\TI≠TO/\TI≠i1/\TI≠i2/\TO≠i1/\TO≠i2/\i1≠i2) :
  Turn P w K (.Tuple elts k pos) (Itz K l1 l2) [z,TI,TO,i1,i2] z (zyq z TI TO i1 i2 l1 l2) where
 mem:=by simp
 obj:=fun i h st b hb=>by
  obtain⟨hz,hTI,⟨a,c,hTO⟩,⟨o1,e1,c1,d1⟩,⟨o2,e2,c2,d2⟩⟩:=st;simp only[List.mem_cons,List.not_mem_nil,or_false] at hb;rcases hb with rfl | rfl | rfl | rfl | rfl
  .exact⟨_,hz,fun v e=>by cases e⟩
  .exact⟨_,hTI,fun v e=>by cases e⟩
  .exact⟨_,hTO,fun v e=>by cases e⟩
  .exact⟨_,e1,fun v e=>by rw[d1] at e;cases e⟩
  .exact⟨_,e2,fun v e=>by rw[d2] at e;cases e⟩
 keep:=fun i h h' st kk=>by
  obtain⟨hz,hTI,⟨a,c,hTO⟩,h1,h2⟩:=st;exact⟨kk z (by simp) _ hz,kk TI (by simp) _ hTI,⟨a,c,kk TO (by simp) _ hTO⟩,h1.at fun o e=>kk i1 (by simp) o e,h2.at fun o e=>kk i2 (by simp) o e⟩
 item:=by
  intro X hP hw hK hc i pins s σ H E I hf st hg;subst hP hw hK;obtain⟨xs,ys,x,y,q1,q2,hx,hy⟩:=hg;obtain⟨its1,r1,p1,_⟩:=I.list q1;obtain⟨its2,r2,p2,_⟩:=I.list q2;obtain⟨u1,eu1,ru1⟩:=r1.get hx;obtain⟨u2,eu2,ru2⟩:=r2.get hy;obtain⟨hz,hTI,⟨a,c,hTO⟩,h1,h2⟩:=st;have hl1:=p1.isList;have hl2:=p2.isList;have ap:∀{l:Addr} {its:Array Value},s.heap.IsList l its->l≠z/\l≠TO/\l≠i1/\l≠i2:=fun{l its} hl=>by
   obtain⟨o,e,cl,_⟩:=hl;refine⟨fun w=>?_,fun w=>?_,fun w=>?_,fun w=>?_⟩
   .rw[w,hz] at e;cases e;injection cl with c0;exact absurd c0 (by decide)
   .rw[w,hTO] at e;cases e;injection cl with c0;exact absurd c0 (by decide)
   .obtain⟨o1,e1,c1,_⟩:=h1;rw[w,e1] at e;cases e;rw[c1] at cl;injection cl with c0;exact absurd c0 (by decide)
   .obtain⟨o1,e1,c1,_⟩:=h2;rw[w,e1] at e;cases e;rw[c1] at cl;injection cl with c0;exact absurd c0 (by decide)
  obtain⟨d1,d2,d3,d4,d5,d6,d7,d8,d9,d10⟩:=d;obtain⟨m1,m2,m3,m4⟩:=ap hl1;obtain⟨n1,n2,n3,n4⟩:=ap hl2;have D:ZipApart z TI TO i1 i2 l1 l2:=⟨d1,d2,d3,d4,d5,d6,d7,d8,d9,d10,m1,m2,m3,m4,n1,n2,n3,n4⟩;refine wpAny_pyNext_zip_item D hz hTI hTO h1 h2 hl1 hl2 (x:=u1) (y:=u2) (by simpa using eu1) (by simpa using eu2) fun h' a1 a2 a3 a4 a5 a6 hk=>?_
  refine⟨_,rfl,wpAny_letOwnedTupleGo_zip a1 fun h'' b1 b2=>?_⟩;have lt:∀b∈[z,TI,TO,i1,i2],b < s.heap.objs.size:=fun b hb=>by
   simp only[List.mem_cons,List.not_mem_nil,or_false] at hb;rcases hb with rfl | rfl | rfl | rfl | rfl
   .exact Heap.lt_size hz
   .exact Heap.lt_size hTI
   .exact Heap.lt_size hTO
   .obtain⟨o1,e1,_⟩:=h1;exact Heap.lt_size e1
   .obtain⟨o1,e1,_⟩:=h2;exact Heap.lt_size e1
  have hfr:H s.heap.objs.size=none:=I.hok.fresh (Nat.le_refl _);have Tz:s.heap.objs.size≠z:=Nat.ne_of_gt (lt z (by simp));have I1:Inv X pins σ (upd H s.heap.objs.size (.tup [x,y])) { s with heap:=s.heap.push { cls:= .type "tuple",data:= .seq #[u1,u2] } } :=
   I.laid (t':=s.toks) (fun b o e=>Heap.get?_push_of_some _ e) (Nat.le_refl _) ⟨by show 2<=sizeLine;decide,[u1,u2], .cons ru1 (.cons ru2 .nil),⟨_,Heap.get?_push_size _ rfl,rfl,_,rfl⟩⟩
  have hne:∀b∈[z,TI,TO,i1,i2],(upd H s.heap.objs.size (.tup [x,y])) b=none:=fun b hb=>by
   rw[zm (Nat.ne_of_lt (lt b hb))];exact(hf b hb).1
  have I2:=I1.turnedL (h':=h'') (t':=s.toks) [z,TI,TO,i1,i2] (fun b o hb e=>?_) (fun b hb=>⟨hne b hb,(hf b hb).2⟩)
  .refine⟨.ref s.heap.objs.size,_,I2,rfl,⟨_,hfr,rfl,fun xs' ys' q1' q2'=>⟨x,y,by rw[zuK I q1' q1];exact hx,by rw[zuK I q2' q2];exact hy,rfl⟩⟩,⟨b1,b2.extBut _ _ d1 (hk _ _ d1 d5 d6 d7 hTI),⟨_,_,b2.extBut _ _ d2 a2⟩,a3.extBut b2.extBut d3,a4.extBut b2.extBut d4⟩,hne⟩
  .simp only[List.mem_cons,List.not_mem_nil,or_false,not_or] at hb;refine b2.extBut _ _ hb.1 ?_;by_cases hT:b=s.heap.objs.size
   .subst hT;rw[Heap.get?_push_size _ rfl] at e;cases e;exact a5
   .have e':s.heap.get? b=some o:=zjq hT e;exact hk b o hb.1 hb.2.2.1 hb.2.2.2.1 hb.2.2.2.2 e'
 done:=by
  intro X hP hw hK hc i pins s σ H E I hf st hg;subst hP hw hK;obtain⟨xs,ys,q1,q2,hend⟩:=hg;obtain⟨its1,r1,p1,_⟩:=I.list q1;obtain⟨its2,r2,p2,_⟩:=I.list q2;obtain⟨hz,hTI,⟨a,c,hTO⟩,h1,h2⟩:=st;have hl1:=p1.isList;have hl2:=p2.isList;have ap:∀{l:Addr} {its:Array Value},s.heap.IsList l its->l≠z/\l≠TO/\l≠i1/\l≠i2:=fun{l its} hl=>by
   obtain⟨o,e,cl,_⟩:=hl;refine⟨fun w=>?_,fun w=>?_,fun w=>?_,fun w=>?_⟩
   .rw[w,hz] at e;cases e;injection cl with c0;exact absurd c0 (by decide)
   .rw[w,hTO] at e;cases e;injection cl with c0;exact absurd c0 (by decide)
   .obtain⟨o1,e1,c1,_⟩:=h1;rw[w,e1] at e;cases e;rw[c1] at cl;injection cl with c0;exact absurd c0 (by decide)
   .obtain⟨o1,e1,c1,_⟩:=h2;rw[w,e1] at e;cases e;rw[c1] at cl;injection cl with c0;exact absurd c0 (by decide)
  obtain⟨d1,d2,d3,d4,d5,d6,d7,d8,d9,d10⟩:=d;obtain⟨m1,m2,m3,m4⟩:=ap hl1;obtain⟨n1,n2,n3,n4⟩:=ap hl2;have D:ZipApart z TI TO i1 i2 l1 l2:=⟨d1,d2,d3,d4,d5,d6,d7,d8,d9,d10,m1,m2,m3,m4,n1,n2,n3,n4⟩;refine wpAny_pyNext_zip_end (I.ok.hd hc) D hz hTI hTO h1 h2 hl1 hl2 ?_ fun h' hk=>⟨rfl,I.turnedL (h':=h') (t':=s.toks) [z,TI,TO,i1,i2] (fun b o hb e=>?_) hf⟩
  .rcases hend with h | h
   .exact .inl (by rw[Array.getElem?_eq_none];rw[List.size_toArray,<- r1.length];exact h)
   .exact .inr (by rw[Array.getElem?_eq_none];rw[List.size_toArray,<- r2.length];exact h)
  .simp only[List.mem_cons,List.not_mem_nil,or_false,not_or] at hb;exact hk b o hb.1 hb.2.2.1 hb.2.2.2.1 hb.2.2.2.2 e
 self:=fun _ _ _ _ _ st h=>wpAny_pyIter_zip st.1 h
def zyF(K:Frag)(ta:TA):TI:=fun σ H R=>ta σ H fun vs H2=>∃l1 l2 xs ys,vs=[.ref l1, .ref l2]/\SqL K H2 l1 xs/\SqL K H2 l2 ys/\R (Itz K l1 l2) H2
theorem zus{X:Cx}{a b:Expr}{ta:TA}{p pos pos2:Pos}{elts:List Expr}{k:Nat}(K:Frag)(hg:Gl X "zip")(hm:X.mg "zip"=none)(ha:WA X [a,b] ta)(h:X.K=K:=by rfl)
  (hs:starEach [a,b] X.env=(false,eval a X.env)::starEach [b] X.env:=by rfl)(hpl:(backTo pos (starEach [b] X.env)).any (·.1)=false:=by rfl):WI X (.Tuple elts k pos2) (.Call (.Name "zip" p) [a,b] [] pos) (zyF K ta):=⟨by
 subst h;intro pins s σ H R I h;refine Call_ (zeT I hg hm zvv (PyProof.Rows.callWith_type1 (thn (ha.out pos pins s σ H _ I h) fun us s1 ⟨vs,H1,I1,r1,q1⟩=>?_) hs hpl));obtain⟨l1,l2,xs,ys,e,q2,q3,q⟩:=q1;subst e;obtain⟨u,w',rfl,e1,e2⟩:=vals2 r1;cases e1;cases e2;obtain⟨its1,rv1,p1,_⟩:=I1.list q2;obtain⟨its2,rv2,p2,_⟩:=I1.list q3;refine call_zip_2 p1.isList p2.isList fun h' b1 b2 b3 b4 b5 b6 b7=>?_
 refine wpAny_pyIter_zip b1 ?_;refine⟨s1.heap.objs.size+4,[s1.heap.objs.size+4,s1.heap.objs.size+2,s1.heap.objs.size+3,s1.heap.objs.size,s1.heap.objs.size+1],_,_,H1,rfl,I1.kept (t':=s1.toks) b7,zrF (s1.heap.objs.size+4) (s1.heap.objs.size+2) (s1.heap.objs.size+3) s1.heap.objs.size (s1.heap.objs.size+1) l1 l2 (by refine⟨?_,?_,?_,?_,?_,?_,?_,?_,?_,?_⟩<;>(intro h;have h':=@congrArg Nat Nat _ _ (fun n=>n - s1.heap.objs.size) h;simp at h')),⟨b1,b2,⟨_,_,b3⟩,b4,b5⟩,fun b hb=>?_,q⟩;have hge:s1.heap.objs.size<=b:=by
  simp only[List.mem_cons,List.not_mem_nil,or_false] at hb;rcases hb with rfl | rfl | rfl | rfl | rfl
  .exact Nat.le_add_right _ _
  .exact Nat.le_add_right _ _
  .exact Nat.le_add_right _ _
  .exact Nat.le_refl _
  .exact Nat.le_add_right _ _
 exact I1.fpOk hge (I1.hok.fresh hge)⟩
def zzh(K:Frag)(fl:Wd)(W:Wd)(Pm:Mu->Prop)(p:Addr)(ds:List D):Prop:=∀W1 μ H,W.le W1->Rel K fl W1 μ H->Pm μ->∃xs,H p=some (.lst xs)/\zr K W1 ds xs
def lsM(μ:Mu)(d:D)(Q:List D->(Mu->Prop)->Prop):Prop:=match d with
 | .cell k=>match μ k with
  | some (.lst ds)=>Q ds fun μ'=>μ' k=some (.lst ds)
  | _=>False
 | .lst ds=>Q ds fun _=>True
 | _=>False
theorem zkJ{K:Frag}{fl:Wd}{W:Wd}{μ:Mu}{H:Hp}{d:D}{x:V}{Q:List D->(Mu->Prop)->Prop}(r:Rel K fl W μ H)(q:Rep K W d x)(h:lsM μ d Q):∃p ds Pm,x= .ref p/\zzh K fl W Pm p ds/\Pm μ/\Q ds Pm:=by
 unfold lsM at h;split at h
 .rename_i c;obtain⟨p,rfl,hb⟩:=q.cell';split at h
  .rename_i ds hk;exact⟨p,ds,_,rfl,fun W1 μ1 H1 le1 r1 pm=>zf5 r1 (le1.b _ _ hb) pm,hk,h⟩
  .exact h.elim
 .obtain⟨p,xs,rfl,s1,z1⟩:=q.lst';exact⟨p,_,_,rfl,fun W1 μ1 H1 le1 r1 _=>⟨xs,r1.sub _ _ (le1.F _ _ s1),z1.mono le1⟩,trivial,h⟩
 .exact h.elim
def pairD(p:D×D):D:= .tup [p.1,p.2]
def zqg(w:DA):DI:=fun ρ μ Q=>w ρ μ fun es μ1=>match es with
 | [d,e]=>lsM μ1 d fun ds P1=>lsM μ1 e fun es P2=>Q ((ds.zip es).map pairD) (fun μ'=>P1 μ'/\P2 μ') μ1
 | _=>False
instance{K:Frag}{fl:Wd}{ta:TA}{wa:DA}[a:zbR K fl ta wa]:zke K fl (zyF K ta) (zqg wa):=⟨fun{W ρ μ σ H Q Q'} r e h k=>a.run r e h fun W1 ds μ1 xs H1 le1 r1 z1 h1=>by
 split at h1
 .obtain⟨x,y,rfl,q1,q2⟩:=z1.two;obtain⟨p1,d1,P1,rfl,l1,pm1,h1⟩:=zkJ r1 q1 h1;obtain⟨p2,d2,P2,rfl,l2,pm2,h1⟩:=zkJ r1 q2 h1;obtain⟨xs1,e1,_⟩:=l1 W1 μ1 H1 (.refl _) r1 pm1;obtain⟨xs2,e2,_⟩:=l2 W1 μ1 H1 (.refl _) r1 pm2;refine⟨p1,p2,xs1,xs2,rfl,SqL.of e1,SqL.of e2,k W1 _ _ _ μ1 H1 le1 r1 (fun W2 μ2 H2 le2 r2 pm i=>?_) h1⟩;obtain⟨a1,f1,g1⟩:=l1 W2 μ2 H2 le2 r2 pm.1;obtain⟨a2,f2,g2⟩:=l2 W2 μ2 H2 le2 r2 pm.2;constructor
  .intro d hd;rw[List.getElem?_map] at hd;cases hz:(d1.zip d2)[i]? with
   | none=>rw[hz] at hd;cases hd
   | some pr =>
    rw[hz] at hd;cases hd;obtain⟨m1,m2⟩:=List.getElem?_zip_eq_some.mp hz;obtain⟨x1,ex1,qx1⟩:=g1.get m1;obtain⟨x2,ex2,qx2⟩:=g2.get m2;refine⟨⟨a1,a2,x1,x2,SqL.of f1,SqL.of f2,ex1,ex2⟩,fun v H' hy=>?_⟩;obtain⟨p,hp,rfl,hy⟩:=hy;obtain⟨y1,y2,ey1,ey2,rfl⟩:=hy a1 a2 (SqL.of f1) (SqL.of f2);rw[ex1] at ey1;rw[ex2] at ey2;cases ey1;cases ey2;obtain⟨r3,le3⟩:=r2.newF (o:= .tup [x1,x2]) hp;exact⟨_,le3,r3, .tup (SqT.of zq) (.cons (qx1.mono le3) (.cons (qx2.mono le3) .nil))⟩
  .intro hl;rw[List.length_map,List.length_zip] at hl;refine⟨a1,a2,SqL.of f1,SqL.of f2,?_⟩;rw[g1.length,g2.length];omega
 .exact h1.elim⟩
section
variable{μ:Mu}{Q:DK}{α:Type}
theorem ztP{ds:List D}{i:Int}:dIx (.tup ds) (.int i) μ Q=match atI ds i with
  | some v=>Q v μ
  | none=>False:=rfl
theorem zuv{ds:List D}{i:Int}:dIx (.lst ds) (.int i) μ Q=match atI ds i with
  | some v=>Q v μ
  | none=>False:=rfl
theorem zqn{a:α}{r:List α}:atI (a::r) 0=some a:=zbu (j:=0) rfl
theorem zqU{a b:α}{r:List α}:atI (a::b::r) 1=some b:=zbu (j:=1) rfl
theorem zuE{a b c:α}{r:List α}:atI (a::b::c::r) 2=some c:=zbu (j:=2) rfl
theorem zuU{a b c d:α}{r:List α}:atI (a::b::c::d::r) 3=some d:=zbu (j:=3) rfl
theorem zuW{a b c d e:α}{r:List α}:atI (a::b::c::d::e::r) 4=some e:=zbu (j:=4) rfl
theorem zxm{a:α}:atI [a] (-1)=some a:=rfl
theorem zu8{a b:α}:atI [a,b] (-1)=some b:=rfl
theorem zu9{a b c:α}:atI [a,b,c] (-1)=some c:=rfl
theorem zxv{a b c d:α}:atI [a,b,c,d] (-1)=some d:=rfl
theorem zwB{a b c d e:α}:atI [a,b,c,d,e] (-1)=some e:=rfl
theorem zg6{β:Type}{f:α->β}{xs:List α}{i:Int}:atI (xs.map f) i=(atI xs i).map f:=by
 unfold atI;rw[List.length_map];cases ixN xs.length i with
 | none=>rfl
 | some j=>simp[List.getElem?_map]
theorem zrC{xs:List α}{i:Int}{j:Nat}{v:α}(hi:i=j)(h:xs[j]? = some v):atI xs i=some v:=by subst hi;exact zbu h
theorem zmF{xs:List α}{i:Int}(h0:0<=i)(h1:i < xs.length):∃v,atI xs i=some v/\xs[i.toNat]? = some v:=by
 have hi:i.toNat < xs.length:=by omega
 exact⟨xs[i.toNat],zrC (by omega) (List.getElem?_eq_getElem hi),List.getElem?_eq_getElem hi⟩
theorem zhQ{xs:List α}:atI xs (-1)=xs.getLast? := by
 rcases List.eq_nil_or_concat xs with rfl | ⟨ys,v,rfl⟩
 .rfl
 .rw[List.concat_eq_append,zlI];simp
theorem zrJ{xs:List α}:cutD xs none (some 2)=xs.take 2:=zdf xs 2
end
theorem zpA{s1 u:DS}{D':zbB}{ρ:zX}{μ:Mu}(R:zX->Mu->Prop)(h1:∀N:zX->Mu->Prop,(∀ ρ' μ',R ρ' μ'->N ρ' μ')->s1 { D' with nx:=N } ρ μ)(h2:∀ ρ' μ',R ρ' μ'->u D' ρ' μ'):zK s1 u D' ρ μ:=h1 _ h2
def blK(Q:Bool->Mu->Prop):DK:=fun d μ=>match d with
 | .bl b=>Q b μ
 | _=>False
def zxN(Q:Int->Mu->Prop):DK:=fun d μ=>match d with
 | .int b=>Q b μ
 | _=>False
def chK(q':DR2)(e:D)(wc:DE)(ρ:zX)(Q:DK):DK:=fun z μ3=>match z with
 | .bl k=>if k=true then wc ρ μ3 fun f μ4=>q' e f μ4 Q else Q (.bl false) μ3
 | _=>False
def cellK(c:Option Ct)(Q:List D->Prop):Prop:=match c with
 | some (.lst ds)=>Q ds
 | _=>False
def zbb{α:Type}(o:Option α)(Q:α->Prop):Prop:=match o with
 | some a=>Q a
 | none=>False
def zpU{α β:Type}(o:Option α)(f:α->β):Option β:=match o with
 | some a=>some (f a)
 | none=>none
theorem zoK{α β:Type}{a:α}{f:α->β}:zpU (some a) f=some (f a):=rfl
def zpl(c:Option Ct)(Q:DK)(μ:Mu):Prop:=match c with
 | some (.lst ds)=>Q (.lst ds) μ
 | some (.dct ks vs)=>Q (.dct ks vs) μ
 | some (.dtt ks vs)=>Q (.dtt ks vs) μ
 | some (.ins C ns vs)=>Q (.obj C ns vs) μ
 | _=>False
def tyC(T:String)(c:Option Ct):Prop:=match c with
 | some (.lst _)=>"list"=T
 | some (.dct _ _)=>"dict"=T
 | some (.dtt _ _)=>"dict"=T
 | _=>False
section
variable{μ μ':Mu}{Q:DK}{ρ:zX}{w wa wb wc:DE}{k:Nat}{d e:D}{ds es:List D}{i j:Int}{q q':DR2}{α:Type}{D':zbB}
theorem zkd{b:Bool}{R:Bool->Mu->Prop}:blK R (.bl b) μ=R b μ:=rfl
theorem zp4{R:Int->Mu->Prop}:zxN R (.int i) μ=R i μ:=rfl
theorem zw9{b:Bool}:chK q' e wc ρ Q (.bl b) μ=if b=true then wc ρ μ fun f μ4=>q' e f μ4 Q else Q (.bl false) μ:=rfl
theorem zpz{R:List D->Prop}:cellK (some (.lst ds)) R=R ds:=rfl
theorem zec{a:α}{R:α->Prop}:zbb (some a) R=R a:=rfl
theorem zp0:zpl (some (.lst ds)) Q μ=Q (.lst ds) μ:=rfl
theorem zrr{ks:List Key}:zpl (some (.dct ks ds)) Q μ=Q (.dct ks ds) μ:=rfl
theorem zrh{ks:List (List Key)}:zpl (some (.dtt ks ds)) Q μ=Q (.dtt ks ds) μ:=rfl
theorem zhB{C:Str}{ns:List Str}:zpl (some (.ins C ns ds)) Q μ=Q (.obj C ns ds) μ:=rfl
theorem zt5:tyC "list" (some (.lst ds))=True:=eq_true rfl
theorem zwJ{R:Bool->Mu->Prop}:zY w ρ μ R=w ρ μ (blK R):=rfl
theorem zsZ:zj2 q q' wa wb wc ρ μ Q=wa ρ μ fun d μ1=>wb ρ μ1 fun e μ2=>q d e μ2 (chK q' e wc ρ Q):=rfl
theorem zwO{R:Option Int->Mu->Prop}:zaG w ρ μ R=w ρ μ (zxN fun i=>R (some i)):=rfl
theorem ztg{g:DG}{gs:DGs}{R:zX->Mu->Prop}:zaz g gs (d::ds) ρ μ R=g d ρ μ fun ρ' μ'=>gs ds ρ' μ' R:=rfl
theorem zwF{n:Nat}{gs:DGs}{R:zX->Mu->Prop}:zem n gs (.tup ds) ρ μ R=(ds.length=n/\gs ds ρ μ R):=rfl
def zyy(i j:Nat)(D0:zbB)(ρ:zX):List D->Mu->Prop:=fun ds μ1=>match ds with
 | [d,e]=>D0.nx ((ρ.set i (some d)).set j (some e)) μ1
 | _=>False
theorem zyA{i j:Nat}{wA:DA}:dPar i j wA D' ρ μ=wA ρ μ (zyy i j D' ρ):=rfl
theorem zp5{i j:Nat}:zyy i j D' ρ [d,e] μ=D'.nx ((ρ.set i (some d)).set j (some e)) μ:=rfl
theorem zry:ziH μ (.cell k) Q=zpl (μ k) Q (zir μ k):=by
 unfold ziH zpl;cases h:μ k with
 | none=>simp[h]
 | some c=>cases c<;>simp[h]
theorem zze{g:Int->Int->D}:dI0 g (.int i) (.int j) μ Q=Q (g i j) μ:=rfl
theorem e_i{C:Int->Int->Prop}{g:Int->Int->D}:dI C g (.int i) (.int j) μ Q=(C i j/\Q (g i j) μ):=rfl
theorem zyi:zfz (.int i) μ Q=Q (.int (-i)) μ:=rfl
theorem zuz:zbL (.int i) (.int j) μ Q=Q (.int (i+j)) μ:=rfl
theorem zw1{a b:Str}:zbL (.str a) (.str b) μ Q=(a.length+b.length<=sizeLine/\Q (.str (a++b)) μ):=rfl
theorem zqw:zbL (.tup ds) (.tup es) μ Q=(ds≠[]/\ds.length+es.length<=sizeLine/\Q (.tup (ds++es)) μ):=rfl
theorem zvn:zbL (.lst ds) (.lst es) μ Q=(ds.length+es.length<=sizeLine/\Q (.lst (ds++es)) μ):=by
 show(∃a b,zO μ (.lst ds)=some a/\zO μ (.lst es)=some b/\a.length+b.length<=sizeLine/\Q (.lst (a++b)) μ)=_;simp only[zcb,Option.some.injEq];refine propext ⟨fun⟨a,b,e1,e2,h⟩=>by subst e1 e2;exact h,fun h=>⟨_,_,rfl,rfl,h⟩⟩
theorem zy0(μ:Mu)(k:Nat)(R:List D->Prop):(∃a,zO μ (.cell k)=some a/\R a)=cellK (μ k) R:=by
 unfold zO cellK;cases h:μ k with
 | none=>simp[h]
 | some c=>cases c<;>simp[h]
theorem zt0:zbL (.lst ds) (.cell k) μ Q=cellK (μ k) fun es=>ds.length+es.length<=sizeLine/\Q (.lst (ds++es)) μ:=by
 rw[<- zy0];show(∃a b,zO μ (.lst ds)=some a/\zO μ (.cell k)=some b/\a.length+b.length<=sizeLine/\Q (.lst (a++b)) μ)=_;refine propext ⟨fun⟨a,b,e1,e2,h⟩=>by cases e1;exact⟨_,e2,h⟩,fun⟨b,e2,h⟩=>⟨_,_,rfl,e2,h⟩⟩
theorem zx6:zrz (.int i) (.int j) μ Q=(ziN i j/\Q (.int (i*j)) μ):=rfl
theorem zwX:zyp (.int i) (.int j) μ Q=Q (.int (i+j)) μ:=rfl
theorem znO:dIx (.tup ds) (.int i) μ Q=zbb (atI ds i) fun v=>Q v μ:=by
 rw[ztP];cases atI ds i<;>rfl
theorem zu6:dIx (.lst ds) (.int i) μ Q=zbb (atI ds i) fun v=>Q v μ:=by
 rw[zuv];cases atI ds i<;>rfl
theorem zyc:dIx (.cell k) (.int i) μ Q=cellK (μ k) fun ds=>zbb (atI ds i) fun v=>Q v μ:=by
 show(match za0 μ (.cell k) with | some ds=>(match L2.atI ds i with | some v=>Q v μ | none=>False) | none=>False)=_;unfold cellK za0 zO zbb;cases h:μ k with
 | none=>simp[h]
 | some c =>
  cases c<;>simp[h]
  rename_i ds;cases atI ds i<;>simp
theorem zyh{z:Str}:dIx (.str z) (.int i) μ Q=(z.length<=sizeLine/\zbb (L2.atI z.cps.toList i) fun c=>Q (.str ⟨#[c]⟩) μ):=by
 show(z.length<=sizeLine/\(match L2.atI z.cps.toList i with | some c=>Q (.str ⟨#[c]⟩) μ | none=>False))=_;cases L2.atI z.cps.toList i<;>rfl
theorem zdw{lo hi:Option Int}:za6 (.tup ds) lo hi μ Q=(¬ (HT.sIx ds.length 0 lo=0/\HT.sIx ds.length ds.length hi=ds.length)/\Q (.tup (cutD ds lo hi)) μ):=rfl
theorem zyk{lo hi:Option Int}:za6 (.lst ds) lo hi μ Q=Q (.lst (cutD ds lo hi)) μ:=rfl
theorem zxd{z:Str}:zb9 [.str z] μ Q=(z.length<=sizeLine/\Q (.int z.length) μ):=rfl
theorem zvN:zb9 [.lst ds] μ Q=Q (.int ds.length) μ:=rfl
theorem zv3:zb9 [.tup ds] μ Q=Q (.int ds.length) μ:=rfl
theorem zvs:zb9 [.cell k] μ Q=cellK (μ k) fun ds=>Q (.int ds.length) μ:=by
 show(match za0 μ (.cell k) with | some es=>Q (.int es.length) μ | none=>False)=_;unfold cellK za0 zO;cases h:μ k with
 | none=>simp[h]
 | some c=>cases c<;>simp[h]
theorem zsS:zjJ [.lst ds] μ Q=Q (.lst ds) μ:=rfl
theorem zs9:zjJ [.tup ds] μ Q=Q (.lst ds) μ:=rfl
theorem zsr:zhc [.lst ds] μ Q=∀k,μ k=none->Q (.cell k) (zH μ k (.lst ds)):=rfl
theorem zrT:zhc [.tup ds] μ Q=∀k,μ k=none->Q (.cell k) (zH μ k (.lst ds)):=rfl
theorem zlz:zdW [.lst ds] μ Q=Q (.tup ds) μ:=rfl
theorem zq5:zdW [.tup ds] μ Q=Q (.tup ds) μ:=rfl
theorem zsh:zdW [.cell k] μ Q=cellK (μ k) fun ds=>Q (.tup ds) μ:=by
 show(match za0 μ (.cell k) with | some es=>Q (.tup es) μ | none=>False)=_;unfold cellK za0 zO;cases h:μ k with
 | none=>simp[h]
 | some c=>cases c<;>simp[h]
theorem zxC:zy9 [.int i] μ Q=Q (.int (if i < 0 then -i else i)) μ:=rfl
theorem zvf:zpo [.int i, .int j] μ Q=Q (.int (if j > i then j else i)) μ:=rfl
theorem zvm:zm7 [.int i, .int j] μ Q=Q (.int (if j < i then j else i)) μ:=rfl
theorem zxs:zpo [.lst ds] μ Q=zbb (intsOf ds) fun ns=>ns≠[]/\∀M∈ns,(∀a∈ns,a<=M)->Q (.int M) μ:=by
 unfold zpo zbb;simp only[zcb,Option.bind_some];cases intsOf ds<;>rfl
theorem zvb:zm7 [.lst ds] μ Q=zbb (intsOf ds) fun ns=>ns≠[]/\∀M∈ns,(∀a∈ns,M<=a)->Q (.int M) μ:=by
 unfold zm7 zbb;simp only[zcb,Option.bind_some];cases intsOf ds<;>rfl
theorem zwv:zq1 [.lst ds] μ Q=zbb (intsOf ds) fun ns=>Q (.int ns.sum) μ:=by
 unfold zq1 zbb;simp only[zcb,Option.bind_some];cases intsOf ds<;>rfl
theorem zwY:zpn [.lst ds] μ Q=zbb (zbC ds) fun ns=>Q (.bl (ns.all id)) μ:=by
 unfold zpn zbb;simp only[zcb,Option.bind_some];cases zbC ds<;>rfl
theorem zws:zqQ [.lst ds] μ Q=zbb (zbC ds) fun ns=>Q (.bl (ns.any id)) μ:=by
 unfold zqQ zbb;simp only[zcb,Option.bind_some];cases zbC ds<;>rfl
theorem zmH:intsOf []=some []:=rfl
theorem zk8:intsOf (.int i::ds)=zpU (intsOf ds) (fun l=>i::l):=by
 unfold zpU;simp only[intsOf];cases intsOf ds<;>rfl
theorem zoP:zbC []=some []:=rfl
theorem zm5{b:Bool}:zbC (.bl b::ds)=zpU (zbC ds) (fun l=>b::l):=by
 unfold zpU;simp only[zbC];cases zbC ds<;>rfl
theorem zvy{R:List D->(Mu->Prop)->Prop}:zlb μ (.lst ds) R=R ds fun _=>True:=rfl
theorem zwA{R:List D->(Mu->Prop)->Prop}:zlb μ (.tup ds) R=R ds fun _=>True:=rfl
theorem zwC{R:List D->(Mu->Prop)->Prop}:zlb μ (.cell k) R=cellK (μ k) fun ds=>R ds fun μ'=>μ' k=some (.lst ds):=by
 first
  | (unfold zlb cellK
     cases h:μ k with
     | none=>simp[h]
     | some c=>cases c<;>simp[h])
  | (unfold lsM cellK
     cases h:μ k with
     | none=>simp[h]
     | some c=>cases c<;>simp[h])
theorem zxT{R:List D->(Mu->Prop)->Prop}:lsM μ (.lst ds) R=R ds fun _=>True:=rfl
def zuN(R:List D->(Mu->Prop)->Mu->Prop):List D->Mu->Prop:=fun ds μ1=>match ds with
 | [.int j]=> -(2^62)<=j/\j < 2^62/\R ((zby 0 j.toNat).map D.int) (fun _=>True) μ1
 | _=>False
def zuC(R:List D->(Mu->Prop)->Mu->Prop):List D->Mu->Prop:=fun ds μ1=>match ds with
 | [.int i, .int j]=>(-(2^62)<=i/\i < 2^62/\ -(2^62)<=j/\j < 2^62)/\R ((zby i (j - i).toNat).map D.int) (fun _=>True) μ1
 | _=>False
theorem zwf{wA:DA}{R:List D->(Mu->Prop)->Mu->Prop}:zcE wA ρ μ R=wA ρ μ (zuN R):=rfl
theorem ztz{R:List D->(Mu->Prop)->Mu->Prop}:zuN R [.int j] μ=(-(2^62)<=j/\j < 2^62/\R ((zby 0 j.toNat).map D.int) (fun _=>True) μ):=rfl
theorem zvF{wA:DA}{R:List D->(Mu->Prop)->Mu->Prop}:zw2 wA ρ μ R=wA ρ μ (zuC R):=rfl
theorem zs2{R:List D->(Mu->Prop)->Mu->Prop}:zuC R [.int i, .int j] μ=((-(2^62)<=i/\i < 2^62/\ -(2^62)<=j/\j < 2^62)/\R ((zby i (j - i).toNat).map D.int) (fun _=>True) μ):=rfl
def zxR(R:List D->(Mu->Prop)->Mu->Prop):List D->Mu->Prop:=fun es μ1=>match es with
 | [d,e]=>lsM μ1 d fun ds P1=>lsM μ1 e fun es P2=>R ((ds.zip es).map pairD) (fun μ'=>P1 μ'/\P2 μ') μ1
 | _=>False
theorem zyB{wA:DA}{R:List D->(Mu->Prop)->Mu->Prop}:zqg wA ρ μ R=wA ρ μ (zxR R):=rfl
theorem zxa{R:List D->(Mu->Prop)->Mu->Prop}:zxR R [d,e] μ=lsM μ d fun ds P1=>lsM μ e fun es P2=>R ((ds.zip es).map pairD) (fun μ'=>P1 μ'/\P2 μ') μ:=rfl
theorem zxp{many:Int}:zV [.cell k, .int many] μ Q=(μ k=some .draw/\0 < many/\many < 2^250/\∀v,0<=v->v < many->Q (.int v) μ):=rfl
theorem zs0{ns:List Int}:zfa [.scr ns] μ Q=∀k,μ k=none->Q (.cell k) (zH μ k .draw):=rfl
theorem zyZ{T:String}:tyM T μ (.cell k)=tyC T (μ k):=by
 unfold tyM tyD tyC;cases h:μ k with
 | none=>simp[h]
 | some c=>cases c<;>simp[h]
theorem zyR:tyM "list" μ (.lst ds)=True:=eq_true rfl
theorem zxO{z:Str}:tyM "str" μ (.str z)=True:=eq_true rfl
theorem zun{R:Nat->List D->Prop}:zcq μ (.cell k) R=cellK (μ k) (R k):=by
 unfold zcq cellK;cases h:μ k with
 | none=>simp[h]
 | some c=>cases c<;>simp[h]
theorem zsi:zaC d [e] μ Q=zcq μ d fun k ds=>ds.length < sizeLine/\Q .non (zH μ k (.lst (ds++[e]))):=rfl
theorem zxw:zuG d [] μ Q=zcq μ d fun k ds=>zbb ds[ds.length - 1]? fun y=>Q y (zH μ k (.lst ds.dropLast)):=by
 refine congrArg (zcq μ d) (funext fun k=>funext fun ds=>?_);cases ds[ds.length - 1]? <;> rfl
theorem zvD:zuG d [.int i] μ Q=zcq μ d fun k ds=> -(2^63)<=i/\i < 2^63/\zbb (ixN ds.length i) fun j=>zbb ds[j]? fun y=>Q y (zH μ k (.lst (ds.eraseIdx j))):=by
 refine congrArg (zcq μ d) (funext fun k=>funext fun ds=>?_);refine congrArg (And _) (congrArg (And _) ?_);unfold zbb;cases ixN ds.length i with
 | none=>rfl
 | some j =>
  generalize ds.eraseIdx j=ee
  simp only;cases ds[j]? <;> rfl
theorem ztS{R:Mu->Prop}:zkh d (.int i) e μ R=zcq μ d fun k ds=>zbb (ixN ds.length i) fun j=>R (zH μ k (.lst (ds.set j e))):=by
 refine congrArg (zcq μ d) (funext fun k=>funext fun ds=>?_);cases ixN ds.length i<;>rfl
theorem zy5:dIs d .non μ Q=Q (.bl (zdT d)) μ:=rfl
theorem zub:zvV d .non μ Q=Q (.bl (!zdT d)) μ:=rfl
theorem zls{x:Int}:zq7 [(.int x), .ty "int"] μ Q=Q (.bl true) μ:=by show("int"∈zae/\Q (.bl (zfr "int" "int")) μ)=_;rw[show("int"∈zae)=True from eq_true (by decide),true_and];rfl
theorem zkj{x:Int}:zq7 [(.int x), .ty "bool"] μ Q=Q (.bl false) μ:=by show("bool"∈zae/\Q (.bl (zfr "int" "bool")) μ)=_;rw[show("bool"∈zae)=True from eq_true (by decide),true_and];rfl
end
def zfk(ds:List D):List D:=((List.range ds.length).zip ds).map fun p=> .tup [.int p.1,p.2]
theorem zcY{ds:List D}{i:Nat}{d:D}(h:(zfk ds)[i]? = some d):∃e,ds[i]? = some e/\d= .tup [.int i,e]:=by
 unfold zfk at h;rw[List.getElem?_map] at h;cases hz:((List.range ds.length).zip ds)[i]? with
 | none=>rw[hz] at h;cases h
 | some pr =>
  rw[hz] at h;cases h;obtain⟨m1,m2⟩:=List.getElem?_zip_eq_some.mp hz;have hi:=(List.getElem?_eq_some_iff.mp m2).1;rw[List.getElem?_range hi] at m1;cases pr;cases m1;exact⟨_,m2,rfl⟩
theorem zbx(ds:List D):(zfk ds).length=ds.length:=by simp[zfk]
def zuR(R:List D->(Mu->Prop)->Mu->Prop):List D->Mu->Prop:=fun es μ1=>match es with
 | [d]=>lsM μ1 d fun ds P1=>R (zfk ds) P1 μ1
 | _=>False
def zve(w:DA):DI:=fun ρ μ Q=>w ρ μ (zuR Q)
theorem ztU{d:D}{μ:Mu}{R:List D->(Mu->Prop)->Mu->Prop}:zuR R [d] μ=lsM μ d fun ds P1=>R (zfk ds) P1 μ:=rfl
section
variable{X:Cx}(K:Frag)
def zyg:List V->Hp->VK->Prop:=fun xs H Q=>∃a ys c b,xs=[.ref a,c]/\SqT K H a ys/\(∀u,RelV c u->kitOne K (.type "tuple") u=some b)/\Q (.bl b) H
def zx3:List V->Hp->VK->Prop:=fun xs H Q=>zvk K xs H Q\/zyg K xs H Q
theorem zpx(h:X.K=K:=by rfl):zL X (.builtin "isinstance") (zyg K):=by
 subst h;intro pins s σ H xs us Q I r h;obtain⟨a,ys,c,b,rfl,hq,hk,q⟩:=h;obtain⟨u,w,rfl,ra,rc⟩:=vals2 r;cases ra;obtain⟨its,rv,p,hz⟩:=I.tuple hq;obtain⟨o,h1,h2,_⟩:=p;exact kia_one PySem.W.kitx_tuple I.kIn ⟨o,h1,h2⟩ (hk w rc) (fun z=>nomatch z) fun tk=>⟨.bl b,H,I.tok _,rfl,q⟩
theorem zhR(h:X.K=K:=by rfl):zL X (.builtin "isinstance") (zx3 K):=(zoL K h).or (zpx K h)
end
def zgS:DRs:=fun ds μ Q=>match ds with
 | [.tup _, .ty T]=>T∈zae/\Q (.bl (zfr "tuple" T)) μ
 | ds=>zq7 ds μ Q
theorem ztb{K:Frag}{T:String}(h':T∈zae):kitOne K (.type "tuple") (.type T)=some (zfr "tuple" T):=by
 simp only[zae,List.mem_cons,List.not_mem_nil,or_false] at h';rcases h' with rfl | rfl | rfl | rfl | rfl | rfl<;>rfl
instance{K:Frag}{fl:Wd}:zbg K fl (zx3 K) zgS:=⟨fun{W μ H ds xs Q Q'} r z h k=>by
 unfold zgS at h;split at h
 .rename_i es T;obtain⟨x,y,rfl,q1,q2⟩:=z.two;obtain⟨a,ys,rfl,hs,_⟩:=q1.tup';unfold Rep at q2;subst q2;exact .inr ⟨a,ys, .ty T,zfr "tuple" T,rfl,hs.sm r.sub,fun u hu=>by cases hu;exact ztb h.1,k _ _ _ _ _ (.refl _) r .b h.2⟩
 .exact .inl (zbg.run (K:=K) r z h k)⟩
inductive Src where
 | p (i:Nat) | k (i:Nat) | c (i:Nat)
def pick{α:Type}(d:α)(cs us ws:List α):Src->α
 | .p i=>us.getD i d
 | .k i=>ws.getD i d
 | .c i=>cs.getD i d
def sel{α:Type}(n m:Nat)(pat:List Src)(d:α)(cs us ws:List α):List α:=bif (us.length==n&&ws.length==m) then pat.map (pick d cs us ws) else[]
theorem Vals.getD{vs:List V}{us:List Value}(h:Vals vs us)(i:Nat):RelV (vs.getD i .non) (us.getD i .none):=by
 rw[List.getD_eq_getElem?_getD,List.getD_eq_getElem?_getD];cases e:vs[i]? with
 | none =>
  have:us[i]? = none:=by
   rw[List.getElem?_eq_none_iff] at e ⊢;rw[<- h.length];exact e
  rw[this];rfl
 | some v =>
  obtain⟨u,hu,rv⟩:=h.get e;rw[hu];exact rv
theorem Vals.mapS{f:Src->V}{g:Src->Value}(h:∀x,RelV (f x) (g x)):∀pat:List Src,Vals (pat.map f) (pat.map g)
 | []=> .nil
 | x::r=> .cons (h x) (Vals.mapS h r)
theorem zr2{n m:Nat}{pat:List Src}{csV vs zs:List V}{csU us ws:List Value}(hc:Vals csV csU)(h1:Vals vs us)(h2:Vals zs ws):Vals (sel n m pat .non csV vs zs) (sel n m pat .none csU us ws):=by
 unfold sel;rw[h1.length,h2.length];cases (us.length==n&&ws.length==m) with
 | false=>exact .nil
 | true =>
  refine Vals.mapS (fun x=>?_) pat;cases x with
  | p i=>exact h1.getD i
  | k i=>exact h2.getD i
  | c i=>exact hc.getD i
section
variable{K:Frag}{fl:Wd}{W:Wd}
theorem zr.getD{ds:List D}{xs:List V}(h:zr K W ds xs)(i:Nat):Rep K W (ds.getD i .non) (xs.getD i .non):=by
 rw[List.getD_eq_getElem?_getD,List.getD_eq_getElem?_getD];cases e:ds[i]? with
 | none =>
  have:xs[i]? = none:=by
   rw[List.getElem?_eq_none_iff] at e ⊢;rw[h.length];exact e
  rw[this];exact .n
 | some v =>
  obtain⟨u,hu,rv⟩:=h.get e;rw[hu];exact rv
theorem zr.mapS{f:Src->D}{g:Src->V}(h:∀x,Rep K W (f x) (g x)):∀pat:List Src,zr K W (pat.map f) (pat.map g)
 | []=> .nil
 | x::r=> .cons (h x) (zr.mapS h r)
theorem zlA{n m:Nat}{pat:List Src}{csV vs zs:List V}{csD ds es:List D}(hc:zr K W csD csV)(h1:zr K W ds vs)(h2:zr K W es zs):zr K W (sel n m pat .non csD ds es) (sel n m pat .non csV vs zs):=by
 unfold sel;rw[h1.length,h2.length];cases (ds.length==n&&es.length==m) with
 | false=>exact .nil
 | true =>
  refine zr.mapS (fun x=>?_) pat;cases x with
  | p i=>exact h1.getD i
  | k i=>exact h2.getD i
  | c i=>exact hc.getD i
end
theorem zwW{K:Frag}{fd:FuncData}{ps ks:List Str}{n m:Nat}{pat:List Src}{csV:List V}{csU:List Value}(hc:Vals csV csU)(hp:ps.length≠0)
  (h:∀(S:Setting) (us ws:List Value),us.length=n->ws.length=m->PySem.W.peek K S (bindArgs fd ⟨us,ks.zip ws⟩)=some (ps.zip (sel n m pat .none csU us ws))):zdL K fd ps ks (sel n m pat .none csU) (sel n m pat .non csV) where
 to:=fun s us ws hK hl=>by
  by_cases c:us.length=n/\ws.length=m
  .exact PySem.W.kp_binds hK fun S=>h S us ws c.1 c.2
  .have:(us.length==n&&ws.length==m)=false:=by
    rw[Bool.and_eq_false_iff];by_cases c1:us.length=n
    .exact .inr (by rw[beq_eq_false_iff_ne];exact fun z=>c ⟨c1,z⟩)
    .exact .inl (by rw[beq_eq_false_iff_ne];exact c1)
   unfold sel at hl;rw[this] at hl;exact absurd hl.symm hp
 rel:=fun r rz=>zr2 hc r rz
class ztx(K:Frag)(ds:List D)(xs:List V):Prop where
 run:∀W,zr K W ds xs
instance{K:Frag}:ztx K [] []:=⟨fun _=> .nil⟩
def zww(dsp:DSp)(n m:Nat)(pat:List Src)(cs:List D)(w wk:DA):DE:=fun ρ μ Q=>w ρ μ fun ds μ1=>wk ρ μ1 fun es μ2=>dsp (sel n m pat .non cs ds es) μ2 Q
theorem zeN:∀{us:List Value} {ns:List Str},StrsAre us ns->Vals (ns.map V.str) us
 | _,_, .nil=> .nil
 | _,_, .cons n t h=> .cons ⟨t,rfl⟩ (zeN h)
theorem zh4:∀{us:List Value} {ns:List Int},IntsAre us ns->Vals (ns.map V.int) us
 | _,_, .nil=> .nil
 | _,_, .cons n t h=> .cons ⟨t,rfl⟩ (zh4 h)
theorem zeP:∀{ns:List Str} {us:List Value},Vals (ns.map V.str) us->StrsAre us ns
 | [],_,h=>by cases h;exact .nil
 | y::r,_,h=>by
  cases h with
  | cons a b=>obtain⟨t,rfl⟩:=a;exact .cons y t (zeP b)
section
variable{X:Cx}(K:Frag)
def zqi:List V->Hp->VK->Prop:=fun xs H Q=>∃p ns,xs=[.ref p]/\SqL K H p (ns.map V.int)/\ns.length < 64/\∀ns' l,List.Perm ns' ns->List.Pairwise (·<= ·) ns'->H l=none->Q (.ref l) (upd H l (.lst (ns'.map V.int)))
def zqX:List V->Hp->VK->Prop:=fun xs H Q=>∃p ns,xs=[.ref p]/\SqL K H p (ns.map V.str)/\ns.length < 64/\∀ns' l,List.Perm ns' ns->sortedS ns'=true->H l=none->Q (.ref l) (upd H l (.lst (ns'.map V.str)))
theorem zmx(h:X.K=K:=by rfl):zL X (.builtin "sorted") (zqi K):=by
 subst h;intro pins s σ H xs us Q I r h;obtain⟨p,ns,rfl,hl,hz,q⟩:=h;obtain⟨u,rfl,rx⟩:=vals1 r;cases rx;obtain⟨its,r',pl,hz'⟩:=I.list hl;have hi:=zci r';refine sorted_ints pl.isList hi (by rw[<- r'.length,List.length_map];exact hz) fun out ns' h1 h2 h3=>?_
 obtain⟨e,he⟩:=sortedAll_at s.heap its out;have hf:H (s.heap.objs.size+1)=none:=I.hok.fresh (Nat.le_succ _);refine⟨.ref (s.heap.objs.size+1),_,I.laid (a:=s.heap.objs.size+1) (o:= .lst (ns'.map V.int)) (t':=s.toks) (fun b o e=>sortedAll_old e) (Nat.le_succ _) ?_,rfl,q ns' _ h2 h3 hf⟩;refine⟨by rw[List.length_map,h2.length_eq];exact Nat.le_trans (Nat.le_of_lt hz) (by decide),out.toList,e,zh4 h1,?_⟩;rw[he]
theorem znm(h:X.K=K:=by rfl):zL X (.builtin "sorted") (zqX K):=by
 subst h;intro pins s σ H xs us Q I r h;obtain⟨p,ns,rfl,hl,hz,q⟩:=h;obtain⟨u,rfl,rx⟩:=vals1 r;cases rx;obtain⟨its,r',pl,hz'⟩:=I.list hl;have hi:=zeP r';refine sorted_strs pl.isList hi (by rw[<- r'.length,List.length_map];exact hz) fun out ns' h1 h2 h3=>?_
 obtain⟨e,he⟩:=sortedAll_at s.heap its out;have hf:H (s.heap.objs.size+1)=none:=I.hok.fresh (Nat.le_succ _);refine⟨.ref (s.heap.objs.size+1),_,I.laid (a:=s.heap.objs.size+1) (o:= .lst (ns'.map V.str)) (t':=s.toks) (fun b o e=>sortedAll_old e) (Nat.le_succ _) ?_,rfl,q ns' _ h2 h3 hf⟩;refine⟨by rw[List.length_map,h2.length_eq];exact Nat.le_trans (Nat.le_of_lt hz) (by decide),out.toList,e,zeN h1,?_⟩;rw[he]
def zkU:List V->Hp->VK->Prop:=fun xs H Q=>zqi K xs H Q\/zqX K xs H Q
theorem zks(h:X.K=K:=by rfl):zL X (.builtin "sorted") (zkU K):=(zmx K h).or (znm K h)
end
def zg4:DRs:=fun ds μ Q=>match ds with
 | [d]=>(∃ns,zO μ d=some (ns.map D.int)/\ns.length < 64/\∀ns',List.Perm ns' ns->List.Pairwise (·<= ·) ns'->Q (.lst (ns'.map D.int)) μ) \/
   (∃ns,zO μ d=some (ns.map D.str)/\ns.length < 64/\∀ns',List.Perm ns' ns->sortedS ns'=true->Q (.lst (ns'.map D.str)) μ)
 | _=>False
instance{K:Frag}{fl:Wd}:zbg K fl (zkU K) zg4:=⟨fun{W μ H ds xs Q Q'} r z h k=>by
 unfold zg4 at h;split at h
 .obtain⟨x,rfl,q⟩:=z.one;rcases h with⟨ns,hl,hz,h⟩ | ⟨ns,hl,hz,h⟩
  .obtain⟨a,xs,rfl,e1,z1⟩:=zau r q hl;rw[z1.ints] at e1;refine .inl ⟨a,ns,rfl,SqL.of e1,hz,fun ns' l h1 h2 hl=>?_⟩;obtain⟨r2,le2⟩:=r.newF (o:= .lst (ns'.map V.int)) hl;exact k _ _ _ _ _ le2 r2 (.lst zq (.of_ints ns')) (h ns' h1 h2)
  .obtain⟨a,xs,rfl,e1,z1⟩:=zau r q hl;rw[z1.strs] at e1;refine .inr ⟨a,ns,rfl,SqL.of e1,hz,fun ns' l h1 h2 hl=>?_⟩;obtain⟨r2,le2⟩:=r.newF (o:= .lst (ns'.map V.str)) hl;exact k _ _ _ _ _ le2 r2 (.lst zq (.of_strs ns')) (h ns' h1 h2)
 .exact h.elim⟩
theorem zos:zdT .non=true:=rfl
theorem zot{i:Int}:zdT (.int i)=false:=rfl
theorem zoX{i:Str}:zdT (.str i)=false:=rfl
theorem zq4{i:Bool}:zdT (.bl i)=false:=rfl
theorem zo0{i:List D}:zdT (.lst i)=false:=rfl
theorem zoh{i:List D}:zdT (.tup i)=false:=rfl
theorem zni{i:Nat}:zdT (.cell i)=false:=rfl
section
variable{μ:Mu}{Q:DK}
theorem zlS{x:Int}:zgS [(.int x), .ty "int"] μ Q=Q (.bl true) μ:=zls (x:=x)
theorem zjY{x:Int}:zgS [(.int x), .ty "bool"] μ Q=Q (.bl false) μ:=zkj (x:=x)
theorem zk0{x:List D}:zgS [.tup x, .ty "int"] μ Q=Q (.bl false) μ:=by show("int"∈zae/\Q (.bl (zfr "tuple" "int")) μ)=_;rw[show("int"∈zae)=True from eq_true (by decide),true_and];rfl
theorem zkq{x:List D}:zgS [.tup x, .ty "bool"] μ Q=Q (.bl false) μ:=by show("bool"∈zae/\Q (.bl (zfr "tuple" "bool")) μ)=_;rw[show("bool"∈zae)=True from eq_true (by decide),true_and];rfl
theorem zl4{x:List D}:zgS [.tup x, .ty "str"] μ Q=Q (.bl false) μ:=by show("str"∈zae/\Q (.bl (zfr "tuple" "str")) μ)=_;rw[show("str"∈zae)=True from eq_true (by decide),true_and];rfl
theorem zkG{x:List D}:zgS [.tup x, .ty "list"] μ Q=Q (.bl false) μ:=by show("list"∈zae/\Q (.bl (zfr "tuple" "list")) μ)=_;rw[show("list"∈zae)=True from eq_true (by decide),true_and];rfl
theorem ziP{x:List D}:zgS [.tup x, .ty "tuple"] μ Q=Q (.bl true) μ:=by show("tuple"∈zae/\Q (.bl (zfr "tuple" "tuple")) μ)=_;rw[show("tuple"∈zae)=True from eq_true (by decide),true_and];rfl
theorem zkD{x:List D}:zgS [.tup x, .ty "dict"] μ Q=Q (.bl false) μ:=by show("dict"∈zae/\Q (.bl (zfr "tuple" "dict")) μ)=_;rw[show("dict"∈zae)=True from eq_true (by decide),true_and];rfl
end
theorem stp{s u:DS}{D':zbB}{ρ:zX}{μ:Mu}(h:∀N:zX->Mu->Prop,(∀ ρ' μ',u D' ρ' μ'->N ρ' μ')->s { D' with nx:=N } ρ μ):zK s u D' ρ μ:=h _ fun _ _ z=>z
section
variable{Pm:Mu->Prop}{g:DG}{we:DE}{ρb:zX}{Fin:List D->Mu->Prop}{d:D}{r ys:List D}{μ:Mu}
end
abbrev Tab:=List (Str×List Str)
def zc0(tab:Tab)(c f:Str):Bool:=tab.any fun p=>p.1==c&&p.2.contains f
class TabOk(K:Frag)(tab:Tab):Prop where
 run:∀c f C,zc0 tab c f=true->clsOf K c=some C->Cls K C/\zbH K C f
def znb(tab:Tab)(f c:Str)(ns:List Str)(vs:List D)(R:D->Prop):Prop:=zc0 tab c f=true/\zbb ((ns.zip vs).lookup f) R
def zkK(c:Option Ct)(R:Str->List Str->List D->Prop):Prop:=match c with
 | some (.ins c ns vs)=>R c ns vs
 | _=>False
def zkl(μ:Mu)(d:D)(R:Str->List Str->List D->Prop):Prop:=match d with
 | .obj c ns vs=>R c ns vs
 | .cell k=>zkK (μ k) R
 | _=>False
theorem zr4{c:Str}{ns:List Str}{vs:List D}{R:Str->List Str->List D->Prop}:zkK (some (.ins c ns vs)) R=R c ns vs:=rfl
theorem zqe{o:Option Ct}{R:Str->List Str->List D->Prop}(h:zkK o R):∃c ns vs,o=some (.ins c ns vs)/\R c ns vs:=by
 unfold zkK at h;split at h
 .exact⟨_,_,_,rfl,h⟩
 .exact h.elim
theorem zqA{μ:Mu}{c:Str}{ns:List Str}{vs:List D}{R:Str->List Str->List D->Prop}:zkl μ (.obj c ns vs) R=R c ns vs:=rfl
theorem zov{μ:Mu}{k:Nat}{R:Str->List Str->List D->Prop}:zkl μ (.cell k) R=zkK (μ k) R:=rfl
def zyN(tab:Tab)(f:Str)(Q:DK):DK:=fun d μ=>zkl μ d fun c ns vs=>znb tab f c ns vs fun v=>Q v μ
def zo7(tab:Tab)(w:DE)(f:Str):DE:=fun ρ μ Q=>w ρ μ (zyN tab f Q)
section
variable{K:Frag}{fl:Wd}{W:Wd}{μ:Mu}{H:Hp}
theorem zif{d:D}{x:V}{R:Str->List Str->List D->Prop}(r:Rel K fl W μ H)(q:Rep K W d x)(h:zkl μ d R):∃c C a dx ns vs xs,clsOf K c=some C/\x= .ref a/\H a=some (.ins C dx (ns.zip xs))/\ns.length=xs.length/\zr K W vs xs/\R c ns vs:=by
 unfold zkl at h;split at h
 .rename_i c ns vs;unfold Rep at q;obtain⟨C,a,dx,xs,hc,rfl,e,l,z⟩:=q;exact⟨c,C,a,dx,ns,vs,xs,hc,rfl,r.sub _ _ e,l,z,h⟩
 .rename_i k;obtain⟨a,rfl,hb⟩:=q.cell';unfold zkK at h;split at h
  .rename_i c ns vs hk;obtain⟨a',e1,e2,C,dx,xs,hc,e3,l3,q3⟩:=r.cel k _ hk;rw[hb] at e1;cases e1;exact⟨c,C,a,dx,ns,vs,xs,hc,rfl,e3,l3,q3,h⟩
  .exact h.elim
 .exact h.elim
theorem zr.lookup{f:Str}:∀{ns:List Str} {vs:List D} {xs:List V} {v:D},zr K W vs xs->(ns.zip vs).lookup f=some v->∃x,(ns.zip xs).lookup f=some x/\Rep K W v x
 | [],_,_,_,_,h=>by simp at h
 | _::_,[],_,_,_,h=>by simp at h
 | n::ns,d::vs,xs,v,r,h=>by
  obtain⟨x,xs,rfl,q,z⟩:=r.uncons;simp only[List.zip_cons_cons,List.lookup_cons] at h ⊢;cases e:(f==n) with
  | true=>rw[e] at h;cases h;exact⟨x,rfl,q⟩
  | false=>rw[e] at h;exact zr.lookup z h
theorem zr.lookup_none{f:Str}:∀{ns:List Str} {vs:List D} {xs:List V},zr K W vs xs->(ns.zip vs).lookup f=none->(ns.zip xs).lookup f=none
 | [],_,_,_,_=>by simp
 | _::_,[],_,r,_=>by rw[r.nil'];simp
 | n::ns,d::vs,xs,r,h=>by
  obtain⟨x,xs,rfl,q,z⟩:=r.uncons;simp only[List.zip_cons_cons,List.lookup_cons] at h ⊢;cases e:(f==n) with
  | true=>rw[e] at h;cases h
  | false=>rw[e] at h;exact zr.lookup_none z h
instance{tab:Tab}{ta:TE}{wa:DE}{f:Str}[t:TabOk K tab][a:zN K fl ta wa]:zN K fl (zsM K ta f) (zo7 tab wa f):=⟨fun{W ρ μ σ H Q Q'} r e h k=>a.run r e h fun W1 d μ1 x H1 le1 r1 q1 h1=>by
 obtain⟨c,C,a,dx,ns,vs,xs,hc,rfl,ea,l,z,hi,hl⟩:=zif r1 q1 h1;unfold zbb at hl;split at hl
 .rename_i v hv;obtain⟨x,hx,q⟩:=z.lookup hv;obtain⟨c1,c2⟩:=t.run c f C hi hc;exact⟨a,C,dx,_,x,rfl,ea,c1,c2,hx,k _ _ _ _ _ le1 r1 q hl⟩
 .exact hl.elim⟩
end
def putN(f:Str):List Str->List Str
 | []=>[f]
 | g::r=>if g=f then g::r else g::putN f r
def putD(f:Str)(v:D):List Str->List D->List D
 | g::r,x::xs=>if g=f then v::xs else x::putD f v r xs
 | _,_=>[v]
def zdO(tab:Tab)(f:Str)(v:D)(c:Str)(ns:List Str)(vs:List D)(R:List Str->List D->Prop):Prop:=zc0 tab c f=true/\ns.length < 1000/\R (putN f ns) (putD f v ns vs)
def zdC(tab:Tab)(wo w:DE)(f:Str):DS:=fun D ρ μ=>w ρ μ fun v μ1=>wo ρ μ1 fun d μ2=>match d with
 | .cell k=>zkK (μ2 k) fun c ns vs=>zdO tab f v c ns vs fun ns' vs'=>D.nx ρ (zH μ2 k (.ins c ns' vs'))
 | _=>False
def zyv(tab:Tab)(f:Str)(v:D)(D0:zbB)(ρ:zX):DK:=fun d μ2=>match d with
 | .cell k=>zkK (μ2 k) fun c ns vs=>zdO tab f v c ns vs fun ns' vs'=>D0.nx ρ (zH μ2 k (.ins c ns' vs'))
 | _=>False
theorem zwq{tab:Tab}{wo w:DE}{f:Str}{D0:zbB}{ρ:zX}{μ:Mu}:zdC tab wo w f D0 ρ μ=w ρ μ fun v μ1=>wo ρ μ1 (zyv tab f v D0 ρ):=rfl
theorem zoE{tab:Tab}{f:Str}{v:D}{D0:zbB}{ρ:zX}{k:Nat}{μ:Mu}:zyv tab f v D0 ρ (.cell k) μ=zkK (μ k) fun c ns vs=>zdO tab f v c ns vs fun ns' vs'=>D0.nx ρ (zH μ k (.ins c ns' vs')):=rfl
section
variable{K:Frag}{fl:Wd}{W:Wd}
theorem znZ{f:Str}{y:V}:∀{ns:List Str} {xs:List V},ns.length=xs.length->∃xs',zc7 f y (ns.zip xs)=(putN f ns).zip xs'/\(putN f ns).length=xs'.length/\∀{vs:List D} {v:D},zr K W vs xs->Rep K W v y->zr K W (putD f v ns vs) xs'
 | [],[],_=>⟨[y],rfl,rfl,fun{vs v} r q=>by
   cases vs with
   | nil=>exact .cons q .nil
   | cons d vs=>obtain⟨x,r',e,_⟩:=r.uncons;cases e⟩
 | [],_::_,h=>by simp at h
 | _::_,[],h=>by simp at h
 | n::ns,x::xs,h=>by
  obtain⟨xs',e1,e2,e3⟩:=znZ (f:=f) (y:=y) (ns:=ns) (xs:=xs) (by simpa using h);by_cases hn:n=f
  .refine⟨y::xs,?_,?_,fun{vs v} r q=>?_⟩
   .simp[zc7,putN,hn]
   .simp only[putN,if_pos hn];simpa using h
   .cases vs with
    | nil=>have:=r.nil';cases this
    | cons d vs =>
     obtain⟨x',r',e,q1,z⟩:=r.uncons;cases e;simp only[putD,if_pos hn];exact .cons q z
  .refine⟨x::xs',?_,?_,fun{vs v} r q=>?_⟩
   .simp only[List.zip_cons_cons,zc7,putN,if_neg hn,e1]
   .simp only[putN,if_neg hn,List.length_cons,e2]
   .cases vs with
    | nil=>have:=r.nil';cases this
    | cons d vs =>
     obtain⟨x',r',e,q1,z⟩:=r.uncons;cases e;simp only[putD,if_neg hn];exact .cons q1 (e3 z q)
instance{tab:Tab}{ta tv:TE}{wa wv:DE}{f:Str}[t:TabOk K tab][a:zN K fl ta wa][b:zN K fl tv wv]:zdb K fl (ztV K ta tv f) (zdC tab wa wv f):=⟨fun{W ρ μ σ H D' D} r e h k=>b.run r e h fun W1 v μ1 y H1 le1 r1 qv h1=>a.run r1 (e.mono le1) h1 fun W2 d μ2 x H2 le2 r2 q2 h2=>by
 cases d<;>first | exact h2.elim | skip
 rename_i kk;obtain⟨a,rfl,hb⟩:=q2.cell';obtain⟨c,ns,vs,hk,h2⟩:=zqe (o:=μ2 kk) h2;obtain⟨a',e1,e2,C,dx,xs,hc,e3,l3,q3⟩:=r2.cel kk _ hk;rw[hb] at e1;cases e1;obtain⟨hi,hz,h2⟩:=h2;obtain⟨c1,c2⟩:=t.run c f C hi hc;obtain⟨xs',p1,p2,p3⟩:=znZ (K:=K) (W:=W2) (f:=f) (y:=y) l3;refine⟨a,C,dx,_,rfl,e3,c1,c2,by rw[List.length_zip,<- l3,Nat.min_self];exact hz,?_⟩;rw[p1];exact k.nx W2 ρ _ σ _ (le1.trans le2) (r2.setC (c':= .ins c (putN f ns) (putD f v ns vs)) hk hb ⟨C,dx,xs',hc,rfl,p2,p3 q3 (qv.mono le2)⟩) (e.mono (le1.trans le2)) h2⟩
end
structure zqj(P:Program)(w:World)(K:Frag)(mg:Str->Option Value)(base:Heap)(CX:CXT)(c m:Str)(k:Nat)(ps:List Str)(sp:Sp)(ks:List Str)(gV:List V->List V->List V):Prop where
 ex:∃C f fd g,clsOf K c=some C/\Cls K C/\Meth K C m f/\zaa P w K mg base CX k f fd ps sp/\zdL K fd ps ks g gV
def zsg(K:Frag)(c m:Str)(sp:Sp)(gV:List V->List V->List V)(E:XK)(ta:TE)(t tk:TA):TE:=fun σ H Q=>ta σ H fun x H1=>∃C a dx fs,clsOf K c=some C/\x= .ref a/\H1 a=some (.ins C dx fs)/\fs.lookup m=none /\
 t σ H1 fun vs H2=>tk σ H2 fun zs H3=>sp (gV (x::vs) zs) H3 Q E
section
variable{X:Cx}{CX:CXT}{j k:Nat}{ps ks:List Str}{sp:Sp}{E:XK}{c m:Str}{pos apos:Pos}{e o:Expr}{es:List Expr}{ta:TE}{t tk:TA}{kws:List Keyword}{gV:List V->List V->List V}
theorem zoq{pl:Sem Bool}(K:Frag)(hh:zqj X.prog X.w X.K X.mg X.base CX c m j ps sp [] gV)(hr:zds k X.A)(he:WE X o ta)(hK:X.K=K:=by rfl)(hj:j<=k:=by decide)(hx:zck CX X E:=by exact zlc)
  (ht:eval (.Call (.Attribute o m apos) [] [] pos) X.env=(do
   let ov<-eval o X.env
   standAt apos.atName
   let (f,first)<-holding [ov] (getMethod ov m pl)
   callWith pos f first (backTo pos (starEach [] X.env)) (backToKw pos (keywordEach [] X.env))):=by rfl) :
  WE X (.Call (.Attribute o m apos) [] [] pos) (zsg K c m sp gV E ta zfh zfh):=⟨by
 subst hK;obtain⟨C0,f,fd,g,hc0,hcl,hm,F,hb⟩:=hh.ex;intro pins s σ H Q I h;refine PySem.W.methodCall_KW (pl:=pl) (thn (he.out pins s σ H _ I h) fun u s1 ⟨x,H1,I1,rx,C,a,dx,fs,hc,ex,ea,l,q⟩=>?_) ht;rw[hc0] at hc;cases hc;subst ex;obtain rfl:u=Value.ref a:=rx;refine zmS I1 ea hcl hm l ?_;exact PySem.W.callWith_K0 (first:=[.ref a]) I1.kIn hm.kp (ztF (us:=[.ref a]) (vs:=[.ref a]) (ws:=[]) (zs:=[]) (F.mono hj) hr hb hx I1 (.cons rfl .nil) .nil q)⟩
end
def zrI(c m:Str)(dsp:DSp)(n j:Nat)(pat:List Src)(cs:List D)(wo:DE)(w wk:DA):DE:=fun ρ μ Q=>wo ρ μ fun d μ1=>(zkl μ1 d fun c' ns vs=>c'=c/\(ns.zip vs).lookup m=none)/\w ρ μ1 fun ds μ2=>wk ρ μ2 fun es μ3=>dsp (sel n j pat .non cs (d::ds) es) μ3 Q
instance{K:Frag}{fl:Wd}{c m:Str}{dsp:DSp}{n j:Nat}{pat:List Src}{csD:List D}{csV:List V}{E:XK}{ta:TE}{wa:DE}{t tk:TA}{w wk:DA}[o:zN K fl ta wa][a:zbR K fl t w][b:zbR K fl tk wk][cr:ztx K csD csV]:zN K fl (zsg K c m (lift K dsp) (sel n j pat .non csV) E ta t tk) (zrI c m dsp n j pat csD wa w wk):=⟨fun{W ρ μ σ H Q Q'} r e h k =>
 o.run r e h fun W1 d μ1 x H1 le1 r1 q1 h1=>by
  obtain⟨c',C,p,dx,ns,vs,xs,hc,rfl,ea,l,z,rfl,hl⟩:=zif r1 q1 h1.1;refine⟨C,p,dx,_,hc,rfl,ea,z.lookup_none hl,a.run r1 (e.mono le1) h1.2 fun W2 ds μ2 xs H2 le2 r2 q2 h2=>b.run r2 (e.mono (le1.trans le2)) h2 fun W3 es μ3 ys H3 le3 r3 q3 h3=>?_⟩;exact⟨fl,W3,μ3,_,Q,r3,zlA (cr.run W3) (.cons (q1.mono (le2.trans le3)) (q2.mono le3)) q3,h3,fun W4 d4 μ4 x4 H4 le4=>k W4 d4 μ4 x4 H4 (le1.trans (le2.trans (le3.trans le4)))⟩⟩
structure znC(P:Program)(w:World)(K:Frag)(mg:Str->Option Value)(base:Heap)(CX:CXT)(c:Str)(k:Nat)(ps:List Str)(sp:Sp)(ks:List Str)(gV:List V->List V->List V):Prop where
 ex:∃C f fd g,clsOf K c=some C/\Mk K C f/\zaa P w K mg base CX k f fd ps sp/\zdL K fd ps ks g gV/\mg c=some (.ref C)
def zmY(K:Frag)(c:Str)(sp:Sp)(gV:List V->List V->List V)(E:XK)(t tk:TA):TE:=fun σ H Q=>t σ H fun vs H1=>tk σ H1 fun zs H2=>∀C x dx,clsOf K c=some C->H2 x=none->H2 dx=none->dx≠x ->
 sp (gV (.ref x::vs) zs) (upd (upd H2 dx (.own x)) x (.ins C dx [])) (fun v H3=>v= .non/\Q (.ref x) H3) E
section
variable{X:Cx}{CX:CXT}{j k:Nat}{ps ks:List Str}{sp:Sp}{E:XK}{c:Str}{p pos:Pos}{e:Expr}{es:List Expr}{t tk:TA}{kws:List Keyword}{gV:List V->List V->List V}
theorem zlP(K:Frag)(h:znC X.prog X.w X.K X.mg X.base CX c j ps sp ks gV)(hr:zds k X.A)(ha:WA X (e::es) t)(hkw:WK X kws tk)(hK:X.K=K:=by rfl)(hj:j+1<=k:=by decide)(hg:Gl X c:=by rfl)(hx:zck CX X E:=by exact zlc)
  (hall:(backToKw pos (keywordEach kws X.env)).all (·.1.isSome)=true:=by rfl)(hks:(backToKw pos (keywordEach kws X.env)).filterMap (·.1)=ks:=by rfl)
  (hdb:(c==("__debug__":Str))=false:=by decide)(he:starEach (e::es) X.env=(false,eval e X.env)::starEach es X.env:=by rfl)
  (hpl:((backTo pos (starEach (e::es) X.env)).any (·.1)||(backToKw pos (keywordEach kws X.env)).any (·.1.isNone))=false:=by rfl):WE X (.Call (.Name c p) (e::es) kws pos) (zmY K c sp gV E t tk):=⟨by
 subst hK;obtain⟨C,f,fd,g,hc,M,F,b,m⟩:=h.ex;intro pins s σ H Q I h;refine wpAny_Call_Name_kw (zjT I hg m ?_ hdb);refine PySem.W.callWith_KW (h₀:=X.base) I.ok.mod.kin M.kp hall (thn (ha.out pos pins s σ H _ I h) fun us s1 ⟨vs,H1,I1,r,q⟩=>?_) hpl he;refine thn (hkw.out pos pins s1 σ H1 _ I1 q) fun ws s2 ⟨zs,H2,I2,rz,q2⟩=>⟨I2.kIn,?_⟩
 rw[hks];exact zoS M F (hr.mono hj) b hx I2 r rz fun x dx h1 h2 h3=>q2 C x dx hc h1 h2 h3⟩
end
def zyT(c:Str)(dsp:DSp)(n j:Nat)(pat:List Src)(cs:List D)(w wk:DA):DE:=fun ρ μ Q=>w ρ μ fun ds μ1=>wk ρ μ1 fun es μ2=>∀k,μ2 k=none->dsp (sel n j pat .non cs (.cell k::ds) es) (zH μ2 k (.ins c [] [])) fun d μ3=>d= .non/\Q (.cell k) μ3
def zfL(c:Str)(dsp:DSp)(n j:Nat)(pat:List Src)(cs:List D)(w wk:DA):DE:=fun ρ μ Q=>w ρ μ fun ds μ1=>wk ρ μ1 fun es μ2=>∀k,μ2 k=none->dsp (sel n j pat .non cs (.cell k::ds) es) (zH μ2 k (.ins c [] [])) fun d μ3=>d= .non/\ziH μ3 (.cell k) Q
section
variable{K:Frag}{fl:Wd}{c:Str}{dsp:DSp}{n j:Nat}{pat:List Src}{csD:List D}{csV:List V}{E:XK}{t tk:TA}{w wk:DA}
theorem ztC{W:Wd}{μ:Mu}{H:Hp}{C x dx:Addr}(r:Rel K fl W μ H)(hc:clsOf K c=some C)(h1:H x=none)(h2:H dx=none)(h3:dx≠x):∃(k:Nat) (W':Wd),μ k=none/\W.le W'/\Rel K fl W' (zH μ k (.ins c [] [])) (upd (upd H dx (.own x)) x (.ins C dx []))/\W'.b k=some x:=by
 have r1:Rel K fl W μ (upd H dx (.own x)):=r.same (zdU h2);have hx:upd H dx (.own x) x=none:=by rw[zm (Ne.symm h3)];exact h1
 exact r1.newC (o:= .ins C dx []) (c:= .ins c [] []) hx ⟨C,dx,[],hc,rfl,rfl, .nil⟩
theorem zrM[a:zbR K fl t w][b:zbR K fl tk wk][cr:ztx K csD csV]:zN K fl (zmY K c (lift K dsp) (sel n j pat .non csV) E t tk) (zfL c dsp n j pat csD w wk):=⟨fun{W ρ μ σ H Q Q'} r e h k =>
 a.run r e h fun W1 ds μ1 xs H1 le1 r1 q1 h1=>b.run r1 (e.mono le1) h1 fun W2 es μ2 ys H2 le2 r2 q2 h2 C x dx hc g1 g2 g3=>by
  obtain⟨kk,W3,hk,le3,r3,e3⟩:=ztC r2 hc g1 g2 g3;refine⟨fl,W3,_,_,_,r3,zlA (cr.run W3) (.cons (by unfold Rep;exact⟨x,rfl,e3⟩) (q1.mono (le2.trans le3))) (q2.mono le3),h2 kk hk,fun W4 d4 μ4 x4 H4 le4 r4 q4 h4=>?_⟩;obtain⟨rfl,h4⟩:=h4;obtain⟨W5,d5,μ5,le5,r5,q5,h5⟩:=znt r4 (x:= .ref x) (d:= .cell kk) (by unfold Rep;exact⟨x,rfl,le4.b _ _ e3⟩) h4;exact⟨q4.n',k W5 d5 μ5 _ H4 (le1.trans (le2.trans (le3.trans (le4.trans le5)))) r5 q5 h5⟩⟩
instance[a:zbR K fl t w][b:zbR K fl tk wk][cr:ztx K csD csV]:zN K fl (zmY K c (lift K dsp) (sel n j pat .non csV) E t tk) (zfL c dsp n j pat csD w wk):=zrM
end
theorem zcp{K:Frag}{c:Str}{C:Addr}(h:nsIn K mainGlobals c=some (some (.ref C))):clsOf K c=some C:=by unfold clsOf;rw[h]
theorem zpa{K:Frag}:TabOk K []:=⟨fun _ _ _ h=>by simp[zc0] at h⟩
theorem zhP{K:Frag}{c:Str}{fs:List Str}{tab:Tab}{C:Addr}(hc:clsOf K c=some C)(cl:Cls K C)(hf:∀f∈fs,zbH K C f)(t:TabOk K tab):TabOk K ((c,fs)::tab):=⟨fun c' f C' hi h=>by
 simp only[zc0,List.any_cons,Bool.or_eq_true,Bool.and_eq_true] at hi;rcases hi with⟨h1,h2⟩ | h1
 .have e:=eq_of_beq h1;subst e;rw[hc] at h;cases h;exact⟨cl,hf f (List.contains_iff_mem.mp h2)⟩
 .exact t.run c' f C' h1 h⟩
def zqI(K:Frag):V->List V->Hp->VK->Prop:=fun x xs H Q=>∃sep p ys,x= .str sep/\xs=[.ref p]/\(SqL K H p (ys.map V.str)\/SqT K H p (ys.map V.str))/\sep.length<=16/\zfv ys<=1048576/\Q (.str (Str.join sep ys)) H
theorem zq3{X:Cx}(K:Frag)(h:X.K=K:=by rfl):MtR X "str.join" (zqI K):=zqW K h
def zsb:DM:=fun d es μ Q=>match d,es with
 | .str sep,[e]=>∃ys,za0 μ e=some (ys.map D.str)/\sep.length<=16/\zfv ys<=1048576/\Q (.str (Str.join sep ys)) μ
 | _,_=>False
instance{K:Frag}{fl:Wd}:zrG K fl "str" (zqI K) zsb:=⟨fun{W μ H d x ds xs Q Q'} r q z h k=>by
 unfold zsb at h;split at h
 .obtain⟨y,rfl,qy⟩:=z.one;obtain⟨ys,hl,h1,h2,h⟩:=h;obtain⟨a,vs,rfl,e1,z1⟩:=zbK r qy hl;rw[z1.strs] at e1;rw[q.s'];exact⟨_,a,ys,rfl,rfl,e1,h1,h2,k _ _ _ _ _ (.refl _) r .s h⟩
 .exact h.elim⟩
def zyb:R2:=fun x y H Q=>∃c n,x= .str ⟨#[c]⟩/\y= .int n/\0<=n/\n<=1000/\∀z:Str,z.cps.toList=List.replicate n.toNat c->Q (.str z) H
def zqG:R2:=fun x y H Q=>znT x y H Q\/zyb x y H Q
theorem zqO{X:Cx}:OpR X (binaryOp .Mult) zqG:=zth.or zmC
def ziX:DR2:=fun d e μ Q=>match d,e with
 | .str z, .int n=>∃c,z=⟨#[c]⟩/\0<=n/\n<=1000/\∀y:Str,y.cps.toList=List.replicate n.toNat c->Q (.str y) μ
 | d,e=>zrz d e μ Q
instance{K:Frag}{fl:Wd}:zbj K fl zqG ziX:=⟨fun{W μ H d e x y Q Q'} r q1 q2 h k=>by
 unfold ziX at h;split at h
 .obtain⟨c,rfl,h1,h2,h⟩:=h;rw[q1.s',q2.i'];exact .inr ⟨c,_,rfl,rfl,h1,h2,fun z hz=>k _ _ _ _ _ (.refl _) r .s (h z hz)⟩
 .exact .inl (zbj.run (K:=K) (r:=znT) (q:=zrz) r q1 q2 h k)⟩
section
variable{μ:Mu}{Q:DK}{i j:Int}{ds:List D}
theorem zvQ:ziX (.int i) (.int j) μ Q=(ziN i j/\Q (.int (i*j)) μ):=rfl
theorem ztI{c:Nat}:ziX (.str ⟨#[c]⟩) (.int j) μ Q=(0<=j/\j<=1000/\∀y:Str,y.cps.toList=List.replicate j.toNat c->Q (.str y) μ):=by
 show(∃c',(⟨#[c]⟩:Str)=⟨#[c']⟩/\0<=j/\j<=1000/\∀y:Str,y.cps.toList=List.replicate j.toNat c'->Q (.str y) μ)=_;refine propext ⟨fun⟨c',e,h⟩=>?_,fun h=>⟨c,rfl,h⟩⟩;have:c=c':=by
  have:=congrArg (fun s:Str=>s.cps.toList) e;simpa using this
 subst this;exact h
end
theorem zbd{Pm:Mu->Prop}{g:DG}{ds:List D}{μ:Mu}{we:DE}{ρb:zX}{Fin:List D->Mu->Prop}{ys:List D}(I:Nat->List D->Mu->Prop)(h0:I 0 ys μ)
  (step:∀i d ys μ,ds[i]? = some d->I i ys μ->ys.length < sizeLine/\∀N:List D->Mu->Prop,(∀ys' μ',I (i+1) ys' μ'->N ys' μ')->g d ρb μ fun ρ2 μ2=>we ρ2 μ2 fun v μ4=>N (ys++[v]) μ4)
  (fin:∀ys μ,I ds.length ys μ->Fin ys μ)(hP:∀i ys μ,I i ys μ->Pm μ:=by exact fun _ _ _ _=>trivial):zbe g zcO we ρb Pm Fin ds ys μ :=
 zi1 I h0 (fun i d ys μ hd hI=>⟨(step i d ys μ hd hI).1,fun N hN=>(step i d ys μ hd hI).2 N hN⟩) fin hP
theorem zb7{α:Type}{Pm:Mu->Prop}{g:DG}{μ:Mu}{wc:DT}{we:DE}{ρb:zX}{Fin:List D->Mu->Prop}(xs:List α)(f:α->D)(p:α->Bool)(f':α->D)(hl:xs.length<=sizeLine)
  (step:∀x∈xs,∀(Y:DK) (Z:Mu->Prop),(p x=true->Y (f' x) μ)->(p x=false->Z μ)->g (f x) ρb μ fun ρ2 μ2=>wc ρ2 μ2 fun b μ3=>if b=true then we ρ2 μ3 Y else Z μ3)
  (fin:Fin ((xs.filter p).map f') μ)(hP:Pm μ:=by exact trivial):zbe g wc we ρb Pm Fin (xs.map f) [] μ:=by
 refine zi1 (fun i ys μ'=>μ'=μ/\ys=((xs.take i).filter p).map f') ⟨rfl,by simp⟩ (fun i d ys μ' hd hI=>?_) (fun ys μ' hI=>?_) (fun i ys μ' h=>h.1▸hP)
 .obtain⟨rfl,rfl⟩:=hI;rw[List.getElem?_map] at hd;cases hx:xs[i]? with
  | none=>rw[hx] at hd;cases hd
  | some x =>
   rw[hx] at hd;cases hd;have hi:=(List.getElem?_eq_some_iff.mp hx).1;refine⟨?_,fun N hN=>?_⟩
   .have:=List.length_filter_le p (xs.take i);rw[List.length_map];rw[List.length_take] at this;omega
   .refine step x (List.mem_of_getElem? hx) (fun v μ4=>N (((xs.take i).filter p).map f'++[v]) μ4) (fun μ3=>N (((xs.take i).filter p).map f') μ3) (fun hp=>hN _ _ ⟨rfl,?_⟩) (fun hp=>hN _ _ ⟨rfl,?_⟩)
    .rw[List.take_add_one,hx];simp[hp]
    .rw[List.take_add_one,hx];simp[hp]
 .obtain⟨rfl,rfl⟩:=hI;rw[List.length_map,List.take_length];exact fin
theorem zgm:∀xs:List Str,zcN (xs.map D.str)=some (xs.map V.str)
 | []=>rfl
 | x::r=>by rw[List.map_cons,zcN,zgm r];rfl
theorem zkb{x:Str}{xs:List Str}{μ:Mu}{Q:DK}{neg:Bool}{e:D}(h:za0 μ e=some (xs.map D.str)):zbA neg (.str x) e μ Q=Q (.bl (neg ^^ decide (x∈xs))) μ:=by
 have h2:zij (.str x)=some (.str x):=rfl;unfold zbA;simp only[h,h2,zgm,zlF];cases neg<;>simp
theorem zca{x:Str}{xs:List Str}{μ:Mu}{Q:DK}{neg:Bool}{k:Nat}(h:μ k=some (.lst (xs.map D.str))):zbA neg (.str x) (.cell k) μ Q=Q (.bl (neg ^^ decide (x∈xs))) μ:=zkb (znc h)
theorem zjb{x:Str}{xs:List Str}{μ:Mu}{Q:DK}{neg:Bool}:zbA neg (.str x) (.lst (xs.map D.str)) μ Q=Q (.bl (neg ^^ decide (x∈xs))) μ:=zkb rfl
theorem zjn{x:Str}{xs:List Str}{μ:Mu}{Q:DK}{neg:Bool}:zbA neg (.str x) (.tup (xs.map D.str)) μ Q=Q (.bl (neg ^^ decide (x∈xs))) μ:=zkb rfl
class KTup(K:Frag)(a:Addr)(ns:List Int):Prop where
 at_:∀H,SqT K H a (ns.map V.int)
instance{K:Frag}{fl:Wd}{a:Addr}{ns:List Int}[i:KTup K a ns]:zN K fl (tC (.ref a)) (dC (.tup (ns.map D.int))):=⟨fun{W ρ μ σ H Q Q'} r e h k=>k W _ μ _ H (.refl W) r (.tup (i.at_ _) (.of_ints ns)) h⟩
theorem zgE:∀xs:List Int,zcN (xs.map D.int)=some (xs.map V.int)
 | []=>rfl
 | x::r=>by rw[List.map_cons,zcN,zgE r];rfl
theorem zkX(x:Int):∀xs:List Int,inV (.int x) (xs.map V.int)=decide (x∈xs)
 | []=>by simp[inV]
 | y::r=>by
  have ih:=zkX x r;unfold inV at ih ⊢;rw[List.map_cons,List.any_cons,ih];show((y==x)||decide (x∈r))=decide (x∈y::r);by_cases h:y=x
  .subst h;simp
  .have h':¬ x=y:=fun e=>h e.symm
   simp[h,h']
theorem zka{x:Int}{xs:List Int}{μ:Mu}{Q:DK}{neg:Bool}:zbA neg (.int x) (.tup (xs.map D.int)) μ Q=Q (.bl (neg ^^ decide (x∈xs))) μ:=by
 have h2:zij (.int x)=some (.int x):=rfl;unfold zbA;simp only[zo3,h2,zgE,zkX];cases neg<;>simp
def zxP:R2:=fun x y H Q=>∃i j,x= .str i/\y= .str j/\Q (.bl (!(Builtin.Str.occurrences j i 0 j.length 1).isEmpty)) H
theorem ztd{X:Cx}:OpR X (compareOp .In) zxP:=zpr
def zk1(signs x:Str):Bool:= !(Builtin.Str.occurrences signs x 0 signs.length 1).isEmpty
def ztK:DR2:=fun d e μ Q=>match d,e with
 | .str i, .str j=>Q (.bl (zk1 j i)) μ
 | _,_=>False
instance{K:Frag}{fl:Wd}:zbj K fl zxP ztK:=⟨fun{W μ H d e x y Q Q'} r q1 q2 h k=>by
 unfold ztK at h;split at h
 .rw[q1.s',q2.s'];exact⟨_,_,rfl,rfl,k _ _ _ _ _ (.refl _) r .b h⟩
 .exact h.elim⟩
theorem zyd{i j:Str}{μ:Mu}{Q:DK}:ztK (.str i) (.str j) μ Q=Q (.bl (zk1 j i)) μ:=rfl
def zu3(P:Program)(w:World)(K:Frag):List V->Hp->VK->Prop:=fun xs H Q=>∃p ys,xs=[.ref p]/\SqT K H p (ys.map V.str)/\ys.length<=100/\∀a,H a=none->Q (.ref a) (upd H a (zpg P w a ys))
def znQ(P:Program)(w:World):List V->Hp->VK->Prop:=fun xs H Q=>∃a ys,xs=[.ref a]/\H a=some (zpg P w a ys)/\Q (.int (zjt ys:Nat)) H
theorem zol{X:Cx}{P:Program}{w:World}(K:Frag)(h:X.K=K:=by rfl)(hP:X.prog=P:=by rfl)(hw:X.w=w:=by rfl)(hc:X.calm=true:=by rfl):zL X (.type "set") (zu3 P w K):=by subst hP hw;exact zoW K hc h
theorem zkx{X:Cx}{P:Program}{w:World}(hP:X.prog=P:=by rfl)(hw:X.w=w:=by rfl):zL X (.builtin "len") (znQ P w):=by subst hP hw;exact zpq
def zj6(w:DE):DE:=fun ρ μ Q=>w ρ μ fun d μ1=>match d with
 | .tup ds=>∃ys,ds=ys.map D.str/\ys.length<=100/\Q (.int (zjt ys:Nat)) μ1
 | _=>False
instance{P:Program}{w:World}{K:Frag}{fl:Wd}{te:TE}{we:DE}[a:zN K fl te we]:zN K fl (tCB (znQ P w) (zdr (tCB (zu3 P w K) (zdr te zfh)) zfh)) (zj6 we):=⟨fun{W ρ μ σ H Q Q'} r e h k=>a.run r e h fun W1 d μ1 x H1 le1 r1 q1 h1=>by
 cases d<;>first | exact h1.elim | skip
 obtain⟨ys,rfl,hl,h1⟩:=h1;obtain⟨p,xs,rfl,s1,z1⟩:=q1.tup';rw[z1.strs] at s1;refine⟨p,ys,rfl,s1.sm r1.sub,hl,fun b hb=>⟨b,ys,rfl,zq,?_⟩⟩;exact k W1 _ μ1 _ _ le1 (r1.same (zdU hb)) .i h1⟩
def zzk(c:Str):DRs:=fun ds μ Q=>match ds with
 | [.str _, .cls c']=>c'=c/\Q (.bl false) μ
 | [.int _, .cls c']=>c'=c/\Q (.bl false) μ
 | [d, .cls c']=>c'=c/\zkl μ d fun c2 _ _=>c2=c/\Q (.bl true) μ
 | _=>False
section
variable{μ:Mu}{Q:DK}{c:Str}
end
def SI:Nat->D->Prop
 | _, .int _=>True
 | _, .str x=>PyData.strOk x=true
 | n+1, .tup ds=>∀d∈ds,SI n d
 | n+1, .lst ds=>∀d∈ds,SI n d
 | _,_=>False
theorem SI.pl:∀{n:Nat} {d:D},SI n d->Pl n d:=by
 intro n;induction n with
 | zero=>intro d h;cases d<;>first | exact h.elim | exact h
 | succ n ih=>intro d h;cases d<;>first | exact h.elim | exact h | exact fun x hx=>ih (h x hx)
theorem SI.eqvs{n:Nat}(ih:∀d e p q,SI n d->SI n e->toPy d=some p->toPy e=some q->(PyData.eqv p q=true↔d=e)):∀(ds es:List D) (ps qs:List PyData),(∀d∈ds,SI n d)->(∀d∈es,SI n d)->zbh ds=some ps->zbh es=some qs->(PyData.eqvAll ps qs=true↔ds=es)
 | [],[],ps,qs,_,_,h1,h2=>by
  unfold zbh at h1 h2;cases h1;cases h2;simp[PyData.eqvAll]
 | [],e::es,ps,qs,_,_,h1,h2=>by
  unfold zbh at h1 h2;split at h2
  .cases h1;cases h2;simp[PyData.eqvAll]
  .cases h2
 | d::ds,[],ps,qs,_,_,h1,h2=>by
  unfold zbh at h1 h2;split at h1
  .cases h1;cases h2;simp[PyData.eqvAll]
  .cases h1
 | d::ds,e::es,ps,qs,s1,s2,h1,h2=>by
  unfold zbh at h1 h2;split at h1
  .rename_i p ps' e1 e2;split at h2
   .rename_i q qs' e3 e4;cases h1;cases h2;have a:=ih d e p q (s1 d List.mem_cons_self) (s2 e List.mem_cons_self) e1 e3;have b:=SI.eqvs ih ds es ps' qs' (fun x hx=>s1 x (List.mem_cons_of_mem _ hx)) (fun x hx=>s2 x (List.mem_cons_of_mem _ hx)) e2 e4;unfold PyData.eqvAll;rw[Bool.and_eq_true,a,b,List.cons.injEq]
   .cases h2
  .cases h1
theorem SI.eqv:∀(n:Nat) (d e:D) (p q:PyData),SI n d->SI n e->toPy d=some p->toPy e=some q->(PyData.eqv p q=true↔d=e):=by
 intro n;induction n with
 | zero =>
  intro d e p q h1 h2 t1 t2;cases d<;>first | exact h1.elim | skip
  all_goals cases e<;>first | exact h2.elim | skip
  all_goals (unfold toPy at t1 t2;cases t1;cases t2;simp[PyData.eqv])
 | succ n ih =>
  intro d e p q h1 h2 t1 t2;cases d<;>first | exact h1.elim | skip
  all_goals cases e<;>first | exact h2.elim | skip
  all_goals unfold toPy at t1 t2
  all_goals first
   | (cases t1;cases t2;simp[PyData.eqv];done)
   | (cases t1
      obtain⟨qs,e2,rfl⟩:=Option.map_eq_some_iff.mp t2;simp[PyData.eqv];done)
   | (cases t2
      obtain⟨ps,e1,rfl⟩:=Option.map_eq_some_iff.mp t1;simp[PyData.eqv];done)
   | (obtain ⟨ps, e1, rfl⟩ := Option.map_eq_some_iff.mp t1
      obtain⟨qs,e2,rfl⟩:=Option.map_eq_some_iff.mp t2;first
       | (simp[PyData.eqv];done)
       | (unfold PyData.eqv
          rw[SI.eqvs ih _ _ ps qs h1 h2 e1 e2];simp))
theorem ztt{neg:Bool}{d e:D}{μ:Mu}{Q:DK}{n:Nat}(h1:SI n d)(h2:SI n e)(hn:n<=60)(q:∀b:Bool,(b=true↔d=e)->Q (.bl (neg ^^ b)) μ):zhO neg d e μ Q:=by
 obtain⟨p,t1,c1,b1⟩:=Pl.py n d h1.pl;obtain⟨p',t2,c2,b2⟩:=Pl.py n e h2.pl;unfold zhO;split
 .exact q _ (by simp)
 .exact q _ (by simp)
 .exact q _ (by simp)
 .rw[zly t1,zly t2];exact⟨⟨c1,by omega⟩,⟨c2,by omega⟩,q _ (SI.eqv n d e p p' h1 h2 t1 t2)⟩
theorem zxq{d e:D}{μ:Mu}{Q:DK}{n:Nat}(h1:SI n d)(h2:SI n e)(hn:n<=60)(q:∀b:Bool,(b=true↔d=e)->Q (.bl (!b)) μ):dNe d e μ Q:=ztt h1 h2 hn fun b hb=>by rw[Bool.true_xor];exact q b hb
theorem zqN{d:D}{μ:Mu}{Q:DK}{n:Nat}(h1:SI n d)(hn:n<=60)(q:Q (.bl false) μ):dNe d d μ Q:=zxq h1 h1 hn fun b hb=>by rw[hb.mpr rfl];exact q
def zv5(c:Str)(dsp:DSp)(n j:Nat)(pat:List Src)(cs ds es:List D)(μ:Mu)(Q:DK):Prop:=∀k,μ k=none->dsp (sel n j pat .non cs (.cell k::ds) es) (zH μ k (.ins c [] [])) fun d μ3=>d= .non/\ziH μ3 (.cell k) Q
theorem ztu{c:Str}{dsp:DSp}{n j:Nat}{pat:List Src}{cs:List D}{w wk:DA}{ρ:zX}{μ:Mu}{Q:DK}:zfL c dsp n j pat cs w wk ρ μ Q=w ρ μ fun ds μ1=>wk ρ μ1 fun es μ2=>zv5 c dsp n j pat cs ds es μ2 Q:=rfl
theorem zt9{a b c d e f:D}{μ:Mu}{Q:DK}:za6 (.tup [a,b,c,d,e,f]) none (some 2) μ Q=Q (.tup [a,b]) μ:=by
 rw[zdw];simp only[show cutD [a,b,c,d,e,f] none (some 2)=[a,b] from zdf _ 2,eq_iff_iff,and_iff_right_iff_imp];intro _ ⟨_,h⟩;have h3:HT.sIx 6 6 (some 2)=2:=HT.zaI 6 6 2;have h2:HT.sIx 6 6 (some 2)=6:=h;rw[h3] at h2;omega
theorem zsK{a b c d e f:D}{μ:Mu}{Q:DK}:za6 (.tup [a,b,c,d,e,f]) none (some 3) μ Q=Q (.tup [a,b,c]) μ:=by
 rw[zdw];simp only[show cutD [a,b,c,d,e,f] none (some 3)=[a,b,c] from zdf _ 3,eq_iff_iff,and_iff_right_iff_imp];intro _ ⟨_,h⟩;have h3:HT.sIx 6 6 (some 3)=3:=HT.zaI 6 6 3;have h2:HT.sIx 6 6 (some 3)=6:=h;rw[h3] at h2;omega
theorem zsN{a b c d e f:D}{μ:Mu}{Q:DK}:za6 (.tup [a,b,c,d,e,f]) none (some 4) μ Q=Q (.tup [a,b,c,d]) μ:=by
 rw[zdw];simp only[show cutD [a,b,c,d,e,f] none (some 4)=[a,b,c,d] from zdf _ 4,eq_iff_iff,and_iff_right_iff_imp];intro _ ⟨_,h⟩;have h3:HT.sIx 6 6 (some 4)=4:=HT.zaI 6 6 4;have h2:HT.sIx 6 6 (some 4)=6:=h;rw[h3] at h2;omega
theorem zta{a b c d e f:D}{μ:Mu}{Q:DK}:za6 (.tup [a,b,c,d,e,f]) none (some 5) μ Q=Q (.tup [a,b,c,d,e]) μ:=by
 rw[zdw];simp only[show cutD [a,b,c,d,e,f] none (some 5)=[a,b,c,d,e] from zdf _ 5,eq_iff_iff,and_iff_right_iff_imp];intro _ ⟨_,h⟩;have h3:HT.sIx 6 6 (some 5)=5:=HT.zaI 6 6 5;have h2:HT.sIx 6 6 (some 5)=6:=h;rw[h3] at h2;omega
theorem zpH{a b c d e f:D}{μ:Mu}{Q:DK}:za6 (.tup [a,b,c,d,e,f]) (some 1) none μ Q=Q (.tup [b,c,d,e,f]) μ:=by
 rw[zdw];simp only[show cutD [a,b,c,d,e,f] (some 1) none=[b,c,d,e,f] from zd4 _ 1,eq_iff_iff,and_iff_right_iff_imp];intro _ ⟨h,_⟩;have h3:HT.sIx 6 0 (some 1)=1:=HT.zaI 6 0 1;have h2:HT.sIx 6 0 (some 1)=0:=h;rw[h3] at h2;omega
theorem zo5{a b c d e f:D}{μ:Mu}{Q:DK}:za6 (.tup [a,b,c,d,e,f]) (some 2) none μ Q=Q (.tup [c,d,e,f]) μ:=by
 rw[zdw];simp only[show cutD [a,b,c,d,e,f] (some 2) none=[c,d,e,f] from zd4 _ 2,eq_iff_iff,and_iff_right_iff_imp];intro _ ⟨h,_⟩;have h3:HT.sIx 6 0 (some 2)=2:=HT.zaI 6 0 2;have h2:HT.sIx 6 0 (some 2)=0:=h;rw[h3] at h2;omega
theorem zpy{a b c d e f:D}{μ:Mu}{Q:DK}:za6 (.tup [a,b,c,d,e,f]) (some 4) none μ Q=Q (.tup [e,f]) μ:=by
 rw[zdw];simp only[show cutD [a,b,c,d,e,f] (some 4) none=[e,f] from zd4 _ 4,eq_iff_iff,and_iff_right_iff_imp];intro _ ⟨h,_⟩;have h3:HT.sIx 6 0 (some 4)=4:=HT.zaI 6 0 4;have h2:HT.sIx 6 0 (some 4)=0:=h;rw[h3] at h2;omega
theorem zpc{a b c d e f:D}{μ:Mu}{Q:DK}:za6 (.tup [a,b,c,d,e,f]) (some 5) none μ Q=Q (.tup [f]) μ:=by
 rw[zdw];simp only[show cutD [a,b,c,d,e,f] (some 5) none=[f] from zd4 _ 5,eq_iff_iff,and_iff_right_iff_imp];intro _ ⟨h,_⟩;have h3:HT.sIx 6 0 (some 5)=5:=HT.zaI 6 0 5;have h2:HT.sIx 6 0 (some 5)=0:=h;rw[h3] at h2;omega
theorem zuF{α:Type}{a b c d e f:α}{r:List α}:atI (a::b::c::d::e::f::r) 5=some f:=zbu (j:=5) rfl
def Ev(w:DE)(ρ:zX)(μ:Mu)(d:D):Prop:=∀Q:DK,Q d μ->w ρ μ Q
def Evs(w:DA)(ρ:zX)(μ:Mu)(ds:List D):Prop:=∀Q:List D->Mu->Prop,Q ds μ->w ρ μ Q
def EvO(q:DR2)(d e:D)(μ:Mu)(v:D):Prop:=∀Q:DK,Q v μ->q d e μ Q
def EvB(q:DRs)(ds:List D)(μ:Mu)(v:D):Prop:=∀Q:DK,Q v μ->q ds μ Q
section
variable{w wa wb:DE}{wr:DA}{ρ:zX}{μ:Mu}{d e v:D}{ds es:List D}{i:Nat}{q:DR2}{D':zbB}
theorem zwL(h:ρ[i]? = some (some d)):Ev (zb i) ρ μ d:=fun Q z=>by unfold zb;rw[h];exact z
theorem zy6:Ev (dC d) ρ μ d:=fun Q z=>z
theorem zyt(h1:Ev wa ρ μ d)(h2:Ev wb ρ μ e)(h3:EvO q d e μ v):Ev (dOp q wa wb) ρ μ v:=fun Q z=>h1 _ (h2 _ (h3 _ z))
theorem zsW:Evs zu ρ μ []:=fun Q z=>z
theorem zqF(h1:Ev wa ρ μ d)(h2:Evs wr ρ μ ds):Evs (za wa wr) ρ μ (d::ds):=fun Q z=>h1 _ (h2 _ z)
theorem zvK(h:Evs wr ρ μ ds)(hl:ds.length<=1000):Ev (dTup wr) ρ μ (.tup ds):=fun Q z=>h _ ⟨Nat.le_trans hl (by decide),z⟩
theorem zwS(h:Evs wr ρ μ ds)(hl:ds.length<=1000):Ev (zkc wr) ρ μ (.lst ds):=fun Q z=>h _ ⟨Nat.le_trans hl (by decide),z⟩
theorem zyo{q:DRs}(h:Evs wr ρ μ ds)(h3:EvB q ds μ v):Ev (dCB q wr) ρ μ v:=fun Q z=>h _ (h3 _ z)
theorem zf0{j:Int}(h:atI ds j=some v):EvO dIx (.tup ds) (.int j) μ v:=fun Q z=>by rw[znO,h];exact z
theorem zpX{j:Int}(h:atI ds j=some v):EvO dIx (.lst ds) (.int j) μ v:=fun Q z=>by rw[zu6,h];exact z
theorem zsX(h1:ds≠[])(hl:ds.length+es.length<=1000):EvO zbL (.tup ds) (.tup es) μ (.tup (ds++es)):=fun Q z=>by
 rw[zqw];exact⟨h1,Nat.le_trans hl (by decide),z⟩
theorem zvU{a b:Int}:EvO zbL (.int a) (.int b) μ (.int (a+b)):=fun Q z=>by rw[zuz];exact z
theorem zw3{a b:Int}:EvO dEq (.int a) (.int b) μ (.bl (decide (a=b))):=fun Q z=>by rw[znK];exact z
theorem zoR:EvB zdW [.lst ds] μ (.tup ds):=fun Q z=>by rw[zlz];exact z
theorem zfu{n:Nat}{m:Int}(h:Ev w ρ μ (.tup ds))(hm:m=n)(hl:n < ds.length):Ev (dSl za6 w zag (zaG (dC (.int m)))) ρ μ (.tup (ds.take n)):=fun Q z=>h _ (by
 subst hm;show za6 (.tup ds) none (some (n:Int)) μ Q;rw[zdw,zdf];refine⟨fun⟨_,h2⟩=>?_,z⟩;rw[HT.zaI] at h2;omega)
theorem zcQ{n:Nat}{m:Int}(h:Ev w ρ μ (.tup ds))(hm:m=n)(h0:0 < n)(hl:n < ds.length):Ev (dSl za6 w (zaG (dC (.int m))) zag) ρ μ (.tup (ds.drop n)):=fun Q z=>h _ (by
 subst hm;show za6 (.tup ds) (some (n:Int)) none μ Q;rw[zdw,zd4];refine⟨fun⟨h2,_⟩=>?_,z⟩;rw[HT.zaI] at h2;omega)
theorem zpf{c:Str}{dsp:DSp}{n j:Nat}{pat:List Src}{cs:List D}{w wk:DA}(h1:Evs w ρ μ ds)(h2:Evs wk ρ μ es)(h:zv5 c dsp n j pat cs ds es μ D'.rt):zbf (zfL c dsp n j pat cs w wk) D' ρ μ:=h1 _ (h2 _ h)
theorem zvj(h:Ev w ρ μ (.tup ds))(hl:1 < ds.length):Ev (dSl za6 w zag (zaG (dC (.int 1)))) ρ μ (.tup (ds.take 1)):=zfu h rfl hl
theorem zxt(h:Ev w ρ μ (.tup ds))(hl:2 < ds.length):Ev (dSl za6 w zag (zaG (dC (.int 2)))) ρ μ (.tup (ds.take 2)):=zfu h rfl hl
theorem zvZ(h:Ev w ρ μ (.tup ds))(hl:3 < ds.length):Ev (dSl za6 w zag (zaG (dC (.int 3)))) ρ μ (.tup (ds.take 3)):=zfu h rfl hl
theorem zwb(h:Ev w ρ μ (.tup ds))(hl:4 < ds.length):Ev (dSl za6 w zag (zaG (dC (.int 4)))) ρ μ (.tup (ds.take 4)):=zfu h rfl hl
theorem zvR(h:Ev w ρ μ (.tup ds))(hl:5 < ds.length):Ev (dSl za6 w zag (zaG (dC (.int 5)))) ρ μ (.tup (ds.take 5)):=zfu h rfl hl
theorem zrP(h:Ev w ρ μ (.tup ds))(hl:1 < ds.length):Ev (dSl za6 w (zaG (dC (.int 1))) zag) ρ μ (.tup (ds.drop 1)):=zcQ h rfl (by decide) hl
theorem zp3(h:Ev w ρ μ (.tup ds))(hl:2 < ds.length):Ev (dSl za6 w (zaG (dC (.int 2))) zag) ρ μ (.tup (ds.drop 2)):=zcQ h rfl (by decide) hl
theorem zpL(h:Ev w ρ μ (.tup ds))(hl:3 < ds.length):Ev (dSl za6 w (zaG (dC (.int 3))) zag) ρ μ (.tup (ds.drop 3)):=zcQ h rfl (by decide) hl
theorem zsB(h:Ev w ρ μ (.tup ds))(hl:4 < ds.length):Ev (dSl za6 w (zaG (dC (.int 4))) zag) ρ μ (.tup (ds.drop 4)):=zcQ h rfl (by decide) hl
theorem zsj(h:Ev w ρ μ (.tup ds))(hl:5 < ds.length):Ev (dSl za6 w (zaG (dC (.int 5))) zag) ρ μ (.tup (ds.drop 5)):=zcQ h rfl (by decide) hl
end
def zmT:Value->Option Str
 | .str x _=>some x
 | _=>none
theorem zmI{u:Value}{x:Str}(h:zmT u=some x):RelV (.str x) u:=by
 cases u<;>simp[zmT] at h
 subst h;exact⟨_,rfl⟩
def zvL:D->Option Key
 | .int i=>some (.inl i)
 | .str x=>some (.inr x)
 | _=>none
def zxD(c:Option Ct)(R:List Key->List D->Prop):Prop:=match c with
 | some (.dct ks vs)=>R ks vs
 | _=>False
def zva(μ:Mu)(d:D)(R:List Key->List D->Prop):Prop:=match d with
 | .cell k=>zxD (μ k) R
 | .dct ks vs=>R ks vs
 | _=>False
section
variable{K:Frag}{fl:Wd}{W:Wd}
theorem zug{μ:Mu}{H:Hp}{d:D}{x:V}{R:List Key->List D->Prop}(r:Rel K fl W μ H)(q:Rep K W d x)(h:zva μ d R):∃a ks vs xs,x= .ref a/\H a=some (.dK (ks.zip xs))/\ks.length=xs.length/\zr K W vs xs/\R ks vs:=by
 unfold zva at h;split at h
 .rename_i k;obtain⟨a,rfl,hb⟩:=q.cell';unfold zxD at h;split at h
  .rename_i ks vs hk;obtain⟨a',e1,e2,xs,e3,l,z⟩:=r.cel k _ hk;rw[hb] at e1;cases e1;exact⟨a,ks,vs,xs,rfl,e3,l,z,h⟩
  .exact h.elim
 .unfold Rep at q;obtain⟨a,xs,rfl,e,l,z⟩:=q;exact⟨a,_,_,xs,rfl,r.sub _ _ e,l,z,h⟩
 .exact h.elim
theorem zsY{e:D}{y:V}{k:Key}(q:Rep K W e y)(h:zvL e=some k):y=kV k:=by
 unfold zvL at h;split at h<;>cases h
 .rw[q.i'];rfl
 .rw[q.s'];rfl
theorem zcW{α:Type}{o:Option α}{R:α->Prop}(h:zbb o R):∃a,o=some a/\R a:=by
 cases o with
 | none=>exact h.elim
 | some a=>exact⟨a,rfl,h⟩
end
section
variable{X:Cx}{o i e value:Expr}{pos pos' apos cpos:Pos}{td ty tv:TE}
theorem zpS(hu:X.A.units+1 < cLine)(ho:WE X o td)(hi:WE X i ty)(hs:zvB i:=by exact fun _ _=>rfl):WE X (.Subscript o i pos) (zpR td ty):=⟨zt2 hu ho.out hi.out hs⟩
theorem zqc(hu:X.A.units+1 < cLine)(ho:WE X o td)(hi:WE X i ty)(hv:WE X value tv)(hs:swapsWith value (some (.Subscript o i pos')) pos.line X.env=pure false:=by rfl):WS X (.Assign [.Subscript o i pos'] value pos) (zp9 td ty tv):=⟨zud hu ho.out hi.out hv.out hs⟩
end
section
variable{K:Frag}{fl:Wd}
end
section
variable{prog:Program}{w:World}{A:Around}{E:Value->Shared->Prop}{s:Shared}
theorem zgw{v:Value}{ss:List Str}{Q:Value->Shared->Prop}
  (hc:∀R:List Value->Shared->Prop,(∀(h':Heap) (tk:Nat) (vs:List Value),(∀b o,s.heap.get? b=some o->h'.get? b=some o)->StrsAre vs ss->R vs { s with heap:=h',toks:=tk })->wpAny (model prog w) A.in1 (collect v) R E s)(h64:ss.length < 64)
  (h:∀(h1 h2:Heap) (tk:Nat) (out:Array Value) (ss':List Str) (e:Nat),(∀b o,s.heap.get? b=some o->h1.get? b=some o)->(∀b o,h1.get? b=some o->h2.get? b=some o)->h2.get? h1.objs.size=some (seqObj "list" out e)->StrsAre out.toList ss'->ss'.Perm ss->sortedS ss'=true->Q (.ref h1.objs.size) { s with heap:=h2,toks:=tk }) :
  wpAny (model prog w) A (call (.builtin "sorted") [v]) Q E s:=by
 refine Calls.call_function_entry kind_sorted plain_sorted entry_sorted (args_sorted1 _) ?_;unfold Builtin.«sorted»;refine wpAny_bind (m:=checkCount "sorted" 1 1 _) (wpAny_pure ?_);refine wpAny_bind (hc _ fun h' tk vs hk hS=>?_);have hl:vs.length=ss.length:=by
  clear h hc h64;induction hS with
  | nil=>rfl
  | cons _ _ _ ih=>simp[ih]
 refine wpAny_bind (wpAny_newList ?_ (by rw[hl];exact Nat.le_trans (Nat.le_of_lt h64) (by decide)));have hoL:(h'.push (seqObj "list" vs.toArray 0)).get? h'.objs.size=some (seqObj "list" vs.toArray 0):=Heap.get?_push_size _ rfl;refine wpAny_bind (wpAny_holding (wpAny_call_entry slot_list_sort ⟨_,hoL,rfl⟩ entry_list_sort (list_sort_treeK strKind_oneLt hoL hS.keysOf (fun v₁ v₂ rest e=>keyKind_strs (by rw[<- e];exact hS)) (by rw[hl];exact h64) fun st' a1 a2=>⟨_,rfl,?_⟩) (args_list_sort _)));obtain⟨ss',h1,h2,h3⟩:=sorted_out_str hS a1 a2;obtain⟨e,he⟩:=sortedHeap_at (out:=(arrOf st').map (·.2)) hoL;refine wpAny_pure ⟨_,rfl,h h' _ tk _ ss' e hk (fun b o q'=>?_) he h1 h2 h3⟩;have hlt:=Heap.lt_size q';rw[sortedHeap_old (Nat.ne_of_lt hlt) (by rw[size_push'];exact Nat.lt_succ_of_lt hlt),Heap.get?_push_ne _ _ _ (Nat.ne_of_lt hlt)];exact q'
end
section
variable{X:Cx}(K:Frag)
def zru:List V->Hp->VK->Prop:=fun xs H Q=>∃p ns,xs=[.ref p]/\SqT K H p (ns.map V.str)/\ns.length < 64/\∀ns' l,List.Perm ns' ns->sortedS ns'=true->H l=none->Q (.ref l) (upd H l (.lst (ns'.map V.str)))
def zss:List V->Hp->VK->Prop:=fun xs H Q=>∃p kvs ns,xs=[.ref p]/\H p=some (.dK kvs)/\kvs.map (·.1)=ns.map Sum.inr/\ns.length < 64/\∀ns' l,List.Perm ns' ns->sortedS ns'=true->H l=none->Q (.ref l) (upd H l (.lst (ns'.map V.str)))
theorem zn8{pins:List (Addr×Obj)}{σ:St}{H:Hp}{s:Shared}{h2:Heap}{tk:Nat}{ns ss':List Str}{out:Array Value}{e:Nat}{Q:VK}(I:Inv X pins σ H s)(hz:ns.length < 64)(hk:∀b o,s.heap.get? b=some o->h2.get? b=some o)(he:h2.get? s.heap.objs.size=some (seqObj "list" out e))(g1:StrsAre out.toList ss')(g2:ss'.Perm ns)(g3:sortedS ss'=true)(q:H s.heap.objs.size=none->Q (.ref s.heap.objs.size) (upd H s.heap.objs.size (.lst (ss'.map V.str)))):EP X pins σ Q (.ref s.heap.objs.size) { s with heap:=h2,toks:=tk }:=by
 have hf:H s.heap.objs.size=none:=I.hok.fresh (Nat.le_refl _);refine⟨.ref s.heap.objs.size,_,I.laid (a:=s.heap.objs.size) (o:= .lst (ss'.map V.str)) (t':=tk) hk (Nat.le_refl _) ?_,rfl,q hf⟩;refine⟨by rw[List.length_map,g2.length_eq];exact Nat.le_trans (Nat.le_of_lt hz) (by decide),out.toList,e,zeN g1,?_⟩;rw[he]
theorem zg1{P:Program}{w:World}:∀{kvs:List (Key×V)} {vs:List (Key×Value)} {ns:List Str} {acc:Array Value},ItemsOf (fun i v=>∃k x,vs[i]? = some (k,x)/\(zaw P w).is k v=true) acc vs.length->KV kvs vs->kvs.map (·.1)=ns.map Sum.inr->StrsAre acc.toList ns:=by
 intro kvs vs ns acc hacc rel hn;have hk:vs.map (·.1)=ns.map Sum.inr:=by
  rw[<- hn];clear hn hacc;induction rel with
  | nil=>rfl
  | cons a _ ih=>simp only[List.map_cons,ih,a.1]
 have hl:vs.length=ns.length:=by
  have:=congrArg List.length hk;simpa using this
 have hat:∀(i:Nat) (v:Value),acc.toList[i]? = some v->∃y t,ns[i]? = some y/\v= .str y t:=fun i v hv=>by
  obtain⟨k,x,hx,hi⟩:=hacc.2 i v (by rw[<- Array.getElem?_toList];exact hv);have h1:(vs.map (·.1))[i]? = some k:=by rw[List.getElem?_map,hx];rfl
  rw[hk,List.getElem?_map] at h1;obtain⟨y,hy,rfl⟩:=Option.map_eq_some_iff.mp h1;have:zhz (.inr y) v=true:=hi;obtain⟨t,rfl⟩:∃t,v= .str y t:=by
   rcases zal this with⟨i,t,e,_⟩ | ⟨x',t,e,rfl⟩
   .cases e
   .cases e;exact⟨t,rfl⟩
  exact⟨y,t,hy,rfl⟩
 have hsz:acc.toList.length=ns.length:=by rw[Array.length_toList,hacc.1,hl]
 clear hacc rel hn hk hl;generalize acc.toList=l at hat hsz
 induction l generalizing ns with
 | nil=>cases ns with
  | nil=>exact .nil
  | cons y r=>simp at hsz
 | cons v l ih=>cases ns with
  | nil=>simp at hsz
  | cons y r =>
   obtain⟨y',t,e1,rfl⟩:=hat 0 v rfl;cases e1;exact .cons y t (ih (fun i v hv=>hat (i+1) v (by simpa using hv)) (by simpa using hsz))
theorem zmf(h:X.K=K:=by rfl):zL X (.builtin "sorted") (zru K):=by
 subst h;intro pins s σ H xs us Q I r h;obtain⟨p,ns,rfl,hl,hz,q⟩:=h;obtain⟨u,rfl,rx⟩:=vals1 r;cases rx;obtain⟨its,r',⟨o,ho,hcl,n,hd⟩,hz'⟩:=I.tuple hl;refine zgw (ss:=ns) (fun R hR=>?_) hz fun h1 h2 tk out ss' e k1 k2 he g1 g2 g3=>?_
 .refine wpAny_collect_seq p (.inr rfl) ho hcl hd (fun h' hk=>?_) (by rw[List.size_toArray,<- r'.length,List.length_map];exact Nat.le_trans (Nat.le_of_lt hz) (by decide));have:=hR h' s.toks its hk (zeP r');simpa using this
 .exact zn8 (I.kept (t':=tk) k1) hz k2 he g1 g2 g3 (q ss' h1.objs.size g2 g3)
theorem zmP(hc:X.calm=true:=by rfl):zL X (.builtin "sorted") zss:=by
 intro pins s σ H xs us Q I r h;obtain⟨p,kvs,ns,rfl,hp,hn,hz,q⟩:=h;obtain⟨u,rfl,rx⟩:=vals1 r;cases rx;obtain⟨z,hd,vs,rel,dd⟩:=zje I.hok (.inl hp);obtain⟨ep,dd⟩:=dd.dictAt;have hlen:vs.length=ns.length:=by
  have e1:=Paired.length rel;have e2:=congrArg List.length hn;simp only[List.length_map] at e2;omega
 refine zgw (ss:=ns) (fun R hR=>?_) hz fun h1 h2 tk out ss' e k1 k2 he g1 g2 g3=>?_
 .refine PySem.W.kdu_collect (PySem.W.kdl_dict hd) (by first | exact I.ok.hd hc | exact(I.ok.hd hc)) dd (by rw[hlen];exact Nat.le_trans (Nat.le_of_lt hz) (by decide)) fun h' tk acc hk hacc=>?_
  refine hR h' tk acc.toList hk ?_;exact zg1 hacc rel hn
 .exact zn8 (I.kept (t':=tk) k1) hz k2 he g1 g2 g3 (q ss' h1.objs.size g2 g3)
def zkP:List V->Hp->VK->Prop:=fun xs H Q=>(zkU K xs H Q\/zru K xs H Q)\/zss xs H Q
theorem zmk(h:X.K=K:=by rfl)(hc:X.calm=true:=by rfl):zL X (.builtin "sorted") (zkP K):=((zks K h).or (zmf K h)).or (zmP hc)
end
def zmO:DRs:=fun ds μ Q=>zg4 ds μ Q\/match ds with
 | [.tup es]=>∃ns,es=ns.map D.str/\ns.length < 64/\∀ns',List.Perm ns' ns->sortedS ns'=true->Q (.lst (ns'.map D.str)) μ
 | [d]=>zva μ d fun ks _=>∃ns,ks=ns.map Sum.inr/\ns.length < 64/\∀ns',List.Perm ns' ns->sortedS ns'=true->Q (.lst (ns'.map D.str)) μ
 | _=>False
instance{K:Frag}{fl:Wd}:zbg K fl (zkP K) zmO:=⟨fun{W μ H ds xs Q Q'} r z h k=>by
 have fin:∀ns':List Str,Q (.lst (ns'.map D.str)) μ->∀l,H l=none->Q' (.ref l) (upd H l (.lst (ns'.map V.str))):=fun ns' hq l hl=>by
  obtain⟨r2,le⟩:=r.newF (o:= .lst (ns'.map V.str)) hl;exact k _ _ _ _ _ le r2 (.lst zq (zr.of_strs ns')) hq
 rcases h with h | h
 .exact .inl (.inl (zbg.run (K:=K) (r:=zkU K) (q:=zg4) r z h k))
 .split at h
  .obtain⟨ns,rfl,hz,h⟩:=h;obtain⟨y,rfl,qy⟩:=z.one;obtain⟨p,xs,rfl,s1,z1⟩:=qy.tup';rw[z1.strs] at s1;exact .inl (.inr ⟨p,ns,rfl,s1.sm r.sub,hz,fun ns' l g1 g2 hl=>fin ns' (h ns' g1 g2) l hl⟩)
  .obtain⟨y,rfl,qy⟩:=z.one;obtain⟨p,ks,vs,xs,rfl,ea,l,z1,h3⟩:=zug r qy h;obtain⟨ns,rfl,hz,h⟩:=h3;refine .inr ⟨p,_,ns,rfl,ea,?_,hz,fun ns' l g1 g2 hl=>fin ns' (h ns' g1 g2) l hl⟩;rw[List.map_fst_zip];omega
  .exact h.elim⟩
section
variable{P:Program}{w:World}{H:Hp}{h:Heap}{a:Addr}{u u':HO}
theorem HOk.retag(ok:HOk P w H h)(ha:H a=some u)(n1:∀xs,u≠ .tup xs)(n2:∀x,u≠ .own x)(new:zai P w (upd H a u') h a u'):HOk P w (upd H a u') h:=fun b v q=>by
 by_cases hb:b=a
 .subst hb;rw[zq] at q;cases q;exact new
 .rw[zm hb] at q;refine(ok b v q).stay (fun _ _ _ e=>e) (fun c e=>?_) fun c xs e=>?_
  .rw[zm (fun z=>by subst z;rw[ha] at e;exact n2 _ (Option.some.inj e))];exact e
  .rw[zm (fun z=>by subst z;rw[ha] at e;exact n1 _ (Option.some.inj e))];exact e
theorem zai.retag{v:HO}(x:zai P w H h a v)(ha:H a=some u)(n1:∀xs,u≠ .tup xs)(n2:∀x,u≠ .own x):zai P w (upd H a u') h a v:=by
 refine x.stay (fun _ _ _ e=>e) (fun c e=>?_) fun c xs e=>?_
 .rw[zm (fun z=>by subst z;rw[ha] at e;exact n2 _ (Option.some.inj e))];exact e
 .rw[zm (fun z=>by subst z;rw[ha] at e;exact n1 _ (Option.some.inj e))];exact e
end
section
variable{X:Cx}{pins:List (Addr×Obj)}{σ:St}{H:Hp}{s:Shared}{a:Addr}{u u':HO}
theorem Inv.retag(I:Inv X pins σ H s)(ha:H a=some u)(n1:∀xs,u≠ .tup xs)(n2:∀x,u≠ .own x)(n3:∀ps,u≠ .tbl ps)(n4:∀o v,X.H₀ a≠some (.frz o v))(new:zai X.prog X.w (upd H a u') s.heap a u'):Inv X pins σ (upd H a u') s where
 ok:=I.ok
 os:=I.os
 bare:=I.bare
 base:=by
  have b:=I.base;refine⟨b.keep,b.slot,fun c o q n hx=>?_,b.there,fun c xs q=>?_,fun c o v q=>?_,fun c ps q=>?_⟩
  .rw[zm (fun z=>by subst z;have:=b.free c o q n hx;rw[ha] at this;cases this)];exact b.free c o q n hx
  .rw[zm (fun z=>by subst z;have:=b.tups c xs q;rw[ha] at this;exact n1 _ (Option.some.inj this))];exact b.tups c xs q
  .rw[zm (fun z=>by subst z;exact n4 _ _ q)];exact b.frzs c o v q
  .obtain⟨m,e⟩:=b.tbls c ps q;refine⟨m,?_⟩;rw[zm (fun z=>by subst z;rw[ha] at e;exact n3 _ (Option.some.inj e))];exact e
 loc:=I.loc
 cell:=I.cell
 free:=by rw[zm (fun z=>by have:=I.free;rw[z,ha] at this;cases this)];exact I.free
 freeC:=fun x c e=>by rw[zm (fun z=>by have:=I.freeC x c e;rw[z,ha] at this;cases this)];exact I.freeC x c e
 pin:=fun p hp=>by
  obtain⟨p1,p2,p3⟩:=I.pin p hp;exact⟨p1,by rw[zm (fun z=>by rw[z,ha] at p2;cases p2)];exact p2,p3⟩
 hok:=I.hok.retag ha n1 n2 new
 len:=I.len
end
def zvJ:Key->D
 | .inl i=> .int i
 | .inr x=> .str x
section
variable{K:Frag}{fl:Wd}{tl:TE}{w:DE}
theorem Rep.key{W:Wd}(k:Key):Rep K W (zvJ k) (kV k):=by
 cases k with
 | inl i=>exact .i
 | inr x=>exact .s
end
def zbl{α:Type}(xs:List α)(lo hi:Option Int)(st:Int):List α:=(sliceRange (sliceBounds lo hi (some st) xs.length).1 (sliceBounds lo hi (some st) xs.length).2.1 (sliceBounds lo hi (some st) xs.length).2.2).filterMap (xs[·]?)
def stepT{α:Type}(xs:List α)(lo hi:Option Int)(st:Int):List α:=(List.range (Builtin.Slice.slicePlaces (Builtin.Slice.sliceAdjust lo hi st xs.length).1 (Builtin.Slice.sliceAdjust lo hi st xs.length).2 st)).filterMap fun(m:Nat)=>xs[((Builtin.Slice.sliceAdjust lo hi st xs.length).1+(m:Int)*st).toNat]?
theorem Vals.pick{xs:List V}{us:List Value}(r:Vals xs us):∀(ix:List Nat),Vals (ix.filterMap (xs[·]?)) (ix.filterMap (us[·]?))
 | []=> .nil
 | i::ix=>by
  have ih:=Vals.pick r ix;rw[List.filterMap_cons,List.filterMap_cons];cases e:xs[i]? with
  | some x =>
   obtain⟨u,eu,ru⟩:=r.get e;rw[eu];exact .cons ru ih
  | none =>
   have hl:us[i]? = none:=by
    rw[List.getElem?_eq_none_iff] at e ⊢;rw[<- r.length];exact e
   rw[hl];exact ih
theorem zr.pick{K:Frag}{W:Wd}{ds:List D}{xs:List V}(r:zr K W ds xs):∀(ix:List Nat),zr K W (ix.filterMap (ds[·]?)) (ix.filterMap (xs[·]?))
 | []=> .nil
 | i::ix=>by
  have ih:=zr.pick r ix;rw[List.filterMap_cons,List.filterMap_cons];cases e:ds[i]? with
  | some x =>
   obtain⟨u,eu,ru⟩:=r.get e;rw[eu];exact .cons ru ih
  | none =>
   have hl:xs[i]? = none:=by
    rw[List.getElem?_eq_none_iff] at e ⊢;rw[r.length];exact e
   rw[hl];exact ih
theorem zr.zbl{K:Frag}{W:Wd}{ds:List D}{xs:List V}(r:zr K W ds xs)(lo hi:Option Int)(st:Int):zr K W (L2.zbl ds lo hi st) (L2.zbl xs lo hi st):=by
 unfold L2.zbl;rw[r.length];exact r.pick _
theorem zc1{α:Type}(xs:List α)(lo hi:Option Int)(st:Int):stepT xs lo hi st=((List.range (Builtin.Slice.slicePlaces (Builtin.Slice.sliceAdjust lo hi st xs.length).1 (Builtin.Slice.sliceAdjust lo hi st xs.length).2 st)).map fun(m:Nat)=>((Builtin.Slice.sliceAdjust lo hi st xs.length).1+(m:Int)*st).toNat).filterMap (xs[·]?):=by
 unfold stepT;rw[List.filterMap_map];rfl
theorem zr.stepT{K:Frag}{W:Wd}{ds:List D}{xs:List V}(r:zr K W ds xs)(lo hi:Option Int)(st:Int):zr K W (L2.stepT ds lo hi st) (L2.stepT xs lo hi st):=by
 rw[zc1,zc1,r.length];exact r.pick _
theorem Vals.stepT{xs:List V}{us:List Value}(r:Vals xs us)(lo hi:Option Int)(st:Int):Vals (L2.stepT xs lo hi st) (L2.stepT us lo hi st):=by
 rw[zc1,zc1,r.length];exact r.pick _
theorem zm2(us:List Value)(lo hi:Option Int)(st:Int):(slicePick us.toArray lo hi (some st))=(zbl us lo hi st).toArray:=by
 unfold slicePick zbl;simp only[List.size_toArray,List.getElem?_toArray]
section
variable{prog:Program}{w:World}{A:Around}{E:Value->Shared->Prop}{s:Shared}
theorem zgP{sl:Addr}{vl vu vk:Value}{lo hi:Option Int}{st:Int}{n:Nat}{Q:Int×Int×Nat->Shared->Prop}(hs:s.heap.IsSliceOf sl vl vu vk)(pl:IsPart vl lo)(pu:IsPart vu hi)(pk:IsPart vk (some st))(h0:st≠0)
  (h:Q ((Builtin.Slice.sliceAdjust lo hi st n).1,st,Builtin.Slice.slicePlaces (Builtin.Slice.sliceAdjust lo hi st n).1 (Builtin.Slice.sliceAdjust lo hi st n).2 st) s):wpAny (model prog w) A (Builtin.Slice.sliceApplied (.ref sl) (pure (n:Int))) Q E s:=by
 obtain⟨os,hos,hcs,hds⟩:=id hs;unfold Builtin.Slice.sliceApplied Builtin.Slice.sliceFields;refine wpAny_bind (wpAny_bind (wpAny_field hos hds (x:=vl) rfl (wpAny_bind (wpAny_field hos hds (x:=vu) rfl (wpAny_bind (wpAny_field hos hds (x:=vk) rfl (wpAny_pure ?_)))))));refine wpAny_bind (HT.zch pk ?_);show wpAny _ _ (if (st==0)=true then _ else _) _ _ s;rw[if_neg (by simpa using h0)];refine wpAny_bind (HT.zch pl (wpAny_bind (HT.zch pu (wpAny_bind (wpAny_pure ?_)))));exact wpAny_pure h
theorem zfP{t sl:Addr}{items:Array Value}{vl vu vk:Value}{lo hi:Option Int}{st:Int}{Q:Value->Shared->Prop}(ht:IsTup s.heap t items)(hs:s.heap.IsSliceOf sl vl vu vk)(pl:IsPart vl lo)(pu:IsPart vu hi)(pk:IsPart vk (some st))(h0:st≠0)(h1:st≠1)
  (h:Q (.ref s.heap.objs.size) { s with heap:=s.heap.push { cls:= .type "tuple",data:= .seq (stepT items.toList lo hi st).toArray } })
  (hsz:(stepT items.toList lo hi st).length<=sizeLine):wpAny (model prog w) A (getItem (.ref t) (.ref sl)) Q E s:=by
 have htake:sizeOk (.seq (stepT items.toList lo hi st).toArray):=by
  show(stepT items.toList lo hi st).toArray.size<=sizeLine;rw[List.size_toArray];exact hsz
 obtain⟨os,hos,hcs,hds⟩:=id hs;have hTs:s.TypeIs (.ref sl) "slice":=⟨os,hos,hcs⟩;unfold getItem;try with_reducible refine wpAny_holding ?_
 first | refine wpAny_bind (wpAny_pure ?_) | skip
 refine wpAny_bind (wpAny_sequenceKey ht.typeIs (by decide) ?_);refine wpAny_bind (wpAny_callSpecial?_slot (name:=Str.ofString "__getitem__") ht.typeIs PyProof.Rows.slot_tuple_getitem
  (wpAny_call_entry PyProof.Rows.slot_tuple_getitem ht.typeIs entry_tuple_getitem ?_ (args_tuple_getitem _ _)))
 show wpAny _ _ (Builtin.Tuple.tupleItemsOf (.ref t) >>= _) _ _ s;refine wpAny_bind (tupleItemsOf_ ht ?_);refine wpAny_bind (wpAny_typeOf hTs ?_);rw[if_pos (by decide)];refine wpAny_bind (zgP hs pl pu pk h0 ?_);have hno:∀b c:Bool,¬ ((b&&(st==1)&&c)=true):=by
  intro b c q;rw[Bool.and_eq_true,Bool.and_eq_true] at q;exact h1 (eq_of_beq q.1.2)
 show wpAny _ _ (if ((_==_)&&(st==1)&&(_==_))=true then _ else _) _ _ s;rw[if_neg (hno _ _)];have e:((List.range (Builtin.Slice.slicePlaces (Builtin.Slice.sliceAdjust lo hi st items.size).1 (Builtin.Slice.sliceAdjust lo hi st items.size).2 st)).filterMap fun(m:Nat)=>items[((Builtin.Slice.sliceAdjust lo hi st items.size).1+(m:Int)*st).toNat]?).toArray=(stepT items.toList lo hi st).toArray:=by
  unfold stepT;simp only[Array.length_toList,Array.getElem?_toList]
 rw[e];first
  | exact wpAny_bind (m:=Builtin.Tuple.tupleExact _) (wpAny_newObj_type (wpAny_pure ⟨_,rfl,wpAny_pure h⟩) htake)
  | exact wpAny_bind (m:=Builtin.Tuple.tupleExact _) (wpAny_newObj_type (wpAny_bind (wpAny_pure (wpAny_pure ⟨_,rfl,wpAny_pure h⟩))) htake)
  | exact wpAny_bind (wpAny_bind (m:=Builtin.Tuple.tupleExact _) (wpAny_newObj_type (wpAny_pure (wpAny_pure ⟨_,rfl,wpAny_pure h⟩)) htake))
  | exact wpAny_bind (wpAny_bind (m:=Builtin.Tuple.tupleExact _) (wpAny_newObj_type (wpAny_pure ⟨_,rfl,wpAny_pure h⟩) htake))
end
section
variable{X:Cx}{e ke:Expr}{lo hi:Option Expr}{te:TE}{tl th tk:TO}{p2 pos:Pos}
def Sl3(X:Cx)(r:V->Option Int->Option Int->Int->Hp->VK->Prop):Prop :=
 ∀(pins:List (Addr×Obj)) (s:Shared) (σ:St) (H:Hp) (x:V) (v vl vu vk:Value) (lo hi:Option Int) (st:Int) (sl:Addr) (Q:VK),Inv X pins σ H s->RelV x v->s.heap.IsSliceOf sl vl vu vk->IsPart vl lo->IsPart vu hi->IsPart vk (some st)->r x lo hi st H Q ->
  ∃T id,typeLookup (.type T) "__getitem__"=pure (some (.builtin id))/\s.TypeIs v T/\wpAny (model X.prog X.w) X.A (getItem v (.ref sl)) (EP X pins σ Q) X.xe s
def zw7(r:V->Option Int->Option Int->Int->Hp->VK->Prop)(te:TE)(tl th tk:TO):TE:=fun σ H Q=>te σ H fun x H1=>tl σ H1 fun l H2=>th σ H2 fun u H3=>tk σ H3 fun k H4=>∃st,k=some st/\r x l u st H4 Q
theorem zpd{r:V->Option Int->Option Int->Int->Hp->VK->Prop}(hr:Sl3 X r)(he:PE X e te)(hl:PO X lo tl)(hu:PO X hi th)(hk:PO X (some ke) tk):PE X (.Subscript e (.Slice lo hi (some ke) p2) pos) (zw7 r te tl th tk):=by
 intro pins s σ H Q I h;refine Subscript_ (thn (he pins s σ H _ I h) fun v s1 ⟨x,H1,I1,r1,q1⟩=>?_);refine wpAny_Slice (thn (hl pins s1 σ H1 _ I1 q1) fun vl s2 ⟨l,H2,I2,pl,q2⟩=>thn (hu pins s2 σ H2 _ I2 q2) fun vu s3 ⟨u,H3,I3,pu,q3⟩=>thn (hk pins s3 σ H3 _ I3 q3) fun vk s4 ⟨k,H4,I4,pk,st,ek,q4⟩=>?_);subst ek;have I5:Inv X pins σ H4 { s4 with heap:=s4.heap.push { cls:= .type "slice",data:= .fields #[vl,vu,vk] } }:=I4.kept (t':=s4.toks) fun b ob q=>Heap.get?_push_of_some _ q
 obtain⟨T,id,hT,ht,hg⟩:=hr pins { s4 with heap:=s4.heap.push { cls:= .type "slice",data:= .fields #[vl,vu,vk] } } σ H4 x v vl vu vk l u st s4.heap.objs.size Q I5 r1 (Heap.IsSliceOf.new ..) pl pu pk q4;show wpAny (model X.prog X.w) X.A (subscriptTail e (.Slice lo hi (some ke) p2) v (.ref s4.heap.objs.size)) (EP X pins σ Q) X.xe { s4 with heap:=s4.heap.push { cls:= .type "slice",data:= .fields #[vl,vu,vk] } };exact tail_any (ops:=[v, .ref s4.heap.objs.size]) ht hT hg (by with_unfolding_all rfl)
def rSt(K:Frag):V->Option Int->Option Int->Int->Hp->VK->Prop:=fun x lo hi st H Q=>(∃a xs,x= .ref a/\SqL K H a xs/\st≠0/\(zbl xs lo hi st).length<=sizeLine/\∀p,H p=none->Q (.ref p) (upd H p (.lst (zbl xs lo hi st)))) \/
 (∃a xs,x= .ref a/\SqT K H a xs/\st≠0/\st≠1/\(stepT xs lo hi st).length<=sizeLine/\∀p,H p=none->Q (.ref p) (upd H p (.tup (stepT xs lo hi st))))
theorem zn5(K:Frag)(hK:X.K=K:=by rfl):Sl3 X (rSt K):=by
 subst hK;intro pins s σ H x v vl vu vk lo hi st sl Q I rx hs pl pu pk h;rcases h with⟨a,xs,rfl,hx,h0,hl,q⟩ | ⟨a,xs,rfl,hx,h0,h1,hl,q⟩
 .cases rx;obtain⟨its,r,ht,hz⟩:=I.list hx;have hlen:=r.length;refine⟨"list",_,slot_list_getitem.lookup,ht.isList.typeIs,?_⟩;refine wpAny_getItem_list_slice ht.isList hs pl pu pk (fun z=>h0 (Option.some.inj z)) ?_ (by rw[List.size_toArray]<;>omega);rw[zm2];refine⟨.ref s.heap.objs.size,_,I.laid (t':=s.toks) (o:= .lst (zbl xs lo hi st)) (fun b ob q=>Heap.get?_push_of_some _ q) (Nat.le_refl _) ?_,rfl,q _ (I.hok.fresh (Nat.le_refl _))⟩;have rv:Vals (zbl xs lo hi st) (zbl its lo hi st):=by
   unfold zbl;rw[r.length];exact r.pick _
  exact⟨hl,_,0,rv,Heap.get?_push_size _ rfl⟩
 .cases rx;obtain⟨its,r,ht,hz⟩:=I.tuple hx;have rv:=r.stepT lo hi st;refine⟨"tuple",_,PyProof.Rows.slot_tuple_getitem.lookup,ht.typeIs,?_⟩;refine zfP ht hs pl pu pk h0 h1 ?_ (by simpa [<- rv.length] using hl);refine⟨.ref s.heap.objs.size,_,I.laid (t':=s.toks) (o:= .tup (stepT xs lo hi st)) (fun b ob q=>Heap.get?_push_of_some _ q) (Nat.le_refl _) ?_,rfl,q _ (I.hok.fresh (Nat.le_refl _))⟩;exact⟨hl,_,rv,IsTup.new _ _⟩
theorem zjk{r:V->Option Int->Option Int->Int->Hp->VK->Prop}(hr:Sl3 X r)(he:WE X e te)(hl:WO X lo tl)(hu:WO X hi th)(hk:WO X (some ke) tk):WE X (.Subscript e (.Slice lo hi (some ke) p2) pos) (zw7 r te tl th tk):=⟨zpd hr he.out hl.out hu.out hk.out⟩
end
def dSt:D->Option Int->Option Int->Int->Mu->DK->Prop:=fun d lo hi st μ Q=>match d with
 | .tup ds=>(st≠0/\st≠1/\(stepT ds lo hi st).length<=sizeLine)/\Q (.tup (stepT ds lo hi st)) μ
 | d=>match zO μ d with
  | some ds=>(st≠0/\(zbl ds lo hi st).length<=sizeLine)/\Q (.lst (zbl ds lo hi st)) μ
  | none=>False
def zqs(we:DE)(wl wh wk:DO):DE:=fun ρ μ Q=>we ρ μ fun d μ1=>wl ρ μ1 fun l μ2=>wh ρ μ2 fun u μ3=>wk ρ μ3 fun k μ4=>zbb k fun st=>dSt d l u st μ4 Q
instance{K:Frag}{fl:Wd}{te:TE}{we:DE}{tl th tk:TO}{wl wh wk:DO}[a:zN K fl te we][b:zm6 K fl tl wl][c:zm6 K fl th wh][c2:zm6 K fl tk wk]:zN K fl (zw7 (rSt K) te tl th tk) (zqs we wl wh wk):=⟨fun r e h k =>
 a.run r e h fun W1 d μ1 x H1 le1 r1 q1 h1=>b.run r1 (e.mono le1) h1 fun W2 l μ2 H2 le2 r2 h2=>c.run r2 (e.mono (le1.trans le2)) h2 fun W3 u μ3 H3 le3 r3 h3=>c2.run r3 (e.mono (le1.trans (le2.trans le3))) h3 fun W4 kk μ4 H4 le4 r4 h4=>by
  obtain⟨st,rfl,h4⟩:=zcW h4;refine⟨st,rfl,?_⟩;have q4:=q1.mono (le2.trans (le3.trans le4));have fin:∀xs ds,zr K W4 ds xs->st≠0/\(zbl ds l u st).length<=sizeLine->∀Q,(_:Q (D.lst (zbl ds l u st)) μ4)->∀Q',KV' K fl _ Q Q'->∀p,H4 p=none->Q' (.ref p) (upd H4 p (.lst (zbl xs l u st))):=fun xs ds z hz Q hq Q' kk p hp=>by
   obtain⟨r5,le5⟩:=r4.newF (o:= .lst (zbl xs l u st)) hp;exact kk _ _ _ _ _ (le1.trans (le2.trans (le3.trans (le4.trans le5)))) r5 (.lst zq ((z.zbl l u st).mono le5)) hq
  unfold dSt at h4;split at h4
  .rename_i ds;obtain⟨⟨h0,h1',hl⟩,hq⟩:=h4;obtain⟨p,xs,rfl,s1,z1⟩:=q4.tup';have z2:=z1.stepT l u st;refine .inr ⟨p,xs,rfl,s1.sm r4.sub,h0,h1',by rw[z2.length];exact hl,fun p' hp=>?_⟩;obtain⟨r5,le5⟩:=r4.newF (o:= .tup (stepT xs l u st)) hp;exact k _ _ _ _ _ (le1.trans (le2.trans (le3.trans (le4.trans le5)))) r5 (.tup (SqT.of zq) (z2.mono le5)) hq
  .cases hd:zO μ4 d with
   | none=>rw[hd] at h4;exact h4.elim
   | some ds =>
    rw[hd] at h4;obtain⟨hz,hq⟩:=h4;obtain⟨p,xs,rfl,s1,z1⟩:=zau r4 q4 hd;refine .inl ⟨p,xs,rfl,SqL.of s1,hz.1,by rw[(z1.zbl l u st).length];exact hz.2,fun p' hp=>fin xs ds z1 hz _ hq _ k p' hp⟩⟩
section
variable{X:Cx}{k:Nat}(K:Frag)
end
theorem zll{α:Type}{g:DG}{we:DE}{ρb:zX}{μ:Mu}{Fin:List D->Mu->Prop}{Pm:Mu->Prop}(xs:List α)(f:α->D)(hl:xs.length<=1000)(step:∀x∈xs,∀Q:DK,Q (.bl true) μ->g (f x) ρb μ fun ρ2 μ2=>we ρ2 μ2 Q)(fin:∀bs:List Bool,bs.all id=true->Fin (bs.map D.bl) μ)(hP:Pm μ):zbe g zcO we ρb Pm Fin (xs.map f) [] μ:=by
 have hz:(1000:Nat)<=sizeLine:=by decide
 refine zbd (fun i ys μ'=>μ'=μ/\ys=(List.replicate i true).map D.bl) ⟨rfl,rfl⟩ ?_ ?_ (fun i ys μ' h=>h.1▸hP)
 .rintro i d ys μ' hd ⟨rfl,rfl⟩;rw[List.getElem?_map] at hd;cases hx:xs[i]? with
  | none=>rw[hx] at hd;cases hd
  | some x =>
   rw[hx] at hd;cases hd;have hi:=(List.getElem?_eq_some_iff.mp hx).1;refine⟨by rw[List.length_map,List.length_replicate];omega,fun N hN=>step x (List.mem_of_getElem? hx) (fun v μ4=>N _ μ4) (hN _ _ ⟨rfl,?_⟩)⟩;rw[List.replicate_succ',List.map_append];rfl
 .rintro ys μ' ⟨rfl,rfl⟩;exact fin _ (by simp)
section
variable{X:Cx}{CX:CXT}{k:Nat}{f:Addr}{fd:FuncData}{ps:List Str}{sp:Sp}{ds:List Value}{dvs:List V}{E:XK}
theorem ztl{pins:List (Addr×Obj)}{σ:St}{H:Hp}{s:Shared}{Q:VK}{us:List Value}{vs:List V}(F:zaa X.prog X.w X.K X.mg X.base CX k f fd ps sp)(hr:zds (k+1) X.A)(hb:Binds X.K fd ps ds)(hd:Vals dvs ds)(hx:zck CX X E)
  (I:Inv X pins σ H s)(r:Vals vs us)(h:sp (vs++dvs) H Q E):wpAny (model X.prog X.w) X.A.in1 (call (.ref f) us) (EP X pins σ Q) X.xe s:=by
 have r2:Vals (vs++dvs) (us++ds):=r.append hd;have hl:(us++ds).length=ps.length:=by rw[<- r2.length];exact F.len _ _ _ _ h
 refine wpAny_call (codeAny_mono (F.run X.A.in1 X.stack s H ⟨us,[]⟩ (us++ds) (vs++dvs) Q E hr.in1 I.env0.in1 (hb s us I.kIn hl) r2 h) fun r s' hq=>?_);cases r with
 | error e=>exact hx pins σ H s e s' I hq
 | ok fl =>
  cases fl with
  | ret u=>exact I.after hq
  | next=>exact False.elim hq
  | brk=>exact False.elim hq
  | cont=>exact False.elim hq
end
structure zrs(P:Program)(w:World)(K:Frag)(mg:Str->Option Value)(base:Heap)(CX:CXT)(c:Str)(k:Nat)(ps:List Str)(sp:Sp):Prop where
 ex:∃C f fd,clsOf K c=some C/\zaa P w K mg base CX k f fd ps sp/\Binds K fd ps []/\findIn K (.ref C) "__len__"=some (some (.ref f))/\isFn K (.ref f)=true
def zuy(K:Frag)(c:Str)(sp:Sp)(E:XK):List V->Hp->VK->Prop:=fun xs H Q=>∃C a dx fs,clsOf K c=some C/\xs=[.ref a]/\H a=some (.ins C dx fs)/\sp [.ref a] H (fun v H'=>∃n:Int,v= .int n/\0<=n/\n < 2^63/\Q (.int n) H') E
theorem zpF{X:Cx}{CX:CXT}(K:Frag){c:Str}{j k:Nat}{ps:List Str}{sp:Sp}{E:XK}(h:zrs X.prog X.w X.K X.mg X.base CX c j ps sp)(hr:zds k X.A)(hK:X.K=K:=by rfl)(hj:j+1<=k:=by decide)(hx:zck CX X E:=by exact zlc):zL X (.builtin "len") (zuy K c sp E):=by
 subst hK;obtain⟨C,f,fd,hC,F,b,hs,hf⟩:=h.ex;intro pins s σ H xs us Q I r q;obtain⟨C',a,dx,fs,hC',rfl,ea,q⟩:=q;rw[hC] at hC';cases hC';obtain⟨u,rfl,ru⟩:=vals1 r;cases ru;obtain⟨mA,O,_,_,_,_⟩:=zd8 I.hok ea;obtain⟨od,ia,_⟩:=O.look;have call:=ztl (us:=[.ref a]) (vs:=[.ref a]) (ds:=[]) (dvs:=[]) F (hr.mono hj) b .nil hx I (.cons rfl .nil) q;refine Calls.call_function_entry kind_len plain_len entry_len (args_len1 _) ?_;unfold Builtin.«len»;refine wpAny_bind (m:=oneArg "len" _) (wpAny_pure ?_);refine wpAny_bind (m:=callSpecial? (.ref a) (Str.ofString "__len__")) (PySem.W.special_fn I.kIn ia hs (beq_iff_eq.mp hf) (wpAny_mono call (fun r s' hr=>?_) fun _ _ y=>y));obtain⟨v,H',I',rv,n,rfl,h0,h1,hq⟩:=hr;obtain⟨t,rfl⟩:=rv;refine wpAny_bind (wpAny_holding (wpAny_pure ?_));refine wpAny_bind (wpAny_letGo ?_);show wpAny _ _ (if n < 0 then _ else _) _ _ _;rw[if_neg (by omega)];show wpAny _ _ (if n ≥ 2^63 then _ else _) _ _ _;rw[if_neg (by omega)];exact wpAny_bind (wpAny_mkInt (wpAny_pure ⟨_,rfl,⟨.int n,H',I'.tok _,⟨_,rfl⟩,hq⟩⟩))
def zlj(c:Str)(dsp:DSp):DRs:=fun ds μ Q=>match ds with
 | [d]=>(zkl μ d fun c' _ _=>c'=c)/\dsp [d] μ fun v μ'=>∃n:Int,v= .int n/\0<=n/\n < 2^63/\Q (.int n) μ'
 | _=>False
instance{K:Frag}{fl:Wd}{c:Str}{dsp:DSp}{E:XK}:zbg K fl (zuy K c (lift K dsp) E) (zlj c dsp):=⟨fun{W μ H ds xs Q Q'} r z h k=>by
 unfold zlj at h;split at h
 .rename_i d;obtain⟨h1,h2⟩:=h;obtain⟨y,rfl,qy⟩:=z.one;obtain⟨c2,C,a,dx,ns,vs,xs,hC,rfl,ea,l,z1,rfl⟩:=zif r qy h1;refine⟨C,a,dx,_,hC,rfl,ea,fl,W,μ,[d],_,r, .cons qy .nil,h2,fun W2 d2 μ2 x2 H2 le2 r2 q2 hh=>?_⟩;obtain⟨n,rfl,h0,h1',hq⟩:=hh;exact⟨n,q2.i',h0,h1',k W2 _ μ2 _ H2 le2 r2 .i hq⟩
 .exact h.elim⟩
section
variable{prog:Program}{w:World}{A:Around}{E:Value->Shared->Prop}{s:Shared}
end
theorem ztn{neg:Bool}{k:Nat}{ds es:List D}{e:D}{n:Nat}{μ:Mu}{Q:DK}(hk:μ k=some (.lst ds))(he:zO μ e=some es)(h1:∀d∈ds,SI n d)(h2:∀d∈es,SI n d)(hn:n<=59)(q:∀b:Bool,(b=true↔ds=es)->Q (.bl (neg ^^ b)) μ):zhO neg (.cell k) e μ Q:=by
 obtain⟨ps,t1,c1,b1⟩:=Pl.pys (Pl.py n) ds fun x hx=>(h1 x hx).pl
 obtain⟨qs,t2,c2,b2⟩:=Pl.pys (Pl.py n) es fun x hx=>(h2 x hx).pl
 have e1:zfn μ (.cell k)=some (.list ps):=by simp[zfn,hk,t1]
 have e2:zfn μ e=some (.list qs):=by
  cases e with
  | lst xs =>
   have he:some xs=some es:=he;cases he;show toPy (.lst es)=_;unfold toPy;rw[t2];rfl
  | cell kk =>
   simp only[zO] at he;cases hkk:μ kk with
   | none=>rw[hkk] at he;cases he
   | some c =>
    rw[hkk] at he;cases c<;>simp at he
    subst he;simp[zfn,hkk,t2]
  | _=>simp[zO] at he
 unfold zhO;simp only[e1,e2];refine⟨⟨by rw[PyData.canLay0];exact c1,by rw[PyData.depth];omega⟩,⟨by rw[PyData.canLay0];exact c2,by rw[PyData.depth];omega⟩,q _ ?_⟩;rw[zsx];exact SI.eqvs (SI.eqv n) ds es ps qs h1 h2 t1 t2
theorem zl2{k:Nat}{ds:List D}{e:D}{n:Nat}{μ:Mu}{Q:DK}(hk:μ k=some (.lst ds))(he:zO μ e=some ds)(h1:∀d∈ds,SI n d)(hn:n<=59)(q:Q (.bl true) μ):dEq (.cell k) e μ Q:=ztn hk he h1 h1 hn fun b hb=>by rw[hb.mpr rfl];exact q
section
variable{X:Cx}{pins:List (Addr×Obj)}{σ:St}{H:Hp}{s:Shared}{a:Addr}{y v:V}{u r:Value}{A:Around}{E:Value->Shared->Prop}
end
section
variable{X:Cx}{tg iter kx vx:Expr}{ifs:List Expr}{scope:Scope}{pos:Pos}{own free:List Str}{fr:List Nat}
end
section
variable{X:Cx}{tg iter kx vx:Expr}{ifs:List Expr}{scope:Scope}{pos:Pos}{wi:TI}{g:TG}{tc:TT}{tk tv:TE}{o0:HO}
end
section
variable{K:Frag}{fl:Wd}{tk tv:TE}{wk wv:DE}{tc:TT}{wc:DT}{wi:TI}{di:DI}{g:TG}{dg:DG}{S:List Nat}
end
theorem zrE{X:Cx}{o e f:Expr}{apos cpos:Pos}{td ty tx:TE}(hu:X.A.units+1 < cLine)(ho:WE X o td)(he:WE X e ty)(hf:WE X f tx)(m:M2 X o "get" apos e f cpos):WE X (.Call (.Attribute o "get" apos) [e,f] [] cpos) (zm3 td ty tx):=⟨zqZ hu ho.out he.out hf.out m⟩
def two(a b:Int):Nat:=((b - a+1) / 2).toNat
section
variable{X:Cx}{tg:Expr}
end
section
variable{X:Cx}{CX:CXT}{k:Nat}{f:Addr}{fd:FuncData}{ps:List Str}{sp:Sp}{ds:List Value}{dvs:List V}{E:XK}
end
section
open PySem.Builtin PySem.Builtin.Str
end
def sqN:Bool->String | true=>"tuple" | false=>"list"
def itN:Bool->String | true=>"tuple_iterator" | false=>"list_iterator"
def zpe(b:Bool)(h:Heap)(a:Addr)(its:Array Value):Prop:=∃o,h.get? a=some o/\o.cls= .type (sqN b)/\∃n,o.data= .seq its n
def ItB(b:Bool)(h:Heap)(a t:Addr)(i:Nat):Prop:=∃o,h.get? a=some o/\o.cls= .type (itN b)/\o.data= .fields #[.ref t, .int i 0]
theorem ItB.at{b:Bool}{h h':Heap}{a t:Addr}{i:Nat}(x:ItB b h a t i)(e:∀o,h.get? a=some o->h'.get? a=some o):ItB b h' a t i:=let ⟨o,ho,r⟩:=x;⟨o,e o ho,r⟩
section
variable{prog:Program}{w:World}{A:Around}{E:Value->Shared->Prop}{s:Shared}{b b1 b2:Bool}
theorem zme{it l:Addr}{i:Nat}{items:Array Value}{x:Value}{Q:Value->Shared->Prop}(hit:ItB b s.heap it l i)(hl:zpe b s.heap l items)(hx:items[i]? = some x)
  (hQ:∀h',ItB b h' it l (i+1)->Heap.SameBut it s.heap h'->Q x { s with heap:=h' }):wpAny (model prog w) A (Builtin.SmallTypes.nextOf (.ref it)) Q E s:=by
 cases b with
 | false=>exact wpAny_nextOf_list_item hit hl hx hQ
 | true =>
  have ty:s.TypeIs (.ref it) "tuple_iterator":=let ⟨o,ho,hc,_⟩:=hit;⟨o,ho,hc⟩;obtain⟨o,ho,hc,hd⟩:=id hit;obtain⟨ol,hol,_,nl,hdl⟩:=hl;unfold Builtin.SmallTypes.nextOf;refine wpAny_bind (wpAny_callSpecial?_slot (name:=Str.ofString "__next__") ty F.slot_tuple_iterator_next (wpAny_call_entry F.slot_tuple_iterator_next ty F.entry_tuple_iterator_next ?_ (F.args_tuple_iterator_next_1 _)));show wpAny _ _ (field (.ref it) 0 >>= _) _ _ s;refine wpAny_bind (wpAny_field ho hd (x:= .ref l) rfl ?_);show wpAny _ _ (if (Value.ref l==Value.none)=true then _ else _) _ _ s;rw[if_neg (show ¬ ((Value.ref l==Value.none)=true) from Bool.false_ne_true)];show wpAny _ _ (field (.ref it) 1 >>= _) _ _ s;refine wpAny_bind (wpAny_field ho hd (x:= .int i 0) rfl ?_);show wpAny _ _ (seqItems? (.ref l) >>= _) _ _ s;refine wpAny_bind (wpAny_seqItems hol hdl ?_);simp only[Int.toNat_natCast,hx];refine wpAny_bind (wpAny_setField ho hd (by simp) (wpAny_pure ⟨x,rfl,wpAny_pure (hQ _ ?_ (Heap.SameBut.update ..))⟩));exact⟨_,Heap.get?_update_self _ ho (Obj.isFreed_of_fields (Obj.data_mapFields hd _)),(Obj.cls_mapFields ..).trans hc,by rw[Obj.data_mapFields hd];simp[rawInt]⟩
theorem zpt{it l:Addr}{i:Nat}{items:Array Value}{Q:Value->Shared->Prop}(hh:A.handled=none)(hit:ItB b s.heap it l i)(hl:zpe b s.heap l items)(hx:items[i]? = none)
  (hE:∀h' e,Heap.ExtBut it s.heap h'->(∃o,h'.get? e=some o/\o.cls= .type "StopIteration")->E (.ref e) { s with heap:=h' }):wpAny (model prog w) A (Builtin.SmallTypes.nextOf (.ref it)) Q E s:=by
 cases b with
 | false=>exact wpAny_nextOf_list_end hh hit hl hx hE
 | true =>
  have ty:s.TypeIs (.ref it) "tuple_iterator":=let ⟨o,ho,hc,_⟩:=hit;⟨o,ho,hc⟩;obtain⟨o,ho,hc,hd⟩:=id hit;obtain⟨ol,hol,_,nl,hdl⟩:=hl;unfold Builtin.SmallTypes.nextOf;refine wpAny_bind (wpAny_callSpecial?_slot (name:=Str.ofString "__next__") ty F.slot_tuple_iterator_next (wpAny_call_entry F.slot_tuple_iterator_next ty F.entry_tuple_iterator_next ?_ (F.args_tuple_iterator_next_1 _)));show wpAny _ _ (field (.ref it) 0 >>= _) _ _ s;refine wpAny_bind (wpAny_field ho hd (x:= .ref l) rfl ?_);show wpAny _ _ (if (Value.ref l==Value.none)=true then _ else _) _ _ s;rw[if_neg (show ¬ ((Value.ref l==Value.none)=true) from Bool.false_ne_true)];show wpAny _ _ (field (.ref it) 1 >>= _) _ _ s;refine wpAny_bind (wpAny_field ho hd (x:= .int i 0) rfl ?_);show wpAny _ _ (seqItems? (.ref l) >>= _) _ _ s;refine wpAny_bind (wpAny_seqItems hol hdl ?_);simp only[Int.toNat_natCast,hx];refine wpAny_bind (wpAny_rule (wpAny_bind (wpAny_setField ho hd (by simp) ?_)));show wpAny _ _ (newExc (.type "StopIteration") [] >>= _) _ _ _;refine wpAny_bind ?_;simp only[newExc,newTuple];refine wpAny_bind (wpAny_newObj_type ?_ (by size_fits));refine wpAny_bind (m:=firstArgMember _ _) (wpAny_of_eq (a:=Value.none) (by first | rfl | (simp only[firstArgMember];rfl)) ?_);refine wpAny_newObj_type ?_ (by size_fits);simp only[raiseNew];refine wpAny_bind (wpAny_handled ?_);first | rw[show A.in1.handled=none from hh] | rw[hh]
  refine wpAny_bind (wpAny_pure (wpAny_throw ?_));exact hE _ _ (((Heap.SameBut.update ..).extBut.push _).push _) ⟨_,Heap.get?_push_size _ rfl,rfl⟩
end
def SqB(b:Bool)(K:Frag)(H:Hp)(a:Addr)(xs:List V):Prop:=match b with
 | true=>SqT K H a xs
 | false=>SqL K H a xs
theorem Inv.sqB{X:Cx}{pins:List (Addr×Obj)}{σ:St}{H:Hp}{s:Shared}{b:Bool}{a:Addr}{xs:List V}(I:Inv X pins σ H s)(h:SqB b X.K H a xs):∃its:List Value,Vals xs its/\zpe b s.heap a its.toArray:=by
 cases b with
 | false =>
  obtain⟨its,r,p,_⟩:=I.list h;exact⟨its,r,p.isList⟩
 | true =>
  obtain⟨its,r,p,_⟩:=I.tuple h;exact⟨its,r,p⟩
theorem zvS{X:Cx}{pins:List (Addr×Obj)}{σ:St}{H:Hp}{s:Shared}{b:Bool}{l:Addr}{xs ys:List V}(I:Inv X pins σ H s)(q:SqB b X.K H l xs)(q':SqB b X.K H l ys):xs=ys:=by
 cases b with
 | false=>exact I.list_inj q q'
 | true=>exact I.tuple_inj q q'
def zy7(K:Frag)(fl:Wd)(W:Wd)(Pm:Mu->Prop)(b:Bool)(p:Addr)(ds:List D):Prop:=∀W1 μ H,W.le W1->Rel K fl W1 μ H->Pm μ->∃xs,SqB b K H p xs/\zr K W1 ds xs
def sqM(μ:Mu)(d:D)(Q:List D->(Mu->Prop)->Prop):Prop:=match d with
 | .tup ds=>Q ds fun _=>True
 | d=>lsM μ d Q
theorem ztJ{K:Frag}{fl:Wd}{W:Wd}{μ:Mu}{H:Hp}{d:D}{x:V}{Q:List D->(Mu->Prop)->Prop}(r:Rel K fl W μ H)(q:Rep K W d x)(h:sqM μ d Q):∃b p ds Pm,x= .ref p/\zy7 K fl W Pm b p ds/\Pm μ/\Q ds Pm:=by
 unfold sqM at h;split at h
 .obtain⟨p,xs,rfl,s1,z1⟩:=q.tup';exact⟨true,p,_,_,rfl,fun W1 μ1 H1 le1 r1 _=>⟨xs,(s1.sm le1.F).sm r1.sub,z1.mono le1⟩,trivial,h⟩
 .obtain⟨p,ds,Pm,rfl,l1,pm,h⟩:=zkJ r q h;exact⟨false,p,ds,Pm,rfl,fun W1 μ1 H1 le1 r1 pm1=>let ⟨xs,e,z⟩:=l1 W1 μ1 H1 le1 r1 pm1;⟨xs,SqL.of e,z⟩,pm,h⟩
section
variable{wA:DA}{ρ:zX}{μ:Mu}{R:List D->(Mu->Prop)->Mu->Prop}{d e:D}{ds:List D}{Q:List D->(Mu->Prop)->Prop}
theorem zq6:sqM μ (.tup ds) Q=Q ds fun _=>True:=rfl
end
section
variable{X:Cx}{pins:List (Addr×Obj)}{σ:St}{H:Hp}{s:Shared}
end
section
variable{prog:Program}{w:World}{A:Around}{E:Value->Shared->Prop}{s:Shared}{b:Bool}
theorem zqr{e it l:Addr}{i:Nat}{items:Array Value}{x old:Value}{Q:Option Value->Shared->Prop}(he:IsEnum s.heap e it i old)(hit:ItB b s.heap it l i)(hl:zpe b s.heap l items)(hx:items[i]? = some x)(hne:e≠it)
  (hQ:∀h',IsEnumOut h' e it ((i:Int)+1) x s.heap.objs.size->ItB b h' it l (i+1)->h'.get? s.heap.objs.size=some { cls:= .type "tuple",data:= .seq #[.int i s.toks,x] } ->
   (∀c o,c≠e->c≠it->s.heap.get? c=some o->h'.get? c=some o)->Q (some (.ref s.heap.objs.size)) { s with heap:=h',toks:=s.toks+1 }):wpAny (model prog w) A (pyNext (.ref e)) Q E s:=by
 have hT:s.TypeIs (.ref e) "enumerate":=⟨_,he,rfl⟩;unfold pyNext;refine wpAny_bind (wpAny_attempt (wpAny_callSpecial?_slot (name:=Str.ofString "__next__") hT F.slot_enumerate_next (wpAny_call_entry F.slot_enumerate_next hT F.entry_enumerate_next ?_ (F.args_enumerate_next_1 _))));obtain⟨hp,g,d,tk,os⟩:=s;have lt:e < hp.objs.size:=Heap.lt_size he;show wpAny _ _ (field (.ref e) 2 >>= _) _ _ _;refine wpAny_bind (wpAny_field he rfl (x:= .ref it) rfl (wpAny_bind (zme (b:=b) hit hl hx fun g1 n1 s1=>?_)));replace s1:Heap.SameBut it hp g1:=s1
 have e1:IsEnum g1 e it i old:=(s1.2 e hne).trans he;show wpAny _ _ (field (.ref e) 3 >>= _) _ _ ⟨g1,g,d,tk,os⟩;refine wpAny_bind (wpAny_field e1 rfl (x:=rawInt i) rfl ?_);show wpAny _ _ (field (.ref e) 4 >>= _) _ _ ⟨g1,g,d,tk,os⟩;refine wpAny_bind (wpAny_field e1 rfl (x:= .none) rfl ?_);show wpAny _ _ (mkInt i >>= _) _ _ ⟨g1,g,d,tk,os⟩;refine wpAny_bind (wpAny_mkInt ?_);show wpAny _ _ (setField (.ref e) 3 (rawInt ((i:Int)+1)) >>= _) _ _ ⟨g1,g,d,tk+1,os⟩;refine wpAny_bind (wpAny_setField_rec e1 (by simp) fun g2 e2 s2=>?_);replace s2:Heap.SameBut e g1 g2:=s2
 replace e2:IsEnum g2 e it ((i:Int)+1) old:=e2
 show wpAny _ _ (setField (.ref e) 4 .none >>= _) _ _ ⟨g2,g,d,tk+1,os⟩;refine wpAny_bind (wpAny_setField_rec e2 (by simp) fun g3 e3 s3=>?_);replace s3:Heap.SameBut e g2 g3:=s3
 replace e3:IsEnum g3 e it ((i:Int)+1) old:=e3
 show wpAny _ _ (newTuple [.int i tk,x] >>= _) _ _ ⟨g3,g,d,tk+1,os⟩;refine wpAny_bind (wpAny_newTuple ?_);have sz:g3.objs.size=hp.objs.size:=by rw[s3.1,s2.1,s1.1]
 have up0:∀c o,c≠e->c≠it->hp.get? c=some o->g3.get? c=some o:=fun c o c1 c2 q=>s3.extBut c o c1 (s2.extBut c o c1 (s1.extBut c o c2 q))
 have m3:ItB b g3 it l (i+1):=n1.at fun o q=>s3.extBut _ _ (Ne.symm hne) (s2.extBut _ _ (Ne.symm hne) q)
 obtain⟨g4,h4⟩:∃g4,g4=g3.push { cls:= .type "tuple",data:= .seq #[.int i tk,x] }:=⟨_,rfl⟩;have kp:∀{c:Addr} {o:Obj},g3.get? c=some o->g4.get? c=some o:=fun q=>by rw[h4];exact Heap.get?_push_of_some _ q
 have e4:IsEnum g4 e it ((i:Int)+1) old:=kp e3;have t4:g4.get? hp.objs.size=some { cls:= .type "tuple",data:= .seq #[.int i tk,x] }:=by rw[h4,<- sz];exact Heap.get?_push_size _ rfl
 show wpAny _ _ (Builtin.SmallTypes.ownedTupleIsFree (.ref e) >>= _) _ _ ⟨g3.push { cls:= .type "tuple",data:= .seq #[.int i tk,x] },g,d,tk+1,os⟩;rw[<- h4,sz];refine wpAny_bind ?_;unfold Builtin.SmallTypes.ownedTupleIsFree;refine wpAny_bind (wpAny_field e4 rfl (x:= .none) rfl (wpAny_pure ?_));simp only[if_true];refine wpAny_bind (wpAny_rule (wpAny_bind (wpAny_field e4 rfl (x:=old) rfl (wpAny_bind (wpAny_setField_rec e4 (by simp) fun g5 e5 s5=>?_)))));replace s5:Heap.SameBut e g4 g5:=s5
 replace e5:IsEnum g5 e it ((i:Int)+1) x:=e5
 show wpAny _ _ (Builtin.SmallTypes.ownedTupleHandOut (.ref e) (.ref hp.objs.size) >>= _) _ _ ⟨g5,g,d,tk+1,os⟩;refine wpAny_bind ?_;unfold Builtin.SmallTypes.ownedTupleHandOut;refine wpAny_bind (wpAny_setField_rec e5 (by simp) fun g6 e6 s6=>?_);replace s6:Heap.SameBut e g5 g6:=s6
 replace e6:IsEnumOut g6 e it ((i:Int)+1) x hp.objs.size:=e6
 refine wpAny_setField_rec e6 (by simp) fun g7 e7 s7=>?_
 replace s7:Heap.SameBut e g6 g7:=s7
 replace e7:IsEnumOut g7 e it ((i:Int)+1) x hp.objs.size:=e7
 have up:∀{c:Addr} {o:Obj},c≠e->g4.get? c=some o->g7.get? c=some o:=fun c1 q=>s7.extBut _ _ c1 (s6.extBut _ _ c1 (s5.extBut _ _ c1 q))
 exact wpAny_bind (wpAny_letGo (wpAny_pure ⟨_,rfl,wpAny_pure (hQ g7 e7 (m3.at fun o q=>up (Ne.symm hne) (kp q)) (up (Nat.ne_of_gt lt) t4) fun c o c1 c2 q=>up c1 (kp (up0 c o c1 c2 q)))⟩))
theorem ztr{e it l:Addr}{i:Nat}{items:Array Value}{old:Value}{Q:Option Value->Shared->Prop}(hh:A.handled=none)(he:IsEnum s.heap e it i old)(hit:ItB b s.heap it l i)(hl:zpe b s.heap l items)(hx:items[i]? = none)
  (hQ:∀h',Heap.ExtBut it s.heap h'->Q none { s with heap:=h' }):wpAny (model prog w) A (pyNext (.ref e)) Q E s:=by
 have hT:s.TypeIs (.ref e) "enumerate":=⟨_,he,rfl⟩;unfold pyNext;refine wpAny_bind (wpAny_attempt (wpAny_callSpecial?_slot (name:=Str.ofString "__next__") hT F.slot_enumerate_next (wpAny_call_entry F.slot_enumerate_next hT F.entry_enumerate_next ?_ (F.args_enumerate_next_1 _))));show wpAny _ _ (field (.ref e) 2 >>= _) _ _ _;refine wpAny_bind (wpAny_field he rfl (x:= .ref it) rfl (wpAny_bind (zpt (b:=b) hh hit hl hx fun h' x he' hx'=>?_)));obtain⟨o,ho,hc⟩:=hx';exact wpAny_bind (wpAny_isInstance (T:="StopIteration") (b:=true) ⟨o,ho,hc⟩ isSubtype_stop (wpAny_pure (hQ _ he')))
end
set_option maxHeartbeats 1000000 in
theorem zy2(l : Addr)(items : Array Value)(ob : Obj)(n : Nat)(hc : ob.cls = .type "tuple")(hd : ob.data = .seq items n) : Meets (Builtin.«enumerate.__new__» ⟨[.type "enumerate", .ref l], []⟩) (fun _ R s => s.heap.get? l = some ob /\
   R (.ok (.ret (.ref (s.heap.push { cls:= .type "tuple_iterator",data:= .fields #[.ref l, .int 0 0] }).objs.size)))
    {s with heap:=(s.heap.push { cls:= .type "tuple_iterator",data:= .fields #[.ref l, .int 0 0] }).push { cls:= .type "enumerate",data:= .fields #[.none, .bool false, .ref s.heap.objs.size,rawInt 0, .none, .none] } }) :=
 .of_wp fun prog w A R s h=>by
  obtain⟨hp,g,d,tk,os⟩:=s;obtain⟨hl,h⟩:=h;obtain⟨c,dct,dt,sl⟩:=ob;replace hc:c= .type "tuple":=hc
  replace hd:dt= .seq items n:=hd
  subst hc hd;have hsub:=sub_enumerate;have hL:Heap.IsTuple (Shared.heap ⟨hp,g,d,tk,os⟩) l items:=⟨_,hl,rfl,n,rfl⟩;wp_walk using wpAny_loadPart' hl
  refine wpAny_stack_any fun st=>wpAny_pure ?_
  split
  .rename_i c _ _ _ _ _;cases (c==Value.type "enumerate")
   .wp_walk using wpAny_loadPart' hl,wpAny_pyIter_tuple hL
    exact⟨_,rfl,h⟩
   .wp_walk using wpAny_loadPart' hl,wpAny_pyIter_tuple hL
    exact⟨_,rfl,h⟩
  .wp_walk using wpAny_loadPart' hl,wpAny_pyIter_tuple hL
   exact⟨_,rfl,h⟩
theorem zyV{prog:Program}{w:World}{A:Around}{E:Value->Shared->Prop}{s:Shared}{b:Bool}{l:Addr}{items:Array Value}{Q:Value->Shared->Prop}(hL:zpe b s.heap l items)
  (h:∀h',IsEnum h' (s.heap.objs.size+1) s.heap.objs.size 0 .none->ItB b h' s.heap.objs.size l 0->(∀c o,s.heap.get? c=some o->h'.get? c=some o)->Q (.ref (s.heap.objs.size+1)) { s with heap:=h' }) :
  wpAny (model prog w) A (call (.type "enumerate") [.ref l]) Q E s:=by
 cases b with
 | false=>exact call_enumerate_list hL fun h' a b _ d=>h h' a b d
 | true =>
  obtain⟨ob,hl,hc,n,hd⟩:=hL;refine callType_new F.called_enumerate (by decide) (F.typeCall_enumerate_1 _) (F.newCall_enumerate_1 _) (fun obj=>F.args_object_init_2 obj _) F.entry_enumerate_new (zy2 l items ob n hc hd) ⟨hl,?_⟩;have z:(s.heap.push { cls:= .type "tuple_iterator",data:= .fields #[.ref l, .int 0 0] }).objs.size=s.heap.objs.size+1:=Heap.size_push ..;have g2:((s.heap.push { cls:= .type "tuple_iterator",data:= .fields #[.ref l, .int 0 0] }).push { cls:= .type "enumerate",data:= .fields #[.none, .bool false, .ref s.heap.objs.size,rawInt 0, .none, .none] }).get? (s.heap.push { cls:= .type "tuple_iterator",data:= .fields #[.ref l, .int 0 0] }).objs.size=some _:=Heap.get?_push_size _ rfl;have g1:((s.heap.push { cls:= .type "tuple_iterator",data:= .fields #[.ref l, .int 0 0] }).push { cls:= .type "enumerate",data:= .fields #[.none, .bool false, .ref s.heap.objs.size,rawInt 0, .none, .none] }).get? s.heap.objs.size=some _:=Heap.get?_push_of_some _ (Heap.get?_push_size _ rfl);show _/\_;rw[z] at g2 ⊢;exact⟨⟨_,g2,rfl⟩,h _ g2 ⟨_,g1,rfl,rfl⟩ fun c o q=>Heap.get?_push_of_some _ (Heap.get?_push_of_some _ q)⟩
def zyz(K:Frag)(b:Bool)(l:Addr):It :=
 ⟨fun i H => ∃xs x, SqB b K H l xs /\ xs[i]? = some x,
  fun i H v H'=>∃p,H p=none/\v= .ref p/\∀xs,SqB b K H l xs->∃x,xs[i]? = some x/\H'=upd H p (.tup [.int i,x]),
  fun i H=>∃xs,SqB b K H l xs/\xs.length<=i⟩
def zs4(b:Bool)(e it l:Addr)(i:Nat)(h:Heap):Prop:=(∃old,IsEnum h e it i old)/\ItB b h it l i
theorem zmE{P:Program}{w:World}{K:Frag}{elts:List Expr}{k:Nat}{pos:Pos}(b:Bool)(e it l:Addr)(d:e≠it):Turn P w K (.Tuple elts k pos) (zyz K b l) [e,it] e (zs4 b e it l):=by
 refine{ mem:=by simp,obj:=?_,keep:=?_,item:=?_,done:=?_,self:=fun _ _ _ _ _ st h=>by obtain⟨⟨old,hz⟩,_⟩:=st;exact wpAny_pyIter_enum hz h }
 .intro i h st c hb;obtain⟨⟨old,hz⟩,⟨o1,e1,c1,d1⟩⟩:=st;simp only[List.mem_cons,List.not_mem_nil,or_false] at hb;rcases hb with rfl | rfl
  .exact⟨_,hz,fun v e=>by cases e⟩
  .exact⟨_,e1,fun v e=>by rw[d1] at e;cases e⟩
 .intro i h h' st kk;obtain⟨⟨old,hz⟩,h1⟩:=st;exact⟨⟨old,kk e (by simp) _ hz⟩,h1.at fun o e=>kk it (by simp) o e⟩
 .intro X hP hw hK hc i pins s σ H E I hf st hg;subst hP hw hK;obtain⟨xs,x,q1,hx⟩:=hg;obtain⟨its1,r1,hl1⟩:=I.sqB q1;obtain⟨u1,eu1,ru1⟩:=r1.get hx;obtain⟨⟨old,hz⟩,h1⟩:=st;refine zqr hz h1 hl1 (x:=u1) (by simpa using eu1) d fun h' a1 a2 a3 hk=>?_
  refine⟨_,rfl,wpAny_letOwnedTupleGo_enum a1 fun h'' b1 b2=>?_⟩;have lt:∀c∈[e,it],c < s.heap.objs.size:=fun c hb=>by
   simp only[List.mem_cons,List.not_mem_nil,or_false] at hb;rcases hb with rfl | rfl
   .exact Heap.lt_size hz
   .obtain⟨o1,e1,_⟩:=h1;exact Heap.lt_size e1
  have hfr:H s.heap.objs.size=none:=I.hok.fresh (Nat.le_refl _);have I1:Inv X pins σ (upd H s.heap.objs.size (.tup [.int i,x])) { s with heap:=s.heap.push { cls:= .type "tuple",data:= .seq #[Value.int (i:Int) s.toks,u1] },toks:=s.toks+1 } :=
   I.laid (t':=s.toks+1) (fun b o e=>Heap.get?_push_of_some _ e) (Nat.le_refl _) ⟨by show 2<=sizeLine;decide,[Value.int (i:Int) s.toks,u1], .cons ⟨_,rfl⟩ (.cons ru1 .nil),⟨_,Heap.get?_push_size _ rfl,rfl,_,rfl⟩⟩
  have hne:∀c∈[e,it],(upd H s.heap.objs.size (.tup [.int i,x])) c=none:=fun c hb=>by
   rw[zm (Nat.ne_of_lt (lt c hb))];exact(hf c hb).1
  have I2:=I1.turnedL (h':=h'') (t':=s.toks+1) [e,it] (fun c o hb e=>?_) (fun c hb=>⟨hne c hb,(hf c hb).2⟩)
  .refine⟨.ref s.heap.objs.size,_,I2,rfl,⟨_,hfr,rfl,fun xs' q1'=>⟨x,by rw[zvS I q1' q1];exact hx,rfl⟩⟩,⟨⟨_,b1⟩,a2.at fun o e=>b2.extBut _ _ d.symm e⟩,hne⟩
  .simp only[List.mem_cons,List.not_mem_nil,or_false,not_or] at hb;refine b2.extBut _ _ hb.1 ?_;by_cases hT:c=s.heap.objs.size
   .subst hT;rw[Heap.get?_push_size _ rfl] at e;cases e;exact a3
   .exact hk c o hb.1 hb.2 (zjq hT e)
 .intro X hP hw hK hc i pins s σ H E I hf st hg;subst hP hw hK;obtain⟨xs,q1,hend⟩:=hg;obtain⟨its1,r1,hl1⟩:=I.sqB q1;obtain⟨⟨old,hz⟩,h1⟩:=st;refine ztr (I.ok.hd hc) hz h1 hl1 ?_ fun h' hk=>⟨rfl,I.turnedL (h':=h') (t':=s.toks) [e,it] (fun b o hb e=>?_) hf⟩
  .rw[Array.getElem?_eq_none];rw[List.size_toArray,<- r1.length];exact hend
  .simp only[List.mem_cons,List.not_mem_nil,or_false,not_or] at hb;exact hk b o hb.2 e
def zrY(K:Frag)(ta:TA):TI:=fun σ H R=>ta σ H fun vs H2=>∃b l xs,vs=[.ref l]/\SqB b K H2 l xs/\R (zyz K b l) H2
theorem ze1{X:Cx}{a:Expr}{ta:TA}{p pos pos2:Pos}{elts:List Expr}{k:Nat}(K:Frag)(hg:Gl X "enumerate")(hm:X.mg "enumerate"=none)(ha:WA X [a] ta)(h:X.K=K:=by rfl)
  (hs:starEach [a] X.env=(false,eval a X.env)::starEach [] X.env:=by rfl)(hpl:(backTo pos (starEach [] X.env)).any (·.1)=false:=by rfl):WI X (.Tuple elts k pos2) (.Call (.Name "enumerate" p) [a] [] pos) (zrY K ta):=⟨by
 subst h;intro pins s σ H R I h;refine Call_ (zeT I hg hm boot_enumerate (PyProof.Rows.callWith_type1 (thn (ha.out pos pins s σ H _ I h) fun us s1 ⟨vs,H1,I1,r1,q1⟩=>?_) hs hpl));obtain⟨b,l,xs,rfl,q2,q⟩:=q1;obtain⟨u,rfl,e1⟩:=vals1 r1;cases e1;obtain⟨its1,rv1,p1⟩:=I1.sqB q2;refine zyV p1 fun h' b1 b2 b4=>?_
 refine wpAny_pyIter_enum b1 ?_;refine⟨s1.heap.objs.size+1,[s1.heap.objs.size+1,s1.heap.objs.size],_,_,H1,rfl,I1.kept (t':=s1.toks) b4,zmE b (s1.heap.objs.size+1) s1.heap.objs.size l (Nat.ne_of_gt (Nat.lt_succ_self _)),⟨⟨_,b1⟩,b2⟩,fun c hb=>?_,q⟩;have hge:s1.heap.objs.size<=c:=by
  simp only[List.mem_cons,List.not_mem_nil,or_false] at hb;rcases hb with rfl | rfl
  .exact Nat.le_succ _
  .exact Nat.le_refl _
 exact I1.fpOk hge (I1.hok.fresh hge)⟩
def zmR(R:List D->(Mu->Prop)->Mu->Prop):List D->Mu->Prop:=fun es μ1=>match es with
 | [d]=>sqM μ1 d fun ds P1=>R (zfk ds) P1 μ1
 | _=>False
def zcz(w:DA):DI:=fun ρ μ Q=>w ρ μ (zmR Q)
theorem zia{d:D}{μ:Mu}{R:List D->(Mu->Prop)->Mu->Prop}:zmR R [d] μ=sqM μ d fun ds P1=>R (zfk ds) P1 μ:=rfl
instance{K:Frag}{fl:Wd}{ta:TA}{wa:DA}[a:zbR K fl ta wa]:zke K fl (zrY K ta) (zcz wa):=⟨fun{W ρ μ σ H Q Q'} r e h k=>a.run r e h fun W1 ds μ1 xs H1 le1 r1 z1 h1=>by
 unfold zmR at h1;split at h1
 .obtain⟨x,rfl,q1⟩:=z1.one;obtain⟨b,p1,d1,P1,rfl,l1,pm1,h1⟩:=ztJ r1 q1 h1;obtain⟨xs1,e1,_⟩:=l1 W1 μ1 H1 (.refl _) r1 pm1;refine⟨b,p1,xs1,rfl,e1,k W1 _ _ _ μ1 H1 le1 r1 (fun W2 μ2 H2 le2 r2 pm i=>?_) h1⟩;obtain⟨a1,f1,g1⟩:=l1 W2 μ2 H2 le2 r2 pm;constructor
  .intro d hd;obtain⟨e,m2,rfl⟩:=zcY hd;obtain⟨x2,ex2,qx2⟩:=g1.get m2;refine⟨⟨a1,x2,f1,ex2⟩,fun v H' hy=>?_⟩;obtain⟨p,hp,rfl,hy⟩:=hy;obtain⟨y2,ey2,rfl⟩:=hy a1 f1;rw[ex2] at ey2;cases ey2;obtain⟨r3,le3⟩:=r2.newF (o:= .tup [.int i,x2]) hp;exact⟨_,le3,r3, .tup (SqT.of zq) (.cons .i (.cons (qx2.mono le3) .nil))⟩
  .intro hl;rw[zbx] at hl;exact⟨a1,f1,by rw[g1.length];omega⟩
 .exact h1.elim⟩
abbrev gN(p:Array Nat)(i:Nat):Nat:=p.getD i 0
theorem zgo(p:Array Nat)(i:Nat):gN p i=(p[i]?).getD 0:=by
 show p.getD i 0=_;by_cases h:i < p.size<;>simp[Array.getD,h]
def okW{α:Type}(n:Nat)(lt:Nat->Nat->Bool):KasT α->(α->Prop)->Prop
 | .ret a,P=>P a
 | .ask i j k,P=>i < n/\j < n/\i≠j/\okW n lt (k (lt i j)) P
section
variable{n:Nat}{lt:Nat->Nat->Bool}
theorem zcZ{α β:Type}{f:α->KasT β}{P:β->Prop}:∀(t:KasT α),okW n lt t (fun a=>okW n lt (f a) P)->okW n lt (t.bind f) P
 | .ret a,h=>h
 | .ask i j k,h=>⟨h.1,h.2.1,h.2.2.1,zcZ (k (lt i j)) h.2.2.2⟩
theorem za5{α:Type}{P Q:α->Prop}(q:∀a,P a->Q a):∀(t:KasT α),okW n lt t P->okW n lt t Q
 | .ret a,h=>q a h
 | .ask i j k,h=>⟨h.1,h.2.1,h.2.2.1,za5 q (k (lt i j)) h.2.2.2⟩
theorem zmX{α:Type}{cmp:Nat->Nat->(Bool->Shared->Prop)->Shared->Prop}{I:Shared->Prop}{Q:α->Shared->Prop}{P:α->Prop}
  (hc:∀i j C s,i < n->j < n->i≠j->I s->(∀s',I s'->C (lt i j) s')->cmp i j C s)(q:∀a s,P a->I s->Q a s):∀(t:KasT α) (s:Shared),okW n lt t P->I s->t.kasWp cmp Q s
 | .ret a,s,h,hi=>q a s h hi
 | .ask i j k,s,h,hi=>hc i j _ s h.1 h.2.1 h.2.2.1 hi fun s' hi'=>zmX hc q (k (lt i j)) s' h.2.2.2 hi'
def Srt(lt:Nat->Nat->Bool)(p:Array Nat)(m:Nat):Prop:=∀i j,i < j->j < m->lt (gN p j) (gN p i)=false
def Dsc(lt:Nat->Nat->Bool)(p:Array Nat)(m:Nat):Prop:=∀i j,i < j->j < m->lt (gN p i) (gN p j)=false
def PN(n:Nat)(p:Array Nat):Prop:=p.toList.Perm (List.range n)
theorem PN.sz{p:Array Nat}(h:PN n p):p.size=n:=by
 have:=h.length_eq;simpa using this
theorem PN.lp{p:Array Nat}(h:PN n p){i:Nat}(hi:i < n):gN p i < n:=by
 have hs:=h.sz;have hi':i < p.size:=by omega
 have e:gN p i=p[i]:=by show p.getD i 0=_;simp[Array.getD,hi']
 rw[e];have m:p[i]∈p.toList:=by simp
 exact List.mem_range.mp (h.mem_iff.mp m)
theorem PN.ne{p:Array Nat}(h:PN n p){i j:Nat}(hi:i < n)(hj:j < n)(d:i≠j):gN p i≠gN p j:=by
 have hs:=h.sz;have hi':i < p.size:=by omega
 have hj':j < p.size:=by omega
 have e:gN p i=p.toList[i]:=by show p.getD i 0=_;simp[Array.getD,hi']
 have e2:gN p j=p.toList[j]:=by show p.getD j 0=_;simp[Array.getD,hj']
 have nd:p.toList.Nodup:=h.nodup_iff.mpr List.nodup_range;rw[e,e2];intro q;have hl:p.toList.length=p.size:=by simp
 rcases Nat.lt_or_gt_of_ne d with z | z
 .exact(List.pairwise_iff_getElem.mp nd) i j (by omega) (by omega) z q
 .exact(List.pairwise_iff_getElem.mp nd) j i (by omega) (by omega) z q.symm
theorem PN.rev{p:Array Nat}(h:PN n p)(i j:Nat):PN n (kas_rev p i j):=(mirror_perm p i j _).toList.trans h
theorem PN.bub{p:Array Nat}(h:PN n p)(k d:Nat):PN n (bubble p k d):=(bubble_perm p k d).toList.trans h
theorem zf4{p:Array Nat}{i j:Nat}(hj:j<=p.size)(k:Nat):gN (kas_rev p i j) k=if i<=k/\k < j then gN p (i+j - 1 - k) else gN p k:=by
 rw[zgo,zgo,zgo];show((mirror p i j ((j - i) / 2))[k]?).getD 0=_;rw[getElem?_mirror_all hj];split<;>rfl
theorem zqx{p:Array Nat}{k l:Nat}(hk:k < p.size)(hl:l<=k)(m:Nat):gN (bubble p k (k - l)) m=if m=l then gN p k else if l < m/\m<=k then gN p (m - 1) else gN p m:=by
 rw[zgo,zgo,zgo,zgo,getElem?_bubble hk _ (by omega)];have e:k - (k - l)=l:=by omega
 rw[e];split
 .rfl
 .split<;>rfl
structure Ord(lt:Nat->Nat->Bool):Prop where
 as:∀a b,lt a b=true->lt b a=false
 tr:∀a b c,lt b a=false->lt c b=false->lt c a=false
variable(O:Ord lt)
include O
theorem zmj{p:Array Nat}(hp:PN n p):∀(f m:Nat),1<=m->m+f<=n->Srt lt p m->okW n lt (PySem.W.kas_asc p f m) (fun r=>m<=r/\r<=m+f/\Srt lt p r/\(r < m+f->lt (gN p r) (gN p (r - 1))=true))
 | 0,m,_,_,hs=>⟨Nat.le_refl _,Nat.le_refl _,hs,fun h=>absurd h (Nat.lt_irrefl _)⟩
 | f+1,m,h1,h2,hs=>by
  refine⟨hp.lp (by omega),hp.lp (by omega),hp.ne (by omega) (by omega) (by omega),?_⟩;show okW n lt (if lt (gN p m) (gN p (m - 1))=true then _ else _) _;by_cases hc:lt (gN p m) (gN p (m - 1))=true
  .rw[if_pos hc];exact⟨Nat.le_refl _,by omega,hs,fun _=>hc⟩
  .rw[if_neg hc];have hc':lt (gN p m) (gN p (m - 1))=false:=by simpa using hc
   refine za5 (fun r h=>⟨by omega,by omega,h.2.2.1,fun hr=>h.2.2.2 (by omega)⟩) _ (zmj hp f (m+1) (by omega) (by omega) fun i j hij hj=>?_);by_cases e:j=m
   .subst e;by_cases e2:i=j - 1
    .rw[e2];exact hc'
    .exact O.tr _ _ _ (hs i (j - 1) (by omega) (by omega)) hc'
   .exact hs i j hij (by omega)
def Flat(lt:Nat->Nat->Bool)(p:Array Nat)(a b:Nat):Prop:=∀i j,a<=i->i < b->a<=j->j < b->lt (gN p i) (gN p j)=false
theorem znG{p:Array Nat}{a b m:Nat}(hd:Dsc lt p m)(hf:Flat lt p a b)(hb:b<=m)(hm:m<=p.size):Dsc lt (kas_rev p a b) m:=by
 intro i j hij hj;rw[zf4 (by omega),zf4 (by omega)];by_cases hi':a<=i/\i < b
 .rw[if_pos hi'];by_cases hj':a<=j/\j < b
  .rw[if_pos hj'];exact hf _ _ (by omega) (by omega) (by omega) (by omega)
  .rw[if_neg hj'];exact hd _ _ (by omega) hj
 .rw[if_neg hi'];by_cases hj':a<=j/\j < b
  .rw[if_pos hj'];exact hd _ _ (by omega) (by omega)
  .rw[if_neg hj'];exact hd _ _ hij hj
theorem zg7 : ∀(f : Nat) (p : Array Nat) (m q : Nat), PN n p -> 1 <= m -> m + f <= n -> q < m -> Dsc lt p m -> Flat lt p (m - (q + 1)) m -> okW n lt (PySem.W.kas_desc f p m q)
   (fun r=>PN n r.1/\m<=r.2.1/\r.2.1<=n/\r.2.2 < r.2.1/\Dsc lt r.1 r.2.1/\Flat lt r.1 (r.2.1 - (r.2.2+1)) r.2.1)
 | 0,p,m,q,hp,h1,h2,hq,hd,hf=>⟨hp,Nat.le_refl _,by show m<=n;omega,hq,hd,hf⟩
 | f+1,p,m,q,hp,h1,h2,hq,hd,hf=>by
  have hz:=hp.sz;have irr:∀a,lt a a=false:=fun a=>by
   by_cases h:lt a a=true
   .have:=O.as _ _ h;rw[this] at h;cases h
   .simpa using h
  refine⟨hp.lp (by omega),hp.lp (by omega),hp.ne (by omega) (by omega) (by omega),?_⟩;show okW n lt (if lt (gN p m) (gN p (m - 1))=true then _ else _) _;by_cases hc:lt (gN p m) (gN p (m - 1))=true
  .rw[if_pos hc];have hc1:=O.as _ _ hc;have hd1:Dsc lt p (m+1):=fun i j hij hj=>by
    by_cases e:j=m
    .subst e;by_cases e2:i=j - 1
     .rw[e2];exact hc1
     .exact O.tr _ _ _ hc1 (hd i (j - 1) (by omega) (by omega))
    .exact hd i j hij (by omega)
   have fl:∀p',Flat lt p' (m+1 - (0+1)) (m+1):=fun p' i j a1 a2 a3 a4=>by
    have:i=j:=by omega
    rw[this];exact irr _
   by_cases hq0:q > 0
   .rw[if_pos hq0];refine za5 (fun r h=>⟨h.1,by omega,h.2.2.1,h.2.2.2.1,h.2.2.2.2⟩) _ (zg7 f _ (m+1) 0 (hp.rev _ _) (by omega) (by omega) (by omega) (znG O hd1 hf (by omega) (by omega)) (fl _))
   .rw[if_neg hq0];exact za5 (fun r h=>⟨h.1,by omega,h.2.2.1,h.2.2.2.1,h.2.2.2.2⟩) _ (zg7 f _ (m+1) 0 hp (by omega) (by omega) (by omega) hd1 (fl _))
  .rw[if_neg hc];have hc':lt (gN p m) (gN p (m - 1))=false:=by simpa using hc
   refine⟨hp.lp (by omega),hp.lp (by omega),hp.ne (by omega) (by omega) (by omega),?_⟩;show okW n lt (if lt (gN p (m - 1)) (gN p m)=true then _ else _) _;by_cases hb:lt (gN p (m - 1)) (gN p m)=true
   .rw[if_pos hb];exact⟨hp,Nat.le_refl _,by show m<=n;omega,hq,hd,hf⟩
   .rw[if_neg hb];have hb':lt (gN p (m - 1)) (gN p m)=false:=by simpa using hb
    refine za5 (fun r h=>⟨h.1,by omega,h.2.2.1,h.2.2.2.1,h.2.2.2.2⟩) _ (zg7 f p (m+1) (q+1) hp (by omega) (by omega) (by omega) (fun i j hij hj=>?_) (fun i j a1 a2 a3 a4=>?_))
    .by_cases e:j=m
     .subst e;by_cases e2:i=j - 1
      .rw[e2];exact hb'
      .exact O.tr _ _ _ hb' (hd i (j - 1) (by omega) (by omega))
     .exact hd i j hij (by omega)
    .by_cases ei:i=m
     .subst ei;by_cases ej:j=i
      .rw[ej];exact irr _
      .exact O.tr _ _ _ (hf (i - 1) j (by omega) (by omega) (by omega) (by omega)) hc'
     .by_cases ej:j=m
      .subst ej;exact O.tr _ _ _ hb' (hf i (j - 1) (by omega) (by omega) (by omega) (by omega))
      .exact hf i j (by omega) (by omega) (by omega) (by omega)
theorem zlO{m nrem:Nat}{p:Array Nat}(hp:PN nrem p)(h1:1<=m)(hm:m<=nrem)(hd:Dsc lt p m):okW nrem lt (PySem.W.kas_tail3 m nrem p) (fun r=>PN nrem r.2/\1<=r.1/\r.1<=nrem/\Srt lt r.2 r.1):=by
 refine zcZ _ (za5 (fun r h=>?_) _ (zmj O (hp.rev 0 m) (nrem - m) m h1 (by omega) fun i j hij hj=>?_))
 .exact⟨hp.rev 0 m,by omega,by omega,h.2.2.1⟩
 .have hz:=hp.sz;rw[zf4 (by omega),zf4 (by omega),if_pos ⟨Nat.zero_le _,hj⟩,if_pos ⟨Nat.zero_le _,by omega⟩];exact hd _ _ (by omega) (by omega)
theorem zgB{m nrem:Nat}{p:Array Nat}(hp:PN nrem p)(h1:1<=m)(hm:m+1<=nrem)(hd:Dsc lt p (m+1)):okW nrem lt (PySem.W.kas_descPart m nrem p) (fun r=>PN nrem r.2/\1<=r.1/\r.1<=nrem/\Srt lt r.2 r.1):=by
 have irr:∀a,lt a a=false:=fun a=>by
  by_cases h:lt a a=true
  .have:=O.as _ _ h;rw[this] at h;cases h
  .simpa using h
 refine zcZ _ (za5 (fun r h=>?_) _ (zg7 O (nrem - (m+1)) p (m+1) 0 hp (by omega) (by omega) (by omega) hd fun i j a1 a2 a3 a4=>?_))
 .obtain⟨p',m',q'⟩:=r;obtain⟨hp',b1,b2,b3,b4,b5⟩:=h;dsimp only at hp' b1 b2 b3 b4 b5 ⊢;have hz:=hp'.sz;split
  .exact zlO O (hp'.rev _ _) (by omega) b2 (znG O b4 b5 (Nat.le_refl _) (by omega))
  .exact zlO O hp' (by omega) b2 b4
 .have:i=j:=by omega
  rw[this];exact irr _
theorem zrv{nrem:Nat}{p:Array Nat}(hp:PN nrem p)(h1:1<=nrem):okW nrem lt (PySem.W.kas_count nrem p) (fun r=>PN nrem r.2/\1<=r.1/\r.1<=nrem/\Srt lt r.2 r.1):=by
 have hz:=hp.sz;refine zcZ _ (za5 (fun m h=>?_) _ (zmj O hp (nrem - 1) 1 (Nat.le_refl _) (by omega) fun i j hij hj=>by omega));obtain⟨b1,b2,b3,b4⟩:=h;by_cases e:m=nrem
 .rw[if_pos (by simp[e])];exact⟨hp,b1,by show m<=nrem;omega,b3⟩
 .rw[if_neg (by simp[e])];have hl:=b4 (by omega);have hl':=O.as _ _ hl;by_cases hm:m > 1
  .rw[if_pos hm];refine⟨hp.lp (by omega),hp.lp (by omega),hp.ne (by omega) (by omega) (by omega),?_⟩;show okW nrem lt (if lt (gN p 0) (gN p (m - 1))=true then _ else _) _;by_cases hc:lt (gN p 0) (gN p (m - 1))=true
   .rw[if_pos hc];exact⟨hp,b1,by show m<=nrem;omega,b3⟩
   .rw[if_neg hc];have hc':lt (gN p 0) (gN p (m - 1))=false:=by simpa using hc
    have irr:∀a,lt a a=false:=fun a=>by
     by_cases h:lt a a=true
     .have:=O.as _ _ h;rw[this] at h;cases h
     .simpa using h
    have up:∀i,i < m->lt (gN p i) (gN p (m - 1))=false:=fun i hi=>by
     by_cases e0:i=0
     .rw[e0];exact hc'
     .exact O.tr _ _ _ hc' (b3 0 i (by omega) hi)
    have dn:∀i,i < m->lt (gN p (m - 1)) (gN p i)=false:=fun i hi=>by
     by_cases e0:i=m - 1
     .rw[e0];exact irr _
     .exact b3 i (m - 1) (by omega) (by omega)
    refine zgB O (hp.rev 0 m) b1 (by omega) fun i j hij hj=>?_
    rw[zf4 (by omega),zf4 (by omega),if_pos ⟨Nat.zero_le _,by omega⟩];by_cases ej:j < m
    .rw[if_pos ⟨Nat.zero_le _,ej⟩];exact O.tr _ _ _ (dn _ (by omega)) (up _ (by omega))
    .have ej':j=m:=by omega
     rw[if_neg (by omega),ej'];exact O.tr _ _ _ hl' (up _ (by omega))
  .rw[if_neg hm];have e1:m=1:=by omega
   subst e1;refine zgB O hp (Nat.le_refl _) (by omega) fun i j hij hj=>?_
   have ei:i=0:=by omega
   have ej:j=1:=by omega
   subst ei;subst ej;exact hl'
theorem zhU{p:Array Nat}{k:Nat}(hp:PN n p)(hk:k < n)(hs:Srt lt p k):∀(f l r:Nat),r<=k->l<=r->r - l<=f->(∀i,i < l->lt (gN p k) (gN p i)=false)->(∀i,r<=i->i < k->lt (gN p i) (gN p k)=false) ->
  okW n lt (PySem.W.kas_place p k f l r) (fun x=>x<=k/\(∀i,i < x->lt (gN p k) (gN p i)=false)/\(∀i,x<=i->i < k->lt (gN p i) (gN p k)=false))
 | 0,l,r,h1,h2,h3,a,b=>⟨by omega,a,fun i h=>b i (by omega)⟩
 | f+1,l,r,h1,h2,h3,a,b=>by
  unfold PySem.W.kas_place;by_cases e:l ≥ r
  .rw[if_pos e];exact⟨by omega,a,fun i h=>b i (by omega)⟩
  .rw[if_neg e];refine⟨hp.lp hk,hp.lp (by omega),hp.ne hk (by omega) (by omega),?_⟩;show okW n lt (if lt (gN p k) (gN p ((l+r) / 2))=true then _ else _) _;by_cases hc:lt (gN p k) (gN p ((l+r) / 2))=true
   .rw[if_pos hc];refine zhU hp hk hs f l _ (by omega) (by omega) (by omega) a fun i hi hik=>?_
    by_cases ei:i=(l+r) / 2
    .rw[ei];exact O.as _ _ hc
    .exact O.tr _ _ _ (O.as _ _ hc) (hs _ _ (by omega) hik)
   .rw[if_neg hc];have hc':lt (gN p k) (gN p ((l+r) / 2))=false:=by simpa using hc
    refine zhU hp hk hs f _ r h1 (by omega) (by omega) (fun i hi=>?_) b;by_cases ei:i=(l+r) / 2
    .rw[ei];exact hc'
    .exact O.tr _ _ _ (hs i _ (by omega) (by omega)) hc'
theorem zrR:∀(f:Nat) (p:Array Nat) (k:Nat),PN n p->k+f=n->Srt lt p k->okW n lt (PySem.W.kas_bin f p k) (fun r=>PN n r/\Srt lt r n)
 | 0,p,k,hp,h,hs=>⟨hp,by rw[<- h];exact hs⟩
 | f+1,p,k,hp,h,hs=>by
  have hz:=hp.sz;refine zcZ _ (za5 (fun l hl=>?_) _ (zhU O hp (by omega) hs k 0 k (Nat.le_refl _) (Nat.zero_le _) (by omega) (fun i hi=>by omega) (fun i a b=>by omega)));obtain⟨c1,c2,c3⟩:=hl;refine zrR f _ (k+1) (hp.bub _ _) (by omega) fun i j hij hj=>?_
  rw[zqx (by omega) c1,zqx (by omega) c1];by_cases ej:j=l
  .rw[if_pos ej,if_neg (by omega),if_neg (by omega)];exact c2 i (by omega)
  .rw[if_neg ej];by_cases ei:i=l
   .rw[if_pos ei,if_pos ⟨by omega,by omega⟩];exact c3 _ (by omega) (by omega)
   .rw[if_neg ei];by_cases hj':l < j/\j<=k
    .rw[if_pos hj'];by_cases hi':l < i/\i<=k
     .rw[if_pos hi'];exact hs _ _ (by omega) (by omega)
     .rw[if_neg hi'];exact hs _ _ (by omega) (by omega)
    .rw[if_neg hj',if_neg (by omega)];exact hs _ _ hij (by omega)
theorem zgj(h1:1<=n):okW n lt (kas_sort n) (fun r=>PN n r/\Srt lt r n):=by
 refine zcZ _ (za5 (fun r h=>?_) _ (zrv O (p:=List.toArray (List.range n)) (List.Perm.refl _) h1));obtain⟨hp,b1,b2,b3⟩:=h;by_cases e:r.1 < n
 .rw[if_pos e];have em:max r.1 1=r.1:=by omega
  rw[em];exact zrR O _ _ _ hp (by omega) b3
 .rw[if_neg e];have en:r.1=n:=by omega
  exact⟨hp,by rw[<- en];exact b3⟩
end
def Kept(h0 h:Heap):Prop:=∀b o,h0.get? b=some o->h.get? b=some o
structure zuL(prog:Program)(w:World)(h0:Heap)(s:Shared)(vs:List Value)(κ:SortKind)(lt:Nat->Nat->Bool):Prop where
 kind:∀(A:Around) (h':Heap),Kept h0 h'->2<=vs.length->∀(Q:SortKind->Shared->Prop) (E:Value->Shared->Prop),Q κ { s with heap:=h' }->wpAny (model prog w) A (keyKind' vs.toArray) Q E { s with heap:=h' }
 ask:∀(A:Around) (h':Heap),Kept h0 h'->∀i j,i < vs.length->j < vs.length->i≠j->∀(C:Bool->Shared->Prop),C (lt i j) { s with heap:=h' }->wpAny (model prog w) A (keyLt' κ (vs.getD i .none) (vs.getD j .none)) C (fun _ _=>False) { s with heap:=h' }
section
variable{prog:Program}{w:World}{A:Around}{E:Value->Shared->Prop}{s:Shared}{κ:SortKind}{lt:Nat->Nat->Bool}{h0:Heap}
theorem ziv{a:Addr}{vs:List Value}{n:Nat}{P:PySem.Fin->Shared->Prop}(ho:s.heap.get? a=some (seqObj "list" vs.toArray n))
  (k0:Kept h0 s.heap)(ha0:h0.get? a=none)(O:Ord lt)(sq:zuL prog w h0 s vs κ lt)(h64:vs.length < 64)
  (h:∀(p:Array Nat),PN vs.length p->Srt lt p vs.length->P (.done (.ret .none)) { s with heap:=sortedHeap s.heap a vs (p.toList.map fun i=>vs.getD i .none).toArray }) :
  wpAny (model prog w) A (Builtin.«list.sort» ⟨[.ref a],[]⟩) P E s:=by
 rw[list_sort_plain];have ha:a < s.heap.objs.size:=Heap.lt_size ho;refine wpAny_bind (listItems_at ho rfl ?_);refine wpAny_bind (listUpdate_at ho rfl ?_ (by rw[List.size_toArray,sizeLine_eq];omega) (Nat.zero_le _));obtain⟨e1,ho1⟩:∃e1,(s.heap.update a (Obj.mapSeq fun _=>(#[]:Array Value))).get? a=some (seqObj "list" #[] e1):=⟨_,get?_update_seq ho (fun _=> #[])⟩;refine wpAny_bind (seqEpoch_at ho1 rfl ?_);refine wpAny_bind (wpAny_newTuple ?_ (by show vs.length<=_;rw[sizeLine_eq];omega));refine wpAny_bind (wpAny_newList ?_ (Nat.zero_le _));refine wpAny_holding ?_;have ho6:(((s.heap.update a (Obj.mapSeq fun _=>(#[]:Array Value))).push (seqObj "tuple" vs.toArray 0)).push (seqObj "list" #[] 0)).get? a=some (seqObj "list" #[] e1):=by
  rw[Heap.get?_push_ne _ _ _ (by rw[size_push',Heap.size_update];exact Nat.ne_of_lt (Nat.lt_succ_of_lt ha)),Heap.get?_push_ne _ _ _ (by rw[Heap.size_update];exact Nat.ne_of_lt ha)];exact ho1
 have kk:Kept h0 (((s.heap.update a (Obj.mapSeq fun _=>(#[]:Array Value))).push (seqObj "tuple" vs.toArray 0)).push (seqObj "list" #[] 0)):=fun b o e=>by
  refine Heap.get?_push_of_some _ (Heap.get?_push_of_some _ ?_);have hb:b≠a:=fun q=>by rw[q,ha0] at e;cases e
  rw[Heap.get?_update_ne _ _ _ _ hb];exact k0 b o e
 show wpAny (model prog w) A _ P E { s with heap:=((s.heap.update a (Obj.mapSeq fun _=>(#[]:Array Value))).push (seqObj "tuple" vs.toArray 0)).push (seqObj "list" #[] 0) };dsimp only;have hsz:vs.toArray.size=vs.length:=by simp
 by_cases h2:vs.toArray.size < 2
 .rw[if_pos h2,if_pos h2];refine wpAny_bind (wpAny_pure ?_);rw[StateT.run_pure];refine wpAny_bind (wpAny_pure ?_);dsimp only;have eo:(arrOf (SortSt.mk' general' (vs.toArray.zip vs.toArray) #[] 7 none)).map (·.2)=vs.toArray:=by
   apply Array.toList_inj.mp;show((vs.toArray.zip vs.toArray).map (·.2)).toList=vs.toArray.toList;simp;match vs,hsz,h2 with
   | [],_,_=>rfl
   | [_],_,_=>rfl
   | _::_::r,_,h2=>simp at h2;omega
  refine wpAny_bind (seqEpoch_at ho6 rfl ?_);refine wpAny_bind (listUpdate_at ho6 rfl ?_ (Nat.zero_le _) (by rw[eo,List.size_toArray,sizeLine_eq];omega));rw[eo];simp only[bne_self_eq_false,Bool.false_eq_true,if_false];have hl2:vs.length < 2:=by rw[hsz] at h2;exact h2
  have q:=h (List.range vs.length).toArray (by show List.Perm _ _;rw[List.toList_toArray]) (fun i j hij hj=>by
   exfalso;omega)
  have ev:((List.range vs.length).toArray.toList.map fun i=>vs.getD i .none).toArray=vs.toArray:=by
   match vs,hl2 with
   | [],_=>rfl
   | [_],_=>rfl
  rw[ev] at q;exact wpAny_pure q
 .rw[if_neg h2,if_neg h2];have hl2:2<=vs.length:=by rw[hsz] at h2;omega
  refine wpAny_bind (sq.kind A _ kk hl2 _ _ ?_);have ask:(kas_sort vs.length).kasWp (kas_ask prog w A κ vs) (fun p s'=>s'={ s with heap:=((s.heap.update a (Obj.mapSeq fun _=>(#[]:Array Value))).push (seqObj "tuple" vs.toArray 0)).push (seqObj "list" #[] 0) }/\PN vs.length p/\Srt lt p vs.length)
    {s with heap:=((s.heap.update a (Obj.mapSeq fun _=>(#[]:Array Value))).push (seqObj "tuple" vs.toArray 0)).push (seqObj "list" #[] 0) } :=
   zmX (I:=fun s'=>s'={ s with heap:=((s.heap.update a (Obj.mapSeq fun _=>(#[]:Array Value))).push (seqObj "tuple" vs.toArray 0)).push (seqObj "list" #[] 0) })
    (fun i j C s' hi hj hne e hC=>by subst e;exact sq.ask A _ kk i j hi hj hne C (hC _ rfl)) (fun p s' hp e=>⟨e,hp.1,hp.2⟩) _ _ (zgj O (n:=vs.length) (by omega)) rfl
  refine wpAny_bind (wpAny_mono (PySem.W.kat_run (Q:=fun st' s'=>∃p:Array Nat,arrOf st'=p.map (PySem.W.kas_item (vs.toArray.zip vs.toArray))/\failedOf st'=none/\(s'={ s with heap:=((s.heap.update a (Obj.mapSeq fun _=>(#[]:Array Value))).push (seqObj "tuple" vs.toArray 0)).push (seqObj "list" #[] 0) }/\PN vs.length p/\Srt lt p vs.length))
   rfl hl2 h64 (fun p' st' s' a1 a2 a3 a4=>⟨p',a2,a3,a4⟩) ask) ?_ fun _ _ e=>e)
  rintro⟨⟨⟩,st'⟩ s' ⟨p,har,hf,rfl,hp,hs⟩;dsimp only;have hout:=PySem.W.kat_snds rfl har;have hz2:(List.toArray (p.toList.map fun i=>vs.getD i Value.none)).size=vs.length:=by rw[List.size_toArray,List.length_map,Array.length_toList,hp.sz]
  rw[hout];refine wpAny_bind (seqEpoch_at ho6 rfl ?_);refine wpAny_bind (listUpdate_at ho6 rfl ?_ (Nat.zero_le _) (by rw[hz2,sizeLine_eq];omega));rw[hf];simp only[bne_self_eq_false,Bool.false_eq_true,if_false];exact wpAny_pure (h p hp hs)
theorem zgs{l:Addr}{vs:List Value}{Q:List Value->Shared->Prop}(hl:IsTup s.heap l vs.toArray)
  (h:Q vs { s with heap:=(s.heap.push (seqObj "list" #[] 0)).update s.heap.objs.size (Obj.mapSeq (·++ vs.toArray)) })(hsz:vs.length<=sizeLine) :
  wpAny (model prog w) A (collect (.ref l)) Q E s:=by
 obtain⟨o,ho,hc,n,hd⟩:=id hl;unfold collect;refine wpAny_bind (wpAny_runValue (codeAny_builtin entry_proto_collect' ?_));show wpAny _ _ (do again (.builtin "list.__iadd__" ⟨[<- newList [], .ref l],[]⟩)) _ _ s;refine wpAny_bind (wpAny_newList (wpAny_pure ⟨Code.quiet_builtin _ (by decide+kernel),codeAny_builtin entry_list_iadd' ?_⟩) (Nat.zero_le _));show wpAny _ _ (Builtin.List.listExtendWith (.ref s.heap.objs.size) (.ref l) (.ref s.heap.objs.size)) _ _ { s with heap:=s.heap.push (seqObj "list" #[] 0) };unfold Builtin.List.listExtendWith;have ho':(s.heap.push (seqObj "list" #[] 0)).get? l=some o:=Heap.get?_push_of_some _ ho;refine wpAny_bind (wpAny_typeOf (T:="tuple") ⟨o,ho',hc⟩ ?_);have ht:(Value.type "tuple"==Value.type "tuple")=true:=by rfl
 rw[if_pos (by rw[ht];simp)];refine wpAny_bind (listItems_at ho' hd ?_);refine wpAny_bind (listItems_at (xs:= #[]) (n:=0) (Heap.get?_push_size _ rfl) rfl ?_);rw[if_neg (by simp)];refine wpAny_bind (listUpdate_at (xs:= #[]) (n:=0) (Heap.get?_push_size _ rfl) rfl ?_ (Nat.zero_le _) (by show(#[]++vs.toArray).size<=sizeLine+1;simp only[Array.size_append,List.size_toArray,List.length_nil];omega));refine wpAny_pure ?_;show wpAny (model prog w) A (do
   let o<-load s.heap.objs.size
   match o.data with
   | .seq xs _=>pure xs.toList
   | _=>unsupported "internal:collect") Q E { s with heap:=(s.heap.push (seqObj "list" #[] 0)).update s.heap.objs.size (Obj.mapSeq (·++ vs.toArray)) }
 refine wpAny_bind (wpAny_load (get?_update_seq (Heap.get?_push_size _ rfl) _) ?_);show wpAny _ _ (pure ((#[]:Array Value)++vs.toArray).toList) Q E _;rw[show((#[]:Array Value)++vs.toArray).toList=vs by simp];exact wpAny_pure h
theorem zms{l:Addr}{vs:List Value}{Q:Value->Shared->Prop}(hl:s.heap.IsList l vs.toArray\/IsTup s.heap l vs.toArray)(O:Ord lt)(sq:zuL prog w s.heap s vs κ lt)(h64:vs.length < 64)
  (h:∀(p:Array Nat),PN vs.length p->Srt lt p vs.length->Q (.ref (s.heap.objs.size+1)) { s with heap:=sortedAll s.heap vs (p.toList.map fun i=>vs.getD i .none).toArray }) :
  wpAny (model prog w) A (call (.builtin "sorted") [.ref l]) Q E s:=by
 refine Calls.call_function_entry kind_sorted plain_sorted entry_sorted (args_sorted1 _) ?_;unfold Builtin.«sorted»;refine wpAny_bind (m:=checkCount "sorted" 1 1 _) (wpAny_pure ?_);have g:∀{A':Around} {E':Value->Shared->Prop} (R:List Value->Shared->Prop),R vs { s with heap:=(s.heap.push (seqObj "list" #[] 0)).update s.heap.objs.size (Obj.mapSeq (·++ vs.toArray)) }->wpAny (model prog w) A' (collect (.ref l)) R E' s :=
  fun R r=>hl.elim (fun q=>collect_list q r (by rw[sizeLine_eq];omega)) fun q=>zgs q r (by rw[sizeLine_eq];omega)
 refine wpAny_bind (g _ ?_);refine wpAny_bind (wpAny_newList ?_ (by rw[sizeLine_eq];omega));have hsz:((s.heap.push (seqObj "list" #[] 0)).update s.heap.objs.size (Obj.mapSeq (·++ vs.toArray))).objs.size=s.heap.objs.size+1:=by
  rw[Heap.size_update,size_push']
 have hoL:(((s.heap.push (seqObj "list" #[] 0)).update s.heap.objs.size (Obj.mapSeq (·++ vs.toArray))).push (seqObj "list" vs.toArray 0)).get? (s.heap.objs.size+1)=some (seqObj "list" vs.toArray 0):=by
  rw[<- hsz];exact Heap.get?_push_size _ rfl
 have keep:Kept s.heap (((s.heap.push (seqObj "list" #[] 0)).update s.heap.objs.size (Obj.mapSeq (·++ vs.toArray))).push (seqObj "list" vs.toArray 0)):=fun b o q=>by
  have hlt:b < s.heap.objs.size:=Heap.lt_size q;rw[Heap.get?_push_ne _ _ _ (by rw[hsz];exact Nat.ne_of_lt (Nat.lt_succ_of_lt hlt)),Heap.get?_update_ne _ _ _ _ (Nat.ne_of_lt hlt),Heap.get?_push_ne _ _ _ (Nat.ne_of_lt hlt)];exact q
 show wpAny _ _ _ _ _ { s with heap:=((s.heap.push (seqObj "list" #[] 0)).update s.heap.objs.size (Obj.mapSeq (·++ vs.toArray))).push (seqObj "list" vs.toArray 0) };rw[hsz];refine wpAny_bind (wpAny_holding (wpAny_call_entry slot_list_sort ⟨_,hoL,rfl⟩ entry_list_sort
  (ziv (s:={ s with heap:=((s.heap.push (seqObj "list" #[] 0)).update s.heap.objs.size (Obj.mapSeq (·++ vs.toArray))).push (seqObj "list" vs.toArray 0) }) (h0:=s.heap) (κ:=κ) (lt:=lt) hoL keep (Heap.get?_none_of_le (Nat.le_succ _)) O ⟨sq.kind,sq.ask⟩ h64 fun p a1 a2=>⟨_,rfl,?_⟩) (args_list_sort _)))
 exact wpAny_pure ⟨_,rfl,h p a1 a2⟩
end
def sLt(a b:Str):Bool:=decide (a.cps.toList < b.cps.toList)
theorem zqk{a b:Str}(h:sLt a b=true):sLt b a=false:=by
 unfold sLt at *; rw[decide_eq_true_eq] at h;rw[decide_eq_false_iff_not];exact List.lt_asymm h
theorem zqp{a b c:Str}(h:sLt b a=false)(h':sLt c b=false):sLt c a=false:=by
 unfold sLt at *; rw[decide_eq_false_iff_not] at *;exact List.le_trans (show a.cps.toList<=b.cps.toList from h) h'
theorem zrj{a b:Str}(h:sLt a b=false)(h':sLt b a=false):a=b:=by
 unfold sLt at *; rw[decide_eq_false_iff_not] at *;have e:a.cps.toList=b.cps.toList:=List.le_antisymm (show a.cps.toList<=b.cps.toList from h') h;cases a;cases b;simp only[Str.mk.injEq];exact Array.toList_inj.mp e
def vLt:List V->List V->Option Bool
 | [],[]=>some false
 | [],_::_=>some true
 | _::_,[]=>some false
 | .str a::xs, .str b::ys=>if a=b then vLt xs ys else some (sLt a b)
 | .int a::xs, .int b::ys=>if a=b then vLt xs ys else some (decide (a < b))
 | _::_,_::_=>none
theorem zmV:∀{x y:List V},vLt x y=some true->vLt y x=some false
 | [],[],h=>by simp[vLt] at h
 | [],_::_,h=>rfl
 | _::_,[],h=>by simp[vLt] at h
 | u::x,v::y,h=>by
  cases u<;>cases v<;>first | (simp[vLt] at h;done) | skip
  case int a b =>
   unfold vLt at h ⊢;by_cases e:a=b
   .rw[if_pos e] at h;rw[if_pos e.symm];exact zmV h
   .rw[if_neg e] at h;rw[if_neg fun z=>e z.symm];have:a < b:=by simpa using h
    simp;omega
  case str a b =>
   unfold vLt at h ⊢;by_cases e:a=b
   .rw[if_pos e] at h;rw[if_pos e.symm];exact zmV h
   .rw[if_neg e] at h;rw[if_neg fun z=>e z.symm];rw[zqk (by simpa using h)]
theorem znj:∀{x y z:List V},vLt y x=some false->vLt z y=some false->vLt z x=some false
 | [],y,z,h,h'=>by
  cases z with
  | nil =>
   rfl
  | cons _ _=>rfl
 | u::x,[],z,h,h'=>by simp[vLt] at h
 | u::x,v::y,[],h,h'=>by simp[vLt] at h'
 | u::x,v::y,t::z,h,h'=>by
  cases u<;>cases v<;>first | (simp[vLt] at h;done) | skip
  case int a b =>
   cases t<;>first | (simp[vLt] at h';done) | skip
   rename_i c;unfold vLt at h h' ⊢;by_cases e:b=a
   .rw[if_pos e] at h;subst e;by_cases e2:c=b
    .rw[if_pos e2] at h' ⊢; exact znj h h'
    .rw[if_neg e2] at h' ⊢; exact h'
   .rw[if_neg e] at h;have h1:¬ b < a:=by simpa using h
    by_cases e2:c=b
    .subst e2;rw[if_neg e];exact h
    .rw[if_neg e2] at h';have h2:¬ c < b:=by simpa using h'
     rw[if_neg (by omega)];simp;omega
  case str a b =>
   cases t<;>first | (simp[vLt] at h';done) | skip
   rename_i c;unfold vLt at h h' ⊢;by_cases e:b=a
   .rw[if_pos e] at h;subst e;by_cases e2:c=b
    .rw[if_pos e2] at h' ⊢; exact znj h h'
    .rw[if_neg e2] at h' ⊢; exact h'
   .rw[if_neg e] at h;have h1:sLt b a=false:=by simpa using h
    by_cases e2:c=b
    .subst e2;rw[if_neg e];exact h
    .rw[if_neg e2] at h';have h2:sLt c b=false:=by simpa using h'
     have h3:=zqp h1 h2;have e3:c≠a:=fun z=>by
      subst z;exact e (zrj h1 h2)
     rw[if_neg e3,h3]
def vAt(rs:List (List V))(i j:Nat):Bool:=vLt (rs.getD i []) (rs.getD j [])==some true
theorem zsV{rs:List (List V)}(h:∀i j,i≠j->(vLt (rs.getD i []) (rs.getD j [])).isSome):Ord (vAt rs) where
 as:=fun a b e=>by
  have e':vLt (rs.getD a []) (rs.getD b [])=some true:=by simpa [vAt] using e
  show(_==_)=false;rw[zmV e'];rfl
 tr:=fun a b c e e'=>by
  by_cases hab:a=b
  .subst hab;exact e'
  .by_cases hbc:b=c
   .subst hbc;exact e
   .have f:∀{i j},i≠j->vAt rs i j=false->vLt (rs.getD i []) (rs.getD j [])=some false:=fun{i j} hij q=>by
     have s:=h i j hij;have q':(vLt (rs.getD i []) (rs.getD j [])==some true)=false:=q;cases z:vLt (rs.getD i []) (rs.getD j []) with
     | none=>rw[z] at s;cases s
     | some b=>cases b with
      | true=>rw[z] at q';exact absurd q' (by decide)
      | false=>rfl
    have r:=znj (f (fun z=>hab z.symm) e) (f (fun z=>hbc z.symm) e');show(_==_)=false;rw[r];rfl
section
variable{prog:Program}{w:World}{A:Around}{E:Value->Shared->Prop}{s:Shared}
theorem zkB{Q:Bool->Shared->Prop}{c:Bool}:∀{xs ys:List V} {us ws:List Value} {i:Nat} {fin:Bool},Vals xs us->Vals ys ws->fin=decide (xs.length < ys.length)->vLt xs ys=some c->Q c s ->
  PySem.W.KatLex prog w A true fin Q (us.zip ws) i s
 | [],[],_,_,i,fin, .nil, .nil,hf,h,q=>by
  simp[vLt] at h;subst h;subst hf;exact kat_nil q
 | [],_::_,_,_,i,fin, .nil, .cons _ _,hf,h,q=>by
  simp[vLt] at h;subst h;subst hf;exact kat_nil (by simpa using q)
 | _::_,[],_,_,i,fin, .cons _ _, .nil,hf,h,q=>by
  simp[vLt] at h;subst h;subst hf;exact kat_nil (by simpa using q)
 | u::x,v::y,_,_,i,fin, .cons a ta, .cons b tb,hf,h,q=>by
  cases u<;>cases v<;>first | (simp[vLt] at h;done) | skip
  case int m n =>
   obtain⟨t,rfl⟩:=a;obtain⟨t',rfl⟩:=b;unfold vLt at h;refine PySem.W.kat_cons (wpAny_eqBool_int ?_);by_cases e:m=n
   .rw[if_pos e] at h;rw[show(m==n)=true by simpa using e];exact PySem.W.kat_yes (zkB ta tb (by rw[hf];simp) h q)
   .rw[if_neg e] at h;rw[show(m==n)=false by simpa using e];have hc:decide (m < n)=c:=by simpa using h
    refine PySem.W.kat_no ?_;cases i with
    | zero=>exact oneLt_int (by rw[hc];exact q)
    | succ i=>exact PySem.W.kat_one _ _ (lt_int (show PySem.W.BoolBack Q (.bool _) s from by show Q _ s;rw[hc];exact q))
  case str m n =>
   obtain⟨t,rfl⟩:=a;obtain⟨t',rfl⟩:=b;unfold vLt at h;refine PySem.W.kat_cons (wpAny_eqBool_str ?_);by_cases e:m=n
   .rw[if_pos e] at h;rw[show decide (m=n)=true by simpa using e];exact PySem.W.kat_yes (zkB ta tb (by rw[hf];simp) h q)
   .rw[if_neg e] at h;rw[show decide (m=n)=false by simpa using e];have hc:decide (m.cps.toList < n.cps.toList)=c:=by simpa [sLt] using h
    refine PySem.W.kat_no ?_;cases i with
    | zero=>exact oneLt_str (by rw[hc];exact q)
    | succ i=>exact PySem.W.kat_one _ _ (lt_str (show PySem.W.BoolBack Q (.bool _) s from by show Q _ s;rw[hc];exact q))
end
def Fst(rs:List (List V)):Prop:=(∀r∈rs,∃x t,r= .str x::t)\/(∀r∈rs,∃x t,r= .int x::t)
def zk7(K:Frag)(H:Hp):List Addr->List (List V)->Prop:=Paired fun a ys=>SqT K H a ys
section
variable{X:Cx}{pins:List (Addr×Obj)}{σ:St}{H:Hp}{s:Shared}
theorem zjx{h':Heap}(k:Kept s.heap h')(I:Inv X pins σ H s){T:String}:∀{as:List Addr} {rs:List (List V)},zk7 X.K H as rs->(∀r∈rs,∃x t,r=x::t/\∀u,RelV x u->(typeOf u=(pure (.type T):Sem Value))) ->
  ∃fs,PySem.W.KatTups h' (as.map Value.ref) fs/\fs.length=as.length/\∀v∈fs,typeOf v=(pure (.type T):Sem Value)
 | _,_, .nil,_=>⟨[], .nil,rfl,fun _ h=>by cases h⟩
 | a::as,ys::rs, .cons q t,f=>by
  obtain⟨x,r,rfl,hx⟩:=f _ (.head _);obtain⟨its,v,⟨o,ho,hc,n,hd⟩,_⟩:=I.tuple q;obtain⟨fs,h1,h2,h3⟩:=zjx k I t fun r hr=>f r (.tail _ hr)
  cases v with
  | cons a1 a2 =>
   rename_i u us;refine⟨u::fs, .cons (k _ _ ho) hc hd (by simp) h1,by simp[h2],fun v hv=>?_⟩;rcases List.mem_cons.mp hv with rfl | hv
   .exact hx _ a1
   .exact h3 _ hv
theorem zl0{as:List Addr}{rs:List (List V)}{i:Nat}:zk7 X.K H as rs->i < as.length->∃a ys,as[i]? = some a/\rs.getD i []=ys/\SqT X.K H a ys:=fun r hi=>by
 induction r generalizing i with
 | nil=>simp at hi
 | cons q t ih =>
  cases i with
  | zero=>exact⟨_,_,rfl,rfl,q⟩
  | succ i =>
   obtain⟨a,ys,e,e2,z⟩:=ih (i:=i) (by simpa using hi);exact⟨a,ys,by simpa using e,by simpa using e2,z⟩
end
section
variable{X:Cx}(K:Frag)
def zj1:List V->Hp->VK->Prop:=fun xs H Q=>∃p as rs,xs=[.ref p]/\(SqL K H p (as.map V.ref)\/SqT K H p (as.map V.ref))/\zk7 K H as rs/\as.length < 64/\Fst rs/\(∀i j,i≠j->(vLt (rs.getD i []) (rs.getD j [])).isSome) /\
 ∀(q:Array Nat) l,PN as.length q->Srt (vAt rs) q as.length->H l=none->Q (.ref l) (upd H l (.lst (q.toList.map fun i=>V.ref (as.getD i 0))))
theorem zfT:∀{as:List Addr} {us:List Value},Vals (as.map V.ref) us->us=as.map Value.ref
 | [],_,h=>by cases h;rfl
 | a::as,_,h=>by
  cases h with
  | cons a1 a2=>rw[show _=Value.ref a from a1,zfT a2];rfl
theorem ziT:∀(as:List Addr),Vals (as.map V.ref) (as.map Value.ref)
 | []=> .nil
 | a::as=> .cons rfl (ziT as)
theorem zna(h:X.K=K:=by rfl):zL X (.builtin "sorted") (zj1 K):=by
 subst h;intro pins s σ H xs us Q I r h;obtain⟨p,as,rs,rfl,hl,hr,hz,hF,hS,q⟩:=h;obtain⟨u,rfl,rx⟩:=vals1 r;cases rx;have hv:s.heap.IsList p (as.map Value.ref).toArray\/IsTup s.heap p (as.map Value.ref).toArray:=by
  rcases hl with hl | hl
  .obtain⟨its,r',pl,_⟩:=I.list hl;rw[zfT r'] at pl;exact .inl pl.isList
  .obtain⟨its,r',pl,_⟩:=I.tuple hl;rw[zfT r'] at pl;exact .inr pl
 have hlen:(as.map Value.ref).length=as.length:=List.length_map ..;have tT:∃T:String,(Value.type T !=Value.type "tuple")=true/\(Value.type T==Value.type T)=true/\∀r∈rs,∃x t,r=x::t/\∀u,RelV x u->(typeOf u=(pure (.type T):Sem Value)):=by
  rcases hF with hF | hF
  .refine⟨"str",by decide,by decide,fun r hr=>?_⟩;obtain⟨x,t,rfl⟩:=hF r hr;exact⟨_,t,rfl,fun u hu=>by obtain⟨t,rfl⟩:=hu;rfl⟩
  .refine⟨"int",by decide,by decide,fun r hr=>?_⟩;obtain⟨x,t,rfl⟩:=hF r hr;exact⟨_,t,rfl,fun u hu=>by obtain⟨t,rfl⟩:=hu;rfl⟩
 obtain⟨T,hT1,hT2,hT3⟩:=tT;refine zms (κ:=tuples' true) (lt:=vAt rs) hv (zsV hS) ⟨fun A h' k h2 Q E hq=>?_,fun A h' k i j hi hj hij C hC=>?_⟩ (by rw[hlen];exact hz) fun p' h1 h2=>?_
 .obtain⟨fs,f1,f2,f3⟩:=zjx k I hr hT3;refine PySem.W.kat_kind f1 (by rw[f2];rw[hlen] at h2;omega) (fun v hv=>PySem.W.Looks.of_pure (f3 v hv)) hT2 ?_;rw[hT1];exact hq
 .rw[hlen] at hi hj;obtain⟨a,ys,e1,e2,z⟩:=zl0 hr hi;obtain⟨b,zs,e3,e4,z'⟩:=zl0 hr hj;obtain⟨its,v,⟨o,ho,hc,n,hd⟩,_⟩:=I.tuple z;obtain⟨its',v',⟨o',ho',hc',n',hd'⟩,_⟩:=I.tuple z';rw[show(as.map Value.ref).getD i .none= .ref a by simp[e1],show(as.map Value.ref).getD j .none= .ref b by simp[e3]];refine PySem.W.kat_lt (s:={ s with heap:=h' }) (k _ _ ho) hd (k _ _ ho') hd' ?_;have hs:=hS i j hij;have hval:vLt ys zs=some (vAt rs i j):=by
   unfold vAt;rw[e2,e4] at hs ⊢;cases w:vLt ys zs with
   | none=>rw[w] at hs;cases hs
   | some b=>cases b<;>rfl
  exact zkB (xs:=ys) (ys:=zs) (by simpa using v) (by simpa using v') (by simp[v.length,v'.length]) hval hC
 .rw[hlen] at h1 h2;obtain⟨e,he⟩:=sortedAll_at s.heap (as.map Value.ref) (p'.toList.map fun i=>(as.map Value.ref).getD i .none).toArray;have hf:H (s.heap.objs.size+1)=none:=I.hok.fresh (Nat.le_succ _);have hout:(p'.toList.map fun i=>(as.map Value.ref).getD i .none)=(p'.toList.map fun i=>as.getD i 0).map Value.ref:=by
   rw[List.map_map];refine List.map_congr_left fun i hi=>?_
   have hi':i < as.length:=List.mem_range.mp (h1.mem_iff.mp hi);simp[hi']
  refine⟨.ref (s.heap.objs.size+1),_,I.laid (a:=s.heap.objs.size+1) (o:= .lst (p'.toList.map fun i=>V.ref (as.getD i 0))) (t':=s.toks) (fun b o e=>sortedAll_old e) (Nat.le_succ _) ?_,rfl,q p' _ h1 h2 hf⟩;refine⟨by rw[List.length_map,Array.length_toList,h1.sz];exact Nat.le_trans (Nat.le_of_lt hz) (by decide),(p'.toList.map fun i=>as.getD i 0).map Value.ref,e,?_,?_⟩
  .have:=ziT (p'.toList.map fun i=>as.getD i 0);rw[List.map_map] at this;exact this
  .rw[he,hout]
end
def zcX:List D->List D->Option Bool
 | [],[]=>some false
 | [],_::_=>some true
 | _::_,[]=>some false
 | .str a::xs, .str b::ys=>if a=b then zcX xs ys else some (sLt a b)
 | .int a::xs, .int b::ys=>if a=b then zcX xs ys else some (decide (a < b))
 | _::_,_::_=>none
section
variable{K:Frag}{W:Wd}
theorem zff{c:Bool}:∀{ds es:List D} {xs ys:List V},zr K W ds xs->zr K W es ys->zcX ds es=some c->vLt xs ys=some c
 | [],[],_,_,a,b,h=>by rw[a.nil',b.nil'];simp[zcX] at h;subst h;rfl
 | [],_::_,_,_,a,b,h=>by obtain⟨y,r,rfl,_⟩:=b.uncons;rw[a.nil'];simp[zcX] at h;subst h;rfl
 | _::_,[],_,_,a,b,h=>by obtain⟨y,r,rfl,_⟩:=a.uncons;rw[b.nil'];simp[zcX] at h;subst h;rfl
 | d::ds,e::es,_,_,a,b,h=>by
  obtain⟨x,xs,rfl,qx,a'⟩:=a.uncons;obtain⟨y,ys,rfl,qy,b'⟩:=b.uncons;cases d<;>cases e<;>first | (simp[zcX] at h;done) | skip
  case int m n =>
   rw[qx.i',qy.i'];unfold zcX at h;unfold vLt;by_cases z:m=n
   .rw[if_pos z] at h ⊢; exact zff a' b' h
   .rw[if_neg z] at h ⊢; exact h
  case str m n =>
   rw[qx.s',qy.s'];unfold zcX at h;unfold vLt;by_cases z:m=n
   .rw[if_pos z] at h ⊢; exact zff a' b' h
   .rw[if_neg z] at h ⊢; exact h
theorem zlo:∀{rows:List (List D)} {xs:List V},zr K W (rows.map D.tup) xs->∃as rs,xs=as.map V.ref/\zk7 K W.F as rs/\Paired (fun ds ys=>zr K W ds ys) rows rs
 | [],_,h=>⟨[],[],by rw[h.nil'];rfl, .nil, .nil⟩
 | _::_,_,h=>by
  obtain⟨x,r,rfl,q,z⟩:=h.uncons;obtain⟨a,ys,rfl,e,q⟩:=q.tup';obtain⟨as,rs,rfl,h1,h2⟩:=zlo z;exact⟨a::as,ys::rs,rfl, .cons e h1, .cons q h2⟩
theorem zti{i:Nat}:∀{rows:List (List D)} {as:List Addr} {rs:List (List V)},zk7 K W.F as rs->Paired (fun ds ys=>zr K W ds ys) rows rs->i < as.length ->
  ∃a,as.getD i 0=a/\SqT K W.F a (rs.getD i [])/\zr K W (rows.getD i []) (rs.getD i []):=fun{rows as rs} h g hi=>by
 induction h generalizing i rows with
 | nil=>simp at hi
 | cons q t ih =>
  cases g with
  | cons g1 g2 =>
   cases i with
   | zero=>exact⟨_,rfl,q,g1⟩
   | succ i=>obtain⟨a,e1,e2,e3⟩:=ih g2 (i:=i) (by simpa using hi);exact⟨a,by simpa using e1,by simpa using e2,by simpa using e3⟩
theorem zfB:∀{rows:List (List D)} {rs:List (List V)},Paired (fun ds ys=>zr K W ds ys) rows rs->∀i,zr K W (rows.getD i []) (rs.getD i []):=fun{rows rs} g=>by
 induction g with
 | nil=>intro i;simp[zr.nil]
 | cons g1 _ ih =>
  intro i;cases i with
  | zero=>exact g1
  | succ i=>simpa using ih i
end
def zwx(rs:List (List D)):Prop:=(∀r∈rs,∃x t,r= .str x::t)\/(∀r∈rs,∃x t,r= .int x::t)
theorem zs5{K:Frag}{W:Wd}:∀{rows:List (List D)} {rs:List (List V)},Paired (fun ds ys=>zr K W ds ys) rows rs->zwx rows->Fst rs:=fun{rows rs} g h=>by
 rcases h with h | h
 .refine .inl ?_;induction g with
  | nil=>intro r hr;cases hr
  | cons g1 _ ih =>
   intro r hr;rcases List.mem_cons.mp hr with rfl | hr
   .obtain⟨x,t,rfl⟩:=h _ (.head _);obtain⟨y,s,rfl,q,_⟩:=g1.uncons;exact⟨x,s,by rw[q.s']⟩
   .exact ih (fun r hr=>h r (.tail _ hr)) r hr
 .refine .inr ?_;induction g with
  | nil=>intro r hr;cases hr
  | cons g1 _ ih =>
   intro r hr;rcases List.mem_cons.mp hr with rfl | hr
   .obtain⟨x,t,rfl⟩:=h _ (.head _);obtain⟨y,s,rfl,q,_⟩:=g1.uncons;exact⟨x,s,by rw[q.i']⟩
   .exact ih (fun r hr=>h r (.tail _ hr)) r hr
def rLe(a b:List D):Prop:=zcX b a≠some true
def zjX:DRs:=fun ds μ Q=>match ds with
 | [d]=>∃rows:List (List D),(zO μ d=some (rows.map D.tup)\/d= .tup (rows.map D.tup))/\rows.length < 64/\zwx rows/\(∀i j,i≠j->(zcX (rows.getD i []) (rows.getD j [])).isSome) /\
   ∀rows',List.Perm rows' rows->List.Pairwise rLe rows'->Q (.lst (rows'.map D.tup)) μ
 | _=>False
instance{K:Frag}{fl:Wd}:zbg K fl (zj1 K) zjX:=⟨fun{W μ H ds xs Q Q'} r z h k=>by
 unfold zjX at h;split at h
 .obtain⟨x,rfl,q⟩:=z.one;obtain⟨rows,hl,hz,hF,hS,h⟩:=h;have hx:∃p xs,x= .ref p/\(SqL K H p xs\/SqT K H p xs)/\zr K W (rows.map D.tup) xs:=by
   rcases hl with hl | rfl
   .obtain⟨a,xs,rfl,e1,z1⟩:=zau r q hl;exact⟨a,xs,rfl, .inl (SqL.of e1),z1⟩
   .obtain⟨a,xs,rfl,e1,z1⟩:=q.tup';exact⟨a,xs,rfl, .inr (e1.sm r.sub),z1⟩
  obtain⟨p,xs,rfl,hp,z1⟩:=hx;obtain⟨as,rs,rfl,g1,g2⟩:=zlo z1;have la:as.length=rows.length:=by have a:=Paired.length g1;have b:=Paired.length g2;omega
  have iSm:∀{o:Option Bool},o.isSome->∃c,o=some c:=fun{o} h=>by cases o with
   | none=>cases h
   | some c=>exact⟨c,rfl⟩
  refine⟨p,as,rs,rfl,hp,Paired.mapP g1 fun a ys e=>e.sm r.sub,by omega,zs5 g2 hF,fun i j hij=>?_,fun qq l h1 h2 hl=>?_⟩
  .obtain⟨c,hc⟩:=iSm (hS i j hij);rw[zff (zfB g2 i) (zfB g2 j) hc];rfl
  .have mem:∀i∈qq.toList,i < as.length:=fun i hi=>List.mem_range.mp (h1.mem_iff.mp hi)
   obtain⟨r2,le2⟩:=r.newF (o:= .lst (qq.toList.map fun i=>V.ref (as.getD i 0))) hl;refine k _ (.lst ((qq.toList.map fun i=>rows.getD i []).map D.tup)) _ _ _ le2 r2 (.lst zq ?_) (h _ ?_ ?_)
   .have go:∀l:List Nat,(∀i∈l,i < as.length)->zr K W ((l.map fun i=>rows.getD i []).map D.tup) (l.map fun i=>V.ref (as.getD i 0)):=fun l=>by
     induction l with
     | nil=>intro _;exact .nil
     | cons i l ih =>
      intro hm;obtain⟨a,e1,e2,e3⟩:=zti g1 g2 (hm i (.head _));refine .cons ?_ (ih fun j hj=>hm j (.tail _ hj));dsimp only;rw[e1];exact .tup e2 e3
    exact(go _ mem).mono le2
   .have e:rows=(List.range as.length).map fun i=>rows.getD i []:=by
     apply List.ext_getElem?;intro i;rw[la];by_cases hi:i < rows.length
     .simp[hi]
     .simp[hi,Nat.le_of_not_lt hi]
    have h1':List.Perm (qq.toList.map fun i=>rows.getD i []) ((List.range as.length).map fun i=>rows.getD i []):=h1.map _;rw[<- e] at h1';exact h1'
   .rw[List.pairwise_map,List.pairwise_iff_getElem];intro i j hi hj hij;have hn:qq.toList.length=as.length:=by rw[Array.length_toList,h1.sz]
    have gi:gN qq i=qq.toList[i]:=(by
     have z:i < qq.size:=(by simpa using hi);show qq.getD i 0=_;simp[Array.getD,z])
    have gj:gN qq j=qq.toList[j]:=(by
     have z:j < qq.size:=(by simpa using hj);show qq.getD j 0=_;simp[Array.getD,z])
    have:=h2 i j hij (by omega);rw[gi,gj] at this;intro hd;unfold vAt at this;rw[zff (zfB g2 _) (zfB g2 _) hd] at this;exact absurd this (by decide)
 .exact h.elim⟩
def zqh(K:Frag):List V->Hp->VK->Prop:=fun xs H Q=>zkP K xs H Q\/zj1 K xs H Q
theorem zeS{X:Cx}(K:Frag)(h:X.K=K:=by rfl)(hc:X.calm=true:=by rfl):zL X (.builtin "sorted") (zqh K):=(zmk K h hc).or (zna K h)
def zeI:DRs:=fun ds μ Q=>zmO ds μ Q\/zjX ds μ Q
instance{K:Frag}{fl:Wd}:zbg K fl (zqh K) zeI:=⟨fun{W μ H ds xs Q Q'} r z h k=>by
 rcases h with h | h
 .exact .inl (zbg.run (K:=K) (r:=zkP K) (q:=zmO) r z h k)
 .exact .inr (zbg.run (K:=K) (r:=zj1 K) (q:=zjX) r z h k)⟩
theorem zim{rows:List (List D)}{d:D}{μ:Mu}{Q:DK}(hl:zO μ d=some (rows.map D.tup)\/d= .tup (rows.map D.tup))(hz:rows.length < 64)(hF:zwx rows)(hS:∀i j,i≠j->(zcX (rows.getD i []) (rows.getD j [])).isSome)(h:∀rows',List.Perm rows' rows->List.Pairwise rLe rows'->Q (.lst (rows'.map D.tup)) μ):zeI [d] μ Q:= .inr ⟨rows,hl,hz,hF,hS,h⟩
abbrev zaO:=List Key
instance decKeyT(k:zaO)(ks:List zaO):Decidable (k∈ks):=@List.instDecidableMemOfLawfulBEq zaO instBEqOfDecidableEq inferInstance k ks
def zek:List D->Option zaO
 | []=>some []
 | d::r=>match zvL d,zek r with
  | some k,some ks=>some (k::ks)
  | _,_=>none
def zcc:List zaO->List D->zaO->Option D
 | k::ks,v::vs,q=>if k=q then some v else zcc ks vs q
 | _,_,_=>none
def zfi(ks:List zaO)(k:zaO):List zaO:=if k∈ks then ks else ks++[k]
def zhZ(ks:List zaO)(vs:List D)(k:zaO)(v:D):List D:=if k∈ks then List.zipWith (fun k' v'=>if k'=k then v else v') ks vs else vs++[v]
def zpu(c:Option Ct)(R:List zaO->List D->Prop):Prop:=match c with
 | some (.dtt ks vs)=>R ks vs
 | _=>False
def zqD(μ:Mu)(d:D)(R:List zaO->List D->Prop):Prop:=match d with
 | .cell k=>zpu (μ k) R
 | .dtt ks vs=>R ks vs
 | _=>False
theorem zpK{ks:List zaO}{vs:List D}{R:List zaO->List D->Prop}:zpu (some (.dtt ks vs)) R=R ks vs:=rfl
theorem zwp{μ:Mu}{k:Nat}{R:List zaO->List D->Prop}:zqD μ (.cell k) R=zpu (μ k) R:=rfl
def zsH(wo:DE)(w:DA)(wv:DE):DS:=fun D' ρ μ=>wv ρ μ fun v μ1=>wo ρ μ1 fun d μ2=>w ρ μ2 fun ds μ3=>ds.length<=1000/\zbb (match d with | .cell c=>some c | _=>none) fun c=>zpu (μ3 c) fun ks vs=>zbb (zek ds) fun k=>ks.length<=1000/\D'.nx ρ (zH μ3 c (.dtt (zfi ks k) (zhZ ks vs k v)))
def zsa:DE:=fun _ μ Q=>∀k,μ k=none->Q (.cell k) (zH μ k (.dtt [] []))
section
variable{K:Frag}{fl:Wd}{W:Wd}
theorem zk9{k:zaO}:∀{ds:List D} {xs:List V},zr K W ds xs->zek ds=some k->xs=k.map kV:=fun{ds}=>by
 induction ds generalizing k with
 | nil=>intro xs r h;unfold zek at h;cases h;exact r.nil'
 | cons d t ih =>
  intro xs r h;obtain⟨x,xs',rfl,q,r⟩:=r.uncons;unfold zek at h;split at h
  .rename_i k0 ks e1 e2;cases h;rw[zsY q e1,ih r e2];rfl
  .cases h
theorem zfV{k:zaO}:∀{ks:List zaO} {vs:List D} {xs:List V},ks.length=xs.length->zr K W vs xs->(∀v,zcc ks vs k=some v->∃y,zee (ks.zip xs) k=some y/\Rep K W v y)/\(zcc ks vs k=none->zee (ks.zip xs) k=none)
 | [],vs,xs,_,_=>⟨fun v h=>by cases vs<;>simp[zcc] at h,fun _=>rfl⟩
 | q::ks,[],xs,h,r=>by rw[r.nil'] at h;simp at h
 | q::ks,d::vs,xs,h,r=>by
  obtain⟨x,t,rfl,q1,q2⟩:=r.uncons;have ih:=zfV (k:=k) (ks:=ks) (vs:=vs) (xs:=t) (by simpa using h) q2;by_cases e:q=k
  .have hv:zee ((q::ks).zip (x::t)) k=some x:=by rw[List.zip_cons_cons];exact zft (p:=(q,x)) e
   rw[hv];exact⟨fun v hl=>by rw[zcc,if_pos e] at hl;cases hl;exact⟨x,rfl,q1⟩,fun hl=>by rw[zcc,if_pos e] at hl;cases hl⟩
  .have hv:zee ((q::ks).zip (x::t)) k=zee (ks.zip t) k:=by rw[List.zip_cons_cons];exact zfb (p:=(q,x)) e
   rw[hv,zcc,if_neg e];exact ih
theorem zkY{k:zaO}:∀{ks:List zaO} {xs:List V},ks.length=xs.length->((ks.zip xs).any fun kv=>decide (kv.1=k))=decide (k∈ks)
 | [],_,_=>by simp
 | q::ks,[],h=>by simp at h
 | q::ks,x::xs,h=>by
  have ih:=zkY (k:=k) (ks:=ks) (xs:=xs) (by simpa using h);rw[List.zip_cons_cons,List.any_cons,ih];by_cases e:q=k
  .simp[e]
  .have e':¬ k=q:=fun z=>e z.symm
   simp[e,e']
theorem zrN{k:zaO}{y:V}{v:D}{ks:List zaO}{vs:List D}{xs:List V}(h:ks.length=xs.length)(r:zr K W vs xs)(q:Rep K W v y):∃xs',putK (ks.zip xs) k y=(zfi ks k).zip xs'/\(zfi ks k).length=xs'.length/\zr K W (zhZ ks vs k v) xs':=by
 unfold putK zfi zhZ;rw[zkY h];by_cases m:k∈ks
 .rw[if_pos (decide_eq_true m),if_pos m,if_pos m];clear m;induction ks generalizing vs xs with
  | nil=>exact⟨[],rfl,rfl,by simp[zr.nil]⟩
  | cons a ks ih =>
   cases xs with
   | nil=>simp at h
   | cons x xs =>
    cases vs with
    | nil=>rw[r.nil'] at h;simp at h
    | cons d vs =>
     obtain⟨x',t,e,q1,q2⟩:=r.uncons;cases e;obtain⟨xs',e1,e2,e3⟩:=ih (by simpa using h) q2;refine⟨(if a=k then y else x)::xs',?_,by simp[e2],?_⟩
     .rw[List.zip_cons_cons,List.map_cons,e1];by_cases e:a=k
      .simp[e]
      .simp[e]
     .rw[List.zipWith_cons_cons];refine .cons ?_ e3;by_cases e:a=k
      .simp only[if_pos e];exact q
      .simp only[if_neg e];exact q1
 .rw[if_neg (by simpa using m),if_neg m,if_neg m];refine⟨xs++[y],?_,by simp[h],r.append (.cons q .nil)⟩;rw[List.zip_append h];rfl
theorem zk4{μ:Mu}{H:Hp}{d:D}{x:V}{R:List zaO->List D->Prop}(r:Rel K fl W μ H)(q:Rep K W d x)(h:zqD μ d R):∃a ks vs xs,x= .ref a/\H a=some (.dT (ks.zip xs))/\ks.length=xs.length/\zr K W vs xs/\R ks vs:=by
 unfold zqD at h;split at h
 .rename_i k;obtain⟨a,rfl,hb⟩:=q.cell';unfold zpu at h;split at h
  .rename_i ks vs hk;obtain⟨a',e1,e2,xs,e3,l,z⟩:=r.cel k _ hk;rw[hb] at e1;cases e1;exact⟨a,ks,vs,xs,rfl,e3,l,z,h⟩
  .exact h.elim
 .unfold Rep at q;obtain⟨a,xs,rfl,e,l,z⟩:=q;exact⟨a,_,_,xs,rfl,r.sub _ _ e,l,z,h⟩
 .exact h.elim
theorem zn0{μ:Mu}{H:Hp}{p:Addr}{xs:List V}{ds:List D}{k:zaO}(r:Rel K fl W μ H)(q:zr K W ds xs)(hp:H p=none)(hk:zek ds=some k):∃W',W.le W'/\Rel K fl W' μ (upd H p (.tup xs))/\(upd H p (.tup xs)) p=some (.tup (k.map kV)):=by
 obtain⟨r2,le2⟩:=r.newF (o:= .tup xs) hp;exact⟨_,le2,r2,by rw[zq,zk9 q hk]⟩
instance:zN K fl (zlr zmM) zsa:=⟨fun{W ρ μ σ H Q Q'} r e h k p hp=>by
 obtain⟨c,W',hc,le,r',eb⟩:=r.newC (o:= .dT []) (c:= .dtt [] []) hp ⟨[],rfl,rfl, .nil⟩;exact k W' (.cell c) _ _ _ le r' (by unfold Rep;exact⟨p,rfl,eb⟩) (h c hc)⟩
instance{ta tv:TE}{t:TA}{wa wv:DE}{w:DA}[a:zN K fl ta wa][b:zbR K fl t w][c:zN K fl tv wv]:zdb K fl (zp9 ta (zpw t) tv) (zsH wa w wv):=⟨fun{W ρ μ σ H D' D} r e h k=>c.run r e h fun W1 v μ1 x H1 le1 r1 q1 h1=>a.run r1 (e.mono le1) h1 fun W2 d2 μ2 y H2 le2 r2 q2 h2=>b.run r2 (e.mono (le1.trans le2)) h2 fun W3 ds μ3 ys H3 le3 r3 q3 h3=>by
 have hz:(1001:Nat)<=sizeLine:=by decide
 obtain⟨hzs,h3⟩:=h3;obtain⟨cc,ec,h4⟩:=zcW h3;have ed:d2= .cell cc:=by
  cases d2<;>simp at ec
  subst ec;rfl
 subst ed;refine⟨by rw[q3.length];exact Nat.le_trans hzs (by decide),fun p hp=>?_⟩;unfold zpu at h4;split at h4
 .rename_i ks vs hk;obtain⟨kk,ek,hl,h5⟩:=zcW h4;obtain⟨W4,le4,r4,ep⟩:=zn0 r3 q3 hp ek;obtain⟨p2,rfl,hb⟩:=(q2.mono (le3.trans le4)).cell';obtain⟨a',e1,e2,xs,e3,l,z⟩:=r4.cel cc _ hk;rw[hb] at e1;cases e1;obtain⟨xs',p1,p2',p3⟩:=zrN (k:=kk) l z (q1.mono (le2.trans (le3.trans le4)));refine⟨p2,_,rfl,zqa.t e3 ep (by rw[List.length_zip,<- l,Nat.min_self];omega),?_⟩;rw[p1];have leA:=le1.trans (le2.trans (le3.trans le4));exact k.nx W4 ρ _ σ _ leA (r4.setC (c':= .dtt (zfi ks kk) (zhZ ks vs kk v)) hk hb ⟨xs',rfl,p2',p3⟩) (e.mono leA) h5
 .exact h4.elim⟩
end
section
variable{K:Frag}{fl:Wd}{t:TA}{tv:TE}{w:DA}{wv:DE}{tc:TT}{wc:DT}{wi:TI}{di:DI}{g:TG}{dg:DG}{S:List Nat}
end
section
variable{prog:Program}{w:World}{A:Around}{R:Result->Shared->Prop}{I:Addr}{fp wr:List Addr}{n:Nat}{P:Nat->Value->Prop}{St:Nat->Heap->Prop}{h0:Heap}
end
section
variable{prog:Program}{w:World}{A:Around}{E:Value->Shared->Prop}{s:Shared}
end
section
variable{X:Cx}(K:Frag)
end
abbrev EmT:=St->Hp->List V->(List V->Hp->Prop)->Prop
def zs1(te:TE):EmT:=fun σ H ys Q=>ys.length < sizeLine/\te σ H fun v H5=>Q (ys++[v]) H5
def zii(J:It)(g:TG)(tc:TT)(tem:EmT)(σb:St)(Fin:List V->Hp->Prop)(W:Nat->Nat->List V->Hp->Prop):Prop :=
 ∀i m ys H,W i m ys H->(J.stop i H/\Fin ys H)\/(J.go i H/\∃N:List V->Hp->Prop,(∀ys' H',N ys' H'->∃m',m' < m/\W (i+1) m' ys' H')/\∀x H',J.yld i H x H'->g x σb H' fun σ2 H3=>Sub σb σ2/\tc σ2 H3 fun b H4 =>
  if b=true then tem σ2 H4 ys N else N ys H4)
def ztQ(wi:TI)(g:TG)(tc:TT)(tem:EmT):EmT:=fun σ H ys Q=>wi σ H fun J H1=>∃W:Nat->Nat->List V->Hp->Prop,(∃m,W 0 m ys H1)/\zii J g tc tem σ Q W
inductive Gens(Y:Cx)(elt:Expr):List Comprehension->EmT->Prop
 | nil {te:TE}:PE Y elt te->Gens Y elt [] (zs1 te)
 | cons {tg iter:Expr} {ifs:List Expr} {wi:TI} {g:TG} {tc:TT} {rest:List Comprehension} {tem:EmT}:PI Y tg iter wi->PG Y tg g->PTs Y ifs tc->(∀x,foldedSetIterable iter Y.env x=pure x)->Gens Y elt rest tem->Gens Y elt (⟨tg,iter,ifs,0⟩::rest) (ztQ wi g tc tem)
theorem zdE{prog:Program}{w:World}{A:Around}{R:Result->Shared->Prop}{s:Shared}{elt tg iter:Expr}{ifs:List Expr}{gens:List Comprehension}{scope:Scope}{pos:Pos}{d:Nat}{it acc:Value}{env:Env}(hd:gens[d]? = some ⟨tg,iter,ifs,0⟩)
  (h0:codeAny (model prog w) A (.compLoop (.ListComp elt gens scope pos) d it acc env) R s)
  (h:wpAny (model prog w) A (pyIter it) (fun it' s'=>codeAny (model prog w) A (.compLoop (.ListComp elt gens scope pos) d it' acc env) R s') (notedBy (model prog w) A env fun x s'=>R (.error x) s') s) :
  codeAny (model prog w) A (.compStart (.ListComp elt gens scope pos) d it acc env) R s:=by
 refine codeAny_of_tree ?_;show wpAny _ _ ((compStart (.ListComp elt gens scope pos) d it acc env).onRaise _) _ _ s;refine wpAny_notedAt ?_;unfold compStart;have e:(clausesOf (.ListComp elt gens scope pos))[d]? = some ⟨tg,iter,ifs,0⟩:=hd;rw[e];show wpAny _ _ (if ((0:Int) !=0)=true then _ else _) _ _ s;rw[if_neg (by decide)];refine wpAny_bind (wpAny_askSetting ?_);refine wpAny_ite ?_;by_cases hq:(({ program:=(model prog w).prog,params:=(model prog w).w.params }:PySem.Setting).params.followText "comprehension-iter-twice")=true
 .rw[if_pos hq];exact wpAny_bind (wpAny_pure (wpAny_pure ⟨rfl,h0⟩))
 .rw[if_neg hq];refine wpAny_bind (wpAny_rule (wpAny_bind (wpAny_standAt (wpAny_bind (wpAny_mono h (fun it' s' h'=>wpAny_pure ⟨rfl,h'⟩) fun _ _ h=>h)))))
def znr(elt:Expr)(gens:List Comprehension)(scope:Scope)(pos:Pos)(d:Nat)(acc:Value)(env:Env)(k:Sem PySem.Fin):Sem PySem.Fin:=match gens[d+1]? with
 | some g'=>do
  let x<-eval g'.iter env
  standAt g'.iter.pos
  if (g'.is_async !=0)=true then do
   let x<-foldedIterable g'.iter x
   let it'<-holding [x] (if (g'.is_async !=0)=true then asyncIter x else pyIter x)
   let _<-runOwn (Code.compStart (.ListComp elt gens scope pos) (d+1) it' acc env) env
   k
  else do
   let x<-foldedSetIterable g'.iter env x
   let it'<-holding [x] (if (g'.is_async !=0)=true then asyncIter x else pyIter x)
   let _<-runOwn (Code.compStart (.ListComp elt gens scope pos) (d+1) it' acc env) env
   k
 | none=>(do
   let v<-eval elt env
   let _<-call (.builtin "list.append") [acc,v]
   pure ():Sem Unit) >>= fun _=>k
section
variable{Y:Cx}{elt:Expr}{scope:Scope}{pos:Pos}{gens:List Comprehension}{D:Addr}{d:Nat}{tg iter:Expr}{ifs:List Expr}{g:TG}{tc:TT}{tem:EmT}{J:It}{fp:List Addr}{it:Addr}{tn:Nat->Heap->Prop}{P:List (Addr×Obj)}{σ:St}{Fin:List V->Hp->Prop}{W:Nat->Nat->List V->Hp->Prop}{m0:Nat}{R:Result->Shared->Prop}{s:Shared}{H:Hp}{ys:List V}{its:List Value}{n:Nat}
def zqY(Y:Cx)(elt:Expr)(gens:List Comprehension)(scope:Scope)(pos:Pos)(d:Nat)(D:Addr)(tem:EmT):Prop :=
 ∀(P:List (Addr×Obj)) (s:Shared) (σ:St) (H:Hp) (ys:List V) (its:List Value) (n:Nat) (N:List V->Hp->Prop) (k:Sem PySem.Fin) (Post:PySem.Fin->Shared->Prop) (E:Value->Shared->Prop),Inv Y ([(D,lobj its n)]++P) σ H s->(∀p∈P,p.1≠D)->Vals ys its->ys.length<=sizeLine->tem σ H ys N ->
  (∀s' ys' its' n' H',Inv Y ([(D,lobj its' n')]++P) σ H' s'->Vals ys' its'->ys'.length<=sizeLine->N ys' H'->wpAny (model Y.prog Y.w) Y.A k Post E s')->wpAny (model Y.prog Y.w) Y.A (znr elt gens scope pos d (.ref D) Y.env k) Post E s
theorem zoM{M:Model}{A:Around}{env:Env}{acc:Value}{k:Sem PySem.Fin}{Post:PySem.Fin->Shared->Prop}{E:Value->Shared->Prop}(h:wpAny M A (znr elt gens scope pos d acc env k) Post E s):wpAny M A (match gens[d+1]? with
  | some g'=>do
   let x<-eval g'.iter env
   standAt g'.iter.pos
   if (g'.is_async !=0)=true then do
    let x<-foldedIterable g'.iter x
    let it'<-holding [x] (if (g'.is_async !=0)=true then asyncIter x else pyIter x)
    let _<-runOwn (Code.compStart (.ListComp elt gens scope pos) (d+1) it' acc env) env
    k
   else do
    let x<-foldedSetIterable g'.iter env x
    let it'<-holding [x] (if (g'.is_async !=0)=true then asyncIter x else pyIter x)
    let _<-runOwn (Code.compStart (.ListComp elt gens scope pos) (d+1) it' acc env) env
    k
  | none=>(do
    let v<-eval elt env
    let _<-call (.builtin "list.append") [acc,v]
    pure ():Sem Unit) >>= fun _=>k) Post E s:=h
theorem zlQ(hc:Y.calm=true)(hxe:Y.xe=fun _ _=>False)(hE:zqY Y elt gens scope pos d D tem)
  (hd:gens[d]? = some ⟨tg,iter,ifs,0⟩)(hg:PG Y tg g)(ht:PTs Y ifs tc)(T:Turn Y.prog Y.w Y.K tg J fp it tn)
  (hP:∀p∈P,p.1≠D)(fpOk:∀(its:List Value) (n:Nat) (H':Hp) (s':Shared),Inv Y ([(D,lobj its n)]++P) σ H' s'->(∀b∈fp,H' b=none)->∀b∈fp,zfd Y ([(D,lobj its n)]++P) H' b)(fpD:∀b∈fp,b≠D)
  (turn:zii J g tc tem σ Fin W)(I:Inv Y ([(D,lobj its n)]++P) σ H s)(st:tn 0 s.heap)(fr:∀b∈fp,H b=none)(r:Vals ys its)(len:ys.length<=sizeLine)(w:W 0 m0 ys H)
  (hR:∀ys' its' n' H' s',Inv Y ([(D,lobj its' n')]++P) σ H' s'->Vals ys' its'->ys'.length<=sizeLine->Fin ys' H'->R (.ok .next) s') :
  codeAny (model Y.prog Y.w) Y.A (.compLoop (.ListComp elt gens scope pos) d (.ref it) (.ref D) Y.env) R s:=by
 refine codeAny_loop rfl (fun k s'=>∃i ys its n H',Inv Y ([(D,lobj its n)]++P) σ H' s'/\tn i s'.heap/\(∀b∈fp,H' b=none)/\Vals ys its/\ys.length<=sizeLine/\W i k ys H') ?_ m0 ⟨0,ys,its,n,H,I,st,fr,r,len,w⟩;rintro k s5 ⟨i,ys,its,n,H5,I5,st5,fr5,r5,len5,w5⟩;show wpAny _ Y.A ((compTurn (.ListComp elt gens scope pos) d (.ref it) (.ref D) Y.env).onRaise (fun x=>do noteFrame x Y.env;theTreesLotGoes x)) _ _ s5;refine wpAny_noted ?_;unfold compTurn;simp only[hd];refine wpAny_bind (wpAny_standAt ?_);rw[if_neg (by decide)];rcases turn i k ys H5 w5 with⟨stop,fin⟩ | ⟨go,N,hN,step⟩
 .refine wpAny_bind (wpAny_mono (T.done Y rfl rfl rfl hc i _ s5 _ H5 (fun _ _=>False) I5 (fpOk _ _ _ _ I5 fr5) st5 stop) (fun r s6 ⟨hr,I6⟩=>?_) fun _ _ f=>f.elim);subst hr;exact wpAny_pure (hR ys its n H5 s6 I6 r5 len5 fin)
 .refine wpAny_bind (wpAny_mono (T.item Y rfl rfl rfl hc i _ s5 _ H5 (fun _ _=>False) I5 (fpOk _ _ _ _ I5 fr5) st5 go) (fun r s6 ⟨u,hr,h6⟩=>?_) fun _ _ f=>f.elim);subst hr;refine wpAny_bind (wpAny_mono h6 (fun _ s7 ⟨x,H7,I7,r7,y7,st7,fr7⟩=>?_) fun _ _ f=>f.elim);have I7':=I7.pinned (fpOk _ _ _ _ I7 fr7) (T.obj _ _ st7);refine wpAny_bind (wpAny_mono (hg _ s7 _ H7 x u _ I7' r7 (step x H7 y7)) (fun _ s8 ⟨σ8,H8,I8,sub8,q8⟩=>?_) fun _ _ f=>(by rw[hxe] at f;exact f.elim));refine wpAny_bind (wpAny_mono (ht _ s8 σ8 H8 _ I8 q8) (fun b s9 ⟨H9,I9,q9⟩=>?_) fun _ _ f=>(by rw[hxe] at f;exact f.elim));have back:∀{H' s'} {its':List Value} {n':Nat},Inv Y ([(D,lobj its' n')]++(P++zcH fp s7.heap)) σ8 H' s'->tn (i+1) s'.heap/\(∀b∈fp,H' b=none)/\Inv Y ([(D,lobj its' n')]++P) σ H' s':=fun{H' s' its' n'} I=>by
   refine⟨T.keep _ _ _ st7 fun b hb o e=>(I.pin (b,o) (List.mem_append_right _ (List.mem_append_right _ (List.mem_append_right _ (zbF hb e))))).1,fun b hb=>?_,?_⟩
   .obtain⟨o,e,d⟩:=T.obj _ _ st7 b hb;exact(I.pin (b,o) (List.mem_append_right _ (List.mem_append_right _ (List.mem_append_right _ (zbF hb e))))).2.1
   .rw[<- List.append_assoc] at I;exact I.unpinned.weak sub8.1 sub8.2
  rw[List.append_assoc] at I9;cases b with
  | false =>
   obtain⟨m',hm,w9⟩:=hN _ _ q9;obtain⟨st9,fr9,I9'⟩:=back I9;exact wpAny_pure ⟨rfl,m',hm,i+1,ys,its,n,H9,I9',st9,fr9,r5,len5,w9⟩
  | true =>
   rw[if_pos rfl];refine zoM (hE _ s9 σ8 H9 ys its n N _ _ _ I9 (fun p hp=>?_) r5 len5 q9 fun s10 ys' its' n' H10 I10 r10 len10 q10=>?_)
   .rcases List.mem_append.mp hp with hp | hp
    .exact hP p hp
    .exact fpD _ (zfN hp).1
   .obtain⟨m',hm,w10⟩:=hN _ _ q10;obtain⟨st10,fr10,I10'⟩:=back I10;exact wpAny_pure ⟨rfl,m',hm,i+1,ys',its',n',H10,I10',st10,fr10,r10,len10,w10⟩
theorem zwM{te:TE}(hxe:Y.xe=fun _ _=>False)(hpn:Y.pn=[])(hDs:Y.s₀.heap.objs.size<=D)(he:PE Y elt te)(hd:gens[d+1]? = none):zqY Y elt gens scope pos d D (zs1 te):=by
 intro P s σ H ys its n N k Post E I hP r len q hk;unfold znr;rw[hd];refine wpAny_bind (wpAny_bind (wpAny_mono (he _ s σ H _ I q.2) (fun v s10 ⟨y,H10,I10,r10,q10⟩=>?_) fun _ _ f=>(by rw[hxe] at f;exact f.elim)));have pD:=I10.pin (D,lobj its n) (List.mem_append_right _ (List.mem_append_left _ List.mem_cons_self));refine wpAny_bind (append_at (hsz:=by rw[List.size_toArray,<- r.length];exact Nat.le_of_lt q.1) pD.1 fun h' hsb hnew=>?_);have J0:Inv Y P σ H10 s10:=I10.pins_of fun p hp=>I10.pin p (List.mem_append_right _ (List.mem_append_right _ hp))
 have J1:Inv Y P σ H10 { s10 with heap:=h' }:=J0.turned (it:=D) (t':=s10.toks) (fun b o hb e=>hsb.extBut b o hb e) pD.2.1 pD.2.2.1 (.inr hDs) (fun x c hc z=>by
   obtain⟨v,o,eo,ed⟩:=I10.cell x c hc;rw[z,pD.1] at eo;cases eo;cases ed) (fun p hp=>hP p (by rw[hpn] at hp;exact hp))
 have e11:h'.get? D=some (lobj (its++[v]) (n+1)):=by rw[hnew,List.push_toArray]
 refine wpAny_pure (hk _ (ys++[y]) (its++[v]) (n+1) H10 (J1.pins_of fun p hp=>?_) (r.append (.cons r10 .nil)) (by rw[List.length_append,List.length_singleton];exact q.1) q10);rcases List.mem_append.mp hp with hp | hp
 .rw[List.mem_singleton.mp hp];exact⟨e11,pD.2.1,pD.2.2.1,pD.2.2.2.1,fun v=>by intro z;cases z⟩
 .exact J1.pin p (List.mem_append_right _ hp)
theorem zwR{tg' iter':Expr}{ifs':List Expr}{wi:TI}{g':TG}{tc':TT}{tem':EmT}(hc:Y.calm=true)(hxe:Y.xe=fun _ _=>False)(hd:gens[d+1]? = some ⟨tg',iter',ifs',0⟩)(hi:PI Y tg' iter' wi)(hg:PG Y tg' g')(ht:PTs Y ifs' tc')(hs:∀x,foldedSetIterable iter' Y.env x=pure x)
  (hE:zqY Y elt gens scope pos (d+1) D tem'):zqY Y elt gens scope pos d D (ztQ wi g' tc' tem'):=by
 intro P s σ H ys its n N k Post E I hP r len q hk;unfold znr;rw[hd];refine wpAny_bind (wpAny_mono (hi _ s σ H _ I q) (fun v s1 h1=>?_) fun _ _ f=>(by rw[hxe] at f;exact f.elim));refine wpAny_bind (wpAny_standAt ?_);show wpAny _ _ (if ((0:Int) !=0)=true then _ else _) _ _ _;rw[if_neg (by decide),hs v];refine wpAny_bind (wpAny_pure ?_);refine wpAny_bind (wpAny_holding ?_);show wpAny _ _ (if ((0:Int) !=0)=true then _ else _) _ _ _;rw[if_neg (by decide)];refine wpAny_mono h1 (fun itv s2 h2=>?_) fun _ _ f=>(by rw[hxe] at f;exact f.elim)
 obtain⟨it,fp,tn,J,H2,e,I2,T,st2,f2,W,⟨m0,w0⟩,turn⟩:=h2;subst e;have fpD:∀b∈fp,b≠D:=fun b hb z=>(f2 b hb).2.2.2.2.2 (D,lobj its n) (List.mem_append_right _ (List.mem_append_left _ List.mem_cons_self)) z.symm
 have loop:=zlQ (R:=fun r s'=>match r with
  | .ok f=>wpAny (model Y.prog Y.w) Y.A k Post E s'
  | .error e=>cameBackBy (model Y.prog Y.w) Y.A Y.env E e s') hc hxe hE hd hg ht T hP (fun its' n' H' s' _ hn b hb=>⟨hn b hb,(f2 b hb).2.1,(f2 b hb).2.2.1,(f2 b hb).2.2.2.1,(f2 b hb).2.2.2.2.1,fun p hp=>by
   rcases List.mem_append.mp hp with hp | hp
   .exact(f2 b hb).2.2.2.2.2 p (List.mem_append_left _ hp)
   .rcases List.mem_append.mp hp with hp | hp
    .rw[List.mem_singleton.mp hp];exact(fpD b hb).symm
    .exact(f2 b hb).2.2.2.2.2 p (List.mem_append_right _ (List.mem_append_right _ hp))⟩) fpD turn I2 st2 (fun b hb=>(f2 b hb).1) r len w0 (fun ys' its' n' H' s' I' r' len' q'=>hk s' ys' its' n' H' I' r' len' q')
 refine wpAny_bind (wpAny_runOwn ?_);exact zdE hd loop (T.self Y.A 0 _ _ _ st2 loop)
theorem Gens.em(hc:Y.calm=true)(hxe:Y.xe=fun _ _=>False)(hpn:Y.pn=[])(hDs:Y.s₀.heap.objs.size<=D){rest:List Comprehension}(G:Gens Y elt rest tem):∀{d:Nat},gens.drop (d+1)=rest->zqY Y elt gens scope pos d D tem:=by
 induction G with
 | nil he =>
  intro d hr;refine zwM hxe hpn hDs he ?_;have:(gens.drop (d+1))[0]? = none:=by rw[hr];rfl
  rwa [List.getElem?_drop] at this
 | @cons tg' iter' ifs' wi' g' tc' rest' tem' hi hg' ht' hs' G' ih =>
  intro d hr;have:(gens.drop (d+1))[0]? = some ⟨tg',iter',ifs',0⟩:=by rw[hr];rfl
  rw[List.getElem?_drop] at this;refine zwR hc hxe this hi hg' ht' hs' (ih ?_);rw[<- List.drop_drop,hr];rfl
end
section
variable{X:Cx}{tg iter elt:Expr}{ifs:List Expr}{rest:List Comprehension}{scope:Scope}{pos:Pos}{own free:List Str}{fr:List Nat}
theorem zoz{pins:List (Addr×Obj)}{σ:St}{H2:Hp}{s2:Shared}{J:It}{fp:List Addr}{it:Addr}{tn:Nat->Heap->Prop}{g:TG}{tc:TT}{tem:EmT}{Fin:List V->Hp->Prop}{W:Nat->Nat->List V->Hp->Prop}{m0:Nat}
  {RR:Value->Addr->Result->Shared->Prop}{E:Value->Shared->Prop}
  (S:zce X scope)(hc:X.calm=true)(hfr:fr.map (fun j=>X.N[j]?)=free.map some)(hff:∀x∈free,scope.names.lookup x=some .free)
  (hg:∀C s H ex,PG (zE X (own++free) scope C s H ex) tg g)(ht:∀C s H ex,PTs (zE X (own++free) scope C s H ex) ifs tc)(he:∀C s H ex,Gens (zE X (own++free) scope C s H ex) elt rest tem)
  (I2:Inv X pins σ H2 s2)(T:Turn X.prog X.w X.K tg J fp it tn)(st2:tn 0 s2.heap)(f2:∀b∈fp,zfd X pins H2 b)
  (w0:W 0 m0 [] H2)(turn:zii J g tc tem (own.map (fun _=>none)++zaq σ fr) Fin W)
  (hRR:∀D C its n ys H' s',Inv (zE X (own++free) scope C s2 H2 fp) [(D,lobj its n)] (own.map (fun _=>none)++zaq σ fr) H' s'->Vals ys its->ys.length<=sizeLine->Fin ys H'->s2.heap.objs.size<=D->RR (.ref D) C (.ok .next) s') :
  wpAny (model X.prog X.w) X.A (newList []) (fun acc s₃=>wpAny (model X.prog X.w) X.A (newFunctionEnv scope X.env.globals (zas X.env scope.names []) [] X.env.qual none .none (some X.env)) (fun cenv s₄ =>
   codeAny (model X.prog X.w) X.A (.compStart (.ListComp elt (⟨tg,iter,ifs,0⟩::rest) scope pos) 0 (.ref it) acc { cenv with scope:=relabel scope X.env }) (RR acc cenv.locals) s₄) E s₃) E s2:=by
 refine wpAny_newObj_type (zhw ?_);have hob:∀b∈fp,∃o,s2.heap.get? b=some o:=fun b hb=>by obtain⟨o,e,_⟩:=T.obj _ _ st2 b hb;exact⟨o,e⟩
 have fplt:∀b∈fp,b < s2.heap.objs.size:=fun b hb=>by obtain⟨o,e⟩:=hob b hb;exact Heap.lt_size e
 generalize hs3:({ s2 with heap:=s2.heap.push { cls:= .type "list",dict:=none,data:= .seq ([]:List Value).toArray } }:Shared)=s3
 have hh3:s3.heap=s2.heap.push (lobj [] 0):=by rw[<- hs3]
 have hC:s3.heap.objs.size=s2.heap.objs.size+1:=by rw[hh3,Heap.size_push]
 have keep3:∀b o,s2.heap.get? b=some o->s3.heap.get? b=some o:=fun b o e=>by rw[hh3];exact Heap.get?_push_of_some _ e
 have I3:=zld (own:=own) (ex:=fp) (s3:=s3) S I2 f2 hob hfr hff keep3 (by rw[hC];exact Nat.le_succ _) (by rw[<- hs3]) (by rw[<- hs3]);generalize hs4:({ s3 with heap:=pushCells (s3.heap.push { cls:= .type "dict",data:= .dict #[] }) scope.names }:Shared)=s4 at I3
 have keep4:∀b o,s3.heap.get? b=some o->s4.heap.get? b=some o:=fun b o e=>by rw[<- hs4];exact pushCells_keeps _ _ b o (Heap.get?_push_of_some _ e)
 have hD4:s4.heap.get? s2.heap.objs.size=some (lobj [] 0):=keep4 _ _ (by rw[hh3];exact Heap.get?_push_size _ rfl);have nf:s2.heap.objs.size∉frs X.stack:=fun hb=>by
  obtain⟨_,o,e,_⟩:=I2.stack.mem hb;exact absurd (Heap.lt_size e) (Nat.lt_irrefl _)
 have hDC:s2.heap.objs.size≠s3.heap.objs.size:=by rw[hC];exact Nat.ne_of_lt (Nat.lt_succ_self _)
 have cellD:∀{P:List (Addr×Obj)} {σ' H' s'} {its:List Value} {n:Nat},Inv (zE X (own++free) scope s3.heap.objs.size s2 H2 fp) P σ' H' s'->s'.heap.get? s2.heap.objs.size=some (lobj its n)->∀x c,(za1 scope s3.heap.objs.size X.env).cells.lookup x=some c->c≠s2.heap.objs.size:=fun I e x c hc z=>by
  obtain⟨v,o,eo,ed⟩:=I.cell x c hc;rw[z,e] at eo;cases eo;cases ed
 have pinD:∀{σ' H' s'} {its:List Value} {n:Nat},Inv (zE X (own++free) scope s3.heap.objs.size s2 H2 fp) [] σ' H' s'->s'.heap.get? s2.heap.objs.size=some (lobj its n)->H' s2.heap.objs.size=none ->
   Inv (zE X (own++free) scope s3.heap.objs.size s2 H2 fp) [(s2.heap.objs.size,lobj its n)] σ' H' s':=fun{σ' H' s' its n} I e hn=>I.pins_of fun p hp=>by
  have hp':p=(s2.heap.objs.size,lobj its n):=List.mem_singleton.mp hp;subst hp';exact⟨e,hn,hDC,nf,fun v=>by intro z;cases z⟩
 have I4:=pinD I3 hD4 (I2.hok.fresh (Nat.le_refl _));have fpOk:∀{σ' H' s'} {its:List Value} {n:Nat},Inv (zE X (own++free) scope s3.heap.objs.size s2 H2 fp) [(s2.heap.objs.size,lobj its n)] σ' H' s'->(∀b∈fp,H' b=none)->∀b∈fp,zfd (zE X (own++free) scope s3.heap.objs.size s2 H2 fp) [(s2.heap.objs.size,lobj its n)] H' b:=fun{σ' H' s' its n} I hn b hb=>by
  refine⟨hn b hb,(I.ok.exf b hb).1,I.ok.exfs b hb, .inl hb,(I.ok.exf b hb).2,fun p hp=>?_⟩;have hp':p=(s2.heap.objs.size,lobj its n):=List.mem_singleton.mp hp;subst hp';exact Ne.symm (Nat.ne_of_lt (fplt b hb))
 have stn4:tn 0 s4.heap:=T.keep _ _ _ st2 fun b hb o e=>keep4 b o (keep3 b o e)
 have loop:codeAny (model X.prog X.w) X.A (.compLoop (.ListComp elt (⟨tg,iter,ifs,0⟩::rest) scope pos) 0 (.ref it) (.ref s2.heap.objs.size) (za1 scope s3.heap.objs.size X.env)) (RR (.ref s2.heap.objs.size) s3.heap.objs.size) s4 :=
  zlQ (Y:=zE X (own++free) scope s3.heap.objs.size s2 H2 fp) (P:=[]) (m0:=m0) hc rfl (Gens.em (Y:=zE X (own++free) scope s3.heap.objs.size s2 H2 fp) hc rfl rfl (Nat.le_refl _) (he _ _ _ _) rfl) rfl (hg _ _ _ _) (ht _ _ _ _) T (fun p hp=>by cases hp) (fun its n H' s' I hn b hb=>fpOk I hn b hb) (fun b hb=>Nat.ne_of_lt (fplt b hb)) turn I4 stn4 (fun b hb=>(f2 b hb).1) .nil (Nat.zero_le _) w0
   fun ys' its' n' H' s' I' r' len' fin=>hRR _ _ its' n' ys' H' s' I' r' len' fin (Nat.le_refl _)
 exact codeAny_compStart_list loop (T.self X.A 0 _ _ _ stn4 loop)
def zm9(own:List Str)(fr:List Nat)(wi:TI)(g:TG)(tc:TT)(tem:EmT):TE:=fun σ H Q=>wi σ H fun J H1=>∃W:Nat->Nat->List V->Hp->Prop,(∃m,W 0 m [] H1) /\
 zii J g tc tem (own.map (fun _=>none)++zaq σ fr) (fun ys H'=>∀p,H' p=none->Q (.ref p) (upd H' p (.lst ys))) W
theorem zrg{wi:TI}{g:TG}{tc:TT}{tem:EmT}(own free:List Str)(fr:List Nat)(S:zce X scope)(hc:X.calm=true)(hfr:fr.map (fun j=>X.N[j]?)=free.map some)(hff:∀x∈free,scope.names.lookup x=some .free)
  (hi:PI X tg iter wi)
  (hg:∀C s H ex,PG (zE X (own++free) scope C s H ex) tg g)(ht:∀C s H ex,PTs (zE X (own++free) scope C s H ex) ifs tc)(he:∀C s H ex,Gens (zE X (own++free) scope C s H ex) elt rest tem)
  (hs:∀x,foldedSetIterable iter X.env x=pure x:=by intro _;rfl) :
  PE X (.ListComp elt (⟨tg,iter,ifs,0⟩::rest) scope pos) (zm9 own fr wi g tc tem):=by
 intro pins s σ H Q I h;have hcl:closureFor scope X.env=pure (zas X.env scope.names []):=zcF fun x hx e=>by
  obtain⟨c,hc⟩:=I.ok.has x.1 (S.free x hx e);rw[hc];rfl
 rw[eval_ListComp];refine wpAny_comprehension_free (use:=none) rfl hs hcl S.kind (fun x hx e=>by have:=zdR S.nd (show(x.1,x.2)∈scope.names from hx);rw[this,e]) (thn (hi pins s σ H _ I h) fun v s1 h1=>thn h1 fun itv s2 h2=>?_);obtain⟨it,fp,tn,J,H2,e,I2,T,st2,f2,W,⟨m0,w0⟩,turn⟩:=h2;subst e;refine zoz (RR:=fun acc C=>compPost (model X.prog X.w) X.A X.xe none (EP X pins σ Q) acc C) S hc hfr hff hg ht he I2 T st2 f2 w0 turn ?_;intro D C its n ys H' s' I' r hz fin hD;obtain⟨m,hm,_⟩:=I'.loc;refine⟨m,hm,fun h'' hsb=>?_⟩;obtain⟨J',hn⟩:=zio I2 f2 I' r hz hD hsb;exact⟨.ref D,_,J',rfl,fin D hn⟩
end
structure WGn(Y:Cx)(elt:Expr)(l:List Comprehension)(t:EmT):Prop where out:Gens Y elt l t
theorem zv0{Y:Cx}{elt:Expr}{te:TE}(h:WE Y elt te):WGn Y elt [] (zs1 te):=⟨.nil h.out⟩
theorem znW{Y:Cx}{elt tg iter:Expr}{ifs:List Expr}{wi:TI}{g:TG}{tc:TT}{rest:List Comprehension}{tem:EmT}(hi:WI Y tg iter wi)(hg:WG Y tg g)(ht:WTs Y ifs tc)(r:WGn Y elt rest tem)(hs:∀x,foldedSetIterable iter Y.env x=pure x:=by intro _;rfl):WGn Y elt (⟨tg,iter,ifs,0⟩::rest) (ztQ wi g tc tem):=⟨.cons hi.out hg.out ht.out hs r.out⟩
theorem zqR{X:Cx}{tg iter elt:Expr}{ifs:List Expr}{rest:List Comprehension}{scope:Scope}{pos:Pos}{wi:TI}{g:TG}{tc:TT}{tem:EmT}(own free:List Str)(fr:List Nat)(S:zce X scope)(hc:X.calm=true)(hfr:fr.map (fun j=>X.N[j]?)=free.map some)(hff:∀x∈free,scope.names.lookup x=some .free)
  (hi:WI X tg iter wi)(hg:∀C s H ex,WG (zE X (own++free) scope C s H ex) tg g)(ht:∀C s H ex,WTs (zE X (own++free) scope C s H ex) ifs tc)(he:∀C s H ex,WGn (zE X (own++free) scope C s H ex) elt rest tem)
  (hs:∀x,foldedSetIterable iter X.env x=pure x:=by intro _;rfl):WE X (.ListComp elt (⟨tg,iter,ifs,0⟩::rest) scope pos) (zm9 own fr wi g tc tem) :=
 ⟨zrg own free fr S hc hfr hff hi.out (fun C s H ex=>(hg C s H ex).out) (fun C s H ex=>(ht C s H ex).out) (fun C s H ex=>(he C s H ex).out) hs⟩
abbrev DEm:=zX->Mu->List D->(List D->Mu->Prop)->Prop
def zsG(we:DE):DEm:=fun ρ μ ys Q=>ys.length < sizeLine/\we ρ μ fun v μ'=>Q (ys++[v]) μ'
def zcC(g:DG)(wc:DT)(em:DEm)(ρb:zX)(Pm:Mu->Prop)(Fin:List D->Mu->Prop):List D->List D->Mu->Prop
 | [],ys,μ=>Pm μ/\Fin ys μ
 | d::r,ys,μ=>Pm μ/\g d ρb μ fun ρ2 μ2=>wc ρ2 μ2 fun b μ3=>if b=true then em ρ2 μ3 ys fun ys' μ4=>zcC g wc em ρb Pm Fin r ys' μ4 else zcC g wc em ρb Pm Fin r ys μ3
def zpi(n:Nat)(B S:List Nat)(wi:DI)(g:DG)(wc:DT)(em:DEm):DEm:=fun ρ μ ys Q=>(S.all fun i=>decide (i < n)&& !B.contains i)=true/\wi ρ μ fun ds Pm μ1=>zcC g wc em ρ Pm Q ds ys μ1
def zmW(own:List Str)(fr:List Nat)(S:List Nat)(wi:DI)(g:DG)(wc:DT)(em:DEm):DE:=fun ρ μ Q=>(S.all fun i=>decide (i < own.length))=true/\wi ρ μ fun ds Pm μ1 =>
 zcC g wc em (List.replicate own.length none++zej ρ fr) Pm (fun ys μ2=>Q (.lst ys) μ2) ds [] μ1
class zlH(K:Frag)(fl:Wd)(n:Nat)(B:List Nat)(t:EmT)(w:DEm):Prop where
 run:∀{W ρ μ σ H ys xs} {Q:List D->Mu->Prop} {Q':List V->Hp->Prop},Rel K fl W μ H->zaS K W ρ σ->(∀j,j < n->j∉B->∀v,σ[j]? ≠ some (some v))->zr K W ys xs->w ρ μ ys Q->(∀W' ys' μ' xs' H',W.le W'->Rel K fl W' μ' H'->zr K W' ys' xs'->Q ys' μ'->Q' xs' H')->t σ H xs Q'
section
variable{K:Frag}{fl:Wd}{te:TE}{we:DE}{tc:TT}{wc:DT}{wi:TI}{di:DI}{g:TG}{dg:DG}{S B:List Nat}{n:Nat}{tem:EmT}{em:DEm}
instance[a:zN K fl te we]:zlH K fl n B (zs1 te) (zsG we):=⟨fun{W ρ μ σ H ys xs Q Q'} r e _ q h k=>⟨by rw[q.length];exact h.1,a.run r e h.2 fun W1 d μ1 x H1 le1 r1 q1 h1=>k W1 _ μ1 _ H1 le1 r1 ((q.mono le1).append (.cons q1 .nil)) h1⟩⟩
theorem znD[b:zic K fl g dg S][c:zdV K fl tc wc][v:zlH K fl n (B++S) tem em]{W1:Wd}{ρ:zX}{μ1:Mu}{σ:St}{H1:Hp}{J:It}{ds ys:List D}{xs:List V}{Pm:Mu->Prop}{Fin:List D->Mu->Prop}{Fin':List V->Hp->Prop}(e:zaS K W1 ρ σ)(r1:Rel K fl W1 μ1 H1)(it1:ItR K fl W1 J ds Pm)
  (hS:(S.all fun i=>decide (i < n)&& !B.contains i)=true)(hσ:∀j,j < n->j∉B->∀v,σ[j]? ≠ some (some v))(q:zr K W1 ys xs)(h:zcC dg wc em ρ Pm Fin ds ys μ1)
  (hF:∀W2 ys μ2 xs H2,W1.le W2->Rel K fl W2 μ2 H2->zr K W2 ys xs->Fin ys μ2->Fin' xs H2) :
  ∃W:Nat->Nat->List V->Hp->Prop,(∃m,W 0 m xs H1)/\zii J g tc tem σ Fin' W:=by
 refine⟨fun i m xs H=>∃W2 ys μ2,W1.le W2/\Rel K fl W2 μ2 H/\zr K W2 ys xs/\m=ds.length - i/\zcC dg wc em ρ Pm Fin (ds.drop i) ys μ2,⟨_,W1,ys,μ1, .refl _,r1,q,rfl,h⟩,?_⟩;rintro i m xs H2 ⟨W2,ys,μ2,le2,r2,q2,rfl,h2⟩;have hPm:Pm μ2:=by
  cases hdr:ds.drop i with
  | nil=>rw[hdr] at h2;exact h2.1
  | cons _ _=>rw[hdr] at h2;exact h2.1
 obtain⟨go,stop⟩:=it1 W2 μ2 H2 le2 r2 hPm i;have hSn:∀j∈S,j < n/\j∉B:=fun j hj=>by
  have:=List.all_eq_true.mp hS j hj;simp at this;exact this
 by_cases hi:i < ds.length
 .refine .inr ?_;have hd:ds[i]? = some ds[i]:=List.getElem?_eq_getElem hi;obtain⟨g1,g2⟩:=go _ hd;rw[List.drop_eq_getElem_cons hi] at h2;obtain⟨_,h2⟩:=h2;refine⟨g1,fun xs' H'=>∃W3 ys3 μ3,W1.le W3/\Rel K fl W3 μ3 H'/\zr K W3 ys3 xs'/\zcC dg wc em ρ Pm Fin (ds.drop (i+1)) ys3 μ3,fun xs' H' ⟨W3,ρ3,μ3,l3,r3,e3,h3⟩=>⟨ds.length - (i+1),by omega,W3,ρ3,μ3,l3,r3,e3,rfl,h3⟩,fun x H' y=>?_⟩;obtain⟨W3,le3,r3,q3⟩:=g2 x H' y;refine b.run r3 ((e.mono le2).mono le3) q3 h2 fun W4 ρ4 μ4 σ4 H4 le4 r4 e4 l4 s4 h4=>⟨⟨l4.symm,fun j v hj=>?_⟩,?_⟩
  .by_cases hjS:j∈S
   .exact absurd hj (hσ j (hSn j hjS).1 (hSn j hjS).2 v)
   .rw[s4 j hjS];exact hj
  .refine c.run r4 e4 h4 fun W5 bb μ5 H5 le5 r5 h5=>?_
   cases bb with
   | true =>
    refine v.run r5 (e4.mono le5) (fun j h1 h3 v'=>?_) (q2.mono (le3.trans (le4.trans le5))) h5 fun W6 ys6 μ6 xs6 H6 le6 r6 q6 h6=>⟨W6,ys6,μ6,le2.trans (le3.trans (le4.trans (le5.trans le6))),r6,q6,h6⟩
    rw[List.mem_append,not_or] at h3;rw[s4 j h3.2];exact hσ j h1 h3.1 v'
   | false=>exact⟨W5,ys,μ5,le2.trans (le3.trans (le4.trans le5)),r5,q2.mono (le3.trans (le4.trans le5)),h5⟩
 .rw[List.drop_eq_nil_of_le (by omega)] at h2;exact .inl ⟨stop (by omega),hF W2 ys μ2 xs H2 le2 r2 q2 h2.2⟩
instance[a:zke K fl wi di][b:zic K fl g dg S][c:zdV K fl tc wc][v:zlH K fl n (B++S) tem em]:zlH K fl n B (ztQ wi g tc tem) (zpi n B S di dg wc em):=⟨fun{W ρ μ σ H ys xs Q Q'} r e hσ q h k =>
 a.run r e h.2 fun W1 J ds Pm μ1 H1 le1 r1 it1 h1=>znD (B:=B) (e.mono le1) r1 it1 h.1 hσ (q.mono le1) h1 fun W2 ys μ2 xs H2 le2 r2 q2 h2=>k W2 ys μ2 xs H2 (le1.trans le2) r2 q2 h2⟩
theorem zor{σ:St}(own:List Str)(fr:List Nat):∀j,j < own.length->j∉([]:List Nat)->∀v,(own.map (fun _=>(none:Option V))++zaq σ fr)[j]? ≠ some (some v):=fun j hj _ v e=>by
 rw[List.getElem?_append_left (by simp;exact hj),List.getElem?_map,List.getElem?_eq_getElem hj] at e;cases e
instance{own:List Str}{fr:List Nat}[a:zke K fl wi di][b:zic K fl g dg S][c:zdV K fl tc wc][v:zlH K fl own.length ([]++S) tem em]:zN K fl (zm9 own fr wi g tc tem) (zmW own fr S di dg wc em):=⟨fun{W ρ μ σ H Q Q'} r e h k =>
 a.run r e h.2 fun W1 J ds Pm μ1 H1 le1 r1 it1 h1=>znD (n:=own.length) (B:=[]) ((e.mono le1).comp own fr) r1 it1 (by
   refine List.all_eq_true.mpr fun j hj=>?_
   have:=List.all_eq_true.mp h.1 j hj;simpa using this) (zor own fr) .nil h1 fun W2 ys μ2 xs H2 le2 r2 q2 h2 p hp=>by
  obtain⟨r3,le3⟩:=r2.newF (o:= .lst xs) hp;exact k _ _ _ _ _ (le1.trans (le2.trans le3)) r3 (.lst zq (q2.mono le3)) h2⟩
end
theorem zfI{g:DG}{wc:DT}{em:DEm}{ρb:zX}{Pm:Mu->Prop}{Fin:List D->Mu->Prop}{ds ys:List D}{μ:Mu}(I:Nat->List D->Mu->Prop)(h0:I 0 ys μ)
  (step:∀i d ys μ,ds[i]? = some d->I i ys μ->∀N:List D->Mu->Prop,(∀ys' μ',I (i+1) ys' μ'->N ys' μ')->g d ρb μ fun ρ2 μ2=>wc ρ2 μ2 fun b μ3=>if b=true then em ρ2 μ3 ys N else N ys μ3)
  (fin:∀ys μ,I ds.length ys μ->Fin ys μ)(hP:∀i ys μ,I i ys μ->Pm μ:=by exact fun _ _ _ _=>trivial):zcC g wc em ρb Pm Fin ds ys μ:=by
 have key:∀(n i:Nat) ys μ,i+n=ds.length->I i ys μ->zcC g wc em ρb Pm Fin (ds.drop i) ys μ:=by
  intro n;induction n with
  | zero =>
   intro i ys μ hi hI;have e:i=ds.length:=by omega
   subst e;rw[List.drop_length];exact⟨hP _ _ _ hI,fin _ _ hI⟩
  | succ n ih =>
   intro i ys μ hi hI;have hlt:i < ds.length:=by omega
   rw[List.drop_eq_getElem_cons hlt];exact⟨hP _ _ _ hI,step i _ ys μ (List.getElem?_eq_getElem hlt) hI (fun ys' μ'=>zcC g wc em ρb Pm Fin (ds.drop (i+1)) ys' μ') fun ys' μ' h=>ih (i+1) ys' μ' (by omega) h⟩
 exact key ds.length 0 ys μ (by omega) h0
theorem zgN{prog:Program}{w:World}{A:Around}{E:Value->Shared->Prop}{s:Shared}{it d:Addr}{i ep:Nat}{od:Obj}{es:Array DictEntry}{e:DictEntry}{Q:Option Value->Shared->Prop}
  (hit:s.heap.IsKeyIter it d i es.size ep)(hod:s.heap.get? d=some od)(hdd:od.data= .dict es ep)(hx:es[i]? = some e)
  (hQ:∀h':Heap,h'.IsKeyIter it d (i+1) es.size ep->Heap.SameBut it s.heap h'->Q (some e.key) { s with heap:=h' }) :
  wpAny (model prog w) A (pyNext (.ref it)) Q E s:=by
 obtain⟨o,ho,hc,hd⟩:=id hit;unfold pyNext;refine wpAny_bind (wpAny_attempt (wpAny_callSpecial?_slot (Heap.IsKeyIter.typeIs hit) F.slot_dict_keyiterator_next
  (wpAny_call_entry F.slot_dict_keyiterator_next (Heap.IsKeyIter.typeIs hit) F.entry_dict_keyiterator_next ?_ (F.args_dict_keyiterator_next_1 (Value.ref it)))))
 refine wpAny_bind (wpAny_pure ?_);refine wpAny_bind (wpAny_bind (wpAny_bind (wpAny_typeNameOfWhole_keyiter (Heap.IsKeyIter.typeIs hit) (wpAny_pure ?_))));refine wpAny_bind (wpAny_fieldsOf ho hd ?_);have hown:Builtin.Dict_items.ownsTuple "dict_keyiterator"=false:=by decide
 simp only[hown];show wpAny _ _ (if (Value.ref d==Value.none)=true then _ else _) _ _ _;rw[if_neg (fun z=>by cases eq_of_beq z)];refine wpAny_bind (wpAny_pure ?_);refine wpAny_bind (wpAny_dictEntries hod hdd ?_);show wpAny _ _ (if (((es.size:Nat):Int) !=((es.size:Nat):Int))=true then _ else _) _ _ _;rw[if_neg (by simp)];refine wpAny_bind (wpAny_pure ?_);refine wpAny_bind (wpAny_dictEpoch hod hdd ?_);show wpAny _ _ (if (((ep:Nat):Int) !=((ep:Nat):Int))=true then _ else _) _ _ _;rw[if_neg (by simp)];refine wpAny_pure ?_;have hi:i < es.size:=(Array.getElem?_eq_some_iff.mp hx).1;have e0:(if (i:Int) < 0 then(none:Option DictEntry) else es[(i:Int).toNat]?)=some e:=by rw[if_neg (by omega),Int.toNat_natCast,hx]
 simp only[e0];refine wpAny_bind (wpAny_bind (wpAny_typeNameOfWhole_keyiter (Heap.IsKeyIter.typeIs hit) (wpAny_pure ?_)));refine wpAny_bind (wpAny_isOneOf_keyiter (Heap.IsKeyIter.typeIs hit) ?_);show wpAny _ _ (setField (.ref it) 1 (rawInt ((i:Int)+1)) >>= fun _=>_) _ _ _;refine wpAny_bind (wpAny_setField ho hd (by simp) ?_);have hit':(s.heap.update it (Obj.mapFields fun x=>x.setIfInBounds 1 (rawInt ((i:Int)+1)))).IsKeyIter it d (i+1) es.size ep :=
  ⟨_,Heap.get?_update_self (Obj.mapFields fun x=>x.setIfInBounds 1 (rawInt ((i:Int)+1))) ho (Obj.isFreed_of_fields (Obj.data_mapFields hd fun x=>x.setIfInBounds 1 (rawInt ((i:Int)+1)))),(Obj.cls_mapFields o _).trans hc,by rw[Obj.data_mapFields hd];rfl⟩
 refine wpAny_bind (wpAny_holding (wpAny_bind (wpAny_isOneOf_keyiter (Heap.IsKeyIter.typeIs hit') ?_)));exact wpAny_pure (wpAny_pure ⟨_,rfl,wpAny_pure (hQ _ hit' (Heap.SameBut.update s.heap it _))⟩)
theorem zib{prog:Program}{w:World}{A:Around}{E:Value->Shared->Prop}{s:Shared}{it d:Addr}{i ep:Nat}{od:Obj}{es:Array DictEntry}{Q:Option Value->Shared->Prop}
  (hh:A.handled=none)(hit:s.heap.IsKeyIter it d i es.size ep)(hod:s.heap.get? d=some od)(hdd:od.data= .dict es ep)(hx:es.size<=i)
  (hQ:∀h':Heap,Heap.ExtBut it s.heap h'->Q none { s with heap:=h' }) :
  wpAny (model prog w) A (pyNext (.ref it)) Q E s:=by
 obtain⟨o,ho,hc,hd⟩:=id hit;unfold pyNext;refine wpAny_bind (wpAny_attempt (wpAny_callSpecial?_slot (Heap.IsKeyIter.typeIs hit) F.slot_dict_keyiterator_next
  (wpAny_call_entry F.slot_dict_keyiterator_next (Heap.IsKeyIter.typeIs hit) F.entry_dict_keyiterator_next ?_ (F.args_dict_keyiterator_next_1 (Value.ref it)))))
 refine wpAny_bind (wpAny_pure ?_);refine wpAny_bind (wpAny_bind (wpAny_bind (wpAny_typeNameOfWhole_keyiter (Heap.IsKeyIter.typeIs hit) (wpAny_pure ?_))));refine wpAny_bind (wpAny_fieldsOf ho hd ?_);have hown:Builtin.Dict_items.ownsTuple "dict_keyiterator"=false:=by decide
 simp only[hown];show wpAny _ _ (if (Value.ref d==Value.none)=true then _ else _) _ _ _;rw[if_neg (fun z=>by cases eq_of_beq z)];refine wpAny_bind (wpAny_pure ?_);refine wpAny_bind (wpAny_dictEntries hod hdd ?_);show wpAny _ _ (if (((es.size:Nat):Int) !=((es.size:Nat):Int))=true then _ else _) _ _ _;rw[if_neg (by simp)];refine wpAny_bind (wpAny_pure ?_);refine wpAny_bind (wpAny_dictEpoch hod hdd ?_);show wpAny _ _ (if (((ep:Nat):Int) !=((ep:Nat):Int))=true then _ else _) _ _ _;rw[if_neg (by simp)];refine wpAny_pure ?_;have e0:(if (i:Int) < 0 then(none:Option DictEntry) else es[(i:Int).toNat]?)=none:=by rw[if_neg (by omega),Int.toNat_natCast,Array.getElem?_eq_none hx]
 simp only[e0];refine wpAny_bind (wpAny_bind (wpAny_typeNameOfWhole_keyiter (Heap.IsKeyIter.typeIs hit) (wpAny_pure ?_)));show wpAny _ _ (setField (.ref it) 0 .none >>= fun _=>_) _ _ _;refine wpAny_bind (wpAny_setField ho hd (by simp) ?_);refine wpAny_bind ?_;unfold newExc;refine wpAny_bind (wpAny_newObj_type ?_ ?_)
 .refine wpAny_bind (wpAny_of_eq (Eq.refl (firstArgMember (.type "StopIteration") [])) (wpAny_newObj_type ?_ (sizeOk_excFields _ _ _ _ _ _ _ _)));unfold raiseNew;refine wpAny_bind (wpAny_handled ?_);rw[show A.in1.handled=none from hh];refine wpAny_throw ?_;refine wpAny_bind (wpAny_isInstance ⟨_,Heap.get?_push_size _ rfl,rfl⟩ isSubtype_stop ?_);rw[if_pos rfl];exact wpAny_pure (hQ _ (Heap.ExtBut.push (Heap.ExtBut.push (Heap.SameBut.extBut (Heap.SameBut.update s.heap it _)) _) _))
 .show(#[]:Array Value).size<=sizeLine;exact Nat.zero_le _
theorem zno{prog:Program}{w:World}{A:Around}{E:Value->Shared->Prop}{s:Shared}{d:Addr}{ep:Nat}{o:Obj}{es:Array DictEntry}{Q:Value->Shared->Prop}(hd:(d==sysModules)=false)(ho:s.heap.get? d=some o)(hc:o.ExactDict)(hdat:o.data= .dict es ep)
  (hQ:Q (.ref s.heap.objs.size) { s with heap:=s.heap.push { cls:= .type "dict_keyiterator",data:= .fields #[.ref d, .int 0 0, .int (es.size:Nat) 0, .int (ep:Nat) 0] } }):wpAny (model prog w) A (pyIter (.ref d)) Q E s:=by
 have hT:s.TypeIs (.ref d) "dict":=⟨o,ho,hc.1⟩;refine wpAny_pyIter_slot hT F.slot_dict_iter (wpAny_call_entry F.slot_dict_iter hT F.entry_dict_iter ?_ (F.args_dict_iter_1 (Value.ref d)));refine wpAny_bind (wpAny_bind (wpAny_notOrdered_dict hT (wpAny_pure ?_)));show wpAny _ _ (Builtin.Dict.showsAll d >>= fun _=>_) _ _ _;unfold Builtin.Dict.showsAll;rw[if_neg (by rw[hd];decide)];refine wpAny_bind (wpAny_pure ?_);refine wpAny_bind (wpAny_dictEntries ho hdat (wpAny_bind (wpAny_dictEpoch ho hdat ?_)));refine wpAny_bind (wpAny_newObj_type (wpAny_pure ⟨_,rfl,"dict_keyiterator",_,⟨_,Heap.get?_push_size _ rfl,rfl⟩,F.slot_dict_keyiterator_next.lookup,hQ⟩) ?_);show(4:Nat)<=_;exact Nat.le_trans (show 4<=sizeLine by decide) (by omega)
section
variable{X:Cx}{pins:List (Addr×Obj)}{σ:St}{H:Hp}{s:Shared}{a:Addr}
theorem Inv.frzT{kvs:List (List Key×V)}{o:Obj}(I:Inv X pins σ H s)(ha:H a=some (.dT kvs))(ho:s.heap.get? a=some o):Inv X pins σ (upd H a (.frz o (.dT kvs))) s:=by
 have n1:∀xs,HO.dT kvs≠ .tup xs:=fun _ e=>by cases e
 have n2:∀x,HO.dT kvs≠ .own x:=fun _ e=>by cases e
 exact I.retag ha n1 n2 (fun _ e=>by cases e) (fun o v q=>by
  have:=I.base.frzs a o v q;rw[ha] at this;cases this) ⟨ho,(I.hok a _ ha).retag ha n1 n2⟩
end
def zvd(a:Addr)(o:Obj)(ks:List (List Key)):It :=
 ⟨fun i H=>i < ks.length/\∃kvs,kvs.map (·.1)=ks/\H a=some (.frz o (.dT kvs)),fun i H x H'=>H'=H/\∃k b,ks[i]? = some k/\x= .ref b/\H b=some (.tup (k.map kV)),fun i H=>ks.length<=i/\∃kvs,kvs.map (·.1)=ks/\H a=some (.frz o (.dT kvs))⟩
theorem zpj{α β:Type}{R:α->β->Prop}{l:List α}{m:List β}(h:Paired R l m){i:Nat}{p:α}(e:l[i]? = some p):∃q,m[i]? = some q/\R p q:=by
 induction h generalizing i with
 | nil=>simp at e
 | @cons a b as bs r t ih =>
  cases i with
  | zero=>simp at e;subst e;exact⟨b,by simp,r⟩
  | succ i=>simpa using ih (by simpa using e)
theorem zne{P:Program}{w:World}{K:Frag}{tg:Expr}(a it:Addr)(o:Obj)(es:Array DictEntry)(ep:Nat)(ks:List (List Key))(ho:o.data= .dict es ep):Turn P w K tg (zvd a o ks) [it] it (fun i h=>h.IsKeyIter it a i ks.length ep) where
 mem:=by simp
 obj:=fun i h st b hb=>by
  have e:b=it:=by simpa using hb
  subst e;obtain⟨o,e,c,d⟩:=st;exact⟨o,e,fun v z=>by rw[d] at z;cases z⟩
 keep:=fun i h h' st k=>st.at fun o e=>k it (by simp) o e
 item:=by
  intro X hP hw hK hc i pins s σ H E I hf st hg;subst hP hw hK;obtain⟨hi,kvs,rfl,ha⟩:=hg;rw[List.length_map] at hi;obtain⟨h1,z,hd,xs,rel,o',es',ep',h2,c2,d2,r2,nd⟩:=I.hok a _ ha;rw[h1] at h2;cases h2;rw[ho] at d2;cases d2;obtain⟨f0,f1,f2,f3,f4,f5⟩:=hf it (by simp);have hl:xs.length=kvs.length:=rel.length.symm;have sz:es.size=kvs.length:=by rw[<- Array.length_toList,r2,List.length_map,hl]
  obtain⟨p,hp⟩:∃p,kvs[i]? = some p:=⟨kvs[i],by simp[hi]⟩;obtain⟨q,hq,e1,e2,e3⟩:=zpj rel hp;have st1:s.heap.IsKeyIter it a i es.size ep:=by rw[List.length_map] at st;rw[sz];exact st
  have hx:es[i]? = some (entryOfKey (tupleKind (zaw X.prog X.w)) q):=by
   rw[<- Array.getElem?_toList,r2,List.getElem?_map,hq];rfl
  refine zgN st1 h1 ho hx fun h' st' sb=>?_
  have I1:Inv X pins σ H { s with heap:=h' }:=I.turned (t':=s.toks) (fun b ob hb e=>sb.extBut b ob hb e) f0 f1 f3 f4 f5;rw[sz] at st';obtain⟨oi,e,c,d⟩:=id st';exact⟨.ref q.2.1,rfl,zlY (s:={ s with heap:=h' }) e c d (by decide) ⟨.ref q.2.1,H,I1,rfl,⟨rfl,p.1,q.2.1,by rw[List.getElem?_map,hp];rfl,rfl,e2⟩,by rw[List.length_map];exact st',fun b hb=>(hf b hb).1⟩⟩
 done:=by
  intro X hP hw hK hc i pins s σ H E I hf st hg;subst hP hw hK;obtain⟨hi,kvs,rfl,ha⟩:=hg;rw[List.length_map] at hi;obtain⟨h1,z,hd,xs,rel,o',es',ep',h2,c2,d2,r2,nd⟩:=I.hok a _ ha;rw[h1] at h2;cases h2;rw[ho] at d2;cases d2;obtain⟨f0,f1,f2,f3,f4,f5⟩:=hf it (by simp);have hl:xs.length=kvs.length:=rel.length.symm;have sz:es.size=kvs.length:=by rw[<- Array.length_toList,r2,List.length_map,hl]
  have st1:s.heap.IsKeyIter it a i es.size ep:=by rw[List.length_map] at st;rw[sz];exact st
  exact zib (I.ok.hd hc) st1 h1 ho (by rw[sz];exact hi) fun h' eb=>⟨rfl,I.turned (t':=s.toks) (fun b o hb e=>eb b o hb e) f0 f1 f3 f4 f5⟩
 self:=fun _ _ _ _ _ st h=>wpAny_pyIter_keyiter st h
def zrD(tl:TE):TI:=fun σ H R=>tl σ H fun x H1=>∃a kvs,x= .ref a/\H1 a=some (.dT kvs)/\∀o,R (zvd a o (kvs.map (·.1))) (upd H1 a (.frz o (.dT kvs)))
theorem zs6{X:Cx}{tg l:Expr}{tl:TE}(hl:PE X l tl):PI X tg l (zrD tl):=by
 intro pins s σ H R I h;refine thn (hl pins s σ H _ I h) fun v s1 ⟨x,H1,I1,r1,q1⟩=>?_
 obtain⟨a,kvs,e,ha,q⟩:=q1;subst e;cases r1;obtain⟨z,hd,xs,rel,o,es,ep,h2,c2,d2,r2,nd⟩:=I1.hok a _ ha;have I2:=I1.frzT ha h2;have sz:es.size=kvs.length:=by rw[<- Array.length_toList,r2,List.length_map,rel.length]
 refine zno hd h2 c2 d2 ?_;refine⟨s1.heap.objs.size,[s1.heap.objs.size],_,_,_,rfl,I2.kept (t':=s1.toks) fun b o e=>Heap.get?_push_of_some _ e,zne a _ o es ep (kvs.map (·.1)) d2,⟨_,Heap.get?_push_size _ rfl,rfl,?_⟩,fun b hb=>?_,q o⟩
 .rw[sz,List.length_map];rfl
 .have e:b=s1.heap.objs.size:=by simpa using hb
  subst e;exact I2.fpOk (Nat.le_refl _) (I2.hok.fresh (Nat.le_refl _))
theorem zur{X:Cx}{tg l:Expr}{tl:TE}(hl:WE X l tl):WI X tg l (zrD tl):=⟨zs6 hl.out⟩
theorem zrn{X:Cx}{pos:Pos}:WE X (.Dict [] [] pos) zmM:=⟨zqK⟩
def znA(k:zaO):D:= .tup (k.map zvJ)
def zm4(w:DE):DI:=fun ρ μ Q=>w ρ μ fun d μ1=>∃k ks vs,d= .cell k/\μ1 k=some (.dtt ks vs)/\∀o,Q (ks.map znA) (fun μ'=>μ' k=some (.fdtt o ks vs)) (zH μ1 k (.fdtt o ks vs))
def zmZ(wo:DE)(w:DA):DE:=fun ρ μ Q=>wo ρ μ fun d μ1=>w ρ μ1 fun ds μ2=>ds.length<=1000/\∃c o ks vs,d= .cell c/\μ2 c=some (.fdtt o ks vs)/\zbb (zek ds) fun k=>zbb (zcc ks vs k) fun v=>Q v μ2
def zm0(wo:DE)(w:DA)(wx:DE):DE:=fun ρ μ Q=>wo ρ μ fun d μ1=>zqD μ1 d (fun _ _=>True)/\w ρ μ1 fun ds μ2=>ds.length<=1000/\wx ρ μ2 fun x μ3=>zqD μ3 d fun ks vs=>zbb (zek ds) fun k=>Q ((zcc ks vs k).getD x) μ3
section
variable{K:Frag}{fl W:Wd}{μ:Mu}{H:Hp}{tl:TE}{w:DE}
theorem zju:∀k:zaO,zr K W (k.map zvJ) (k.map kV)
 | []=> .nil
 | a::k=> .cons (.key a) (zju k)
theorem Rel.knowT{p:Addr}{xs:List V}(r:Rel K fl W μ H)(hp:H p=some (.tup xs)):∃W',W.le W'/\Rel K fl W' μ H/\W'.F p=some (.tup xs):=by
 cases e:W.F p with
 | some o =>
  have:=r.sub _ _ e;rw[hp] at this;cases this;exact⟨W, .refl _,r,e⟩
 | none =>
  obtain⟨r2,le2⟩:=r.adoptF hp e fun k c hk hb=>by
   obtain⟨a,e1,e2,e3⟩:=r.cel k c hk;rw[hb] at e1;cases e1;rw[hp] at e3;cases c<;>simp[Ctn] at e3
  exact⟨_,le2,r2,zq⟩
theorem zhu{ks:List zaO}{xs:List V}(h:ks.length=xs.length):(ks.zip xs).map (·.1)=ks:=List.map_fst_zip (by omega)
theorem zt3{a:Addr}{o:Obj}{k:Nat}{ks:List zaO}{vs:List D}(hb:W.b k=some a):ItR K fl W (zvd a o ks) (ks.map znA) (fun μ'=>μ' k=some (.fdtt o ks vs)):=fun W2 μ2 H2 le2 r2 pm i=>by
 obtain⟨a',e1,_,xs,s2,l2,_⟩:=r2.cel k _ pm;rw[le2.b _ _ hb] at e1;cases e1;constructor
 .intro d hd;rw[List.getElem?_map] at hd;obtain⟨kt,hk,rfl⟩:=Option.map_eq_some_iff.mp hd;refine⟨⟨(List.getElem?_eq_some_iff.mp hk).1,_,zhu l2,s2⟩,fun y H' hy=>?_⟩;obtain⟨rfl,k',b,e2,rfl,hbt⟩:=hy;rw[hk] at e2;cases e2;obtain⟨W3,le3,r3,ef⟩:=r2.knowT hbt;exact⟨W3,le3,r3, .tup (SqT.of ef) (zju _)⟩
 .intro h;rw[List.length_map] at h;exact⟨h,_,zhu l2,s2⟩
instance[a:zN K fl tl w]:zke K fl (zrD tl) (zm4 w):=⟨fun{W ρ μ σ H Q Q'} r e h k=>a.run r e h fun W1 d μ1 x H1 le1 r1 q1 h1=>by
 obtain⟨kc,ks,vs,rfl,hk,h1⟩:=h1;obtain⟨p,rfl,hb⟩:=q1.cell';obtain⟨a',e1,e2,xs,e3,l,z⟩:=r1.cel kc _ hk;rw[hb] at e1;cases e1;refine⟨p,ks.zip xs,rfl,e3,fun o=>?_⟩;rw[zhu l];exact k W1 _ _ _ _ _ le1 (r1.setC (c':= .fdtt o ks vs) hk hb ⟨xs,rfl,l,z⟩) (zt3 hb) (h1 o)⟩
instance{ta tx:TE}{t:TA}{wa wx:DE}{w:DA}[a:zN K fl ta wa][b:zbR K fl t w][c:zN K fl tx wx]:zN K fl (zm3 ta (zpw t) tx) (zm0 wa w wx):=⟨fun{W ρ μ σ H Q Q'} r e h k=>a.run r e h fun W1 d μ1 x H1 le1 r1 q1 h1=>by
 obtain⟨h1,h1'⟩:=h1;obtain⟨p,ks,vs,xs,rfl,ea,l,z,_⟩:=zk4 r1 q1 h1;refine⟨p,rfl, .inr ⟨_, .inl ea⟩,b.run r1 (e.mono le1) h1' fun W2 ds μ2 ys H2 le2 r2 q2 h2=>?_⟩;obtain⟨hz,h2⟩:=h2;refine⟨by rw[q2.length];exact Nat.le_trans hz (by decide),fun kp hkp=>?_⟩;obtain⟨r2',le2'⟩:=r2.newF (o:= .tup ys) hkp;refine c.run r2' (e.mono (le1.trans (le2.trans le2'))) h2 fun W3 d3 μ3 y3 H3 le3 r3 q3 h3=>?_
 obtain⟨p',ks',vs',xs',e',ea',l',z',h4⟩:=zk4 r3 (q1.mono (le2.trans (le2'.trans le3))) h3;cases e';obtain⟨kk,ek,h4⟩:=zcW h4;have ep:H3 kp=some (.tup (kk.map kV)):=by
  rw[r3.sub _ _ (le3.F _ _ (show upd W2.F kp (.tup ys) kp=some (.tup ys) from zq)),zk9 q2 ek]
 refine⟨_,zl1.t ea' ep,?_⟩;obtain⟨f1,f2⟩:=zfV (k:=kk) l' z';have leA:=le1.trans (le2.trans (le2'.trans le3));cases eo:zcc ks' vs' kk with
 | none =>
  rw[f2 eo];rw[eo] at h4;exact k W3 d3 μ3 _ H3 leA r3 q3 h4
 | some v =>
  obtain⟨y',ey,qy⟩:=f1 v eo;rw[ey];rw[eo] at h4;exact k W3 v μ3 y' H3 leA r3 qy h4⟩
instance{ta:TE}{t:TA}{wa:DE}{w:DA}[a:zN K fl ta wa][b:zbR K fl t w]:zN K fl (zpR ta (zpw t)) (zmZ wa w):=⟨fun{W ρ μ σ H Q Q'} r e h k=>a.run r e h fun W1 d μ1 x H1 le1 r1 q1 h1=>b.run r1 (e.mono le1) h1 fun W2 ds μ2 ys H2 le2 r2 q2 h2=>by
 obtain⟨hz,h3⟩:=h2;refine⟨by rw[q2.length];exact Nat.le_trans hz (by decide),fun p hp=>?_⟩;obtain⟨c,o,ks,vs,rfl,hk,h3⟩:=h3;obtain⟨a',rfl,hb⟩:=(q1.mono le2).cell';obtain⟨a2,e1,_,xs,e3,l,z⟩:=r2.cel c _ hk;rw[hb] at e1;cases e1;obtain⟨kk,ek,h3⟩:=zcW h3;obtain⟨v,ev,h3⟩:=zcW h3;obtain⟨y',ey,qy⟩:=(zfV (k:=kk) l z).1 v ev;obtain⟨W3,le3,r3,ep⟩:=zn0 r2 q2 hp ek;refine⟨a',y',rfl,?_,k W3 v μ2 y' _ (le1.trans (le2.trans le3)) r3 (qy.mono le3) h3⟩;rw[<- ey];exact .inr ⟨_,kk,p, .inr ⟨o,by rw[zm (zM e3 hp)];exact e3⟩,rfl,ep,rfl⟩⟩
end
section
variable{P:Program}{w:World}{M:Model}{A:Around}{E:Value->Shared->Prop}{s:Shared}{base g:Heap}{env:Env}{outer:List Env}{L e C:Addr}{dx:Option Addr}{H:Hp}{f3:Value}
end
structure zqm(K:W.Frag)(D:Addr):Prop where
 ga:W.findIn K (.ref D) "__getattribute__"=some (some (.builtin "BaseException.__getattribute__"))
 gh:W.findIn K (.ref D) "__getattr__"=some none
 hb:W.mroIn K D (.type "BaseException")=some true
 ho:W.mroIn K D (.type "object")=some true
 fc:W.findIn K (.ref D) "__class__"=some (some (.builtin "object.__class__"))
 sp:W.specialIn K (.builtin "object.__class__") "__get__"=some (some (.builtin "getset_descriptor.__get__"))
 tk:W.takesIn K (.builtin "object.__class__")=some true
 hk:W.kitCls K (.ref D) (.ref D)=some true
theorem zqm.cls{K:W.Frag}{D:Addr}(c:zqm K D):∃cd,W.clsIn K D=some cd:=by
 have h:=c.hk;unfold W.kitCls at h;cases e:W.clsIn K D with
 | some cd=>exact⟨cd,rfl⟩
 | none=>simp[e] at h
section
variable{X:Cx}{pins:List (Addr×Obj)}{σ:St}{H:Hp}{s:Shared}{g h':Heap}
end
section
variable{P:Program}{w:World}{K:Frag}{mg:Str->Option Value}{base:Heap}{N:List Str}{qual:Str}{scope:Scope}{f:Addr}{cd:Value}{A:Around}{outer:List Env}{s:Shared}{H:Hp}{E:XK}{cm:Bool}
end
abbrev bmV:List Value:=[.type "ValueError", .type "Exception", .type "BaseException", .type "object"]
abbrev newV:String:="ValueError.__new__"
section
variable{X:Cx}{E:St->XK}{x:Str}{C:Addr}{np cpos pos:Pos}{a:Expr}{as:List Expr}{t:TA}
end
section
variable{X:Cx}{E:St->XK}{k j:Nat}{f C:Addr}{fd:FuncData}{ps ks:List Str}{sp:Sp}{x c m:Str}{p pos apos:Pos}{e o:Expr}{es:List Expr}{kws:List Keyword}{ta:TE}{t tk:TA}{g:List Value->List Value->List Value}{gV:List V->List V->List V}
end
abbrev Cx.tr(X:Cx)(xe:Value->Shared->Prop)(pn:List (Addr×Obj)):Cx:={ X with xe:=xe,pn:=pn }
section
variable{X:Cx}{pins pn:List (Addr×Obj)}{σ:St}{H:Hp}{s:Shared}{xe:Value->Shared->Prop}{e:Addr}{g:Heap}
theorem Cx.Ok.tr(ok:X.Ok):(X.tr xe pn).Ok:=⟨ok.mod,ok.kind,ok.glob,ok.blt,ok.above,ok.inj,ok.has,ok.cab,ok.hd,ok.frames,ok.stk,ok.exf,ok.bs,ok.bsz,ok.noex,ok.exfs,ok.funs,ok.frf⟩
end
section
variable{X:Cx}{i:Nat}{n x:Str}{Ch:Addr}{body suite:List Stmt}{b₀:Stmt}{np hpos pos:Pos}{tb:(St->XK)->TS}{th:TS}
end
section
variable{X:Cx}{cm:Bool}{j k:Nat}{f:Addr}{fd:FuncData}{ps:List Str}{sp:Sp}{x:Str}{p pos:Pos}{e:Expr}{es:List Expr}{t:TA}
end
section
variable{P:Program}{w:World}{K:Frag}{fl:Wd}{mg:Str->Option Value}{base:Heap}
end
def zsv(K:Frag)(D:Addr):Bool :=
 W.findIn K (.ref D) "__getattribute__"==some (some (.builtin "BaseException.__getattribute__"))&&W.findIn K (.ref D) "__getattr__"==some none&&W.mroIn K D (.type "BaseException")==some true&&W.mroIn K D (.type "object")==some true &&
 W.findIn K (.ref D) "__class__"==some (some (.builtin "object.__class__"))&&W.specialIn K (.builtin "object.__class__") "__get__"==some (some (.builtin "getset_descriptor.__get__"))&&W.takesIn K (.builtin "object.__class__")==some true&&W.kitCls K (.ref D) (.ref D)==some true
theorem zqm.of{K:Frag}{D:Addr}(h:zsv K D=true):zqm K D:=by
 unfold zsv at h;simp only[Bool.and_eq_true,beq_iff_eq] at h;obtain⟨⟨⟨⟨⟨⟨⟨h1,h2⟩,h3⟩,h4⟩,h5⟩,h6⟩,h7⟩,h8⟩:=h;exact⟨h1,h2,h3,h4,h5,h6,h7,h8⟩
def zj9(K:Frag)(es ps ks hs:List Str):Bool:=es.all fun c=>match clsOf K c with
 | none=>false
 | some C=>znn c&&zsv K C&&(!ps.contains c||W.excIn K C bmV newV)&&W.kitOne K (.ref C) (.type "ValueError")==some true &&
  (ks.all fun k=>match clsOf K k with
   | none=>false
   | some D=>W.kitOne K (.ref C) (.ref D)==some (c==k)) &&
  hs.all fun k=>match clsOf K k with
   | none=>false
   | some D=>W.exmOne K (.ref C) (.ref D)==some true
class zjW(K:Frag)(es:List Str)(ps:outParam (List Str))(ks:List Str)(hs:outParam (List Str)):Prop where
 ok:zj9 K es ps ks hs=true
section
variable{K:Frag}{es ps ks hs:List Str}{c k:Str}{C D:Addr}
theorem zjW.row(t:zjW K es ps ks hs)(hc:c∈es)(h:clsOf K c=some C):(znn c=true/\zqm K C)/\(c∈ps->W.excIn K C bmV newV=true)/\W.kitOne K (.ref C) (.type "ValueError")=some true /\
  (∀k∈ks,∀D,clsOf K k=some D->W.kitOne K (.ref C) (.ref D)=some (c==k))/\∀k∈hs,∀D,clsOf K k=some D->W.exmOne K (.ref C) (.ref D)=some true:=by
 have e:=t.ok;unfold zj9 at e;have e:=List.all_eq_true.mp e c hc;rw[h] at e;simp only[Bool.and_eq_true,beq_iff_eq,List.all_eq_true,Bool.or_eq_true,Bool.not_eq_true'] at e;obtain⟨⟨⟨⟨⟨e0,e1⟩,e2⟩,e3⟩,e4⟩,e5⟩:=e;refine⟨⟨e0, .of e1⟩,fun hp=>e2.resolve_left (by rw[List.contains_iff_mem.mpr hp];simp),e3,fun k hk D hD=>?_,fun k hk D hD=>?_⟩
 .have:=e4 k hk;rw[hD] at this;simpa using this
 .have:=e5 k hk;rw[hD] at this;simpa using this
theorem zjW.cf(t:zjW K es ps ks hs)(hc:c∈es):znn c=true:=by
 have e:=t.ok;unfold zj9 at e;have e:=List.all_eq_true.mp e c hc;cases h:clsOf K c with
 | none=>rw[h] at e;cases e
 | some C=>exact(t.row hc h).1.1
theorem zjW.exc(t:zjW K es ps ks hs)(i:zn3 K c C)(hc:c∈es)(hp:c∈ps):W.excIn K C bmV newV=true:=(t.row hc i.at_).2.1 hp
end
def zyW(es ks:List Str):DRs:=fun ds μ Q=>match ds with
 | [.exc c, .cls k]=>c∈es/\k∈ks/\Q (.bl (c==k)) μ
 | [.exc c, .ty n]=>c∈es/\n="ValueError"/\Q (.bl true) μ
 | _=>False
abbrev DX:=Str->Mu->Prop
abbrev DXE:=zX->DX
abbrev zps:=List D->Mu->DK->DX->Prop
class XR(K:Frag)(fl:Wd)(Ex:DXE)(E:St->XK):Prop where
 run:∀{W ρ μ σ H c C dx},Rel K fl W μ H->zaS K W ρ σ->Ex ρ c μ->XAt K W c C dx->E σ (.ref C) dx H
def zwz(c:Str)(Ex:DXE)(w:DA):DS:=fun _ ρ μ=>w ρ μ fun ds μ1=>ds.length<=sizeLine/\Ex ρ c μ1
def zwj(dsp:zps)(Ex:DXE)(n m:Nat)(pat:List Src)(cs:List D)(w wk:DA):DE:=fun ρ μ Q=>w ρ μ fun ds μ1=>wk ρ μ1 fun es μ2=>dsp (sel n m pat .non cs ds es) μ2 Q (Ex ρ)
def zw4(c m:Str)(dsp:zps)(Ex:DXE)(n j:Nat)(pat:List Src)(cs:List D)(wo:DE)(w wk:DA):DE:=fun ρ μ Q=>wo ρ μ fun d μ1=>(zkl μ1 d fun c' ns vs=>c'=c/\(ns.zip vs).lookup m=none)/\w ρ μ1 fun ds μ2=>wk ρ μ2 fun es μ3=>dsp (sel n j pat .non cs (d::ds) es) μ3 Q (Ex ρ)
def zsl(D:zbB)(i:Nat):zbB:={ nx:=fun ρ μ=>D.nx (ρ.set i none) μ,rt:=D.rt,bk:=fun ρ μ=>D.bk (ρ.set i none) μ,ct:=fun ρ μ=>D.ct (ρ.set i none) μ }
def zzi(es:List Str)(i:Nat)(wb:DXE->DS)(wh:DS):DS:=fun D ρ μ=>wb (fun ρ' c μ'=>c∈es/\wh (zsl D i) (ρ'.set i (some (.exc c))) μ') D ρ μ
section
variable{K:Frag}{fl:Wd}{Ex:DXE}{E:St->XK}{t tk:TA}{w wk:DA}{n j m:Nat}{pat:List Src}{csD:List D}{csV:List V}{c:Str}{C:Addr}{dsp:zps}
end
class zzj(K:Frag)(es:List Str)(Ch:Addr):Prop where
 run:∀c∈es,∀C,clsOf K c=some C->W.exmOne K (.ref C) (.ref Ch)=some true
 cf:∀c∈es,znn c=true
theorem zjW.hd{K:Frag}{es ps ks hs:List Str}{h:Str}{Ch:Addr}(t:zjW K es ps ks hs)(i:zn3 K h Ch)(hh:h∈hs):zzj K es Ch:=⟨fun c hc C hC=>(t.row hc hC).2.2.2.2 h hh Ch i.at_,fun c hc=>t.cf hc⟩
structure XP(K:Frag)(fl:Wd) where
 Ex:DXE
 E:St->XK
 ok:XR K fl Ex E
section
variable{P:Program}{w:World}{K:Frag}{fl:Wd}{mg:Str->Option Value}{base:Heap}
end
section
variable{X:Cx}{E:St->XK}
end
section
variable{P:Program}{w:World}{K:Frag}{mg:Str->Option Value}{base:Heap}
end
section
variable{P:Program}{w:World}{K:Frag}{mg:Str->Option Value}{base:Heap}{N:List Str}{qual:Str}{scope:Scope}{f:Addr}{cd:Value}{A:Around}{outer:List Env}{s:Shared}{H:Hp}{E:XK}{cm:Bool}
end
section
variable{K:Frag}{fl:Wd}
end
theorem zxg{es ks:List Str}{c k:Str}{μ:Mu}{Q:DK}:zyW es ks [.exc c, .cls k] μ Q=(c∈es/\k∈ks/\Q (.bl (c==k)) μ):=rfl
theorem zvE{es ks:List Str}{c:Str}{n:String}{μ:Mu}{Q:DK}:zyW es ks [.exc c, .ty n] μ Q=(c∈es/\n="ValueError"/\Q (.bl true) μ):=rfl
def zyn:DR2:=fun d e μ Q=>match d,e with
 | .int _, .bl _=>Q (.bl false) μ
 | .bl a, .bl b=>Q (.bl (a==b)) μ
 | _,_=>False
theorem zwn{i:Int}{b:Bool}{μ:Mu}{Q:DK}:zyn (.int i) (.bl b) μ Q=Q (.bl false) μ:=rfl
theorem zv7{a b:Bool}{μ:Mu}{Q:DK}:zyn (.bl a) (.bl b) μ Q=Q (.bl (a==b)) μ:=rfl
section
variable{X:Cx}{E:St->XK}{j k:Nat}{f C:Addr}{fd:FuncData}{ps ks:List Str}{sp:Sp}{c:Str}{p pos:Pos}{e:Expr}{es:List Expr}{t tk:TA}{kws:List Keyword}{g:List Value->List Value->List Value}{gV:List V->List V->List V}
end
def zvg(c:Str)(dsp:zps)(Ex:DXE)(n j:Nat)(pat:List Src)(cs:List D)(w wk:DA):DE:=fun ρ μ Q=>w ρ μ fun ds μ1=>wk ρ μ1 fun es μ2=>∀k,μ2 k=none->dsp (sel n j pat .non cs (.cell k::ds) es) (zH μ2 k (.ins c [] [])) (fun d μ3=>d= .non/\Q (.cell k) μ3) (fun x μ3=>∃ μ4,MLe μ4 μ3/\Ex ρ x μ4)
def ztw(c:Str)(dsp:zps)(Ex:DXE)(n j:Nat)(pat:List Src)(cs:List D)(w wk:DA):DE:=fun ρ μ Q=>w ρ μ fun ds μ1=>wk ρ μ1 fun es μ2=>∀k,μ2 k=none->dsp (sel n j pat .non cs (.cell k::ds) es) (zH μ2 k (.ins c [] [])) (fun d μ3=>d= .non/\ziH μ3 (.cell k) Q) (fun x μ3=>∃ μ4,MLe μ4 μ3/\Ex ρ x μ4)
section
variable{K:Frag}{fl:Wd}{Ex:DXE}{E:St->XK}{c:Str}{dsp:zps}{n j:Nat}{pat:List Src}{csD:List D}{csV:List V}{t tk:TA}{w wk:DA}
end
def zuA:DR2:=fun d e μ Q=>match d,e with
 | .int i, .bl b=>Q (.int (i*if b=true then 1 else 0)) μ
 | d,e=>ziX d e μ Q
theorem zsT{i:Int}{b:Bool}{μ:Mu}{Q:DK}:zuA (.int i) (.bl b) μ Q=Q (.int (i*if b=true then 1 else 0)) μ:=rfl
theorem zup{i j:Int}{μ:Mu}{Q:DK}:zuA (.int i) (.int j) μ Q=(ziN i j/\Q (.int (i*j)) μ):=rfl
abbrev TJ:=St->Hp->Str->(Str->Hp->Prop)->Prop
section
variable{X:Cx}{e e2:Expr}{es:List Expr}{te:TE}{t:TJ}{pos:Pos}
end
abbrev DJ:=zX->Mu->Str->(Str->Mu->Prop)->Prop
def zys:DJ:=fun _ μ acc R=>R acc μ
def zxk(w:DE)(r:DJ):DJ:=fun ρ μ acc R=>w ρ μ fun d μ1=>match d with
 | .str y=>(acc++y).length<=sizeLine/\r ρ μ1 (acc++y) R
 | _=>False
def zzb(w:DE):DE:=fun ρ μ Q=>w ρ μ fun d μ1=>match d with
 | .str y=>y.length<=sizeLine/\Q (.str y) μ1
 | _=>False
def zyu(l:DJ):DE:=fun ρ μ Q=>l ρ μ Str.empty fun out μ1=>out.length<=sizeLine/\Q (.str out) μ1
section
variable{K:Frag}{fl:Wd}{te:TE}{we:DE}{t:TJ}{w:DJ}
end
section
variable{X:Cx}{tg iter elt:Expr}{ifs:List Expr}{scope:Scope}{pos:Pos}{own free:List Str}{fr:List Nat}
end
section
variable{X:Cx}{pos pos':Pos}
end
section
variable{K:Frag}{fl:Wd}{te:(St->XK)->TE}{we:DXE->DE}{tc:TT}{wc:DT}{wi:TI}{di:DI}{g:TG}{dg:DG}{S:List Nat}{Ex:DXE}{E:St->XK}
end
end L2
set_option maxHeartbeats 1000000
namespace L2
open PySem PySem.Spec PyProof.Rows
section
variable{prog:Program}{w:World}{A:Around}{E:Value->Shared->Prop}{h:Heap}{g:Array GenState}{d:Drawn}{t:Nat}{os:OsState}
variable{nm q:Str}{C N:Addr}{bs bm bmB:List Value}{hdct:Bool}{sn:List Str}{sub:List Value}{ab:Bool}{col:Option Bool}{dd:Option Addr}{k0 k1 k2 k3 k5:Option Value}{B newId initId:String}
end
section
variable{M:Model}{A:Around}{E:Value->Shared->Prop}{env:Env}
variable{nm q:Str}{C N:Addr}{bs bm:List Value}{hdct:Bool}{sn:List Str}{sub:List Value}{ab:Bool}{col:Option Bool}{dd:Option Addr}{k0 k1 k2 k3 k5:Option Value}{newId:String}
end
section
variable{prog:Program}{w:World}{M:Model}{A:Around}{E:Value->Shared->Prop}{h:Heap}{g:Array GenState}{d:Drawn}{t:Nat}{os:OsState}
end
section
variable{prog:Program}{w:World}{A:Around}{E:Value->Shared->Prop}{s:Shared}{K:W.Frag}{x C:Addr}{ox:Obj}{cd:ClassData}{name:Str}{v:Value}
end
section
variable{prog:Program}{w:World}{M:Model}{A:Around}{E:Value->Shared->Prop}{h:Heap}{g:Array GenState}{d:Drawn}{t:Nat}{os:OsState}
end
section
variable{prog:Program}{w:World}{A:Around}{E:Value->Shared->Prop}{env:Env}{m:Str->Option Value}{x z out:Str}{tk:Tok}{Q:Value->Shared->Prop}
end
section
variable{prog:Program}{w:World}{A:Around}{E:Value->Shared->Prop}{s:Shared}{K:W.Frag}{mg mb:Str->Option Value}{e1 e2:Expr}{es:List Expr}{x z out qual:Str}{tk:Tok}{p0 p1 p2 p3 p4 p5 p6 p7 p8 p9:Pos}{Q:Value->Shared->Prop}
 {fI C cda cc e t:Addr}{od cdd cld an:Option Addr}{oc ccl cl dV kV doc pm ct:Value}{osl ccs csl:Array (Option Value)}{params:Arguments}{scope:Scope}{vs:Array Value}{file:Str}{tf:Tok}{cd:ClassData}{ar:Arg}
 {nm qn:Str}{N:Addr}{bs bm:List Value}{hdct:Bool}{sn:List Str}{sub:List Value}{ab:Bool}{col:Option Bool}{dd:Option Addr}{k0 k1 k2 k3 k5:Option Value}{newId:String}
end
section
variable{X:Cx}{E:St->XK}{k:Nat}{c fld:Str}{f:Str->Option Str}{np cpos pos:Pos}{a:Expr}{t:TE}
end
section
variable{P:Program}{w:World}{K:W.Frag}{mg:Str->Option Value}{e1 e2:Expr}{es:List Expr}{c x qual:Str}{p0 p1 p2 p3 p4 p5 p6 p7 p8 p9:Pos}
 {fI C cda cc:Addr}{od cdd cld an:Option Addr}{oc ccl cl dV kV doc pm ct:Value}{osl ccs csl:Array (Option Value)}{params:Arguments}{scope:Scope}{vs:Array Value}{file:Str}{tf:Tok}{cd:ClassData}{ar:Arg}
end
section
variable{X:Cx}{e:Expr}{te:TE}{pos:Pos}
end
section
variable{K:Frag}{fl:Wd}{Ex:DXE}{E:St->XK}{t:TE}{w:DE}{c:Str}{f:Str->Option Str}
end
def zuH(K:Frag):R2:=fun x y H Q=>∃a b ys,x= .ref a/\y= .ref b/\SqT K H a []/\SqT K H b ys/\Q (.ref b) H
section
variable{prog:Program}{w:World}{A:Around}{E:Value->Shared->Prop}{s:Shared}
theorem zsf{t b:Addr}{ws:List Value}{Q:Value->Shared->Prop}(ht:IsTup s.heap t (#[]:Array Value))(hb:IsTup s.heap b ws.toArray)(h:Q (.ref b) s):wpAny (model prog w) A (binaryOp .Add (.ref t) (.ref b)) Q E s:=by
 obtain⟨⟨cls,dd,data,sl⟩,ho,hc,n,hd⟩:=id ht;obtain⟨⟨cls2,dd2,data2,sl2⟩,ho2,hc2,n2,hd2⟩:=id hb;simp only at hc hd hc2 hd2;subst hc hd hc2 hd2;exact concat_meets ⟨_,ho,rfl⟩ ⟨_,ho2,rfl⟩ noFill_tuple_add seq_tuple_add PySem.F.slot_tuple_add PySem.F.entry_tuple_add (PySem.F.args_tuple_add_2 _ _)
  (tuple_addW0 t b #[] ws.toArray n n2 dd dd2 sl sl2 rfl) ⟨ho,ho2,h⟩
end
theorem ztT{X:Cx}:OpR X (binaryOp .Add) (zuH X.K):=by
 intro pins s σ H x y v u Q I rx ry h;obtain⟨a,b,ys,rfl,rfl,ha,hb,q⟩:=h;cases rx;cases ry;obtain⟨its,r1,p1,_⟩:=I.tuple ha;obtain⟨its2,r2,p2,_⟩:=I.tuple hb;obtain rfl:=r1.nil_iff.mpr rfl;exact zsf p1 p2 ⟨.ref b,H,I,rfl,q⟩
def zu0(K:Frag):R2:=fun x y H Q=>zrl K x y H Q\/zuH K x y H Q
theorem ztv{X:Cx}(K:Frag)(h:X.K=K:=by rfl):OpR X (binaryOp .Add) (zu0 K):=h▸zoc.or ztT
def zn6:DR2:=fun d e μ Q=>match d,e with
 | .tup a, .tup b=>a.length+b.length<=sizeLine/\Q (.tup (a++b)) μ
 | _,_=>False
theorem zvP{a b:List D}{μ:Mu}{Q:DK}:zn6 (.tup a) (.tup b) μ Q=(a.length+b.length<=sizeLine/\Q (.tup (a++b)) μ):=rfl
instance{K:Frag}{fl:Wd}:zbj K fl (zu0 K) zn6:=⟨fun{W μ H d e x y Q Q'} r q1 q2 h k=>by
 unfold zn6 at h;split at h
 .rename_i a b;obtain⟨p,xs,rfl,s1,z1⟩:=q1.tup';obtain⟨p',ys,rfl,s2,z2⟩:=q2.tup';obtain⟨hz,h⟩:=h;by_cases hn:xs=[]
  .subst hn;have e:=z1.length;have ea:a=[]:=List.length_eq_zero_iff.mp e.symm;subst ea;exact .inr ⟨p,p',ys,rfl,rfl,s1.sm r.sub,s2.sm r.sub,k _ _ _ _ _ (.refl _) r q2 h⟩
  .refine .inl ⟨p,p',xs,ys,rfl,rfl,s1.sm r.sub,s2.sm r.sub,hn,by rw[z1.length,z2.length];exact hz,fun z=>?_,fun _ q hq=>?_⟩
   .have:=z2.length;rw[z] at this;have e:b=[]:=List.length_eq_zero_iff.mp this.symm;subst e;rw[List.append_nil] at h;exact k _ _ _ _ _ (.refl _) r q1 h
   .obtain⟨r2,le2⟩:=r.newF (o:= .tup (xs++ys)) hq;exact k _ _ _ _ _ le2 r2 (.tup (SqT.of zq) ((z1.mono le2).append (z2.mono le2))) h
 .exact h.elim⟩
section
variable{prog:Program}{w:World}{A:Around}{E:Value->Shared->Prop}{s:Shared}{K:Frag}
structure zyX(params:Arguments)(body:Expr)(scope:Scope)(x fld:Str):Prop where
 bd:∃p1 p2,body= .Attribute (.Name x p1) fld p2
 ab:∀env:Env,attributeBase (match body with | .Attribute e _ _=>e | e=>e) fld env (eval (match body with | .Attribute e _ _=>e | e=>e) env)=eval (match body with | .Attribute e _ _=>e | e=>e) env
 k:scope.kind= .function
 n:∀y∈scope.names,y.2≠ .cell
 lx:scope.names.lookup x=some .local
 co:scope.isCoroutine=false
 gen:scope.isGenerator=false
 d:(x==("__debug__":Str))=false
 b:∀(qual:Str) (pm cdv ctv u:Value),bindArgs (kla_fn "<lambda>" qual params body scope [] pm cdv ctv) ⟨[u],[]⟩=pure [(x,u)]
theorem zrw{f a c' C dx:Addr}{qual x fld z:Str}{scope:Scope}{body:Expr}{pm ctv:Value}{params:Arguments}{mA:Str->Option Value}{tz:Tok}{Q:Value->Shared->Prop}(T:zyX params body scope x fld)
  (KX:K.In s.heap)(hlim:s.heap.NoLimit)(hroom:A.depth < recursionLimit)
  (hf:s.heap.get? f=some (kla_obj "<lambda>" qual params body scope [] pm c' ctv))(hc:s.heap.CodeRec (.ref c') qual)
  (O:zkC s.heap a dx C mA)(hz:mA fld=some (.str z tz))(cl:Cls K C)(na:zbH K C fld)
  (q:∀(h':Heap) (t':Nat),(∀b o,s.heap.get? b=some o->h'.get? b=some o)->Q (.str z tz) { s with heap:=h',toks:=t' }) :
  wpAny (model prog w) A (call (.ref f) [.ref a]) Q E s:=by
 obtain⟨p1,p2,rfl⟩:=T.bd;refine wpAny_call (PySem.W.kla_callFunE hroom hf rfl T.co T.gen rfl hc ?_);show wpAny _ _ (bindArgs (kla_fn "<lambda>" qual params (.Attribute (.Name x p1) fld p2) scope [] pm (.ref c') ctv) ⟨[.ref a],[]⟩) _ _ s;rw[T.b];refine wpAny_pure ?_;refine wpAny_newFunctionEnv T.n (fun y hy=>?_) (fun h' hn sb=>?_) T.k
 .rw[List.mem_singleton.mp hy];exact T.lx
 have kp:∀b o,s.heap.get? b=some o->h'.get? b=some o:=fun b o e=>by
  rw[sb.2 b (Nat.ne_of_lt (Heap.lt_size e)),Heap.get?_push_ne _ _ _ (Nat.ne_of_lt (Heap.lt_size e))];exact e
 refine⟨hlim.keeps kp,PySem.W.kla_codeExpr ?_⟩;refine zns (T.ab _) ?_;refine wpAny_Name (wpAny_loadName_local T.k ?_ hn (v:= .ref a) (by show List.lookup x [(x,Value.ref a)]=_;rw[List.lookup_cons,beq_self_eq_true]) ?_) T.d
 .exact T.lx
 .have KX':K.In h':=fun b o e=>kp b o (KX b o e)
  have O':zkC h' a dx C mA:=⟨kp _ _ O.obj,O.ns.keeps kp,O.ne⟩;exact zod (s:={ s with heap:=h',toks:=s.toks+1 }) KX' O' (cl.get fld) cl.hd na hz (by rfl) (q h' _ kp)
end
theorem zma(lp:Pos)(c':Addr):TriplesOk (zbZ lp.line lp.col c').toList:=by
 show TriplesOk [rawInt lp.line,rawInt lp.col, .ref c'];unfold TriplesOk rawInt;exact trivial
theorem zpI(lp:Pos)(c':Addr):codeAmong lp (zbZ lp.line lp.col c').toList=some (.ref c'):=by
 show codeAmong lp [rawInt lp.line,rawInt lp.col, .ref c']=_;unfold codeAmong rawInt;dsimp only;rw[if_pos (by simp)]
def zuZ(P:Addr)(ln cl:Nat)(qual:Str)(H:Hp):Prop:=H P=some (.tbl #[])\/∃c',H P=some (.tbl (zbZ ln cl c'))/\H c'=some (zd0 c' qual)
theorem zrH{Pr:Program}{w:World}{H:Hp}{h:Heap}{c':Addr}{qual:Str}(x:h.CodeRec (.ref c') qual):zai Pr w H h c' (zd0 c' qual):=by
 obtain⟨c,o,vs,t,e,h1,h2,h3⟩:=id x;cases e;refine⟨x,⟨o,h1⟩,fun g1 g2 ⟨c,o,vs,t,e,h1,h2,h3⟩ k=>?_⟩;cases e;exact⟨c',o,vs,t,rfl,k _ h1,h2,h3⟩
theorem Un.grow{fs:List Addr}{H:Hp}{h h':Heap}{P c':Addr}{ps more:Array Value}{q:Str}(hP:H P=some (.tbl ps))(k:∀b u,b≠P->h.get? b=some u->h'.get? b=some u)(he:∃u,h'.get? P=some u)(hc:h.objs.size<=c')(hn:H c'=none) :
  Un fs [] H (upd (upd H c' (zd0 c' q)) P (.tbl (ps++more))) h h':=by
 have nP:∀b,H b=none->b≠P:=fun b n z=>by rw[z,hP] at n;cases n
 have cP:c'≠P:=nP c' hn;refine⟨fun b u q n _ _=>k b u (nP b n) q,fun b u q n _ _=>⟨u.slots,k b u (nP b n) q⟩,fun b u q n _=>?_,fun b u q _=>?_,fun b xs q=>?_,fun b u xs q=>?_,fun b ps' q=>?_⟩
 .rw[zm (nP b n),zm (Nat.ne_of_lt (Nat.lt_of_lt_of_le (Heap.lt_size q) hc))];exact n
 .by_cases e:b=P
  .subst e;exact he
  .exact⟨u,k b u e q⟩
 .have e:b≠P:=fun z=>by rw[z,hP] at q;cases q
  rw[zm e,zm (zM q hn)];exact q
 .have e:b≠P:=fun z=>by rw[z,hP] at q;cases q
  rw[zm e,zm (zM q hn)];exact q
 .by_cases e:b=P
  .subst e;rw[hP] at q;cases q;exact⟨more,zq⟩
  .rw[zm e,zm (zM q hn),q];exact⟨#[],by simp⟩
theorem HOk.grow{Pr:Program}{w:World}{H:Hp}{h h':Heap}{P c':Addr}{ps more:Array Value}{q:Str}(ok:HOk Pr w H h)(hP:H P=some (.tbl ps))(k:∀b u,b≠P->h.get? b=some u->h'.get? b=some u)(hn:H c'=none)
  (hg:h'.get? P=some (tabObj (ps++more)))(hc:h'.CodeRec (.ref c') q):HOk Pr w (upd (upd H c' (zd0 c' q)) P (.tbl (ps++more))) h':=fun b u e=>by
 by_cases hb:b=P
 .subst hb;rw[zq] at e;cases e;exact hg
 .rw[zm hb] at e;by_cases hb2:b=c'
  .subst hb2;rw[zq] at e;cases e;exact zrH hc
  .rw[zm hb2] at e;have keepH:∀d o,(∀ps,o≠HO.tbl ps)->H d=some o->upd (upd H c' (zd0 c' q)) P (.tbl (ps++more)) d=some o:=fun d o no e=>by
    have:d≠P:=fun z=>by rw[z,hP] at e;cases e;exact no _ rfl
    rw[zm this,zm (zM e hn)];exact e
   refine(ok b u e).stay (fun d v hd r=>k d v (fun z=>?_) r) (fun d r=>keepH _ _ (fun _ z=>by cases z) r) fun d xs r=>keepH _ _ (fun _ z=>by cases z) r
   rcases hd with rfl | hd
   .exact hb z
   .rw[z,hP] at hd;cases hd
section
variable{X:Cx}{pins:List (Addr×Obj)}{σ:St}{H:Hp}{s:Shared}{P c:Addr}{lp:Pos}{params:Arguments}{body:Expr}{scope:Scope}{Q:Value->Shared->Prop}
structure zkn(base:Heap)(mg:Str->Option Value)(c P:Addr):Prop where
 hd:CodeHd base c P
 bi:base.BuiltinsAt mg P
 ne:mainGlobals≠P
theorem znI{h h':Heap}(x:CodeHd h c P)(k:∀b o,h.get? b=some o->h'.get? b=some o):CodeHd h' c P:=by
 obtain⟨o,vs,file,tf,flags,tg,inF,text,tt,e,r⟩:=x;exact⟨o,vs,file,tf,flags,tg,inF,text,tt,k _ _ e,r⟩
theorem znX{mg:Str->Option Value}{h h':Heap}(x:h.BuiltinsAt mg P)(k:∀b o,h.get? b=some o->h'.get? b=some o):h'.BuiltinsAt mg P:=by
 obtain⟨bm,o,e1,e2,e3,e4,e5,r⟩:=x;exact⟨bm,o,e1,e2,e3,e4,k _ _ e5,r⟩
theorem zrk(I:Inv X pins σ H s)(hcode:X.env.code= .ref c)(B:zkn X.base X.mg c P)(hcl:closureFor scope X.env=pure [])(hdf:defaultsOf params X.env=([],[]))(T:zuZ P lp.line lp.col (X.env.qual++"<lambda>") H)
  (q:∀(s':Shared) (H':Hp) (f c':Addr) (pm ctv:Value),Inv X pins σ H' s'->(H P=some (.tbl #[])/\H c'=none/\H'=upd (upd H c' (zd0 c' (X.env.qual++"<lambda>"))) P (.tbl (zbZ lp.line lp.col c'))\/H'=H/\H P=some (.tbl (zbZ lp.line lp.col c'))/\H c'=some (zd0 c' (X.env.qual++"<lambda>"))) ->
   s'.heap.get? f=some (kla_obj "<lambda>" (X.env.qual++"<lambda>") params body scope [] pm c' ctv)->s'.heap.CodeRec (.ref c') (X.env.qual++"<lambda>")->H' f=none->Q (.ref f) s') :
  wpAny (model X.prog X.w) X.A (eval (.Lambda params body scope lp) X.env) Q X.xe s:=by
 refine PySem.W.kla_eval hdf ?_;have kb:∀b o,X.base.get? b=some o->s.heap.get? b=some o:=fun b o e=>(I.bs b o e).1
 rcases T with hP | ⟨c',hP,hc'⟩
 .have gP:s.heap.get? P=some (tabObj #[]):=I.hok P _ hP;refine PySem.W.kla_makeFunction (c:=c) (P:=P) (ps:= #[]) hcl I.ok.glob (I.ok.mod.glob.keeps kb) hcode (znI B.hd kb) gP trivial rfl B.ne (znX B.bi kb) fun c' ctv h' tk ext hsz hlt hrec hg=>?_
  have hn:H c'=none:=I.hok.fresh hsz;have cP:c'≠P:=fun z=>by rw[z,hP] at hn;cases hn
  have k:∀b u,b≠P->s.heap.get? b=some u->(h'.push (kla_obj "<lambda>" (X.env.qual++"<lambda>") params body scope [] ((X.mg "__name__").getD Value.none) c' ctv)).get? b=some u:=fun b u hb e=>Heap.get?_push_of_some _ (ext b u hb e)
  have hg2:(h'.push (kla_obj "<lambda>" (X.env.qual++"<lambda>") params body scope [] ((X.mg "__name__").getD Value.none) c' ctv)).get? P=some (tabObj (#[]++zbZ lp.line lp.col c')):=Heap.get?_push_of_some _ hg;have hr2:(h'.push (kla_obj "<lambda>" (X.env.qual++"<lambda>") params body scope [] ((X.mg "__name__").getD Value.none) c' ctv)).CodeRec (.ref c') (X.env.qual++"<lambda>"):=by
   obtain⟨d,o,vs,t,e,g1,g2,g3⟩:=hrec;exact⟨d,o,vs,t,e,Heap.get?_push_of_some _ g1,g2,g3⟩
  have I':=I.un (t':=tk) (Un.grow (q:=X.env.qual++"<lambda>") hP k ⟨_,hg2⟩ hsz hn) (I.hok.grow hP k hn hg2 hr2);refine q _ _ h'.objs.size c' _ ctv I' (.inl ⟨hP,hn,by simp⟩) (Heap.get?_push_size _ rfl) hr2 ?_;have hPl:P < s.heap.objs.size:=Heap.lt_size gP;rw[zm (Nat.ne_of_gt (Nat.lt_trans (Nat.lt_of_lt_of_le hPl hsz) hlt)),zm (Nat.ne_of_gt hlt)];exact I.hok.fresh (Nat.le_of_lt (Nat.lt_of_le_of_lt hsz hlt))
 .have gP:s.heap.get? P=some (tabObj (zbZ lp.line lp.col c')):=I.hok P _ hP;refine PySem.W.kla_makeFunctionHit (c:=c) (P:=P) (ps:=zbZ lp.line lp.col c') hcl I.ok.glob (I.ok.mod.glob.keeps kb) hcode (znI B.hd kb) gP (zma _ _) (zpI _ _) (znX B.bi kb) fun ctv h' tk ext hsz=>?_
  have k:∀b u,s.heap.get? b=some u->(h'.push (kla_obj "<lambda>" (X.env.qual++"<lambda>") params body scope [] ((X.mg "__name__").getD Value.none) c' ctv)).get? b=some u:=fun b u e=>Heap.get?_push_of_some _ (ext b u e)
  have hrec:s.heap.CodeRec (.ref c') (X.env.qual++"<lambda>"):=(I.hok c' _ hc').1;have hr2:(h'.push (kla_obj "<lambda>" (X.env.qual++"<lambda>") params body scope [] ((X.mg "__name__").getD Value.none) c' ctv)).CodeRec (.ref c') (X.env.qual++"<lambda>"):=by
   obtain⟨d,o,vs,t,e,g1,g2,g3⟩:=hrec;exact⟨d,o,vs,t,e,k _ _ g1,g2,g3⟩
  exact q _ _ h'.objs.size c' _ ctv (I.kept (t':=tk) k) (.inr ⟨rfl,hP,hc'⟩) (Heap.get?_push_size _ rfl) hr2 (I.hok.fresh hsz)
end
def sAt(zs:List Str)(i j:Nat):Bool:=sLt (zs.getD i Str.empty) (zs.getD j Str.empty)
theorem zsR(zs:List Str):Ord (sAt zs) where
 as:=fun _ _ h=>zqk h
 tr:=fun _ _ _ h h'=>zqp h h'
section
variable{prog:Program}{w:World}{A:Around}{E:Value->Shared->Prop}{s:Shared}
def zuJ(prog:Program)(w:World)(A:Around)(s:Shared)(h0:Heap)(f:Addr)(v:Value)(z:Str):Prop:=∀(h1:Heap) (t1:Nat),Kept h0 h1->∀(C:Value->Shared->Prop),
 (∀h' t' tz,(∀b o,h1.get? b=some o->h'.get? b=some o)->C (.str z tz) { s with heap:=h',toks:=t' })->∀E',wpAny (model prog w) A (call (.ref f) [v]) C E' { s with heap:=h1,toks:=t1 }
def zyQ(zs:List Str)(ks:List Value):Prop:=∀j,j < ks.length->∃tz,ks[j]? = some (.str (zs.getD j Str.empty) tz)
theorem zjB{a kS:Addr}{b0:Nat}{st:SortSt}{vs:List Value}{ks:List Value}{p:Array Nat}{e:Nat}{Q:PySem.Fin->Shared->Prop}(hs:Array.map (fun x=>x.2) (arrOf st)=(p.toList.map fun i=>vs.getD i Value.none).toArray)(hf:failedOf st=none)(hz:p.size<=64)(hk:ks.length<=64)
  (g1:s.heap.get? a=some (seqObj "list" #[] b0))(g2:s.heap.get? kS=some (seqObj "list" ks.toArray e))(ne:kS≠a)
  (q:∀h' n',(∀b,b≠kS->b≠a->h'.get? b=s.heap.get? b)->h'.get? a=some (seqObj "list" (p.toList.map fun i=>vs.getD i Value.none).toArray n')->Q (.done (.ret .none)) { s with heap:=h' }) :
  wpAny (model prog w) A (ksk_tail a false b0 (.ref kS) st) Q E s:=by
 unfold ksk_tail;rw[hs];dsimp only;refine wpAny_bind (listUpdate_at g2 rfl ?_ (by rw[List.size_toArray,sizeLine_eq];omega) (Nat.zero_le _));refine wpAny_bind (wpAny_letGo ?_);have g3:(s.heap.update kS (Obj.mapSeq fun _=>(#[]:Array Value))).get? a=some (seqObj "list" #[] b0):=by
  rw[Heap.get?_update_ne _ _ _ _ (Ne.symm ne)];exact g1
 refine wpAny_bind (seqEpoch_at g3 rfl ?_);refine wpAny_bind (listUpdate_at g3 rfl ?_ (Nat.zero_le _) (by rw[if_neg (by decide),List.size_toArray,List.length_map,Array.length_toList,sizeLine_eq];omega));rw[hf];simp only[bne_self_eq_false,Bool.false_eq_true,if_false];have g4:=get?_update_seq g3 (fun _=>(p.toList.map fun i=>vs.getD i Value.none).toArray);exact wpAny_pure (q _ _ (fun b b1 b2=>by rw[Heap.get?_update_ne _ _ _ _ b2,Heap.get?_update_ne _ _ _ _ b1]) g4)
theorem zqb{a kS:Addr}{b0:Nat}{vs:List Value}{ks:List Value}{zs:List Str}{e:Nat}{Q:PySem.Fin->Shared->Prop}(hkl:ks.length=vs.length)(hK:zyQ zs ks)(h64:vs.length < 64)
  (g1:s.heap.get? a=some (seqObj "list" #[] b0))(g2:s.heap.get? kS=some (seqObj "list" ks.toArray e))(ne:kS≠a)
  (q:∀(p:Array Nat) h' t' n',PN vs.length p->Srt (sAt zs) p vs.length->(∀b,b≠kS->b≠a->h'.get? b=s.heap.get? b)->h'.get? a=some (seqObj "list" (p.toList.map fun i=>vs.getD i Value.none).toArray n')->Q (.done (.ret .none)) { s with heap:=h',toks:=t' }) :
  wpAny (model prog w) A (ksk_end a false vs.toArray b0 (.ref kS) ks.toArray) Q E s:=by
 unfold ksk_end;dsimp only;rw[if_neg (by decide)];have hsz:vs.toArray.size=vs.length:=by simp
 by_cases h2:vs.toArray.size < 2
 .rw[if_pos h2,if_pos h2];refine wpAny_bind (wpAny_pure ?_);rw[StateT.run_pure];refine wpAny_bind (wpAny_pure ?_);dsimp only;have hl2:vs.length < 2:=by rw[hsz] at h2;exact h2
  refine zjB (p:=(List.range vs.length).toArray) (vs:=vs) (ks:=ks) (e:=e) ?_ rfl (by rw[List.size_toArray,List.length_range];omega) (by omega) g1 g2 ne fun h' n' c1 c2=>q _ h' s.toks n' (by show List.Perm _ _;rw[List.toList_toArray]) (fun i j hij hj=>by exfalso;omega) c1 c2
  apply Array.toList_inj.mp;show(((if false=true then(ks.toArray.zip vs.toArray).reverse else ks.toArray.zip vs.toArray)).map (·.2)).toList=_;rw[if_neg (by decide)];match vs,ks,hkl,hl2 with
  | [],[],_,_=>simp
  | [v],[k],_,_=>simp
 .rw[if_neg h2,if_neg h2];have hl2:2<=vs.length:=by rw[hsz] at h2;omega
  refine wpAny_bind (PySem.W.kas_kind (T:= .type "str") (by omega) (fun v hv=>?_) (by decide) (by decide) ?_)
  .obtain⟨j,hj,rfl⟩:=List.getElem_of_mem hv;obtain⟨tz,e1⟩:=hK j hj;rw[List.getElem?_eq_getElem hj] at e1;rw[Option.some.inj e1];exact .now
  .have askQ:∀i j (C:Bool->Shared->Prop) s',i < vs.length->j < vs.length->i≠j->s'=s->(∀s'',s''=s->C (sAt zs i j) s'')->kas_ask prog w A oneType' ks i j C s':=fun i j C s' hi hj _ es hC=>by
    subst es;obtain⟨ti,e1⟩:=hK i (by omega);obtain⟨tj,e2⟩:=hK j (by omega);unfold kas_ask;have f1:ks.getD i Value.none= .str (zs.getD i Str.empty) ti:=by rw[List.getD_eq_getElem?_getD,e1];rfl
    have f2:ks.getD j Value.none= .str (zs.getD j Str.empty) tj:=by rw[List.getD_eq_getElem?_getD,e2];rfl
    rw[f1,f2];exact PySem.W.kas_lt_str (hC _ rfl)
   have ask:(kas_sort vs.length).kasWp (kas_ask prog w A oneType' ks) (fun p s'=>s'=s/\PN vs.length p/\Srt (sAt zs) p vs.length) s :=
    zmX (I:=fun s'=>s'=s) askQ (fun p s' hp e=>⟨e,hp.1,hp.2⟩) _ _ (zgj (zsR zs) (n:=vs.length) (by omega)) rfl
   refine wpAny_bind (wpAny_mono (PySem.W.kat_run (vs:=vs) (ks:=ks) (Q:=fun st' s'=>∃p:Array Nat,p.size=vs.length/\arrOf st'=p.map (PySem.W.kas_item (ks.toArray.zip vs.toArray))/\failedOf st'=none/\(s'=s/\PN vs.length p/\Srt (sAt zs) p vs.length))
    hkl hl2 h64 (fun p' st' s' a1 a2 a3 a4=>⟨p',a1,a2,a3,a4⟩) ask) ?_ fun _ _ e=>e)
   rintro⟨⟨⟩,st'⟩ s' ⟨p,hpz,har,hf,rfl,hp,hs⟩;dsimp only;exact zjB (vs:=vs) (ks:=ks) (PySem.W.kat_snds hkl har) hf (by omega) (by omega) g1 g2 ne fun h' n' c1 c2=>q _ h' s'.toks n' hp hs c1 c2
theorem ziL{a f:Addr}{vs:List Value}{zs:List Str}{n:Nat}{P:PySem.Fin->Shared->Prop}{h0:Heap}(ho:s.heap.get? a=some (seqObj "list" vs.toArray n))
  (k0:Kept h0 s.heap)(ha0:h0.get? a=none)(h64:vs.length < 64)(hzl:zs.length=vs.length)
  (key:∀(i:Nat) v z,vs[i]? = some v->zs[i]? = some z->zuJ prog w A s h0 f v z)
  (h:∀(p:Array Nat) (h':Heap) (t' n':Nat),PN vs.length p->Srt (sAt zs) p vs.length->Kept h0 h'->h'.get? a=some (seqObj "list" (p.toList.map fun i=>vs.getD i .none).toArray n')->P (.done (.ret .none)) { s with heap:=h',toks:=t' }) :
  wpAny (model prog w) A (ksk_tree a (.ref f) false) P E s:=by
 unfold ksk_tree;have ha:a < s.heap.objs.size:=Heap.lt_size ho;refine wpAny_bind (listItems_at ho rfl ?_);refine wpAny_bind (listUpdate_at ho rfl ?_ (by rw[List.size_toArray,sizeLine_eq];omega) (Nat.zero_le _));obtain⟨e1,ho1⟩:∃e1,(s.heap.update a (Obj.mapSeq fun _=>(#[]:Array Value))).get? a=some (seqObj "list" #[] e1):=⟨_,get?_update_seq ho (fun _=> #[])⟩;refine wpAny_bind (seqEpoch_at ho1 rfl ?_);refine wpAny_bind (wpAny_newTuple ?_ (by show vs.length<=_;rw[sizeLine_eq];omega));refine wpAny_bind (wpAny_newList ?_ (Nat.zero_le _));refine wpAny_holding ?_;have ho6:(((s.heap.update a (Obj.mapSeq fun _=>(#[]:Array Value))).push (seqObj "tuple" vs.toArray 0)).push (seqObj "list" #[] 0)).get? a=some (seqObj "list" #[] e1):=by
  rw[Heap.get?_push_ne _ _ _ (by rw[size_push',Heap.size_update];exact Nat.ne_of_lt (Nat.lt_succ_of_lt ha)),Heap.get?_push_ne _ _ _ (by rw[Heap.size_update];exact Nat.ne_of_lt ha)];exact ho1
 have kk:Kept h0 (((s.heap.update a (Obj.mapSeq fun _=>(#[]:Array Value))).push (seqObj "tuple" vs.toArray 0)).push (seqObj "list" #[] 0)):=fun b o e=>by
  refine Heap.get?_push_of_some _ (Heap.get?_push_of_some _ ?_);have hb:b≠a:=fun q=>by rw[q,ha0] at e;cases e
  rw[Heap.get?_update_ne _ _ _ _ hb];exact k0 b o e
 show wpAny (model prog w) A _ P E { s with heap:=((s.heap.update a (Obj.mapSeq fun _=>(#[]:Array Value))).push (seqObj "tuple" vs.toArray 0)).push (seqObj "list" #[] 0) };generalize hg7:((s.heap.update a (Obj.mapSeq fun _=>(#[]:Array Value))).push (seqObj "tuple" vs.toArray 0))=g7 at ho6 kk ⊢
 have hks:(g7.push (seqObj "list" #[] 0)).get? g7.objs.size=some (seqObj "list" #[] 0):=Heap.get?_push_size _ rfl;have s7:g7.objs.size=s.heap.objs.size+1:=by rw[<- hg7,size_push',Heap.size_update]
 have kS0:h0.get? g7.objs.size=none:=by
  cases z:h0.get? g7.objs.size with
  | none=>rfl
  | some o =>
   have:=Heap.lt_size (k0 _ _ z);rw[s7] at this;exact absurd this (Nat.not_lt.mpr (Nat.le_succ _))
 have kSa:g7.objs.size≠a:=by
  rw[s7];exact Nat.ne_of_gt (Nat.lt_succ_of_lt ha)
 generalize g7.push (seqObj "list" #[] 0)=g at ho6 kk hks ⊢
 generalize g7.objs.size=kS at hks kS0 kSa ⊢
 unfold ksk_rest;refine wpAny_bind (wpAny_rule ?_);rw[List.forIn_toArray];refine wpAny_bind (wpAny_forIn_list _ (fun rest _ s'=>∃(h1:Heap) (t1:Nat) (ks:List Value) (e:Nat),s'={ s with heap:=h1,toks:=t1 }/\Kept h0 h1/\h1.get? a=some (seqObj "list" #[] e1)/\h1.get? kS=some (seqObj "list" ks.toArray e)/\rest=vs.drop ks.length/\ks.length<=vs.length/\zyQ zs ks) _ ?_ ?_ vs PUnit.unit ⟨g,s.toks,[],0,rfl,kk,ho6,hks,by simp,Nat.zero_le _,fun j hj=>absurd hj (Nat.not_lt_zero _)⟩)
 .rintro x rest _ s' ⟨h1,t1,ks,e,rfl,k1,g1,g2,hr,hl,hK⟩;have hx:vs[ks.length]? = some x:=by
   have:=congrArg List.head? hr;rw[List.head?_cons,List.head?_drop] at this;exact this.symm
  have hlt:ks.length < vs.length:=(List.getElem?_eq_some_iff.mp hx).1;have hz:zs[ks.length]? = some (zs.getD ks.length Str.empty):=by
   rw[List.getD_eq_getElem?_getD,List.getElem?_eq_getElem (by omega)];rfl
  refine wpAny_bind (wpAny_attempt (key _ x _ hx hz h1 t1 k1 _ (fun h' t' tz k2=>?_) _));dsimp only;refine wpAny_bind (listUpdate_at (k2 _ _ g2) rfl ?_ (by rw[List.size_toArray,sizeLine_eq];omega) (by show(ks.toArray.push _).size<=_;rw[Array.size_push,List.size_toArray,sizeLine_eq];omega));refine wpAny_pure ?_;obtain⟨e2,g3⟩:∃e2,(h'.update kS (Obj.mapSeq fun xs=>xs.push (Value.str (zs.getD ks.length Str.empty) tz))).get? kS=some (seqObj "list" (ks++[Value.str (zs.getD ks.length Str.empty) tz]).toArray e2):=by
   have:=get?_update_seq (k2 _ _ g2) (fun xs=>xs.push (Value.str (zs.getD ks.length Str.empty) tz));have ep:ks.toArray.push (Value.str (zs.getD ks.length Str.empty) tz)=(ks++[Value.str (zs.getD ks.length Str.empty) tz]).toArray:=by simp
   rw[ep] at this;exact⟨_,this⟩
  refine⟨_,t',ks++[Value.str (zs.getD ks.length Str.empty) tz],e2,rfl,fun b o eb=>?_,?_,g3,?_,by rw[List.length_append];show ks.length+1<=_;omega,fun j hj=>?_⟩
  .rw[Heap.get?_update_ne _ _ _ _ (fun q=>by rw[q,kS0] at eb;cases eb)];exact k2 _ _ (k1 b o eb)
  .rw[Heap.get?_update_ne _ _ _ _ (Ne.symm kSa)];exact k2 _ _ g1
  .have:=congrArg List.tail hr;rw[List.tail_cons,List.tail_drop] at this;rw[List.length_append];exact this
  .by_cases q:j < ks.length
   .obtain⟨t,ht⟩:=hK j q;exact⟨t,by rw[List.getElem?_append_left q];exact ht⟩
   .rw[List.length_append] at hj;have:j=ks.length:=by simp at hj;omega
    subst this;exact⟨tz,by simp⟩
 .rintro _ s' ⟨h1,t1,ks,e,rfl,k1,g1,g2,hr,hl,hK⟩;have hkl:ks.length=vs.length:=by
   have:=congrArg List.length hr;rw[List.length_nil,List.length_drop] at this;omega
  refine wpAny_bind (listItems_at g2 rfl ?_);refine zqb (zs:=zs) hkl hK h64 g1 g2 kSa fun p h' t' n' c1 c2 c3 c4=>h p h' t' n' c1 c2 (fun b o eb=>?_) c4
  rw[c3 b (fun q=>by rw[q,kS0] at eb;cases eb) (fun q=>by rw[q,ha0] at eb;cases eb)];exact k1 b o eb
theorem zmG{l f:Addr}{vs:List Value}{zs:List Str}{Q:Value->Shared->Prop}(hl:s.heap.IsList l vs.toArray\/IsTup s.heap l vs.toArray)(h64:vs.length < 64)(hzl:zs.length=vs.length)
  (key:∀(i:Nat) v z,vs[i]? = some v->zs[i]? = some z->zuJ prog w A.in1.in1 s s.heap f v z)
  (h:∀(p:Array Nat) (h':Heap) (t' n':Nat),PN vs.length p->Srt (sAt zs) p vs.length->Kept s.heap h'->h'.get? (s.heap.objs.size+1)=some (seqObj "list" (p.toList.map fun i=>vs.getD i .none).toArray n')->Q (.ref (s.heap.objs.size+1)) { s with heap:=h',toks:=t' }) :
  wpAny (model prog w) A (call (.builtin "sorted") [.ref l] [("key", .ref f)]) Q E s:=by
 refine call_function_entry_kw kind_sorted plain_sorted entry_sorted (ksk_s1 _ _) ?_;unfold Builtin.«sorted»;refine wpAny_bind (m:=checkCount "sorted" 1 1 _) (wpAny_pure ?_);have g:∀{A':Around} {E':Value->Shared->Prop} (R:List Value->Shared->Prop),R vs { s with heap:=(s.heap.push (seqObj "list" #[] 0)).update s.heap.objs.size (Obj.mapSeq (·++ vs.toArray)) }->wpAny (model prog w) A' (collect (.ref l)) R E' s :=
  fun R r=>hl.elim (fun q=>collect_list q r (by rw[sizeLine_eq];omega)) fun q=>zgs q r (by rw[sizeLine_eq];omega)
 refine wpAny_bind (g _ ?_);refine wpAny_bind (wpAny_newList ?_ (by rw[sizeLine_eq];omega));have hsz:((s.heap.push (seqObj "list" #[] 0)).update s.heap.objs.size (Obj.mapSeq (·++ vs.toArray))).objs.size=s.heap.objs.size+1:=by
  rw[Heap.size_update,size_push']
 have hoL:(((s.heap.push (seqObj "list" #[] 0)).update s.heap.objs.size (Obj.mapSeq (·++ vs.toArray))).push (seqObj "list" vs.toArray 0)).get? (s.heap.objs.size+1)=some (seqObj "list" vs.toArray 0):=by
  rw[<- hsz];exact Heap.get?_push_size _ rfl
 have keep:Kept s.heap (((s.heap.push (seqObj "list" #[] 0)).update s.heap.objs.size (Obj.mapSeq (·++ vs.toArray))).push (seqObj "list" vs.toArray 0)):=fun b o q=>by
  have hlt:b < s.heap.objs.size:=Heap.lt_size q;rw[Heap.get?_push_ne _ _ _ (by rw[hsz];exact Nat.ne_of_lt (Nat.lt_succ_of_lt hlt)),Heap.get?_update_ne _ _ _ _ (Nat.ne_of_lt hlt),Heap.get?_push_ne _ _ _ (Nat.ne_of_lt hlt)];exact q
 show wpAny _ _ _ _ _ { s with heap:=((s.heap.push (seqObj "list" #[] 0)).update s.heap.objs.size (Obj.mapSeq (·++ vs.toArray))).push (seqObj "list" vs.toArray 0) };rw[hsz];refine wpAny_bind (wpAny_holding (wpAny_call_entry_kw slot_list_sort ⟨_,hoL,rfl⟩ entry_list_sort ?_ (ksk_l1 _ _)));rw[ksk_t1];exact ziL (s:={ s with heap:=((s.heap.push (seqObj "list" #[] 0)).update s.heap.objs.size (Obj.mapSeq (·++ vs.toArray))).push (seqObj "list" vs.toArray 0) }) (h0:=s.heap) hoL keep (Heap.get?_none_of_le (Nat.le_succ _)) h64 hzl key fun p h' t' n' a1 a2 a3 a4=>⟨_,rfl,wpAny_pure ⟨_,rfl,h p h' t' n' a1 a2 a3 a4⟩⟩
end
def zyU(K:Frag)(H:Hp)(fld:Str):List V->List Str->Prop:=Paired fun x z=>∃a C dx fs,x= .ref a/\H a=some (.ins C dx fs)/\Cls K C/\zbH K C fld/\fs.lookup fld=some (.str z)
def zvi(K:Frag)(P:Addr)(ln cl:Nat)(qual fld:Str)(Q:VK):VK:=fun x H1=>∃l xs zs,x= .ref l/\(SqL K H1 l xs\/SqT K H1 l xs)/\xs.length < 64/\zuZ P ln cl qual H1/\zyU K H1 fld xs zs /\
 ∀(H2:Hp) (c':Addr),(H1 P=some (.tbl #[])/\H1 c'=none/\H2=upd (upd H1 c' (zd0 c' qual)) P (.tbl (zbZ ln cl c'))\/H2=H1/\H1 P=some (.tbl (zbZ ln cl c'))/\H1 c'=some (zd0 c' qual))->∀(p:Array Nat) r,PN xs.length p->Srt (sAt zs) p xs.length->H2 r=none->Q (.ref r) (upd H2 r (.lst (p.toList.map fun i=>xs.getD i .non)))
def zho(K:Frag)(P:Addr)(ln cl:Nat)(qual fld:Str)(te:TE):TE:=fun σ H Q=>te σ H (zvi K P ln cl qual fld Q)
def zyC(R:VK)(vs:List V)(H:Hp):Prop:=match vs with
 | [x]=>R x H
 | _=>False
theorem zhq{α β:Type}{F:α->β->Prop}:∀{l1:List α} {l2:List β} {i:Nat} {x:α},Paired F l1 l2->l1[i]? = some x->∃y,l2[i]? = some y/\F x y
 | _,_,_,_, .nil,h=>by simp at h
 | _::_,_::_,0,_, .cons r _,h=>by simp at h;subst h;exact⟨_,rfl,r⟩
 | _::_,_::_,i+1,_, .cons _ t,h=>by simpa using zhq (i:=i) t (by simpa using h)
theorem zjl{xs:List V}{us:List Value}(r:Vals xs us):∀(is:List Nat),(∀i∈is,i < xs.length)->Vals (is.map fun i=>xs.getD i .non) (is.map fun i=>us.getD i .none)
 | [],_=> .nil
 | i::is,h=>by
  have hi:=h i (.head _);obtain⟨u,e1,e2⟩:=r.get (List.getElem?_eq_getElem hi);rw[List.map_cons,List.map_cons,List.getD_eq_getElem?_getD,List.getElem?_eq_getElem hi,List.getD_eq_getElem?_getD,e1];exact .cons e2 (zjl r is fun j hj=>h j (.tail _ hj))
section
variable{X:Cx}{P c:Addr}{lp np pos kp:Pos}{params:Arguments}{body:Expr}{scope:Scope}{x fld:Str}{e:Expr}{te:TE}{k:Nat}
theorem zmL(hr:zds k X.A)(T:zyX params body scope x fld)(hcode:X.env.code= .ref c)(B:zkn X.base X.mg c P)(hcl:closureFor scope X.env=pure [])(hdf:defaultsOf params X.env=([],[]))(he:PE X e te)(hg:Gl X "sorted")(hm:X.mg "sorted"=none)
  (hs:starEach [e] X.env=(false,eval e X.env)::starEach [] X.env:=by rfl)(hst:backTo pos (starEach [e] X.env)=(false,eval e X.env)::backTo pos (starEach [] X.env):=by rfl)(hp:(backTo pos (starEach [e] X.env)).any (·.1)=false:=by rfl) :
  PE X (.Call (.Name "sorted" np) [e] [⟨some "key", .Lambda params body scope lp,kp⟩] pos) (zho X.K P lp.line lp.col (X.env.qual++"<lambda>") fld te):=by
 intro pins s σ H Q I h;refine wpAny_Call_Name_kw (zeT I hg hm (by rfl) ?_ (by decide) (by decide));refine PyProof.Rows.callWith_kw (thn (zkL (t:=zfh) he znk hs pos pins s σ H (zyC (zvi X.K P lp.line lp.col (X.env.qual++"<lambda>") fld Q)) I h) fun us s1 ⟨vs,H1,I1,r1,q1⟩=>?_) hst hp;obtain⟨v,rfl,l,xs,zs,rfl,hl,h64,T1,hK,q⟩:∃v,vs=[v]/\zvi X.K P lp.line lp.col (X.env.qual++"<lambda>") fld Q v H1:=by
  unfold zyC at q1;split at q1
  .exact⟨_,rfl,q1⟩
  .exact q1.elim
 obtain⟨u,rfl,ru⟩:=vals1 r1;obtain rfl:u= .ref l:=ru;show wpAny _ _ (evalAll [do let v<-eval (.Lambda params body scope lp) X.env;standAt pos;pure v]) _ _ s1;refine wpAny_evalAll_cons (wpAny_bind (zrk I1 hcode B hcl hdf T1 fun s2 H2 f c' pm ctv I2 hH hf hc hfn=>?_));refine wpAny_bind (wpAny_standAt (wpAny_pure ?_));refine wpAny_evalAll_nil ?_;show wpAny (model X.prog X.w) X.A (call (.builtin "sorted") [.ref l] [("key", .ref f)]) (EP X pins σ Q) X.xe s2;have keep2:∀b o,(∀ps,o≠HO.tbl ps)->H1 b=some o->H2 b=some o:=fun b o no e=>by
  rcases hH with⟨hP,hn,rfl⟩ | ⟨rfl,_,_⟩
  .have:b≠P:=fun z=>by rw[z,hP] at e;cases e;exact no _ rfl
   rw[zm this,zm (zM e hn)];exact e
  .exact e
 have subR:∀b o,(∀ps,o≠HO.tbl ps)->Rd H1 b o->Rd H2 b o:=fun b o no r=>r.elim (fun e=> .inl (keep2 b o no e)) fun⟨ob,e⟩=> .inr ⟨ob,keep2 b _ (fun _ z=>by cases z) e⟩
 obtain⟨its,rv,hv⟩:∃its:List Value,Vals xs its/\(s2.heap.IsList l its.toArray\/IsTup s2.heap l its.toArray):=by
  rcases hl with hl | hl
  .obtain⟨its,r',pl,_⟩:=I2.list (xs:=xs) (a:=l) (hl.imp (subR _ _ fun _ z=>by cases z) id);exact⟨its,r', .inl pl.isList⟩
  .obtain⟨its,r',pl,_⟩:=I2.tuple (xs:=xs) (a:=l) (hl.imp (subR _ _ fun _ z=>by cases z) id);exact⟨its,r', .inr pl⟩
 have hzl:zs.length=its.length:=by rw[<- hK.length,rv.length]
 refine zmG (zs:=zs) hv (by rw[<- rv.length];exact h64) hzl (fun i v z hv1 hz1=>?_) fun p h' t' n' a1 a2 a3 a4=>?_
 .have hi:i < xs.length:=by rw[rv.length];exact(List.getElem?_eq_some_iff.mp hv1).1
  obtain⟨u,e1,e2⟩:=rv.get (List.getElem?_eq_getElem hi);rw[hv1] at e1;cases e1;obtain⟨z',e3,a,C,dx,fs,ex,ea,cl,na,lk⟩:=zhq hK (List.getElem?_eq_getElem hi);rw[hz1] at e3;cases e3;rw[ex] at e2;obtain rfl:v= .ref a:=e2;intro h1 t1 k1 C' hC E';obtain⟨mA,O,rO,_,_,_⟩:=zd8 I2.hok (keep2 _ _ (fun _ z=>by cases z) ea);obtain⟨uz,hu,⟨tz,rfl⟩⟩:=zc2.some_of (v:= .str z) (o:=mA fld) (by rw[<- lk];exact rO fld);have kb:∀b o,X.base.get? b=some o->s2.heap.get? b=some o:=fun b o e=>(I2.bs b o e).1
  have hd:=hr.dp;refine zrw (s:={ s2 with heap:=h1,toks:=t1 }) (K:=X.K) (dx:=dx) (C:=C) T (fun b o e=>k1 b o (I2.kIn b o e)) ((I2.ok.mod.nolimit.keeps kb).keeps k1) (by show X.A.depth < _;omega) (k1 _ _ hf) ?_ ⟨k1 _ _ O.obj,O.ns.keeps k1,O.ne⟩ hu cl na fun h' t' k2=>hC h' t' tz k2
  obtain⟨d,o,vs',t,e,g1,g2,g3⟩:=hc;exact⟨d,o,vs',t,e,k1 _ _ g1,g2,g3⟩
 .rw[<- rv.length] at a1 a2;have hfr:H2 (s2.heap.objs.size+1)=none:=I2.hok.fresh (Nat.le_succ _);refine⟨.ref (s2.heap.objs.size+1),_,I2.laid (a:=s2.heap.objs.size+1) (o:= .lst (p.toList.map fun i=>xs.getD i .non)) (t':=t') a3 (Nat.le_succ _) ⟨?_,_,n',?_,a4⟩,rfl,q H2 c' hH p _ a1 a2 hfr⟩
  .rw[List.length_map,Array.length_toList,a1.sz];exact Nat.le_trans (Nat.le_of_lt h64) (by decide)
  .exact zjl rv _ fun i hi=>List.mem_range.mp (a1.mem_iff.mp hi)
end
theorem zoT{Pr:Program}{w:World}{K:Frag}{mg mb:Str->Option Value}{CX:CXT}{k:Nat}{fa a c P:Addr}{fd:FuncData}{x:Str}{sp:Sp}{s₁:Shared}{vs:List Value}{ns:List Int}
  (KX:K.In s₁.heap)(hns:s₁.heap.Ns mainGlobals mg)(hb:s₁.heap.Ns builtinsNs mb)(hbb:∀x:Str,x≠"__name__"->mb x=bootBuiltins x)(hlim:s₁.heap.NoLimit)(hg:s₁.gens= #[])
  (hcd:CodeHd s₁.heap c P)(hP:s₁.heap.get? P=some (tabObj #[]))(hKP:K.lookup P=none)(hbm:∃bm ob,mg "__builtins__"=some (.ref bm)/\bm≠builtinsNs/\s₁.heap.get? bm=some ob/\ob.cls= .type "module"/\ob.dict=some builtinsNs/\ob.data= .plain)(hst:∃mc,s₁.heap.Ns cStatics mc)
  (ha:s₁.heap.get? a=some { cls:= .type "list",data:= .seq vs.toArray })(hi:IntsAre vs ns)(hl:ns.length<=sizeLine)(hr:zds k callerA)
  (F:∀base:Heap,K.In base->base.Ns mainGlobals mg->zkn base mg c P->zaa Pr w K mg base CX k fa fd [x] sp)(hbind:∀(s:Shared) (u:Value),BindsTo s fd ⟨[u],[]⟩ [(x,u)])
  (hsp:∀H:Hp,H P=some (.tbl #[])->SqL K H a (ns.map V.int)->sp [.ref a] H (fun v _=>v= .bl true) fun _ _ _=>False)
  (hCX:∀H e s',CX [] H s₁ (fun _ _ _=>False) e s'->False) :
  codeAny (model Pr w) callerA (.call (.ref fa) ⟨[.ref a],[]⟩) (fun r s'=>r= .ok (.ret (.bool true))/\OldK s₁.heap s'.heap/\s'.os=s₁.os/\AllBare s'.gens) s₁:=by
 have rv:=zi0 hi;have lenV:=hi.length;have aP:a≠P:=fun z=>by rw[z,hP] at ha;cases ha
 have core:∀H:Hp,H P=some (.tbl #[])->(∀b,H b=none\/b=P\/(b=a/\∃o xs,H b=some (.frz o (.lst xs))))->SqL K H a (ns.map V.int)->HOk Pr w H s₁.heap->(H a≠none->K.lookup a=none) ->
   codeAny (model Pr w) callerA (.call (.ref fa) ⟨[.ref a],[]⟩) (fun r s'=>r= .ok (.ret (.bool true))/\OldK s₁.heap s'.heap/\s'.os=s₁.os/\AllBare s'.gens) s₁:=by
  intro H hT hO hS hok hK;have base_of:∀{b:Addr} {o:Obj},s₁.heap.get? b=some o->H b=none->(zit s₁.heap H).get? b=some o:=fun e n=>zsA e n
  have noT:∀{b:Addr} {o:Obj},s₁.heap.get? b=some o->(∀ps,o≠tabObj ps)->(∀v:List Value,o≠{ cls:= .type "list",data:= .seq v.toArray })->H b=none:=fun{b o} e n1 n2=>by
   rcases hO b with z | z | ⟨z,_⟩
   .exact z
   .rw[z,hP] at e;cases e;exact absurd rfl (n1 _)
   .rw[z,ha] at e;cases e;exact absurd rfl (n2 _)
  have noA:∀{b:Addr} {o:Obj} {es:Array DictEntry} {ep:Nat},s₁.heap.get? b=some o->o.data= .dict es ep->H b=none:=fun{b o es ep} e d=>noT e (fun ps z=>by subst z;cases d) (fun v z=>by subst z;cases d)
  have nsK:∀{b:Addr} {m:Str->Option Value},s₁.heap.Ns b m->(zit s₁.heap H).Ns b m:=fun{b m} ⟨o,es,ep,e,d,r⟩=>⟨o,es,ep,base_of e (noA e d),d,r⟩
  have hKb:K.In (zit s₁.heap H):=fun b o e=>base_of (KX b o e) (by
   rcases hO b with z | z | ⟨z,o',xs,q⟩
   .exact z
   .rw[z,hKP] at e;cases e
   .rw[z] at e q;rw[hK (by rw[q];simp)] at e;cases e)
  have hM:Mod K mg (zit s₁.heap H):=⟨hKb,nsK hns,⟨mb,nsK hb,hbb⟩,let ⟨mc,h1,h2⟩:=hlim;⟨mc,nsK h1,h2⟩⟩;have nP:mainGlobals≠P:=fun z=>by
   obtain⟨o,es,ep,e,d,_⟩:=hns;rw[z,hP] at e;cases e;cases d
  have hL:zkn (zit s₁.heap H) mg c P:=by
   refine⟨?_,?_,nP⟩
   .obtain⟨o,vs',file,tf,flags,tg,inF,text,tt,e,e1,e2,r⟩:=hcd;exact⟨o,vs',file,tf,flags,tg,inF,text,tt,base_of e (noT e (fun ps z=>by rw[z] at e1;cases e1) (fun v z=>by rw[z] at e1;exact absurd (Value.type.inj e1) (by decide))),e1,e2,r⟩
   .obtain⟨bm,ob,b1,b2,b3,b4,b5,b6⟩:=hbm;have hbn:H bm=none:=noT b3 (fun ps z=>by rw[z] at b4;cases b4) (fun v z=>by rw[z] at b4;exact absurd (Value.type.inj b4) (by decide));refine⟨bm,ob,b1,b2,fun z=>?_,fun z=>?_,base_of b3 hbn,b4,b5,b6⟩
    .obtain⟨o,es,ep,e,d,_⟩:=hns;rw[<- z,b3] at e;cases e;rw[b6] at d;cases d
    .rw[z,hT] at hbn;cases hbn
  have e0:ziA Pr w K mg (zit s₁.heap H) callerA [] s₁ H:=⟨rfl,hM,fun b o e=>zuq e,Nat.le_of_eq (zoe _ _),trivial,fun b hb=>absurd (show b∈([]:List Addr) from hb) (by simp),hok, .of_eq hg⟩;refine codeAny_mono ((F _ hKb (nsK hns) hL).run callerA [] s₁ H ⟨[.ref a],[]⟩ [.ref a] [.ref a] _ _ hr e0 (hbind s₁ (.ref a)) (.cons rfl .nil) (hsp H hT hS)) fun r s' h=>?_
  cases r with
  | error e=>exact(hCX H e s' h).elim
  | ok fl =>
   cases fl with
   | next=>exact False.elim h
   | brk=>exact False.elim h
   | cont=>exact False.elim h
   | ret u =>
    obtain⟨v,H',os,bare,un,hok',r',q⟩:=h;have q':v= .bl true:=q;subst q';obtain rfl:u=Value.bool true:=r';have kp:∀b o,b≠P->s₁.heap.get? b=some o->s'.heap.get? b=some o:=fun b o bP e=>by
     cases q:H b with
     | none=>exact un.keep b o e q (by intro z;exact absurd (show b∈([]:List Addr) from z) (by simp)) (by simp)
     | some u =>
      rcases hO b with z | z | ⟨_,ob,xs,z⟩
      .rw[q] at z;cases z
      .exact absurd z bP
      .have z2:=un.frzs b ob _ z;obtain⟨e1,_⟩:=hok b _ z;obtain⟨e2,_⟩:=hok' b _ z2;rw[e] at e1;cases e1;exact e2
    obtain⟨more,hm⟩:=un.tbls P _ hT;have hP':s'.heap.get? P=some (tabObj (#[]++more)):=hok' P _ hm;obtain⟨o,vs',file,tf,flags,tg,inF,text,tt,e,e1,e2,e3,_⟩:=hcd;have cP:c≠P:=fun z=>by rw[z,hP] at e;cases e;cases e1
    refine⟨rfl,(OldK.refl s₁.heap).step_table (c₀:=c) (c:=c) (P:=P) (ps₀:= #[]) (ps:= #[]) (more:=more) ⟨⟨o,vs',e,e1,e2,e3⟩,hP⟩ ⟨⟨o,vs',e,e1,e2,e3⟩,hP⟩ ⟨⟨o,vs',kp c o cP e,e1,e2,e3⟩,hP'⟩ (fun b o bP e=>kp b o bP e) (fun z=>?_),os,bare⟩;obtain⟨mc,o,es,ep,e,d,_⟩:=hst;rw[<- z,hP] at e;cases e;cases d
 cases hk:K.lookup a with
 | some o =>
  have e:=KX a o hk;rw[ha] at e;cases e;refine core (fun b=>if b=P then some (.tbl #[]) else none) (if_pos rfl) (fun b=>?_) (.inr ⟨_,vs.toArray,_,hk,rfl,rfl,rfl,by rw[List.size_toArray,lenV];exact hl,by simpa using rv⟩) (fun b u z=>?_) (fun z=>?_)
  .by_cases hb:b=P
   .exact .inr (.inl hb)
   .exact .inl (if_neg hb)
  .by_cases hb:b=P
   .have z':=(if_pos hb).symm.trans z;cases z';subst hb;exact hP
   .have z':=(if_neg hb).symm.trans z;cases z'
  .exact absurd (if_neg aP) z
 | none =>
  refine core (fun b=>if b=P then some (.tbl #[]) else if b=a then some (.frz { cls:= .type "list",data:= .seq vs.toArray } (.lst (ns.map V.int))) else none) (if_pos rfl) (fun b=>?_) (.inl (.inr ⟨{ cls:= .type "list",data:= .seq vs.toArray },by show(if a=P then some (HO.tbl #[]) else if a=a then _ else none)=_;rw[if_neg aP,if_pos rfl]⟩)) (fun b u z=>?_) fun _=>hk
  .by_cases hb:b=P
   .exact .inr (.inl hb)
   .by_cases hb2:b=a
    .exact .inr (.inr ⟨hb2,_,_,(if_neg hb).trans (if_pos hb2)⟩)
    .exact .inl ((if_neg hb).trans (if_neg hb2))
  .by_cases hb:b=P
   .have z':=(if_pos hb).symm.trans z;cases z';subst hb;exact hP
   .by_cases hb2:b=a
    .have z':some _=some u:=((if_neg hb).trans (if_pos hb2)).symm.trans z;cases z';subst hb2;exact⟨ha,by rw[List.length_map];exact hl,vs,_,rv,ha⟩
    .have z':none=some u:=((if_neg hb).trans (if_neg hb2)).symm.trans z;cases z'
theorem zrB{l:PySem.W.OpenLaw}{n k:Nat}{q:Program}{loose:List Str}{XP:(Str->Option Value)->Heap->Prop}{YP:World->Heap->Prop}{d dL:DefRec}{K:Params->Frag}{CX:World->CXT}{sp:World->Sp}{x xL:Str}{c P:Addr}
  (hn:l.most=some n)(hn2:n<=sizeLine)(hdf:d.params.defaults=[])(hr:zds k callerA)
  (hY:∀(w:World) (h:Heap),YP w h->(K w.params).In h)(hf:List.find? (fun e=>e.name==xL) (recsOf q)=some dL)(hT:∀w:World,tabIn (K w.params) xL=some (c,P))(hKP:∀w:World,(K w.params).lookup P=none)
  (F:∀(w:World) (mg:Str->Option Value) (fa:Addr) (h:Heap),(K w.params).In h->h.Ns mainGlobals mg->mg d.name=some (.ref fa) ->
   ∃fd:FuncData,(∀(s:Shared) (u:Value),BindsTo s fd ⟨[u],[]⟩ [(x,u)]) /\
    ∀base:Heap,(K w.params).In base->base.Ns mainGlobals mg->zkn base mg c P->zaa l.prog w (K w.params) mg base (CX w) k fa fd [x] (sp w))
  (hsp:∀(w:World) (H:Hp) (a:Addr) (ns:List Int),ns.length<=n->H P=some (.tbl #[])->SqL (K w.params) H a (ns.map V.int)->sp w [.ref a] H (fun v _=>v= .bl true) fun _ _ _=>False)
  (hCX:∀(w:World) (H:Hp) (s:Shared) (e:Value) (s':Shared),CX w [] H s (fun _ _ _=>False) e s'->False) :
  PySem.W.WalkO q loose XP YP l.row.toRowW d [] (fun f vs=>PySem.call f vs):=by
 refine Att.zlD hn hdf fun w s₀ s₁ mg mb fa o pm cd doc a vs ns G Y ho hd hcd hmg hobj hints hlen hg=>?_
 have KX:=hY w _ Y;obtain⟨fd,hb,hF⟩:=F w mg fa _ KX G.T.g hmg;obtain⟨t1,t2⟩:=PySem.W.tab_of G.T KX hf (hT w);obtain⟨mc,hmc,_⟩:=G.T.nodigits;exact zoT KX G.T.g G.T.b G.T.builtins G.T.nolimit hg t1 t2 (hKP w) G.T.bmain ⟨mc,hmc⟩ hobj hints (Nat.le_trans hlen hn2) hr hF hb (fun H hO hS=>hsp w H a ns hlen hO hS) fun H e s'=>hCX w H s₁ e s'
class zxl(K:Frag)(x:Str)(P:Addr):Prop where
 at_:∃c,tabIn K x=some (c,P)
def zvo(tab:Tab)(fld:Str):List D->List Str->Prop:=Paired fun d z=>∃c ns vs,d= .obj c ns vs/\zc0 tab c fld=true/\(ns.zip vs).lookup fld=some (.str z)
def zm1(tab:Tab)(x:Str)(ln cl:Nat)(q fld:Str)(w:DE):DE:=fun ρ μ Q=>w ρ μ fun d μ1=>μ1 0=some (.lam 0 x ln cl q)/\∃ds zs,za0 μ1 d=some ds/\ds.length < 64/\zvo tab fld ds zs/\∀p,PN ds.length p->Srt (sAt zs) p ds.length->Q (.lst (p.toList.map fun i=>ds.getD i .non)) μ1
section
variable{K:Frag}{fl W:Wd}{μ:Mu}{H:Hp}{tab:Tab}{fld:Str}
theorem zsd{k:Nat}{c:Ct}(h:μ k=some c):zH μ k c=μ:=by
 funext j;by_cases e:j=k
 .subst e;rw[zB,h]
 .rw[zy e]
theorem zlk[t:TabOk K tab](s:zh3 W.F H):∀{ds:List D} {xs:List V} {zs:List Str},zr K W ds xs->zvo tab fld ds zs->zyU K H fld xs zs
 | [],xs,_,r, .nil=>by rw[r.nil'];exact .nil
 | d::ds,xs,_,r, .cons ⟨c,ns,vs,ed,hi,hl⟩ tl=>by
  obtain⟨x,ys,rfl,q,z⟩:=r.uncons;subst ed;unfold Rep at q;obtain⟨C,a,dx,us,hc,rfl,ea,hn,zz⟩:=q;obtain⟨v,hv,qv⟩:=zz.lookup hl;rw[qv.s'] at hv;obtain⟨c1,c2⟩:=t.run c fld C hi hc;exact .cons ⟨a,C,dx,_,rfl,s _ _ ea,c1,c2,hv⟩ (zlk s z tl)
theorem ziY{ds:List D}{xs:List V}(r:zr K W ds xs):∀(is:List Nat),(∀i∈is,i < ds.length)->zr K W (is.map fun i=>ds.getD i .non) (is.map fun i=>xs.getD i .non)
 | [],_=> .nil
 | i::is,h=>by
  have hi:=h i (.head _);obtain⟨u,e1,e2⟩:=r.get (List.getElem?_eq_getElem hi);rw[List.map_cons,List.map_cons,List.getD_eq_getElem?_getD,List.getElem?_eq_getElem hi,List.getD_eq_getElem?_getD,e1];exact .cons e2 (ziY r is fun j hj=>h j (.tail _ hj))
instance{x q:Str}{P:Addr}{ln cl:Nat}{te:TE}{we:DE}[t:TabOk K tab][lm:zxl K x P][a:zN K fl te we]:zN K fl (zho K P ln cl q fld te) (zm1 tab x ln cl q fld we):=⟨fun{W ρ μ σ H Q Q'} r e h k=>a.run r e h fun W1 d μ1 v H1 le1 r1 q1 h1=>by
 obtain⟨hL,ds,zs,hd,hz,hK,hq⟩:=h1;obtain⟨c0,hc0⟩:=lm.at_;obtain⟨a0,hb,hF,c,P',ps,e1,e2,e3,e4⟩:=r1.cel 0 _ hL;rw[hc0] at e1;cases e1;rw[hb] at e2;cases e2;obtain⟨l0,xs,rfl,hl,zz⟩:=zbK r1 q1 hd;have fin:∀{W2:Wd} {H2:Hp},W1.le W2->Rel K fl W2 μ1 H2->∀(p:Array Nat) r,PN xs.length p->Srt (sAt zs) p xs.length->H2 r=none->Q' (.ref r) (upd H2 r (.lst (p.toList.map fun i=>xs.getD i .non))):=fun{W2 H2} le2 r2 p r pn sr hr=>by
  obtain⟨r3,le3⟩:=r2.newF (o:= .lst (p.toList.map fun i=>xs.getD i .non)) hr;rw[zz.length] at pn sr;exact k _ _ μ1 _ _ (le1.trans (le2.trans le3)) r3 (.lst zq ((ziY zz _ fun i hi=>List.mem_range.mp (pn.mem_iff.mp hi)).mono (le2.trans le3))) (hq p pn sr)
 refine⟨l0,xs,zs,rfl,hl,by rw[zz.length];exact hz,?_,zlk r1.sub zz hK,fun H2 c' hH=>?_⟩
 .rcases e4 with rfl | ⟨c',rfl,hc'⟩
  .exact .inl e3
  .exact .inr ⟨c',e3,r1.sub _ _ hc'⟩
 .rcases hH with⟨_,hn,rfl⟩ | ⟨rfl,_,_⟩
  .obtain⟨r2,le2⟩:=r1.newF (o:=zd0 c' q) hn;have r3:=r2.setC (k:=0) (a:=P) (c':= .lam 0 x ln cl q) (o:= .tbl (zbZ ln cl c')) hL hb ⟨_,P,_,hc0,hb,rfl, .inr ⟨c',rfl,zq⟩⟩;rw[zsd hL] at r3;exact fin le2 r3
  .exact fin (.refl _) r1⟩
end
section
variable{Pr:Program}{w:World}{K:Frag}{mg:Str->Option Value}{base:Heap}
theorem Fun.okBL{x qual:Str}{st:Stmt}{f:Addr}{fd:FuncData}{N ps:List Str}{k n:Nat}(dw:DS)(F:Fun K x qual st f fd)(S:zG N ps (zx st))(len:ps.length=n)
  (hbody:∀(cdv:Value) (A:Around) (outer:List Env) (s:Shared) (H:Hp) (E:XK),fd.code=cdv->zds k (A.deeper (envOfC qual (zx st) s.heap.objs.size f cdv)) ->
   ∃t,WSs (zkT CX0 Pr w K mg base N qual (zx st) f cdv A outer s H E).nox (zb4 st) t/\∀fl,zdb K fl t dw):zaa Pr w K mg base CX0 (k+1) f fd ps (lift K (zR dw N n)):=by
 obtain⟨oc,od,kV,doc,pm,an,cdv,ct,osl,rfl,lk,hcd⟩:=F.ex;refine zuX lk hcd S (fun vs H Q E h=>?_) fun A outer s H vs Q E hr h=>?_
 .obtain⟨_,W,μ,ds,Q0,_,r,h,_⟩:=h;rw[r.length,h.1,len]
 .obtain⟨fl,W,μ,ds,Q0,rel,r,h,k⟩:=h;obtain⟨t,ht,sm⟩:=hbody cdv A outer s H E rfl hr;refine⟨t,ht.out.nox,(sm W).run (rel.floor (.refl W)) (.start r) h.2 ⟨fun W' ρ μ σ H le rr ee hh=>?_,fun _ _ _ _ _ _ _ _ hh=>hh.elim,fun _ _ _ _ _ _ _ _ hh=>hh.elim,fun W' d μ x H le rr ee hh=>?_⟩⟩
  .obtain⟨μ'',l,hh⟩:=hh;exact k W' .non μ'' _ H le ((rr.floor (rel.up.trans le)).less l) .n hh
  .obtain⟨μ'',l,hh⟩:=hh;exact k W' d μ'' x H le ((rr.floor (rel.up.trans le)).less l) ee hh
end
def znN(x:Str)(ln cl:Nat)(q:Str):DSp:=fun ds μ Q=>∃ns,ds=[.scr ns]/\ns.length<=63/\μ 0=some (.lam 0 x ln cl q)/\∀ μ',Q (.bl true) μ'
def zkw(K:Frag)(P:Addr):Sp:=fun vs H Q _=>∃(a:Addr) (ns:List Int),vs=[.ref a]/\SqL K H a (ns.map V.int)/\ns.length<=63/\H P=some (.tbl #[])/\∀H',Q (.bl true) H'
theorem zoY{K:Frag}{x q:Str}{ln cl:Nat}{c P:Addr}(ht:tabIn K x=some (c,P))(vs:List V)(H:Hp)(Q:VK)(E:XK)(h:zkw K P vs H Q E):lift K (znN x ln cl q) vs H Q E:=by
 obtain⟨a,ns,rfl,hs,hl,hP,hq⟩:=h;refine⟨⟨fun _=>none,fun _=>none⟩,⟨fun k=>if k=0 then some P else none,fun b=>if b=P then none else if b=a then H a else none⟩,fun k=>if k=0 then some (.lam 0 x ln cl q) else none,[.scr ns],fun d _=>d= .bl true,⟨fun b o e=>?_,⟨1,fun k hk=>if_neg (by omega)⟩,fun k ct e=>?_,fun k k' ct ct' y e e' _ _=>?_,⟨fun _ _ e=>(by cases e),fun _ _ e=>(by cases e)⟩⟩, .cons ?_ .nil,⟨ns,rfl,hl,rfl,fun _=>rfl⟩,fun W' d μ' y H' _ _ r e=>?_⟩
 .have e':(if b=P then none else if b=a then H a else none)=some o:=e;by_cases h1:b=P
  .rw[if_pos h1] at e';cases e'
  .rw[if_neg h1] at e';by_cases hb:b=a
   .rw[if_pos hb] at e';rw[hb];exact e'
   .rw[if_neg hb] at e';cases e'
 .have e':(if k=0 then some (Ct.lam 0 x ln cl q) else none)=some ct:=e;by_cases hk:k=0
  .rw[if_pos hk] at e';cases e';subst hk;exact⟨P,rfl,by show(if P=P then none else _)=_;rw[if_pos rfl],c,P, #[],ht,rfl,hP, .inl rfl⟩
  .rw[if_neg hk] at e';cases e'
 .have f:∀{j:Nat} {z},(if j=0 then some (Ct.lam 0 x ln cl q) else none)=some z->j=0:=fun{j z} q=>by
   by_cases hj:j=0
   .exact hj
   .rw[if_neg hj] at q;cases q
  rw[f e,f e']
 .unfold Rep;refine⟨a,rfl,?_⟩;rcases hs with h | h
  .have aP:a≠P:=fun z=>by
    rcases h with h | ⟨o,h⟩
    .rw[z,hP] at h;cases h
    .rw[z,hP] at h;cases h
   refine .inl ?_;rcases h with h | ⟨o,h⟩
   .exact .inl (by show(if a=P then none else if a=a then H a else none)=_;rw[if_neg aP,if_pos rfl];exact h)
   .exact .inr ⟨o,by show(if a=P then none else if a=a then H a else none)=_;rw[if_neg aP,if_pos rfl];exact h⟩
  .exact .inr h
 .subst e;rw[r.b'];exact hq H'
theorem zmp{X:Cx}{P c:Addr}{lp np pos kp p1 p2:Pos}{params:Arguments}{scope:Scope}{x fld qn q:Str}{e:Expr}{te:TE}{k ln cl:Nat}(K:Frag)(B:zkn X.base X.mg c P)(hcode:X.env.code= .ref c)(hr:zds k X.A)(he:WE X e te)(hg:Gl X "sorted")(hm:X.mg "sorted"=none)
  (hK:X.K=K:=by rfl)(hln:lp.line=ln:=by rfl)(hcl:lp.col=cl:=by rfl)(hqn:X.env.qual=qn++".<locals>.":=by rfl)(hq:qn++".<locals>."++"<lambda>"=q:=by decide+kernel)(hclo:closureFor scope X.env=pure []:=by rfl)(hdf:defaultsOf params X.env=([],[]):=by rfl)
  (ab:∀env:Env,attributeBase (.Name x p1) fld env (eval (.Name x p1) env)=eval (.Name x p1) env:=by intro _;rfl)(hk:scope.kind= .function:=by rfl)(hn:∀y∈scope.names,y.2≠ .cell:=by decide+kernel)(hx:scope.names.lookup x=some .local:=by rfl)(hco:scope.isCoroutine=false:=by rfl)(hgen:scope.isGenerator=false:=by rfl)(hd:(x==("__debug__":Str))=false:=by decide)
  (hb:∀(qual:Str) (pm cdv ctv u:Value),bindArgs (kla_fn "<lambda>" qual params (.Attribute (.Name x p1) fld p2) scope [] pm cdv ctv) ⟨[u],[]⟩=pure [(x,u)]:=by intro _ _ _ _ _;rfl)
  (hs:starEach [e] X.env=(false,eval e X.env)::starEach [] X.env:=by rfl)(hst:backTo pos (starEach [e] X.env)=(false,eval e X.env)::backTo pos (starEach [] X.env):=by rfl)(hp:(backTo pos (starEach [e] X.env)).any (·.1)=false:=by rfl) :
  WE X (.Call (.Name "sorted" np) [e] [⟨some "key", .Lambda params (.Attribute (.Name x p1) fld p2) scope lp,kp⟩] pos) (zho K P ln cl q fld te):=by
 subst hK hln hcl hq;rw[<- hqn];exact⟨zmL hr ⟨⟨p1,p2,rfl⟩,ab,hk,hn,hx,hco,hgen,hd,hb⟩ hcode B hclo hdf he.out hg hm hs hst hp⟩
section
variable{X:Cx}{pins:List (Addr×Obj)}{σ:St}{H:Hp}{s:Shared}{g:Heap}{a C:Addr}{dx:Option Addr}{D:Ends}
end
section
variable{K:Frag}{fl:Wd}
end
section
variable{X:Cx}
end
section
variable{K:Frag}{fl:Wd}
end
section
variable{X:Cx}{pos:Pos}
end
end L2
set_option maxHeartbeats 4000000
namespace L2
open PySem PySem.Spec PyProof.Rows
theorem zao{N Q:List Str}{sc:Scope}(a:sc.kind= .function:=by rfl)(b:sc.isCoroutine=false:=by rfl)(c:sc.isGenerator=false:=by rfl)(d:N.Nodup:=by decide+kernel)(e:N.take Q.length=Q:=by rfl)
  (f:∀x∈Q,sc.names.lookup x=some .local\/sc.names.lookup x=some .cell:=by decide+kernel)(g:∀y∈sc.names,y.2≠ .free:=by decide+kernel):zG N Q sc:=⟨a,b,c,d,e,f,g⟩
section
variable{p:List Value->Prop}
theorem al0(h:p []):∀us,us.length=0->p us:=fun us e=>match us,e with | [],_=>h
theorem alS{n:Nat}(h:∀a us,us.length=n->p (a::us)):∀us,us.length=n+1->p us:=fun us e=>match us,e with | a::us,e=>h a us (Nat.succ.inj e)
theorem al1(h:∀a,p [a]):∀us,us.length=1->p us:=alS fun a=>al0 (h a)
theorem al2(h:∀a b,p [a,b]):∀us,us.length=2->p us:=alS fun a=>al1 (p:=fun us=>p (a::us)) (h a)
theorem al3(h:∀a b c,p [a,b,c]):∀us,us.length=3->p us:=alS fun a=>al2 (p:=fun us=>p (a::us)) (h a)
theorem al4(h:∀a b c d,p [a,b,c,d]):∀us,us.length=4->p us:=alS fun a=>al3 (p:=fun us=>p (a::us)) (h a)
theorem al5(h:∀a b c d e,p [a,b,c,d,e]):∀us,us.length=5->p us:=alS fun a=>al4 (p:=fun us=>p (a::us)) (h a)
theorem al6(h:∀a b c d e f,p [a,b,c,d,e,f]):∀us,us.length=6->p us:=alS fun a=>al5 (p:=fun us=>p (a::us)) (h a)
theorem al7(h:∀a b c d e f g,p [a,b,c,d,e,f,g]):∀us,us.length=7->p us:=alS fun a=>al6 (p:=fun us=>p (a::us)) (h a)
theorem al8(h:∀a b c d e f g i,p [a,b,c,d,e,f,g,i]):∀us,us.length=8->p us:=alS fun a=>al7 (p:=fun us=>p (a::us)) (h a)
end
section
variable{K:Frag}{x q m c:Str}{C f:Addr}{fd:FuncData}{st:Stmt}{fs:List Str}
structure zxy(K:Frag)(x:Str)(st:Stmt)(f:Addr)(fd:FuncData):Prop where
 at_:nsIn K mainGlobals x=some (some (.ref f))
 F:Fun K x x st f fd
structure zbs(K:Frag)(x:Str)(st:Stmt)(f:Addr)(fd:FuncData):Prop extends zxy K x st f fd where
 df:fd.defaults= .none
structure zl6(K:Frag)(C:Addr)(x q:Str)(st:Stmt)(f:Addr)(fd:FuncData):Prop where
 at_:findIn K (.ref C) x=some (some (.ref f))
 fn:isFn K (.ref f)=true
 F:Fun K x q st f fd
structure ztj(K:Frag)(c:Str)(C:Addr)(fs:List Str):Prop where
 at_:nsIn K mainGlobals c=some (some (.ref C))
 cl:Cls K C
 ms:makesIn K C=true
 kp:keepIn K (.ref C)=true
 na:∀f∈fs,zbH K C f
theorem zc3{f:Str}(h:findIn K (.ref C) f=some none)(t:∀x∈fs,zbH K C x):∀x∈f::fs,zbH K C x:=List.forall_mem_cons.mpr ⟨h,t⟩
abbrev zny(K:Frag)(fd:FuncData)(ps ks:List Str)(n m:Nat)(pat:List Src)(cs:List Value):Prop:=∀(S:Setting) (us:List Value),us.length=n->∀ws:List Value,ws.length=m->PySem.W.peek K S (bindArgs fd ⟨us,ks.zip ws⟩)=some (ps.zip (sel n m pat .none cs us ws))
theorem kbk{ps ks:List Str}{n j:Nat}{pat:List Src}{csV:List V}{csU:List Value}(h:zny K fd ps ks n j pat csU)(hc:Vals csV csU)(hp:ps.length≠0:=by decide):zdL K fd ps ks (sel n j pat .none csU) (sel n j pat .non csV):=zwW hc hp fun S us ws a b=>h S us a ws b
variable{P:Program}{w:World}{mg:Str->Option Value}{base h:Heap}{CX:CXT}{k:Nat}{ps ks:List Str}{sp:Sp}{g:List Value->List Value->List Value}{gV:List V->List V->List V}
theorem zbs.bd(A:zbs K x st f fd)(b:∀(kV doc pm:Value) (an:Option Addr) (cdv ct:Value) (us:List Value),us.length=ps.length->bindArgs (fnOf x x (zfC st) (zb4 st) (zx st) .none kV doc pm an cdv ct) ⟨us,[]⟩=pure (ps.zip us):=by intro _ _ _ _ _ _;first | exact al1 fun _=>rfl | exact al2 fun _ _=>rfl | exact al3 fun _ _ _=>rfl | exact al4 fun _ _ _ _=>rfl | exact al5 fun _ _ _ _ _=>rfl | exact al6 fun _ _ _ _ _ _=>rfl | exact al7 fun _ _ _ _ _ _ _=>rfl | exact al8 fun _ _ _ _ _ _ _ _=>rfl):Binds K fd ps []:=A.F.binds b A.df
theorem zxy.has(A:zxy K x st f fd)(b:Binds K fd ps [])(X:K.In h)(G:h.Ns mainGlobals mg)(ok:zaa P w K mg base CX k f fd ps sp):Has P w K mg base CX x k ps sp:=⟨_,_,ok,b,A.F.kp,mg_of X G A.at_⟩
theorem zl6.hasT(A:zl6 K C m q st f fd)(a:ztj K c C fs)(ok:zaa P w K mg base CX k f fd ps sp)(kb:zdL K fd ps ks g gV):zqj P w K mg base CX c m k ps sp ks gV:=⟨⟨C,_,_,_,zcp a.at_,a.cl,⟨A.at_,A.fn,A.F.kp⟩,ok,kb⟩⟩
theorem zl6.hasM(A:zl6 K C "__init__" q st f fd)(a:ztj K c C fs)(X:K.In h)(G:h.Ns mainGlobals mg)(ok:zaa P w K mg base CX k f fd ps sp)(kb:zdL K fd ps ks g gV):znC P w K mg base CX c k ps sp ks gV:=⟨⟨C,_,_,_,zcp a.at_,⟨a.ms,A.at_,A.fn,a.kp⟩,ok,kb,mg_of X G a.at_⟩⟩
end
section
variable{X:Cx}{a b e:Expr}{x:Str}{pos pos':Pos}{ta tb te:TE}
theorem qS(i:Nat)(hN:X.N.Nodup)(he:WE X e te)(hi:X.N[i]? = some x:=by rfl)(hx:Loc X.env.scope x:=by first | exact Or.inl rfl | exact Or.inr rfl)(hs:swapsWith e (some (.Name x pos')) pos.line X.env=pure false:=by rfl)
  (hf:X.fn x=true\/X.env.scope.names.lookup x=some .local:=by first | exact .inl rfl | exact .inr rfl | assumption):WS X (.Assign [.Name x pos'] e pos) (zdh te (zdq i)):=zj8 hN hi hx he hs hf
theorem qG(i:Nat)(hN:X.N.Nodup)(hi:X.N[i]? = some x:=by rfl)(hx:Loc X.env.scope x:=by first | exact Or.inl rfl | exact Or.inr rfl)(hf:X.fn x=true\/X.env.scope.names.lookup x=some .local:=by first | exact .inl rfl | exact .inr rfl | assumption):WG X (.Name x pos) (zdq i):=zaf hN hi hx hf
theorem qx(K:Frag)(ha:WE X a ta)(hb:WE X b tb)(h:X.K=K:=by rfl)(hs:zkH b:=by exact fun _ _=>rfl):WE X (.Subscript a b pos) (tOp (rIx K) ta tb):=zdl (zt6 K h) ha hb hs
theorem qa1(ha:WE X a ta)(h1:starEach [a] X.env=(false,eval a X.env)::starEach [] X.env:=by rfl):WA X [a] (zdr ta zfh):=zA ha zb0 h1
theorem qa2(ha:WE X a ta)(hb:WE X b tb)(h1:starEach [a,b] X.env=(false,eval a X.env)::starEach [b] X.env:=by rfl)(h2:starEach [b] X.env=(false,eval b X.env)::starEach [] X.env:=by rfl):WA X [a,b] (zdr ta (zdr tb zfh)):=zA ha (zA hb zb0 h2) h1
end
end L2
set_option synthInstance.maxHeartbeats 4000000
set_option synthInstance.maxSize 100000
namespace M
open PySem L2
def top(i:Nat):Stmt:=PySem.Challenge.pw_slotwright_k28_table_of_starts.main.body.getD i (.Pass ⟨0,0,0,0⟩)
abbrev zdg:Stmt:=top 9
abbrev zfj:List Str:=["text","signs","most"]
theorem zes:zG zfj ["text","signs","most"] (zx zdg):=zao
abbrev zf1:Stmt:=top 10
abbrev zi8:List Str:=["text"]
theorem zhM:zG zi8 ["text"] (zx zf1):=zao
abbrev zdc:Stmt:=top 11
abbrev ze8:List Str:=["text"]
theorem zez:zG ze8 ["text"] (zx zdc):=zao
abbrev zdu:Stmt:=top 12
abbrev zgM:List Str:=["thing"]
theorem ze2:zG zgM ["thing"] (zx zdu):=zao
abbrev zcL:Stmt:=top 13
abbrev zeu:List Str:=["thing"]
theorem zdP:zG zeu ["thing"] (zx zcL):=zao
abbrev zco:Stmt:=top 14
abbrev zdB:List Str:=["number","least","most"]
theorem zdp:zG zdB ["number","least","most"] (zx zco):=zao
abbrev zcm:Stmt:=inClass (top 21) 0
abbrev zdy:List Str:=["self","name","ways","every","long","release","last"]
theorem zdo:zG zdy ["self","name","ways","every","long","release","last"] (zx zcm):=zao
abbrev zc4:Stmt:=top 22
abbrev zfA:List Str:=["ways","way"]
theorem zei:zG zfA ["ways"] (zx zc4):=zao
abbrev zdv:Stmt:=top 23
abbrev zgy:List Str:=["way"]
theorem zfo:zG zgy ["way"] (zx zdv):=zao
abbrev zbv:Stmt:=top 24
abbrev zcr:List Str:=["one","two"]
theorem zcg:zG zcr ["one","two"] (zx zbv):=zao
abbrev zfW:Stmt:=top 27
abbrev ziW:List Str:=["frames"]
theorem zhG:zG ziW ["frames"] (zx zfW):=zao
abbrev zeV:Stmt:=top 28
abbrev zhx:List Str:=["way"]
theorem zgz:zG zhx ["way"] (zx zeV):=zao
abbrev zkA:Stmt:=top 29
abbrev zn1:List Str:=["frames"]
theorem zlX:zG zn1 ["frames"] (zx zkA):=zao
abbrev zcf:Stmt:=inClass (top 32) 0
abbrev zdH:List Str:=["self","rows"]
theorem zdj:zG zdH ["self","rows"] (zx zcf):=zao
abbrev zc5:Stmt:=inClass (top 32) 1
abbrev zfH:List Str:=["self"]
theorem zef:zG zfH ["self"] (zx zc5):=zao
abbrev zcG:Stmt:=inClass (top 32) 3
abbrev zeE:List Str:=["self"]
theorem zdz:zG zeE ["self"] (zx zcG):=zao
abbrev zeQ:Stmt:=top 33
abbrev zhs:List Str:=["frames","starts","held","name","at","h","start"]
theorem zgp:zG zhs ["frames","starts"] (zx zeQ):=zao
abbrev zdN:Stmt:=top 35
theorem zkS:zG ["_law_script"] ["_law_script"] (zx zdN):=zao
abbrev zeK:Stmt:=top 36
theorem zcy:zG ["_law_s","_law_many","_law_cell","_law_found"] ["_law_s","_law_many"] (zx zeK):=zao
abbrev zeO:Stmt:=top 37
abbrev ziq:List Str:=["_law_s","_law_row_here"]
theorem zgA:zG ziq ["_law_s","_law_row_here"] (zx zeO):=zao
abbrev zeU:Stmt:=top 38
abbrev zhh:List Str:=["_law_s","_law_names","_law_letters","_law_turn","_law_size","_law_word","_law_k"]
theorem zgH:zG zhh ["_law_s","_law_names"] (zx zeU):=zao
abbrev zfU:Stmt:=top 39
abbrev zjC:List Str:=["_law_s","_law_names","_law_lines","_law_one","_law_two","_law_barred","_law_fit","_law_line"]
theorem zhF:zG zjC ["_law_s","_law_names","_law_lines","_law_one","_law_two","_law_barred"] (zx zfU):=zao
abbrev zfX:Stmt:=top 40
abbrev zjD:List Str:=["_law_s","_law_names","_law_lines","_law_gates","_law_first","_law_the_last","_law_barred","_law_free","_law_way_here","_law_k","_law_gate"]
theorem zhi:zG zjD ["_law_s","_law_names","_law_lines","_law_gates","_law_first","_law_the_last","_law_barred"] (zx zfX):=zao
abbrev ze0:Stmt:=top 41
abbrev zhJ:List Str:=["_law_row_here","_law_lines","_law_the_slack","_law_the_most","_law_way_here","_law_sums","_law_line"]
theorem zgG:zG zhJ ["_law_row_here","_law_lines","_law_the_slack"] (zx ze0):=zao
abbrev zf8:Stmt:=top 42
abbrev zji:List Str:=["_law_s","_law_names","_law_lines","_law_houses","_law_gates","_law_the_slack","_law_at","_law_first","_law_the_last","_law_ways","_law_the_every","_law_the_long","_law_row_here","_law_spare"]
theorem zhA:zG zji ["_law_s","_law_names","_law_lines","_law_houses","_law_gates","_law_the_slack"] (zx zf8):=zao
abbrev zdG:Stmt:=top 43
abbrev zgx:List Str:=["_law_s","_law_the_most","_law_names","_law_houses","_law_gates","_law_the_slack","_law_lines","_law_rows"]
theorem zfp:zG zgx ["_law_s","_law_the_most"] (zx zdG):=zao
abbrev zdA:Stmt:=top 44
abbrev zgq:List Str:=["_law_row_here"]
theorem ze5:zG zgq ["_law_row_here"] (zx zdA):=zao
abbrev zc8:Stmt:=top 45
abbrev ze9:List Str:=["_law_rows"]
theorem zeB:zG ze9 ["_law_rows"] (zx zc8):=zao
abbrev zdt:Stmt:=top 46
abbrev zgh:List Str:=["_law_rows","_law_found","_law_row_here","_law_k","_law_way_here","_law_h","_law_line"]
theorem zfw:zG zgh ["_law_rows"] (zx zdt):=zao
abbrev zcK:Stmt:=top 47
abbrev zel:List Str:=["_law_rows","_law_starts","_law_found","_law_at","_law_row_here","_law_k","_law_h","_law_line"]
theorem zdX:zG zel ["_law_rows","_law_starts"] (zx zcK):=zao
abbrev zrU:Stmt:=top 48
abbrev zrq:List Str:=["_law_script","_law_s","_law_world_here","_law_turn","_law_frames_here","_law_starts","_law_handed","_law_table"]
theorem zrS:zG zrq ["_law_script"] (zx zrU):=zao
section
variable{P:Program}{w:World}{K:Frag}{mg:Str->Option Value}{base:Heap}
theorem zsU{f:Addr}{fd:FuncData}(F:Fun K "_law_draw" "_law_draw" zeK f fd)(B:Blt mg):zaa P w K mg base CX0 1 f fd ["_law_s","_law_many"] zkr:=by
 refine F.okq zcy (fun vs H Q E h=>?_) (fun cdv A outer s H vs Q E hr h=>?_)
 .obtain⟨a,l,m,rfl,_⟩:=h;rfl
 obtain⟨a,l,many,rfl,⟨ns,i,b,c,ha,hl,hi,hb,hal⟩,hm,hm2,q⟩:=h;refine⟨_,(zf (zaL (zJ zu5 (zdl (zaN K) (qv 0) zc (fun _ _=>rfl)) zc (zaD _))
  (zf (zj8 (i:=2) zcy.nd rfl (Or.inl rfl) zc)
  (zf (zaL (zJ zlx (zdl (zaN K) (qv 0) zc (fun _ _=>rfl)) (zF (zoF K) rfl B.len zax (zA (zdl (zaN K) (qv 0) zc (fun _ _=>rfl)) zb0)) (zaD _))
  (zf (zj8 (i:=2) zcy.nd rfl (Or.inl rfl) (zdl (zaN K) (zdl (zaN K) (qv 0) zc (fun _ _=>rfl)) (zdl (zaN K) (qv 0) zc (fun _ _=>rfl)) (fun _ _=>rfl)))
  (zg (zhe (zW zkR (zdl (zaN K) (qv 0) zc (fun _ _=>rfl)) zc) (zhL (qv 0) zc set_list))))
  zad)
  (zg (zaL (WW.qt (zjI (zJ zxG (qv 2) (zW zqu zc zc) (zaD _)) (zfK (zJ zlv (qv 2) (zdx zcn (zW zqu zc zc)) (zaD _)))))
  (zg (zhe (zF zr5 rfl B.abs zxz (zA (qv 2) zb0)) (zhL (qv 0) zc set_list)))
  (zf (zhe (zW zf6 (zW zkR (zW zkR (zW zqM (zdl (zaN K) (qv 0) zc (fun _ _=>rfl)) zc) (zW zf6 (qv 2) zc)) zc) zc) (zhL (qv 0) zc set_list))
  (zg (zac (zW zf6 (zW zfs (zdl (zaN K) (qv 0) zc (fun _ _=>rfl)) zc) (qv 1)))))))))
  zad)
  (zf (zj8 (i:=3) zcy.nd rfl (Or.inl rfl) (zW zf6 (zdl (zaN K) (qv 0) zc (fun _ _=>rfl)) (qv 1)))
  (zf (zhe (zW zfs (zdl (zaN K) (qv 0) zc (fun _ _=>rfl)) (qv 1)) (zhL (qv 0) zc set_list))
  (zg (zac (qv 3)))))),?_⟩
 have fin:∀(H1:Hp) (i1 b1 c1:Int) (x:Option V),H1 a=some (.lst [.ref l, .int i1, .int b1, .int c1])->0<=i1->0<=b1->zkF a H H1 ->
   (ziE (zdh (tOp (rI (fun _ j=>0 < j) fun i j=> .int (i % j)) (tOp (zhy K) (za3 0) (tC (.int 2))) (za3 1)) (zdq 3))
    (ziE (zdh (tOp (rI zhf fun i j=> .int (i / j)) (tOp (zhy K) (za3 0) (tC (.int 2))) (za3 1)) (zkv (za3 0) (tC (.int 2)) zgD)) (zmA (za3 3)))) { nx:=fun _ H'=>Q .non H',rt:=Q } [some (.ref a),some (.int many),x,none] H1:=by
  intro H1 i1 b1 c1 x h1 hi1 hb1 o1;refine⟨_,rfl,_,_,_,_,rfl,rfl,SqL.of h1,rfl,_,rfl,_,_,rfl,rfl,hm,?_⟩;refine⟨_,rfl,_,_,_,_,rfl,rfl,SqL.of h1,rfl,_,rfl,_,_,rfl,rfl,⟨hm,hm2⟩,?_⟩;refine⟨_,rfl,_,_,_,_,rfl,rfl,h1,rfl,?_⟩;refine⟨_,rfl,?_⟩;refine q _ _ (Int.emod_nonneg _ (by omega)) (Int.emod_lt_of_pos _ hm) ⟨ns,i1,b1 / many,c1,zq,?_,hi1,Int.ediv_nonneg hb1 (by omega),hal⟩ fun z hz=>?_
  .rw[zm hal.symm,o1 _ hal.symm];exact hl
  .rw[zm hz];exact o1 z hz
 refine⟨_,rfl,_,_,_,_,rfl,rfl,SqL.of ha,rfl,rfl,_,rfl,?_⟩;refine ztc (fun c0=>?_) (fun c0=>?_)
 .refine⟨_,rfl,_,_,_,_,rfl,rfl,SqL.of ha,rfl,_,rfl,_,_,_,_,rfl,rfl,SqL.of ha,rfl,_,_,rfl, .inl (SqL.of hl),_,_,rfl,rfl,_,rfl,?_⟩;have cellEnd:∀(H1:Hp) (i1 cell:Int),H1 a=some (.lst [.ref l, .int i1, .int b, .int c])->0<=i1->zkF a H H1 ->
   (ztH (tOr (zhk (tOp (rI0 fun i j=> .bl (decide (j<=i))) (za3 2) (tOp (rI ztm fun i j=> .int (i^j.toNat)) (tC (.int 10)) (tC (.int 18)))))
     (zhk (tOp (rI0 fun i j=> .bl (decide (i<=j))) (za3 2) (tUn (rU fun i=> .int (-i)) (tOp (rI ztm fun i j=> .int (i^j.toNat)) (tC (.int 10)) (tC (.int 18)))))))
    (zdh (tCB (fun xs H Q=>∃i,xs=[.int i]/\Q (.int (if i < 0 then -i else i)) H) (zdr (za3 2) zfh)) (zkv (za3 0) (tC (.int 2)) zgD))
    (ziE (zdh (tOp (rI (fun _ j=>0 < j) fun i j=> .int (i % j)) (tOp (rI0 fun i j=> .int (i+j)) (tOp (rI0 fun i j=> .int (i+j)) (tOp (rI ziN fun i j=> .int (i*j)) (tOp (zhy K) (za3 0) (tC (.int 3))) (tC (.int 48271))) (tOp (rI (fun _ j=>0 < j) fun i j=> .int (i % j)) (za3 2) (tC (.int 2147483647)))) (tC (.int 11))) (tC (.int 2147483647))) (zkv (za3 0) (tC (.int 3)) zgD))
     (zmA (tOp (rI (fun _ j=>0 < j) fun i j=> .int (i % j)) (tOp (rI zhf fun i j=> .int (i / j)) (tOp (zhy K) (za3 0) (tC (.int 3))) (tC (.int 64))) (za3 1)))))
    {nx:=(ziE (zdh (tOp (rI (fun _ j=>0 < j) fun i j=> .int (i % j)) (tOp (zhy K) (za3 0) (tC (.int 2))) (za3 1)) (zdq 3))
    (ziE (zdh (tOp (rI zhf fun i j=> .int (i / j)) (tOp (zhy K) (za3 0) (tC (.int 2))) (za3 1)) (zkv (za3 0) (tC (.int 2)) zgD)) (zmA (za3 3)))) { nx:=fun _ H'=>Q .non H',rt:=Q },rt:=Q } [some (.ref a),some (.int many),some (.int cell),none] H1:=by
   intro H1 i1 cell h1 hi1 o1;have big:(zdh (tCB (fun xs H Q=>∃i,xs=[.int i]/\Q (.int (if i < 0 then -i else i)) H) (zdr (za3 2) zfh)) (zkv (za3 0) (tC (.int 2)) zgD))
     {nx:=(ziE (zdh (tOp (rI (fun _ j=>0 < j) fun i j=> .int (i % j)) (tOp (zhy K) (za3 0) (tC (.int 2))) (za3 1)) (zdq 3))
    (ziE (zdh (tOp (rI zhf fun i j=> .int (i / j)) (tOp (zhy K) (za3 0) (tC (.int 2))) (za3 1)) (zkv (za3 0) (tC (.int 2)) zgD)) (zmA (za3 3)))) { nx:=fun _ H'=>Q .non H',rt:=Q },rt:=Q } [some (.ref a),some (.int many),some (.int cell),none] H1:=by
    refine⟨_,rfl,_,rfl,_,rfl,_,_,_,_,rfl,rfl,h1,rfl,?_⟩;exact fin _ i1 (if cell < 0 then -cell else cell) c _ zq hi1 (by split<;>omega) fun z hz=>by rw[zm hz];exact o1 z hz
   refine⟨_,rfl,_,_,rfl,rfl,⟨by decide,by decide,by decide⟩,_,_,rfl,rfl,_,rfl,?_⟩;refine ztc (fun c1=>?_) (fun c1=>?_)
   .exact zzc big
   .refine⟨_,rfl,_,_,rfl,rfl,⟨by decide,by decide,by decide⟩,_,rfl,_,_,rfl,rfl,_,rfl,?_⟩;refine ztc (fun c2=>big) (fun c2=>?_);refine⟨_,rfl,_,_,_,_,rfl,rfl,SqL.of h1,rfl,_,_,rfl,rfl, .inr ⟨by decide,by decide⟩,_,rfl,_,_,rfl,rfl,(show(0:Int) < 2147483647 by decide),_,_,rfl,rfl,_,_,rfl,rfl,_,_,rfl,rfl,(show(0:Int) < 2147483647 by decide),?_⟩;refine⟨_,rfl,_,_,_,_,rfl,rfl,h1,rfl,?_⟩;refine⟨_,rfl,_,_,_,_,rfl,rfl,SqL.of zq,rfl,_,_,rfl,rfl,⟨by decide,by decide⟩,_,rfl,_,_,rfl,rfl,hm,?_⟩;refine q _ _ (Int.emod_nonneg _ (by omega)) (Int.emod_lt_of_pos _ hm) ⟨ns,i1,b,_,zq,?_,hi1,hb,hal⟩ fun z hz=>?_
    .rw[zm hal.symm,o1 _ hal.symm];exact hl
    .rw[zm hz];exact o1 z hz
  refine ztc (fun c1=>?_) (fun c1=>?_)
  .have c1':i < ((ns.map V.int).length:Int):=of_decide_eq_true c1;rw[List.length_map] at c1';have hget:(ns.map V.int)[i.toNat]? = some (.int (ns[i.toNat]'(by omega))):=by rw[List.getElem?_map,List.getElem?_eq_getElem (by omega)];rfl
   have hat:=zbu hget;rw[show((i.toNat:Nat):Int)=i by omega] at hat;refine⟨_,rfl,_,_,_,_,rfl,rfl,SqL.of ha,rfl,_,rfl,_,_,_,_,rfl,rfl,SqL.of ha,rfl,_,_,_,_,rfl,rfl,SqL.of hl,hat,?_⟩;refine⟨_,rfl,_,_,_,_,rfl,rfl,SqL.of ha,rfl,_,_,rfl,rfl,_,rfl,_,_,_,_,rfl,rfl,ha,rfl,?_⟩;exact cellEnd _ (i+1) _ zq (by omega) fun z hz=>by rw[zm hz]
  .exact cellEnd H i 0 ha hi fun z hz=>rfl
 .exact fin H i b c none ha hi hb fun z hz=>rfl
theorem zqz{f:Addr}{fd:FuncData}(F:Fun K "_law_start" "_law_start" zdN f fd)(B:Blt mg):zaa P w K mg base CX0 1 f fd ["_law_script"] (zh7 K):=by
 refine F.okq zkS (fun vs H Q E h=>?_) (fun cdv A outer s H vs Q E hr h=>?_)
 .obtain⟨a,m,rfl,_⟩:=h;rfl
 obtain⟨a,ns,rfl,hS,q⟩:=h;refine⟨_,(zg (zac (zbz (zA (zbG (zhd K) rfl B.list zha (zA (zcd (zp6 K) (qv 0) zc9 (zaT zc)) zb0)) (zA zc (zA zc (zA zc zb0))))))),?_⟩;refine⟨_,rfl,_,rfl,_,_,rfl,hS,fun p1 h1=>?_⟩;refine⟨_,_,rfl, .inl (SqL.of zq),fun p2 h2=>⟨by show 4<=sizeLine;decide,fun p3 h3=>?_⟩⟩;have n21:p2≠p1:=fun z=>by rw[z,zq] at h2;cases h2
 have n32:p3≠p2:=fun z=>by rw[z,zq] at h3;cases h3
 rw[zm n32] at h3;have n31:p3≠p1:=fun z=>by rw[z,zq] at h3;cases h3
 rw[zm n31] at h3;rw[zm n21] at h2;have cut:zgQ (ns.map V.int) none (some 63)=((ns.drop (HT.sIx (ns.map V.int).length 0 none)).take (HT.sIx (ns.map V.int).length (ns.map V.int).length (some 63) - HT.sIx (ns.map V.int).length 0 none)).map V.int:=by
  unfold zgQ;rw[List.map_take,List.map_drop]
 refine q p3 p2 _ h3 h2 ⟨((ns.drop (HT.sIx (ns.map V.int).length 0 none)).take (HT.sIx (ns.map V.int).length (ns.map V.int).length (some 63) - HT.sIx (ns.map V.int).length 0 none)),0,0,90210,zq,?_,by decide,by decide,n32⟩ fun b o e=>?_
 .rw[zm n32.symm,zq,cut]
 .rw[zm (zM e h3),zm (zM e h2),zm (zM e h1)];exact e
end
abbrev tab:Tab:=[("Frame",["name","ways","every","long","release","last"]),("Table",["rows"])]
abbrev zcU:List Str:=["name","ways","every","long","release","last"]
theorem zcI:zc0 tab "Frame" "name"=true:=by decide+kernel
theorem ziF{v0 v1 v2 v3 v4 v5:D}{R:D->Prop}:znb tab "name" "Frame" zcU [v0,v1,v2,v3,v4,v5] R=R v0:=by
 simp only[znb,zcI,true_and,List.zip_cons_cons,List.lookup_cons,beq_self_eq_true,zec]
theorem ziz{w:D}{R:List Str->List D->Prop}:zdO tab "name" w "Frame" [] [] R=R ["name"] [w]:=by
 rw[zdO,zcI,show putN "name" []=(["name"]:List Str) from by simp only[putN,if_false],show putD "name" w [] []=[w] from by simp only[putD,if_false]];exact propext ⟨fun h=>h.2.2,fun h=>⟨rfl,by show 0 < 1000;decide,h⟩⟩
theorem zeH:zc0 tab "Frame" "ways"=true:=by decide+kernel
theorem ziK{v0 v1 v2 v3 v4 v5:D}{R:D->Prop}:znb tab "ways" "Frame" zcU [v0,v1,v2,v3,v4,v5] R=R v1:=by
 simp only[znb,zeH,true_and,List.zip_cons_cons,List.lookup_cons,show(("ways":Str)=="name")=false from by decide+kernel,beq_self_eq_true,zec]
theorem ziI{w v0:D}{R:List Str->List D->Prop}:zdO tab "ways" w "Frame" ["name"] [v0] R=R ["name","ways"] [v0,w]:=by
 rw[zdO,zeH,show putN "ways" ["name"]=(["name","ways"]:List Str) from by simp only[putN,show(("name":Str)="ways")=False from eq_false (by decide+kernel),if_false],show putD "ways" w ["name"] [v0]=[v0,w] from by simp only[putD,show(("name":Str)="ways")=False from eq_false (by decide+kernel),if_false]];exact propext ⟨fun h=>h.2.2,fun h=>⟨rfl,by show 1 < 1000;decide,h⟩⟩
theorem zhT:zc0 tab "Frame" "every"=true:=by decide+kernel
theorem zh8{w v0 v1:D}{R:List Str->List D->Prop}:zdO tab "every" w "Frame" ["name","ways"] [v0,v1] R=R ["name","ways","every"] [v0,v1,w]:=by
 rw[zdO,zhT,show putN "every" ["name","ways"]=(["name","ways","every"]:List Str) from by simp only[putN,show(("name":Str)="every")=False from eq_false (by decide+kernel),show(("ways":Str)="every")=False from eq_false (by decide+kernel),if_false],show putD "every" w ["name","ways"] [v0,v1]=[v0,v1,w] from by simp only[putD,show(("name":Str)="every")=False from eq_false (by decide+kernel),show(("ways":Str)="every")=False from eq_false (by decide+kernel),if_false]];exact propext ⟨fun h=>h.2.2,fun h=>⟨rfl,by show 2 < 1000;decide,h⟩⟩
theorem ziu:zc0 tab "Frame" "long"=true:=by decide+kernel
theorem ziw{w v0 v1 v2:D}{R:List Str->List D->Prop}:zdO tab "long" w "Frame" ["name","ways","every"] [v0,v1,v2] R=R ["name","ways","every","long"] [v0,v1,v2,w]:=by
 rw[zdO,ziu,show putN "long" ["name","ways","every"]=(["name","ways","every","long"]:List Str) from by simp only[putN,show(("name":Str)="long")=False from eq_false (by decide+kernel),show(("ways":Str)="long")=False from eq_false (by decide+kernel),show(("every":Str)="long")=False from eq_false (by decide+kernel),if_false],show putD "long" w ["name","ways","every"] [v0,v1,v2]=[v0,v1,v2,w] from by simp only[putD,show(("name":Str)="long")=False from eq_false (by decide+kernel),show(("ways":Str)="long")=False from eq_false (by decide+kernel),show(("every":Str)="long")=False from eq_false (by decide+kernel),if_false]];exact propext ⟨fun h=>h.2.2,fun h=>⟨rfl,by show 3 < 1000;decide,h⟩⟩
theorem zfJ:zc0 tab "Frame" "release"=true:=by decide+kernel
theorem zf9{w v0 v1 v2 v3:D}{R:List Str->List D->Prop}:zdO tab "release" w "Frame" ["name","ways","every","long"] [v0,v1,v2,v3] R=R ["name","ways","every","long","release"] [v0,v1,v2,v3,w]:=by
 rw[zdO,zfJ,show putN "release" ["name","ways","every","long"]=(["name","ways","every","long","release"]:List Str) from by simp only[putN,show(("name":Str)="release")=False from eq_false (by decide+kernel),show(("ways":Str)="release")=False from eq_false (by decide+kernel),show(("every":Str)="release")=False from eq_false (by decide+kernel),show(("long":Str)="release")=False from eq_false (by decide+kernel),if_false],show putD "release" w ["name","ways","every","long"] [v0,v1,v2,v3]=[v0,v1,v2,v3,w] from by simp only[putD,show(("name":Str)="release")=False from eq_false (by decide+kernel),show(("ways":Str)="release")=False from eq_false (by decide+kernel),show(("every":Str)="release")=False from eq_false (by decide+kernel),show(("long":Str)="release")=False from eq_false (by decide+kernel),if_false]];exact propext ⟨fun h=>h.2.2,fun h=>⟨rfl,by show 4 < 1000;decide,h⟩⟩
theorem ziM:zc0 tab "Frame" "last"=true:=by decide+kernel
theorem zis{w v0 v1 v2 v3 v4:D}{R:List Str->List D->Prop}:zdO tab "last" w "Frame" ["name","ways","every","long","release"] [v0,v1,v2,v3,v4] R=R ["name","ways","every","long","release","last"] [v0,v1,v2,v3,v4,w]:=by
 rw[zdO,ziM,show putN "last" ["name","ways","every","long","release"]=(["name","ways","every","long","release","last"]:List Str) from by simp only[putN,show(("name":Str)="last")=False from eq_false (by decide+kernel),show(("ways":Str)="last")=False from eq_false (by decide+kernel),show(("every":Str)="last")=False from eq_false (by decide+kernel),show(("long":Str)="last")=False from eq_false (by decide+kernel),show(("release":Str)="last")=False from eq_false (by decide+kernel),if_false],show putD "last" w ["name","ways","every","long","release"] [v0,v1,v2,v3,v4]=[v0,v1,v2,v3,v4,w] from by simp only[putD,show(("name":Str)="last")=False from eq_false (by decide+kernel),show(("ways":Str)="last")=False from eq_false (by decide+kernel),show(("every":Str)="last")=False from eq_false (by decide+kernel),show(("long":Str)="last")=False from eq_false (by decide+kernel),show(("release":Str)="last")=False from eq_false (by decide+kernel),if_false]];exact propext ⟨fun h=>h.2.2,fun h=>⟨rfl,by show 5 < 1000;decide,h⟩⟩
abbrev zdI:List Str:=["rows"]
theorem zeD:zc0 tab "Table" "rows"=true:=by decide+kernel
theorem ziG{v0:D}{R:D->Prop}:znb tab "rows" "Table" zdI [v0] R=R v0:=by
 simp only[znb,zeD,true_and,List.zip_cons_cons,List.lookup_cons,beq_self_eq_true,zec]
theorem ziQ{w:D}{R:List Str->List D->Prop}:zdO tab "rows" w "Table" [] [] R=R ["rows"] [w]:=by
 rw[zdO,zeD,show putN "rows" []=(["rows"]:List Str) from by simp only[putN,if_false],show putD "rows" w [] []=[w] from by simp only[putD,if_false]];exact propext ⟨fun h=>h.2.2,fun h=>⟨rfl,by show 0 < 1000;decide,h⟩⟩
theorem zey{v0:D}:List.lookup ("told":Str) (zdI.zip [v0])=none:=by
 simp only[List.zip_cons_cons,List.zip_nil_left,List.lookup_cons,List.lookup_nil,show(("told":Str)=="rows")=false from by decide+kernel]
abbrev zuD:List Str:=[]
abbrev zuP:List Str:=[]
abbrev zuT:List Str:=[]
abbrev zuO:List Str:=[]
abbrev zst:Ct:= .lam 0 "by_name" 90 30 "by_name.<locals>.<lambda>"
abbrev zs3:DSp:=znN "by_name" 90 30 "by_name.<locals>.<lambda>"
@[reducible] def ze3:DS:=(zbf (znJ (zj2 dLe dLe (dC (.int 1)) (dCB zb9 (za (zb 0) zu)) (zb 2)) (dCB zpn (za (zbU ["sign"] [1] [0] (zbS (zb 0)) (zp 0) zcO (dOp ztK (zb 0) (zb 1))) zu))))
def zcj:DSp:=zR ze3 zfj 3
@[reducible] def zgc:DS:=(zbf (znJ (dCB zgS (za (zb 0) (za (dC (.ty "int")) zu))) (zqV (dCB zgS (za (zb 0) (za (dC (.ty "bool")) zu))))))
def zbN:DSp:=zR zgc zgM 1
@[reducible] def zcx:DS:=(zK (zb3 (dOr (zY (dOp dNe (dOp dIx (zb 0) (dC (.int 0))) (dOp dIx (zb 1) (dC (.int 0))))) (zY (dOp dNe (dOp dIx (zb 0) (dUn zfz (dC (.int 1)))) (dOp dIx (zb 1) (dUn zfz (dC (.int 1)))))))
  zbY
  zaU)
  (zb3 (zY (dCB zqQ (za (zbU ["name"] [1] [0] (zbS (dSl za6 (zb 0) (zaG (dC (.int 1))) (zaG (dUn zfz (dC (.int 1)))))) (zp 0) zcO (dOp (zbA false) (zb 0) (zb 1))) zu)))
  zbY
  zaU))
def zaB:DSp:=zR zcx zcr 2
@[reducible] def zjA:DS:=(zbf (zm1 tab "by_name" 90 30 "by_name.<locals>.<lambda>" "name" (zb 0)))
def zct:DSp:=zR zjA ziW 1
@[reducible] def zhn:DS:=(zbf (zqs (zb 0) (zaG (dC (.int 1))) zag (zaG (dC (.int 2)))))
def zb8:DSp:=zR zhn zhx 1
@[reducible] def zdZ:DS:=(zdC tab (zb 0) (dCB zeI (za (zb 1) zu)) "rows")
def zaE:DSp:=zR zdZ zdH 2
@[reducible] def zfy:DS:=(zbf (dCB zhc (za (zo7 tab (zb 0) "rows") zu)))
def zbo:DSp:=zR zfy zfH 1
@[reducible] def zen:DS:=(zbf (dCB zb9 (za (zo7 tab (zb 0) "rows") zu)))
def zav:DSp:=zR zen zeE 1
@[reducible] def zhI:DS:=(zK (zay (dC (.int 0)) (zp 3))
  (zK (zfY (zbS (dOp dIx (zb 0) (dC (.int 1)))) (zp 4)
  (zK (zay (dC (.int 0)) (zp 5))
  (zK (zfY (zbS (zb 1)) (zp 6)
  (zb3 (zY (dOp (zbA false) (dOp dIx (zb 6) (dC (.int 0))) (zb 4)))
  (zay (dOp zbL (dOp zbL (dOp zbL (zb 5) (dOp dIx (zb 0) (dC (.int 3)))) (dOp dIx (zb 6) (dC (.int 3)))) (zb 2)) (zp 5))
  zaU))
  (zay (dCB zpo (za (zb 3) (za (zb 5) zu))) (zp 3)))))
  (zbf (zb 3))))
def zb2:DSp:=zR zhI zhJ 3
@[reducible] def zgI:DS:=(zK (zay (zdn zu) (zp 1))
  (zK (zfY (zbS (dCB zeI (za (zb 0) zu))) (zp 2)
  (zfY (zcz (za (dOp dIx (zb 2) (dC (.int 1))) zu)) (zem 2 (zaz (zp 3) (zaz (zp 4) zep)))
  (zfY (zcz (za (zqs (zb 4) (zaG (dC (.int 1))) zag (zaG (dC (.int 2)))) zu)) (zem 2 (zaz (zp 5) (zaz (zp 6) zep)))
  (zaM (dBM "list" zaC (zb 1) (za (dTup (za (zb 2) (za (zb 3) (za (zb 5) (za (zb 6) zu))))) zu))))))
  (zfF 1 (zbf (zb 1)))))
def za7:DSp:=zR zgI zgh 1
@[reducible] def zjK:DS:=(zbf (dCall zcj (za (zb 0) (za (dC (.str "abcdefghijklmnopqrstuvwxyz")) (za (dC (.int 8)) zu)))))
def zbQ:DSp:=zR zjK zi8 1
@[reducible] def zet:DS:=(zb3 (zop (zY (dCall zbN (za (zb 0) zu))))
  zbY
  zaU)
def za9:DSp:=zR zet zeu 1
@[reducible] def znv:DS:=(zbf (zmW ["frame","at","way","h"] [] [0] (zbS (dCall zct (za (zb 0) zu))) (zp 0) zcO (zpi (["frame","at","way","h"]:List Str).length ([]++[0]) ([1]++([2]++[])) (zcz (za (zo7 tab (zb 0) "ways") zu)) (zem 2 (zaz (zp 1) (zaz (zp 2) zep))) zcO (zpi (["frame","at","way","h"]:List Str).length (([]++[0])++([1]++([2]++[]))) [3] (zcE (za (dCB zb9 (za (dCall zb8 (za (zb 2) zu)) zu)) zu)) (zp 3) zcO (zsG (dTup (za (zo7 tab (zb 0) "name") (za (zb 1) (za (zb 3) zu)))))))))
def zd2:DSp:=zR znv zn1 1
@[reducible] def zh1:DS:=(zbf (dOp dIx (zb 1) (dCall zV (za (zb 0) (za (dCB zb9 (za (zb 1) zu)) zu)))))
def zbr:DSp:=zR zh1 ziq 2
@[reducible] def zhl:DS:=(zK (zay (dC (.str "abcdefghijklmnopqrstuvwxyz")) (zp 2))
  (zK (zfY (zcE (za (dC (.int 4)) zu)) (zp 3)
  (zK (zay (dOp zbL (dC (.int 1)) (dCall zV (za (zb 0) (za (dC (.int 3)) zu)))) (zp 4))
  (zK (zb3 (zY (dOp dEq (zb 4) (dC (.int 3))))
  (zay (dOp zbL (dC (.int 1)) (dCall zV (za (zb 0) (za (dC (.int 8)) zu)))) (zp 4))
  zaU)
  (zK (zay (dBM "str" zsb (dC (.str "")) (za (zbU ["_law_k"] [2,0] [0] (zcE (za (zb 4) zu)) (zp 0) zcO (dOp dIx (zb 1) (dCall zV (za (zb 2) (za (dC (.int 26)) zu))))) zu)) (zp 5))
  (zb3 (zY (dOp (zbA true) (zb 5) (zb 1)))
  (zK (zaM (dBM "list" zaC (zb 1) (za (zb 5) zu)))
  (zbf (zb 5)))
  zaU)))))
  (zK (zfY (zcE (za (dC (.int 104)) zu)) (zp 6)
  (zK (zay (dOp ziX (dOp dIx (zb 2) (dOp zsL (zb 6) (dC (.int 26)))) (dOp zbL (dC (.int 1)) (dOp znY (zb 6) (dC (.int 26))))) (zp 5))
  (zb3 (zY (dOp (zbA true) (zb 5) (zb 1)))
  (zK (zaM (dBM "list" zaC (zb 1) (za (zb 5) zu)))
  (zbf (zb 5)))
  zaU)))
  (zbf (dC (.str "zzzzzzzz"))))))
def zak:DSp:=zR zhl zhh 2
@[reducible] def zeq:DS:=(zK (zay (zdn zu) (zp 2))
  (zK (zfY (zcz (za (dCall za7 (za (zb 0) zu)) zu)) (zem 2 (zaz (zp 3) (zaz (zem 4 (zaz (zp 4) (zaz (zp 5) (zaz (zp 6) (zaz (zp 7) zep))))) zep)))
  (zb3 (zY (dOp dEq (zb 6) (dC (.int 0))))
  (zaM (dBM "list" zaC (zb 2) (za (dTup (za (dOp dIx (zb 4) (dC (.int 0))) (za (zb 5) (za (dTup (za (dOp dIx (zb 1) (zb 3)) zu)) zu)))) zu)))
  (zay (dOp zbL (dSl za6 (dOp dIx (zb 2) (dUn zfz (dC (.int 1)))) zag (zaG (dC (.int 2)))) (dTup (za (dOp zbL (dOp dIx (dOp dIx (zb 2) (dUn zfz (dC (.int 1)))) (dC (.int 2))) (dTup (za (dOp dIx (zb 1) (zb 3)) zu))) zu))) (zsE (zb 2) (dUn zfz (dC (.int 1))) zkh))))
  (zfF 2 (zbf (zb 2)))))
def zba:DSp:=zR zeq zel 2
@[reducible] def ze4:DS:=(zb3 (zop (zY (dCall zbQ (za (zb 0) zu))))
  zbY
  zaU)
def zbp:DSp:=zR ze4 ze8 1
@[reducible] def zdM:DS:=(zK (zaM (dCall za9 (za (zb 0) zu)))
  (zb3 (zop (zY (zj2 dLe dLe (zb 1) (zb 0) (zb 2))))
  zbY
  zaU))
def zam:DSp:=zR zdM zdB 3
@[reducible] def zgn:DS:=(zK (zb3 (zY (dOp (zbA true) (dCB zb9 (za (zb 0) zu)) (dC (.tup (List.map D.int [3,5,7])))))
  zbY
  zaU)
  (zK (zb3 (zop (zY (dCB zpn (za (zbU ["text"] [] [0] (zbS (zb 0)) (zp 0) zcO (dCall zbQ (za (zb 0) zu))) zu))))
  zbY
  zaU)
  (zb3 (zY (dOp dLt (zj6 (zb 0)) (dCB zb9 (za (zb 0) zu))))
  zbY
  zaU)))
def zbM:DSp:=zR zgn zgy 1
@[reducible] def zig:DS:=(zK (zay zsa (zp 2))
  (zK (zfY (zqg (za (dCall zd2 (za (zb 0) zu)) (za (zb 1) zu))) (zem 2 (zaz (zem 3 (zaz (zp 3) (zaz (zp 4) (zaz (zp 5) zep)))) (zaz (zp 6) zep)))
  (zsH (zb 2) (za (zb 3) (za (zb 4) zu)) (dOp zn6 (zm0 (zb 2) (za (zb 3) (za (zb 4) zu)) (dTup zu)) (dTup (za (zb 6) zu)))))
  (zbf (zfL "Table" zaE 2 0 [.p 0, .p 1] [] (za (zbU ["name","at"] [2] ([0]++([1]++[])) (zm4 (zb 2)) (zem 2 (zaz (zp 0) (zaz (zp 1) zep))) zcO (dTup (za (zb 0) (za (zb 1) (za (zmZ (zb 2) (za (zb 0) (za (zb 1) zu))) zu))))) zu) zu))))
def zb5:DSp:=zR zig zhs 2
@[reducible] def zi9:DS:=(zK (zay (zbU ["_law_line"] [5,3] [0] (zbS (zb 2)) (zp 0) (ztL (zY (dOp (zbA true) (dOp dIx (zb 0) (dC (.int 0))) (zb 1))) (dOr (zY (dOp (zbA false) (zb 2) (dOp dIx (zb 0) (dC (.int 1))))) (zY (dOp dLt (dCB zb9 (za (dOp dIx (zb 0) (dC (.int 1))) zu)) (dC (.int 6)))))) (zb 0)) (zp 6))
  (zK (zay (zbU ["_law_line"] [4] [0] (zbS (zb 6)) (zp 0) (dOr (zY (dOp (zbA false) (zb 1) (dOp dIx (zb 0) (dC (.int 2))))) (zY (dOp dLt (dCB zb9 (za (dOp dIx (zb 0) (dC (.int 2))) zu)) (dC (.int 6))))) (zb 0)) (zp 6))
  (zK (zb3 (ztL (zY (dOp dLt (dCB zb9 (za (zb 2) zu)) (dC (.int 14)))) (dOr (zY (dOp dEq (dCB zb9 (za (zb 6) zu)) (dC (.int 0)))) (zY (dOp dEq (dCall zV (za (zb 0) (za (dC (.int 3)) zu))) (dC (.int 0))))))
  (zK (zaM (dBM "list" zaC (zb 2) (za (zkc (za (dCall zak (za (zb 0) (za (zb 1) zu))) (za (zdn (za (zb 3) zu)) (za (zdn (za (zb 4) zu)) (za (dCall zV (za (zb 0) (za (dC (.int 4)) zu))) zu))))) zu)))
  (zbf (dOp dIx (dOp dIx (zb 2) (dUn zfz (dC (.int 1)))) (dC (.int 0)))))
  zaU)
  (zK (zay (dCall zbr (za (zb 0) (za (zb 6) zu))) (zp 7))
  (zK (zb3 (zY (dOp (zbA true) (zb 3) (dOp dIx (zb 7) (dC (.int 1)))))
  (zaM (dBM "list" zaC (dOp dIx (zb 7) (dC (.int 1))) (za (zb 3) zu)))
  zaU)
  (zK (zb3 (zY (dOp (zbA true) (zb 4) (dOp dIx (zb 7) (dC (.int 2)))))
  (zaM (dBM "list" zaC (dOp dIx (zb 7) (dC (.int 2))) (za (zb 4) zu)))
  zaU)
  (zbf (dOp dIx (zb 7) (dC (.int 0))))))))))
def zbV:DSp:=zR zi9 zjC 6
@[reducible] def zfx:DS:=(zK (zb3 (zY (dOp (zbA true) (dCB zb9 (za (zb 0) zu)) (dTup (za (dC (.int 1)) (za (dC (.int 2)) zu)))))
  zbY
  zaU)
  (zK (zfY (zbS (zb 0)) (zp 1)
  (zaM (dCall zbM (za (zb 1) zu))))
  (zb3 (zY (dOp dEq (dCB zb9 (za (zb 0) zu)) (dC (.int 2))))
  (zaM (dCall zaB (za (dOp dIx (zb 0) (dC (.int 0))) (za (dOp dIx (zb 0) (dC (.int 1))) zu))))
  zaU)))
def zbw:DSp:=zR zfx zfA 1
@[reducible] def zjF:DS:=(zK (zay (zbU ["_law_gate"] [6] [0] (zbS (zb 3)) (zp 0) (zY (dOp (zbA true) (zb 0) (zb 1))) (zb 0)) (zp 7))
  (zK (zay (zdn (za (zb 4) zu)) (zp 8))
  (zK (zfY (zcE (za (dCB zm7 (za (dCall zV (za (zb 0) (za (dC (.int 3)) zu))) (za (dCB zb9 (za (zb 7) zu)) zu))) zu)) (zp 9)
  (zK (zay (dCall zbr (za (zb 0) (za (zb 7) zu))) (zp 10))
  (zK (zay (zbU ["_law_other"] [10] [0] (zbS (zb 7)) (zp 0) (zY (dOp dNe (zb 0) (zb 1))) (zb 0)) (zp 7))
  (zK (zaM (dBM "list" zaC (zb 8) (za (dCall zbV (za (zb 0) (za (zb 1) (za (zb 2) (za (dOp dIx (zb 8) (dUn zfz (dC (.int 1)))) (za (zb 10) (za (dOp zbL (zb 6) (zb 8)) zu))))))) zu)))
  (zaM (dBM "list" zaC (zb 8) (za (zb 10) zu)))))))
  (zK (zaM (dBM "list" zaC (zb 8) (za (dCall zbV (za (zb 0) (za (zb 1) (za (zb 2) (za (dOp dIx (zb 8) (dUn zfz (dC (.int 1)))) (za (zb 5) (za (dOp zbL (zb 6) (zb 8)) zu))))))) zu)))
  (zK (zaM (dBM "list" zaC (zb 8) (za (zb 5) zu)))
  (zbf (dCB zdW (za (zb 8) zu))))))))
def zbT:DSp:=zR zjF zjD 7
@[reducible] def zdJ:DS:=(zK (zaM (dCall zbp (za (zb 1) zu)))
  (zK (zaM (dCall zbw (za (zb 2) zu)))
  (zK (zb3 (zY (dOp (zbA true) (zb 3) (dC (.tup (List.map D.int [4,5,6,8,10,12,15,20,24,30,40,60,120])))))
  zbY
  zaU)
  (zK (zaM (dCall zam (za (zb 4) (za (dC (.int 1)) (za (dC (.int 30)) zu)))))
  (zK (zaM (dCall zam (za (zb 5) (za (dC (.int 0)) (za (dOp zoB (zb 3) (dC (.int 1))) zu)))))
  (zK (zaM (dCall zam (za (zb 6) (za (dC (.int 1)) (za (dC (.int 480)) zu)))))
  (zK (zdC tab (zb 0) (zb 1) "name")
  (zK (zdC tab (zb 0) (zb 2) "ways")
  (zK (zdC tab (zb 0) (zb 3) "every")
  (zK (zdC tab (zb 0) (zb 4) "long")
  (zK (zdC tab (zb 0) (zb 5) "release")
  (zdC tab (zb 0) (zb 6) "last"))))))))))))
def zan:DSp:=zR zdJ zdy 7
@[reducible] def zjE:DS:=(zK (zay (dCall zV (za (zb 0) (za (dCB zb9 (za (zb 3) zu)) zu))) (zp 6))
  (zK (zay (dOp dIx (zb 3) (zb 6)) (zp 7))
  (zK (zay (dOp dIx (zb 3) (dOp zsL (dOp zbL (dOp zbL (zb 6) (dC (.int 1))) (dCall zV (za (zb 0) (za (dOp zoB (dCB zb9 (za (zb 3) zu)) (dC (.int 1))) zu)))) (dCB zb9 (za (zb 3) zu)))) (zp 8))
  (zK (zay (zdn (za (dCall zbT (za (zb 0) (za (zb 1) (za (zb 2) (za (zb 4) (za (zb 7) (za (zb 8) (za (zkc zu) zu)))))))) zu)) (zp 9))
  (zK (zb3 (zY (dOp dEq (dCall zV (za (zb 0) (za (dC (.int 4)) zu))) (dC (.int 1))))
  (zaM (dBM "list" zaC (zb 9) (za (dCall zbT (za (zb 0) (za (zb 1) (za (zb 2) (za (zb 4) (za (zb 7) (za (zb 8) (za (dCB zjJ (za (dSl za6 (dOp dIx (zb 9) (dC (.int 0))) (zaG (dC (.int 1))) (zaG (dUn zfz (dC (.int 1))))) zu)) zu)))))))) zu)))
  zaU)
  (zK (zay (dOp dIx (zkc (znw [12,8,20,24,10,30,15,40,60,12,120])) (dCall zV (za (zb 0) (za (dC (.int 11)) zu)))) (zp 10))
  (zK (zay (dOp zbL (dC (.int 1)) (dCall zV (za (zb 0) (za (dCB zm7 (za (dC (.int 4)) (za (dOp zoB (zb 10) (zb 5)) zu))) zu)))) (zp 11))
  (zK (zay (dTup (za (dCall zak (za (zb 0) (za (zb 1) zu))) (za (dCB zdW (za (zb 9) zu)) (za (zb 10) (za (zb 11) (za (dCall zV (za (zb 0) (za (zb 10) zu))) (za (dC (.int 0)) zu))))))) (zp 12))
  (zK (zay (dOp dIx (zkc (za (dC (.int 0)) (za (dC (.int 1)) (za (dC (.int 2)) (za (dOp znY (zb 10) (dC (.int 2))) (za (dC (.int 3)) (za (dOp zoB (zb 10) (dC (.int 1))) (za (dC (.int 6)) zu)))))))) (dCall zV (za (zb 0) (za (dC (.int 7)) zu)))) (zp 13))
  (zbf (dOp zbL (dSl za6 (zb 12) zag (zaG (dC (.int 5)))) (dTup (za (dOp zbL (dCall zb2 (za (zb 12) (za (zb 2) (za (zb 5) zu)))) (zb 13)) zu)))))))))))))
def zcB:DSp:=zR zjE zji 6
@[reducible] def zgb:DS:=(zK (zay (zdn zu) (zp 2))
  (zK (zay (zbU ["_law_k"] [2,0] [0] (zcE (za (dOp zbL (dC (.int 2)) (dCall zV (za (zb 0) (za (dC (.int 3)) zu)))) zu)) (zp 0) zcO (dCall zak (za (zb 2) (za (zb 1) zu)))) (zp 3))
  (zK (zay (zbU ["_law_k"] [2,0] [0] (zcE (za (dCall zV (za (zb 0) (za (dC (.int 4)) zu))) zu)) (zp 0) zcO (dCall zak (za (zb 2) (za (zb 1) zu)))) (zp 4))
  (zK (zay (dOp dIx (zkc (znw [0,1,2,0,3,1,5,7])) (dCall zV (za (zb 0) (za (dC (.int 8)) zu)))) (zp 5))
  (zK (zay (zdn zu) (zp 6))
  (zK (zay (zbU ["_law_k"] [4,3,6,2,0,5] [0] (zcE (za (dOp zbL (dC (.int 1)) (dCall zV (za (zb 0) (za (zb 1) zu)))) zu)) (zp 0) zcO (dCall zcB (za (zb 5) (za (zb 4) (za (zb 3) (za (zb 2) (za (zb 1) (za (zb 6) zu)))))))) (zp 7))
  (zbf (dTup (za (zb 3) (za (zb 4) (za (zb 6) (za (zb 7) (za (zb 5) (za (zb 2) zu))))))))))))))
def zbP:DSp:=zR zgb zgx 2
@[reducible] def zgJ:DS:=(zbf (zfL "Frame" zan 3 4 [.p 0, .p 1, .p 2, .k 0, .k 1, .k 2, .k 3] [] (za (dOp dIx (zb 0) (dC (.int 0))) (za (dOp dIx (zb 0) (dC (.int 1))) zu)) (za (dOp dIx (zb 0) (dC (.int 2))) (za (dOp dIx (zb 0) (dC (.int 3))) (za (dOp dIx (zb 0) (dC (.int 4))) (za (dOp dIx (zb 0) (dC (.int 5))) zu))))))
def zbO:DSp:=zR zgJ zgq 1
@[reducible] def zfm:DS:=(zbf (zbU ["_law_row_here"] [] [0] (zbS (zb 0)) (zp 0) zcO (dCall zbO (za (zb 0) zu))))
def zbt:DSp:=zR zfm ze9 1
@[reducible] def zqL:DS:=(zK (zay (dCall zfa (za (zb 0) zu)) (zp 1))
  (zK (zay (dCall zbP (za (zb 1) (za (dC (.int 6)) zu))) (zp 2))
  (zK (zay (dCall zV (za (zb 1) (za (dCB zb9 (za (dOp dIx (zb 2) (dC (.int 3))) zu)) zu))) (zp 3))
  (zK (zay (dCall zbt (za (dOp zbL (dSl za6 (dOp dIx (zb 2) (dC (.int 3))) (zaG (zb 3)) zag) (dSl za6 (dOp dIx (zb 2) (dC (.int 3))) zag (zaG (zb 3)))) zu)) (zp 4))
  (zK (zay (zbU ["_law_spot"] [1] [0] (zbS (dCall za7 (za (dOp dIx (zb 2) (dC (.int 3))) zu))) (zp 0) zcO (dCall zV (za (zb 1) (za (dC (.int 600)) zu)))) (zp 5))
  (zK (zay (dCB zjJ (za (zb 5) zu)) (zp 6))
  (zK (zay (dCall zb5 (za (zb 4) (za (zb 6) zu))) (zp 7))
  (zK (zb3 (dOr (zY (dOp dNe (zb 6) (zb 5))) (zY (dOp dNe (dCB (zlj "Table" zav) (za (zb 7) zu)) (dCB zq1 (za (zbU ["_law_row_here"] [] [0] (zbS (dOp dIx (zb 2) (dC (.int 3)))) (zp 0) zcO (dCB zb9 (za (dOp dIx (zb 0) (dC (.int 1))) zu))) zu)))))
  (zbf (dC (.bl false)))
  zaU)
  (zbf (dOp dEq (zrI "Table" "told" zbo 1 0 [.p 0] [] (zb 7) zu zu) (dCB zeI (za (dCall zba (za (dOp dIx (zb 2) (dC (.int 3))) (za (zb 5) zu))) zu))))))))))))
local macro_rules | `(tactic| rw_mod_cast [$rs,*])=>do
 let ts:Array (Lean.TSyntax `term):=rs.getElems.map fun r=>⟨r.raw[1]⟩
 let ids:Array (Lean.TSyntax `term):=(("zK zay zb dC dOp dUn zwJ ztL dOr zop znJ zzg zqV dIf zsZ zw9 zkd zp4 zu za znw dTup zkc zdn zaU zvG zxF zaM zbf zx4 zb3 zbY zp zep ztg zwF zyA zp5 zzd zfF zry zp0 zrr zrh zhB zfY dCall dCB zbU zwU zwf ztz zvF zs2 zyB zxa zbS zvy zwA zwC zxT zpz zec zoK dSl zag zwO zdw zyk zcO zsE ztS zun dBM zy4 zsi zxw zvD zyZ zt5 zyR zxO zuz zw1 zqw zvn zt0 zoB znY zsL zza dLt dGt dLe dGe zxJ zx9 zze e_i zyi zx6 zwX znO zu6 zyc zyh zxd zvN zv3 zvs zsS zs9 zsr zrT zlz zq5 zsh zxC zvf zvm zxs zvb zwv zwY zws zmH zk8 zeR zoP zm5 zi7 zy5 zub zos zot zoX zq4 zo0 zoh zni Nat.reduceAdd Int.cast_ofNat_Int Int.reduceEq decide_true decide_false List.all_cons List.all_nil List.any_cons List.any_nil id_eq Bool.and_true Bool.true_and Bool.or_false zlS zjY zk0 zkq zl4 zkG ziP zkD zve ztU zww zwj zw4 zwz zzi zsl zxg zvE zwn zv7 zyu zys zxk zzb zvg ztw zsT zup zj6 zyd zvQ ztI zo7 zyN zqA zov zr4 zwq zoE zrI zyT ztu zuF ziF ziz ziK ziI zh8 ziw zf9 zis ziG ziQ zey sel pick List.getD_cons_zero List.getD_cons_succ beq_self_eq_true Bool.and_self cond_true znK ztf zua zxp zs0 zie ends zej zB zqn zqU zuE zuU zuW zxm zu8 zu9 zxv zwB zrJ List.length_cons List.length_nil List.map_cons List.map_nil List.set_cons_zero List.set_cons_succ List.getElem?_cons_zero List.getElem?_cons_succ List.cons_append List.nil_append List.replicate Option.join_some Option.join_none true_and and_true if_true Bool.true_eq_false Bool.false_eq_true if_false Bool.not_true Bool.not_false".splitOn " ").map fun s=>(⟨Lean.mkIdent s.toName⟩:Lean.TSyntax `term)).toArray
 let all:=ids++ts
 `(tactic| simp only[↓zt9, ↓zsK, ↓zsN, ↓zta, ↓zpH, ↓zo5, ↓zpy, ↓zpc, $[$all:term],*])
local macro_rules | `(tactic| walk_at "e")=> `(tactic| rw_mod_cast [])
local macro_rules | `(tactic| walk_at "x")=> `(tactic| repeat' first | exact zy6 | exact zsW | exact zwL rfl | with_reducible apply zqF | with_reducible apply zyt | exact zf0 zqn | exact zf0 zqU | exact zf0 zuE | exact zf0 zuU | exact zf0 zuW | exact zf0 zuF | exact zpX zqn | exact zpX zqU | exact zw3 | exact zvU | apply zsX | with_reducible apply zvK | with_reducible apply zwS | with_reducible apply zyo | exact zoR | with_reducible apply zvj | with_reducible apply zxt | with_reducible apply zvZ | with_reducible apply zwb | with_reducible apply zvR | with_reducible apply zrP | with_reducible apply zp3 | with_reducible apply zpL | with_reducible apply zsB | with_reducible apply zsj | (show _≠[];simp;done) | (show _ < List.length _;simp;done) | (show List.length _<=1000;simp;done) | (show List.length _+List.length _<=1000;simp;done))
def letters:Str:="abcdefghijklmnopqrstuvwxyz"
theorem zlh:∀i:_root_.Fin 26,letters.cps.toList[i.val]? = some (97+i.val):=by decide+kernel
theorem zh0{v:Int}(h0:0<=v)(h1:v < 26):atI letters.cps.toList v=some (97+v.toNat):=by
 have h:=zbu (zlh ⟨v.toNat,by omega⟩);rw[show((v.toNat:Nat):Int)=v by omega] at h;exact h
def za4(k:Nat):Str:=⟨(List.replicate (1+k / 26) (97+k % 26)).toArray⟩
def zfM:List Str:=(List.range 104).map za4
theorem zgW:zfM.Nodup:=by decide+kernel
theorem zlC:∀k:_root_.Fin 104,((za4 k.val).cps.toList.length<=8/\1<=(za4 k.val).cps.toList.length)/\(za4 k.val).cps.toList.all (fun c=>decide (97<=c/\c<=122))=true:=by decide+kernel
theorem zoy{ns:List Str}(h:ns.length < 104)(all:∀k,k < 104->za4 k∈ns):False:=by
 have hs:zfM ⊆ ns:=fun x hx=>by
  obtain⟨k,hk,rfl⟩:=List.mem_map.mp hx;exact all k (List.mem_range.mp hk)
 have:=List.Nodup.length_le_of_subset zgW hs;have e:zfM.length=104:=by decide+kernel
 omega
theorem znM{s:Nat}{ds:List D}{μ:Mu}{Q:DK}(hs:μ s=some .draw)(h0:ds≠[])(hl:ds.length<=1000)(q:∀(i:Nat) d,ds[i]? = some d->Q d μ):zbr [.cell s, .lst ds] μ Q:=by
 have hp:0 < ds.length:=List.length_pos_iff.mpr h0;refine⟨rfl,?_⟩;walk_at "e"
 refine⟨hs,by omega,by omega,fun v v0 v1=>?_⟩;obtain⟨d,e1,e2⟩:=zmF v0 v1;rw_mod_cast [e1];exact⟨_, .refl _,q _ d e2⟩
theorem zf7(cs:List Nat):(Str.join (Str.ofString "") (cs.map fun c=>(⟨#[c]⟩:Str))).cps.toList=cs:=by
 show(Str.join Str.empty (cs.map fun c=>(⟨#[c]⟩:Str))).cps.toList=cs;rw[zdF,List.map_map];induction cs with
 | nil=>rfl
 | cons c r ih=>rw[List.map_cons,List.flatten_cons,ih];rfl
theorem zko(cs:List Nat):zfv (cs.map fun c=>(⟨#[c]⟩:Str))=cs.length+cs.length:=by
 unfold zfv;rw[List.map_map,List.length_map];congr 1
 induction cs with
 | nil=>rfl
 | cons c r ih=>rw[List.map_cons,List.sum_cons,ih,List.length_cons];show 1+r.length=_;omega
theorem zkp{s na:Nat}{ns:List Str}{μ:Mu}{Q:DK}(hs:μ s=some .draw)(hn:μ na=some (.lst (ns.map D.str)))(hl:ns.length < 100)(q:∀x,Nm x->x∉ns->Q (.str x) (zH μ na (.lst ((ns++[x]).map D.str)))):zak [.cell s, .cell na] μ Q:=by
 have hz:(200:Nat)<=sizeLine:=by decide
 have el:(Str.ofString "abcdefghijklmnopqrstuvwxyz")=letters:=rfl;have ll:letters.length<=sizeLine:=by decide
 refine⟨rfl,stp fun N1 h1=>?_⟩;walk_at "e"
 refine h1 _ _ (zpA (fun ρ μ'=>∃x3 x4 x5,ρ=[some (.cell s),some (.cell na),some (.str letters),x3,x4,x5,none]/\μ'=μ) (fun N hN=>?_) ?_)
 .walk_at "e"
  refine⟨by decide,by decide,?_⟩;refine zaP (fun i ρ μ'=>∃x3 x4 x5,ρ=[some (.cell s),some (.cell na),some (.str letters),x3,x4,x5,none]/\μ'=μ) ⟨_,_,_,rfl,rfl⟩ ?_ (fun ρ μ' h=>hN _ _ h);rintro i d ρ μ' hd ⟨x3,x4,x5,rfl,rfl⟩ M hM;refine stp fun M1 g1=>?_
  walk_at "e"
  refine⟨hs,by decide,by decide,fun v v0 v1=>g1 _ _ (zpA (fun ρ μ2=>∃x3 x5 size,ρ=[some (.cell s),some (.cell na),some (.str letters),x3,some (.int size),x5,none]/\μ2=μ'/\1<=size/\size<=8) (fun N hN=>?_) ?_)⟩
  .walk_at "e"
   split
   .exact⟨hs,by decide,by decide,fun v v0 v1=>hN _ _ ⟨_,_,_,rfl,rfl,by omega,by omega⟩⟩
   .exact hN _ _ ⟨_,_,_,rfl,rfl,by omega,by omega⟩
  rintro ρ μ2 ⟨y3,y5,size,rfl,rfl,z1,z8⟩;refine stp fun M2 g2=>?_
  walk_at "e"
  refine⟨by decide,by omega,by omega,?_⟩;refine zbd (fun i ys μ3=>μ3=μ2/\∃cs:List Nat,ys=(cs.map fun c=>(⟨#[c]⟩:Str)).map D.str/\cs.length=i/\∀c∈cs,97<=c/\c<=122) ⟨rfl,[],rfl,rfl,fun c hc=>by cases hc⟩ ?_ ?_
  .rintro i d ys μ3 hd ⟨rfl,cs,rfl,hc,hcs⟩;obtain⟨hi,rfl⟩:=zbn hd;refine⟨by rw[List.length_map,List.length_map];omega,fun N hN=>?_⟩;walk_at "e"
   refine⟨hs,by decide,by decide,fun v v0 v1=>?_⟩;rw_mod_cast [zh0 v0 v1];refine⟨ll,hN _ _ ⟨rfl,cs++[97+v.toNat],by rw[List.map_append,List.map_append];rfl,by rw[List.length_append,hc];rfl,fun c h=>?_⟩⟩;rcases List.mem_append.mp h with h | h
   .exact hcs c h
   .rw[List.mem_singleton.mp h];omega
  rintro ys μ3 ⟨rfl,cs,rfl,hc,hcs⟩;rw[za8] at hc;refine⟨cs.map fun c=>(⟨#[c]⟩:Str),rfl,by decide,by rw[zko];omega,g2 _ _ ?_⟩;have nm:Nm (Str.join (Str.ofString "") (cs.map fun c=>(⟨#[c]⟩:Str))):=⟨by rw[zf7];omega,by rw[zf7];omega,by rw[zf7];exact hcs⟩;generalize Str.join (Str.ofString "") (cs.map fun c=>(⟨#[c]⟩:Str))=x at nm
  rw_mod_cast [zca hn,Bool.true_xor];split
  .rename_i c;have c':x∉ns:=by simpa using c
   rw_mod_cast [hn];refine⟨by rw[List.length_map];omega,_, .refl _,?_⟩;have:=q x nm c';rw[List.map_append] at this;exact this
  .exact hM _ _ ⟨_,_,_,rfl,rfl⟩
 rintro ρ μ' ⟨x3,x4,x5,rfl,rfl⟩;refine stp fun M1 g1=>?_
 walk_at "e"
 refine⟨by decide,by decide,?_⟩;refine zaP (fun i ρ μ2=>∃x5 x6,ρ=[some (.cell s),some (.cell na),some (.str letters),x3,x4,x5,x6]/\μ2=μ'/\∀k,k < i->za4 k∈ns) ⟨_,_,rfl,rfl,fun k hk=>absurd hk (Nat.not_lt_zero k)⟩ ?_ ?_
 .rintro j d ρ μ2 hd ⟨x5,x6,rfl,rfl,hb⟩ M hM;obtain⟨hj,rfl⟩:=zbn hd;have hj':j < 104:=hj;refine stp fun M2 g2=>?_
  have e0:(0:Int)+(j:Int)=j:=by omega
  rw[e0];rw_mod_cast [zh0 (v:=(j:Int) % 26) (by omega) (by omega)];refine⟨by decide,ll,⟨by decide,by decide⟩,by omega,by omega,fun y hy=>g2 _ _ ?_⟩;have ex:y=za4 j:=zuh (by
   rw[hy];show List.replicate (1+(j:Int) / 26).toNat (97+((j:Int) % 26).toNat)=List.replicate (1+j / 26) (97+j % 26);congr 1<;>omega)
  subst ex;have nm:Nm (za4 j):=by
   obtain⟨⟨h8,h1⟩,ha⟩:=zlC ⟨j,hj'⟩;exact⟨h1,h8,fun c hc=>of_decide_eq_true (List.all_eq_true.mp ha c hc)⟩
  rw_mod_cast [zca hn,Bool.true_xor];split
  .rename_i c;have c':za4 j∉ns:=by simpa using c
   rw_mod_cast [hn];refine⟨by rw[List.length_map];omega,_, .refl _,?_⟩;have:=q _ nm c';rw[List.map_append] at this;exact this
  .rename_i c;have c':za4 j∈ns:=by simpa using c
   refine hM _ _ ⟨_,_,rfl,rfl,fun k hk=>?_⟩;by_cases e:k=j
   .rw[e];exact c'
   .exact hb k (by omega)
 .rintro ρ μ2 ⟨x5,x6,rfl,rfl,hb⟩;rw[za8] at hb;exact(zoy (by omega) hb).elim
set_option synthInstance.maxHeartbeats 4000000
set_option synthInstance.maxSize 100000
set_option maxHeartbeats 4000000
def zbk(r:LR):D:= .lst [.str r.nm, .cell r.sa, .cell r.ea, .int r.w]
structure WD(μ:Mu)(s na la:Nat)(ns:List Str)(ls:List LR):Prop where
 ds:μ s=some .draw
 dn:μ na=some (.lst (ns.map D.str))
 dl:μ la=some (.lst (ls.map zbk))
 nl:na≠la
 rs:∀r∈ls,μ r.sa=some (.lst (r.S.map D.str))/\μ r.ea=some (.lst (r.E.map D.str))
 ap:∀r∈ls,r.sa≠na/\r.sa≠la/\r.ea≠na/\r.ea≠la
 nd:∀(i j:Nat) (r r':LR),ls[i]? = some r->ls[j]? = some r'->(r.sa=r'.sa->i=j)/\(r.ea=r'.ea->i=j)/\r.sa≠r'.ea
def zaZ(na la:Nat)(μ:Mu)(ls:List LR)(μ':Mu)(ls':List LR):Prop:=∀k c,μ k=some c->k≠na->k≠la->(∀r∈ls,k≠r.sa/\k≠r.ea)->μ' k=some c/\∀r∈ls',k≠r.sa/\k≠r.ea
theorem zaZ.refl{na la:Nat}{μ:Mu}{ls:List LR}:zaZ na la μ ls μ ls:=fun _ _ e _ _ h=>⟨e,h⟩
theorem zaZ.trans{na la:Nat}{μ μ1 μ2:Mu}{ls ls1 ls2:List LR}(a:zaZ na la μ ls μ1 ls1)(b:zaZ na la μ1 ls1 μ2 ls2):zaZ na la μ ls μ2 ls2:=fun k c e h1 h2 h3=>by
 obtain⟨e1,n1⟩:=a k c e h1 h2 h3;exact b k c e1 h1 h2 n1
theorem WD.sna{μ:Mu}{s na la:Nat}{ns:List Str}{ls:List LR}(W:WD μ s na la ns ls):s≠na:=fun z=>by have:=W.ds;rw[z,W.dn] at this;cases this
theorem WD.sla{μ:Mu}{s na la:Nat}{ns:List Str}{ls:List LR}(W:WD μ s na la ns ls):s≠la:=fun z=>by have:=W.ds;rw[z,W.dl] at this;cases this
theorem WD.names{μ:Mu}{s na la:Nat}{ns ns':List Str}{ls:List LR}(W:WD μ s na la ns ls):WD (zH μ na (.lst (ns'.map D.str))) s na la ns' ls where
 ds:=by rw[zy W.sna];exact W.ds
 dn:=zB
 dl:=by rw[zy (Ne.symm W.nl)];exact W.dl
 nl:=W.nl
 rs:=fun r hr=>by
  obtain⟨a1,a2,a3,a4⟩:=W.ap r hr;rw[zy a1,zy a3];exact W.rs r hr
 ap:=W.ap
 nd:=W.nd
theorem zaZ.names{na la:Nat}{μ:Mu}{ls:List LR}{c:Ct}:zaZ na la μ ls (zH μ na c) ls:=fun k c e h1 h2 h3=>⟨by rw[zy h1];exact e,h3⟩
theorem WD.cell{μ:Mu}{s na la k:Nat}{ns:List Str}{ls:List LR}{c:Ct}(W:WD μ s na la ns ls)(hk:μ k=none):WD (zH μ k c) s na la ns ls where
 ds:=by rw[zy (fun z=>by have:=W.ds;rw[z,hk] at this;cases this)];exact W.ds
 dn:=by rw[zy (fun z=>by have:=W.dn;rw[z,hk] at this;cases this)];exact W.dn
 dl:=by rw[zy (fun z=>by have:=W.dl;rw[z,hk] at this;cases this)];exact W.dl
 nl:=W.nl
 rs:=fun r hr=>by
  obtain⟨a1,a2⟩:=W.rs r hr;rw[zy (fun z=>by rw[z,hk] at a1;cases a1),zy (fun z=>by rw[z,hk] at a2;cases a2)];exact⟨a1,a2⟩
 ap:=W.ap
 nd:=W.nd
theorem zkN{ls:List LR}{r:LR}(h:r∈ls):∃i:Nat,ls[i]? = some r:=List.getElem?_of_mem h
theorem WD.line{μ:Mu}{s na la k1 k2:Nat}{ns:List Str}{ls:List LR}{x:Str}{S E:List Str}{w:Int}{a0:Addr}(W:WD μ s na la ns ls)(h1:μ k1=some (.lst (S.map D.str)))(h2:μ k2=some (.lst (E.map D.str)))(n12:k1≠k2)
  (f1:k1≠na/\k1≠la/\∀r∈ls,k1≠r.sa/\k1≠r.ea)(f2:k2≠na/\k2≠la/\∀r∈ls,k2≠r.sa/\k2≠r.ea):WD (zH μ la (.lst ((ls++[(⟨a0,k1,k2,x,S,E,w⟩:LR)]).map zbk))) s na la ns (ls++[(⟨a0,k1,k2,x,S,E,w⟩:LR)]) where
 ds:=by rw[zy W.sla];exact W.ds
 dn:=by rw[zy W.nl];exact W.dn
 dl:=zB
 nl:=W.nl
 rs:=fun r hr=>by
  rcases List.mem_append.mp hr with hr | hr
  .obtain⟨a1,a2,a3,a4⟩:=W.ap r hr;rw[zy a2,zy a4];exact W.rs r hr
  .rw[List.mem_singleton.mp hr];exact⟨by rw[zy f1.2.1];exact h1,by rw[zy f2.2.1];exact h2⟩
 ap:=fun r hr=>by
  rcases List.mem_append.mp hr with hr | hr
  .exact W.ap r hr
  .rw[List.mem_singleton.mp hr];exact⟨f1.1,f1.2.1,f2.1,f2.2.1⟩
 nd:=fun i j r r' hi hj=>by
  have key:∀{i:Nat} {r:LR},(ls++[(⟨a0,k1,k2,x,S,E,w⟩:LR)])[i]? = some r->ls[i]? = some r\/(i=ls.length/\r=⟨a0,k1,k2,x,S,E,w⟩):=fun{i r} h=>by
   by_cases hl:i < ls.length
   .rw[List.getElem?_append_left hl] at h;exact .inl h
   .rw[List.getElem?_append_right (by omega)] at h;by_cases e:i - ls.length=0
    .rw[e] at h;cases h;exact .inr ⟨by omega,rfl⟩
    .rw[List.getElem?_eq_none (by simp;omega)] at h;cases h
  rcases key hi with a | ⟨a,rfl⟩<;>rcases key hj with b | ⟨b,rfl⟩
  .exact W.nd i j r r' a b
  .obtain⟨p1,p2⟩:=f1.2.2 r (List.mem_of_getElem? a);obtain⟨p3,p4⟩:=f2.2.2 r (List.mem_of_getElem? a);exact⟨fun z=>absurd z.symm p1,fun z=>absurd z.symm p4,fun z=>p3 z.symm⟩
  .obtain⟨p1,p2⟩:=f1.2.2 r' (List.mem_of_getElem? b);obtain⟨p3,p4⟩:=f2.2.2 r' (List.mem_of_getElem? b);exact⟨fun z=>absurd z p1,fun z=>absurd z p4,fun z=>p2 z⟩
  .exact⟨fun _=>by omega,fun _=>by omega,n12⟩
theorem zkI{ls:List LR}{i:Nat}{r r':LR}(hr:ls[i]? = some r)(h:zbk r'=zbk r):(ls.set i r').map zbk=ls.map zbk:=by
 rw[List.map_set,h];apply List.ext_getElem?;intro j;by_cases e:i=j
 .subst e;rw[List.getElem?_set_self (by rw[List.length_map];exact(List.getElem?_eq_some_iff.mp hr).1),List.getElem?_map,hr];rfl
 .rw[List.getElem?_set_ne e]
theorem WD.ends{μ μ':Mu}{s na la i:Nat}{ns:List Str}{ls:List LR}{r:LR}{S E:List Str}(W:WD μ s na la ns ls)(hr:ls[i]? = some r)(h1:μ' r.sa=some (.lst (S.map D.str)))(h2:μ' r.ea=some (.lst (E.map D.str)))(ho:∀k,k≠r.sa->k≠r.ea->μ' k=μ k):WD μ' s na la ns (ls.set i { r with S:=S,E:=E }):=by
 have hm:=List.mem_of_getElem? hr;obtain⟨a1,a2,a3,a4⟩:=W.ap r hm;obtain⟨b1,b2⟩:=W.rs r hm;have key:∀{j:Nat} {q:LR},(ls.set i { r with S:=S,E:=E })[j]? = some q->(j=i/\q={ r with S:=S,E:=E })\/(j≠i/\ls[j]? = some q):=fun{j q} h=>by
  by_cases e:i=j
  .subst e;rw[List.getElem?_set_self (List.getElem?_eq_some_iff.mp hr).1] at h;cases h;exact .inl ⟨rfl,rfl⟩
  .rw[List.getElem?_set_ne e] at h;exact .inr ⟨fun z=>e z.symm,h⟩
 refine⟨?_,?_,?_,W.nl,?_,?_,?_⟩
 .rw[ho s (fun z=>by have:=W.ds;rw[z,b1] at this;cases this) (fun z=>by have:=W.ds;rw[z,b2] at this;cases this)];exact W.ds
 .rw[ho na (Ne.symm a1) (Ne.symm a3)];exact W.dn
 .rw[ho la (Ne.symm a2) (Ne.symm a4),zkI (r':={ r with S:=S,E:=E }) hr rfl];exact W.dl
 .intro q hq;obtain⟨j,hj⟩:=zkN hq;rcases key hj with⟨rfl,rfl⟩ | ⟨hne,hj'⟩
  .exact⟨h1,h2⟩
  .obtain⟨c1,c2,c3⟩:=W.nd j i q r hj' hr;obtain⟨d1,d2,d3⟩:=W.nd i j r q hr hj';rw[ho q.sa (fun z=>hne (c1 z)) c3,ho q.ea (Ne.symm d3) (fun z=>hne (c2 z))];exact W.rs q (List.mem_of_getElem? hj')
 .intro q hq;obtain⟨j,hj⟩:=zkN hq;rcases key hj with⟨rfl,rfl⟩ | ⟨hne,hj'⟩
  .exact⟨a1,a2,a3,a4⟩
  .exact W.ap q (List.mem_of_getElem? hj')
 .intro j j' q q' hj hj';rcases key hj with⟨rfl,rfl⟩ | ⟨hne,hj1⟩<;>rcases key hj' with⟨rfl,rfl⟩ | ⟨hne',hj2⟩
  .exact⟨fun _=>rfl,fun _=>rfl,(W.nd _ _ r r hr hr).2.2⟩
  .exact W.nd _ j' r q' hr hj2
  .exact W.nd j _ q r hj1 hr
  .exact W.nd j j' q q' hj1 hj2
set_option synthInstance.maxHeartbeats 4000000
set_option synthInstance.maxSize 100000
set_option maxHeartbeats 4000000
theorem ztM{c:DT}{t u:DS}{D0:zbB}{ρ:zX}{μ:Mu}(P:Bool->Mu->Prop)(hc:∀R:Bool->Mu->Prop,(∀b μ1,P b μ1->R b μ1)->c ρ μ R)(h:∀b μ1,P b μ1->if b=true then t D0 ρ μ1 else u D0 ρ μ1):zb3 c t u D0 ρ μ:=hc _ h
theorem zrL{s na la:Nat}{ns bd:List Str}{ls:List LR}{one two:Str}{μ:Mu}{Q:DK}(W:WD μ s na la ns ls)(hn:ns.length < 100)(h14:ls.length<=14)(hfit:ls.length=14->∃r∈ls,zdm one bd r=true/\zeG two r=true)(h6:∀r∈ls,r.S.length<=6/\r.E.length<=6)
  (q:∀x μ' ns' ls',WD μ' s na la ns' ls'->zaZ na la μ ls μ' ls'->zrf one two bd ns ls x ns' ls'->Q (.str x) μ'):zbV [.cell s, .cell na, .cell la, .str one, .str two, .lst (bd.map D.str)] μ Q:=by
 have hz:(200:Nat)<=sizeLine:=by decide
 refine⟨rfl,stp fun N1 h1=>?_⟩;rw_mod_cast [W.dl];refine⟨by decide,zb7 ls zbk (zdm one bd) zbk (by omega) (fun r hr Y Z hY hZ=>?_) (h1 _ _ (stp fun N2 h2=>?_)) W.dl⟩
 .obtain⟨r1,r2⟩:=W.rs r hr;unfold zbk at hY ⊢;rw_mod_cast [zjb,zca r1,r1,List.length_map,Bool.true_xor,Bool.false_xor];unfold zdm at hY hZ;by_cases c1:r.nm∈bd
  .rw_mod_cast [decide_eq_true c1];exact hZ (by simp[c1])
  .rw_mod_cast [decide_eq_false c1];by_cases c2:one∈r.S
   .rw_mod_cast [decide_eq_true c2];exact hY (by simp[c1,c2])
   .rw_mod_cast [decide_eq_false c2];by_cases c3:r.S.length < 6
    .rw_mod_cast [show decide ((r.S.length:Int) < 6)=true from decide_eq_true (by omega)];exact hY (by simp[c1,c3])
    .rw_mod_cast [show decide ((r.S.length:Int) < 6)=false from decide_eq_false (by omega)];exact hZ (by simp[c2,c3])
 walk_at "e"
 have hl1:(ls.filter (zdm one bd)).length<=ls.length:=List.length_filter_le _ _;refine⟨by decide,zb7 (ls.filter (zdm one bd)) zbk (zeG two) zbk (by omega) (fun r hr Y Z hY hZ=>?_) (h2 _ _ (stp fun N3 h3=>?_)) trivial⟩
 .obtain⟨r1,r2⟩:=W.rs r (List.mem_filter.mp hr).1;unfold zbk at hY ⊢;rw_mod_cast [zca r2,r2,List.length_map,Bool.false_xor];unfold zeG at hY hZ;by_cases c2:two∈r.E
  .rw_mod_cast [decide_eq_true c2];exact hY (by simp[c2])
  .rw_mod_cast [decide_eq_false c2];by_cases c3:r.E.length < 6
   .rw_mod_cast [show decide ((r.E.length:Int) < 6)=true from decide_eq_true (by omega)];exact hY (by simp[c3])
   .rw_mod_cast [show decide ((r.E.length:Int) < 6)=false from decide_eq_false (by omega)];exact hZ (by simp[c2,c3])
 generalize hfl:(ls.filter (zdm one bd)).filter (zeG two)=fl
 have hfm:∀r∈fl,r∈ls/\zdm one bd r=true/\zeG two r=true:=fun r hr=>by
  rw[<- hfl] at hr;obtain⟨a,b⟩:=List.mem_filter.mp hr;obtain⟨c,d⟩:=List.mem_filter.mp a;exact⟨c,d,b⟩
 have hfn:ls.length=14->fl≠[]:=fun e z=>by
  obtain⟨r,hr,f1,f2⟩:=hfit e;have:r∈fl:=by rw[<- hfl];exact List.mem_filter.mpr ⟨List.mem_filter.mpr ⟨hr,f1⟩,f2⟩
  rw[z] at this;cases this
 have hfl14:fl.length<=14:=by rw[<- hfl];exact Nat.le_trans (List.length_filter_le _ _) (Nat.le_trans hl1 h14)
 have new:ls.length < 14->zK (zaM (dBM "list" zaC (zb 2) (za (zkc (za (dCall zak (za (zb 0) (za (zb 1) zu))) (za (zdn (za (zb 3) zu)) (za (zdn (za (zb 4) zu)) (za (dCall zV (za (zb 0) (za (dC (.int 4)) zu))) zu))))) zu)))
  (zbf (dOp dIx (dOp dIx (zb 2) (dUn zfz (dC (.int 1)))) (dC (.int 0)))) { (ends Q) with nx:=N3 } [some (.cell s),some (.cell na),some (.cell la),some (.str one),some (.str two),some (.lst (bd.map D.str)),some (.lst (fl.map zbk)),none] μ:=by
  intro hlt;refine stp fun M1 g1=>?_
  rw_mod_cast [W.dl];refine zkp W.ds W.dn hn fun x nm hx=>?_
  refine⟨by decide,fun k1 hk1=>⟨by decide,fun k2 hk2=>?_⟩⟩;have W1:WD _ s na la (ns++[x]) ls:=W.names (ns':=ns++[x]);have W2:WD _ s na la (ns++[x]) ls:=W1.cell (c:= .lst [.str one]) hk1;have W3:WD _ s na la (ns++[x]) ls:=W2.cell (c:= .lst [.str two]) hk2;refine⟨W3.ds,by decide,by decide,fun w w0 w1=>⟨by decide,?_⟩⟩;rw[W3.dl];walk_at "e"
  refine⟨by rw[List.length_map];omega,g1 _ _ ?_⟩;have n1:∀k c,μ k=some c->k1≠k:=fun k c e z=>by
   subst z;by_cases e2:k1=na
   .subst e2;rw[zB] at hk1;cases hk1
   .rw[zy e2,e] at hk1;cases hk1
  have n12:k1≠k2:=fun z=>by subst z;rw[zB] at hk2;cases hk2
  have n2:∀k c,μ k=some c->k2≠k:=fun k c e z=>by
   subst z;rw[zy (Ne.symm n12)] at hk2;by_cases e2:k2=na
   .subst e2;rw[zB] at hk2;cases hk2
   .rw[zy e2,e] at hk2;cases hk2
  have WL:=W3.line (x:=x) (S:=[one]) (E:=[two]) (w:=w) (a0:=0) (k1:=k1) (k2:=k2) (by rw[zy n12,zB];rfl) (by rw[zB];rfl) n12 ⟨n1 _ _ W.dn,n1 _ _ W.dl,fun r hr=>⟨n1 _ _ (W.rs r hr).1,n1 _ _ (W.rs r hr).2⟩⟩ ⟨n2 _ _ W.dn,n2 _ _ W.dl,fun r hr=>⟨n2 _ _ (W.rs r hr).1,n2 _ _ (W.rs r hr).2⟩⟩;have eL:List.map zbk (ls++[({ a:=0,sa:=k1,ea:=k2,nm:=x,S:=[one],E:=[two],w:=w }:LR)])=ls.map zbk++[.lst [.str x, .cell k1, .cell k2, .int w]]:=by rw[List.map_append];rfl
  rw[eL] at WL;rw_mod_cast [zlI];refine⟨_, .refl _,q x _ _ _ WL ?_ (.new 0 k1 k2 w hx nm hlt w0 w1)⟩;intro k c e hna hla hr;refine⟨?_,fun r hr'=>?_⟩
  .rw[zy hla,zy (fun z=>n2 k c e z.symm),zy (fun z=>n1 k c e z.symm),zy hna];exact e
  .rcases List.mem_append.mp hr' with hr' | hr'
   .exact hr r hr'
   .rw[List.mem_singleton.mp hr'];exact⟨fun z=>n1 k c e z.symm,fun z=>n2 k c e z.symm⟩
 have old:fl≠[]->N3 [some (.cell s),some (.cell na),some (.cell la),some (.str one),some (.str two),some (.lst (bd.map D.str)),some (.lst (fl.map zbk)),none] μ:=by
  intro hne;refine h3 _ _ (stp fun M1 g1=>?_);walk_at "e"
  refine znM W.ds (by simpa using hne) (by rw[List.length_map];omega) fun i d hd=>?_
  rw[List.getElem?_map] at hd;cases hr:fl[i]? with
  | none=>rw[hr] at hd;cases hd
  | some r =>
   rw[hr] at hd;cases hd;obtain⟨hm,f1,f2⟩:=hfm r (List.mem_of_getElem? hr);obtain⟨j,hj⟩:=zkN hm;obtain⟨r1,r2⟩:=W.rs r hm;obtain⟨c1,c2,c3⟩:=W.nd j j r r hj hj;obtain⟨l1,l2⟩:=h6 r hm;unfold zbk;refine g1 _ _ (zpA (fun ρ μ'=>ρ=[some (.cell s),some (.cell na),some (.cell la),some (.str one),some (.str two),some (.lst (bd.map D.str)),some (.lst (fl.map zbk)),some (.lst [.str r.nm, .cell r.sa, .cell r.ea, .int r.w])]/\μ' r.sa=some (.lst ((zaF one r.S).map D.str))/\∀k,k≠r.sa->μ' k=μ k) (fun N hN=>?_) ?_)
   .rw_mod_cast [zca r1,Bool.true_xor];by_cases c:one∈r.S
    .rw_mod_cast [decide_eq_true c];exact hN _ _ ⟨rfl,by rw[zaF,if_pos c];exact r1,fun _ _=>rfl⟩
    .rw_mod_cast [decide_eq_false c,r1];refine⟨by rw[List.length_map];omega,hN _ _ ⟨rfl,?_,fun k hk=>zy hk⟩⟩;rw[zB,zaF,if_neg c,List.map_append];rfl
   rintro ρ μ1 ⟨rfl,e1,e2⟩;have r2':μ1 r.ea=some (.lst (r.E.map D.str)):=by rw[e2 _ (Ne.symm c3)];exact r2
   refine zpA (fun ρ μ'=>ρ=[some (.cell s),some (.cell na),some (.cell la),some (.str one),some (.str two),some (.lst (bd.map D.str)),some (.lst (fl.map zbk)),some (.lst [.str r.nm, .cell r.sa, .cell r.ea, .int r.w])]/\μ' r.ea=some (.lst ((zaF two r.E).map D.str))/\∀k,k≠r.ea->μ' k=μ1 k) (fun N hN=>?_) ?_
   .rw_mod_cast [zca r2',Bool.true_xor];by_cases c:two∈r.E
    .rw_mod_cast [decide_eq_true c];exact hN _ _ ⟨rfl,by rw[zaF,if_pos c];exact r2',fun _ _=>rfl⟩
    .rw_mod_cast [decide_eq_false c,r2'];refine⟨by rw[List.length_map];omega,hN _ _ ⟨rfl,?_,fun k hk=>zy hk⟩⟩;rw[zB,zaF,if_neg c,List.map_append];rfl
   rintro ρ μ2 ⟨rfl,e3,e4⟩;walk_at "e"
   refine⟨_, .refl _,q r.nm μ2 ns _ (W.ends hj (by rw[e4 _ c3];exact e1) e3 fun k hk1 hk2=>by rw[e4 k hk2,e2 k hk1]) ?_ (.old j r hj rfl f1 f2)⟩;intro k c e hna hla hrr;obtain⟨p1,p2⟩:=hrr r hm;refine⟨by rw[e4 k p2,e2 k p1];exact e,fun q' hq'=>?_⟩;rcases zid hq' with h | h
   .exact hrr q' h
   .rw[h];exact⟨p1,p2⟩
 refine ztM (fun b μ1=>μ1=μ/\(b=true->ls.length < 14)/\(b=false->fl≠[])) (fun R hR=>?_) (fun b μ1 h=>?_)
 .rw_mod_cast [W.dl,List.length_map];by_cases c14:ls.length < 14
  .rw_mod_cast [show decide ((ls.length:Int) < 14)=true from decide_eq_true (by omega)];by_cases c0:fl=[]
   .rw_mod_cast [show decide ((fl.length:Int)=0)=true from decide_eq_true (by rw[c0];rfl)];exact hR _ _ ⟨rfl,fun _=>c14,fun z=>(by cases z)⟩
   .rw_mod_cast [show decide ((fl.length:Int)=0)=false from decide_eq_false (fun z=>c0 (List.length_eq_zero_iff.mp (by omega)))];exact⟨W.ds,by decide,by decide,fun v v0 v1=>hR _ _ ⟨rfl,fun _=>c14,fun _=>c0⟩⟩
  .rw_mod_cast [show decide ((ls.length:Int) < 14)=false from decide_eq_false (by omega)];exact hR _ _ ⟨rfl,fun z=>(by cases z),fun _=>hfn (by omega)⟩
 .obtain⟨rfl,hb1,hb2⟩:=h;cases b with
  | true=>exact new (hb1 rfl)
  | false=>exact old (hb2 rfl)
set_option synthInstance.maxHeartbeats 4000000
set_option synthInstance.maxSize 100000
set_option maxHeartbeats 4000000
theorem WD.other{μ:Mu}{s na la k:Nat}{ns:List Str}{ls:List LR}{c c':Ct}(W:WD μ s na la ns ls)(hk:μ k=some c')(hd:c'≠ .draw)(h:k≠na/\k≠la/\∀r∈ls,k≠r.sa/\k≠r.ea):WD (zH μ k c) s na la ns ls where
 ds:=by rw[zy (fun z=>by have:=W.ds;rw[z,hk] at this;cases this;exact hd rfl)];exact W.ds
 dn:=by rw[zy (Ne.symm h.1)];exact W.dn
 dl:=by rw[zy (Ne.symm h.2.1)];exact W.dl
 nl:=W.nl
 rs:=fun r hr=>by
  obtain⟨a1,a2⟩:=h.2.2 r hr;rw[zy (Ne.symm a1),zy (Ne.symm a2)];exact W.rs r hr
 ap:=W.ap
 nd:=W.nd
theorem zaZ.put{na la k:Nat}{μ μ':Mu}{ls ls':List LR}{c:Ct}(T:zaZ na la μ ls μ' ls')(hk:μ k=none):zaZ na la μ ls (zH μ' k c) ls':=fun j d e h1 h2 h3=>by
 obtain⟨a,b⟩:=T j d e h1 h2 h3;exact⟨by rw[zy (fun z=>by rw[z,hk] at e;cases e)];exact a,b⟩
theorem WD.free{μ:Mu}{s na la k:Nat}{ns:List Str}{ls:List LR}(W:WD μ s na la ns ls)(hk:μ k=none):k≠na/\k≠la/\∀r∈ls,k≠r.sa/\k≠r.ea :=
 ⟨fun z=>(by have:=W.dn;rw[<- z,hk] at this;cases this),fun z=>(by have:=W.dl;rw[<- z,hk] at this;cases this),fun r hr=>⟨fun z=>(by have:=(W.rs r hr).1;rw[<- z,hk] at this;cases this),fun z=>(by have:=(W.rs r hr).2;rw[<- z,hk] at this;cases this)⟩⟩
theorem zra{s na la:Nat}{ho ga ns bd:List Str}{ls:List LR}{first last:Str}{h c:Nat}{μ:Mu}{Q:DK}(W:WD μ s na la ns ls)(N:zbW ho ga ns ls h c)(hh:h+3<=48)(hc:c<=60)(hfi:first∈ho)(hla:last∈ho)(hfl:first≠last)(hbs:beside ho ga bd<=3)(hbn:∀y∈bd,y∈ns)(hgl:ga.length<=3)(hbl:bd.length<=10)
  (q:∀way k μ' ns' ls',WD μ' s na la ns' ls'->zaZ na la μ ls μ' ls'->zbW ho ga ns' ls' (h+3) c->zcD ns ls ls'->(∀y∈ns,y∈ns')->1<=k->k<=3->Way ho ga ns' ls' bd first k (2*k) way->way[2*k]? = some last->Q (.tup (way.map D.str)) μ') :
  zbT [.cell s, .cell na, .cell la, .lst (ga.map D.str), .str first, .str last, .lst (bd.map D.str)] μ Q:=by
 have hz:(200:Nat)<=sizeLine:=by decide
 refine⟨rfl,stp fun N1 h1=>?_⟩;walk_at "e"
 refine⟨by decide,zb7 ga D.str (fun x=> !decide (x∈bd)) D.str (by omega) (fun x hx Y Z hY hZ=>?_) (h1 _ _ (stp fun N2 h2=>?_)) trivial⟩
 .rw_mod_cast [zjb,Bool.true_xor];by_cases c1:x∈bd
  .rw_mod_cast [decide_eq_true c1];exact hZ (by simp[c1])
  .rw_mod_cast [decide_eq_false c1];exact hY (by simp[c1])
 walk_at "e"
 refine⟨by decide,fun kw hkw=>h2 _ _ ?_⟩;have gnd:ga.Nodup:=(List.nodup_append.mp (List.nodup_append.mp N.nd).1).2.1;have fr0:∀x∈ga.filter (fun x=> !decide (x∈bd)),x∈ga/\x∉bd:=fun x hx=>by
  obtain⟨m1,m2⟩:=List.mem_filter.mp hx;exact⟨m1,by simpa using m2⟩
 have frd:(ga.filter fun x=> !decide (x∈bd)).Nodup:=gnd.sublist List.filter_sublist;have frl:(ga.filter fun x=> !decide (x∈bd)).length<=3:=Nat.le_trans (List.length_filter_le _ _) hgl;generalize ga.filter (fun x=> !decide (x∈bd))=fr at fr0 frd frl
 have hop:∀(ns':List Str) (ls':List LR) (k:Nat) (wh:List Str) (one two:Str),zbW ho ga ns' ls' (h+k) c->(∀y∈ns,y∈ns')->k<=2->Way ho ga ns' ls' bd first k (2*k+1) wh->wh[2*k]? = some one->two∈ho++ga->two∉wh ->
   (ns'.length < 100/\(ls'.length=14->∃r∈ls',zdm one (bd++wh) r=true/\zeG two r=true)/\∀r∈ls',r.S.length<=6/\r.E.length<=6) /\
   ∀x ns2 ls2,zrf one two (bd++wh) ns' ls' x ns2 ls2->zbW ho ga ns2 ls2 (h+(k+1)) c/\zcD ns' ls' ls2/\(∀y∈ns,y∈ns2)/\Way ho ga ns2 ls2 bd first (k+1) (2*k+2) (wh++[x,two])/\(two∈ga->two∉bd->Way ho ga ns2 ls2 bd first (k+1) (2*k+3) (wh++[x,two])):=by
  intro ns' ls' k wh one two N' sub' hk Y h1 ht htw;refine⟨⟨?_,fun h14=>zxh N' (by omega) one two ?_ h14,fun r hr=>⟨(N'.ends r hr).s6,(N'.ends r hr).e6⟩⟩,fun x ns2 ls2 R=>?_⟩
  .have:=N'.cnt;have:=N'.len;omega
  .rw[zeo];have:=Y.bs;omega
  .have bsub:∀y∈bd++wh,y∈ns':=fun y hy=>(List.mem_append.mp hy).elim (fun z=>sub' y (hbn y z)) (Y.sub y)
   obtain⟨N2,G2,J2,xb,sub2,xg,xn⟩:=zt7 N' (Y.nn k one h1) ht bsub R;have xb1:x∉bd:=fun z=>xb (List.mem_append_left _ z)
   have xb2:x∉wh:=fun z=>xb (List.mem_append_right _ z)
   obtain⟨Y1,Y2⟩:=(Y.grow G2 sub2).step h1 J2 xg xb1 xb2 xn htw ht (N2.sub two (List.mem_append_left _ ht));exact⟨N2,G2,fun y hy=>sub2 y (sub' y hy),Y1,Y2⟩
 have lastOf:∀(k:Nat) (wh:List Str),wh.length=2*k+1->∃one,wh[2*k]? = some one/\atI (wh.map D.str) (-1)=some (.str one):=fun k wh e=>by
  have hlt:2*k < wh.length:=by omega
  refine⟨wh[2*k],List.getElem?_eq_getElem hlt,?_⟩;rw[zhQ,List.getLast?_eq_getElem?,List.length_map,List.getElem?_map,show wh.length - 1=2*k by omega,List.getElem?_eq_getElem hlt];rfl
 refine zpA (fun ρ μ'=>∃(k:Nat) (ns' wh:List Str) (ls':List LR) (x7 x9 x10:Option D),ρ=[some (.cell s),some (.cell na),some (.cell la),some (.lst (ga.map D.str)),some (.str first),some (.str last),some (.lst (bd.map D.str)),x7,some (.cell kw),x9,x10]/\k<=2 /\
  WD μ' s na la ns' ls'/\zaZ na la μ ls μ' ls'/\zbW ho ga ns' ls' (h+k) c/\zcD ns ls ls'/\(∀y∈ns,y∈ns')/\Way ho ga ns' ls' bd first k (2*k+1) wh/\μ' kw=some (.lst (wh.map D.str))/\(kw≠na/\kw≠la/\∀r∈ls',kw≠r.sa/\kw≠r.ea)) (fun NX hNX=>?_) ?_
 .have W1:WD (zH μ kw (.lst [.str first])) s na la ns ls:=W.cell hkw;walk_at "e"
  refine⟨W1.ds,by decide,by decide,fun v v0 v1=>?_⟩;rw[List.length_map];have bn:(if (fr.length:Int) < v then(fr.length:Int) else v)<=2/\0<=(if (fr.length:Int) < v then(fr.length:Int) else v)/\(if (fr.length:Int) < v then(fr.length:Int) else v)<=fr.length:=by split<;>omega
  generalize (if (fr.length:Int) < v then(fr.length:Int) else v)=n at bn
  obtain⟨n2,n0,nl⟩:=bn;refine⟨by omega,by omega,?_⟩;refine zaP (fun j ρ μ'=>∃(ns' wh fr':List Str) (ls':List LR) (x9 x10:Option D),ρ=[some (.cell s),some (.cell na),some (.cell la),some (.lst (ga.map D.str)),some (.str first),some (.str last),some (.lst (bd.map D.str)),some (.lst (fr'.map D.str)),some (.cell kw),x9,x10] /\
   WD μ' s na la ns' ls'/\zaZ na la μ ls μ' ls'/\zbW ho ga ns' ls' (h+j) c/\zcD ns ls ls'/\(∀y∈ns,y∈ns')/\Way ho ga ns' ls' bd first j (2*j+1) wh/\μ' kw=some (.lst (wh.map D.str))/\(kw≠na/\kw≠la/\∀r∈ls',kw≠r.sa/\kw≠r.ea)/\fr'.Nodup/\(∀x∈fr',x∈ga/\x∉bd/\x∉wh)/\n<=fr'.length+j/\fr'.length<=3)
   ⟨ns,[first],fr,ls,_,_,rfl,W1,zaZ.refl.put hkw,N,zcD.refl _ _,fun _ h=>h, .one (List.mem_append_left _ hfi) (N.sub _ (List.mem_append_left _ (List.mem_append_left _ hfi))),zB,W.free hkw,frd,fun x hx=>⟨(fr0 x hx).1,(fr0 x hx).2,fun z=>?_⟩,by omega,frl⟩ ?_ ?_
  .rw[List.mem_singleton.mp z] at hx;exact N.nd2 hfi (fr0 _ hx).1
  .rintro j d ρ μ1 hd ⟨ns',wh,fr',ls',x9,x10,rfl,W5,T5,N5,G5,sub5,Y,hw5,f5,fnd,fin,fn,fl⟩ M hM;obtain⟨hj,rfl⟩:=zbn hd;refine stp fun M1 g1=>?_
   walk_at "e"
   refine znM W5.ds ?_ (by rw[List.length_map];omega) fun i d hd=>?_
   .intro z;have:=congrArg List.length z;rw[List.length_map] at this;simp at this;subst this;simp at fn;omega
   rw[List.getElem?_map] at hd;cases hgt:fr'[i]? with
   | none=>rw[hgt] at hd;cases hd
   | some gt =>
    rw[hgt] at hd;cases hd;obtain⟨g1',g2',g3'⟩:=fin gt (List.mem_of_getElem? hgt);refine g1 _ _ (stp fun M2 g2=>?_);walk_at "e"
    refine⟨by decide,zb7 fr' D.str (fun y=> !decide (y=gt)) D.str (by omega) (fun x hx Y Z hY hZ=>?_) (g2 _ _ (stp fun M3 g3=>?_)) trivial⟩
    .walk_at "e"
     by_cases c1:x=gt
     .rw_mod_cast [decide_eq_true c1];exact hZ (by simp[c1])
     .rw_mod_cast [decide_eq_false c1];exact hY (by simp[c1])
    have fnd':(fr'.filter fun y=> !decide (y=gt)).Nodup:=fnd.sublist List.filter_sublist;have fin':∀x∈fr'.filter (fun y=> !decide (y=gt)),x∈fr'/\x≠gt:=fun x hx=>by
     obtain⟨m1,m2⟩:=List.mem_filter.mp hx;exact⟨m1,by simpa using m2⟩
    have fl':fr'.length<=(fr'.filter fun y=> !decide (y=gt)).length+1:=zew fnd;have fl3:(fr'.filter fun y=> !decide (y=gt)).length<=3:=Nat.le_trans (List.length_filter_le _ _) fl;generalize fr'.filter (fun y=> !decide (y=gt))=fr2 at fnd' fin' fl' fl3
    obtain⟨one,h1',hlast⟩:=lastOf j wh Y.len;obtain⟨⟨c1,c2,c3⟩,post⟩:=hop ns' ls' j wh one gt N5 sub5 (by omega) Y h1' (List.mem_append_right _ g1') g3';rw_mod_cast [hw5,hlast];refine⟨by rw[List.length_map,List.length_map,Y.len];omega,?_⟩;rw[<- List.map_append];refine zrL W5 c1 N5.len c2 c3 fun x μ2 ns2 ls2 W9 T9 R=>?_
    obtain⟨N9,G9,sub9,Y1,Y2⟩:=post x ns2 ls2 R;obtain⟨hw9,f9⟩:=T9 kw _ hw5 f5.1 f5.2.1 f5.2.2;rw_mod_cast [hw9];refine⟨by rw[List.length_map,Y.len];omega,g3 _ _ ?_⟩;rw_mod_cast [zB];refine⟨by rw[List.length_append,List.length_map,Y.len];show 2*j+1+1 < sizeLine;omega,hM _ _ ?_⟩;have em:wh.map D.str++[.str x]++[.str gt]=(wh++[x,gt]).map D.str:=by rw[List.map_append (l₂:=[x,gt]),List.append_assoc];rfl
    rw[zah,em];refine⟨ns2,wh++[x,gt],fr2,ls2,_,_,rfl,W9.other hw9 (by simp) ⟨f5.1,f5.2.1,f9⟩,(T5.trans T9).put hkw,N9,G5.trans sub5 G9,sub9,Y2 g1' g2',zB,⟨f5.1,f5.2.1,f9⟩,fnd',fun y hy=>⟨(fin y (fin' y hy).1).1,(fin y (fin' y hy).1).2.1,fun z=>?_⟩,by omega,fl3⟩;rcases List.mem_append.mp z with z | z
    .exact(fin y (fin' y hy).1).2.2 z
    .rcases List.mem_cons.mp z with e | z
     .have:=(Y1.ln j x (by rw[List.getElem?_append_right (by rw[Y.len];omega),Y.len,Nat.sub_self];rfl)).1;exact this (List.mem_append_right _ (e▸(fin y (fin' y hy).1).1))
     .exact(fin' y hy).2 (List.mem_singleton.mp z)
  .rintro ρ μ1 ⟨ns',wh,fr',ls',x9,x10,rfl,W5,T5,N5,G5,sub5,Y,hw5,f5,fnd,fin,fn,fl⟩;rw[za8] at *;exact hNX _ _ ⟨n.toNat,ns',wh,ls',_,_,_,rfl,by omega,W5,T5,N5,G5,sub5,Y,hw5,f5⟩
 .rintro ρ μ1 ⟨k,ns',wh,ls',x7,x9,x10,rfl,hk,W7,T7,N7,G7,sub7,Y,hw7,f7⟩;have lw:last∉wh:=fun z=>by
   rcases Y.mem z (Nat.le_refl _) with e | e | e
   .exact hfl e.symm
   .exact e (List.mem_append_left _ hla)
   .exact N.nd2 hla e
  obtain⟨one,h1',hlast⟩:=lastOf k wh Y.len;obtain⟨⟨c1,c2,c3⟩,post⟩:=hop ns' ls' k wh one last N7 sub7 (by omega) Y h1' (List.mem_append_left _ hla) lw;refine stp fun M1 g1=>?_
  rw_mod_cast [hw7,hlast];refine⟨by rw[List.length_map,List.length_map,Y.len];omega,?_⟩;rw[<- List.map_append];refine zrL W7 c1 N7.len c2 c3 fun x μ2 ns2 ls2 W9 T9 R=>?_
  obtain⟨N9,G9,sub9,Y1,Y2⟩:=post x ns2 ls2 R;obtain⟨hw9,f9⟩:=T9 kw _ hw7 f7.1 f7.2.1 f7.2.2;rw_mod_cast [hw9];refine⟨by rw[List.length_map,Y.len];omega,g1 _ _ (stp fun M2 g2=>?_)⟩;rw_mod_cast [zB];refine⟨by rw[List.length_append,List.length_map,Y.len];show 2*k+1+1 < sizeLine;omega,g2 _ _ ?_⟩;have em:wh.map D.str++[.str x]++[.str last]=(wh++[x,last]).map D.str:=by rw[List.map_append (l₂:=[x,last]),List.append_assoc];rfl
  rw[zah,em];rw_mod_cast [zB];refine⟨_, .refl _,q (wh++[x,last]) (k+1) _ ns2 ls2 (W9.other hw9 (by simp) ⟨f7.1,f7.2.1,f9⟩) ((T7.trans T9).put hkw) (N9.more (by omega)) (G7.trans sub7 G9) sub9 (by omega) (by omega) Y1 ?_⟩;rw[List.getElem?_append_right (by rw[Y.len];omega),Y.len,show 2*(k+1) - (2*k+1)=1 by omega];rfl
set_option synthInstance.maxHeartbeats 4000000
set_option synthInstance.maxSize 100000
set_option maxHeartbeats 4000000
def zb6(w:List Str):D:= .tup (w.map D.str)
def zcR(r:RW):D:= .tup [.str r.nm, .tup (r.ways.map zb6), .int r.e, .int r.lo, .int r.re, .int r.lst]
theorem foldl_take_succ{α β:Type}(f:β->α->β)(b:β){xs:List α}{i:Nat}{x:α}(h:xs[i]? = some x):(xs.take (i+1)).foldl f b=f ((xs.take i).foldl f b) x:=by
 rw[List.take_add_one,h,List.foldl_append];rfl
theorem ztp{s na la:Nat}{ns:List Str}{ls:List LR}{ways:List (List Str)}{nm:Str}{e lo re x5 sl:Int}{μ:Mu}{Q:DK}(W:WD μ s na la ns ls)(q:Q (.int (zeh ls ways lo sl)) μ):zb2 [.tup [.str nm, .tup (ways.map zb6), .int e, .int lo, .int re, .int x5], .cell la, .int sl] μ Q:=by
 refine⟨rfl,stp fun N1 h1=>?_⟩;walk_at "e"
 refine h1 _ _ (stp fun N2 h2=>?_);walk_at "e"
 refine zaP (fun i ρ μ'=>∃x4 x5' x6,ρ=[some (.tup [.str nm, .tup (ways.map zb6), .int e, .int lo, .int re, .int x5]),some (.cell la),some (.int sl),some (.int ((ways.take i).foldl (fun m way=>if zaH ls way lo sl > m then zaH ls way lo sl else m) 0)),x4,x5',x6]/\μ'=μ) ⟨_,_,_,rfl,rfl⟩ ?_ ?_
 .rintro i d ρ μ' hd ⟨x4,x5',x6,rfl,rfl⟩ N hN;rw[List.getElem?_map] at hd;cases hw:ways[i]? with
  | none=>rw[hw] at hd;cases hd
  | some way =>
   rw[hw] at hd;cases hd;unfold zb6;refine stp fun M1 g1=>?_
   walk_at "e"
   refine g1 _ _ (stp fun M2 g2=>?_);rw_mod_cast [W.dl];refine zaP (fun j ρ μ2=>∃x6,ρ=[some (.tup [.str nm, .tup (ways.map zb6), .int e, .int lo, .int re, .int x5]),some (.cell la),some (.int sl),some (.int ((ways.take i).foldl (fun m way=>if zaH ls way lo sl > m then zaH ls way lo sl else m) 0)),some (.tup (way.map D.str)),some (.int ((ls.take j).foldl (fun m r=>if r.nm∈way then m+lo+r.w+sl else m) 0)),x6]/\μ2=μ') ⟨_,rfl,rfl⟩ ?_ ?_ (fun _ _ _ h=>by obtain⟨_,_,rfl⟩:=h;exact W.dl)
   .rintro j d ρ μ2 hd ⟨x6,rfl,rfl⟩ M hM;rw[List.getElem?_map] at hd;cases hr:ls[j]? with
    | none=>rw[hr] at hd;cases hd
    | some r =>
     rw[hr] at hd;cases hd;unfold zbk;rw_mod_cast [zjn,Bool.false_xor];have fs:=foldl_take_succ (fun m (r:LR)=>if r.nm∈way then m+lo+r.w+sl else m) (0:Int) hr;by_cases c:r.nm∈way
     .rw_mod_cast [decide_eq_true c];rw[fs,if_pos c] at hM;exact hM _ _ ⟨_,rfl,rfl⟩
     .rw_mod_cast [decide_eq_false c];rw[fs,if_neg c] at hM;exact hM _ _ ⟨_,rfl,rfl⟩
   .rintro ρ μ2 ⟨x6,rfl,rfl⟩;refine g2 _ _ ?_;walk_at "e"
    rw[foldl_take_succ _ _ hw] at hN;rw[List.length_map,List.take_length];exact hN _ _ ⟨_,_,_,rfl,rfl⟩
 .rintro ρ μ' ⟨x4,x5',x6,rfl,rfl⟩;refine h2 _ _ ?_;walk_at "e"
  rw[List.length_map,List.take_length];exact⟨_, .refl _,q⟩
set_option synthInstance.maxHeartbeats 4000000
set_option synthInstance.maxSize 100000
set_option maxHeartbeats 4000000
theorem zht(w:List Str)(h:2<=w.length):cutD (w.map D.str) (some 1) (some (-1))=(inner w).map D.str:=by
 unfold cutD inner;have e1:HT.sIx (w.map D.str).length 0 (some 1)=1:=by
  have:=HT.zaI (w.map D.str).length 0 1;rw[List.length_map,Nat.min_eq_left (by omega)] at this;rw[List.length_map];exact this
 have e2:HT.sIx (w.map D.str).length (w.map D.str).length (some (-1))=w.length - 1:=by
  rw[List.length_map];unfold HT.sIx;simp;omega
 rw[e1,e2,List.map_take,List.map_drop];congr 1
theorem zku{xs:List Int}{v:Int}(h0:0<=v)(h1:v < xs.length):∃e,atI (xs.map D.int) v=some (.int e)/\e∈xs:=by
 obtain⟨e,a,b⟩:=zmF h0 h1;exact⟨e,by rw[zg6,a];rfl,List.mem_of_getElem? b⟩
theorem zg1{xs:List Str}{v:Int}(h0:0<=v)(h1:v < xs.length):∃e,atI (xs.map D.str) v=some (.str e)/\xs[v.toNat]? = some e:=by
 obtain⟨e,a,b⟩:=zmF h0 h1;exact⟨e,by rw[zg6,a];rfl,b⟩
theorem zvz{s na la:Nat}{ho ga ns:List Str}{ls:List LR}{h c:Nat}{sl:Int}{μ:Mu}{Q:DK}(W:WD μ s na la ns ls)(N:zbW ho ga ns ls h c)(hh:h+6<=48)(hc:c<=50)(ho2:2<=ho.length)(ho4:ho.length<=4)(ga3:ga.length<=3)(sl0:0<=sl)(sl7:sl<=7)
  (q:∀r μ' ns' ls',WD μ' s na la ns' ls'->zaZ na la μ ls μ' ls'->zbW ho ga ns' ls' (h+6) (c+1)->zcD ns ls ls'->(∀y∈ns,y∈ns')->zex ho ga ns' ls' sl r->r.nm∉ns->Q (zcR r) μ') :
  zcB [.cell s, .cell na, .cell la, .lst (ho.map D.str), .lst (ga.map D.str), .int sl] μ Q:=by
 have hz:(200:Nat)<=sizeLine:=by decide
 have hnd:ho.Nodup:=(List.nodup_append.mp (List.nodup_append.mp N.nd).1).1;refine⟨rfl,stp fun N1 h1=>?_⟩;rw_mod_cast [List.length_map];refine⟨W.ds,by omega,by omega,fun v v0 v1=>h1 _ _ (stp fun N2 h2=>?_)⟩;obtain⟨first,e1,f1⟩:=zg1 v0 v1;rw_mod_cast [e1];refine h2 _ _ (stp fun N3 h3=>?_);rw_mod_cast [List.length_map];refine⟨W.ds,by omega,by omega,fun u u0 u1=>⟨by omega,?_⟩⟩;have m0:0<=(v+1+u) % (ho.length:Int):=Int.emod_nonneg _ (by omega);have m1:(v+1+u) % (ho.length:Int) < ho.length:=Int.emod_lt_of_pos _ (by omega);obtain⟨last,e2,f2⟩:=zg1 m0 m1;have hfl:first≠last:=fun z=>by
  subst z;have:=zrb hnd f1 f2;have e3:v=(v+1+u) % (ho.length:Int):=by omega
  by_cases hlt:v+1+u < ho.length
  .rw[Int.emod_eq_of_lt (by omega) hlt] at e3;omega
  .have e4:(v+1+u) % (ho.length:Int)=v+1+u - ho.length:=by
    rw[<- Int.sub_emod_right,Int.emod_eq_of_lt (by omega) (by omega)]
   omega
 have hfi:=List.mem_of_getElem? f1;have hla:=List.mem_of_getElem? f2;rw_mod_cast [e2];refine h3 _ _ (stp fun N4 h4=>?_);walk_at "e"
 refine⟨by decide,zra (bd:=[]) W N (by omega) (by omega) hfi hla hfl (by simp[beside]) (fun y hy=>by cases hy) ga3 (by decide) fun w1 k1 μ4 ns4 ls4 W4 T4 N4 G4 sub4 k1a k1b Y1 hl1=>?_⟩;refine⟨by decide,fun kw hkw=>h4 _ _ ?_⟩;have W5:WD (zH μ4 kw (.lst [.tup (w1.map D.str)])) s na la ns4 ls4:=W4.cell hkw;have f5:=W4.free hkw;have hkw0:∀k c,μ k=some c->k≠na->k≠la->(∀r∈ls,k≠r.sa/\k≠r.ea)->k≠kw:=fun k c e a1 a2 a3 z=>by
  have:=(T4 k c e a1 a2 a3).1;rw[z,hkw] at this;cases this
 refine zpA (fun ρ μ'=>∃(ns6:List Str) (ls6:List LR) (ways:List (List Str)),ρ=[some (.cell s),some (.cell na),some (.cell la),some (.lst (ho.map D.str)),some (.lst (ga.map D.str)),some (.int sl),some (.int v),some (.str first),some (.str last),some (.cell kw),none,none,none,none] /\
  WD μ' s na la ns6 ls6/\zaZ na la μ ls μ' ls6/\zbW ho ga ns6 ls6 (h+6) c/\zcD ns ls ls6/\(∀y∈ns,y∈ns6)/\μ' kw=some (.lst (ways.map zb6))/\(kw≠na/\kw≠la/\∀r∈ls6,kw≠r.sa/\kw≠r.ea)/\ways.length<=2 /\
  ∃first last w1 k1,first∈ho/\last∈ho/\first≠last/\1<=k1/\k1<=3/\Way ho ga ns6 ls6 [] first k1 (2*k1) w1/\w1[2*k1]? = some last/\(ways=[w1]\/∃w2 k2,ways=[w1,w2]/\1<=k2/\k2<=3/\Way ho ga ns6 ls6 (inner w1) first k2 (2*k2) w2/\w2[2*k2]? = some last)) (fun NX hNX=>?_) ?_
 .have T5:zaZ na la μ ls (zH μ4 kw (.lst [.tup (w1.map D.str)])) ls4:=fun k c e a1 a2 a3=>by
   obtain⟨b1,b2⟩:=T4 k c e a1 a2 a3;exact⟨by rw[zy (hkw0 k c e a1 a2 a3)];exact b1,b2⟩
  walk_at "e"
  refine⟨W5.ds,by decide,by decide,fun x x0 x1=>?_⟩;split
  .have wl1:w1.length=2*k1+1:=Y1.len;have ns1:¬ (HT.sIx (w1.map D.str).length 0 (some 1)=0/\HT.sIx (w1.map D.str).length (w1.map D.str).length (some (-1))=(w1.map D.str).length):=by
    rintro⟨z,_⟩;have:=HT.zaI (w1.map D.str).length 0 1;rw[List.length_map,Nat.min_eq_left (by omega)] at this;rw[List.length_map] at z;have e:HT.sIx w1.length 0 (some 1)=1:=this;omega
   refine⟨ns1,?_⟩;rw[zht w1 (by omega)];refine zra (bd:=inner w1) W5 N4 (by omega) (by omega) hfi hla hfl (Nat.le_trans (zkk _ _ _) (Nat.le_trans Y1.bs k1b)) (fun y hy=>Y1.sub y (zpC hy)) ga3 (Nat.le_trans (zja _) (by omega)) fun w2 k2 μ9 ns9 ls9 W9 T9 N9 G9 sub9 k2a k2b Y2 hl2=>?_
   obtain⟨hw9,f9⟩:=T9 kw _ zB f5.1 f5.2.1 f5.2.2;rw_mod_cast [hw9];refine⟨by decide,hNX _ _ ⟨ns9,ls9,[w1,w2],rfl,W9.other hw9 (by simp) ⟨f5.1,f5.2.1,f9⟩,fun k c e a1 a2 a3=>?_,N9.more (by omega),G4.trans sub4 G9,fun y hy=>sub9 y (sub4 y hy),zB,⟨f5.1,f5.2.1,f9⟩,show 2<=2 by decide,first,last,w1,k1,hfi,hla,hfl,k1a,k1b,Y1.grow G9 sub9,hl1, .inr ⟨w2,k2,rfl,k2a,k2b,Y2,hl2⟩⟩⟩;obtain⟨b1,b2⟩:=(T5.trans T9) k c e a1 a2 a3;exact⟨by rw[zy (hkw0 k c e a1 a2 a3)];exact b1,b2⟩
  .exact hNX _ _ ⟨ns4,ls4,[w1],rfl,W5,T5,N4.more (by omega),G4,sub4,zB,f5,show 1<=2 by decide,first,last,w1,k1,hfi,hla,hfl,k1a,k1b,Y1,hl1, .inl rfl⟩
 rintro ρ μ6 ⟨ns6,ls6,ways,rfl,W6,T6,N6,G6,sub6,hw6,f6,wl,shape⟩;refine stp fun N6' h6=>?_
 walk_at "e"
 refine⟨by decide,W6.ds,by decide,by decide,fun a a0 a1=>?_⟩;obtain⟨e,ge,he⟩:=zku (xs:=zg0) a0 (show a < 11 from a1);have eb:8<=e/\e<=120:=by
  have:∀e∈zg0,8<=e/\e<=120:=by decide
  exact this e he
 have ge':atI [D.int 12,D.int 8,D.int 20,D.int 24,D.int 10,D.int 30,D.int 15,D.int 40,D.int 60,D.int 12,D.int 120] a=some (.int e):=ge;rw_mod_cast [ge'];refine h6 _ _ (stp fun N7 h7=>?_);walk_at "e"
 have mb:0 < (if e - sl < 4 then e - sl else 4)/\(if e - sl < 4 then e - sl else 4)<=4:=by split<;>omega
 refine⟨W6.ds,mb.1,by omega,fun b b0 b1=>h7 _ _ (stp fun N8 h8=>?_)⟩;have u9:1+b<=4/\1+b+sl<=e:=by split at b1<;>omega
 walk_at "e"
 refine zkp W6.ds W6.dn (by have:=N6.cnt;have:=N6.len;omega) fun x nm hx=>?_
 have W7:WD _ s na la (ns6++[x]) ls6:=W6.names (ns':=ns6++[x]);have hw7:zH μ6 na (.lst ((ns6++[x]).map D.str)) kw=some (.lst (ways.map zb6)):=by rw[zy f6.1];exact hw6
 rw_mod_cast [hw7];refine⟨W7.ds,by omega,by omega,fun d d0 d1=>⟨by decide,h8 _ _ (stp fun N9 h9=>?_)⟩⟩;walk_at "e"
 refine⟨⟨by decide,by decide⟩,by decide,W7.ds,by decide,by decide,fun t t0 t1=>?_⟩;obtain⟨spare,gs,hs⟩:=zku (xs:=[0,1,2,e / 2,3,e - 1,6]) t0 (show t < 7 from t1);have gs':atI [D.int 0,D.int 1,D.int 2,D.int (e / 2),D.int 3,D.int (e - 1),D.int 6] t=some (.int spare):=gs;rw_mod_cast [gs'];refine h9 _ _ ?_;walk_at "e"
 refine⟨by decide,ztp W7 ?_⟩;walk_at "e"
 rw[show cutD [D.str x,D.tup (List.map zb6 ways),D.int e,D.int (1+b),D.int d,D.int 0] none (some 5)=[D.str x,D.tup (List.map zb6 ways),D.int e,D.int (1+b),D.int d] from rfl];refine⟨by decide,by simp,show 6<=sizeLine by decide,_, .refl _,?_⟩;have N10:=N6.named hx nm;have hxn:x∉ns:=fun z=>hx (sub6 x z)
 have G18:zcD ns6 ls6 ls6:=zcD.refl _ _;refine q ⟨x,ways,e,1+b,d,zeh ls6 ways (1+b) sl+spare⟩ _ (ns6++[x]) ls6 W7 (T6.trans zaZ.names) N10 G6 (fun y hy=>List.mem_append_left _ (sub6 y hy)) ⟨by simp,fun z=>hx (N6.sub x z),?_,he,by show 1<=1+b;omega,u9.1,u9.2,d0,d1,spare,rfl,hs⟩ hxn;obtain⟨f',l',w1',k1',a1,a2,a3,a4,a5,Y,a6,hh'⟩:=shape;refine⟨f',l',w1',k1',a1,a2,a3,a4,a5,Y.grow G18 (fun y hy=>List.mem_append_left _ hy),a6,?_⟩;rcases hh' with z | ⟨w2,k2,z,b1,b2,Y2,b3⟩
 .exact .inl z
 .exact .inr ⟨w2,k2,z,b1,b2,Y2.grow G18 (fun y hy=>List.mem_append_left _ hy),b3⟩
set_option synthInstance.maxHeartbeats 4000000
set_option synthInstance.maxSize 100000
set_option maxHeartbeats 4000000
def zqy:List Int:=[0,1,2,0,3,1,5,7]
structure WorldD(μ:Mu)(s na la:Nat)(ho ga ns:List Str)(ls:List LR)(rows:List RW)(sl:Int)(most:Nat):Prop where
 W:WD μ s na la ns ls
 N:zbW ho ga ns ls 48 (ho.length+ga.length+rows.length)
 ho2:2<=ho.length
 ho4:ho.length<=4
 ga3:ga.length<=3
 r1:1<=rows.length
 rm:rows.length<=most
 ok:∀r∈rows,zex ho ga ns ls sl r
 nd:(rows.map RW.nm).Nodup
 sl0:0<=sl
 sl7:sl<=7
theorem zhr{s na:Nat}{pre:List Str}{n:Nat}{μ:Mu}{Fin:List D->Mu->Prop}(hs:μ s=some .draw)(hn:μ na=some (.lst (pre.map D.str)))(hp:pre.Nodup)(hpn:∀x∈pre,Nm x)(hl:pre.length+n < 100)
  (q:∀xs:List Str,xs.length=n->(pre++xs).Nodup->(∀x∈pre++xs,Nm x)->Fin (xs.map D.str) (zH μ na (.lst ((pre++xs).map D.str)))) :
  zbe (zp 0) zcO (dCall zak (za (zb 2) (za (zb 1) zu))) [none,some (.cell na),some (.cell s)] (fun _=>True) Fin ((zby 0 n).map D.int) [] μ:=by
 have hz:(200:Nat)<=sizeLine:=by decide
 have sna:s≠na:=fun z=>by rw[z,hn] at hs;cases hs
 refine zbd (fun i ys μ'=>∃xs:List Str,ys=xs.map D.str/\xs.length=i/\(pre++xs).Nodup/\(∀x∈pre++xs,Nm x)/\μ'=zH μ na (.lst ((pre++xs).map D.str))) ⟨[],rfl,rfl,by rw[List.append_nil];exact hp,by rw[List.append_nil];exact hpn,?_⟩ ?_ ?_
 .funext k;unfold zH;split
  .rename_i e;rw[e,List.append_nil];exact hn
  .rfl
 .rintro i d ys μ' hd ⟨xs,rfl,hx,nd,nm,rfl⟩;obtain⟨hi,rfl⟩:=zbn hd;refine⟨by rw[List.length_map];omega,fun N hN=>?_⟩;walk_at "e"
  refine zkp (by rw[zy sna];exact hs) zB (by rw[List.length_append];omega) fun x hnm hxn=>hN _ _ ⟨xs++[x],by rw[List.map_append];rfl,by rw[List.length_append,hx];rfl,?_,?_,?_⟩
  .rw[<- List.append_assoc];exact List.nodup_append.mpr ⟨nd,by simp,fun a ha b hb e=>by rw[List.mem_singleton.mp hb] at e;exact hxn (e▸ha)⟩
  .intro y hy;rw[<- List.append_assoc] at hy;rcases List.mem_append.mp hy with h | h
   .exact nm y h
   .rw[List.mem_singleton.mp h];exact hnm
  .rw[zah,List.append_assoc]
 .rintro ys μ' ⟨xs,rfl,hx,nd,nm,rfl⟩;rw[za8] at hx;exact q xs hx nd nm
theorem zr1{s most:Nat}{μ:Mu}{Q:DK}(hs:μ s=some .draw)(m1:1<=most)(m8:most<=8)
  (q:∀ μ' na la ho ga ns ls rows sl,WorldD μ' s na la ho ga ns ls rows sl most->(∀k c,μ k=some c->μ' k=some c/\k≠na/\k≠la/\∀r∈ls,k≠r.sa/\k≠r.ea) ->
   Q (.tup [.lst (ho.map D.str), .lst (ga.map D.str), .cell la, .lst (rows.map zcR), .int sl, .cell na]) μ'):zbP [.cell s, .int (most:Int)] μ Q:=by
 have hz:(200:Nat)<=sizeLine:=by decide
 refine⟨rfl,stp fun N1 h1=>?_⟩;walk_at "e"
 refine⟨by decide,fun na hna=>h1 _ _ (stp fun N2 h2=>?_)⟩;have sna:s≠na:=fun z=>by rw[z,hna] at hs;cases hs
 have hs1:∀c,zH μ na c s=some .draw:=fun c=>by rw[zy sna];exact hs
 walk_at "e"
 refine⟨by decide,hs1 _,by decide,by decide,fun a a0 a1=>⟨by omega,by omega,?_⟩⟩;refine zhr (pre:=[]) (hs1 _) zB List.nodup_nil (fun x hx=>by cases hx) (by simp;omega) fun ho hol hod hon=>h2 _ _ (stp fun N3 h3=>?_)
 rw[zah,List.nil_append];rw[List.nil_append] at hod hon;walk_at "e"
 refine⟨by decide,hs1 _,by decide,by decide,fun b b0 b1=>⟨by omega,by omega,?_⟩⟩;refine zhr (pre:=ho) (hs1 _) zB hod hon (by omega) fun ga gal gad gan=>h3 _ _ (stp fun N4 h4=>?_)
 rw[zah];walk_at "e"
 refine⟨by decide,hs1 _,by decide,by decide,fun t t0 t1=>?_⟩;obtain⟨sl,gs,hsl⟩:=zku (xs:=zqy) t0 (show t < 8 from t1);have gs':atI [D.int 0,D.int 1,D.int 2,D.int 0,D.int 3,D.int 1,D.int 5,D.int 7] t=some (.int sl):=gs;have slb:0<=sl/\sl<=7:=by
  have:∀e∈zqy,0<=e/\e<=7:=by decide
  exact this sl hsl
 rw_mod_cast [gs'];refine h4 _ _ (stp fun N5 h5=>?_);walk_at "e"
 refine⟨by decide,fun la hla=>h5 _ _ (stp fun N6 h6=>?_)⟩;have nal:na≠la:=fun z=>by rw[<- z,zB] at hla;cases hla
 have W0:WD (zH (zH μ na (.lst ((ho++ga).map D.str))) la (.lst [])) s na la (ho++ga) []:=⟨by
   rw[zy (fun z=>by rw[<- z,hs1] at hla;cases hla)];exact hs1 _,by rw[zy nal,zB],zB,nal,fun r hr=>(by cases hr),fun r hr=>(by cases hr),fun i j r r' hi=>(by simp at hi)⟩
 have NT0:zbW ho ga (ho++ga) [] (6*0) (ho.length+ga.length+0):=⟨by simpa using gad,by simp,gan,gad,fun r hr=>(by cases hr),by decide,by decide,by rw[List.length_append];exact Nat.le_refl _⟩;have keep0:∀k c,μ k=some c->(zH (zH μ na (.lst ((ho++ga).map D.str))) la (.lst [])) k=some c/\k≠na/\k≠la:=fun k c e=>by
  have k1:k≠na:=fun z=>by rw[z,hna] at e;cases e
  have k2:k≠la:=fun z=>by rw[<- z,zy k1,e] at hla;cases hla
  exact⟨by rw[zy k2,zy k1];exact e,k1,k2⟩
 generalize zH (zH μ na (.lst ((ho++ga).map D.str))) la (.lst [])=μ0 at W0 keep0
 walk_at "e"
 refine⟨by decide,W0.ds,by omega,by omega,fun v v0 v1=>⟨by omega,by omega,?_⟩⟩;refine zbd (fun i ys μ'=>∃(rows:List RW) (ns:List Str) (ls:List LR),ys=rows.map zcR/\rows.length=i/\WD μ' s na la ns ls/\zaZ na la μ0 [] μ' ls/\zbW ho ga ns ls (6*i) (ho.length+ga.length+i)/\(∀r∈rows,zex ho ga ns ls sl r)/\(rows.map RW.nm).Nodup) ⟨[],ho++ga,[],rfl,rfl,W0, .refl,NT0,fun r hr=>(by cases hr),List.nodup_nil⟩ ?_ ?_
 .rintro i d ys μ' hd ⟨rows,ns,ls,rfl,hr,W,T,NT,ok,nd⟩;obtain⟨hi,rfl⟩:=zbn hd;refine⟨by rw[List.length_map];omega,fun N hN=>?_⟩;walk_at "e"
  refine zvz W NT (by omega) (by omega) (by omega) (by omega) (by omega) slb.1 slb.2 fun r μ2 ns2 ls2 W2 T2 NT2 G2 sub2 R2 hn2=>hN _ _ ⟨rows++[r],ns2,ls2,by rw[List.map_append];rfl,by rw[List.length_append,hr];rfl,W2,T.trans T2,?_,?_,?_⟩
  .have:6*(i+1)=6*i+6:=by omega
   rw[this];exact NT2
  .intro r' hr';rcases List.mem_append.mp hr' with h | h
   .exact(ok r' h).grow G2 sub2
   .rw[List.mem_singleton.mp h];exact R2
  .rw[List.map_append];refine List.nodup_append.mpr ⟨nd,by simp,fun a ha b hb e=>?_⟩;obtain⟨r',hr',rfl⟩:=List.mem_map.mp ha;have:b=r.nm:=by simpa using hb
   rw[this] at e;exact hn2 (e▸(ok r' hr').nmn)
 .rintro ys μ' ⟨rows,ns,ls,rfl,hr,W,T,NT,ok,nd⟩;rw[za8] at hr NT;refine h6 _ _ ?_;walk_at "e"
  refine⟨by decide,_, .refl _,q μ' na la ho ga ns ls rows sl ⟨W,?_,by omega,by omega,by omega,by omega,by omega,ok,nd,slb.1,slb.2⟩ fun k c e=>?_⟩
  .rw[hr];exact NT.more (by omega)
  .obtain⟨b1,b2,b3⟩:=keep0 k c e;obtain⟨c1,c2⟩:=T k c b1 b2 b3 (fun r hr=>by cases hr);exact⟨c1,b2,b3,c2⟩
set_option synthInstance.maxHeartbeats 4000000
set_option synthInstance.maxSize 100000
set_option maxHeartbeats 4000000
theorem zwy{i:Int}{μ:Mu}{Q:DK}(q:Q (.bl true) μ):zbN [.int i] μ Q:=by
 refine⟨rfl,?_⟩;walk_at "e"
 exact⟨_, .refl _,q⟩
theorem ztR{i:Int}{μ:Mu}{Q:DK}(q:Q .non μ):za9 [.int i] μ Q:=by
 refine⟨rfl,?_⟩;walk_at "e"
 refine zwy ?_;walk_at "e"
 exact⟨_, .refl _,q⟩
set_option synthInstance.maxHeartbeats 4000000
set_option synthInstance.maxSize 100000
set_option maxHeartbeats 4000000
theorem zqt{y:Str}{μ:Mu}{R:List D->(Mu->Prop)->Prop}(h:y.cps.all (· < 128)=true):zlb μ (.str y) R=R (y.cps.toList.map fun c=> .str ⟨#[c]⟩) fun _=>True:=by
 unfold zlb zue;simp only[h,if_true]
theorem zjM:∀c:_root_.Fin 128,zk1 letters ⟨#[c.val]⟩=decide (97<=c.val/\c.val<=122):=by decide+kernel
theorem zqB{x:Str}(h:Nm x):x.cps.all (· < 128)=true:=by
 rw[<- Array.all_toList];exact List.all_eq_true.mpr fun c hc=>decide_eq_true (by have:=h.az c hc;omega)
theorem zvY{x:Str}(h:Nm x):1<=x.length/\x.length<=8:=by
 have h1:=h.l1;have h2:=h.l8;rw[Array.length_toList] at h1 h2;exact⟨h1,h2⟩
theorem zjd{x:Str}{μ:Mu}{Q:DK}(h:Nm x)(q:Q (.bl true) μ):zbQ [.str x] μ Q:=by
 obtain⟨l1,l8⟩:=zvY h;have hz:(1000:Nat)<=sizeLine:=by decide
 refine⟨rfl,?_⟩;walk_at "e"
 refine⟨rfl,?_⟩;walk_at "e"
 refine⟨by omega,?_⟩;rw_mod_cast [show decide ((1:Int)<=x.length)=true from decide_eq_true (by omega),show decide ((x.length:Int)<=8)=true from decide_eq_true (by omega),zqt (zqB h)];refine⟨by decide,zll x.cps.toList _ (by have:=h.l8;omega) (fun c hc Q' q'=>?_) (fun bs hb=>?_) trivial⟩
 .have:=h.az c hc;have e:=zjM ⟨c,by omega⟩;walk_at "e"
  rw[show zk1 (Str.ofString "abcdefghijklmnopqrstuvwxyz") ⟨#[c]⟩=true from by
   show zk1 letters ⟨#[c]⟩=true;rw[e];exact decide_eq_true this]
  exact q'
 .rw_mod_cast [hb];exact⟨_, .refl _,_, .refl _,q⟩
theorem zmt{x:Str}{μ:Mu}{Q:DK}(h:Nm x)(q:Q .non μ):zbp [.str x] μ Q:=by
 refine⟨rfl,?_⟩;walk_at "e"
 refine zjd h ?_;walk_at "e"
 exact⟨_, .refl _,q⟩
theorem zkV{i lo hi:Int}{μ:Mu}{Q:DK}(h1:lo<=i)(h2:i<=hi)(q:Q .non μ):zam [.int i, .int lo, .int hi] μ Q:=by
 refine⟨rfl,?_⟩;walk_at "e"
 refine ztR ?_;rw_mod_cast [decide_eq_true h1,decide_eq_true h2];exact⟨_, .refl _,q⟩
theorem zqd{x:Str}(h:Nm x):PyData.strOk x=true:=by
 unfold PyData.strOk;rw[<- Array.all_toList];exact List.all_eq_true.mpr fun c hc=>decide_eq_true (by have:=h.az c hc;omega)
set_option synthInstance.maxHeartbeats 4000000
set_option synthInstance.maxSize 100000
set_option maxHeartbeats 4000000
def sLe(a b:Str):Prop:=a.cps.toList<=b.cps.toList
theorem zki{a b:Str}(h:sLe a b)(h':sLe b a):a=b:=by
 have e:a.cps.toList=b.cps.toList:=List.le_antisymm h h';cases a;cases b;simp only[Str.mk.injEq];exact Array.toList_inj.mp e
set_option synthInstance.maxHeartbeats 4000000
set_option synthInstance.maxSize 100000
set_option maxHeartbeats 4000000
structure ziR(way:List Str):Prop where
 len:way.length=3\/way.length=5\/way.length=7
 nms:∀x∈way,Nm x
 nd:way.Nodup
theorem zo1{way:List Str}{μ:Mu}{Q:DK}(h:ziR way)(q:Q .non μ):zbM [.tup (way.map D.str)] μ Q:=by
 have l7:way.length<=7:=by rcases h.len with e | e | e<;>omega
 have hm:((way.length:Int))∈([3,5,7]:List Int):=by rcases h.len with e | e | e<;>rw[e]<;>decide
 have e3:zbA true (.int (way.length:Int)) (.tup [D.int 3,D.int 5,D.int 7]) μ=zbA true (.int (way.length:Int)) (.tup (List.map D.int [3,5,7])) μ:=rfl;refine⟨rfl,stp fun N1 h1=>?_⟩;walk_at "e"
 rw[List.length_map,e3];simp only[zka,zkd,Bool.true_xor,decide_eq_true hm,Bool.not_true,Bool.false_eq_true,if_false];refine h1 _ _ (stp fun N2 h2=>?_);walk_at "e"
 refine⟨by decide,zll way D.str (by omega) (fun x hx Q' q'=>?_) (fun bs hb=>?_) trivial⟩
 .walk_at "e"
  exact zjd (h.nms x hx) q'
 .rw_mod_cast [hb];refine h2 _ _ ?_;walk_at "e"
  refine⟨way,rfl,by omega,?_⟩;rw[zlK h.nd,List.length_map];rw_mod_cast [show decide ((way.length:Int) < way.length)=false from decide_eq_false (by omega)];exact⟨_, .refl _,q⟩
structure znl(w1 w2:List Str):Prop where
 l1:3<=w1.length
 l1':w1.length<=7
 l2:3<=w2.length
 fst:w1[0]? = w2[0]?
 lst:w1[w1.length - 1]? = w2[w2.length - 1]?
 dj:∀x∈inner w1,x∉w2
theorem znP{w:List Str}(h:3<=w.length):∃a b,w[0]? = some a/\w[w.length - 1]? = some b/\atI (w.map D.str) 0=some (.str a)/\atI (w.map D.str) (-1)=some (.str b):=by
 have h0:0 < w.length:=by omega
 have h1:w.length - 1 < w.length:=by omega
 refine⟨w[0],w[w.length - 1],List.getElem?_eq_getElem h0,List.getElem?_eq_getElem h1,zrC (j:=0) rfl (by rw[List.getElem?_map,List.getElem?_eq_getElem h0];rfl),?_⟩;rw[zhQ,List.getLast?_eq_getElem?,List.length_map,List.getElem?_map,List.getElem?_eq_getElem h1];rfl
theorem zml{w1 w2:List Str}{μ:Mu}{Q:DK}(h:znl w1 w2)(q:Q .non μ):zaB [.tup (w1.map D.str), .tup (w2.map D.str)] μ Q:=by
 have l1:=h.l1;have l1':=h.l1';obtain⟨a,b,e1,e2,e3,e4⟩:=znP h.l1;obtain⟨a',b',f1,f2,f3,f4⟩:=znP h.l2;have ea:a=a':=by have:=h.fst;rw[e1,f1] at this;cases this;rfl
 have eb:b=b':=by have:=h.lst;rw[e2,f2] at this;cases this;rfl
 subst ea eb;refine⟨rfl,stp fun N1 h1=>?_⟩;rw_mod_cast [e3,e4,f3,f4];refine h1 _ _ ?_;walk_at "e"
 have ns1:¬ (HT.sIx (w1.map D.str).length 0 (some 1)=0/\HT.sIx (w1.map D.str).length (w1.map D.str).length (some (-1))=(w1.map D.str).length):=by
  rintro⟨z,_⟩;have:=HT.zaI (w1.map D.str).length 0 1;rw[List.length_map,Nat.min_eq_left (by omega)] at this;rw[List.length_map] at z;have e:HT.sIx w1.length 0 (some 1)=1:=this;omega
 refine⟨by decide,ns1,?_⟩;rw[zht w1 (by omega)];have hil:(inner w1).length<=7:=Nat.le_trans (zja _) l1';have hz:(1000:Nat)<=sizeLine:=by decide
 refine zbd (fun i ys μ'=>μ'=μ/\ys=(List.replicate i false).map D.bl) ⟨rfl,rfl⟩ ?_ ?_
 .rintro i d ys μ' hd ⟨rfl,rfl⟩;rw[List.getElem?_map] at hd;cases hx:(inner w1)[i]? with
  | none=>rw[hx] at hd;cases hd
  | some x =>
   rw[hx] at hd;cases hd;have hi:=(List.getElem?_eq_some_iff.mp hx).1;refine⟨by rw[List.length_map,List.length_replicate];omega,fun N hN=>?_⟩;rw_mod_cast [zjn,Bool.false_xor,decide_eq_false (h.dj x (List.mem_of_getElem? hx))];refine hN _ _ ⟨rfl,?_⟩;rw[List.replicate_succ',List.map_append];rfl
 .rintro ys μ' ⟨rfl,rfl⟩;rw_mod_cast [show ∀n,(List.replicate n false).any id=false from fun n=>by simp];exact⟨_, .refl _,q⟩
def zsu(ways:List (List Str)):Prop:=(∃w1,ways=[w1]/\ziR w1)\/∃w1 w2,ways=[w1,w2]/\ziR w1/\ziR w2/\znl w1 w2
theorem zng{ways:List (List Str)}{μ:Mu}{Q:DK}(h:zsu ways)(q:Q .non μ):zbw [.tup (ways.map zb6)] μ Q:=by
 have l12:ways.length=1\/ways.length=2:=by rcases h with⟨w1,rfl,_⟩ | ⟨w1,w2,rfl,_⟩<;>simp
 have hm:((ways.length:Int))∈([1,2]:List Int):=by rcases l12 with e | e<;>rw[e]<;>decide
 have wok:∀w∈ways,ziR w:=by
  rcases h with⟨w1,rfl,a⟩ | ⟨w1,w2,rfl,a,b,_⟩
  .intro w hw;rw[List.mem_singleton.mp hw];exact a
  .intro w hw;rcases List.mem_cons.mp hw with e | e
   .rw[e];exact a
   .rw[List.mem_singleton.mp e];exact b
 refine⟨rfl,stp fun N1 h1=>?_⟩;walk_at "e"
 refine⟨by decide,?_⟩;have e12:zbA true (.int (ways.length:Int)) (.tup [D.int 1,D.int 2]) μ=zbA true (.int (ways.length:Int)) (.tup (List.map D.int [1,2])) μ:=rfl;rw[List.length_map,e12];simp only[zka,zkd,Bool.true_xor,decide_eq_true hm,Bool.not_true,Bool.false_eq_true,if_false];refine h1 _ _ (stp fun N2 h2=>?_);walk_at "e"
 refine zaP (fun i ρ μ'=>∃x,ρ=[some (.tup (ways.map zb6)),x]/\μ'=μ) ⟨_,rfl,rfl⟩ ?_ ?_
 .rintro i d ρ μ' hd ⟨x,rfl,rfl⟩ N hN;rw[List.getElem?_map] at hd;cases hx:ways[i]? with
  | none=>rw[hx] at hd;cases hd
  | some w =>
   rw[hx] at hd;cases hd;unfold zb6;walk_at "e"
   exact zo1 (wok w (List.mem_of_getElem? hx)) (hN _ _ ⟨_,rfl,rfl⟩)
 rintro ρ μ' ⟨x,rfl,rfl⟩;refine h2 _ _ ?_;rcases h with⟨w1,rfl,a⟩ | ⟨w1,w2,rfl,a,b,c⟩
 .walk_at "e"
  exact⟨_, .refl _,q⟩
 .rw_mod_cast [zb6];exact zml c ⟨_, .refl _,q⟩
set_option synthInstance.maxHeartbeats 4000000
set_option synthInstance.maxSize 100000
set_option maxHeartbeats 4000000
set_option maxHeartbeats 400000
def zg8:List Int:=[4,5,6,8,10,12,15,20,24,30,40,60,120]
structure zpB(r:RW):Prop where
 nm:Nm r.nm
 ways:zsu r.ways
 ev:r.e∈zg8
 l1:1<=r.lo
 l2:r.lo<=30
 r0:0<=r.re
 r1:r.re<=r.e - 1
 t1:1<=r.lst
 t2:r.lst<=480
def zr3(r:RW):List D:=[.str r.nm, .tup (r.ways.map zb6), .int r.e, .int r.lo, .int r.re, .int r.lst]
def frO(r:RW):D:= .obj "Frame" zcU (zr3 r)
theorem zqv{r:RW}{k:Nat}{μ:Mu}{Q:DK}(h:zpB r)(q:Q .non (zH μ k (.ins "Frame" zcU (zr3 r)))):zan [.cell k, .str r.nm, .tup (r.ways.map zb6), .int r.e, .int r.lo, .int r.re, .int r.lst] (zH μ k (.ins "Frame" [] [])) Q:=by
 refine⟨rfl,stp fun N1 h1=>?_⟩;walk_at "e"
 refine zmt h.nm (h1 _ _ (stp fun N2 h2=>?_));walk_at "e"
 refine zng h.ways (h2 _ _ (stp fun N3 h3=>?_));walk_at "e"
 have e1:∀(μ:Mu) (Q:DK),zbA true (.int r.e) (.tup [D.int 4,D.int 5,D.int 6,D.int 8,D.int 10,D.int 12,D.int 15,D.int 20,D.int 24,D.int 30,D.int 40,D.int 60,D.int 120]) μ Q=zbA true (.int r.e) (.tup (List.map D.int zg8)) μ Q:=fun _ _=>rfl
 rw[e1];simp only[zka,zkd,Bool.true_xor,decide_eq_true h.ev,Bool.not_true,Bool.false_eq_true,if_false];refine h3 _ _ (stp fun N4 h4=>?_);walk_at "e"
 refine zkV h.l1 h.l2 (h4 _ _ (stp fun N5 h5=>?_));walk_at "e"
 refine zkV h.r0 h.r1 (h5 _ _ (stp fun N6 h6=>?_));walk_at "e"
 refine zkV h.t1 h.t2 (h6 _ _ (stp fun N7 h7=>?_));walk_at "e"
 refine h7 _ _ (stp fun N8 h8=>?_);rw_mod_cast [zah];refine h8 _ _ (stp fun N9 h9=>?_);rw_mod_cast [zah];refine h9 _ _ (stp fun N10 h10=>?_);rw_mod_cast [zah];refine h10 _ _ (stp fun N11 h11=>?_);rw_mod_cast [zah];refine h11 _ _ ?_;rw_mod_cast [zah];exact⟨_, .refl _,q⟩
theorem zyj{r:RW}{k:Nat}{μ:Mu}{Q:DK}(h:zpB r)(hk:μ k=none)(q:Q (frO r) μ):zan [.cell k, .str r.nm, .tup (r.ways.map zb6), .int r.e, .int r.lo, .int r.re, .int r.lst] (zH μ k (.ins "Frame" [] [])) fun d μ3=>d= .non/\ziH μ3 (.cell k) Q:=by
 refine zqv h ⟨rfl,?_⟩;rw[zry,zB,zhB,zd1 hk];exact q
theorem fmk{n j:Nat}{pat:List Src}{cs ds es:List D}{r:RW}{μ:Mu}{Q:DK}(h:zpB r)(hs:∀k,sel n j pat .non cs (.cell k::ds) es=[.cell k, .str r.nm, .tup (r.ways.map zb6), .int r.e, .int r.lo, .int r.re, .int r.lst])(q:Q (frO r) μ):zv5 "Frame" zan n j pat cs ds es μ Q:=fun k hk=>by
 rw[hs k];exact zyj h hk q
theorem zoV{r:RW}{μ:Mu}{Q:DK}(h:zpB r)(q:Q (frO r) μ):zbO [zcR r] μ Q:=by
 refine⟨rfl,?_⟩;unfold zcR;refine zpf (ds:=[.str r.nm, .tup (r.ways.map zb6)]) (es:=[.int r.e, .int r.lo, .int r.re, .int r.lst]) ?_ ?_ (fmk h (fun k=>rfl) ⟨_, .refl _,q⟩)
 .walk_at "x"
 .walk_at "x"
set_option synthInstance.maxHeartbeats 4000000
set_option synthInstance.maxSize 100000
set_option maxHeartbeats 4000000
theorem zrt{w:List Str}{x:Str}(h:x∈inner w):∃j,1<=j/\j+1 < w.length/\w[j]? = some x:=by
 unfold inner at h;obtain⟨j,hj⟩:=List.mem_iff_getElem?.mp h;rw[List.getElem?_take] at hj;split at hj
 .rename_i hlt;rw[List.getElem?_drop] at hj;exact⟨1+j,by omega,by omega,hj⟩
 .cases hj
theorem zro{w:List Str}(h:w.Nodup){i j:Nat}{x:Str}(h1:w[i]? = some x)(h2:w[j]? = some x):i=j:=by
 obtain⟨a,ea⟩:=List.getElem?_eq_some_iff.mp h1;obtain⟨b,eb⟩:=List.getElem?_eq_some_iff.mp h2;exact(List.getElem_inj h).mp (ea.trans eb.symm)
theorem znh{ho ga ns:List Str}{ls:List LR}{h c:Nat}{bd:List Str}{first:Str}{k:Nat}{w:List Str}(N:zbW ho ga ns ls h c)(k1:1<=k)(k3:k<=3)(W:Way ho ga ns ls bd first k (2*k) w):ziR w:=⟨by rw[W.len];omega,fun x hx=>N.nms x (W.sub x hx),W.nd⟩
theorem zsQ{ho ga ns:List Str}{ls:List LR}{first last:Str}{k1 k2:Nat}{w1 w2:List Str}(a1:1<=k1)(a3:k1<=3)(b1:1<=k2)(b3:k2<=3)(W1:Way ho ga ns ls [] first k1 (2*k1) w1)(e1:w1[2*k1]? = some last)(W2:Way ho ga ns ls (inner w1) first k2 (2*k2) w2)(e2:w2[2*k2]? = some last):znl w1 w2:=by
 have l1:=W1.len;have l2:=W2.len;refine⟨by omega,by omega,by omega,by rw[W1.hd,W2.hd],?_,fun x hx hx2=>?_⟩
 .rw[show w1.length - 1=2*k1 from by omega,show w2.length - 1=2*k2 from by omega,e1,e2]
 .obtain⟨i,i1,i2,hi⟩:=zrt hx;obtain⟨j,hj⟩:=List.mem_iff_getElem?.mp hx2;have hlt:j < 2*k2+1:=by have:=(List.getElem?_eq_some_iff.mp hj).1;omega
  by_cases z:j=0
  .subst z;rw[W2.hd] at hj;cases hj;have:=zro W1.nd hi W1.hd;omega
  .by_cases z2:j=2*k2
   .subst z2;rw[e2] at hj;cases hj;have:=zro W1.nd hi e1;omega
   .rcases Nat.mod_two_eq_zero_or_one j with e | e
    .obtain⟨m,rfl⟩:∃m,j=2*m+2:=⟨j / 2 - 1,by omega⟩;exact(W2.gt m x (by omega) hj).2 hx
    .obtain⟨m,rfl⟩:∃m,j=2*m+1:=⟨j / 2,by omega⟩;exact(W2.ln m x hj).2 hx
theorem zde{way:List Str}{lo sl:Int}(h0:1<=lo)(h4:lo<=4)(s0:0<=sl)(s7:sl<=7):∀(ls:List LR) (m:Int),(∀r∈ls,0<=r.w/\r.w<=3)->m<=ls.foldl (fun m r=>if r.nm∈way then m+lo+r.w+sl else m) m/\ls.foldl (fun m r=>if r.nm∈way then m+lo+r.w+sl else m) m<=m+14*ls.length/\((∃r∈ls,r.nm∈way)->m+1<=ls.foldl (fun m r=>if r.nm∈way then m+lo+r.w+sl else m) m)
 | [],m,_=>⟨by simp,by simp,fun⟨r,hr,_⟩=>by cases hr⟩
 | r::t,m,h=>by
  obtain⟨w0,w3⟩:=h r List.mem_cons_self;have h':∀r∈t,0<=r.w/\r.w<=3:=fun x hx=>h x (List.mem_cons_of_mem _ hx)
  rw[List.foldl_cons,List.length_cons];by_cases hm:r.nm∈way
  .rw[if_pos hm];obtain⟨a,b,c⟩:=zde (way:=way) h0 h4 s0 s7 t (m+lo+r.w+sl) h';exact⟨by omega,by omega,fun _=>by omega⟩
  .rw[if_neg hm];obtain⟨a,b,c⟩:=zde (way:=way) h0 h4 s0 s7 t m h';refine⟨a,by omega,fun⟨x,hx,hxw⟩=>?_⟩;rcases List.mem_cons.mp hx with rfl | hx
   .exact absurd hxw hm
   .exact c ⟨x,hx,hxw⟩
theorem zvO{ho ga ns:List Str}{ls:List LR}{h c:Nat}{sl:Int}{r:RW}(N:zbW ho ga ns ls h c)(s0:0<=sl)(s7:sl<=7)(R:zex ho ga ns ls sl r):zpB r:=by
 have ev:8<=r.e/\r.e<=120/\r.e∈zg8:=by
  have:∀e∈zg0,8<=e/\e<=120/\e∈zg8:=by decide
  exact this _ R.ev
 have wl:∀q∈ls,0<=q.w/\q.w<=3:=fun q hq=>⟨(N.ends q hq).w0,(N.ends q hq).w3⟩
 have l14:=N.len;obtain⟨first,last,w1,k1,hf,hl,hfl,k11,k13,W1,e1,hw⟩:=R.way;have ls1:1<=zaH ls w1 r.lo sl:=by
  have le:=W1.len;have i0:2*0 < w1.length:=by omega
  have i1:2*0+1 < w1.length:=by omega
  have i2:2*0+2 < w1.length:=by omega
  obtain⟨q,hq,en,_,_⟩:=W1.jn 0 _ _ _ (List.getElem?_eq_getElem i0) (List.getElem?_eq_getElem i1) (List.getElem?_eq_getElem i2);have:=(zde (way:=w1) R.l1 R.l4 s0 s7 ls 0 wl).2.2 ⟨q,hq,by rw[en];exact List.getElem_mem _⟩;unfold zaH;omega
 have lsb:∀w,0<=zaH ls w r.lo sl/\zaH ls w r.lo sl<=196:=fun w=>by
  obtain⟨a,b,_⟩:=zde (way:=w) R.l1 R.l4 s0 s7 ls 0 wl;unfold zaH;exact⟨a,by omega⟩
 have nb:1<=zeh ls r.ways r.lo sl/\zeh ls r.ways r.lo sl<=196:=by
  have b1:=lsb w1;rcases hw with e | ⟨w2,k2,e,_⟩
  .rw[e];unfold zeh;simp only[List.foldl_cons,List.foldl_nil];split<;>omega
  .have b2:=lsb w2;rw[e];unfold zeh;simp only[List.foldl_cons,List.foldl_nil];split<;>split<;>omega
 obtain⟨sp,es,hs⟩:=R.lst;have sb:0<=sp/\sp<=119:=by
  simp only[List.mem_cons,List.not_mem_nil,or_false] at hs;rcases hs with e | e | e | e | e | e | e<;>omega
 refine⟨N.nms _ R.nmn,?_,ev.2.2,R.l1,by have:=R.l4;omega,R.r0,by have:=R.re;omega,by omega,by omega⟩;rcases hw with e | ⟨w2,k2,e,b1,b3,W2,e2⟩
 .exact .inl ⟨w1,e,znh N k11 k13 W1⟩
 .exact .inr ⟨w1,w2,e,znh N k11 k13 W1,znh N b1 b3 W2,zsQ k11 k13 b1 b3 W1 e1 W2 e2⟩
set_option synthInstance.maxHeartbeats 4000000
set_option synthInstance.maxSize 100000
set_option maxHeartbeats 4000000
abbrev TR:=Str×Int×List Int
def trD(t:TR):D:= .tup [.str t.1, .int t.2.1, .tup (t.2.2.map D.int)]
def trL(t:TR):List D:=[.str t.1, .int t.2.1, .tup (t.2.2.map D.int)]
def trK(t:TR):zaO:=[.inr t.1, .inl t.2.1]
def trV(t:TR):D:= .tup (t.2.2.map D.int)
theorem zmc{t:TR}:∀{ts:List TR},t∈ts->(ts.map trK).Nodup->zcc (ts.map trK) (ts.map trV) (trK t)=some (trV t)
 | [],h,_=>by cases h
 | u::ts,h,nd=>by
  rw[List.map_cons,List.map_cons,zcc];obtain⟨n1,n2⟩:=List.nodup_cons.mp nd;rcases List.mem_cons.mp h with rfl | h
  .rw[if_pos rfl]
  .rw[if_neg (fun z:trK u=trK t=>n1 (by rw[z];exact List.mem_map.mpr ⟨t,h,rfl⟩))];exact zmc h n2
def tbO(ts:List TR):D:= .obj "Table" zdI [.lst (ts.map trD)]
theorem zpJ{ts:List TR}(nd:(ts.map trK).Nodup):∀i j,i≠j->(zcX ((ts.map trL).getD i []) ((ts.map trL).getD j [])).isSome:=by
 intro i j hij;have out:∀{n},¬ n < ts.length->(ts.map trL).getD n []=[]:=fun{n} h=>by simp[Nat.le_of_not_lt h]
 have inn:∀{n} (h:n < ts.length),(ts.map trL).getD n []=trL ts[n]:=fun{n} h=>by simp[h]
 by_cases hi:i < ts.length
 .by_cases hj:j < ts.length
  .rw[inn hi,inn hj];unfold trL;by_cases e1:ts[i].1=ts[j].1
   .by_cases e2:ts[i].2.1=ts[j].2.1
    .exfalso;have hk:(ts.map trK)[i]'(by simpa using hi)=(ts.map trK)[j]'(by simpa using hj):=by
      rw[List.getElem_map,List.getElem_map];unfold trK;rw[e1,e2]
     rcases Nat.lt_or_gt_of_ne hij with z | z
     .exact(List.pairwise_iff_getElem.mp nd) i j _ _ z hk
     .exact(List.pairwise_iff_getElem.mp nd) j i _ _ z hk.symm
    .simp[zcX,e1,e2]
   .simp[zcX,e1]
  .rw[out hj,inn hi];rfl
 .rw[out hi];by_cases hj:j < ts.length
  .rw[inn hj];rfl
  .rw[out hj];rfl
theorem zu2(ts:List TR):ts.map trD=(ts.map trL).map D.tup:=by rw[List.map_map];rfl
set_option synthInstance.maxHeartbeats 4000000
set_option synthInstance.maxSize 100000
set_option maxHeartbeats 4000000
theorem zdi{α β:Type}{f:α->β}:∀{l:List α} {l':List β},List.Perm l' (l.map f)->∃l2,List.Perm l2 l/\l'=l2.map f:=fun{l l'} h=>by
 generalize hm:l.map f=m at h
 induction h generalizing l with
 | nil=>cases l with
  | nil=>exact⟨[], .refl _,rfl⟩
  | cons _ _=>cases hm
 | cons x _ ih =>
  cases l with
  | nil=>cases hm
  | cons a l =>
   cases hm;obtain⟨l2,p,rfl⟩:=ih rfl;exact⟨a::l2,p.cons a,rfl⟩
 | swap x y _ =>
  match l,hm with
  | a::b::l,hm =>
   cases hm;exact⟨b::a::l, .swap _ _ _,rfl⟩
 | trans _ _ ih1 ih2 =>
  obtain⟨l2,p,rfl⟩:=ih2 hm;obtain⟨l3,p3,rfl⟩:=ih1 rfl;exact⟨l3,p3.trans p,rfl⟩
set_option synthInstance.maxHeartbeats 4000000
set_option synthInstance.maxSize 100000
set_option maxHeartbeats 4000000
theorem zhS{α:Type}{r:α->α->Prop}:∀{l1 l2:List α},List.Perm l1 l2->List.Pairwise r l1->List.Pairwise r l2->(∀a∈l1,∀b∈l1,r a b->r b a->a=b)->l1=l2
 | [],l2,h,_,_,_=>h.nil_eq
 | a::r1,[],h,_,_,_=>absurd h.length_eq (by simp)
 | a::r1,b::r2,h,h1,h2,anti=>by
  obtain⟨a1,p1⟩:=List.pairwise_cons.mp h1;obtain⟨b1,p2⟩:=List.pairwise_cons.mp h2;have e:a=b:=by
   rcases List.mem_cons.mp (h.mem_iff.mp List.mem_cons_self) with z | z
   .exact z
   .rcases List.mem_cons.mp (h.mem_iff.mpr (List.mem_cons_self (a:=b))) with y | y
    .exact y.symm
    .exact anti a (.head _) b (.tail _ y) (a1 b y) (b1 a z)
  subst e;rw[zhS (List.perm_cons a |>.mp h) p1 p2 fun x hx y hy=>anti x (.tail _ hx) y (.tail _ hy)]
def zhm(r:RW):List D:=[.str r.nm, .tup (r.ways.map zb6), .int r.e, .int r.lo, .int r.re, .int r.lst]
theorem zpT(rows:List RW):rows.map zcR=(rows.map zhm).map D.tup:=by rw[List.map_map];rfl
structure zdQ(rows l:List RW):Prop where
 p:List.Perm l rows
 s:l.Pairwise fun a b=>sLe a.nm b.nm
theorem zwZ{rows:List RW}(nd:(rows.map RW.nm).Nodup){a b:RW}(ha:a∈rows)(hb:b∈rows)(e:a.nm=b.nm):a=b:=by
 obtain⟨i,hi,rfl⟩:=List.getElem_of_mem ha;obtain⟨j,hj,rfl⟩:=List.getElem_of_mem hb;by_cases h:i=j
 .subst h;rfl
 .exfalso;have hk:(rows.map RW.nm)[i]'(by simpa using hi)=(rows.map RW.nm)[j]'(by simpa using hj):=by rw[List.getElem_map,List.getElem_map];exact e
  rcases Nat.lt_or_gt_of_ne h with z | z
  .exact(List.pairwise_iff_getElem.mp nd) i j _ _ z hk
  .exact(List.pairwise_iff_getElem.mp nd) j i _ _ z hk.symm
theorem zdQ.uniq{rows l1 l2:List RW}(nd:(rows.map RW.nm).Nodup)(h1:zdQ rows l1)(h2:zdQ rows l2):l1=l2 :=
 zhS (h1.p.trans h2.p.symm) h1.s h2.s fun a ha b hb x y=>zwZ nd (h1.p.mem_iff.mp ha) (h1.p.mem_iff.mp hb) (zki x y)
theorem zow{rows:List RW}(nd:(rows.map RW.nm).Nodup):∀i j,i≠j->(zcX ((rows.map zhm).getD i []) ((rows.map zhm).getD j [])).isSome:=by
 intro i j hij;have out:∀{n},¬ n < rows.length->(rows.map zhm).getD n []=[]:=fun{n} h=>by simp[Nat.le_of_not_lt h]
 have inn:∀{n} (h:n < rows.length),(rows.map zhm).getD n []=zhm rows[n]:=fun{n} h=>by simp[h]
 by_cases hi:i < rows.length
 .by_cases hj:j < rows.length
  .rw[inn hi,inn hj];unfold zhm;by_cases e1:rows[i].nm=rows[j].nm
   .exfalso;have hk:(rows.map RW.nm)[i]'(by simpa using hi)=(rows.map RW.nm)[j]'(by simpa using hj):=by rw[List.getElem_map,List.getElem_map];exact e1
    rcases Nat.lt_or_gt_of_ne hij with z | z
    .exact(List.pairwise_iff_getElem.mp nd) i j _ _ z hk
    .exact(List.pairwise_iff_getElem.mp nd) j i _ _ z hk.symm
   .simp[zcX,e1]
  .rw[out hj,inn hi];rfl
 .rw[out hi];by_cases hj:j < rows.length
  .rw[inn hj];rfl
  .rw[out hj];rfl
theorem zwQ{a b:RW}(h:rLe (zhm a) (zhm b)):sLe a.nm b.nm:=by
 unfold rLe zhm at h;unfold zcX at h;by_cases e:b.nm=a.nm
 .rw[e];exact List.le_refl _
 .rw[if_neg e] at h;have h':sLt b.nm a.nm=false:=by
   cases z:sLt b.nm a.nm with
   | false=>rfl
   | true=>exact absurd (by rw[z]) h
  unfold sLt at h';rw[decide_eq_false_iff_not] at h';exact h'
theorem zqT{rows:List RW}{d:D}{μ:Mu}{Q:DK}(hl:zO μ d=some (rows.map zcR))(nd:(rows.map RW.nm).Nodup)(hz:rows.length < 64)(q:∀l,zdQ rows l->Q (.lst (l.map zcR)) μ):zeI [d] μ Q:=by
 refine zim (rows:=rows.map zhm) (.inl (by rw[hl,zpT])) (by rw[List.length_map];exact hz) (.inl fun r hr=>?_) (zow nd) fun rows' p s=>?_
 .obtain⟨t,_,rfl⟩:=List.mem_map.mp hr;exact⟨_,_,rfl⟩
 .obtain⟨l,p',rfl⟩:=zdi p;rw[<- zpT];refine q l ⟨p',?_⟩;rw[List.pairwise_map] at s;exact s.imp fun h=>zwQ h
set_option synthInstance.maxHeartbeats 4000000
set_option synthInstance.maxSize 100000
set_option maxHeartbeats 4000000
theorem zuu{ts:List TR}(nd:(ts.map trK).Nodup){a b:TR}(ha:a∈ts)(hb:b∈ts)(e:trK a=trK b):a=b:=by
 obtain⟨i,hi,rfl⟩:=List.getElem_of_mem ha;obtain⟨j,hj,rfl⟩:=List.getElem_of_mem hb;by_cases h:i=j
 .subst h;rfl
 .exfalso;have hk:(ts.map trK)[i]'(by simpa using hi)=(ts.map trK)[j]'(by simpa using hj):=by rw[List.getElem_map,List.getElem_map];exact e
  rcases Nat.lt_or_gt_of_ne h with z | z
  .exact(List.pairwise_iff_getElem.mp nd) i j _ _ z hk
  .exact(List.pairwise_iff_getElem.mp nd) j i _ _ z hk.symm
theorem ztO{a b:TR}(h:rLe (trL a) (trL b))(h':rLe (trL b) (trL a)):trK a=trK b:=by
 unfold rLe trL at h h';unfold zcX at h h';unfold trK;by_cases e:a.1=b.1
 .rw[if_pos e.symm] at h;rw[if_pos e] at h';unfold zcX at h h';by_cases e2:a.2.1=b.2.1
  .rw[e,e2]
  .exfalso;rw[if_neg (fun z=>e2 z.symm)] at h;rw[if_neg e2] at h';simp at h h';omega
 .exfalso;rw[if_neg (fun z=>e z.symm)] at h;rw[if_neg e] at h';simp at h h';exact e (zrj h' h)
structure Srt(ts l:List TR):Prop where
 p:List.Perm l ts
 s:l.Pairwise fun a b=>rLe (trL a) (trL b)
theorem Srt.uniq{ts l1 l2:List TR}(nd:(ts.map trK).Nodup)(h1:Srt ts l1)(h2:Srt ts l2):l1=l2 :=
 zhS (h1.p.trans h2.p.symm) h1.s h2.s fun a ha b hb x y=>zuu nd (h1.p.mem_iff.mp ha) (h1.p.mem_iff.mp hb) (ztO x y)
theorem zqo{ts:List TR}{d:D}{μ:Mu}{Q:DK}(hl:zO μ d=some (ts.map trD)\/d= .tup (ts.map trD))(nd:(ts.map trK).Nodup)(hz:ts.length < 64)(q:∀l,Srt ts l->Q (.lst (l.map trD)) μ):zeI [d] μ Q:=by
 refine zim (rows:=ts.map trL) (by rw[<- zu2];exact hl) (by rw[List.length_map];exact hz) (.inl fun r hr=>?_) (zpJ nd) fun rows' p s=>?_
 .obtain⟨t,_,rfl⟩:=List.mem_map.mp hr;exact⟨_,_,rfl⟩
 .obtain⟨ts',p',rfl⟩:=zdi p;rw[<- zu2];exact q ts' ⟨p',List.pairwise_map.mp s⟩
theorem zph{ts:List TR}{d:D}{k:Nat}{μ:Mu}{Q:DK}(hl:zO (zH μ k (.ins "Table" [] [])) d=some (ts.map trD)\/d= .tup (ts.map trD))(nd:(ts.map trK).Nodup)(hz:ts.length < 64)
  (q:∀l,Srt ts l->Q .non (zH μ k (.ins "Table" zdI [.lst (l.map trD)]))):zaE [.cell k,d] (zH μ k (.ins "Table" [] [])) Q:=by
 refine⟨rfl,?_⟩;show zdC _ _ _ _ _ _ _;unfold zdC;rw_mod_cast [];refine zqo hl nd hz fun l S=>?_
 rw_mod_cast [zah];exact⟨_, .refl _,q l S⟩
theorem zyr{ts:List TR}{d:D}{k:Nat}{μ:Mu}{Q:DK}(hk:μ k=none)(hl:zO (zH μ k (.ins "Table" [] [])) d=some (ts.map trD)\/d= .tup (ts.map trD))(nd:(ts.map trK).Nodup)(hz:ts.length < 64)
  (q:∀l,Srt ts l->Q (tbO l) μ):zaE [.cell k,d] (zH μ k (.ins "Table" [] [])) (fun d μ3=>d= .non/\ziH μ3 (.cell k) Q):=by
 refine zph hl nd hz fun l S=>⟨rfl,?_⟩
 rw[zry,zB,zhB,zd1 hk];exact q l S
theorem zx1(t:TR)(h:PyData.strOk t.1=true):SI 2 (trD t):=by
 intro d hd;simp only[List.mem_cons,List.not_mem_nil,or_false] at hd;rcases hd with rfl | rfl | rfl
 .exact h
 .trivial
 .intro e he;obtain⟨i,_,rfl⟩:=List.mem_map.mp he;trivial
theorem zuf{l:List TR}{μ:Mu}{Q:DK}(hl:l.length < 1000)(q:Q (.int l.length) μ):zav [tbO l] μ Q:=by
 refine⟨rfl,?_⟩;unfold tbO;rw_mod_cast [];rw[List.length_map];exact⟨_, .refl _,q⟩
theorem zsJ{l:List TR}{μ:Mu}{Q:DK}(hl:l.length < 1000)(q:∀c,μ c=none->Q (.cell c) (zH μ c (.lst (l.map trD)))):zbo [tbO l] μ Q:=by
 refine⟨rfl,?_⟩;unfold tbO;rw_mod_cast [];exact fun c hc=>⟨_, .refl _,q c hc⟩
set_option synthInstance.maxHeartbeats 4000000
set_option synthInstance.maxSize 100000
set_option maxHeartbeats 4000000
theorem zw6{a b:RW}(h:frO a=frO b):a.nm=b.nm:=by
 unfold frO zr3 at h;simp at h;exact h.1
theorem zjy:∀rows:List RW,zvo tab "name" (rows.map frO) (rows.map RW.nm)
 | []=> .nil
 | r::rows=> .cons ⟨"Frame",zcU,zr3 r,rfl,zcI,by
   show List.lookup (Str.ofString "name") ((Str.ofString "name",D.str r.nm)::_)=_;rw[List.lookup_cons,beq_self_eq_true]⟩ (zjy rows)
theorem zmy{rows:List RW}{μ:Mu}{Q:DK}(hl:rows.length < 64)(h0:μ 0=some zst)(q:∀l,zdQ rows l->Q (.lst (l.map frO)) μ):zct [.lst (rows.map frO)] μ Q:=by
 refine⟨rfl,?_⟩;show zbf _ _ _ _;unfold zm1;rw_mod_cast [];refine⟨h0,rows.map frO,rows.map RW.nm,rfl,by rw[List.length_map];exact hl,zjy rows,fun p pn sr=>⟨_, .refl _,?_⟩⟩;have ln:(rows.map frO).length=rows.length:=List.length_map ..;rw[ln] at pn sr;have pm:List.Perm (p.toList.map fun i=>(rows.map frO).getD i .non) (rows.map frO):=by
  have h1:List.Perm (p.toList.map fun i=>(rows.map frO).getD i .non) ((List.range rows.length).map fun i=>(rows.map frO).getD i .non):=List.Perm.map _ pn;have h2:((List.range rows.length).map fun i=>(rows.map frO).getD i .non)=rows.map frO:=by
   apply List.ext_getElem?;intro i;rw[List.getElem?_map];by_cases hi:i < rows.length
   .rw[List.getElem?_range hi,Option.map_some,List.getD_eq_getElem?_getD,List.getElem?_eq_getElem (by rw[ln];exact hi)];rfl
   .rw[List.getElem?_eq_none (by rw[List.length_range];omega),List.getElem?_eq_none (by rw[ln];omega)];rfl
  rw[h2] at h1;exact h1
 obtain⟨l,pl,el⟩:=zdi pm;rw[el];refine q l ⟨pl,?_⟩;have psz:p.toList.length=rows.length:=by rw[pn.length_eq,List.length_range]
 have at_:∀i (hi:i < l.length),∃(hj:gN p i < rows.length),l[i].nm=(rows[gN p i]).nm:=fun i hi=>by
  have hi2:i < p.toList.length:=by rw[psz,<- pl.length_eq];exact hi
  have eg:gN p i=p.toList[i]:=by
   rw[zgo];have:p[i]? = some p.toList[i]:=by rw[<- Array.getElem?_toList,List.getElem?_eq_getElem hi2]
   rw[this];rfl
  have hj:p.toList[i] < rows.length:=List.mem_range.mp (pn.mem_iff.mp (List.getElem_mem hi2));have e1:(l.map frO)[i]? = some (frO l[i]):=by rw[List.getElem?_map,List.getElem?_eq_getElem hi];rfl
  rw[<- el,List.getElem?_map,List.getElem?_eq_getElem hi2,Option.map_some,List.getD_eq_getElem?_getD,List.getElem?_map,List.getElem?_eq_getElem hj] at e1;refine⟨by rw[eg];exact hj,?_⟩;have:=zw6 (Option.some.inj e1);rw[<- this];simp only[eg]
 rw[List.pairwise_iff_getElem];intro i j hi hj hij;obtain⟨a1,a2⟩:=at_ i hi;obtain⟨b1,b2⟩:=at_ j hj;rw[a2,b2];have h:=sr i j hij (by rw[<- pl.length_eq];exact hj);unfold sAt at h;rw[List.getD_eq_getElem?_getD,List.getD_eq_getElem?_getD,List.getElem?_map,List.getElem?_map,List.getElem?_eq_getElem b1,List.getElem?_eq_getElem a1] at h;have h':sLt (rows[gN p j]).nm (rows[gN p i]).nm=false:=h;unfold sLt at h';rw[decide_eq_false_iff_not] at h';exact h'
set_option synthInstance.maxHeartbeats 4000000
set_option synthInstance.maxSize 100000
set_option maxHeartbeats 4000000
abbrev SP:=RW×Nat×Nat×Str
def spD(p:SP):D:= .tup [zcR p.1, .int p.2.1, .int p.2.2.1, .str p.2.2.2]
def zaW{α:Type}:List α->List α
 | _::x::r=>x::zaW r
 | _=>[]
def blk(r:RW)(k:Nat)(w:List Str):List SP:=(zaW w).zipIdx.map fun p=>(r,k,p.2,p.1)
def spR(r:RW):List SP:=(r.ways.zipIdx.map fun p=>blk r p.2 p.1).flatten
def zP(l:List RW):List SP:=(l.map spR).flatten
theorem zcV{α:Type}:∀(n:Nat) (l:List α),l.length=2*n+1->(zaW l).length=n
 | 0,[_],_=>rfl
 | 0,[],h=>by simp at h
 | 0,_::_::_,h=>by simp at h
 | n+1,[],h=>by simp at h
 | n+1,[_],h=>by simp at h
 | n+1,_::x::r,h=>by
  show(x::zaW r).length=n+1;rw[List.length_cons,zcV n r (by simp at h;omega)]
theorem zhY{α:Type}{m:Nat}:∀{L:List (List α)},(∀x∈L,x.length<=m)->L.flatten.length<=m*L.length
 | [],_=>by simp
 | x::L,h=>by
  have a:=h x (.head _);have b:=zhY (L:=L) fun y hy=>h y (.tail _ hy)
  rw[List.flatten_cons,List.length_append,List.length_cons,Nat.mul_succ];omega
theorem zj7{r:RW}{k:Nat}{w:List Str}(h:∃n,w.length=2*n+1/\1<=n/\n<=3):(blk r k w).length<=3:=by
 obtain⟨n,h1,_,h3⟩:=h;unfold blk;rw[List.length_map,List.length_zipIdx,zcV n w h1];exact h3
def wys(r:RW)(j:Nat):List SP:=((r.ways.zipIdx.take j).map fun p=>blk r p.2 p.1).flatten
theorem ztD{α:Type}{l:List α}{p:α×Nat}(h:p∈l.zipIdx):p.1∈l:=by
 have:=List.mem_zipIdx h;rw[this.2.2];exact List.getElem_mem _
theorem zjP{r:RW}{j:Nat}(h2:r.ways.length<=2)(hw:∀w∈r.ways,∃n,w.length=2*n+1/\1<=n/\n<=3):(wys r j).length<=6:=by
 have:=zhY (m:=3) (L:=(r.ways.zipIdx.take j).map fun p=>blk r p.2 p.1) fun x hx=>by
  obtain⟨p,hp,rfl⟩:=List.mem_map.mp hx;exact zj7 (hw _ (ztD (List.mem_of_mem_take hp)))
 rw[List.length_map,List.length_take,List.length_zipIdx] at this;unfold wys;omega
theorem zjQ(r:RW):wys r r.ways.length=spR r:=by
 unfold wys spR;rw[List.take_of_length_le (by rw[List.length_zipIdx];exact Nat.le_refl _)]
theorem zlg{r:RW}{j:Nat}{w:List Str}(h:r.ways[j]? = some w):wys r (j+1)=wys r j++blk r j w:=by
 unfold wys;rw[List.take_add_one,List.getElem?_zipIdx,h];simp
theorem zcS{l:List RW}(hw:∀r∈l,r.ways.length<=2/\∀w∈r.ways,∃n,w.length=2*n+1/\1<=n/\n<=3):(zP l).length<=6*l.length:=by
 have:=zhY (m:=6) (L:=l.map spR) fun x hx=>by
  obtain⟨r,hr,rfl⟩:=List.mem_map.mp hx;rw[<- zjQ];exact zjP (hw r hr).1 (hw r hr).2
 rw[List.length_map] at this;exact this
theorem zik{l:List RW}{i:Nat}{r:RW}(h:l[i]? = some r):zP (l.take (i+1))=zP (l.take i)++spR r:=by
 unfold zP;rw[List.take_add_one,h];simp
theorem zhg{w:List Str}(h:∃n,w.length=2*n+1/\1<=n/\n<=3):stepT (w.map D.str) (some 1) none 2=(zaW w).map D.str:=by
 obtain⟨n,h1,h2,h3⟩:=h;rcases(show n=1\/n=2\/n=3 by omega) with rfl | rfl | rfl
 .match w,h1 with
  | [a,b,c],_ =>
   unfold stepT;rw[show(List.map D.str [a,b,c]).length=3 from rfl,show Builtin.Slice.sliceAdjust (some 1) none 2 ((3:Nat):Int)=(1,3) from by decide+kernel];dsimp only;rw[show Builtin.Slice.slicePlaces 1 3 2=1 from by decide+kernel];rfl
 .match w,h1 with
  | [a,b,c,d,e],_ =>
   unfold stepT;rw[show(List.map D.str [a,b,c,d,e]).length=5 from rfl,show Builtin.Slice.sliceAdjust (some 1) none 2 ((5:Nat):Int)=(1,5) from by decide+kernel];dsimp only;rw[show Builtin.Slice.slicePlaces 1 5 2=2 from by decide+kernel];rfl
 .match w,h1 with
  | [a,b,c,d,e,f,g],_ =>
   unfold stepT;rw[show(List.map D.str [a,b,c,d,e,f,g]).length=7 from rfl,show Builtin.Slice.sliceAdjust (some 1) none 2 ((7:Nat):Int)=(1,7) from by decide+kernel];dsimp only;rw[show Builtin.Slice.slicePlaces 1 7 2=3 from by decide+kernel];rfl
theorem zlp{r:RW}{k h:Nat}{w:List Str}{x:Str}(e:(zaW w)[h]? = some x):(blk r k w).take (h+1)=(blk r k w).take h++[(r,k,h,x)]:=by
 unfold blk;rw[List.take_add_one,List.getElem?_map,List.getElem?_zipIdx,e];simp
theorem zlV{rows:List RW}{d:D}{μ:Mu}{Q:DK}(hl:zO μ d=some (rows.map zcR))(hd:∀c k,μ k=none->zO (zH μ k c) d=zO μ d)(nd:(rows.map RW.nm).Nodup)(hz:rows.length<=60)(hw:∀r∈rows,r.ways.length<=2/\∀w∈r.ways,∃n,w.length=2*n+1/\1<=n/\n<=3)
  (q:∀l,zdQ rows l->Q (.lst ((zP l).map spD)) μ):za7 [d] μ Q:=by
 refine⟨rfl,stp fun N1 k1=>?_⟩;rw_mod_cast [];refine⟨by decide,fun c hc=>k1 _ _ ?_⟩;refine stp fun N2 k2=>?_
 rw_mod_cast [];refine zqT (by rw[hd _ _ hc];exact hl) nd (by omega) fun l S=>?_
 rw_mod_cast [];refine zaP (fun i ρ μ'=>∃x2 x3 x4 x5 x6:Option D,ρ=[some d,some (.cell c),x2,x3,x4,x5,x6]/\μ'=zH μ c (.lst ((zP (l.take i)).map spD))) ⟨none,none,none,none,none,rfl,rfl⟩ ?_ ?_
 .rintro i e ρ μ' he ⟨x2,x3,x4,x5,x6,rfl,rfl⟩ N hN;rw[List.getElem?_map] at he;obtain⟨r,hr,rfl⟩:=Option.map_eq_some_iff.mp he;unfold zcR;rw_mod_cast [zcz,zia,zq6];have hm:r∈rows:=S.p.mem_iff.mp (List.mem_of_getElem? hr);have il:i < l.length:=(List.getElem?_eq_some_iff.mp hr).1;have ll:l.length=rows.length:=S.p.length_eq;have bi:(zP (l.take i)).length<=6*i:=by
   have:=zcS (l:=l.take i) fun r hr=>hw r (S.p.mem_iff.mp (List.mem_of_mem_take hr))
   rw[List.length_take] at this;omega
  refine zaP (fun j ρ μ'=>∃x3 x4 x5 x6:Option D,ρ=[some d,some (.cell c),some (.tup [.str r.nm, .tup (r.ways.map zb6), .int r.e, .int r.lo, .int r.re, .int r.lst]),x3,x4,x5,x6]/\μ'=zH μ c (.lst ((zP (l.take i)++wys r j).map spD))) ⟨x3,x4,x5,x6,rfl,by unfold wys;simp⟩ ?_ ?_
  .rintro j e ρ μ' he ⟨x3,x4,x5,x6,rfl,rfl⟩ N3 hN3;obtain⟨e2,he2,rfl⟩:=zcY he;rw[List.getElem?_map] at he2;obtain⟨w,hwj,rfl⟩:=Option.map_eq_some_iff.mp he2;unfold zb6 zqs;rw_mod_cast [zcz,zia,dSt];have hww:=(hw r hm).2 w (List.mem_of_getElem? hwj);have bw:(wys r j).length<=6:=zjP (hw r hm).1 (hw r hm).2;have bb:=zj7 (r:=r) (k:=j) hww;have bo:(zaW w).length<=3:=by
    have:(blk r j w).length=(zaW w).length:=by unfold blk;rw[List.length_map,List.length_zipIdx]
    omega
   have hz1:(1001:Nat)<=sizeLine:=by decide
   rw[zhg hww];refine⟨⟨by decide,by decide,by rw[List.length_map];omega⟩,?_⟩;rw[zq6];refine zaP (fun h ρ μ'=>∃x5 x6:Option D,ρ=[some d,some (.cell c),some (.tup [.str r.nm, .tup (r.ways.map zb6), .int r.e, .int r.lo, .int r.re, .int r.lst]),some (.int j),some (.tup (w.map D.str)),x5,x6]/\μ'=zH μ c (.lst ((zP (l.take i)++wys r j++(blk r j w).take h).map spD))) ⟨x5,x6,rfl,by simp⟩ ?_ ?_
   .rintro h e ρ μ' he3 ⟨x5,x6,rfl,rfl⟩ N4 hN4;obtain⟨e3,he4,rfl⟩:=zcY he3;rw[List.getElem?_map] at he4;obtain⟨x,hx,rfl⟩:=Option.map_eq_some_iff.mp he4;have b4:(List.take h (blk r j w)).length<=3:=by rw[List.length_take];omega
    rw_mod_cast [zah];refine⟨by omega,by simp only[List.length_map,List.length_append];omega,hN4 _ _ ⟨_,_,rfl,?_⟩⟩;rw[zlp hx,<- List.append_assoc,List.map_append (l₂:=[_])];rfl
   .rintro ρ μ' ⟨x5,x6,rfl,rfl⟩;refine hN3 _ _ ⟨_,_,_,_,rfl,?_⟩;have eb:(zfk ((zaW w).map D.str)).length=(blk r j w).length:=by
     rw[zbx,List.length_map];unfold blk;rw[List.length_map,List.length_zipIdx]
    rw[eb,List.take_of_length_le (Nat.le_refl _),zlg hwj,List.append_assoc]
  .rintro ρ μ' ⟨x3,x4,x5,x6,rfl,rfl⟩;rw[zbx,List.length_map,zjQ];refine hN _ _ ⟨_,_,_,_,_,rfl,?_⟩;rw[zik hr]
 .rintro ρ μ' ⟨x2,x3,x4,x5,x6,rfl,rfl⟩;rw[List.length_map,List.take_of_length_le (Nat.le_refl _)];refine k2 _ _ ?_;rw_mod_cast [zd1 hc];exact⟨_, .refl _,q l S⟩
set_option synthInstance.maxHeartbeats 4000000
set_option synthInstance.maxSize 100000
set_option maxHeartbeats 4000000
theorem zk6:∀(i:Nat) (w:List Str),(zaW w)[i]? = w[2*i+1]?
 | _,[]=>by simp[zaW]
 | _,[_]=>by simp[zaW]
 | 0,_::x::r=>rfl
 | i+1,_::x::r=>by
  show(zaW r)[i]? = _;rw[zk6 i r,show 2*(i+1)+1=(2*i+1)+1+1 from by omega,List.getElem?_cons_succ,List.getElem?_cons_succ]
theorem zhX{α:Type}{g:DG}{we:DE}{ρb:zX}{μ:Mu}{Fin:List D->Mu->Prop}{Pm:Mu->Prop}(xs:List α)(f f':α->D)(hl:xs.length<=1000)(step:∀x∈xs,∀Q:DK,Q (f' x) μ->g (f x) ρb μ fun ρ2 μ2=>we ρ2 μ2 Q)(fin:Fin (xs.map f') μ)(hP:Pm μ:=by exact trivial):zbe g zcO we ρb Pm Fin (xs.map f) [] μ:=by
 have hz:(1001:Nat)<=sizeLine:=by decide
 refine zbd (fun i ys μ'=>μ'=μ/\ys=(xs.take i).map f') ⟨rfl,rfl⟩ ?_ ?_ (fun i ys μ' h=>h.1▸hP)
 .rintro i d ys μ' hd ⟨rfl,rfl⟩;rw[List.getElem?_map] at hd;obtain⟨x,hx,rfl⟩:=Option.map_eq_some_iff.mp hd;have hi:=(List.getElem?_eq_some_iff.mp hx).1;refine⟨by rw[List.length_map,List.length_take];omega,fun N hN=>step x (List.mem_of_getElem? hx) _ (hN _ _ ⟨rfl,?_⟩)⟩;rw[List.take_add_one,hx,List.map_append];rfl
 .rintro ys μ' ⟨rfl,rfl⟩;rw[List.length_map,List.take_of_length_le (Nat.le_refl _)];exact fin
abbrev zlG(w:List Str):Prop:=∃n,w.length=2*n+1/\1<=n/\n<=3
theorem zlG.o{w:List Str}(h:zlG w):(zaW w).length<=3:=by
 obtain⟨n,h1,_,h3⟩:=h;rw[zcV n w h1];exact h3
theorem zr6{w:List Str}{μ:Mu}{Q:DK}(h:zlG w)(q:Q (.tup ((zaW w).map D.str)) μ):zb8 [.tup (w.map D.str)] μ Q:=by
 have hz:(1000:Nat)<=sizeLine:=by decide
 have:=h.o;refine⟨rfl,?_⟩;show zbf _ _ _ _;unfold zqs dSt;rw_mod_cast [];rw[zhg h];exact⟨⟨by decide,by decide,by rw[List.length_map];omega⟩,_, .refl _,q⟩
set_option synthInstance.maxHeartbeats 4000000
set_option synthInstance.maxSize 100000
set_option maxHeartbeats 4000000
theorem zq0{ho ga ns:List Str}{ls:List LR}{sl:Int}{r:RW}(R:zex ho ga ns ls sl r):r.ways≠[]/\r.ways.length<=2/\∀w∈r.ways,(∃k,w.length=2*k+1/\1<=k/\k<=3)/\∀x∈zaW w,x∈ls.map LR.nm:=by
 have one:∀{bd first k w},Way ho ga ns ls bd first k (2*k) w->1<=k->k<=3->(∃k,w.length=2*k+1/\1<=k/\k<=3)/\∀x∈zaW w,x∈ls.map LR.nm:=fun{bd first k w} W a b=>by
  refine⟨⟨k,W.len,a,b⟩,fun x hx=>?_⟩;obtain⟨i,hi⟩:=List.mem_iff_getElem?.mp hx;have hlt:=(List.getElem?_eq_some_iff.mp hi).1;rw[zcV k w W.len] at hlt;rw[zk6] at hi;have wl:=W.len;have j0:2*i < w.length:=by omega
  have j2:2*i+2 < w.length:=by omega
  obtain⟨q,hq,en,_⟩:=W.jn i _ x _ (List.getElem?_eq_getElem j0) hi (List.getElem?_eq_getElem j2);rw[<- en];exact List.mem_map_of_mem hq
 obtain⟨first,last,w1,k1,hf,hl,hfl,k11,k13,W1,e1,hw⟩:=R.way;rcases hw with e | ⟨w2,k2,e,b1,b3,W2,e2⟩
 .rw[e];refine⟨by simp,by simp,fun w hw=>?_⟩;rw[List.mem_singleton.mp hw];exact one W1 k11 k13
 .rw[e];refine⟨by simp,by simp,fun w hw=>?_⟩;rcases List.mem_cons.mp hw with rfl | hw
  .exact one W1 k11 k13
  .rw[List.mem_singleton.mp hw];exact one W2 b1 b3
theorem zmg{rows:List RW}{μ:Mu}{Q:DK}(hl:rows.length<=60)(F:∀r∈rows,zpB r)(q:Q (.lst (rows.map frO)) μ):zbt [.lst (rows.map zcR)] μ Q:=by
 refine⟨rfl,?_⟩;rw_mod_cast [];refine⟨by decide,zhX rows zcR frO (by omega) (fun r hr Q1 q1=>?_) ⟨_, .refl _,q⟩⟩;rw_mod_cast [];exact zoV (F r hr) q1
set_option synthInstance.maxHeartbeats 4000000
set_option synthInstance.maxSize 100000
set_option maxHeartbeats 4000000
section
variable{μ:Mu}{Q:DK}
def opD(p:SP):D:= .tup [.str p.1.nm, .int p.2.1, .int p.2.2.1]
theorem zsz{rows:List RW}(hz:rows.length<=60)(hw:∀r∈rows,r.ways.length<=2/\∀w∈r.ways,zlG w)(h0:μ 0=some zst)(q:∀l,zdQ rows l->Q (.lst ((zP l).map opD)) μ):zd2 [.lst (rows.map frO)] μ Q:=by
 have hzz:(1000:Nat)<=sizeLine:=by decide
 refine⟨rfl,?_⟩;rw_mod_cast [zmW,zpi,zsG];refine⟨by decide,zmy (by omega) h0 fun l S=>?_⟩;rw_mod_cast [];have hwl:∀r∈l,r.ways.length<=2/\∀w∈r.ways,zlG w:=fun r hr=>hw r (S.p.mem_iff.mp hr)
 have ll:l.length=rows.length:=S.p.length_eq;refine zfI (fun i ys μ'=>μ'=μ/\ys=(zP (l.take i)).map opD) ⟨rfl,rfl⟩ ?_ ?_
 .rintro i d ys μ1 hd ⟨rfl,rfl⟩ N hN;rw[List.getElem?_map] at hd;obtain⟨r,hr,rfl⟩:=Option.map_eq_some_iff.mp hd;have bi:(zP (l.take i)).length<=6*i:=by
   have:=zcS (l:=l.take i) fun r hr=>hwl r (List.mem_of_mem_take hr)
   rw[List.length_take] at this;omega
  unfold frO zr3;rw_mod_cast [zpi];refine⟨by decide,?_⟩;rw_mod_cast [zcz,zia];rw[zq6];have hm:=List.mem_of_getElem? hr;refine zfI (fun j ys μ'=>μ'=μ1/\ys=(zP (l.take i)++wys r j).map opD) ⟨rfl,by unfold wys;simp⟩ ?_ ?_
  .rintro j e ys μ2 he ⟨rfl,rfl⟩ N3 hN3;obtain⟨e2,he2,rfl⟩:=zcY he;rw[List.getElem?_map] at he2;obtain⟨w,hwj,rfl⟩:=Option.map_eq_some_iff.mp he2;have hww:=(hwl r hm).2 w (List.mem_of_getElem? hwj);have bw:(wys r j).length<=6:=zjP (hwl r hm).1 (hwl r hm).2;have bb:=zj7 (r:=r) (k:=j) hww;have bo:(zaW w).length=(blk r j w).length:=by unfold blk;rw[List.length_map,List.length_zipIdx]
   unfold zb6;rw_mod_cast [zpi,zsG];refine⟨by decide,zr6 hww ?_⟩;have o3:=hww.o;rw_mod_cast [List.length_map];refine⟨by omega,by omega,?_⟩;refine zfI (fun h ys μ'=>μ'=μ2/\ys=(zP (l.take i)++wys r j++(blk r j w).take h).map opD) ⟨rfl,by simp⟩ ?_ ?_
   .rintro h e ys μ3 he3 ⟨rfl,rfl⟩ N4 hN4;obtain⟨h3,rfl⟩:=zbn he3;have hlt:h < (zaW w).length:=by omega
    have b4:(List.take h (blk r j w)).length<=3:=by rw[List.length_take];omega
    rw_mod_cast [zsG];have il:i < l.length:=(List.getElem?_eq_some_iff.mp hr).1;refine⟨by simp only[List.length_map,List.length_append];omega,?_⟩;refine⟨by omega,hN4 _ _ ⟨rfl,?_⟩⟩;rw[zlp (List.getElem?_eq_getElem hlt),<- List.append_assoc,List.map_append (l₂:=[_]),Int.zero_add];rfl
   .rintro ys μ3 ⟨rfl,rfl⟩;rw[List.length_map,zaY,Int.toNat_natCast,bo,List.take_of_length_le (Nat.le_refl _)];exact hN3 _ _ ⟨rfl,by rw[zlg hwj,List.append_assoc]⟩
  .rintro ys μ2 ⟨rfl,rfl⟩;rw[zbx,List.length_map,zjQ];exact hN _ _ ⟨rfl,by rw[zik hr]⟩
 .rintro ys μ1 ⟨rfl,rfl⟩;rw[List.length_map,List.take_length];exact⟨_, .refl _,q l S⟩
end
set_option synthInstance.maxHeartbeats 4000000
set_option synthInstance.maxSize 100000
set_option maxHeartbeats 4000000
abbrev TW:=RW×Nat×List Str
def twB(t:TW):List SP:=blk t.1 t.2.1 t.2.2
def twR(r:RW):List TW:=r.ways.zipIdx.map fun p=>(r,p.2,p.1)
def tws(l:List RW):List TW:=(l.map twR).flatten
theorem zd6(l:List RW):zP l=((tws l).map twB).flatten:=by
 unfold zP tws;induction l with
 | nil=>rfl
 | cons r l ih =>
  rw[List.map_cons,List.flatten_cons,List.map_cons,List.flatten_cons,List.map_append,List.flatten_append,<- ih];congr 1
  unfold spR twR;rw[List.map_map];rfl
abbrev BW:=TW×List Int
theorem zxS:∀(ts:List TW) (vs:List Int),vs.length=((ts.map twB).flatten).length->∃B:List BW,B.map Prod.fst=ts/\(∀b∈B,b.2.length=(twB b.1).length)/\((ts.map twB).flatten).zip vs=(B.map fun b=>(twB b.1).zip b.2).flatten
 | [],vs,_=>⟨[],rfl,(fun b hb=>by cases hb),by simp⟩
 | t::ts,vs,h=>by
  rw[List.map_cons,List.flatten_cons,List.length_append] at h;obtain⟨B,e1,e2,e3⟩:=zxS ts (vs.drop (twB t).length) (by rw[List.length_drop];omega);have el:(vs.take (twB t).length).length=(twB t).length:=by rw[List.length_take];omega
  refine⟨(t,vs.take (twB t).length)::B,by rw[List.map_cons,e1],fun b hb=>?_,?_⟩
  .rcases List.mem_cons.mp hb with rfl | hb
   .exact el
   .exact e2 b hb
  .rw[List.map_cons,List.flatten_cons,List.map_cons,List.flatten_cons,<- e3];conv=>lhs;rw[<- List.take_append_drop (twB t).length vs]
   exact List.zip_append el.symm
def grp(ts:List TR)(p:SP×Int):List TR:=if p.1.2.2.1=0 then ts++[(p.1.1.nm,(p.1.2.1:Int),[p.2])] else match ts.getLast? with
 | some t=>ts.dropLast++[(t.1,t.2.1,t.2.2++[p.2])]
 | none=>ts
theorem zk3{r:RW}{k:Nat}{ts:List TR}:∀(o:List Str) (j:Nat) (us vs:List Int),1<=j->vs.length=o.length->(((o.zipIdx j).map fun p=>((r,k,p.2,p.1):SP)).zip vs).foldl grp (ts++[(r.nm,(k:Int),us)])=ts++[(r.nm,(k:Int),us++vs)]
 | [],j,us,vs,_,h=>by
  have:vs=[]:=List.length_eq_zero_iff.mp h;subst this;simp
 | x::o,j,us,[],_,h=>by simp at h
 | x::o,j,us,v::vs,hj,h=>by
  rw[List.zipIdx_cons,List.map_cons,List.zip_cons_cons,List.foldl_cons];have e:grp (ts++[(r.nm,(k:Int),us)]) (((r,k,j,x):SP),v)=ts++[(r.nm,(k:Int),us++[v])]:=by
   unfold grp;rw[if_neg (show ¬ j=0 by omega)];simp
  rw[e,zk3 o (j+1) (us++[v]) vs (by omega) (by simpa using h)];simp
theorem ztq{t:TW}{vs:List Int}{ts:List TR}(h:vs.length=(twB t).length)(h1:1<=(zaW t.2.2).length):((twB t).zip vs).foldl grp ts=ts++[(t.1.nm,(t.2.1:Int),vs)]:=by
 unfold twB blk at *;cases ho:zaW t.2.2 with
 | nil=>rw[ho] at h1;simp at h1
 | cons x o =>
  rw[ho] at h;cases vs with
  | nil=>simp at h
  | cons v vs =>
   rw[List.zipIdx_cons,List.map_cons,List.zip_cons_cons,List.foldl_cons];have e:grp ts (((t.1,t.2.1,0,x):SP),v)=ts++[(t.1.nm,(t.2.1:Int),[v])]:=by unfold grp;rw[if_pos rfl]
   rw[e,zk3 o 1 [v] vs (Nat.le_refl _) (by simpa using h)];rfl
theorem znz:∀{B:List BW} {ts:List TR},(∀b∈B,b.2.length=(twB b.1).length/\1<=(zaW b.1.2.2).length)->((B.map fun b=>(twB b.1).zip b.2).flatten).foldl grp ts=ts++B.map fun b=>(b.1.1.nm,(b.1.2.1:Int),b.2)
 | [],ts,_=>by simp
 | b::B,ts,h=>by
  rw[List.map_cons,List.flatten_cons,List.foldl_append,ztq (h b (.head _)).1 (h b (.head _)).2,znz fun b hb=>h b (.tail _ hb)];simp
theorem zg9{r:RW}{t:TW}:t∈twR r↔t.1=r/\r.ways[t.2.1]? = some t.2.2:=by
 unfold twR;rw[List.mem_map];constructor
 .rintro⟨p,hp,rfl⟩;exact⟨rfl,(List.mem_zipIdx_iff_getElem?.mp hp)⟩
 .rintro⟨rfl,h⟩;exact⟨(t.2.2,t.2.1),List.mem_zipIdx_iff_getElem?.mpr h,rfl⟩
theorem zkQ{l:List RW}{t:TW}:t∈tws l↔t.1∈l/\t.1.ways[t.2.1]? = some t.2.2:=by
 unfold tws;rw[List.mem_flatten];constructor
 .rintro⟨x,hx,ht⟩;obtain⟨r,hr,rfl⟩:=List.mem_map.mp hx;obtain⟨rfl,h⟩:=zg9.mp ht;exact⟨hr,h⟩
 .rintro⟨hr,h⟩;exact⟨_,List.mem_map_of_mem hr,zg9.mpr ⟨rfl,h⟩⟩
theorem zvw{l:List RW}(nd:(l.map RW.nm).Nodup):(tws l).Pairwise fun a b=>a.1.nm=b.1.nm->a.2.1 < b.2.1:=by
 unfold tws;rw[List.pairwise_flatten];refine⟨fun x hx=>?_,?_⟩
 .obtain⟨r,hr,rfl⟩:=List.mem_map.mp hx;unfold twR;rw[List.pairwise_map,List.pairwise_iff_getElem];intro i j hi hj hij _;simpa using hij
 .rw[List.pairwise_map];have:l.Pairwise fun a b=>a.nm≠b.nm:=List.pairwise_map.mp nd
  refine this.imp fun hne x hx y hy e=>?_
  obtain⟨rfl,_⟩:=zg9.mp hx;obtain⟨rfl,_⟩:=zg9.mp hy;exact absurd e hne
set_option synthInstance.maxHeartbeats 4000000
set_option synthInstance.maxSize 100000
set_option maxHeartbeats 4000000
def kOf(p:SP×Int):zaO:=[.inr p.1.1.nm, .inl (p.1.2.1:Int)]
def zbD:List TR->SP×Int->List TR
 | [],p=>[(p.1.1.nm,(p.1.2.1:Int),[p.2])]
 | t::r,p=>if trK t=kOf p then(t.1,t.2.1,t.2.2++[p.2])::r else t::zbD r p
def zgf:List TR->SP×Int->List Int
 | [],_=>[]
 | t::r,p=>if trK t=kOf p then t.2.2 else zgf r p
theorem zjG{p:SP×Int}:∀{ts:List TR},(zcc (ts.map trK) (ts.map trV) (kOf p)).getD (.tup [])= .tup ((zgf ts p).map D.int)
 | []=>rfl
 | t::r=>by
  rw[List.map_cons,List.map_cons,zcc,zgf];by_cases h:trK t=kOf p
  .rw[if_pos h,if_pos h];rfl
  .rw[if_neg h,if_neg h];exact zjG
theorem zmq{p:SP×Int}:∀{ts:List TR},(zbD ts p).map trK=zfi (ts.map trK) (kOf p)
 | []=>by unfold zfi;rw[if_neg (by simp)];rfl
 | t::r=>by
  have ih:=zmq (p:=p) (ts:=r);unfold zfi at *;rw[zbD,List.map_cons];by_cases h:trK t=kOf p
  .rw[if_pos h,if_pos (by rw[h];exact List.mem_cons_self),List.map_cons];rfl
  .rw[if_neg h,List.map_cons,ih];by_cases m:kOf p∈r.map trK
   .rw[if_pos m,if_pos (List.mem_cons_of_mem _ m)]
   .rw[if_neg m,if_neg (fun z=>by rcases List.mem_cons.mp z with z | z;exact h z.symm;exact m z)];rfl
theorem zuQ{k:zaO}{v:D}:∀{ts:List TR},k∉ts.map trK->List.zipWith (fun k' v'=>if k'=k then v else v') (ts.map trK) (ts.map trV)=ts.map trV
 | [],_=>rfl
 | t::r,h=>by
  rw[List.map_cons,List.mem_cons,not_or] at h;rw[List.map_cons,List.map_cons,List.zipWith_cons_cons,if_neg (fun z=>h.1 z.symm),zuQ h.2]
theorem zsw{p:SP×Int}:∀{ts:List TR},(ts.map trK).Nodup->(zbD ts p).map trV=zhZ (ts.map trK) (ts.map trV) (kOf p) (.tup ((zgf ts p++[p.2]).map D.int))
 | [],_=>by unfold zhZ;rw[if_neg (by simp)];rfl
 | t::r,nd=>by
  rw[List.map_cons,List.nodup_cons] at nd;have ih:=zsw (p:=p) nd.2;unfold zhZ at *;rw[zbD,zgf,List.map_cons,List.map_cons];by_cases h:trK t=kOf p
  .rw[if_pos h,if_pos h,if_pos (by rw[h];exact List.mem_cons_self),List.zipWith_cons_cons,if_pos h,zuQ (h▸nd.1)];rfl
  .rw[if_neg h,if_neg h,List.map_cons,ih];by_cases m:kOf p∈r.map trK
   .rw[if_pos m,if_pos (List.mem_cons_of_mem _ m),List.zipWith_cons_cons,if_neg h]
   .rw[if_neg m,if_neg (fun z=>by rcases List.mem_cons.mp z with z | z;exact h z.symm;exact m z)];rfl
theorem zui{p:SP×Int}{ts:List TR}(nd:(ts.map trK).Nodup):((zbD ts p).map trK).Nodup:=by
 rw[zmq];unfold zfi;by_cases m:kOf p∈ts.map trK
 .rw[if_pos m];exact nd
 .rw[if_neg m];exact List.nodup_append.mpr ⟨nd,by simp,fun a ha b hb=>by rw[List.mem_singleton.mp hb];exact fun z=>m (z▸ha)⟩
theorem zlW{p:SP×Int}:∀{ts:List TR},(zbD ts p).length<=ts.length+1
 | []=>by simp[zbD]
 | t::r=>by
  rw[zbD];split
  .simp
  .have:=zlW (p:=p) (ts:=r);simp;omega
theorem zlZ{p:SP×Int}{n:Nat}:∀{ts:List TR},(∀t∈ts,t.2.2.length<=n)->(zgf ts p).length<=n
 | [],_=>by simp[zgf]
 | t::r,h=>by
  rw[zgf];split
  .exact h t List.mem_cons_self
  .exact zlZ fun x hx=>h x (List.mem_cons_of_mem _ hx)
theorem zmb{p:SP×Int}{n:Nat}:∀{ts:List TR},(∀t∈ts,t.2.2.length<=n)->∀t∈zbD ts p,t.2.2.length<=n+1
 | [],_,t,ht=>by
  rw[zbD,List.mem_singleton] at ht;subst ht;simp
 | u::r,h,t,ht=>by
  rw[zbD] at ht;split at ht
  .rcases List.mem_cons.mp ht with rfl | ht
   .have:=h u List.mem_cons_self;simp;exact this
   .have:=h t (List.mem_cons_of_mem _ ht);omega
  .rcases List.mem_cons.mp ht with rfl | ht
   .have:=h t List.mem_cons_self;omega
   .exact zmb (fun x hx=>h x (List.mem_cons_of_mem _ hx)) t ht
theorem zl9{p:SP×Int}:∀{ts:List TR},kOf p∉ts.map trK->zbD ts p=ts++[(p.1.1.nm,(p.1.2.1:Int),[p.2])]
 | [],_=>rfl
 | t::r,h=>by
  rw[List.map_cons,List.mem_cons,not_or] at h;rw[zbD,if_neg (fun z=>h.1 z.symm),zl9 h.2];rfl
theorem zjf{p:SP×Int}{us:List Int}:∀{ts:List TR},kOf p∉ts.map trK->zbD (ts++[(p.1.1.nm,(p.1.2.1:Int),us)]) p=ts++[(p.1.1.nm,(p.1.2.1:Int),us++[p.2])]
 | [],_=>if_pos (show trK (p.1.1.nm,(p.1.2.1:Int),us)=kOf p from rfl)
 | t::r,h=>by
  rw[List.map_cons,List.mem_cons,not_or] at h;rw[List.cons_append,zbD,if_neg (fun z=>h.1 z.symm),zjf h.2];rfl
theorem zjc{r:RW}{k:Nat}{ts:List TR}(hk:([.inr r.nm, .inl (k:Int)]:zaO)∉ts.map trK):∀(o:List Str) (j:Nat) (us vs:List Int),vs.length=o.length->(((o.zipIdx j).map fun p=>((r,k,p.2,p.1):SP)).zip vs).foldl zbD (ts++[(r.nm,(k:Int),us)])=ts++[(r.nm,(k:Int),us++vs)]
 | [],j,us,vs,h=>by
  have:vs=[]:=List.length_eq_zero_iff.mp h;subst this;simp
 | x::o,j,us,[],h=>by simp at h
 | x::o,j,us,v::vs,h=>by
  rw[List.zipIdx_cons,List.map_cons,List.zip_cons_cons,List.foldl_cons];rw[zjf (p:=(((r,k,j,x):SP),v)) hk,zjc hk o (j+1) (us++[v]) vs (by simpa using h)];simp
theorem zp2{t:TW}{vs:List Int}{ts:List TR}(h:vs.length=(twB t).length)(h1:1<=(zaW t.2.2).length)(hk:([.inr t.1.nm, .inl (t.2.1:Int)]:zaO)∉ts.map trK):((twB t).zip vs).foldl zbD ts=ts++[(t.1.nm,(t.2.1:Int),vs)]:=by
 unfold twB blk at *;cases ho:zaW t.2.2 with
 | nil=>rw[ho] at h1;simp at h1
 | cons x o =>
  rw[ho] at h;cases vs with
  | nil=>simp at h
  | cons v vs =>
   rw[List.zipIdx_cons,List.map_cons,List.zip_cons_cons,List.foldl_cons];rw[zl9 (p:=(((t.1,t.2.1,0,x):SP),v)) hk,zjc hk o 1 [v] vs (by simpa using h)];rfl
theorem zlM:∀{B:List BW} {ts:List TR},(∀b∈B,b.2.length=(twB b.1).length/\1<=(zaW b.1.2.2).length)->((B.map fun b=>b.1).Pairwise fun a b=>a.1.nm=b.1.nm->a.2.1 < b.2.1)->(∀b∈B,([.inr b.1.1.nm, .inl (b.1.2.1:Int)]:zaO)∉ts.map trK) ->
  ((B.map fun b=>(twB b.1).zip b.2).flatten).foldl zbD ts=ts++B.map fun b=>(b.1.1.nm,(b.1.2.1:Int),b.2)
 | [],ts,_,_,_=>by simp
 | b::B,ts,h,pw,hk=>by
  obtain⟨p1,p2⟩:=List.pairwise_cons.mp (by rw[List.map_cons] at pw;exact pw);rw[List.map_cons,List.flatten_cons,List.foldl_append,zp2 (h b (.head _)).1 (h b (.head _)).2 (hk b (.head _)),zlM (fun b hb=>h b (.tail _ hb)) p2 fun c hc=>?_]
  .simp
  .rw[List.map_append,List.mem_append,not_or];refine⟨hk c (.tail _ hc),fun z=>?_⟩;have:=p1 c.1 (List.mem_map_of_mem hc);simp[trK] at z;have:=this z.1.symm;omega
theorem zpm{l:List RW}{vs:List Int}(nd:(l.map RW.nm).Nodup)(hv:vs.length=(zP l).length)(h1:∀t∈tws l,1<=(zaW t.2.2).length) :
  ((zP l).zip vs).foldl zbD []=((zP l).zip vs).foldl grp []/\(((zP l).zip vs).foldl zbD []).length=(tws l).length/\∀t∈((zP l).zip vs).foldl zbD [],∃r∈l,t.1=r.nm:=by
 obtain⟨B,e1,e2,e3⟩:=zxS (tws l) vs (by rw[<- zd6];exact hv);rw[<- zd6] at e3;have hB:∀b∈B,b.2.length=(twB b.1).length/\1<=(zaW b.1.2.2).length:=fun b hb=>⟨e2 b hb,h1 b.1 (by rw[<- e1];exact List.mem_map_of_mem hb)⟩
 rw[e3,znz hB,zlM hB (by rw[show(B.map fun b=>b.1)=B.map Prod.fst from rfl,e1];exact zvw nd) (by simp)];refine⟨rfl,by rw[List.nil_append,List.length_map,<- e1,List.length_map],fun t ht=>?_⟩;rw[List.nil_append] at ht;obtain⟨b,hb,rfl⟩:=List.mem_map.mp ht;exact⟨b.1.1,(zkQ.mp (by rw[<- e1];exact List.mem_map_of_mem hb)).1,rfl⟩
theorem ztB{l:List RW}:((tws l).length:Int)=(l.map fun r=>(r.ways.length:Int)).sum:=by
 unfold tws;induction l with
 | nil=>rfl
 | cons r l ih =>
  rw[List.map_cons,List.flatten_cons,List.length_append,List.map_cons,List.sum_cons,<- ih];unfold twR;rw[List.length_map,List.length_zipIdx];omega
theorem zrK{l l':List Int}(h:List.Perm l l'):l.sum=l'.sum:=by
 induction h with
 | nil=>rfl
 | cons a _ ih=>rw[List.sum_cons,List.sum_cons,ih]
 | swap a b l=>rw[List.sum_cons,List.sum_cons,List.sum_cons,List.sum_cons];omega
 | trans _ _ a b=>exact a.trans b
set_option synthInstance.maxHeartbeats 4000000
set_option synthInstance.maxSize 100000
set_option maxHeartbeats 4000000
theorem ztW{r:RW}{μ:Mu}{Q:DK}:dIx (zcR r) (.int 0) μ Q=Q (.str r.nm) μ:=by unfold zcR;rw[znO];rfl
structure GI(i:Nat)(ts:List TR):Prop where
 l:ts.length<=i
 s:∀t∈ts,t.2.2≠[]/\t.2.2.length<=i
 n:1<=i->ts≠[]
theorem GI.step{i:Nat}{ts:List TR}{p:SP×Int}(h:GI i ts)(hp:p.1.2.2.1=0\/1<=i):GI (i+1) (grp ts p):=by
 unfold grp;by_cases e:p.1.2.2.1=0
 .rw[if_pos e];refine⟨by have:=h.l;simp;omega,fun t ht=>?_,fun _=>by simp⟩;rcases List.mem_append.mp ht with ht | ht
  .exact⟨(h.s t ht).1,by have:=(h.s t ht).2;omega⟩
  .rw[List.mem_singleton.mp ht];exact⟨by simp,by simp⟩
 .rw[if_neg e];have hi:=hp.resolve_left e;have hn:=h.n hi;rw[List.getLast?_eq_some_getLast hn];refine⟨?_,fun t ht=>?_,fun _=>by simp⟩
  .have:=h.l;have:=List.length_pos_iff.mpr hn;simp;omega
  .rcases List.mem_append.mp ht with ht | ht
   .have hm:=(List.dropLast_sublist ts).subset ht;exact⟨(h.s t hm).1,by have:=(h.s t hm).2;omega⟩
   .rw[List.mem_singleton.mp ht];have:=(h.s _ (List.getLast_mem hn)).2;exact⟨by simp,by simp;omega⟩
theorem zjr{l:List RW}{p:SP}(hw:∀t∈tws l,1<=(zaW t.2.2).length)(h:(zP l)[0]? = some p):p.2.2.1=0:=by
 rw[zd6] at h;cases hT:tws l with
 | nil=>rw[hT] at h;simp at h
 | cons t ts =>
  rw[hT,List.map_cons,List.flatten_cons] at h;have h1:=hw t (by rw[hT];exact .head _);unfold twB blk at h;cases ho:zaW t.2.2 with
  | nil=>rw[ho] at h1;simp at h1
  | cons x o =>
   rw[ho] at h;simp at h;rw[<- h]
theorem zoJ{rows:List RW}{μ:Mu}{Q:DK}{vs:List Int}(nd:(rows.map RW.nm).Nodup)(hz:rows.length<=60)(hw:∀r∈rows,r.ways.length<=2/\∀w∈r.ways,∃n,w.length=2*n+1/\1<=n/\n<=3)(hvl:∀l,zdQ rows l->vs.length=(zP l).length)
  (q:∀l,zdQ rows l->Q (.lst ((((zP l).zip vs).foldl grp []).map trD)) μ):zba [.lst (rows.map zcR), .lst (vs.map D.int)] μ Q:=by
 have hz1:(1001:Nat)<=sizeLine:=by decide
 refine⟨rfl,stp fun N1 k1=>?_⟩;rw_mod_cast [];refine⟨by decide,fun c hcn=>k1 _ _ ?_⟩;refine stp fun N2 k2=>?_
 rw_mod_cast [];refine zlV rfl (fun _ _ _=>rfl) nd hz hw fun l S=>?_
 have ll:l.length=rows.length:=S.p.length_eq;have sl6:(zP l).length<=360:=by
  have:=zcS (l:=l) fun r hr=>hw r (S.p.mem_iff.mp hr)
  omega
 have vl:=hvl l S;have h1:∀t∈tws l,1<=(zaW t.2.2).length:=fun t ht=>by
  obtain⟨a,b⟩:=zkQ.mp ht;obtain⟨n,e1,e2,e3⟩:=(hw t.1 (S.p.mem_iff.mp a)).2 _ (List.mem_of_getElem? b);rw[zcV n _ e1];exact e2
 rw_mod_cast [];refine zaP (fun i ρ μ'=>∃x3 x4 x5 x6 x7:Option D,ρ=[some (.lst (rows.map zcR)),some (.lst (vs.map D.int)),some (.cell c),x3,x4,x5,x6,x7]/\μ'=zH μ c (.lst (((((zP l).zip vs).take i).foldl grp []).map trD))/\GI i ((((zP l).zip vs).take i).foldl grp [])) ⟨none,none,none,none,none,rfl,rfl,⟨Nat.le_refl _,fun t ht=>(by cases ht),fun h=>absurd h (by decide)⟩⟩ ?_ ?_
 .rintro i d ρ μ' hd ⟨x3,x4,x5,x6,x7,rfl,rfl,G⟩ N hN;obtain⟨e,he,rfl⟩:=zcY hd;rw[List.getElem?_map] at he;obtain⟨p,hp,rfl⟩:=Option.map_eq_some_iff.mp he;have il:i < (zP l).length:=(List.getElem?_eq_some_iff.mp hp).1;obtain⟨v,hv⟩:∃v,vs[i]? = some v:=⟨vs[i]'(by omega),List.getElem?_eq_getElem (by omega)⟩;have hpv:((zP l).zip vs)[i]? = some (p,v):=by rw[List.getElem?_zip_eq_some];exact⟨hp,hv⟩
  have G':=G.step (p:=(p,v)) (by
   by_cases z:i=0
   .subst z;exact .inl (zjr h1 hp)
   .exact .inr (by omega))
  have ek:=foldl_take_succ grp [] hpv;rw[ek] at hN;clear hd;generalize (((zP l).zip vs).take i).foldl grp []=ts at G G' ek hN ⊢
  have gl:=G.l;unfold spD;by_cases e:p.2.2.1=0
  .rw_mod_cast [decide_eq_true (show((p.2.2.1:Nat):Int)=0 by omega),ztW,zg6,zbu hv,Option.map_some,zah];refine⟨by decide,by decide,by rw[List.length_map];omega,hN _ _ ⟨_,_,_,_,_,rfl,?_,G'⟩⟩;unfold grp;rw[if_pos e,List.map_append];rfl
  .have i1:1<=i:=by
    by_cases z:i=0
    .subst z;exact absurd (zjr h1 hp) e
    .omega
   have hn:=G.n i1;obtain⟨us,t,rfl⟩:∃us t,ts=us++[t]:=⟨_,_,(List.dropLast_concat_getLast hn).symm⟩;obtain⟨s1,s2⟩:=G.s t (by simp);obtain⟨a,b,st⟩:=t;dsimp only at s1 s2;have s1':(st.map D.int)≠[]:=fun z=>s1 (List.map_eq_nil_iff.mp z)
   have hlast:∀x:D,((us.map trD)++[x]).getLast? = some x:=fun x=>by simp
   have hset:∀x y:D,((us.map trD)++[x]).set us.length y=us.map trD++[y]:=fun x y=>by
    rw[List.set_append_right _ _ (by rw[List.length_map];exact Nat.le_refl _)];simp
   have hix:∀n:Nat,ixN (n+1) (-1)=some n:=fun n=>by unfold ixN;rw[if_neg (by decide),if_pos (by omega)];congr 1;omega
   have em:(us++[(a,b,st)]).map trD=us.map trD++[.tup [.str a, .int b, .tup (st.map D.int)]]:=by rw[List.map_append];rfl
   rw[em];have nsl:¬ (HT.sIx (3:Nat) 0 none=0/\HT.sIx (3:Nat) 3 (some 2)=3):=by decide
   rw_mod_cast [decide_eq_false (show ¬ ((p.2.2.1:Nat):Int)=0 by omega),zhQ,hlast,zg6,zbu hv,Option.map_some,List.length_append,List.length_map,hix,hset,zah];refine⟨nsl,by decide,s1',by show st.length+1<=sizeLine;omega,by decide,by simp,(by show 2+1<=sizeLine;decide),hN _ _ ⟨_,_,_,_,_,rfl,?_,G'⟩⟩;unfold grp;rw[if_neg e,List.getLast?_concat];simp[trD]
 .rintro ρ μ' ⟨x3,x4,x5,x6,x7,rfl,rfl,G⟩;rw[zbx,List.length_map,List.take_of_length_le (by rw[List.length_zip];omega)];refine k2 _ _ ?_;rw_mod_cast [zd1 hcn];exact⟨_, .refl _,q l S⟩
set_option synthInstance.maxHeartbeats 4000000
set_option synthInstance.maxSize 100000
set_option maxHeartbeats 4000000
theorem zr9{l:List TR}{μ:Mu}{Q:DK}(hl:l.length < 1000)(q:Q (.int l.length) μ):zlj "Table" zav [tbO l] μ Q:=by
 unfold zlj;refine⟨by unfold tbO;exact rfl,zuf hl ⟨_,rfl,by omega,by omega,q⟩⟩
theorem zs7{r:RW}{μ:Mu}{Q:DK}:dIx (zcR r) (.int 1) μ Q=Q (.tup (r.ways.map zb6)) μ:=by unfold zcR;rw[znO];rfl
theorem zmz{rows:List RW}{vs:List Int}{μ:Mu}{Q:DK}(nd:(rows.map RW.nm).Nodup)(hz:rows.length<=8)(hw:∀r∈rows,r.ways.length<=2/\∀w∈r.ways,zlG w)(h0:μ 0=some zst)(hvl:∀l,zdQ rows l->vs.length=(zP l).length)
  (q:∀l L,zdQ rows l->Srt (((zP l).zip vs).foldl zbD []) L->((((zP l).zip vs).foldl zbD []).map trK).Nodup->∀ μ',Q (tbO L) μ'):zb5 [.lst (rows.map frO), .lst (vs.map D.int)] μ Q:=by
 have hzz:(1000:Nat)<=sizeLine:=by decide
 refine⟨rfl,stp fun N1 h1=>?_⟩;rw_mod_cast [zsa];intro c hc;refine h1 _ _ (stp fun N2 h2=>?_);have h01:zH μ c (.dtt [] []) 0=some zst:=by rw[zy (fun z=>by rw[<- z,h0] at hc;cases hc)];exact h0
 have hc1:zH μ c (.dtt [] []) c=some (.dtt [] []):=zB;generalize zH μ c (.dtt [] [])=μ1 at h01 hc1 ⊢
 rw_mod_cast [];refine zsz (by omega) hw h01 fun l S=>?_
 have ll:=S.p.length_eq;have sl6:(zP l).length<=48:=by
  have:=zcS (l:=l) fun r hr=>hw r (S.p.mem_iff.mp hr)
  omega
 have vl:=hvl l S;rw_mod_cast [];refine zaP (fun i ρ μ'=>∃x3 x4 x5 x6:Option D,ρ=[some (.lst (rows.map frO)),some (.lst (vs.map D.int)),some (.cell c),x3,x4,x5,x6]/\∃T:List TR,T=(((zP l).zip vs).take i).foldl zbD []/\μ' c=some (.dtt (T.map trK) (T.map trV))/\(T.map trK).Nodup/\T.length<=i/\∀t∈T,t.2.2.length<=i) ⟨_,_,_,_,rfl,[],rfl,hc1,by simp,Nat.le_refl _,by simp⟩ ?_ ?_
 .rintro i d ρ μ2 hd ⟨x3,x4,x5,x6,rfl,T,hT,hc2,ndT,lT,mT⟩ N hN;rw[List.getElem?_map] at hd;obtain⟨⟨u,v⟩,hp,rfl⟩:=Option.map_eq_some_iff.mp hd;obtain⟨hu,hv⟩:=List.getElem?_zip_eq_some.mp hp;rw[List.getElem?_map] at hu hv;obtain⟨p,hp1,rfl⟩:=Option.map_eq_some_iff.mp hu;obtain⟨y,hy,rfl⟩:=Option.map_eq_some_iff.mp hv;have il:i < (zP l).length:=(List.getElem?_eq_some_iff.mp hp1).1;have hpv:((zP l).zip vs)[i]? = some (p,y):=by rw[List.getElem?_zip_eq_some];exact⟨hp1,hy⟩
  have ek:=foldl_take_succ zbD [] hpv;rw[<- hT] at ek;unfold pairD opD;rw_mod_cast [zsH,zm0,zwp,hc2,zpK];have dk:zek [D.str p.1.nm,D.int (p.2.1:Int)]=some (kOf (p,y)):=rfl;have tl:=zlZ (p:=(p,y)) mT;have tk:=zmq (p:=(p,y)) (ts:=T);have tv:=zsw (p:=(p,y)) ndT;refine⟨by decide,by omega,?_⟩;rw[dk];refine⟨by omega,?_⟩;rw[zjG];rw_mod_cast [zvP,hc2,zpK,List.length_map];refine⟨by omega,by decide,by omega,hN _ _ ⟨_,_,_,_,rfl,zbD T (p,y),ek.symm,?_,zui ndT,by have:=zlW (p:=(p,y)) (ts:=T);omega,zmb mT⟩⟩;rw[zB,tk,tv,List.map_append];rfl
 rintro ρ μ2 ⟨x3,x4,x5,x6,rfl,T,hT,hc2,ndT,lT,mT⟩;have el:((List.map opD (zP l)).zip (List.map D.int vs)).length=(zP l).length:=by rw[List.length_zip,List.length_map,List.length_map];omega
 rw[List.length_map,el] at hT lT;rw[List.take_of_length_le (by rw[List.length_zip];omega)] at hT;refine h2 _ _ ?_;rw_mod_cast [];refine⟨by decide,?_⟩;rw_mod_cast [zm4];refine⟨c,_,_,rfl,hc2,fun o=>?_⟩;have hc3:zH μ2 c (.fdtt o (T.map trK) (T.map trV)) c=some (.fdtt o (T.map trK) (T.map trV)):=zB;generalize zH μ2 c (.fdtt o (T.map trK) (T.map trV))=μ3 at hc3 ⊢
 rw[List.map_map];refine zhX T (fun t=>znA (trK t)) trD (by omega) (fun t ht Q1 q1=>?_) ?_ hc3
 .have dk:zek [D.str t.1,D.int t.2.1]=some (trK t):=rfl;rw[show znA (trK t)= .tup [.str t.1, .int t.2.1] from rfl];rw_mod_cast [zmZ];refine⟨by decide,c,o,_,_,rfl,hc3,?_⟩;rw[dk];show zbb (zcc _ _ _) _;rw[zmc ht ndT];exact⟨by omega,q1⟩
 subst hT;exact fun kt hkt=>zyr hkt (.inl rfl) ndT (by omega) fun L SL=>⟨_, .refl _,q l L S SL ndT _⟩
theorem zwH:∀ds μ Q,zs3 ds μ Q->zR zqL zrq 1 ds μ Q:=by
 rintro ds μ Q ⟨ns0,rfl,hl0,hL,q⟩;have hz:(1000:Nat)<=sizeLine:=by decide
 refine⟨rfl,stp fun N1 h1=>?_⟩;walk_at "e"
 intro s hs0;refine h1 _ _ (stp fun N2 h2=>?_);have hs:zH μ s .draw s=some .draw:=zB;have hL1:zH μ s .draw 0=some zst:=by rw[zy (fun z=>by rw[<- z,hL] at hs0;cases hs0)];exact hL
 generalize zH μ s .draw=μ1 at hs hL1 ⊢
 walk_at "e"
 refine zr1 (most:=6) hs (by decide) (by decide) fun μ2 na la ho ga ns ls rows sl W keep=>h2 _ _ (stp fun N3 h3=>?_)
 have hL2:=(keep 0 _ hL1).1;have l14:=W.N.len;have hc:=W.N.cnt;have g1:=W.ho4;have g2:=W.ga3;have g0:=W.ho2;have rm:=W.rm;have r1:=W.r1;have hwr:=fun r hr=>zq0 (W.ok r hr)
 have hw2:∀r∈rows,r.ways.length<=2/\∀w∈r.ways,zlG w:=fun r hr=>⟨(hwr r hr).2.1,fun w hw=>((hwr r hr).2.2 w hw).1⟩
 rw_mod_cast [List.length_map];refine⟨W.W.ds,by omega,by omega,fun v v0 v1=>h3 _ _ (stp fun N4 h4=>?_)⟩;obtain⟨n,rfl⟩:=Int.eq_ofNat_of_zero_le v0;rw_mod_cast [zd4,zdf];rw[<- List.map_drop,<- List.map_take];have pm:List.Perm (rows.drop n++rows.take n) rows:=by
  have:=List.perm_append_comm (l₁:=rows.drop n) (l₂:=rows.take n);rwa [List.take_append_drop] at this
 rw_mod_cast [List.length_append,List.length_map];rw[<- List.map_append];refine⟨by rw[List.length_drop,List.length_take];omega,?_⟩;generalize rows.drop n++rows.take n=rw2 at pm ⊢
 have l2:=pm.length_eq;have ndr2:(rw2.map RW.nm).Nodup:=(pm.map _).nodup_iff.mpr W.nd;have hw3:∀r∈rw2,r.ways.length<=2/\∀w∈r.ways,zlG w:=fun r hr=>hw2 r (pm.mem_iff.mp hr)
 refine zmg (by omega) (fun r hr=>zvO W.N W.sl0 W.sl7 (W.ok r (pm.mem_iff.mp hr))) (h4 _ _ (stp fun N5 h5=>?_));rw_mod_cast [];refine⟨by decide,zlV rfl (fun _ _ _=>rfl) W.nd (by omega) hw2 fun l S=>?_⟩;have ll:=S.p.length_eq;have sl6:(zP l).length<=6*l.length:=zcS fun r hr=>hw2 r (S.p.mem_iff.mp hr)
 rw_mod_cast [];refine zbd (fun i ys μ'=>μ'=μ2/\∃vs:List Int,ys=vs.map D.int/\vs.length=i) ⟨rfl,[],rfl,rfl⟩ ?_ ?_
 .rintro i d ys μ' hd ⟨rfl,vs,rfl,hvl⟩;rw[List.getElem?_map] at hd;obtain⟨p,hp,rfl⟩:=Option.map_eq_some_iff.mp hd;have il:=(List.getElem?_eq_some_iff.mp hp).1;refine⟨by rw[List.length_map];omega,fun N hN=>?_⟩;unfold spD;rw_mod_cast [];exact⟨W.W.ds,by decide,by decide,fun v v0 v1=>hN _ _ ⟨rfl,vs++[v],by rw[List.map_append];rfl,by rw[List.length_append,hvl];rfl⟩⟩
 rintro ys μ' ⟨rfl,vs,rfl,hvl⟩;rw[List.length_map] at hvl;refine h5 _ _ (stp fun N6 h6=>?_);rw_mod_cast [];refine h6 _ _ (stp fun N7 h7=>?_);rw_mod_cast [];have hvl':∀l',zdQ rows l'->vs.length=(zP l').length:=fun l' S'=>by rw[hvl,zdQ.uniq W.nd S' S]
 have up:∀{l'},zdQ rw2 l'->zdQ rows l':=fun S'=>⟨S'.p.trans pm,S'.s⟩
 refine zmz ndr2 (by omega) hw3 hL2 (fun l' S'=>hvl' l' (up S')) fun l2' L S2 SL ndT μ3=>h7 _ _ (stp fun N8 h8=>?_)
 obtain rfl:=zdQ.uniq W.nd (up S2) S;rw_mod_cast [];have h1t:∀t∈tws l2',1<=(zaW t.2.2).length:=fun t ht=>by
  obtain⟨a,b⟩:=zkQ.mp ht;obtain⟨n,e1,e2,e3⟩:=(hw2 t.1 (S.p.mem_iff.mp a)).2 _ (List.mem_of_getElem? b);rw[zcV n _ e1];exact e2
 have ndl:(l2'.map RW.nm).Nodup:=(S.p.map _).nodup_iff.mpr W.nd;obtain⟨rs1,rs2,rs3⟩:=zpm ndl hvl h1t;have Ll:=SL.p.length_eq;have tl:=ztB (l:=l2');have bw:(l2'.map fun r=>(r.ways.length:Int)).sum=(rows.map fun r=>(r.ways.length:Int)).sum:=zrK (S.p.map _);have L48:L.length<=48:=by
  rw[Ll,rs2];have:(tws l2').length<=(zP l2').length:=by
   rw[zd6];have:∀ts:List TW,(∀t∈ts,1<=(zaW t.2.2).length)->ts.length<=((ts.map twB).flatten).length:=fun ts=>by
    induction ts with
    | nil=>intro _;simp
    | cons t ts ih =>
     intro h;have a:=h t (.head _);have b:=ih fun x hx=>h x (.tail _ hx)
     rw[List.map_cons,List.flatten_cons,List.length_append,List.length_cons];have e:(twB t).length=(zaW t.2.2).length:=by unfold twB blk;rw[List.length_map,List.length_zipIdx]
     omega
   exact this _ h1t
  omega
 refine zqN (n:=1) (fun d hd=>by obtain⟨x,_,rfl⟩:=List.mem_map.mp hd;trivial) (by decide) ?_;rw_mod_cast [];refine zr9 (by omega) ⟨by decide,zhX rows zcR (fun r=> .int (r.ways.length:Int)) (by omega) (fun r hr Q1 q1=>?_) ?_⟩
 .rw_mod_cast [zs7,List.length_map];exact q1
 rw[show rows.map (fun r=>D.int (r.ways.length:Int))=(rows.map fun r=>(r.ways.length:Int)).map D.int from by rw[List.map_map];rfl,zeR];show dNe _ _ _ _;rw_mod_cast [decide_eq_true (show(L.length:Int)=(rows.map fun r=>(r.ways.length:Int)).sum by rw[<- bw,<- tl,Ll,rs2])];refine h8 _ _ ?_;rw_mod_cast [];have siL:∀d∈L.map trD,SI 2 d:=fun d hd=>by
  obtain⟨t,ht,rfl⟩:=List.mem_map.mp hd;obtain⟨r,hr,e⟩:=rs3 t (SL.p.mem_iff.mp ht);exact zx1 t (by rw[e];exact zqd (W.N.nms _ (W.ok r (S.p.mem_iff.mp hr)).nmn))
 refine⟨by unfold tbO;exact⟨rfl,zey⟩,zsJ (by omega) fun c hc=>?_⟩;have m6:zH μ3 c (.lst (L.map trD)) c=some (.lst (L.map trD)):=zB;generalize zH μ3 c (.lst (L.map trD))=μ6 at m6 ⊢
 refine zoJ W.nd (by omega) hw2 hvl' fun l3 S3=>?_
 obtain rfl:=zdQ.uniq W.nd S S3;rw[<- rs1];refine zqo (.inl rfl) ndT (by rw[<- Ll];omega) fun L2 SL2=>?_
 obtain rfl:=Srt.uniq ndT SL SL2;refine zl2 m6 rfl siL (by decide) ?_;exact⟨_, .refl _,q _⟩
end M
namespace M
open PySem L2
section
variable(P:Program)(w:World)(K:Frag)(mg:Str->Option Value)(base:Heap)
abbrev ze7:Prop:=Has P w K mg base CX0 "is_made_of" 1 ["text","signs","most"] (lift K zcj)
abbrev zgl:Prop:=Has P w K mg base CX0 "is_number" 1 ["thing"] (lift K zbN)
abbrev zi4:Prop:=Has P w K mg base CX0 "by_name" 1 ["frames"] (lift K zct)
abbrev zhN:Prop:=Has P w K mg base CX0 "lines_of" 1 ["way"] (lift K zb8)
abbrev zaQ:Prop:=Has P w K mg base CX0 "_law_draw" 1 ["_law_s","_law_many"] zkr
abbrev zdY:Prop:=Has P w K mg base CX0 "_law_spots" 1 ["_law_rows"] (lift K za7)
abbrev zf2:Prop:=Has P w K mg base CX0 "is_name" 2 ["text"] (lift K zbQ)
abbrev zeg:Prop:=Has P w K mg base CX0 "check_whole" 2 ["thing"] (lift K za9)
abbrev znu:Prop:=Has P w K mg base CX0 "order" 2 ["frames"] (lift K zd2)
abbrev zcs:Prop:=znC P w K mg base CX0 "Table" 1 ["self","rows"] (lift K zaE) [] (sel 2 0 [.p 0, .p 1] .non [])
abbrev zeW:Prop:=Has P w K mg base CX0 "_law_pick" 2 ["_law_s","_law_row_here"] (lift K zbr)
abbrev zdd:Prop:=Has P w K mg base CX0 "_law_name" 2 ["_law_s","_law_names"] (lift K zak)
abbrev zcA:Prop:=Has P w K mg base CX0 "check_both_ways" 1 ["one","two"] (lift K zaB)
abbrev zgk:Prop:=Has P w K mg base CX0 "check_way" 3 ["way"] (lift K zbM)
abbrev zi2:Prop:=Has P w K mg base CX0 "_law_hop" 3 ["_law_s","_law_names","_law_lines","_law_one","_law_two","_law_barred"] (lift K zbV)
abbrev zfg:Prop:=Has P w K mg base CX0 "check_name" 3 ["text"] (lift K zbp)
abbrev zdK:Prop:=Has P w K mg base CX0 "check_number" 3 ["number","least","most"] (lift K zam)
abbrev zfD:Prop:=Has P w K mg base CX0 "check_ways" 4 ["ways"] (lift K zbw)
abbrev zh2:Prop:=Has P w K mg base CX0 "_law_need" 1 ["_law_row_here","_law_lines","_law_the_slack"] (lift K zb2)
abbrev ziZ:Prop:=Has P w K mg base CX0 "_law_way" 4 ["_law_s","_law_names","_law_lines","_law_gates","_law_first","_law_the_last","_law_barred"] (lift K zbT)
abbrev ziV:Prop:=Has P w K mg base CX0 "_law_row" 5 ["_law_s","_law_names","_law_lines","_law_houses","_law_gates","_law_the_slack"] (lift K zcB)
abbrev zab:Prop:=znC P w K mg base CX0 "Frame" 5 ["self","name","ways","every","long","release","last"] (lift K zan) ["every","long","release","last"] (sel 3 4 [.p 0, .p 1, .p 2, .k 0, .k 1, .k 2, .k 3] .non [])
abbrev zgL:Prop:=Has P w K mg base CX0 "_law_frame" 7 ["_law_row_here"] (lift K zbO)
abbrev zgF:Prop:=Has P w K mg base CX0 "_law_start" 1 ["_law_script"] (zh7 K)
abbrev zeC:Prop:=Has P w K mg base CX0 "_law_rows_of" 2 ["_law_rows","_law_starts"] (lift K zba)
abbrev zhp:Prop:=Has P w K mg base CX0 "table_of" 3 ["frames","starts"] (lift K zb5)
abbrev zgi:Prop:=Has P w K mg base CX0 "_law_world" 6 ["_law_s","_law_the_most"] (lift K zbP)
abbrev zfE:Prop:=Has P w K mg base CX0 "_law_frames" 8 ["_law_rows"] (lift K zbt)
abbrev zdk:Prop:=zqj P w K mg base CX0 "Table" "told" 1 ["self"] (lift K zbo) [] (sel 1 0 [.p 0] .non [])
end
section
variable{P:Program}{w:World}{K:Frag}{mg:Str->Option Value}{base:Heap}{f:Addr}{fd:FuncData}[TabOk K tab]
theorem ziO(F:Fun K "is_made_of" "is_made_of" zdg f fd)(B:Blt mg):zaa P w K mg base CX0 1 f fd ["text","signs","most"] (lift K zcj) :=
 F.okB ze3 zes rfl fun _ _ _ _ _ _ hr=>have nd:=zes.nd;⟨_,(zg (zac (zse (zqP zlv zlv zc (zF (zQ K) rfl B.len zax (qa1 (qv 0))) (qv 2)) (zrZ (zF (zjg K) rfl B.all zqE (qa1 (zb1 ["sign"] ["signs"] [1] (.of rfl (by decide+kernel) rfl) rfl rfl (by decide+kernel) (zaJ K (qv 0)) (fun _ _ _ _=>(zaf (i:=0) (show List.Nodup (["sign","signs"]:List Str) by decide+kernel) rfl (Or.inl rfl))) (fun _ _ _ _=>zaK) (fun _ _ _ _=>(zkM ztd (qv 0) (qv 1) (by with_unfolding_all rfl)))))))))),fun _=>by infer_instance⟩
theorem zkW(F:Fun K "is_number" "is_number" zdu f fd)(B:Blt mg):zaa P w K mg base CX0 1 f fd ["thing"] (lift K zbN) :=
 F.okB zgc ze2 rfl fun _ _ _ _ _ _ hr=>have nd:=ze2.nd;⟨_,(zg (zac (zse (zF (zhR K) rfl B.isinstance zeA (qa2 (qv 0) (znR (v:= .ty "int") rfl B.int zwK rfl))) (zrZ (zxb (zF (zhR K) rfl B.isinstance zeA (qa2 (qv 0) (znR (v:= .ty "bool") rfl B.bool ztE rfl)))))))),fun _=>by infer_instance⟩
theorem zeJ(F:Fun K "check_both_ways" "check_both_ways" zbv f fd)(B:Blt mg):zaa P w K mg base CX0 1 f fd ["one","two"] (lift K zaB) :=
 F.okB zcx zcg rfl fun _ _ _ _ _ _ hr=>have nd:=zcg.nd;⟨_,(zf (zaL (WW.qt (zjI (zJ (zih K hr) (qx K (qv 0) zc) (qx K (qv 1) zc) (zaD _)) (zfK (zJ (zih K hr) (qx K (qv 0) (zdx zcn zc)) (qx K (qv 1) (zdx zcn zc)) (zaD _)))))
  (zg zaX)
  zad)
  (zg (zaL (zjO (zF (zof K) rfl B.any zxu (qa1 (zb1 ["name"] ["two"] [1] (.of rfl (by decide+kernel) rfl) rfl rfl (by decide+kernel) (zaJ K (zcd (zd9 K) (qv 0) (zaT zc) (zaT (zdx zcn zc)))) (fun _ _ _ _=>(zaf (i:=0) (show List.Nodup (["name","two"]:List Str) by decide+kernel) rfl (Or.inl rfl))) (fun _ _ _ _=>zaK) (fun _ _ _ _=>(zkM (zjV K hr) (qv 0) (qv 1) (by with_unfolding_all rfl)))))))
  (zg zaX)
  zad))),fun _=>by infer_instance⟩
theorem zmn(F:Fun K "by_name" "by_name" zfW f fd)(B:Blt mg){cL PL:Addr}(lb9:zkn base mg cL PL)(hcL:fd.code= .ref cL)[zxl K "by_name" PL]:zaa P w K mg base CX0 1 f fd ["frames"] (lift K zct) :=
 F.okBL zjA zhG rfl fun _ _ _ _ _ _ hc9 hr=>have nd:=zhG.nd;⟨_,(zg (zac (zmp (ln:=90) (cl:=30) (qn:="by_name") (q:="by_name.<locals>.<lambda>") K lb9 (hc9.symm.trans hcL) hr (qv 0) rfl B.sorted))),fun _=>by infer_instance⟩
theorem zlm(F:Fun K "lines_of" "lines_of" zeV f fd)(B:Blt mg):zaa P w K mg base CX0 1 f fd ["way"] (lift K zb8) :=
 F.okB zhn zgz rfl fun _ _ _ _ _ _ hr=>have nd:=zgz.nd;⟨_,(zg (zac (zjk (zn5 K) (qv 0) (zaT zc) zc9 (zaT zc)))),fun _=>by infer_instance⟩
theorem zgO(F:Fun K "__init__" "Table.__init__" zcf f fd)(B:Blt mg):zaa P w K mg base CX0 1 f fd ["self","rows"] (lift K zaE) :=
 F.okB zdZ zdj rfl fun _ _ _ _ _ _ hr=>have nd:=zdj.nd;⟨_,(zg (zc6 K (qv 0) (zF (zeS K) rfl B.sorted zfQ (qa1 (qv 1))))),fun _=>by infer_instance⟩
theorem ziy(F:Fun K "told" "Table.told" zc5 f fd)(B:Blt mg):zaa P w K mg base CX0 1 f fd ["self"] (lift K zbo) :=
 F.okB zfy zef rfl fun _ _ _ _ _ _ hr=>have nd:=zef.nd;⟨_,(zg (zac (zkt (zbG (zeL K) rfl B.list zha (qa1 (zg5 K (qv 0))))))),fun _=>by infer_instance⟩
theorem zhW(F:Fun K "__len__" "Table.__len__" zcG f fd)(B:Blt mg):zaa P w K mg base CX0 1 f fd ["self"] (lift K zav) :=
 F.okB zen zdz rfl fun _ _ _ _ _ _ hr=>have nd:=zdz.nd;⟨_,(zg (zac (zF (zQ K) rfl B.len zax (qa1 (zg5 K (qv 0)))))),fun _=>by infer_instance⟩
theorem zk5(F:Fun K "_law_need" "_law_need" ze0 f fd)(B:Blt mg):zaa P w K mg base CX0 1 f fd ["_law_row_here","_law_lines","_law_the_slack"] (lift K zb2) :=
 F.okB zhI zgG rfl fun _ _ _ _ _ _ hr=>have nd:=zgG.nd;⟨_,(zf (qS 3 nd zc)
  (zf (zcl PassesOwn.never rfl (zaJ K (qx K (qv 0) zc)) (qG 4 nd)
  (zf (qS 5 nd zc)
  (zf (zcl PassesOwn.never rfl (zaJ K (qv 1)) (qG 6 nd)
  (zg (zaL (zJ (zjV K hr) (qx K (qv 6) zc) (qv 4) (by with_unfolding_all rfl))
  (zg (qS 5 nd (zW (zar K) (zW (zar K) (zW (zar K) (qv 5) (qx K (qv 0) zc)) (qx K (qv 6) zc)) (qv 2))))
  zad)))
  (zg (qS 3 nd (zF (zoo K) rfl B.max zwG (qa2 (qv 3) (qv 5))))))))
  (zg (zac (qv 3))))),fun _=>by infer_instance⟩
theorem zkg(F:Fun K "_law_spots" "_law_spots" zdt f fd)(B:Blt mg):zaa P w K mg base CX0 1 f fd ["_law_rows"] (lift K za7) :=
 F.okB zgI zfw rfl fun _ _ _ _ _ _ hr=>have nd:=zfw.nd;⟨_,(zf (zbc (qS 1 nd (zbz zb0)))
  (zf (zcl PassesOwn.never rfl (zaJ K (zF (zeS K) rfl B.sorted zfQ (qa1 (qv 0)))) (qG 2 nd)
  (zg (zcl PassesOwn.never rfl (ze1 K rfl B.enumerate (qa1 (qx K (qv 2) zc))) (zcu (n:=2) K rfl (zZ (qG 3 nd) (zZ (qG 4 nd) zcv)))
  (zg (zcl PassesOwn.never rfl (ze1 K rfl B.enumerate (qa1 (zjk (zn5 K) (qv 4) (zaT zc) zc9 (zaT zc)))) (zcu (n:=2) K rfl (zZ (qG 5 nd) (zZ (qG 6 nd) zcv)))
  (zg (zaj (zbJ K PySem.F.plainAttrs_list PySem.F.slot_list_append PySem.F.type_list_append zat (qv 1) (qa1 (zaV (zA (qv 2) (zA (qv 3) (qa2 (qv 5) (qv 6))))))))))))))
  (zhH 1 (zg (zac (qv 1)))))),fun _=>by infer_instance⟩
theorem zmw(F:Fun K "is_name" "is_name" zf1 f fd)(B:Blt mg)(h_is_made_of:ze7 P w K mg base){u_LETTERS:Value}(c_LETTERS:mg "LETTERS"=some u_LETTERS)(c_LETTERS_r:RelV (.str "abcdefghijklmnopqrstuvwxyz") u_LETTERS){u_MOST_LETTERS:Value}(c_MOST_LETTERS:mg "MOST_LETTERS"=some u_MOST_LETTERS)(c_MOST_LETTERS_r:RelV (.int 8) u_MOST_LETTERS):zaa P w K mg base CX0 2 f fd ["text"] (lift K zbQ) :=
 F.okB zjK zhM rfl fun _ _ _ _ _ _ hr=>have nd:=zhM.nd;⟨_,(zg (zac (zj h_is_made_of hr (zA (qv 0) (qa2 (zeb rfl c_LETTERS c_LETTERS_r) (zeb rfl c_MOST_LETTERS c_MOST_LETTERS_r)))))),fun _=>by infer_instance⟩
theorem zil(F:Fun K "check_whole" "check_whole" zcL f fd)(B:Blt mg)(h_is_number:zgl P w K mg base):zaa P w K mg base CX0 2 f fd ["thing"] (lift K za9) :=
 F.okB zet zdP rfl fun _ _ _ _ _ _ hr=>have nd:=zdP.nd;⟨_,(zg (zaL (zj0 (zjO (zj h_is_number hr (qa1 (qv 0)))))
  (zg zaX)
  zad)),fun _=>by infer_instance⟩
theorem zr0(F:Fun K "order" "order" zkA f fd)(B:Blt mg)(h_by_name:zi4 P w K mg base)(h_lines_of:zhN P w K mg base):zaa P w K mg base CX0 2 f fd ["frames"] (lift K zd2) :=
 F.okB znv zlX rfl fun _ _ _ _ _ _ hr=>have nd:=zlX.nd;⟨_,(zg (zac (zqR ["frame","at","way","h"] [] [] (.of rfl (by decide+kernel) rfl) rfl rfl (by decide+kernel) (zaJ K (zj h_by_name hr (qa1 (qv 0)))) (fun _ _ _ _=>(zaf (i:=0) (show List.Nodup (["frame","at","way","h"]:List Str) by decide+kernel) rfl (Or.inl rfl))) (fun _ _ _ _=>zaK) (fun _ _ _ _=>(znW (ze1 K rfl B.enumerate (qa1 (zg5 K (qv 0)))) (zcu (n:=2) K rfl (zZ (zaf (i:=1) (show List.Nodup (["frame","at","way","h"]:List Str) by decide+kernel) rfl (Or.inl rfl)) (zZ (zaf (i:=2) (show List.Nodup (["frame","at","way","h"]:List Str) by decide+kernel) rfl (Or.inl rfl)) zcv))) zaK (znW (zbi rfl B.range (qa1 (zF (zQ K) rfl B.len zax (qa1 (zj h_lines_of hr (qa1 (qv 2))))))) (zaf (i:=3) (show List.Nodup (["frame","at","way","h"]:List Str) by decide+kernel) rfl (Or.inl rfl)) zaK (zv0 (zaV (zA (zg5 K (qv 0)) (qa2 (qv 1) (qv 3))))))))))),fun _=>by infer_instance⟩
theorem zl8(F:Fun K "_law_pick" "_law_pick" zeO f fd)(B:Blt mg)(h_law_draw:zaQ P w K mg base):zaa P w K mg base CX0 2 f fd ["_law_s","_law_row_here"] (lift K zbr) :=
 F.okB zh1 zgA rfl fun _ _ _ _ _ _ hr=>have nd:=zgA.nd;⟨_,(zg (zac (qx K (qv 1) (zj h_law_draw hr (qa2 (qv 0) (zF (zQ K) rfl B.len zax (qa1 (qv 1)))))))),fun _=>by infer_instance⟩
theorem zlR(F:Fun K "_law_name" "_law_name" zeU f fd)(B:Blt mg)(h_law_draw:zaQ P w K mg base):zaa P w K mg base CX0 2 f fd ["_law_s","_law_names"] (lift K zak) :=
 F.okB zhl zgH rfl fun _ _ _ _ _ _ hr=>have nd:=zgH.nd;⟨_,(zf (qS 2 nd zmQ)
  (zf (zcl PassesOwn.never rfl (zbi rfl B.range (qa1 zc)) (qG 3 nd)
  (zf (qS 4 nd (zW (zar K) zc (zj h_law_draw hr (qa2 (qv 0) zc))))
  (zf (zaL (zJ (zeY K hr) (qv 4) zc (zaD _))
  (zg (qS 4 nd (zW (zar K) zc (zj h_law_draw hr (qa2 (qv 0) zc)))))
  zad)
  (zf (qS 5 nd (zbJ K PySem.F.plainAttrs_str PySem.F.slot_str_join PySem.F.type_str_join (zq3 K) zmQ (qa1 (zb1 ["_law_k"] ["_law_letters","_law_s"] [2,0] (.of rfl (by decide+kernel) rfl) rfl rfl (by decide+kernel) (zbi rfl B.range (qa1 (qv 4))) (fun _ _ _ _=>(zaf (i:=0) (show List.Nodup (["_law_k","_law_letters","_law_s"]:List Str) by decide+kernel) rfl (Or.inl rfl))) (fun _ _ _ _=>zaK) (fun _ _ _ _=>(qx K (qv 1) (zj h_law_draw hr (qa2 (qv 2) zc))))))))
  (zg (zaL (zJ (zaR K hr) (qv 5) (qv 1) (by with_unfolding_all rfl))
  (zf (zaj (zbJ K PySem.F.plainAttrs_list PySem.F.slot_list_append PySem.F.type_list_append zat (qv 1) (qa1 (qv 5))))
  (zg (zac (qv 5))))
  zad))))))
  (zf (zcl PassesOwn.never rfl (zbi rfl B.range (qa1 zc)) (qG 6 nd)
  (zf (qS 5 nd (zW zqO (qx K (qv 2) (zW zf6 (qv 6) zc)) (zW (zar K) zc (zW zfs (qv 6) zc))))
  (zg (zaL (zJ (zaR K hr) (qv 5) (qv 1) (by with_unfolding_all rfl))
  (zf (zaj (zbJ K PySem.F.plainAttrs_list PySem.F.slot_list_append PySem.F.type_list_append zat (qv 1) (qa1 (qv 5))))
  (zg (zac (qv 5))))
  zad))))
  (zg (zac zmQ))))),fun _=>by infer_instance⟩
theorem zhv(F:Fun K "_law_rows_of" "_law_rows_of" zcK f fd)(B:Blt mg)(h_law_spots:zdY P w K mg base):zaa P w K mg base CX0 2 f fd ["_law_rows","_law_starts"] (lift K zba) :=
 F.okB zeq zdX rfl fun _ _ _ _ _ _ hr=>have nd:=zdX.nd;⟨_,(zf (zbc (qS 2 nd (zbz zb0)))
  (zf (zcl PassesOwn.never rfl (ze1 K rfl B.enumerate (qa1 (zj h_law_spots hr (qa1 (qv 0))))) (zcu (n:=2) K rfl (zZ (qG 3 nd) (zZ (zcu (n:=4) K rfl (zZ (qG 4 nd) (zZ (qG 5 nd) (zZ (qG 6 nd) (zZ (qG 7 nd) zcv))))) zcv)))
  (zg (zaL (zJ (zeY K hr) (qv 6) zc (zaD _))
  (zg (zaj (zbJ K PySem.F.plainAttrs_list PySem.F.slot_list_append PySem.F.type_list_append zat (qv 2) (qa1 (zaV (zA (qx K (qv 4) zc) (qa2 (qv 5) (zaV (qa1 (qx K (qv 1) (qv 3)))))))))))
  (zg (zhe (zW (zar K) (zcd (zd9 K) (qx K (qv 2) (zdx zcn zc)) zc9 (zaT zc)) (zaV (qa1 (zW (zar K) (qx K (qx K (qv 2) (zdx zcn zc)) zc) (zaV (qa1 (qx K (qv 1) (qv 3)))))))) (zhL (qv 2) (zdx zcn zc) set_list))))))
  (zhH 2 (zg (zac (qv 2)))))),fun _=>by infer_instance⟩
theorem zix(F:Fun K "check_name" "check_name" zdc f fd)(B:Blt mg)(h_is_name:zf2 P w K mg base):zaa P w K mg base CX0 3 f fd ["text"] (lift K zbp) :=
 F.okB ze4 zez rfl fun _ _ _ _ _ _ hr=>have nd:=zez.nd;⟨_,(zg (zaL (zj0 (zjO (zj h_is_name hr (qa1 (qv 0)))))
  (zg zaX)
  zad)),fun _=>by infer_instance⟩
theorem zgR(F:Fun K "check_number" "check_number" zco f fd)(B:Blt mg)(h_check_whole:zeg P w K mg base):zaa P w K mg base CX0 3 f fd ["number","least","most"] (lift K zam) :=
 F.okB zdM zdp rfl fun _ _ _ _ _ _ hr=>have nd:=zdp.nd;⟨_,(zf (zaj (zj h_check_whole hr (qa1 (qv 0))))
  (zg (zaL (zj0 (zp7 zlv zlv (qv 1) (qv 0) (qv 2)))
  (zg zaX)
  zad))),fun _=>by infer_instance⟩
theorem zkf(F:Fun K "check_way" "check_way" zdv f fd)(B:Blt mg)(h_is_name:zf2 P w K mg base){a_WAY_LENGTHS:Addr}(c_WAY_LENGTHS:mg "WAY_LENGTHS"=some (.ref a_WAY_LENGTHS))[KTup K a_WAY_LENGTHS [3,5,7]]:zaa P w K mg base CX0 3 f fd ["way"] (lift K zbM) :=
 F.okB zgn zfo rfl fun _ _ _ _ _ _ hr=>have nd:=zfo.nd;⟨_,(zf (zaL (zJ (zaR K hr) (zF (zQ K) rfl B.len zax (qa1 (qv 0))) (zeb (v:= .ref a_WAY_LENGTHS) rfl c_WAY_LENGTHS rfl) (by with_unfolding_all rfl))
  (zg zaX)
  zad)
  (zf (zaL (zj0 (zjO (zF (zjg K) rfl B.all zqE (qa1 (zb1 ["text"] [] [] (.of rfl (by decide+kernel) rfl) rfl rfl (by decide+kernel) (zaJ K (qv 0)) (fun _ _ _ _=>(zaf (i:=0) (show List.Nodup (["text"]:List Str) by decide+kernel) rfl (Or.inl rfl))) (fun _ _ _ _=>zaK) (fun _ _ _ _=>(zj h_is_name hr (qa1 (qv 0)))))))))
  (zg zaX)
  zad)
  (zg (zaL (zJ zlx (zF (zkx) rfl B.len zax (qa1 (zbG (zol K) rfl B.set zwP (qa1 (qv 0))))) (zF (zQ K) rfl B.len zax (qa1 (qv 0))) (zaD _))
  (zg zaX)
  zad)))),fun _=>by infer_instance⟩
theorem zl5(F:Fun K "table_of" "table_of" zeQ f fd)(B:Blt mg)(h_order:znu P w K mg base)(hM_TableD_initD_2:zcs P w K mg base):zaa P w K mg base CX0 3 f fd ["frames","starts"] (lift K zb5) :=
 F.okB zig zgp rfl fun _ _ _ _ _ _ hr=>have nd:=zgp.nd;⟨_,(zf (zbc (qS 2 nd zrn))
  (zf (zcl PassesOwn.never rfl (zus K rfl B.zip (qa2 (zj h_order hr (qa1 (qv 0))) (qv 1))) (zcu (n:=2) K rfl (zZ (zcu (n:=3) K rfl (zZ (qG 3 nd) (zZ (qG 4 nd) (zZ (qG 5 nd) zcv)))) (zZ (qG 6 nd) zcv)))
  (zg (zqc (zpO hr) (qv 2) (zaV (qa2 (qv 3) (qv 4))) (zW (ztv K) (zrE (zpO hr) (qv 2) (zaV (qa2 (qv 3) (qv 4))) (zaV zb0) ⟨rfl,rfl,rfl,rfl⟩) (zaV (qa1 (qv 6)))))))
  (zg (zac (zlP K hM_TableD_initD_2 hr (qa1 (zb1 ["name","at"] ["held"] [2] (.of rfl (by decide+kernel) rfl) rfl rfl (by decide+kernel) (zur (qv 2)) (fun _ _ _ _=>(zcu (n:=2) K rfl (zZ (zaf (i:=0) (show List.Nodup (["name","at","held"]:List Str) by decide+kernel) rfl (Or.inl rfl)) (zZ (zaf (i:=1) (show List.Nodup (["name","at","held"]:List Str) by decide+kernel) rfl (Or.inl rfl)) zcv)))) (fun _ _ _ _=>zaK) (fun _ _ _ _=>(zaV (zA (qv 0) (qa2 (qv 1) (zpS (zpO hr) (qv 2) (zaV (qa2 (qv 0) (qv 1)))))))))) zrm))))),fun _=>by infer_instance⟩
theorem zmK(F:Fun K "_law_hop" "_law_hop" zfU f fd)(B:Blt mg)(h_law_draw:zaQ P w K mg base)(h_law_pick:zeW P w K mg base)(h_law_name:zdd P w K mg base):zaa P w K mg base CX0 3 f fd ["_law_s","_law_names","_law_lines","_law_one","_law_two","_law_barred"] (lift K zbV) :=
 F.okB zi9 zhF rfl fun _ _ _ _ _ _ hr=>have nd:=zhF.nd;⟨_,(zf (zd5 ["_law_line"] ["_law_barred","_law_one"] [5,3] (i:=6) nd rfl rfl (.of rfl (by decide+kernel) rfl) rfl rfl (by decide+kernel) (zaJ K (qv 2)) (fun _ _ _ _=>(zaf (i:=0) (show List.Nodup (["_law_line","_law_barred","_law_one"]:List Str) by decide+kernel) rfl (Or.inl rfl))) (fun _ _ _ _=>(zgY (WW.qt (zre (zJ (zaR K hr) (qx K (qv 0) zc) (qv 1) (by with_unfolding_all rfl)) (znE (WW.qt (zjI (zJ (zjV K hr) (qv 2) (qx K (qv 0) zc) (by with_unfolding_all rfl)) (zfK (zJ zlx (zF (zQ K) rfl B.len zax (qa1 (qx K (qv 0) zc))) zc (zaD _)))))))))) (fun _ _ _ _=>(qv 0)))
  (zf (zd5 ["_law_line"] ["_law_two"] [4] (i:=6) nd rfl rfl (.of rfl (by decide+kernel) rfl) rfl rfl (by decide+kernel) (zaJ K (qv 6)) (fun _ _ _ _=>(zaf (i:=0) (show List.Nodup (["_law_line","_law_two"]:List Str) by decide+kernel) rfl (Or.inl rfl))) (fun _ _ _ _=>(zgY (WW.qt (zjI (zJ (zjV K hr) (qv 1) (qx K (qv 0) zc) (by with_unfolding_all rfl)) (zfK (zJ zlx (zF (zQ K) rfl B.len zax (qa1 (qx K (qv 0) zc))) zc (zaD _))))))) (fun _ _ _ _=>(qv 0)))
  (zf (zaL (WW.qt (zre (zJ zlx (zF (zQ K) rfl B.len zax (qa1 (qv 2))) zc (zaD _)) (znE (WW.qt (zjI (zJ (zeY K hr) (zF (zQ K) rfl B.len zax (qa1 (qv 6))) zc (zaD _)) (zfK (zJ (zeY K hr) (zj h_law_draw hr (qa2 (qv 0) zc)) zc (zaD _))))))))
  (zf (zaj (zbJ K PySem.F.plainAttrs_list PySem.F.slot_list_append PySem.F.type_list_append zat (qv 2) (qa1 (zbz (zA (zj h_law_name hr (qa2 (qv 0) (qv 1))) (zA (zkt (zbz (qa1 (qv 3)))) (qa2 (zkt (zbz (qa1 (qv 4)))) (zj h_law_draw hr (qa2 (qv 0) zc)))))))))
  (zg (zac (qx K (qx K (qv 2) (zdx zcn zc)) zc))))
  zad)
  (zf (qS 7 nd (zj h_law_pick hr (qa2 (qv 0) (qv 6))))
  (zf (zaL (zJ (zaR K hr) (qv 3) (qx K (qv 7) zc) (by with_unfolding_all rfl))
  (zg (zaj (zbJ K PySem.F.plainAttrs_list PySem.F.slot_list_append PySem.F.type_list_append zat (qx K (qv 7) zc) (qa1 (qv 3)))))
  zad)
  (zf (zaL (zJ (zaR K hr) (qv 4) (qx K (qv 7) zc) (by with_unfolding_all rfl))
  (zg (zaj (zbJ K PySem.F.plainAttrs_list PySem.F.slot_list_append PySem.F.type_list_append zat (qx K (qv 7) zc) (qa1 (qv 4)))))
  zad)
  (zg (zac (qx K (qv 7) zc))))))))),fun _=>by infer_instance⟩
theorem ziD(F:Fun K "check_ways" "check_ways" zc4 f fd)(B:Blt mg)(h_check_both_ways:zcA P w K mg base)(h_check_way:zgk P w K mg base):zaa P w K mg base CX0 4 f fd ["ways"] (lift K zbw) :=
 F.okB zfx zei rfl fun _ _ _ _ _ _ hr=>have nd:=zei.nd;⟨_,(zf (zaL (zJ (zaR K hr) (zF (zQ K) rfl B.len zax (qa1 (qv 0))) (zaV (qa2 zc zc)) (by with_unfolding_all rfl))
  (zg zaX)
  zad)
  (zf (zcl PassesOwn.never rfl (zaJ K (qv 0)) (qG 1 nd)
  (zg (zaj (zj h_check_way hr (qa1 (qv 1))))))
  (zg (zaL (zJ (zeY K hr) (zF (zQ K) rfl B.len zax (qa1 (qv 0))) zc (zaD _))
  (zg (zaj (zj h_check_both_ways hr (qa2 (qx K (qv 0) zc) (qx K (qv 0) zc)))))
  zad)))),fun _=>by infer_instance⟩
theorem zm8(F:Fun K "_law_way" "_law_way" zfX f fd)(B:Blt mg)(h_law_draw:zaQ P w K mg base)(h_law_pick:zeW P w K mg base)(h_law_hop:zi2 P w K mg base):zaa P w K mg base CX0 4 f fd ["_law_s","_law_names","_law_lines","_law_gates","_law_first","_law_the_last","_law_barred"] (lift K zbT) :=
 F.okB zjF zhi rfl fun _ _ _ _ _ _ hr=>have nd:=zhi.nd;⟨_,(zf (zd5 ["_law_gate"] ["_law_barred"] [6] (i:=7) nd rfl rfl (.of rfl (by decide+kernel) rfl) rfl rfl (by decide+kernel) (zaJ K (qv 3)) (fun _ _ _ _=>(zaf (i:=0) (show List.Nodup (["_law_gate","_law_barred"]:List Str) by decide+kernel) rfl (Or.inl rfl))) (fun _ _ _ _=>(zgY (zJ (zaR K hr) (qv 0) (qv 1) (by with_unfolding_all rfl)))) (fun _ _ _ _=>(qv 0)))
  (zf (zbc (qS 8 nd (zbz (qa1 (qv 4)))))
  (zf (zcl PassesOwn.never rfl (zbi rfl B.range (qa1 (zF (zjh K) rfl B.min zsk (qa2 (zj h_law_draw hr (qa2 (qv 0) zc)) (zF (zQ K) rfl B.len zax (qa1 (qv 7))))))) (qG 9 nd)
  (zf (qS 10 nd (zj h_law_pick hr (qa2 (qv 0) (qv 7))))
  (zf (zd5 ["_law_other"] ["_law_gate"] [10] (i:=7) nd rfl rfl (.of rfl (by decide+kernel) rfl) rfl rfl (by decide+kernel) (zaJ K (qv 7)) (fun _ _ _ _=>(zaf (i:=0) (show List.Nodup (["_law_other","_law_gate"]:List Str) by decide+kernel) rfl (Or.inl rfl))) (fun _ _ _ _=>(zgY (zJ (zih K hr) (qv 0) (qv 1) (zaD _)))) (fun _ _ _ _=>(qv 0)))
  (zf (zaj (zbJ K PySem.F.plainAttrs_list PySem.F.slot_list_append PySem.F.type_list_append zat (qv 8) (qa1 (zj h_law_hop hr (zA (qv 0) (zA (qv 1) (zA (qv 2) (zA (qx K (qv 8) (zdx zcn zc)) (qa2 (qv 10) (zW (zar K) (qv 6) (qv 8)))))))))))
  (zg (zaj (zbJ K PySem.F.plainAttrs_list PySem.F.slot_list_append PySem.F.type_list_append zat (qv 8) (qa1 (qv 10)))))))))
  (zf (zaj (zbJ K PySem.F.plainAttrs_list PySem.F.slot_list_append PySem.F.type_list_append zat (qv 8) (qa1 (zj h_law_hop hr (zA (qv 0) (zA (qv 1) (zA (qv 2) (zA (qx K (qv 8) (zdx zcn zc)) (qa2 (qv 5) (zW (zar K) (qv 6) (qv 8)))))))))))
  (zf (zaj (zbJ K PySem.F.plainAttrs_list PySem.F.slot_list_append PySem.F.type_list_append zat (qv 8) (qa1 (qv 5))))
  (zg (zac (zbG (zgC K) rfl B.tuple zlN (qa1 (qv 8)))))))))),fun _=>by infer_instance⟩
theorem zgX(F:Fun K "__init__" "Frame.__init__" zcm f fd)(B:Blt mg)(h_check_name:zfg P w K mg base)(h_check_number:zdK P w K mg base)(h_check_ways:zfD P w K mg base){u_MOST_LONG:Value}(c_MOST_LONG:mg "MOST_LONG"=some u_MOST_LONG)(c_MOST_LONG_r:RelV (.int 30) u_MOST_LONG){u_LAST:Value}(c_LAST:mg "LAST"=some u_LAST)(c_LAST_r:RelV (.int 480) u_LAST){a_ROUNDS:Addr}(c_ROUNDS:mg "ROUNDS"=some (.ref a_ROUNDS))[KTup K a_ROUNDS [4,5,6,8,10,12,15,20,24,30,40,60,120]]:zaa P w K mg base CX0 5 f fd ["self","name","ways","every","long","release","last"] (lift K zan) :=
 F.okB zdJ zdo rfl fun _ _ _ _ _ _ hr=>have nd:=zdo.nd;⟨_,(zf (zaj (zj h_check_name hr (qa1 (qv 1))))
  (zf (zaj (zj h_check_ways hr (qa1 (qv 2))))
  (zf (zaL (zJ (zaR K hr) (qv 3) (zeb (v:= .ref a_ROUNDS) rfl c_ROUNDS rfl) (by with_unfolding_all rfl))
  (zg zaX)
  zad)
  (zf (zaj (zj h_check_number hr (zA (qv 4) (qa2 zc (zeb rfl c_MOST_LONG c_MOST_LONG_r)))))
  (zf (zaj (zj h_check_number hr (zA (qv 5) (qa2 zc (zW zj5 (qv 3) zc)))))
  (zf (zaj (zj h_check_number hr (zA (qv 6) (qa2 zc (zeb rfl c_LAST c_LAST_r)))))
  (zf (zc6 K (qv 0) (qv 1))
  (zf (zc6 K (qv 0) (qv 2))
  (zf (zc6 K (qv 0) (qv 3))
  (zf (zc6 K (qv 0) (qv 4))
  (zf (zc6 K (qv 0) (qv 5))
  (zg (zc6 K (qv 0) (qv 6)))))))))))))),fun _=>by infer_instance⟩
theorem znf(F:Fun K "_law_row" "_law_row" zf8 f fd)(B:Blt mg)(h_law_draw:zaQ P w K mg base)(h_law_need:zh2 P w K mg base)(h_law_name:zdd P w K mg base)(h_law_way:ziZ P w K mg base):zaa P w K mg base CX0 5 f fd ["_law_s","_law_names","_law_lines","_law_houses","_law_gates","_law_the_slack"] (lift K zcB) :=
 F.okB zjE zhA rfl fun _ _ _ _ _ _ hr=>have nd:=zhA.nd;⟨_,(zf (qS 6 nd (zj h_law_draw hr (qa2 (qv 0) (zF (zQ K) rfl B.len zax (qa1 (qv 3))))))
  (zf (qS 7 nd (qx K (qv 3) (qv 6)))
  (zf (qS 8 nd (qx K (qv 3) (zW zf6 (zW (zar K) (zW (zar K) (qv 6) zc) (zj h_law_draw hr (qa2 (qv 0) (zW zj5 (zF (zQ K) rfl B.len zax (qa1 (qv 3))) zc)))) (zF (zQ K) rfl B.len zax (qa1 (qv 3))))))
  (zf (zbc (qS 9 nd (zbz (qa1 (zj h_law_way hr (zA (qv 0) (zA (qv 1) (zA (qv 2) (zA (qv 4) (zA (qv 7) (qa2 (qv 8) (zbz zb0))))))))))))
  (zf (zaL (zJ (zeY K hr) (zj h_law_draw hr (qa2 (qv 0) zc)) zc (zaD _))
  (zg (zaj (zbJ K PySem.F.plainAttrs_list PySem.F.slot_list_append PySem.F.type_list_append zat (qv 9) (qa1 (zj h_law_way hr (zA (qv 0) (zA (qv 1) (zA (qv 2) (zA (qv 4) (zA (qv 7) (qa2 (qv 8) (zbG (zeL K) rfl B.list zha (qa1 (zcd (zd9 K) (qx K (qv 9) zc) (zaT zc) (zaT (zdx zcn zc))))))))))))))))
  zad)
  (zf (qS 10 nd (qx K (zbz (znV [12,8,20,24,10,30,15,40,60,12,120] rfl)) (zj h_law_draw hr (qa2 (qv 0) zc))))
  (zf (qS 11 nd (zW (zar K) zc (zj h_law_draw hr (qa2 (qv 0) (zF (zjh K) rfl B.min zsk (qa2 zc (zW zj5 (qv 10) (qv 5))))))))
  (zf (qS 12 nd (zaV (zA (zj h_law_name hr (qa2 (qv 0) (qv 1))) (zA (zbG (zgC K) rfl B.tuple zlN (qa1 (qv 9))) (zA (qv 10) (zA (qv 11) (qa2 (zj h_law_draw hr (qa2 (qv 0) (qv 10))) zc)))))))
  (zf (qS 13 nd (qx K (zbz (zA zc (zA zc (zA zc (zA (zW zfs (qv 10) zc) (zA zc (qa2 (zW zj5 (qv 10) zc) zc))))))) (zj h_law_draw hr (qa2 (qv 0) zc))))
  (zg (zac (zW (zar K) (zcd (zd9 K) (qv 12) zc9 (zaT zc)) (zaV (qa1 (zW (zar K) (zj h_law_need hr (zA (qv 12) (qa2 (qv 2) (qv 5)))) (qv 13)))))))))))))))),fun _=>by infer_instance⟩
theorem zkE(F:Fun K "_law_world" "_law_world" zdG f fd)(B:Blt mg)(h_law_draw:zaQ P w K mg base)(h_law_name:zdd P w K mg base)(h_law_row:ziV P w K mg base):zaa P w K mg base CX0 6 f fd ["_law_s","_law_the_most"] (lift K zbP) :=
 F.okB zgb zfp rfl fun _ _ _ _ _ _ hr=>have nd:=zfp.nd;⟨_,(zf (zbc (qS 2 nd (zbz zb0)))
  (zf (qS 3 nd (zb1 ["_law_k"] ["_law_names","_law_s"] [2,0] (.of rfl (by decide+kernel) rfl) rfl rfl (by decide+kernel) (zbi rfl B.range (qa1 (zW (zar K) zc (zj h_law_draw hr (qa2 (qv 0) zc))))) (fun _ _ _ _=>(zaf (i:=0) (show List.Nodup (["_law_k","_law_names","_law_s"]:List Str) by decide+kernel) rfl (Or.inl rfl))) (fun _ _ _ _=>zaK) (fun _ _ _ _=>(zj h_law_name hr (qa2 (qv 2) (qv 1))))))
  (zf (qS 4 nd (zb1 ["_law_k"] ["_law_names","_law_s"] [2,0] (.of rfl (by decide+kernel) rfl) rfl rfl (by decide+kernel) (zbi rfl B.range (qa1 (zj h_law_draw hr (qa2 (qv 0) zc)))) (fun _ _ _ _=>(zaf (i:=0) (show List.Nodup (["_law_k","_law_names","_law_s"]:List Str) by decide+kernel) rfl (Or.inl rfl))) (fun _ _ _ _=>zaK) (fun _ _ _ _=>(zj h_law_name hr (qa2 (qv 2) (qv 1))))))
  (zf (qS 5 nd (qx K (zbz (znV [0,1,2,0,3,1,5,7] rfl)) (zj h_law_draw hr (qa2 (qv 0) zc))))
  (zf (zbc (qS 6 nd (zbz zb0)))
  (zf (zd5 ["_law_k"] ["_law_gates","_law_houses","_law_lines","_law_names","_law_s","_law_the_slack"] [4,3,6,2,0,5] (i:=7) nd rfl rfl (.of rfl (by decide+kernel) rfl) rfl rfl (by decide+kernel) (zbi rfl B.range (qa1 (zW (zar K) zc (zj h_law_draw hr (qa2 (qv 0) (qv 1)))))) (fun _ _ _ _=>(zaf (i:=0) (show List.Nodup (["_law_k","_law_gates","_law_houses","_law_lines","_law_names","_law_s","_law_the_slack"]:List Str) by decide+kernel) rfl (Or.inl rfl))) (fun _ _ _ _=>zaK) (fun _ _ _ _=>(zj h_law_row hr (zA (qv 5) (zA (qv 4) (zA (qv 3) (zA (qv 2) (qa2 (qv 1) (qv 6)))))))))
  (zg (zac (zaV (zA (qv 3) (zA (qv 4) (zA (qv 6) (zA (qv 7) (qa2 (qv 5) (qv 2))))))))))))))),fun _=>by infer_instance⟩
theorem zky(F:Fun K "_law_frame" "_law_frame" zdA f fd)(B:Blt mg)(hM_FrameD_initD_3_every_long_release_last:zab P w K mg base):zaa P w K mg base CX0 7 f fd ["_law_row_here"] (lift K zbO) :=
 F.okB zgJ ze5 rfl fun _ _ _ _ _ _ hr=>have nd:=ze5.nd;⟨_,(zg (zac (zlP K hM_FrameD_initD_3_every_long_release_last hr (qa2 (qx K (qv 0) zc) (qx K (qv 0) zc)) (zg2 (qx K (qv 0) zc) (zg2 (qx K (qv 0) zc) (zg2 (qx K (qv 0) zc) (zg2 (qx K (qv 0) zc) zrm))))))),fun _=>by infer_instance⟩
theorem ziB(F:Fun K "_law_frames" "_law_frames" zc8 f fd)(B:Blt mg)(h_law_frame:zgL P w K mg base):zaa P w K mg base CX0 8 f fd ["_law_rows"] (lift K zbt) :=
 F.okB zfm zeB rfl fun _ _ _ _ _ _ hr=>have nd:=zeB.nd;⟨_,(zg (zac (zb1 ["_law_row_here"] [] [] (.of rfl (by decide+kernel) rfl) rfl rfl (by decide+kernel) (zaJ K (qv 0)) (fun _ _ _ _=>(zaf (i:=0) (show List.Nodup (["_law_row_here"]:List Str) by decide+kernel) rfl (Or.inl rfl))) (fun _ _ _ _=>zaK) (fun _ _ _ _=>(zj h_law_frame hr (qa1 (qv 0))))))),fun _=>by infer_instance⟩
def zpW:DSp:=zR zqL zrq 1
theorem zwc(F:Fun K "law" "law" zrU f fd)(B:Blt mg)(h_law_start:zgF P w K mg base)(h_law_draw:zaQ P w K mg base)(h_law_spots:zdY P w K mg base)(h_law_rows_of:zeC P w K mg base)(h_table_of:zhp P w K mg base)(h_law_world:zgi P w K mg base)(h_law_frames:zfE P w K mg base)(hT_Table_told_1:zdk P w K mg base)(hL_Table:zrs P w K mg base CX0 "Table" 1 ["self"] (lift K zav)):zaa P w K mg base CX0 9 f fd ["_law_script"] (lift K zpW) :=
 F.okB zqL zrS rfl fun _ _ _ _ _ _ hr=>have nd:=zrS.nd;⟨_,(zf (qS 1 nd (zj h_law_start hr (qa1 (qv 0))))
  (zf (qS 2 nd (zj h_law_world hr (qa2 (qv 1) zc)))
  (zf (qS 3 nd (zj h_law_draw hr (qa2 (qv 1) (zF (zQ K) rfl B.len zax (qa1 (qx K (qv 2) zc))))))
  (zf (qS 4 nd (zj h_law_frames hr (qa1 (zW (zar K) (zcd (zd9 K) (qx K (qv 2) zc) (zaT (qv 3)) zc9) (zcd (zd9 K) (qx K (qv 2) zc) zc9 (zaT (qv 3)))))))
  (zf (zd5 ["_law_spot"] ["_law_s"] [1] (i:=5) nd rfl rfl (.of rfl (by decide+kernel) rfl) rfl rfl (by decide+kernel) (zaJ K (zj h_law_spots hr (qa1 (qx K (qv 2) zc)))) (fun _ _ _ _=>(zaf (i:=0) (show List.Nodup (["_law_spot","_law_s"]:List Str) by decide+kernel) rfl (Or.inl rfl))) (fun _ _ _ _=>zaK) (fun _ _ _ _=>(zj h_law_draw hr (qa2 (qv 1) zc))))
  (zf (qS 6 nd (zbG (zeL K) rfl B.list zha (qa1 (qv 5))))
  (zf (qS 7 nd (zj h_table_of hr (qa2 (qv 4) (qv 6))))
  (zf (zaL (WW.qt (zjI (zJ (zih K hr) (qv 6) (qv 5) (zaD _)) (zfK (zJ (zih K hr) (zF (zpF K hL_Table hr) rfl B.len zax (qa1 (qv 7))) (zF (zoC K) rfl B.sum zvp (qa1 (zb1 ["_law_row_here"] [] [] (.of rfl (by decide+kernel) rfl) rfl rfl (by decide+kernel) (zaJ K (qx K (qv 2) zc)) (fun _ _ _ _=>(zaf (i:=0) (show List.Nodup (["_law_row_here"]:List Str) by decide+kernel) rfl (Or.inl rfl))) (fun _ _ _ _=>zaK) (fun _ _ _ _=>(zF (zQ K) rfl B.len zax (qa1 (qx K (qv 0) zc))))))) (zaD _)))))
  (zg (zac zyH))
  zad)
  (zg (zac (zkM (zeY K hr) (zoq (pl:=_) K hT_Table_told_1 hr (qv 7)) (zF (zeS K) rfl B.sorted zfQ (qa1 (zj h_law_rows_of hr (qa2 (qx K (qv 2) zc) (qv 5))))) (zaD _)))))))))))),fun _=>by infer_instance⟩
end
theorem zvt{l:PySem.W.OpenLaw}{w:World}{K:Frag}{h:Heap}{mg:Str->Option Value}{fa:Addr}(X:K.In h)(G:h.Ns mainGlobals mg)(hfa:mg "law"=some (.ref fa))
  {C_Frame:Addr}(q_Frame:ztj K "Frame" C_Frame zcU)
  {C_Table:Addr}(q_Table:ztj K "Table" C_Table zdI)
  (et0:zj9 K zuD zuP zuT zuO=true)
  {f0:Addr}{d0:FuncData}(p0:zbs K "is_made_of" zdg f0 d0)
  {f1:Addr}{d1:FuncData}(p1:zbs K "is_name" zf1 f1 d1)
  {f2:Addr}{d2:FuncData}(p2:zbs K "check_name" zdc f2 d2)
  {f3:Addr}{d3:FuncData}(p3:zbs K "is_number" zdu f3 d3)
  {f4:Addr}{d4:FuncData}(p4:zbs K "check_whole" zcL f4 d4)
  {f5:Addr}{d5:FuncData}(p5:zbs K "check_number" zco f5 d5)
  {f6:Addr}{d6:FuncData}(p6:zl6 K C_Frame "__init__" "Frame.__init__" zcm f6 d6)
  {f7:Addr}{d7:FuncData}(p7:zbs K "check_ways" zc4 f7 d7)
  {f8:Addr}{d8:FuncData}(p8:zbs K "check_way" zdv f8 d8)
  {f9:Addr}{d9:FuncData}(p9:zbs K "check_both_ways" zbv f9 d9)
  {f10:Addr}{d10:FuncData}(p10:zbs K "by_name" zfW f10 d10)
  {f11:Addr}{d11:FuncData}(p11:zbs K "lines_of" zeV f11 d11)
  {f12:Addr}{d12:FuncData}(p12:zbs K "order" zkA f12 d12)
  {f13:Addr}{d13:FuncData}(p13:zl6 K C_Table "__init__" "Table.__init__" zcf f13 d13)
  {f14:Addr}{d14:FuncData}(p14:zl6 K C_Table "told" "Table.told" zc5 f14 d14)
  {f15:Addr}{d15:FuncData}(p15:zl6 K C_Table "__len__" "Table.__len__" zcG f15 d15)
  (e15:d15.defaults= .none)
  {f16:Addr}{d16:FuncData}(p16:zbs K "table_of" zeQ f16 d16)
  {f17:Addr}{d17:FuncData}(p17:zbs K "_law_start" zdN f17 d17)
  {f18:Addr}{d18:FuncData}(p18:zbs K "_law_draw" zeK f18 d18)
  {f19:Addr}{d19:FuncData}(p19:zbs K "_law_pick" zeO f19 d19)
  {f20:Addr}{d20:FuncData}(p20:zbs K "_law_name" zeU f20 d20)
  {f21:Addr}{d21:FuncData}(p21:zbs K "_law_hop" zfU f21 d21)
  {f22:Addr}{d22:FuncData}(p22:zbs K "_law_way" zfX f22 d22)
  {f23:Addr}{d23:FuncData}(p23:zbs K "_law_need" ze0 f23 d23)
  {f24:Addr}{d24:FuncData}(p24:zbs K "_law_row" zf8 f24 d24)
  {f25:Addr}{d25:FuncData}(p25:zbs K "_law_world" zdG f25 d25)
  {f26:Addr}{d26:FuncData}(p26:zbs K "_law_frame" zdA f26 d26)
  {f27:Addr}{d27:FuncData}(p27:zbs K "_law_frames" zc8 f27 d27)
  {f28:Addr}{d28:FuncData}(p28:zbs K "_law_spots" zdt f28 d28)
  {f29:Addr}{d29:FuncData}(p29:zbs K "_law_rows_of" zcK f29 d29)
  {f30:Addr}{d30:FuncData}(p30:zbs K "law" zrU f30 d30)
  (z_len:nsIn K mainGlobals "len"=some none)
  (z_abs:nsIn K mainGlobals "abs"=some none)
  (z_max:nsIn K mainGlobals "max"=some none)
  (z_min:nsIn K mainGlobals "min"=some none)
  (z_all:nsIn K mainGlobals "all"=some none)
  (z_any:nsIn K mainGlobals "any"=some none)
  (z_sum:nsIn K mainGlobals "sum"=some none)
  (z_sorted:nsIn K mainGlobals "sorted"=some none)
  (z_isinstance:nsIn K mainGlobals "isinstance"=some none)
  (z_list:nsIn K mainGlobals "list"=some none)
  (z_tuple:nsIn K mainGlobals "tuple"=some none)
  (z_int:nsIn K mainGlobals "int"=some none)
  (z_bool:nsIn K mainGlobals "bool"=some none)
  (z_str:nsIn K mainGlobals "str"=some none)
  (z_set:nsIn K mainGlobals "set"=some none)
  (z_dict:nsIn K mainGlobals "dict"=some none)
  (z_zip:nsIn K mainGlobals "zip"=some none)
  (z_range:nsIn K mainGlobals "range"=some none)
  (z_enumerate:nsIn K mainGlobals "enumerate"=some none)
  (z_reversed:nsIn K mainGlobals "reversed"=some none)
  (z_repr:nsIn K mainGlobals "repr"=some none)
  {u_MOST_LONG:Value}(g_MOST_LONG:nsIn K mainGlobals "MOST_LONG"=some (some u_MOST_LONG))
  (v_MOST_LONG:zeM u_MOST_LONG=some 30)
  {u_LAST:Value}(g_LAST:nsIn K mainGlobals "LAST"=some (some u_LAST))
  (v_LAST:zeM u_LAST=some 480)
  {u_LETTERS:Value}(g_LETTERS:nsIn K mainGlobals "LETTERS"=some (some u_LETTERS))
  (v_LETTERS:zmT u_LETTERS=some "abcdefghijklmnopqrstuvwxyz")
  {u_MOST_LETTERS:Value}(g_MOST_LETTERS:nsIn K mainGlobals "MOST_LETTERS"=some (some u_MOST_LETTERS))
  (v_MOST_LETTERS:zeM u_MOST_LETTERS=some 8)
  {aT_ROUNDS:Addr}(g_ROUNDS:nsIn K mainGlobals "ROUNDS"=some (some (.ref aT_ROUNDS)))
  {oT_ROUNDS:Obj}(lo_ROUNDS:K.lookup aT_ROUNDS=some oT_ROUNDS)
  (ti_ROUNDS:zgZ oT_ROUNDS=some ([4,5,6,8,10,12,15,20,24,30,40,60,120]:List Int))
  {aT_WAY_LENGTHS:Addr}(g_WAY_LENGTHS:nsIn K mainGlobals "WAY_LENGTHS"=some (some (.ref aT_WAY_LENGTHS)))
  {oT_WAY_LENGTHS:Obj}(lo_WAY_LENGTHS:K.lookup aT_WAY_LENGTHS=some oT_WAY_LENGTHS)
  (ti_WAY_LENGTHS : zgZ oT_WAY_LENGTHS = some ([3, 5, 7] : List Int))
   (d_Table_told_1:zny K d14 ["self"] [] 1 0 [.p 0] [])
   (d_TableD_initD_2:zny K d13 ["self","rows"] [] 2 0 [.p 0, .p 1] [])
   (d_FrameD_initD_3_every_long_release_last:zny K d6 ["self","name","ways","every","long","release","last"] ["every","long","release","last"] 3 4 [.p 0, .p 1, .p 2, .k 0, .k 1, .k 2, .k 3] [])
  {cL PL:Addr}(lT9:tabIn K "by_name"=some (cL,PL))(hcL:d10.code= .ref cL)
  : ∃fd:FuncData,(∀(s:Shared) (v:Value),BindsTo s fd ⟨[v],[]⟩ [("_law_script",v)])/\∀base:Heap,K.In base->base.Ns mainGlobals mg->zkn base mg cL PL->zaa l.prog w K mg base CX0 9 fa fd ["_law_script"] (zkw K PL):=by
 have e:=hfa.symm.trans (mg_of X G p30.at_);cases e;have B:Blt mg:=⟨mg_none_of X G z_len,mg_none_of X G z_abs,mg_none_of X G z_max,mg_none_of X G z_min,mg_none_of X G z_all,mg_none_of X G z_any,mg_none_of X G z_sum,mg_none_of X G z_sorted,mg_none_of X G z_isinstance,mg_none_of X G z_list,mg_none_of X G z_tuple,mg_none_of X G z_int,mg_none_of X G z_bool,mg_none_of X G z_str,mg_none_of X G z_set,mg_none_of X G z_dict,mg_none_of X G z_zip,mg_none_of X G z_range,mg_none_of X G z_enumerate,mg_none_of X G z_reversed,mg_none_of X G z_repr⟩;haveI tk:TabOk K tab:=zhP (zcp q_Frame.at_) q_Frame.cl q_Frame.na (zhP (zcp q_Table.at_) q_Table.cl q_Table.na (zpa))
 haveI kt_ROUNDS:KTup K aT_ROUNDS [4,5,6,8,10,12,15,20,24,30,40,60,120]:=⟨fun H=>zsy lo_ROUNDS ti_ROUNDS H⟩
 haveI kt_WAY_LENGTHS:KTup K aT_WAY_LENGTHS [3,5,7]:=⟨fun H=>zsy lo_WAY_LENGTHS ti_WAY_LENGTHS H⟩
 haveI ic_Frame:zn3 K "Frame" C_Frame:=⟨zcp q_Frame.at_,by decide+kernel⟩
 haveI ic_Table:zn3 K "Table" C_Table:=⟨zcp q_Table.at_,by decide+kernel⟩
 haveI et:zjW K zuD zuP zuT zuO:=⟨et0⟩
 refine⟨d30,fun s v=>by obtain⟨e,y⟩:=p30;obtain⟨_,_,kV,_,_,_,_,_,_,rfl,_,_⟩:=e.F.ex;have y1:kV.1= .none:=y;exact .of_eq (by rw[y1];rfl),fun base _ _ lb9=>?_⟩;haveI lp9:zxl K "by_name" PL:=⟨⟨_,lT9⟩⟩
 have h_is_made_of:ze7 l.prog w K mg base:=p0.has p0.bd X G (ziO p0.F B );have h_is_number:zgl l.prog w K mg base:=p3.has p3.bd X G (zkW p3.F B );have h_check_both_ways:zcA l.prog w K mg base:=p9.has p9.bd X G (zeJ p9.F B );have h_by_name:zi4 l.prog w K mg base:=p10.has p10.bd X G (zmn p10.F B  lb9 hcL);have h_lines_of:zhN l.prog w K mg base:=p11.has p11.bd X G (zlm p11.F B );have hM_TableD_initD_2:zcs l.prog w K mg base:=p13.hasM q_Table X G (zgO p13.F B ) (kbk d_TableD_initD_2 .nil);have hT_Table_told_1:zdk l.prog w K mg base:=p14.hasT q_Table (ziy p14.F B ) (kbk d_Table_told_1 .nil);have b15:=p15.F.binds (ps:=["self"]) (fun _ _ _ _ _ _=>al1 fun _=>rfl) e15;have hL_Table:zrs l.prog w K mg base CX0 "Table" 1 ["self"] (lift K zav):=⟨C_Table,_,_,zcp q_Table.at_,zhW p15.F B,b15,p15.at_,p15.fn⟩;have h_law_start:zgF l.prog w K mg base:=p17.has p17.bd X G (zqz p17.F B);have h_law_draw:zaQ l.prog w K mg base:=p18.has p18.bd X G (zsU p18.F B);have h_law_need:zh2 l.prog w K mg base:=p23.has p23.bd X G (zk5 p23.F B );have h_law_spots:zdY l.prog w K mg base:=p28.has p28.bd X G (zkg p28.F B );have h_is_name:zf2 l.prog w K mg base:=p1.has p1.bd X G (zmw p1.F B h_is_made_of (mg_of X G g_LETTERS) (zmI v_LETTERS) (mg_of X G g_MOST_LETTERS) (zda v_MOST_LETTERS));have h_check_whole:zeg l.prog w K mg base:=p4.has p4.bd X G (zil p4.F B h_is_number);have h_order:znu l.prog w K mg base:=p12.has p12.bd X G (zr0 p12.F B h_by_name h_lines_of);have h_law_pick:zeW l.prog w K mg base:=p19.has p19.bd X G (zl8 p19.F B h_law_draw);have h_law_name:zdd l.prog w K mg base:=p20.has p20.bd X G (zlR p20.F B h_law_draw);have h_law_rows_of:zeC l.prog w K mg base:=p29.has p29.bd X G (zhv p29.F B h_law_spots);have h_check_name:zfg l.prog w K mg base:=p2.has p2.bd X G (zix p2.F B h_is_name);have h_check_number:zdK l.prog w K mg base:=p5.has p5.bd X G (zgR p5.F B h_check_whole);have h_check_way:zgk l.prog w K mg base:=p8.has p8.bd X G (zkf p8.F B h_is_name (mg_of X G g_WAY_LENGTHS));have h_table_of:zhp l.prog w K mg base:=p16.has p16.bd X G (zl5 p16.F B h_order hM_TableD_initD_2);have h_law_hop:zi2 l.prog w K mg base:=p21.has p21.bd X G (zmK p21.F B h_law_draw h_law_pick h_law_name);have h_check_ways:zfD l.prog w K mg base:=p7.has p7.bd X G (ziD p7.F B h_check_both_ways h_check_way);have h_law_way:ziZ l.prog w K mg base:=p22.has p22.bd X G (zm8 p22.F B h_law_draw h_law_pick h_law_hop);have hM_FrameD_initD_3_every_long_release_last:zab l.prog w K mg base:=p6.hasM q_Frame X G (zgX p6.F B h_check_name h_check_number h_check_ways (mg_of X G g_MOST_LONG) (zda v_MOST_LONG) (mg_of X G g_LAST) (zda v_LAST) (mg_of X G g_ROUNDS)) (kbk d_FrameD_initD_3_every_long_release_last .nil);have h_law_row:ziV l.prog w K mg base:=p24.has p24.bd X G (znf p24.F B h_law_draw h_law_need h_law_name h_law_way);have h_law_world:zgi l.prog w K mg base:=p25.has p25.bd X G (zkE p25.F B h_law_draw h_law_name h_law_row);have h_law_frame:zgL l.prog w K mg base:=p26.has p26.bd X G (zky p26.F B hM_FrameD_initD_3_every_long_release_last);have h_law_frames:zfE l.prog w K mg base:=p27.has p27.bd X G (ziB p27.F B h_law_frame);exact(zwc p30.F B h_law_start h_law_draw h_law_spots h_law_rows_of h_table_of h_law_world h_law_frames hT_Table_told_1 hL_Table).imp fun vs H Q E h=>zrc zwH (zoY lT9 vs H Q E h)
theorem walk{l:PySem.W.OpenLaw}{q:Program}{loose:List Str}{XP:(Str->Option Value)->Heap->Prop}{YP:World->Heap->Prop}{d dL:DefRec}{K:Params->Frag}{cL PL:Addr}(hn:l.most=some 63)(hdf:d.params.defaults=[])
  (hY:∀(w:World) (h:Heap),YP w h->(K w.params).In h)(hf:List.find? (fun e=>e.name==Str.ofString "by_name") (PyProof.Rows.recsOf q)=some dL)(hT:∀w:World,tabIn (K w.params) "by_name"=some (cL,PL))(hKP:∀w:World,(K w.params).lookup PL=none)
  (F:∀(w:World) (mg:Str->Option Value) (fa:Addr) (h:Heap),(K w.params).In h->h.Ns mainGlobals mg->mg d.name=some (.ref fa) ->
   ∃fd:FuncData,(∀(s:Shared) (u:Value),BindsTo s fd ⟨[u],[]⟩ [("_law_script",u)])/\∀base:Heap,(K w.params).In base->base.Ns mainGlobals mg->zkn base mg cL PL->zaa l.prog w (K w.params) mg base CX0 9 fa fd ["_law_script"] (zkw (K w.params) PL)) :
  PySem.W.WalkO q loose XP YP l.row.toRowW d [] (fun f vs=>PySem.call f vs) :=
 L2.zrB (n:=63) (k:=9) (x:="_law_script") (CX:=fun _=>CX0) (sp:=fun w=>zkw (K w.params) PL) hn (by decide) hdf ⟨fun _=>rfl,by decide,by decide,rfl⟩ hY hf hT hKP F (fun _ _ a ns hl hP hS=>⟨a,ns,rfl,hS,hl,hP,fun _=>rfl⟩) fun _ _ _ _ _ z=>z
end M
open PySem PySem.W PyProof.Rows L2
set_option maxRecDepth 100000 in
set_option maxHeartbeats 0 in
theorem PySem.Challenge.cw_slotwright_k28_table_of_starts_holds : PySem.Challenge.rw_slotwright_k28_table_of_starts.Holds := by
 refine H0.hd0 ?_;k_fill
 refine M.walk (l:=PySem.Challenge.rw_slotwright_k28_table_of_starts) (cL:=191) (PL:=187) (dL:=?dL) rfl rfl (fun w h Y=>PySem.W.km_in_of Y) ?hf ?hT ?hKP ?F
 case hf=>rfl
 case hT=>intro w;kernel_rfl
 case hKP=>intro w;kernel_rfl
 case F =>
  intro w mg fa h KX G hmg;refine' M.zvt KX G hmg ⟨?z0,⟨?z1,?z2,?z3,?z4⟩,?z5,?z6,(L2.zc3 ?z7 (L2.zc3 ?z8 (L2.zc3 ?z9 (L2.zc3 ?z10 (L2.zc3 ?z11 (L2.zc3 ?z12 (List.forall_mem_nil _)))))))⟩ ⟨?z13,⟨?z14,?z15,?z16,?z17⟩,?z18,?z19,(L2.zc3 ?z20 (List.forall_mem_nil _))⟩ ?z21 ⟨⟨?z22,zT ?z23 ?z24 ?z25⟩,?z26⟩ ⟨⟨?z27,zT ?z28 ?z29 ?z30⟩,?z31⟩ ⟨⟨?z32,zT ?z33 ?z34 ?z35⟩,?z36⟩ ⟨⟨?z37,zT ?z38 ?z39 ?z40⟩,?z41⟩ ⟨⟨?z42,zT ?z43 ?z44 ?z45⟩,?z46⟩ ⟨⟨?z47,zT ?z48 ?z49 ?z50⟩,?z51⟩ ⟨?z52,?z53,zT ?z54 ?z55 ?z56⟩ ⟨⟨?z57,zT ?z58 ?z59 ?z60⟩,?z61⟩ ⟨⟨?z62,zT ?z63 ?z64 ?z65⟩,?z66⟩ ⟨⟨?z67,zT ?z68 ?z69 ?z70⟩,?z71⟩ ⟨⟨?z72,zT ?z73 ?z74 ?z75⟩,?z76⟩ ⟨⟨?z77,zT ?z78 ?z79 ?z80⟩,?z81⟩ ⟨⟨?z82,zT ?z83 ?z84 ?z85⟩,?z86⟩ ⟨?z87,?z88,zT ?z89 ?z90 ?z91⟩ ⟨?z92,?z93,zT ?z94 ?z95 ?z96⟩ ⟨?z97,?z98,zT ?z99 ?z100 ?z101⟩ ?z102 ⟨⟨?z103,zT ?z104 ?z105 ?z106⟩,?z107⟩ ⟨⟨?z108,zT ?z109 ?z110 ?z111⟩,?z112⟩ ⟨⟨?z113,zT ?z114 ?z115 ?z116⟩,?z117⟩ ⟨⟨?z118,zT ?z119 ?z120 ?z121⟩,?z122⟩ ⟨⟨?z123,zT ?z124 ?z125 ?z126⟩,?z127⟩ ⟨⟨?z128,zT ?z129 ?z130 ?z131⟩,?z132⟩ ⟨⟨?z133,zT ?z134 ?z135 ?z136⟩,?z137⟩ ⟨⟨?z138,zT ?z139 ?z140 ?z141⟩,?z142⟩ ⟨⟨?z143,zT ?z144 ?z145 ?z146⟩,?z147⟩ ⟨⟨?z148,zT ?z149 ?z150 ?z151⟩,?z152⟩ ⟨⟨?z153,zT ?z154 ?z155 ?z156⟩,?z157⟩ ⟨⟨?z158,zT ?z159 ?z160 ?z161⟩,?z162⟩ ⟨⟨?z163,zT ?z164 ?z165 ?z166⟩,?z167⟩ ⟨⟨?z168,zT ?z169 ?z170 ?z171⟩,?z172⟩ ⟨⟨?z173,zT ?z174 ?z175 ?z176⟩,?z177⟩ ?z178 ?z179 ?z180 ?z181 ?z182 ?z183 ?z184 ?z185 ?z186 ?z187 ?z188 ?z189 ?z190 ?z191 ?z192 ?z193 ?z194 ?z195 ?z196 ?z197 ?z198 ?z199 ?z200 ?z201 ?z202 ?z203 ?z204 ?z205 ?z206 ?z207 ?z208 ?z209 ?z210 ?z211 ?z212 ?z213 ?z214 ?z215 ?z216 ?z217
  case z0 | z1 | z2 | z3 | z4 | z5 | z6 | z7 | z8 | z9 | z10 | z11 | z12 | z13 | z14 | z15 | z16 | z17 | z18 | z19 | z20=>k_is
  case z21=>kernel_rfl
  case z22 | z23 | z24 | z25=>k_is
  case z26=>rfl
  case z27 | z28 | z29 | z30=>k_is
  case z31=>rfl
  case z32 | z33 | z34 | z35=>k_is
  case z36=>rfl
  case z37 | z38 | z39 | z40=>k_is
  case z41=>rfl
  case z42 | z43 | z44 | z45=>k_is
  case z46=>rfl
  case z47 | z48 | z49 | z50=>k_is
  case z51=>rfl
  case z52 | z53 | z54 | z55 | z56 | z57 | z58 | z59 | z60=>k_is
  case z61=>rfl
  case z62 | z63 | z64 | z65=>k_is
  case z66=>rfl
  case z67 | z68 | z69 | z70=>k_is
  case z71=>rfl
  case z72 | z73 | z74 | z75=>k_is
  case z76=>rfl
  case z77 | z78 | z79 | z80=>k_is
  case z81=>rfl
  case z82 | z83 | z84 | z85=>k_is
  case z86=>rfl
  case z87 | z88 | z89 | z90 | z91 | z92 | z93 | z94 | z95 | z96 | z97 | z98 | z99 | z100 | z101=>k_is
  case z102=>rfl
  case z103 | z104 | z105 | z106=>k_is
  case z107=>rfl
  case z108 | z109 | z110 | z111=>k_is
  case z112=>rfl
  case z113 | z114 | z115 | z116=>k_is
  case z117=>rfl
  case z118 | z119 | z120 | z121=>k_is
  case z122=>rfl
  case z123 | z124 | z125 | z126=>k_is
  case z127=>rfl
  case z128 | z129 | z130 | z131=>k_is
  case z132=>rfl
  case z133 | z134 | z135 | z136=>k_is
  case z137=>rfl
  case z138 | z139 | z140 | z141=>k_is
  case z142=>rfl
  case z143 | z144 | z145 | z146=>k_is
  case z147=>rfl
  case z148 | z149 | z150 | z151=>k_is
  case z152=>rfl
  case z153 | z154 | z155 | z156=>k_is
  case z157=>rfl
  case z158 | z159 | z160 | z161=>k_is
  case z162=>rfl
  case z163 | z164 | z165 | z166=>k_is
  case z167=>rfl
  case z168 | z169 | z170 | z171=>k_is
  case z172=>rfl
  case z173 | z174 | z175 | z176=>k_is
  case z177=>rfl
  case z178 | z179 | z180 | z181 | z182 | z183 | z184 | z185 | z186 | z187 | z188 | z189 | z190 | z191 | z192 | z193 | z194 | z195 | z196 | z197 | z198 | z199=>k_is
  case z200=>rfl
  case z201=>k_is
  case z202=>rfl
  case z203=>k_is
  case z204=>rfl
  case z205=>k_is
  case z206=>rfl
  case z207 | z208=>k_is
  case z209=>rfl
  case z210 | z211=>k_is
  case z212=>rfl
  case z213=>exact fun S=>al1 fun _=>al0 <| by with_unfolding_all rfl
  case z214=>exact fun S=>al2 fun _ _=>al0 <| by with_unfolding_all rfl
  case z215=>exact fun S=>al3 fun _ _ _=>al4 fun _ _ _ _=>by with_unfolding_all rfl
  case z216=>kernel_rfl
  case z217=>rfl
