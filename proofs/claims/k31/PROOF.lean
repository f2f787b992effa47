import PyProof.Rows.All
import Wide.All
import OpenK.AllK
import Wide.FinOn
import Lean
import PyProof.EqAt
import PyProof.EqKinds
import PyProof.TupleCall
import PyProof.P3In
import PyProof.DictCompW
import PyProof.Rows.ReprR
import PyProof.ReprLen
import PySem.Challenge.RW_slotwright_k31_worst_coming
set_option Elab.async false
open PySem.W (Frag nsIn mg_none_of mg_of findIn kia_one emptyDict keepIn instObj kitOne fnOf KasT lookIn plainGet isFn methodObj hasDictIn plainGet_of takerIn makesIn callWith_KW codeIn kas_rev kat_nil)
namespace H0
open PySem PySem.W PyProof.Rows
def topT(tb:String→Option Builtin)(p:Program)(w:World)(n0:Nat)(ann:Option Value):Nat→SharedT→Thread→Option SharedT
 | 0,_,_=>none
 | n+1,s,t=>match through t with
  | true=>some s
  | false=>match stepOk n0 ann t with
   | false=>none
   | true=>match stepT (denote tb) p w s t with
    | some (s',t')=>topT tb p w n0 ann n s' t'
    | none=>none
theorem topT_run{tb:String→Option Builtin}{p:Program}{w:World}{n0:Nat}{ann:Option Value}:∀{n:Nat} {s s':SharedT} {t:Thread},topT tb p w n0 ann n s t=some s'→topRun tb p w n0 ann n s.abs t=some s'.abs:=by
 intro n;induction n with
 | zero=>intro s s' t h;cases h
 | succ n ih =>
  intro s s' t h;unfold topT at h;unfold topRun;cases ht:through t with
  | true=>rw[ht] at h;cases h;rfl
  | false =>
   rw[ht] at h;cases hk:stepOk n0 ann t with
   | false=>rw[hk] at h;cases h
   | true =>
    rw[hk] at h;cases hs:stepT (denote tb) p w s t with
    | none=>rw[hs] at h;cases h
    | some r=>obtain⟨s2,t2⟩:=r;rw[hs] at h;dsimp only;rw[stepT_spec hs];exact ih h
def treeOf:List Obj→BT→Nat→BT
 | [],t,_=>t
 | o::r,t,n=>treeOf r (t.ins n o) (n+1)
def looksAt(p:Program)(h0:Heap)(s:Shared):Bool:=staticsOk (importedModules p.main.body) h0 s.heap&&namesBound p s.heap&&gensDone s&&laidKept h0 s.heap
noncomputable def st0(m0:Nat)(w:World)(os:OsState):SharedT:=⟨treeOf (boot_heap w.params).objs.toList .nil 0,m0,(boot_heap w.params).life,Array.mk [],boot_drawn,boot_toks,os⟩
theorem left_tree{p q:Program}{loose:List Str}{Xt:Shared→Bool}{α:Type}{Yf:Shared→α}{Ya:World→α}{N:Nat}{g0:Bool}{m0:Nat}{ann:Option Value}
  (open_:∀w:World,(fencedOpening treeTable p w N).map (fun s=>(s.heap,s.gens,s.drawn,s.toks))=some (boot_heap w.params,Array.mk [],boot_drawn,boot_toks))
  (tree:∀w:World,absHeap (treeOf (boot_heap w.params).objs.toList .nil 0) m0 (boot_heap w.params).life=boot_heap w.params)
  (size:∀w:World,((boot_heap w.params).isNs mainGlobals,(boot_heap w.params).objs.size,(boot_heap w.params).nsMap mainGlobals "__annotations__")=(true,m0,ann))
  (runA:∀(w:World) (os:OsState),(topT treeTable p w m0 ann N (st0 m0 w os) (topStub p)).map (fun s=>(looksAt p (boot_heap w.params) s.abs,(openSeen q loose (importedModules p.main.body) Xt g0 s.abs).1,(openSeen q loose (importedModules p.main.body) Xt g0 s.abs).2.1,(openSeen q loose (importedModules p.main.body) Xt g0 s.abs).2.2.1))=some (true,(openGood q loose).1,(openGood q loose).2.1,(openGood q loose).2.2.1))
  (runB:∀(w:World) (os:OsState),(topT treeTable p w m0 ann N (st0 m0 w os) (topStub p)).map (fun s=>(openSeen q loose (importedModules p.main.body) Xt g0 s.abs).2.2.2)=some (openGood q loose).2.2.2)
  (runC:∀(w:World) (os:OsState),(topT treeTable p w m0 ann N (st0 m0 w os) (topStub p)).map (fun s=>Yf s.abs)=some (Ya w)) :
  LeftO p q loose Xt Yf Ya N g0:=fun w=>by
 obtain⟨⟨h,gs,d,k,os⟩,e,e'⟩:=Option.map_eq_some_iff.mp (open_ w);obtain⟨rfl,rfl,rfl,rfl⟩:h=boot_heap w.params∧gs=Array.mk []∧d=boot_drawn∧k=boot_toks:=by simpa using e'
 obtain⟨z1,z2,z3⟩:_∧_∧_:=by simpa only[Prod.mk.injEq] using size w
 obtain⟨s,r,la⟩:=Option.map_eq_some_iff.mp (runA w os);obtain⟨s1,r1,lb⟩:=Option.map_eq_some_iff.mp (runB w os);obtain⟨s2,r2,lc⟩:=Option.map_eq_some_iff.mp (runC w os);have q1:s=s1:=Option.some.inj (r.symm.trans r1);have q2:s=s2:=Option.some.inj (r.symm.trans r2);subst q1 q2;obtain⟨l1,a1,a2,a3⟩:_∧_∧_∧_:=by simpa only[Prod.mk.injEq] using la
 unfold looksAt at l1;have l2:openSeen q loose (importedModules p.main.body) Xt g0 s.abs=openGood q loose:=Prod.ext a1 (Prod.ext a2 (Prod.ext a3 lb));have l3:Yf s.abs=Ya w:=lc;have r2:=topT_run r;have r3:topRun treeTable p w m0 ann N ⟨boot_heap w.params,Array.mk [],boot_drawn,boot_toks,os⟩ (topStub p)=some s.abs:=by
  rw[← r2];show _=topRun treeTable p w m0 ann N ⟨absHeap (treeOf (boot_heap w.params).objs.toList .nil 0) m0 (boot_heap w.params).life,Array.mk [],boot_drawn,boot_toks,os⟩ (topStub p);rw[tree w]
 have z4:((boot_heap w.params).isNs mainGlobals&&(Array.mk []:Array GenState).size==0)=true:=by rw[z1];rfl
 have t:topFrom treeTable p w N ⟨boot_heap w.params,Array.mk [],boot_drawn,boot_toks,os⟩=some s.abs:=by
  unfold topFrom;dsimp only;rw[z4,z2,z3,r3];show(match staticsOk (importedModules p.main.body) (boot_heap w.params) s.abs.heap&&namesBound p s.abs.heap&&gensDone s.abs&&laidKept (boot_heap w.params) s.abs.heap with | true=>_ | false=>_)=_;rw[l1]
 unfold openEnds;rw[e];show(topFrom treeTable p w N _).map _=_;rw[t];exact congrArg some (Prod.ext l2 l3)
def bootSize:Nat:=11
def bootAnn:Option Value:=some (.ref 6)
theorem boot_tree:∀w:World,absHeap (treeOf (boot_heap w.params).objs.toList .nil 0) bootSize (boot_heap w.params).life=boot_heap w.params:=fun w=>by kernel_rfl
theorem boot_size:∀w:World,((boot_heap w.params).isNs mainGlobals,(boot_heap w.params).objs.size,(boot_heap w.params).nsMap mainGlobals "__annotations__")=(true,bootSize,bootAnn):=fun w=>by kernel_rfl
def view0:Program:={ PySem.Challenge.pw_slotwright_k31_worst_coming with main:={ PySem.Challenge.pw_slotwright_k31_worst_coming.main with body:=[PySem.Challenge.pw_slotwright_k31_worst_coming.main.body.getD 0 (.Pass ⟨0,0,0,0⟩),PySem.Challenge.pw_slotwright_k31_worst_coming.main.body.getD 2 (.Pass ⟨0,0,0,0⟩),PySem.Challenge.pw_slotwright_k31_worst_coming.main.body.getD 3 (.Pass ⟨0,0,0,0⟩),PySem.Challenge.pw_slotwright_k31_worst_coming.main.body.getD 4 (.Pass ⟨0,0,0,0⟩),PySem.Challenge.pw_slotwright_k31_worst_coming.main.body.getD 5 (.Pass ⟨0,0,0,0⟩),PySem.Challenge.pw_slotwright_k31_worst_coming.main.body.getD 6 (.Pass ⟨0,0,0,0⟩),PySem.Challenge.pw_slotwright_k31_worst_coming.main.body.getD 7 (.Pass ⟨0,0,0,0⟩),PySem.Challenge.pw_slotwright_k31_worst_coming.main.body.getD 8 (.Pass ⟨0,0,0,0⟩),PySem.Challenge.pw_slotwright_k31_worst_coming.main.body.getD 9 (.Pass ⟨0,0,0,0⟩),PySem.Challenge.pw_slotwright_k31_worst_coming.main.body.getD 11 (.Pass ⟨0,0,0,0⟩),PySem.Challenge.pw_slotwright_k31_worst_coming.main.body.getD 12 (.Pass ⟨0,0,0,0⟩),PySem.Challenge.pw_slotwright_k31_worst_coming.main.body.getD 13 (.Pass ⟨0,0,0,0⟩),PySem.Challenge.pw_slotwright_k31_worst_coming.main.body.getD 14 (.Pass ⟨0,0,0,0⟩),PySem.Challenge.pw_slotwright_k31_worst_coming.main.body.getD 15 (.Pass ⟨0,0,0,0⟩),PySem.Challenge.pw_slotwright_k31_worst_coming.main.body.getD 16 (.Pass ⟨0,0,0,0⟩),PySem.Challenge.pw_slotwright_k31_worst_coming.main.body.getD 17 (.Pass ⟨0,0,0,0⟩),PySem.Challenge.pw_slotwright_k31_worst_coming.main.body.getD 18 (.Pass ⟨0,0,0,0⟩),PySem.Challenge.pw_slotwright_k31_worst_coming.main.body.getD 20 (.Pass ⟨0,0,0,0⟩),PySem.Challenge.pw_slotwright_k31_worst_coming.main.body.getD 21 (.Pass ⟨0,0,0,0⟩),PySem.Challenge.pw_slotwright_k31_worst_coming.main.body.getD 22 (.Pass ⟨0,0,0,0⟩),PySem.Challenge.pw_slotwright_k31_worst_coming.main.body.getD 23 (.Pass ⟨0,0,0,0⟩),PySem.Challenge.pw_slotwright_k31_worst_coming.main.body.getD 24 (.Pass ⟨0,0,0,0⟩),PySem.Challenge.pw_slotwright_k31_worst_coming.main.body.getD 25 (.Pass ⟨0,0,0,0⟩),PySem.Challenge.pw_slotwright_k31_worst_coming.main.body.getD 26 (.Pass ⟨0,0,0,0⟩),PySem.Challenge.pw_slotwright_k31_worst_coming.main.body.getD 27 (.Pass ⟨0,0,0,0⟩),PySem.Challenge.pw_slotwright_k31_worst_coming.main.body.getD 29 (.Pass ⟨0,0,0,0⟩),PySem.Challenge.pw_slotwright_k31_worst_coming.main.body.getD 30 (.Pass ⟨0,0,0,0⟩),PySem.Challenge.pw_slotwright_k31_worst_coming.main.body.getD 31 (.Pass ⟨0,0,0,0⟩),PySem.Challenge.pw_slotwright_k31_worst_coming.main.body.getD 32 (.Pass ⟨0,0,0,0⟩),PySem.Challenge.pw_slotwright_k31_worst_coming.main.body.getD 33 (.Pass ⟨0,0,0,0⟩),PySem.Challenge.pw_slotwright_k31_worst_coming.main.body.getD 34 (.Pass ⟨0,0,0,0⟩),PySem.Challenge.pw_slotwright_k31_worst_coming.main.body.getD 35 (.Pass ⟨0,0,0,0⟩),PySem.Challenge.pw_slotwright_k31_worst_coming.main.body.getD 36 (.Pass ⟨0,0,0,0⟩),PySem.Challenge.pw_slotwright_k31_worst_coming.main.body.getD 38 (.Pass ⟨0,0,0,0⟩),PySem.Challenge.pw_slotwright_k31_worst_coming.main.body.getD 40 (.Pass ⟨0,0,0,0⟩),PySem.Challenge.pw_slotwright_k31_worst_coming.main.body.getD 43 (.Pass ⟨0,0,0,0⟩),PySem.Challenge.pw_slotwright_k31_worst_coming.main.body.getD 44 (.Pass ⟨0,0,0,0⟩),PySem.Challenge.pw_slotwright_k31_worst_coming.main.body.getD 45 (.Pass ⟨0,0,0,0⟩),PySem.Challenge.pw_slotwright_k31_worst_coming.main.body.getD 46 (.Pass ⟨0,0,0,0⟩),PySem.Challenge.pw_slotwright_k31_worst_coming.main.body.getD 47 (.Pass ⟨0,0,0,0⟩),PySem.Challenge.pw_slotwright_k31_worst_coming.main.body.getD 48 (.Pass ⟨0,0,0,0⟩),PySem.Challenge.pw_slotwright_k31_worst_coming.main.body.getD 49 (.Pass ⟨0,0,0,0⟩),PySem.Challenge.pw_slotwright_k31_worst_coming.main.body.getD 50 (.Pass ⟨0,0,0,0⟩),PySem.Challenge.pw_slotwright_k31_worst_coming.main.body.getD 51 (.Pass ⟨0,0,0,0⟩),PySem.Challenge.pw_slotwright_k31_worst_coming.main.body.getD 52 (.Pass ⟨0,0,0,0⟩),PySem.Challenge.pw_slotwright_k31_worst_coming.main.body.getD 53 (.Pass ⟨0,0,0,0⟩),PySem.Challenge.pw_slotwright_k31_worst_coming.main.body.getD 54 (.Pass ⟨0,0,0,0⟩),PySem.Challenge.pw_slotwright_k31_worst_coming.main.body.getD 55 (.Pass ⟨0,0,0,0⟩),PySem.Challenge.pw_slotwright_k31_worst_coming.main.body.getD 56 (.Pass ⟨0,0,0,0⟩),PySem.Challenge.pw_slotwright_k31_worst_coming.main.body.getD 57 (.Pass ⟨0,0,0,0⟩),PySem.Challenge.pw_slotwright_k31_worst_coming.main.body.getD 58 (.Pass ⟨0,0,0,0⟩)] } }
set_option maxRecDepth 100000
set_option maxHeartbeats 0
theorem runA(w:World)(os:OsState):(topT treeTable PySem.Challenge.pw_slotwright_k31_worst_coming w bootSize bootAnn 8574 (st0 bootSize w os) (topStub PySem.Challenge.pw_slotwright_k31_worst_coming)).map (fun s=>(looksAt PySem.Challenge.pw_slotwright_k31_worst_coming (boot_heap w.params) s.abs,(openSeen view0 [Str.ofString "Net",Str.ofString "Frame",Str.ofString "Table",Str.ofString "worst"] (importedModules PySem.Challenge.pw_slotwright_k31_worst_coming.main.body) (fun s=>xlAt view0 [] s&&recOk (RowW.records (PySem.Challenge.rw_slotwright_k31_worst_coming.row.toRowW)) s) true s.abs).1,(openSeen view0 [Str.ofString "Net",Str.ofString "Frame",Str.ofString "Table",Str.ofString "worst"] (importedModules PySem.Challenge.pw_slotwright_k31_worst_coming.main.body) (fun s=>xlAt view0 [] s&&recOk (RowW.records (PySem.Challenge.rw_slotwright_k31_worst_coming.row.toRowW)) s) true s.abs).2.1,(openSeen view0 [Str.ofString "Net",Str.ofString "Frame",Str.ofString "Table",Str.ofString "worst"] (importedModules PySem.Challenge.pw_slotwright_k31_worst_coming.main.body) (fun s=>xlAt view0 [] s&&recOk (RowW.records (PySem.Challenge.rw_slotwright_k31_worst_coming.row.toRowW)) s) true s.abs).2.2.1))=some (true,(openGood view0 [Str.ofString "Net",Str.ofString "Frame",Str.ofString "Table",Str.ofString "worst"]).1,(openGood view0 [Str.ofString "Net",Str.ofString "Frame",Str.ofString "Table",Str.ofString "worst"]).2.1,(openGood view0 [Str.ofString "Net",Str.ofString "Frame",Str.ofString "Table",Str.ofString "worst"]).2.2.1):=by rewrite [PySem.W.Fast.te14364793385576792824];kernel_rfl
theorem runB(w:World)(os:OsState):(topT treeTable PySem.Challenge.pw_slotwright_k31_worst_coming w bootSize bootAnn 8574 (st0 bootSize w os) (topStub PySem.Challenge.pw_slotwright_k31_worst_coming)).map (fun s=>(openSeen view0 [Str.ofString "Net",Str.ofString "Frame",Str.ofString "Table",Str.ofString "worst"] (importedModules PySem.Challenge.pw_slotwright_k31_worst_coming.main.body) (fun s=>xlAt view0 [] s&&recOk (RowW.records (PySem.Challenge.rw_slotwright_k31_worst_coming.row.toRowW)) s) true s.abs).2.2.2)=some (openGood view0 [Str.ofString "Net",Str.ofString "Frame",Str.ofString "Table",Str.ofString "worst"]).2.2.2:=by rewrite [PySem.W.Fast.te14364793385576792824];kernel_rfl
local macro_rules | `(tactic| o_head $H)=> `(tactic| (refine holds_open (q:=view0) (loose:=[Str.ofString "Net",Str.ofString "Frame",Str.ofString "Table",Str.ofString "worst"]) (Xt:=fun s=>xlAt view0 [] s&&recOk (RowW.records (PySem.Challenge.rw_slotwright_k31_worst_coming.row.toRowW)) s) (XP:=XL view0 []) (Yf:=Hook.obs $H) (Ya:=Hook.val $H) (YP:=Hook.says $H) (N:=8574) ?hl (Hook.of $H) (Hook.keeps $H) (fun s e=>xl_of s (Bool.and_eq_true_iff.mp e).1) XL.keeps (by rfl) (by rfl) (by rfl) (fun s e=>recFacts_of (Bool.and_eq_true_iff.mp e).2) (by rfl) (by first | assumption | decide+kernel) (by decide+kernel) ⟨rfl,rfl,rfl,rfl,rfl,by decide+kernel⟩ ?hw ?hc;(case hl=>exact left_tree (m0:=bootSize) (ann:=bootAnn) (boot_open (by kernel_rfl) (by decide+kernel) (fun s=>by kernel_rfl)) boot_tree boot_size runA runB (fun w os=>by rewrite [PySem.W.Fast.te14364793385576792824];kernel_rfl))))
set_option maxRecDepth 100000
set_option maxHeartbeats 0
open_top hd0 for PySem.Challenge.rw_slotwright_k31_worst_coming
end H0
set_option linter.all false
set_option maxRecDepth 100000
namespace L2
open PySem PySem.Spec PyProof.Rows
abbrev Key:=Sum Int Str
def zjr:Key->Value->Bool
 | .inl k,v=>Value.isInt k v
 | .inr x,v=>Value.isStrOf x v
def zz1(w:World):Key->Int
 | .inl k=>hashInt k
 | .inr x=>hashStr w x
theorem zav:∀{k:Key} {v:Value},zjr k v=true->(∃i t,k=Sum.inl i/\v=Value.int i t)\/(∃x t,k=Sum.inr x/\v=Value.str x t)
 | .inl i,v,h=>by
  obtain⟨t,e⟩:=Value.isInt_shape (k:=i) (v:=v) h;exact .inl ⟨i,t,rfl,e⟩
 | .inr x,v,h=>by
  obtain⟨t,e⟩:=Value.isStrOf_shape (x:=x) (v:=v) h;exact .inr ⟨x,t,rfl,e⟩
theorem zqE(i:Int)(t:Tok):zjr (.inl i) (.int i t)=true:=by simp[zjr,Value.isInt]
theorem zql(x:Str)(t:Tok):zjr (.inr x) (.str x t)=true:=by simp[zjr,Value.isStrOf]
theorem zx8(a b:Int):decide ((Sum.inl a:Key)=Sum.inl b)=(a==b):=by
 by_cases e:a=b
 .subst e;simp
 .have h:¬ (Sum.inl a:Key)=Sum.inl b:=fun q=>e (Sum.inl.inj q)
  rw[decide_eq_false h];exact(beq_eq_false_iff_ne.mpr e).symm
theorem zxA(a b:Str):decide ((Sum.inr a:Key)=Sum.inr b)=decide (a=b):=by
 by_cases e:a=b
 .subst e;simp
 .have h:¬ (Sum.inr a:Key)=Sum.inr b:=fun q=>e (Sum.inr.inj q)
  rw[decide_eq_false h,decide_eq_false e]
theorem zxK(a:Int)(b:Str):decide ((Sum.inl a:Key)=Sum.inr b)=false:=decide_eq_false (fun q=>nomatch q)
theorem zyy(a:Str)(b:Int):decide ((Sum.inr a:Key)=Sum.inl b)=false:=decide_eq_false (fun q=>nomatch q)
def zaU(prog:Program)(w:World):PySem.KeyKind prog w Key where
 is:=zjr
 hash:=zz1 w
 inj:=fun v a b ha hb=>by
  rcases zav ha with⟨i,t,rfl,rfl⟩ | ⟨x,t,rfl,rfl⟩
  .rcases zav hb with⟨j,u,rfl,e⟩ | ⟨y,u,rfl,e⟩
   .injection e with e1 _;rw[e1]
   .exact nomatch e
  .rcases zav hb with⟨j,u,rfl,e⟩ | ⟨y,u,rfl,e⟩
   .exact nomatch e
   .injection e with e1 _;rw[e1]
 byValue:=fun k v h=>by
  rcases zav h with⟨i,t,rfl,rfl⟩ | ⟨x,t,rfl,rfl⟩<;>rfl
 pyHash:=fun hv h=>by
  rcases zav hv with⟨i,t,rfl,rfl⟩ | ⟨x,t,rfl,rfl⟩
  .exact wpAny_pyHash_int h
  .exact wpAny_pyHash_str h
 eqBool:=fun hu hv h=>by
  rcases zav hu with⟨i,t,rfl,rfl⟩ | ⟨x,t,rfl,rfl⟩
  .rcases zav hv with⟨j,u,rfl,rfl⟩ | ⟨y,u,rfl,rfl⟩
   .rw[zx8] at h;exact wpAny_eqBool_int h
   .rw[zxK] at h;exact SeqAt.EqAt.int_str i t y u _ _ _ _ h
  .rcases zav hv with⟨j,u,rfl,rfl⟩ | ⟨y,u,rfl,rfl⟩
   .rw[zyy] at h;exact SeqAt.EqAt.str_int x t j u _ _ _ _ h
   .rw[zxA] at h;exact wpAny_eqBool_str h
 «strs»:= fun k x t v h=>by
  rcases zav h with⟨i,u,rfl,e⟩ | ⟨y,u,rfl,e⟩
  .exact nomatch e
  .injection e with e1 _;subst e1;cases v<;>rfl
theorem znz(prog:Program)(w:World)(i:Int)(t:Tok):(zaU prog w).is (.inl i) (.int i t)=true:=zqE i t
theorem zno(prog:Program)(w:World)(x:Str)(t:Tok):(zaU prog w).is (.inr x) (.str x t)=true:=zql x t
inductive V where
 | non | bl (b:Bool) | int (i:Int) | str (x:Str) | byt (b:Array UInt8) | flt (b:UInt64) | ref (a:Addr) | ty (n:String)
 deriving DecidableEq
def RelV:V->Value->Prop
 | .non,u=>u=Value.none
 | .bl b,u=>u=Value.bool b
 | .int i,u=>∃t,u=Value.int i t
 | .str x,u=>∃t,u=Value.str x t
 | .byt b,u=>∃t,u=Value.bytes b t
 | .flt b,u=>∃t,u=Value.float b t
 | .ref a,u=>u=Value.ref a
 | .ty n,u=>u=Value.type n
abbrev Vals:List V->List Value->Prop:=Paired RelV
theorem Vals.length{xs:List V}{us:List Value}(r:Vals xs us):xs.length=us.length:=Paired.length r
theorem Vals.get:∀{xs:List V} {us:List Value} {i:Nat} {x:V},Vals xs us->xs[i]? = some x->∃u,us[i]? = some u/\RelV x u
 | _,_,_,_, .nil,e=>by simp at e
 | _,_,0,_, .cons r _,e=>by simp at e;subst e;exact⟨_,rfl,r⟩
 | _,_,i+1,x, .cons _ t,e=>by
  obtain⟨u,h1,h2⟩:=Vals.get (i:=i) (x:=x) t (by simpa using e);exact⟨u,by simpa using h1,h2⟩
theorem Vals.set{x:V}{u:Value}(r:RelV x u):∀{xs:List V} {us:List Value} (i:Nat),Vals xs us->Vals (xs.set i x) (us.set i u)
 | _,_,_, .nil=> .nil
 | _,_,0, .cons _ t=> .cons r t
 | _,_,i+1, .cons q t=> .cons q (Vals.set r i t)
theorem Vals.append:∀{xs ys:List V} {us ws:List Value},Vals xs us->Vals ys ws->Vals (xs++ys) (us++ws)
 | _,_,_,_, .nil,s=>s
 | _,_,_,_, .cons r t,s=> .cons r (Vals.append t s)
theorem Vals.take:∀{xs:List V} {us:List Value} (n:Nat),Vals xs us->Vals (xs.take n) (us.take n)
 | _,_,0,_=> .nil
 | _,_,_+1, .nil=> .nil
 | _,_,n+1, .cons r t=> .cons r (Vals.take n t)
theorem Vals.drop:∀{xs:List V} {us:List Value} (n:Nat),Vals xs us->Vals (xs.drop n) (us.drop n)
 | _,_,0,r=>r
 | _,_,_+1, .nil=> .nil
 | _,_,n+1, .cons _ t=>Vals.drop n t
def zfk:Option V->Option Value->Prop
 | some v,some u=>RelV v u
 | none,none=>True
 | _,_=>False
def KV{κ:Type}:List (κ×V)->List (κ×Value)->Prop:=Paired fun(p:κ×V) (q:κ×Value)=>p.1=q.1/\RelV p.2 q.2
def kV:Key->V
 | .inl i=> .int i
 | .inr x=> .str x
inductive HO where
 | lst (xs:List V)
 | tup (xs:List V)
 | dK (kvs:List (Key×V)) | dT (kvs:List (List Key×V))
 | set (S:Int->Bool) (n:Nat)
 | ins (C dx:Addr) (fs:List (Str×V))
 | own (x:Addr)
 | xd (fs:List (Str×V))
 | met (f x:Addr)
 | rng (lo hi:Int)
 | frz (o:Obj) (u:HO)
 | tbl (ps:Array Value)
 | ext (φ:Heap->Prop)
abbrev Hp:=Addr->Option HO
def upd(H:Hp)(a:Addr)(o:HO):Hp:=fun b=>if b=a then some o else H b
theorem zz{H:Hp}{a:Addr}{o:HO}:upd H a o a=some o:=by unfold upd;rw[if_pos rfl]
theorem zE{H:Hp}{a b:Addr}{o:HO}(h:b≠a):upd H a o b=H b:=by unfold upd;rw[if_neg h]
theorem zwo{H:Hp}{a b:Addr}{o u:HO}(h:H a=some o)(h':H b=some u)(d:o≠u):a≠b:=by
 intro e;subst e;rw[h] at h';exact d (Option.some.inj h')
theorem zan{H:Hp}{a b:Addr}{o:HO}(h:H a=some o)(h':H b=none):a≠b:=by
 intro e;subst e;rw[h] at h';cases h'
section
variable(P:Program)(w:World)
def zaF(H:Hp)(h:Heap)(a:Addr):HO->Prop
 | .lst xs=>xs.length<=sizeLine/\∃(its:List Value) (n:Nat),Vals xs its/\h.get? a=some { cls:= .type "list",data:= .seq its.toArray n }
 | .tup xs=>xs.length<=sizeLine/\∃its:List Value,Vals xs its/\IsTup h a its.toArray
 | .dK kvs=>kvs.length<=sizeLine/\(a==sysModules)=false/\∃vs,KV kvs vs/\h.DictOf (zaU P w) a vs
 | .dT kvs=>kvs.length<=sizeLine/\(a==sysModules)=false/\∃xs:List (List Key×Addr×Value),
   Paired (fun(p:List Key×V) (q:List Key×Addr×Value)=>p.1=q.1/\H q.2.1=some (.tup (p.1.map kV))/\RelV p.2 q.2.2) kvs xs /\
   ∃o es ep,h.get? a=some o/\o.ExactDict/\o.data= .dict es ep/\es.toList=xs.map (entryOfKey (tupleKind (zaU P w)))/\(xs.map (·.1)).Nodup
 | .set S n=>h.SetOf (intKind P w) a S n
 | .ins C dx fs=>H dx=some (.own a)/\fs.length<=1000/\dx≠a/\h.get? a=some (instObj C dx) /\
   ∃mA,h.Ns1 dx mA/\(∀f,zfk (fs.lookup f) (mA f))/\PySem.Within mA (fs.map (·.1))
 | .own _=>∃o,h.get? a=some o
 | .xd fs=>∃mA,h.Ns1 a mA/\∀f,zfk (fs.lookup f) (mA f)
 | .rng lo hi=>∃t u v,h.get? a=some { cls:= .type "range",data:= .fields #[.int lo t, .int hi u, .int 1 v] }
 | .frz o u=>h.get? a=some o/\zaF H h a u
 | .tbl ps=>h.get? a=some { cls:= .none,data:= .fields ps }
 | .met f x=>h.get? a=some (methodObj (.ref f) (.ref x))
 | .ext φ=>φ h/\(∃o,h.get? a=some o)/\∀h1 h2:Heap,φ h1->(∀o,h1.get? a=some o->h2.get? a=some o)->φ h2
def HOk(H:Hp)(h:Heap):Prop:=∀a o,H a=some o->zaF P w H h a o
end
section
variable{P:Program}{w:World}{H H':Hp}{h h':Heap}{a:Addr}{o:HO}
theorem zaF.lt(x:zaF P w H h a o):a < h.objs.size:=by
 cases o with
 | lst xs=>obtain⟨_,_,_,_,e⟩:=x;exact Heap.lt_size e
 | tup xs=>obtain⟨_,_,_,p⟩:=x;exact p.lt
 | dK kvs=>obtain⟨_,_,_,_,o,_,_,e,_⟩:=x;exact Heap.lt_size e
 | dT kvs=>obtain⟨_,_,_,_,o,_,_,e,_⟩:=x;exact Heap.lt_size e
 | set S n=>obtain⟨o,_,_,_,e,_⟩:=x;exact Heap.lt_size e
 | ins C dx fs=>obtain⟨_,_,_,e,_⟩:=x;exact Heap.lt_size e
 | own y=>obtain⟨_,e⟩:=x;exact Heap.lt_size e
 | xd fs=>obtain⟨_,⟨_,_,_,e,_⟩,_⟩:=x;exact Heap.lt_size e
 | rng lo hi=>obtain⟨_,_,_,e⟩:=x;exact Heap.lt_size e
 | frz ob u=>obtain⟨e,_⟩:=x;exact Heap.lt_size e
 | tbl ps=>exact Heap.lt_size (show h.get? a=some _ from x)
 | met f y=>exact Heap.lt_size (show h.get? a=some _ from x)
 | ext φ=>obtain⟨_,⟨_,e⟩,_⟩:=x;exact Heap.lt_size e
theorem Paired.mapP{α β:Type}{F G:α->β->Prop}:∀{l₁:List α} {l₂:List β},Paired F l₁ l₂->(∀a b,F a b->G a b)->Paired G l₁ l₂
 | _,_, .nil,_=> .nil
 | _,_, .cons r t,f=> .cons (f _ _ r) (Paired.mapP t f)
theorem zaF.stay(x:zaF P w H h a o)(k:∀b u,(b=a\/H b=some (.own a))->h.get? b=some u->h'.get? b=some u)
  (ho:∀b,H b=some (.own a)->H' b=some (.own a))(ht:∀b xs,H b=some (.tup xs)->H' b=some (.tup xs)):zaF P w H' h' a o:=by
 induction o with
 | lst xs=>obtain⟨z,its,n,r,e⟩:=x;exact⟨z,its,n,r,k _ _ (.inl rfl) e⟩
 | tup xs=>obtain⟨z,its,r,ob,e,c⟩:=x;exact⟨z,its,r,ob,k _ _ (.inl rfl) e,c⟩
 | dK kvs=>obtain⟨z,y,vs,r,ob,es,ep,e,c⟩:=x;exact⟨z,y,vs,r,ob,es,ep,k _ _ (.inl rfl) e,c⟩
 | dT kvs =>
  obtain⟨z,y,xs,r,ob,es,ep,e,c⟩:=x;exact⟨z,y,xs,Paired.mapP r fun p q z=>⟨z.1,ht _ _ z.2.1,z.2.2⟩,ob,es,ep,k _ _ (.inl rfl) e,c⟩
 | set S n=>obtain⟨ob,es,ep,t,e,c⟩:=x;exact⟨ob,es,ep,t,k _ _ (.inl rfl) e,c⟩
 | ins C dx fs =>
  obtain⟨d,z,ne,e,mA,⟨od,es,ep,e2,c⟩,r⟩:=x;exact⟨ho _ d,z,ne,k _ _ (.inl rfl) e,mA,⟨od,es,ep,k _ _ (.inr d) e2,c⟩,r⟩
 | own y=>obtain⟨ob,e⟩:=x;exact⟨ob,k _ _ (.inl rfl) e⟩
 | xd fs=>obtain⟨mA,⟨od,es,ep,e,c⟩,r⟩:=x;exact⟨mA,⟨od,es,ep,k _ _ (.inl rfl) e,c⟩,r⟩
 | rng lo hi=>obtain⟨t,u,v,e⟩:=x;exact⟨t,u,v,k _ _ (.inl rfl) e⟩
 | frz ob u ih=>obtain⟨e,q⟩:=x;exact⟨k _ _ (.inl rfl) e,ih q⟩
 | tbl ps =>
  have e:h.get? a=some { cls:= .none,data:= .fields ps }:=x;show h'.get? a=some { cls:= .none,data:= .fields ps };exact k a _ (.inl rfl) e
 | met f y =>
  have e:h.get? a=some (methodObj (.ref f) (.ref y)):=x;show h'.get? a=some (methodObj (.ref f) (.ref y));exact k a _ (.inl rfl) e
 | ext φ=>obtain⟨p,⟨o,e⟩,st⟩:=x;exact⟨st _ _ p fun o q=>k _ _ (.inl rfl) q,⟨o,k _ _ (.inl rfl) e⟩,st⟩
theorem HOk.lt(x:HOk P w H h)(e:H a=some o):a < h.objs.size:=(x a o e).lt
theorem HOk.fresh(x:HOk P w H h)(e:h.objs.size<=a):H a=none:=by
 cases q:H a with
 | none=>rfl
 | some u=>exact absurd (Nat.lt_of_lt_of_le (x.lt q) e) (Nat.lt_irrefl _)
theorem HOk.kept(x:HOk P w H h)(k:∀b u,h.get? b=some u->h'.get? b=some u):HOk P w H h':=fun a o e =>
 (x a o e).stay (fun b u _ q=>k b u q) (fun _ q=>q) fun _ _ q=>q
theorem HOk.laid(x:HOk P w H h)(k:∀b u,h.get? b=some u->h'.get? b=some u)(hp:h.objs.size<=a)(new:zaF P w (upd H a o) h' a o):HOk P w (upd H a o) h':=fun b u e=>by
 have hn:=x.fresh hp;by_cases hb:b=a
 .subst hb;rw[zz] at e;cases e;exact new
 .rw[zE hb] at e;exact(x b u e).stay (fun c v _ q=>k c v q) (fun c q=>by rw[zE (zan q hn)];exact q) fun c xs q=>by rw[zE (zan q hn)];exact q
end
def Rd(H:Hp)(a:Addr)(u:HO):Prop:=H a=some u\/∃o,H a=some (.frz o u)
theorem Rd.ok{P:Program}{w:World}{H:Hp}{h:Heap}{a:Addr}{u:HO}(r:Rd H a u)(x:HOk P w H h):zaF P w H h a u:=by
 rcases r with r | ⟨o,r⟩
 .exact x a u r
 .obtain⟨_,q⟩:=x a _ r;exact q
def Mut:Option HO->Prop
 | some (.lst _)=>True
 | some (.dK _)=>True
 | some (.dT _)=>True
 | some (.set _ _)=>True
 | some (.ins _ _ _)=>True
 | some (.ext _)=>True
 | _=>False
section
variable{P:Program}{w:World}{H:Hp}{h h':Heap}{x e:Addr}{o':HO}
theorem HOk.write(ok:HOk P w H h)(mu:Mut (H x))(he:e=x\/H e=some (.own x))(k:∀b u,b≠e->h.get? b=some u->h'.get? b=some u)(heo:∃u,h'.get? e=some u)
  (new:zaF P w (upd H x o') h' x o'):HOk P w (upd H x o') h':=fun b u q=>by
 have nown:∀c y,H c=some (.own y)->c≠x:=fun c y r z=>by subst z;rw[r] at mu;exact mu
 have ntup:∀c xs,H c=some (.tup xs)->c≠x:=fun c xs r z=>by subst z;rw[r] at mu;exact mu
 by_cases hb:b=x
 .subst hb;rw[zz] at q;cases q;exact new
 .rw[zE hb] at q;by_cases hbe:b=e
  .have q':H b=some (.own x):=by
    rcases he with z | z
    .exact absurd (hbe.trans z) hb
    .rw[hbe];exact z
   rw[q] at q';cases q';obtain⟨v,hv⟩:=heo;exact⟨v,by rw[hbe];exact hv⟩
  .refine(ok b u q).stay (fun c v hc r=>k c v ?_ r) (fun c r=>by rw[zE (nown c b r)];exact r) fun c xs r=>by rw[zE (ntup c xs r)];exact r
   rcases hc with rfl | hc
   .exact hbe
   .rintro rfl;rcases he with z | z
    .exact nown c b hc z
    .rw[hc] at z;cases z;exact hb rfl
end
structure Un(fs ex:List Addr)(H H':Hp)(h h':Heap):Prop where
 keep:∀b o,h.get? b=some o->H b=none->b∉fs->b∉ex->h'.get? b=some o
 slot:∀b o,h.get? b=some o->H b=none->b∈fs->b∉ex->∃sl,h'.get? b=some { o with slots:=sl }
 free:∀b o,h.get? b=some o->H b=none->b∉ex->H' b=none
 there:∀b o,h.get? b=some o->b∉ex->∃o',h'.get? b=some o'
 tups:∀b xs,H b=some (.tup xs)->H' b=some (.tup xs)
 frzs:∀b o u,H b=some (.frz o u)->H' b=some (.frz o u)
 tbls:∀b ps,H b=some (.tbl ps)->∃more,H' b=some (.tbl (ps++more))
section
variable{fs fs' ex ex':List Addr}{H H1 H2:Hp}{h h1 h2 h':Heap}{a x e:Addr}{o:HO}
theorem Un.any(u:Un fs ex H H1 h h1){b:Addr}{ob:Obj}(q:h.get? b=some ob)(n:H b=none)(hx:b∉ex):∃sl,h1.get? b=some { ob with slots:=sl }:=by
 by_cases hb:b∈fs
 .exact u.slot b ob q n hb hx
 .exact⟨ob.slots,u.keep b ob q n hb hx⟩
theorem Un.kept(k:∀b u,h.get? b=some u->h'.get? b=some u):Un fs ex H H h h' :=
 ⟨fun b ob q _ _ _=>k b ob q,fun b ob q _ _ _=>⟨ob.slots,k b ob q⟩,fun _ _ _ n _=>n,fun b ob q _=>⟨ob,k b ob q⟩,fun _ _ q=>q,fun _ _ _ q=>q,fun _ ps q=>⟨#[],by rw[q];simp⟩⟩
theorem Un.refl:Un fs ex H H h h:=Un.kept fun _ _ q=>q
theorem Un.laid(k:∀b u,h.get? b=some u->h'.get? b=some u)(hp:h.objs.size<=a)(hn:H a=none):Un fs ex H (upd H a o) h h' where
 keep:=fun b u q _ _ _=>k b u q
 slot:=fun b u q _ _ _=>⟨u.slots,k b u q⟩
 free:=fun b u q n _=>by rw[zE (Nat.ne_of_lt (Nat.lt_of_lt_of_le (Heap.lt_size q) hp))];exact n
 there:=fun b u q _=>⟨u,k b u q⟩
 tups:=fun b xs q=>by rw[zE (zan q hn)];exact q
 frzs:=fun b u xs q=>by rw[zE (zan q hn)];exact q
 tbls:=fun b ps q=>⟨#[],by rw[zE (zan q hn),q];simp⟩
theorem Un.write(mu:Mut (H x))(he:e=x\/H e=some (.own x))(k:∀b u,b≠e->h.get? b=some u->h'.get? b=some u)(heo:∃u,h'.get? e=some u):Un fs ex H (upd H x o) h h':=by
 have hx:∀b,H b=none->b≠x:=fun b n z=>by subst z;rw[n] at mu;exact mu
 have hb:∀b,H b=none->b≠e:=fun b n z=>by
  subst z;rcases he with r | r
  .exact hx b n r
  .rw[n] at r;cases r
 have hm:∀b u,H b=some u->¬ Mut (some u)->b≠x:=fun b u q nm z=>by subst z;rw[q] at mu;exact nm mu
 refine⟨fun b u q n _ _=>k b u (hb b n) q,fun b u q n _ _=>⟨u.slots,k b u (hb b n) q⟩,fun b u q n _=>by rw[zE (hx b n)];exact n,fun b u q _=>?_,
  fun b xs q=>by rw[zE (hm b _ q fun z=>z)];exact q,fun b u xs q=>by rw[zE (hm b _ q fun z=>z)];exact q,fun b ps q=>⟨#[],by rw[zE (hm b _ q fun z=>z),q];simp⟩⟩
 by_cases hbe:b=e
 .subst hbe;exact heo
 .exact⟨u,k b u hbe q⟩
end
def trk(h:Heap)(H:Hp):List Addr:=(List.range h.objs.size).filter fun a=>(H a).isSome
def zmf(h:Heap)(H:Hp):Heap:=PySem.W.hideAll h (trk h H)
theorem zqx(h:Heap)(H:Hp):(zmf h H).objs.size=h.objs.size:=PySem.W.hideAll_size _ _
theorem zsZ{h:Heap}{H:Hp}{b:Addr}{o:Obj}(e:h.get? b=some o)(n:H b=none):(zmf h H).get? b=some o :=
 PySem.W.hideAll_get _ e fun hm=>by
  have q:(H b).isSome=true:=(List.mem_filter.mp hm).2;rw[n] at q;simp at q
theorem zuV{h:Heap}{H:Hp}{b:Addr}{o:Obj}(e:(zmf h H).get? b=some o):h.get? b=some o/\H b=none:=by
 have e':h.get? b=some o:=PySem.W.of_hideAll (trk h H) e;refine⟨e',?_⟩;cases q:H b with
 | none=>rfl
 | some x =>
  have hm:b∈trk h H:=List.mem_filter.mpr ⟨List.mem_range.mpr (Heap.lt_size e'),by simp[q]⟩;have z:(zmf h H).get? b=none:=PySem.W.hideAll_none (trk h H) hm;rw[z] at e;cases e
def zuY(g h:Heap)(L:Addr):List (Addr×Obj):=(List.range h.objs.size).filterMap fun a=>if a=L\/(g.get? a).isSome=true then none else(h.get? a).map fun o=>(a,o)
def rest(g h:Heap)(L d:Addr):List (Addr×Obj):=(zuY g h L).filter fun p=>decide (p.1≠d)
structure Mod(K:Frag)(mg:Str->Option Value)(base:Heap):Prop where
 kin:K.In base
 glob:base.Ns mainGlobals mg
 blt:∃mb,base.Ns builtinsNs mb/\∀x:Str,x≠"__name__"->mb x=bootBuiltins x
 nolimit:base.NoLimit
structure Cx where
 prog:Program
 w:World
 K:Frag
 mg:Str->Option Value
 base:Heap
 A:Around
 N:List Str
 s₀:Shared
 H₀:Hp
 env:Env
 outer:List Env
 stack:List Env
 ex:List Addr
 fn:Str->Bool
 calm:Bool
 pn:List (Addr×Obj)
 xe:Value->Shared->Prop
def frs(l:List Env):List Addr:=l.filterMap (·.frame)
abbrev Cx.fs(X:Cx):List Addr:=frs X.outer
def Vis(sc:Scope)(x:Str):Prop:=sc.names.lookup x=some .local\/sc.names.lookup x=some .cell\/sc.names.lookup x=some .free
def Loc(sc:Scope)(x:Str):Prop:=sc.names.lookup x=some .local\/sc.names.lookup x=some .cell
def Look(env:Env)(h:Heap)(m:Str->Option Value)(x:Str)(u:Value):Prop :=
 (env.kindOf x=some .local/\m x=some u)\/((env.kindOf x=some .cell\/env.kindOf x=some .free)/\∃c,env.cells.lookup x=some c/\h.IsCell c (some u))
structure Cx.Ok(X:Cx):Prop where
 mod:Mod X.K X.mg X.base
 kind:X.env.scope.kind= .function
 glob:X.env.globals=mainGlobals
 blt:X.env.builtins=builtinsNs
 above:X.s₀.heap.objs.size<=X.env.locals
 inj:∀x y c,X.env.cells.lookup x=some c->X.env.cells.lookup y=some c->x=y
 has:∀x,(X.env.kindOf x=some .cell\/X.env.kindOf x=some .free)->∃c,X.env.cells.lookup x=some c
 cab:∀x c,X.fn x=true->X.env.cells.lookup x=some c->X.s₀.heap.objs.size<=c
 hd:X.calm=true->X.A.handled=none
 frames:X.A.frames=some X.stack
 stk:X.stack=X.outer\/(X.stack=X.env::X.outer/\X.env.frame=some X.env.locals)
 exf:∀b∈X.ex,b≠X.env.locals/\∀x c,X.env.cells.lookup x=some c->c≠b
 bs:∀b o,X.base.get? b=some o->X.s₀.heap.get? b=some o/\X.H₀ b=none
 bsz:X.base.objs.size<=X.s₀.heap.objs.size
 noex:∀b o,X.base.get? b=some o->b∉X.ex
 exfs:∀b∈X.ex,b∉X.fs
 funs:X.s₀.heap.FunFrames X.base X.outer
 frf:∀b∈X.fs,X.H₀ b=none
structure Inv(X:Cx)(pins:List (Addr×Obj))(σ:List (Option V))(H:Hp)(s:Shared):Prop where
 ok:X.Ok
 os:s.os=X.s₀.os
 bare:AllBare s.gens
 base:Un X.fs X.ex X.H₀ H X.s₀.heap s.heap
 loc:∃m,s.heap.Ns X.env.locals m/\∀(i:Nat) (x:Str) (v:V),X.N[i]? = some x->σ[i]? = some (some v)->Vis X.env.scope x->∃u,RelV v u/\Look X.env s.heap m x u
 cell:∀x c,X.env.cells.lookup x=some c->∃v,s.heap.IsCell c v
 free:H X.env.locals=none
 freeC:∀x c,X.env.cells.lookup x=some c->H c=none
 pin:∀p∈X.pn++pins,s.heap.get? p.1=some p.2/\H p.1=none/\p.1≠X.env.locals/\p.1∉X.fs/\∀v,p.2.data≠ .cell v
 hok:HOk X.prog X.w H s.heap
 len:σ.length=X.N.length
section
variable{X:Cx}{pins:List (Addr×Obj)}{σ:List (Option V)}{H H':Hp}{s:Shared}{h':Heap}
theorem Cx.Ok.nofr(ok:X.Ok){b:Addr}{o:Obj}(e:X.base.get? b=some o):b∉X.fs:=fun hb=>by
 have:=(ok.funs.mem hb).1;rw[e] at this;cases this
theorem Inv.bs(I:Inv X pins σ H s):∀b o,X.base.get? b=some o->s.heap.get? b=some o/\H b=none:=fun b o e =>
 ⟨I.base.keep b o (I.ok.bs b o e).1 (I.ok.bs b o e).2 (I.ok.nofr e) (I.ok.noex b o e),I.base.free b o (I.ok.bs b o e).1 (I.ok.bs b o e).2 (I.ok.noex b o e)⟩
theorem Inv.bk(I:Inv X pins σ H s):∀b o,X.base.get? b=some o->s.heap.get? b=some o:=fun b o e=>(I.bs b o e).1
theorem Inv.mod(I:Inv X pins σ H s):Mod X.K X.mg X.base:=I.ok.mod
theorem Inv.kIn(I:Inv X pins σ H s):X.K.In s.heap:=I.ok.mod.kin.keeps I.bk
theorem Inv.lt(I:Inv X pins σ H s):X.env.locals < s.heap.objs.size:=let ⟨_,hn,_⟩:=I.loc;hn.lt
theorem Inv.sz(I:Inv X pins σ H s):X.s₀.heap.objs.size<=s.heap.objs.size:=Nat.le_trans I.ok.above (Nat.le_of_lt I.lt)
theorem Inv.nofs(I:Inv X pins σ H s){a:Addr}(h:s.heap.objs.size<=a):a∉X.fs:=fun hb=>by
 obtain⟨_,o,ho,_⟩:=I.ok.funs.mem hb;exact absurd (Nat.lt_of_lt_of_le (Heap.lt_size ho) (Nat.le_trans I.sz h)) (Nat.lt_irrefl _)
theorem Inv.cne(I:Inv X pins σ H s):∀x c,X.env.cells.lookup x=some c->c≠X.env.locals:=fun x c e z=>by
 obtain⟨v,o,ho,hd⟩:=I.cell x c e;obtain⟨m,⟨o',es,ep,ho',hd',_⟩,_⟩:=I.loc;rw[z,ho'] at ho;cases ho;rw[hd'] at hd;cases hd
theorem Inv.funs(I:Inv X pins σ H s):s.heap.FunFrames X.base X.outer:=by
 have all:∀(l:List Env),(∀b∈frs l,b∈X.fs)->X.s₀.heap.FunFrames X.base l->s.heap.FunFrames X.base l:=by
  intro l;induction l with
  | nil=>intro _ _;trivial
  | cons env r ih =>
   intro hs hl;obtain⟨hk,⟨L,o,hf,hn,ho,hd⟩,hr⟩:=hl;have hL:L∈X.fs:=hs L (by unfold frs;rw[List.filterMap_cons,hf];exact List.mem_cons_self);obtain⟨sl,e⟩:=I.base.slot L o ho (I.ok.frf L hL) hL fun z=>I.ok.exfs L z hL
   exact⟨hk,⟨L,_,hf,hn,e,hd⟩,ih (fun b hb=>hs b (by unfold frs;rw[List.filterMap_cons,hf];exact List.mem_cons_of_mem _ hb)) hr⟩
 exact all X.outer (fun _ hb=>hb) I.ok.funs
theorem Inv.stack(I:Inv X pins σ H s):s.heap.FunFrames X.base X.stack:=by
 rcases I.ok.stk with e | ⟨e,hf⟩
 .rw[e];exact I.funs
 .rw[e];obtain⟨m,hn,_⟩:=I.loc;refine .cons (by rw[I.ok.kind];decide) hf hn ?_ I.funs;exact Heap.get?_none_of_le (Nat.le_trans I.ok.bsz I.ok.above)
theorem Inv.stkSub(I:Inv X pins σ H s):∀b∈frs X.stack,b∈X.env.locals::X.fs:=fun b hb=>by
 rcases I.ok.stk with e | ⟨e,hf⟩
 .rw[e] at hb;exact List.mem_cons_of_mem _ hb
 .rw[e] at hb;unfold frs at hb;rw[List.filterMap_cons,hf] at hb;exact hb
theorem Inv.stkFree(I:Inv X pins σ H s):∀b∈frs X.stack,H b=none:=fun b hb=>by
 rcases List.mem_cons.mp (I.stkSub b hb) with e | hb
 .rw[e];exact I.free
 .obtain⟨_,o,ho,_⟩:=I.ok.funs.mem hb;exact I.base.free b o ho (I.ok.frf b hb) fun z=>I.ok.exfs b z hb
theorem Inv.step{g':Array GenState}{t':Nat}{d':Drawn}{ch:List Addr}(I:Inv X pins σ H s)
  (hch:∀b∈ch,(b∈X.ex\/X.s₀.heap.objs.size<=b)/\b≠X.env.locals/\(∀x c,X.env.cells.lookup x=some c->c≠b)/\∀p∈X.pn++pins,p.1≠b)
  (keep:∀b o,b≠X.env.locals->b∉X.fs->b∉ch->s.heap.get? b=some o->H b=none->h'.get? b=some o)
  (slot:∀b o,b≠X.env.locals->b∈X.fs->b∉ch->s.heap.get? b=some o->H b=none->∃sl,h'.get? b=some { o with slots:=sl })(free:∀b o,b∉ch->s.heap.get? b=some o->H b=none->H' b=none)
  (there:∀b o,b∉ch->s.heap.get? b=some o->∃o',h'.get? b=some o')
  (tups:∀b xs,H b=some (.tup xs)->H' b=some (.tup xs))(frzs:∀b o u,H b=some (.frz o u)->H' b=some (.frz o u))(tbls:∀b ps,H b=some (.tbl ps)->∃more,H' b=some (.tbl (ps++more)))
  (ns:∀m,s.heap.Ns X.env.locals m->h'.Ns X.env.locals m)(hok:HOk X.prog X.w H' h')(hg:AllBare g') :
  Inv X pins σ H' { s with heap:=h',gens:=g',drawn:=d',toks:=t' }:=by
 have neL:∀b o,X.s₀.heap.get? b=some o->b≠X.env.locals:=fun b o e=>Nat.ne_of_lt (Nat.lt_of_lt_of_le (Heap.lt_size e) I.ok.above)
 have neC:∀b o,X.s₀.heap.get? b=some o->b∉X.ex->b∉ch:=fun b o e hx hb=>by
  rcases(hch b hb).1 with z | z
  .exact hx z
  .exact absurd (Nat.lt_of_lt_of_le (Heap.lt_size e) z) (Nat.lt_irrefl _)
 have cellK:∀x c,X.env.cells.lookup x=some c->∀v,s.heap.IsCell c v->h'.IsCell c v:=fun x c e v ⟨o,ho,hd⟩=>by
  have nch:c∉ch:=fun z=>(hch c z).2.2.1 x c e rfl
  by_cases hc:c∈X.fs
  .obtain⟨sl,q⟩:=slot c o (I.cne x c e) hc nch ho (I.freeC x c e);exact⟨_,q,hd⟩
  .exact⟨o,keep c o (I.cne x c e) hc nch ho (I.freeC x c e),hd⟩
 refine⟨I.ok,I.os,hg,⟨fun b o e n hb hx=>?_,fun b o e n hb hx=>?_,fun b o e n hx=>?_,fun b o e hx=>?_,fun b xs e=>tups b xs (I.base.tups b xs e),fun b o xs e=>frzs b o xs (I.base.frzs b o xs e),fun b ps e=>?_⟩,?_,fun x c e=>?_,?_,fun x c e=>?_,fun p hp=>?_,hok,I.len⟩
 .exact keep b o (neL b o e) hb (neC b o e hx) (I.base.keep b o e n hb hx) (I.base.free b o e n hx)
 .obtain⟨sl,e1⟩:=I.base.slot b o e n hb hx;obtain⟨sl',e2⟩:=slot b _ (neL b o e) hb (neC b o e hx) e1 (I.base.free b o e n hx);exact⟨sl',e2⟩
 .obtain⟨o',e1⟩:=I.base.there b o e hx;exact free b o' (neC b o e hx) e1 (I.base.free b o e n hx)
 .obtain⟨o',e1⟩:=I.base.there b o e hx;exact there b o' (neC b o e hx) e1
 .obtain⟨m1,e1⟩:=I.base.tbls b ps e;obtain⟨m2,e2⟩:=tbls b _ e1;exact⟨m1++m2,by rw[e2,Array.append_assoc]⟩
 .obtain⟨m,hn,hl⟩:=I.loc;refine⟨m,ns m hn,fun i x v e1 e2 e3=>?_⟩;obtain⟨u,r,l⟩:=hl i x v e1 e2 e3;refine⟨u,r,?_⟩;rcases l with l | ⟨k,c,e,z⟩
  .exact .inl l
  .exact .inr ⟨k,c,e,cellK x c e _ z⟩
 .obtain⟨v,z⟩:=I.cell x c e;exact⟨v,cellK x c e v z⟩
 .obtain⟨m,⟨o,_,_,ho,_⟩,_⟩:=I.loc;exact free _ o (fun z=>(hch _ z).2.1 rfl) ho I.free
 .obtain⟨v,o,ho,hd⟩:=I.cell x c e;exact free c o (fun z=>(hch c z).2.2.1 x c e rfl) ho (I.freeC x c e)
 .obtain⟨e,n,ne,nf,d⟩:=I.pin p hp;have nch:p.1∉ch:=fun z=>(hch p.1 z).2.2.2 p hp rfl
  exact⟨keep p.1 p.2 ne nf nch e n,free p.1 p.2 nch e n,ne,nf,d⟩
theorem Inv.un{t':Nat}(I:Inv X pins σ H s)(u:Un X.fs [] H H' s.heap h')(hok:HOk X.prog X.w H' h'):Inv X pins σ H' { s with heap:=h',toks:=t' }:=by
 obtain⟨m,⟨o,es,ep,ho,r⟩,_⟩:=id I.loc;obtain⟨sl,hL⟩:=u.any ho I.free (by simp);exact I.step (g':=s.gens) (d':=s.drawn) (ch:=[]) (fun _ z=>nomatch z) (fun b o _ hb _ e n=>u.keep b o e n hb (by simp)) (fun b o _ hb _ e n=>u.slot b o e n hb (by simp)) (fun b o _ e n=>u.free b o e n (by simp)) (fun b o _ e=>u.there b o e (by simp)) u.tups u.frzs u.tbls (fun m' hm=>by
  obtain⟨o',es',ep',ho',r'⟩:=hm;rw[ho] at ho';cases ho';exact⟨_,es',ep',hL,r'⟩) hok I.bare
theorem Inv.call{g':Array GenState}{t':Nat}{d':Drawn}{ch:List Addr}(I:Inv X pins σ H s)(u:Un (frs X.stack) ch H H' s.heap h')(hok:HOk X.prog X.w H' h')(hg:AllBare g')
  (hch:∀b∈ch,(b∈X.ex\/X.s₀.heap.objs.size<=b)/\b≠X.env.locals/\(∀x c,X.env.cells.lookup x=some c->c≠b)/\∀p∈X.pn++pins,p.1≠b) :
  Inv X pins σ H' { s with heap:=h',gens:=g',drawn:=d',toks:=t' }:=by
 obtain⟨m,⟨o,es,ep,ho,r⟩,_⟩:=id I.loc;obtain⟨sl,hL⟩:=u.any ho I.free fun z=>(hch _ z).2.1 rfl
 exact I.step (ch:=ch) hch (fun b o hL hb hc e n=>u.keep b o e n (fun z=>(List.mem_cons.mp (I.stkSub b z)).elim hL hb) hc) (fun b o _ _ hc e n=>u.any e n hc) (fun b o hc e n=>u.free b o e n hc) (fun b o hc e=>u.there b o e hc) u.tups u.frzs u.tbls (fun m' hm=>by
  obtain⟨o',es',ep',ho',r'⟩:=hm;rw[ho] at ho';cases ho';exact⟨_,es',ep',hL,r'⟩) hok hg
theorem Inv.turned{t':Nat}{it:Addr}(I:Inv X pins σ H s)(k:∀b o,b≠it->s.heap.get? b=some o->h'.get? b=some o)(hn:H it=none)(hL:it≠X.env.locals)
  (h1:it∈X.ex\/X.s₀.heap.objs.size<=it)(h2:∀x c,X.env.cells.lookup x=some c->c≠it)(h3:∀p∈X.pn++pins,p.1≠it):Inv X pins σ H { s with heap:=h',toks:=t' }:=by
 have nit:∀b u,H b=some u->b≠it:=fun b u e z=>by rw[z,hn] at e;cases e
 refine I.step (g':=s.gens) (d':=s.drawn) (ch:=[it]) (fun b hb=>?_) (fun b o _ _ hc e _=>k b o (fun z=>hc (by simp[z])) e) (fun b o _ _ hc e _=>⟨o.slots,k b o (fun z=>hc (by simp[z])) e⟩) (fun _ _ _ _ n=>n)
  (fun b o hc e=>⟨o,k b o (fun z=>hc (by simp[z])) e⟩) (fun _ _ e=>e) (fun _ _ _ e=>e) (fun b ps e=>⟨#[],by rw[e];simp⟩) (fun m hm=>?_) (fun b u e=>?_) I.bare
 .have e:b=it:=by simpa using hb
  subst e;exact⟨h1,hL,h2,h3⟩
 .obtain⟨o,es,ep,ho,r⟩:=hm;exact⟨o,es,ep,k _ o (Ne.symm hL) ho,r⟩
 .refine(I.hok b u e).stay (fun c v hc q=>k c v ?_ q) (fun _ q=>q) fun _ _ q=>q
  rcases hc with z | z
  .rw[z];exact nit b u e
  .exact nit c _ z
theorem Inv.tok(I:Inv X pins σ H s)(t:Nat):Inv X pins σ H { s with toks:=t }:=I.un (h':=s.heap) (t':=t) Un.refl I.hok
theorem Inv.kept{t':Nat}(I:Inv X pins σ H s)(k:∀b u,s.heap.get? b=some u->h'.get? b=some u):Inv X pins σ H { s with heap:=h',toks:=t' }:=I.un (Un.kept k) (I.hok.kept k)
theorem Inv.laid{a:Addr}{o:HO}{t':Nat}(I:Inv X pins σ H s)(k:∀b u,s.heap.get? b=some u->h'.get? b=some u)(hp:s.heap.objs.size<=a)(new:zaF X.prog X.w (upd H a o) h' a o) :
  Inv X pins σ (upd H a o) { s with heap:=h',toks:=t' }:=I.un (Un.laid k hp (I.hok.fresh hp)) (I.hok.laid k hp new)
theorem Inv.write{x e:Addr}{o:HO}{t':Nat}(I:Inv X pins σ H s)(mu:Mut (H x))(he:e=x\/H e=some (.own x))(k:∀b u,b≠e->s.heap.get? b=some u->h'.get? b=some u)(heo:∃u,h'.get? e=some u)
  (new:zaF X.prog X.w (upd H x o) h' x o):Inv X pins σ (upd H x o) { s with heap:=h',toks:=t' }:=I.un (Un.write mu he k heo) (I.hok.write mu he k heo new)
theorem Inv.weak{σ':List (Option V)}(I:Inv X pins σ H s)(hl:σ'.length=σ.length)(w:∀(i:Nat) v,σ'[i]? = some (some v)->σ[i]? = some (some v)):Inv X pins σ' H s :=
 ⟨I.ok,I.os,I.bare,I.base,let ⟨m,hn,hl'⟩:=I.loc;⟨m,hn,fun i x v e1 e2 e3=>hl' i x v e1 (w i v e2) e3⟩,I.cell,I.free,I.freeC,I.pin,I.hok,hl.trans I.len⟩
theorem Inv.pins_of{pins':List (Addr×Obj)}(I:Inv X pins σ H s)(h:∀p∈pins',s.heap.get? p.1=some p.2/\H p.1=none/\p.1≠X.env.locals/\p.1∉X.fs/\∀v,p.2.data≠ .cell v):Inv X pins' σ H s :=
 ⟨I.ok,I.os,I.bare,I.base,I.loc,I.cell,I.free,I.freeC,fun p hp=>(List.mem_append.mp hp).elim (fun z=>I.pin p (List.mem_append_left _ z)) (h p),I.hok,I.len⟩
theorem znR{N:List Str}(hN:N.Nodup){i j:Nat}{x:Str}(a:N[i]? = some x)(b:N[j]? = some x):i=j:=by
 obtain⟨h1,e1⟩:=List.getElem?_eq_some_iff.mp a;obtain⟨h2,e2⟩:=List.getElem?_eq_some_iff.mp b;exact(List.getElem_inj hN).mp (e1.trans e2.symm)
theorem zkR{M:Model}{A:Around}{E:Value->Shared->Prop}{i:Nat}{x:Str}{v:V}{u:Value}{Q:Unit->Shared->Prop}(I:Inv X pins σ H s)(hN:X.N.Nodup)(hi:X.N[i]? = some x)(hx:Loc X.env.scope x)(r:RelV v u)
  (h:∀s',Inv X pins (σ.set i (some v)) H s'->(∃a,Heap.SameBut a s.heap s'.heap/\(a=X.env.locals\/X.env.cells.lookup x=some a))->Q () s')(hf:X.fn x=true\/X.env.scope.names.lookup x=some .local:=by first | exact .inl rfl | exact .inr rfl | assumption):wpAny M A (storeName X.env x u) Q E s:=by
 obtain⟨m,hn,hl⟩:=id I.loc;have hcls:(X.env.scope.kind== .class||(X.env.scope.kind== .module&&X.env.locals !=X.env.globals))=false:=by rw[I.ok.kind];rfl
 have hiσ:i < σ.length:=by rw[I.len];exact(List.getElem?_eq_some_iff.mp hi).1
 have cne:=I.cne;have tracked:∀{a:Addr} {h':Heap},(∃o,s.heap.get? a=some o/\H a=none)->Heap.SameBut a s.heap h'->HOk X.prog X.w H h':=fun{a h'} ha hs b ob e=>by
  obtain⟨_,_,hfree⟩:=ha;refine(I.hok b ob e).stay (fun c w' hc q=>(hs.2 c ?_).trans q) (fun _ q=>q) fun _ _ q=>q
  rintro rfl;rcases hc with rfl | hc
  .rw[hfree] at e;cases e
  .rw[hfree] at hc;cases hc
 rcases hx with hk | hk
 .refine wpAny_storeName_local hk hn (fun h' hn' hs=>?_) hcls;obtain⟨oL,_,_,hoL,_⟩:=id hn;refine h _ ⟨I.ok,I.os,I.bare,⟨fun b o e n hb hx=>?_,fun b o e n hb hx=>?_,I.base.free,fun b o e hx=>?_,I.base.tups,I.base.frzs,I.base.tbls⟩,⟨_,hn',fun j y v' e1 e2 e3=>?_⟩,fun y c e=>?_,I.free,I.freeC,fun p hp=>?_,tracked ⟨oL,hoL,I.free⟩ hs,by simpa using I.len⟩ ⟨_,hs, .inl rfl⟩
  .exact(hs.2 b (Nat.ne_of_lt (Nat.lt_of_lt_of_le (Heap.lt_size e) I.ok.above))).trans (I.base.keep b o e n hb hx)
  .obtain⟨sl,e1⟩:=I.base.slot b o e n hb hx;exact⟨sl,(hs.2 b (Nat.ne_of_lt (Nat.lt_of_lt_of_le (Heap.lt_size e) I.ok.above))).trans e1⟩
  .obtain⟨o',e1⟩:=I.base.there b o e hx;exact⟨o',(hs.2 b (Nat.ne_of_lt (Nat.lt_of_lt_of_le (Heap.lt_size e) I.ok.above))).trans e1⟩
  .by_cases hj:j=i
   .subst hj;rw[hi] at e1;cases e1;rw[List.getElem?_set_self hiσ] at e2;cases e2;exact⟨u,r, .inl ⟨hk,by simp⟩⟩
   .rw[List.getElem?_set_ne (Ne.symm hj)] at e2;obtain⟨u',r',q⟩:=hl j y v' e1 e2 e3;refine⟨u',r',?_⟩;rcases q with⟨k,e⟩ | ⟨k,c,e,z⟩
    .refine .inl ⟨k,?_⟩;have:y≠x:=fun e=>hj (znR hN e1 (e▸hi))
     simp[this,e]
    .exact .inr ⟨k,c,e,z.sameBut hs (cne y c e)⟩
  .obtain⟨w',z⟩:=I.cell y c e;exact⟨w',z.sameBut hs (cne y c e)⟩
  .obtain⟨e,n,ne,nf,d⟩:=I.pin p hp;exact⟨(hs.2 p.1 ne).trans e,n,ne,nf,d⟩
 .have hfn:X.fn x=true:=by
   rcases hf with z | z
   .exact z
   .rw[z] at hk;cases hk
  obtain⟨c,hc⟩:=I.ok.has x (.inl hk);obtain⟨w',z⟩:=I.cell x c hc;refine wpAny_storeName_cell I.ok.kind hk hc z (fun h' hc' hs=>?_);obtain⟨oc,hoc,hocd⟩:=id z;refine h { s with heap:=h' } ⟨I.ok,I.os,I.bare,⟨fun b o e n hb hx=>?_,fun b o e n hb hx=>?_,I.base.free,fun b o e hx=>?_,I.base.tups,I.base.frzs,I.base.tbls⟩,⟨m,hn.sameBut hs (Ne.symm (cne x c hc)),fun j y v' e1 e2 e3=>?_⟩,fun y c' e=>?_,I.free,I.freeC,fun p hp=>?_,tracked ⟨oc,hoc,I.freeC x c hc⟩ hs,by simpa using I.len⟩ ⟨c,hs, .inr hc⟩
  .exact(hs.2 b (Nat.ne_of_lt (Nat.lt_of_lt_of_le (Heap.lt_size e) (I.ok.cab x c hfn hc)))).trans (I.base.keep b o e n hb hx)
  .obtain⟨sl,e1⟩:=I.base.slot b o e n hb hx;exact⟨sl,(hs.2 b (Nat.ne_of_lt (Nat.lt_of_lt_of_le (Heap.lt_size e) (I.ok.cab x c hfn hc)))).trans e1⟩
  .obtain⟨o',e1⟩:=I.base.there b o e hx;exact⟨o',(hs.2 b (Nat.ne_of_lt (Nat.lt_of_lt_of_le (Heap.lt_size e) (I.ok.cab x c hfn hc)))).trans e1⟩
  .by_cases hj:j=i
   .subst hj;rw[hi] at e1;cases e1;rw[List.getElem?_set_self hiσ] at e2;cases e2;exact⟨u,r, .inr ⟨.inl hk,c,hc,hc'⟩⟩
   .rw[List.getElem?_set_ne (Ne.symm hj)] at e2;obtain⟨u',r',q⟩:=hl j y v' e1 e2 e3;refine⟨u',r',?_⟩;rcases q with q | ⟨k,c',e,z'⟩
    .exact .inl q
    .refine .inr ⟨k,c',e,z'.sameBut hs ?_⟩;rintro rfl;exact hj (znR hN e1 (I.ok.inj _ _ _ e hc▸hi))
  .by_cases hcc:c'=c
   .subst hcc;exact⟨_,hc'⟩
   .obtain⟨w2,z2⟩:=I.cell y c' e;exact⟨w2,z2.sameBut hs hcc⟩
  .obtain⟨e,n,ne,nf,d⟩:=I.pin p hp;refine⟨(hs.2 p.1 ?_).trans e,n,ne,nf,d⟩;intro q;rw[q,hoc] at e;have q':oc=p.2:=Option.some.inj e;exact d w' (by rw[<- q'];exact hocd)
theorem zm2{M:Model}{A:Around}{E:Value->Shared->Prop}{i:Nat}{x:Str}{v:V}{u:Value}{Q:Unit->Shared->Prop}(I:Inv X pins σ H s)(hN:X.N.Nodup)(hi:X.N[i]? = some x)(hx:Loc X.env.scope x)(r:RelV v u)
  (h:∀s',Inv X pins (σ.set i (some v)) H s'->Q () s')(hf:X.fn x=true\/X.env.scope.names.lookup x=some .local:=by first | exact .inl rfl | exact .inr rfl | assumption):wpAny M A (storeName X.env x u) Q E s :=
 zkR I hN hi hx r (fun s' I' _=>h s' I') hf
theorem Inv.call'{s':Shared}{ch:List Addr}(I:Inv X pins σ H s)(ho:s'.os=s.os)(u:Un (frs X.stack) ch H H' s.heap s'.heap)(hok:HOk X.prog X.w H' s'.heap)(hg:AllBare s'.gens)
  (hch:∀b∈ch,(b∈X.ex\/X.s₀.heap.objs.size<=b)/\b≠X.env.locals/\(∀x c,X.env.cells.lookup x=some c->c≠b)/\∀p∈X.pn++pins,p.1≠b):Inv X pins σ H' s':=by
 obtain⟨h',g',d',t',o'⟩:=s';have e:o'=s.os:=ho;subst e;exact I.call (g':=g') (t':=t') (d':=d') u hok hg hch
end
abbrev XK:=Value->Option Addr->Hp->Prop
abbrev St:=List (Option V)
abbrev VK:=V->Hp->Prop
abbrev TE:=St->Hp->VK->Prop
abbrev TT:=St->Hp->(Bool->Hp->Prop)->Prop
abbrev TA:=St->Hp->(List V->Hp->Prop)->Prop
structure Ends where
 nx:St->Hp->Prop
 rt:VK
 bk:St->Hp->Prop:=fun _ _=>False
 ct:St->Hp->Prop:=fun _ _=>False
abbrev TS:=Ends->St->Hp->Prop
def EP(X:Cx)(pins:List (Addr×Obj))(σ:St)(Q:VK)(u:Value)(s':Shared):Prop:=∃v H',Inv X pins σ H' s'/\RelV v u/\Q v H'
def TP(X:Cx)(pins:List (Addr×Obj))(σ:St)(Q:Bool->Hp->Prop)(b:Bool)(s':Shared):Prop:=∃H',Inv X pins σ H' s'/\Q b H'
def AP(X:Cx)(pins:List (Addr×Obj))(σ:St)(Q:List V->Hp->Prop)(us:List Value)(s':Shared):Prop:=∃vs H',Inv X pins σ H' s'/\Vals vs us/\Q vs H'
def SP(X:Cx)(pins:List (Addr×Obj))(D:Ends)(f:Flow)(s':Shared):Prop :=
 match f with
 | .next=>∃ σ' H',Inv X pins σ' H' s'/\D.nx σ' H'
 | .brk=>∃ σ' H',Inv X pins σ' H' s'/\D.bk σ' H'
 | .cont=>∃ σ' H',Inv X pins σ' H' s'/\D.ct σ' H'
 | .ret u=>∃v σ' H',Inv X pins σ' H' s'/\RelV v u/\D.rt v H'
def PE(X:Cx)(e:Expr)(t:TE):Prop :=
 ∀(pins:List (Addr×Obj)) (s:Shared) (σ:St) (H:Hp) (Q:VK),Inv X pins σ H s->t σ H Q->wpAny (model X.prog X.w) X.A (eval e X.env) (EP X pins σ Q) X.xe s
def PT(X:Cx)(e:Expr)(t:TT):Prop :=
 ∀(pins:List (Addr×Obj)) (s:Shared) (σ:St) (H:Hp) (Q:Bool->Hp->Prop),Inv X pins σ H s->t σ H Q->wpAny (model X.prog X.w) X.A (isTrue e X.env (eval e X.env)) (TP X pins σ Q) X.xe s
def PW(X:Cx)(e:Expr)(t:TT):Prop :=
 ∀(whole:Sem Value) (pins:List (Addr×Obj)) (s:Shared) (σ:St) (H:Hp) (Q:Bool->Hp->Prop),Inv X pins σ H s->t σ H Q->wpAny (model X.prog X.w) X.A (isTrue e X.env whole) (TP X pins σ Q) X.xe s
theorem PW.pt{X:Cx}{e:Expr}{t:TT}(h:PW X e t):PT X e t:=h _
def PA(X:Cx)(es:List Expr)(t:TA):Prop :=
 ∀(pos:Pos) (pins:List (Addr×Obj)) (s:Shared) (σ:St) (H:Hp) (Q:List V->Hp->Prop),Inv X pins σ H s->t σ H Q->wpAny (model X.prog X.w) X.A (spliced (backTo pos (starEach es X.env))) (AP X pins σ Q) X.xe s
def PS(X:Cx)(st:Stmt)(t:TS):Prop :=
 ∀(pins:List (Addr×Obj)) (s:Shared) (σ:St) (H:Hp) (D:Ends),Inv X pins σ H s->t D σ H->wpAny (model X.prog X.w) X.A (exec st X.env) (SP X pins D) X.xe s
def PSs(X:Cx)(st:List Stmt)(t:TS):Prop :=
 ∀(pins:List (Addr×Obj)) (s:Shared) (σ:St) (H:Hp) (D:Ends),Inv X pins σ H s->t D σ H->wpAny (model X.prog X.w) X.A (execs st X.env) (SP X pins D) X.xe s
theorem thn{α:Type}{t:Sem α}{Q Q':α->Shared->Prop}{M:Model}{A:Around}{E:Value->Shared->Prop}{s:Shared}(h:wpAny M A t Q E s)(hQ:∀a s,Q a s->Q' a s):wpAny M A t Q' E s:=wpAny_mono h hQ fun _ _ x=>x
section
variable{X:Cx}
def zbg(i:Nat):TE:=fun σ H Q=>∃v,σ[i]? = some (some v)/\Q v H
def tC(v:V):TE:=fun _ H Q=>Q v H
theorem zth{i:Nat}{x:Str}{pos:Pos}(hN:X.N[i]? = some x)(hv:Vis X.env.scope x)(hd:(x==("__debug__":Str))=false:=by decide)(hcd:(x==("__classdict__":Str))=false:=by decide):PE X (.Name x pos) (zbg i):=by
 intro pins s σ H Q I h;obtain⟨v,e,h⟩:=h;obtain⟨m,hn,hl⟩:=I.loc;obtain⟨u,r,l⟩:=hl i x v hN e hv;have fin:EP X pins σ Q u s:=⟨v,H,I,r,h⟩;rcases l with⟨hk,hm⟩ | ⟨hk,c,hc,hcell⟩
 .exact wpAny_Name (wpAny_loadName_local I.ok.kind hk hn hm fin) hd
 .rcases hk with hk | hk
  .exact wpAny_Name (wpAny_loadName_cell I.ok.kind hk hc hcell fin) hd
  .exact wpAny_Name (wpAny_loadName_free I.ok.kind hk hc hcell fin hcd) hd
theorem zt5{i j pos}:PE X (.Constant (.int i) j pos) (tC (.int i)):=fun _ _ _ H _ I h=>wpAny_Constant_int ⟨.int i,H,I.tok _,⟨_,rfl⟩,h⟩
theorem zzU{b j pos}:PE X (.Constant (.bool b) j pos) (tC (.bl b)):=fun _ _ _ H _ I h=>Constant_bool ⟨.bl b,H,I,rfl,h⟩
theorem zxS{x j pos}:PE X (.Constant (.str x) j pos) (tC (.str x)):=fun _ _ _ H _ I h=>Calls.Constant_str ⟨.str x,H,I.tok _,⟨_,rfl⟩,h⟩
def Gl(X:Cx)(x:Str):Prop:=X.env.kindOf x=some .globalImplicit
theorem zgk{E:Value->Shared->Prop}{pins:List (Addr×Obj)}{s:Shared}{σ:St}{H:Hp}{x:Str}{u:Value}{pos:Pos}{Q:Value->Shared->Prop}(I:Inv X pins σ H s)(hg:Gl X x)(hm:X.mg x=some u)(h:Q u s)
  (hd:(x==("__debug__":Str))=false:=by decide):wpAny (model X.prog X.w) X.A (eval (.Name x pos) X.env) Q E s :=
 Calls.Name_function_global I.ok.kind hg (Calls.loadGlobal_global (by rw[I.ok.glob];exact I.mod.glob.keeps I.bk) hm h) hd
theorem zhx{E:Value->Shared->Prop}{pins:List (Addr×Obj)}{s:Shared}{σ:St}{H:Hp}{x:Str}{u:Value}{pos:Pos}{Q:Value->Shared->Prop}(I:Inv X pins σ H s)(hg:Gl X x)(hm:X.mg x=none)(hv:bootBuiltins x=some u)(h:Q u s)
  (hn:x≠"__name__":=by decide)(hd:(x==("__debug__":Str))=false:=by decide):wpAny (model X.prog X.w) X.A (eval (.Name x pos) X.env) Q E s:=by
 obtain⟨mb,h1,h2⟩:=I.mod.blt;exact Calls.Name_function_global I.ok.kind hg (Calls.loadGlobal_builtin (by rw[I.ok.glob];exact I.mod.glob.keeps I.bk) hm (by rw[I.ok.blt];exact h1.keeps I.bk) ((h2 x hn).trans hv) h) hd
theorem zuR{x:Str}{v:V}{u:Value}{pos:Pos}(hg:Gl X x)(hm:X.mg x=some u)(r:RelV v u)(hd:(x==("__debug__":Str))=false:=by decide):PE X (.Name x pos) (tC v) :=
 fun _ _ _ H _ I h=>zgk I hg hm ⟨v,H,I,r,h⟩ hd
theorem zuE{x:Str}{v:V}{u:Value}{pos:Pos}(hg:Gl X x)(hm:X.mg x=none)(hv:bootBuiltins x=some u)(r:RelV v u)(hn:x≠"__name__":=by decide)(hd:(x==("__debug__":Str))=false:=by decide):PE X (.Name x pos) (tC v) :=
 fun _ _ _ H _ I h=>zhx I hg hm hv ⟨v,H,I,r,h⟩ hn hd
variable{a b:Expr}{ta tb:TE}{pos:Pos}
def tB(t:TE):TT:=fun σ H Q=>t σ H fun x H1=>∃c,x= .bl c/\Q c H1
theorem zyr{e:Expr}{t:TE}(h:PE X e t)(he:∀whole,isTrue e X.env whole=(do let v<-whole;standAt e.pos;holding [v] (truthy v)):=by intro _;rfl):PT X e (tB t):=by
 intro pins s σ H Q I hw;refine isTrue_plain (thn (h pins s σ H _ I hw) fun v s1 ⟨x,H1,I1,r1,q1⟩=>?_) (he _);obtain⟨d,rfl,q⟩:=q1;cases r1;exact wpAny_truthy_bool ⟨H1,I1,q⟩
variable{tA tB':TT}{rest:List Expr}
def zxI(t u:TT):TT:=fun σ H Q=>t σ H fun c H1=>if c=true then u σ H1 Q else Q false H1
def tOr(t u:TT):TT:=fun σ H Q=>t σ H fun c H1=>if c=true then Q true H1 else u σ H1 Q
def zyt(t:TT):TT:=fun σ H Q=>t σ H fun c H1=>Q (!c) H1
theorem zvz(ha:PT X a tA):PW X (.BoolOp .And [a] pos) tA:=by
 intro wh pins s σ H Q I h;refine isTrue_and (thn (ha pins s σ H Q I h) fun c s1 e=>?_);cases c with
 | true=>exact isTrue_and_nil e
 | false=>exact e
theorem zxv(ha:PT X a tA):PW X (.BoolOp .Or [a] pos) tA:=by
 intro wh pins s σ H Q I h;refine isTrue_or (thn (ha pins s σ H Q I h) fun c s1 e=>?_);cases c with
 | false=>exact isTrue_or_nil e
 | true=>exact e
theorem zx2(ha:PT X a tA)(hb:PW X (.BoolOp .And (b::rest) pos) tB'):PW X (.BoolOp .And (a::b::rest) pos) (zxI tA tB'):=by
 intro wh pins s σ H Q I h;refine isTrue_and (thn (ha pins s σ H _ I h) fun c s1 ⟨H1,I1,q1⟩=>?_);cases c with
 | true=>exact hb wh pins s1 σ H1 Q I1 q1
 | false=>exact⟨H1,I1,q1⟩
theorem zyW(ha:PT X a tA)(hb:PW X (.BoolOp .Or (b::rest) pos) tB'):PW X (.BoolOp .Or (a::b::rest) pos) (tOr tA tB'):=by
 intro wh pins s σ H Q I h;refine isTrue_or (thn (ha pins s σ H _ I h) fun c s1 ⟨H1,I1,q1⟩=>?_);cases c with
 | true=>exact⟨H1,I1,q1⟩
 | false=>exact hb wh pins s1 σ H1 Q I1 q1
theorem zxp(ha:PT X a tA):PT X (.UnaryOp .Not a pos) (zyt tA):=by
 intro pins s σ H Q I h;exact isTrue_not (ha pins s σ H (fun c H1=>Q (!c) H1) I h)
def zrM(ta tb:TE):TE:=fun σ H Q=>ta σ H fun x H1=>∃c,x= .bl c/\if c=true then tb σ H1 Q else Q (.bl false) H1
def ztC(ta:TE):TE:=fun σ H Q=>ta σ H fun x H1=>∃c,x= .bl c/\Q (.bl (!c)) H1
theorem zwN{op}{t:TE}(h:PE X a t):PE X (.BoolOp op [a] pos) t:=fun pins s σ H Q I hw=>BoolOp_one (h pins s σ H Q I hw)
theorem zxB(ha:PE X a ta)(hb:PE X (.BoolOp .And (b::rest) pos) tb):PE X (.BoolOp .And (a::b::rest) pos) (zrM ta tb):=by
 intro pins s σ H Q I h;refine BoolOp_and (thn (ha pins s σ H _ I h) fun v s1 ⟨x,H1,I1,r1,q1⟩=>?_);obtain⟨c,rfl,q1⟩:=q1;cases r1;refine wpAny_truthy_bool ?_;cases c with
 | true=>exact hb pins s1 σ H1 Q I1 q1
 | false=>exact⟨.bl false,H1,I1,rfl,q1⟩
theorem zwY(ha:PE X a ta):PE X (.UnaryOp .Not a pos) (ztC ta):=by
 intro pins s σ H Q I h;refine UnaryOp_ (thn (ha pins s σ H _ I h) fun v s1 ⟨x,H1,I1,r1,q1⟩=>?_);obtain⟨c,rfl,q1⟩:=q1;cases r1;exact not_of (wpAny_truthy_bool ⟨.bl (!c),H1,I1,rfl,q1⟩)
end
def SqL(K:Frag)(H:Hp)(a:Addr)(xs:List V):Prop :=
 Rd H a (.lst xs) \/
  ∃(o:Obj) (its:Array Value) (n:Nat),K.lookup a=some o/\o.cls= .type "list"/\o.dict=none/\o.data= .seq its n/\its.size<=sizeLine/\Vals xs its.toList
def SqT(K:Frag)(H:Hp)(a:Addr)(xs:List V):Prop :=
 Rd H a (.tup xs) \/
  ∃(o:Obj) (its:Array Value) (n:Nat),K.lookup a=some o/\o.cls= .type "tuple"/\o.data= .seq its n/\its.size<=sizeLine/\Vals xs its.toList
def zAa:Value->Option V
 | .none=>some .non
 | .bool b=>some (.bl b)
 | .int i _=>some (.int i)
 | .str x _=>some (.str x)
 | .bytes b _=>some (.byt b)
 | .float b _=>some (.flt b)
 | .ref a=>some (.ref a)
 | .type n=>some (.ty n)
 | _=>none
theorem RelV.abs{x:V}{u:Value}(r:RelV x u):zAa u=some x:=by
 cases x with
 | non=>cases r;rfl
 | bl _=>cases r;rfl
 | int _=>obtain⟨t,rfl⟩:=r;rfl
 | str _=>obtain⟨t,rfl⟩:=r;rfl
 | byt _=>obtain⟨t,rfl⟩:=r;rfl
 | flt _=>obtain⟨t,rfl⟩:=r;rfl
 | ref _=>cases r;rfl
 | ty _=>cases r;rfl
theorem RelV.inj{x y:V}{u:Value}(r:RelV x u)(q:RelV y u):x=y:=Option.some.inj (r.abs.symm.trans q.abs)
theorem Vals.inj:∀{xs ys:List V} {us:List Value},Vals xs us->Vals ys us->xs=ys
 | _,_,_, .nil, .nil=>rfl
 | _,_,_, .cons r t, .cons r' t'=>by rw[r.inj r',Vals.inj t t']
section
variable{X:Cx}{pins:List (Addr×Obj)}{σ:St}{H:Hp}{s:Shared}{a:Addr}{xs ys:List V}
theorem SqL.of{K:Frag}(h:H a=some (.lst xs)):SqL K H a xs:= .inl (.inl h)
theorem SqT.of{K:Frag}(h:H a=some (.tup xs)):SqT K H a xs:= .inl (.inl h)
theorem Inv.list(I:Inv X pins σ H s)(h:SqL X.K H a xs):∃its:List Value,Vals xs its/\PlainL s.heap a its.toArray/\xs.length<=sizeLine:=by
 rcases h with h | ⟨o,its,n,hk,hc,hd,hs,hz,r⟩
 .obtain⟨z,its,n,r,e⟩:=h.ok I.hok;exact⟨its,r,⟨_,n,e,rfl,rfl,rfl⟩,z⟩
 .refine⟨its.toList,r,⟨o,n,I.kIn a o hk,hc,hd,by simpa using hs⟩,?_⟩;have e:=r.length;simp only[Array.length_toList] at e;omega
theorem Inv.tuple(I:Inv X pins σ H s)(h:SqT X.K H a xs):∃its:List Value,Vals xs its/\IsTup s.heap a its.toArray/\xs.length<=sizeLine:=by
 rcases h with h | ⟨o,its,n,hk,hc,hs,hz,r⟩
 .obtain⟨z,its,r,p⟩:=h.ok I.hok;exact⟨its,r,p,z⟩
 .refine⟨its.toList,r,⟨o,I.kIn a o hk,hc,n,by simpa using hs⟩,?_⟩;have e:=r.length;simp only[Array.length_toList] at e;omega
theorem Inv.list_inj(I:Inv X pins σ H s)(h:SqL X.K H a xs)(h':SqL X.K H a ys):xs=ys:=by
 obtain⟨its,r,⟨o,n,e,_,_,d⟩,_⟩:=I.list h;obtain⟨its',r',⟨o',n',e',_,_,d'⟩,_⟩:=I.list h';rw[e] at e';cases e';rw[d] at d';injection d' with d1 _;have:its=its':=by simpa using congrArg Array.toList d1
 subst this;exact r.inj r'
theorem Inv.tuple_inj(I:Inv X pins σ H s)(h:SqT X.K H a xs)(h':SqT X.K H a ys):xs=ys:=by
 obtain⟨its,r,⟨o,e,_,n,d⟩,_⟩:=I.tuple h;obtain⟨its',r',⟨o',e',_,n',d'⟩,_⟩:=I.tuple h';rw[e] at e';cases e';rw[d] at d';injection d' with d1 _;have:its=its':=by simpa using congrArg Array.toList d1
 subst this;exact r.inj r'
end
abbrev Cx.wish(X:Cx)(E:Value->Shared->Prop):Cx:={ X with xe:=E }
abbrev Cx.nox(X:Cx):Cx:=X.wish fun _ _=>False
theorem Cx.Ok.wish{X:Cx}(ok:X.Ok)(E:Value->Shared->Prop):(X.wish E).Ok :=
 ⟨ok.mod,ok.kind,ok.glob,ok.blt,ok.above,ok.inj,ok.has,ok.cab,ok.hd,ok.frames,ok.stk,ok.exf,ok.bs,ok.bsz,ok.noex,ok.exfs,ok.funs,ok.frf⟩
theorem Cx.Ok.unwish{X:Cx}{E:Value->Shared->Prop}(ok:(X.wish E).Ok):X.Ok :=
 ⟨ok.mod,ok.kind,ok.glob,ok.blt,ok.above,ok.inj,ok.has,ok.cab,ok.hd,ok.frames,ok.stk,ok.exf,ok.bs,ok.bsz,ok.noex,ok.exfs,ok.funs,ok.frf⟩
section
variable{X:Cx}{pins:List (Addr×Obj)}{σ:St}{H:Hp}{s:Shared}{E:Value->Shared->Prop}
theorem Inv.wish(I:Inv X pins σ H s)(E:Value->Shared->Prop):Inv (X.wish E) pins σ H s:=⟨I.ok.wish E,I.os,I.bare,I.base,I.loc,I.cell,I.free,I.freeC,I.pin,I.hok,I.len⟩
theorem Inv.unwish(I:Inv (X.wish E) pins σ H s):Inv X pins σ H s:=⟨I.ok.unwish,I.os,I.bare,I.base,I.loc,I.cell,I.free,I.freeC,I.pin,I.hok,I.len⟩
theorem SP.unwish{D:Ends}{f:Flow}{s':Shared}(h:SP (X.wish E) pins D f s'):SP X pins D f s':=by
 cases f with
 | next=>obtain⟨σ',H',I,q⟩:=h;exact⟨σ',H',I.unwish,q⟩
 | brk=>obtain⟨σ',H',I,q⟩:=h;exact⟨σ',H',I.unwish,q⟩
 | cont=>obtain⟨σ',H',I,q⟩:=h;exact⟨σ',H',I.unwish,q⟩
 | ret u=>obtain⟨v,σ',H',I,r,q⟩:=h;exact⟨v,σ',H',I.unwish,r,q⟩
theorem PSs.nox{st:List Stmt}{t:TS}(h:PSs X.nox st t):PSs X st t:=fun pins s σ H D I hw =>
 wpAny_mono (h pins s σ H D (I.wish _) hw) (fun _ _ q=>q.unwish) fun _ _ z=>False.elim z
end
section
variable{X:Cx}{st:Stmt}{rest:List Stmt}{t u:TS}{e:Expr}{te:TE}{pos:Pos}
def zun:TS:=fun D σ H=>D.nx σ H
def zkx(t u:TS):TS:=fun D σ H=>t { D with nx:=u D } σ H
theorem zup:PSs X [] zun:=fun _ _ σ H _ I h=>wpAny_execs_nil ⟨σ,H,I,h⟩
theorem ztR(h1:PS X st t)(h2:PSs X rest u):PSs X (st::rest) (zkx t u):=by
 intro pins s σ H D I h;refine wpAny_execs_cons (thn (h1 pins s σ H { D with nx:=u D } I h) fun f s1 q=>?_);cases f with
 | next =>
  obtain⟨σ',H',I',q⟩:=q;exact h2 pins s1 σ' H' D I' q
 | ret v=>exact q
 | brk=>exact q
 | cont=>exact q
theorem zvI(h1:PS X st t):PSs X [st] t:=by
 intro pins s σ H D I h;refine wpAny_execs_cons (thn (h1 pins s σ H D I h) fun f s1 q=>?_);cases f with
 | next=>exact wpAny_execs_nil q
 | ret v=>exact q
 | brk=>exact q
 | cont=>exact q
theorem Inv.quiet{pins:List (Addr×Obj)}{σ:St}{H:Hp}{s:Shared}(I:Inv X pins σ H s):interactive X.env=false:=by simp[interactive,I.ok.kind]
def zsh(te:TE):TS:=fun D σ H=>te σ H fun _ H1=>D.nx σ H1
theorem zvF(he:PE X e te)(hs:swapsWith e none pos.line X.env=pure false:=by rfl):PS X (.Expr e pos) (zsh te):=by
 intro pins s σ H D I h;exact wpAny_Expr_any (thn (he pins s σ H _ I h) fun v s1 ⟨x,H1,I1,r1,q1⟩=>⟨σ,H1,I1,q1⟩) I.quiet hs
def zoR(te:TE):TS:=fun D σ H=>te σ H D.rt
theorem zyA(he:PE X e te):PS X (.Return (some e) pos) (zoR te):=by
 intro pins s σ H D I h;exact wpAny_Return_some (thn (he pins s σ H _ I h) fun v s1 ⟨x,H1,I1,r1,q1⟩=>⟨x,σ,H1,I1,r1,q1⟩)
def zvN(c:TT)(t u:TS):TS:=fun D σ H=>c σ H fun b H1=>if b=true then t D σ H1 else u D σ H1
theorem zzI{c:Expr}{a b:List Stmt}{tc:TT}(hc:PT X c tc)(ha:PSs X a t)(hb:PSs X b u):PS X (.If c a b pos) (zvN tc t u):=by
 intro pins s σ H D I h;refine wpAny_If (thn (hc pins s σ H _ I h) fun d s1 ⟨H1,I1,q1⟩=>?_);cases d with
 | true=>exact ha pins s1 σ H1 D I1 q1
 | false=>exact hb pins s1 σ H1 D I1 q1
def zor:TS:=fun _ _ _=>False
theorem zsF:PS X st zor:=fun _ _ _ _ _ _ h=>h.elim
end
abbrev TG:=V->St->Hp->(St->Hp->Prop)->Prop
abbrev TGs:=List V->St->Hp->(St->Hp->Prop)->Prop
def PG(X:Cx)(target:Expr)(t:TG):Prop :=
 ∀(pins:List (Addr×Obj)) (s:Shared) (σ:St) (H:Hp) (v:V) (u:Value) (Q:St->Hp->Prop),Inv X pins σ H s->RelV v u->t v σ H Q ->
  wpAny (model X.prog X.w) X.A (assign target X.env u) (fun _ s'=>∃ σ' H',Inv X pins σ' H' s'/\Q σ' H') X.xe s
def PGs(X:Cx)(ts:List Expr)(t:TGs):Prop :=
 ∀(pins:List (Addr×Obj)) (s:Shared) (σ:St) (H:Hp) (vs:List V) (us:List Value) (Q:St->Hp->Prop),Inv X pins σ H s->Vals vs us->t vs σ H Q ->
  wpAny (model X.prog X.w) X.A (assignInOrder ((assignEach ts X.env).map (·.2)) us) (fun _ s'=>∃ σ' H',Inv X pins σ' H' s'/\Q σ' H') X.xe s
abbrev zqv:=V->V->V->Hp->(Hp->Prop)->Prop
def zym(X:Cx)(t:zqv):Prop :=
 ∀(pins:List (Addr×Obj)) (s:Shared) (σ:St) (H:Hp) (o i v:V) (ov iv u:Value) (Q:Hp->Prop),Inv X pins σ H s->RelV o ov->RelV i iv->RelV v u->t o i v H Q ->
  wpAny (model X.prog X.w) X.A (setItem ov iv u) (fun _ s'=>∃H',Inv X pins σ H' s'/\Q H') X.xe s
section
variable{X:Cx}{pos:Pos}
def zd8(i:Nat):TG:=fun v σ H Q=>Q (σ.set i (some v)) H
theorem zvw{i:Nat}{x:Str}(hN:X.N.Nodup)(hi:X.N[i]? = some x)(hx:Loc X.env.scope x)(hf:X.fn x=true\/X.env.scope.names.lookup x=some .local:=by first | exact .inl rfl | exact .inr rfl | assumption):PG X (.Name x pos) (zd8 i):=by
 intro pins s σ H v u Q I r h;exact wpAny_assign_Name (zm2 I hN hi hx r (fun s' I'=>⟨_,H,I',h⟩) hf)
def zwU:TGs:=fun vs σ H Q=>vs=[]/\Q σ H
def zsG(t:TG)(u:TGs):TGs:=fun vs σ H Q=>∃v r,vs=v::r/\t v σ H fun σ' H'=>u r σ' H' Q
theorem zuL:PGs X [] zwU:=by
 intro pins s σ H vs us Q I r h;obtain⟨e,h⟩:=h;subst e;cases r;exact assignInOrder_nil ⟨σ,H,I,h⟩
theorem zr6{e:Expr}{es:List Expr}{t:TG}{u:TGs}(h1:PG X e t)(h2:PGs X es u)
  (hs:(assignEach (e::es) X.env).map (·.2)=assign e X.env::(assignEach es X.env).map (·.2):=by rfl):PGs X (e::es) (zsG t u):=by
 intro pins s σ H vs us Q I r h;obtain⟨v,vr,e1,h⟩:=h;subst e1;cases r with
 | cons r rr =>
  rw[hs];refine assignInOrder_cons (thn (h1 pins s σ H _ _ _ I r h) fun _ s1 ⟨σ1,H1,I1,q1⟩=>?_);exact h2 pins s1 σ1 H1 _ _ Q I1 rr q1
def zvO(K:Frag)(n:Nat)(t:TGs):TG:=fun v σ H Q=>∃a xs,v= .ref a/\SqT K H a xs/\xs.length=n/\t xs σ H Q
theorem zs9{es:List Expr}{k:Nat}{t:TGs}{n:Nat}(hc:X.calm=true)(h:PGs X es t)
  (hn:(assignEach es X.env).length=n:=by rfl)(hst:(assignEach es X.env).findIdx? (·.1)=none:=by rfl):PG X (.Tuple es k pos) (zvO X.K n t):=by
 intro pins s σ H v u Q I r hw;obtain⟨a,xs,e1,hq,hl,hw⟩:=hw;subst e1;cases r;obtain⟨its,rv,ht,hz⟩:=I.tuple hq;refine assign_Tuple_tuple (I.ok.hd hc) ht (by simp[hn,<- hl,rv.length]) hst fun h' hx=>?_
 have I1:Inv X pins σ H { s with heap:=h' }:=I.kept (t':=s.toks) fun b o e=>hx b o (Nat.ne_of_lt (Heap.lt_size e)) e
 exact h pins _ σ H xs _ Q I1 (by simpa using rv) hw
def zlN(to ti:TE)(t:zqv):TG:=fun v σ H Q=>to σ H fun o H1=>ti σ H1 fun i H2=>t o i v H2 fun H3=>Q σ H3
theorem zxt{o i:Expr}{to ti:TE}{t:zqv}(ho:PE X o to)(hi:PE X i ti)(hs:zym X t)
  (ha:∀v,assign (.Subscript o i pos) X.env v=(do
   let ov<-holding [v] (eval o X.env)
   let iv<-holding [v,ov] (eval i X.env)
   standAt pos
   holding [v,ov,iv] (setItem ov iv v)
   release [v,ov,iv] []):=by intro _;rfl):PG X (.Subscript o i pos) (zlN to ti t):=by
 intro pins s σ H v u Q I r h;rw[ha];refine wpAny_bind (wpAny_holding (thn (ho pins s σ H _ I h) fun ov s1 ⟨x,H1,I1,r1,q1⟩=>?_));refine wpAny_bind (wpAny_holding (thn (hi pins s1 σ H1 _ I1 q1) fun iv s2 ⟨y,H2,I2,r2,q2⟩=>?_));refine wpAny_bind (wpAny_standAt (wpAny_bind (wpAny_holding (thn (hs pins s2 σ H2 x y v ov iv u _ I2 r1 r2 r q2) fun _ s3 ⟨H3,I3,q3⟩=>?_))));exact wpAny_release ⟨σ,H3,I3,q3⟩
def zdO(te:TE)(g:TG):TS:=fun D σ H=>te σ H fun x H1=>g x σ H1 D.nx
theorem zyl{tg e:Expr}{te:TE}{g:TG}(he:PE X e te)(hg:PG X tg g)(hs:swapsWithSole [tg] e pos.line X.env=pure false:=by rfl)(hw:swappedStores [tg] e X.env=pure none:=by rfl)
  (h1:(assignEach [tg] X.env).map (·.2)=[assign tg X.env]:=by rfl):PS X (.Assign [tg] e pos) (zdO te g):=by
 intro pins s σ H D I h;refine wpAny_Assign_stores (thn (he pins s σ H _ I h) fun v s1 ⟨x,H1,I1,r1,q1⟩=>?_) hs hw;rw[h1];exact thn (hg pins s1 σ H1 x v _ I1 r1 q1) fun _ s2 q=>q
theorem zxm{i:Nat}{x:Str}{e:Expr}{te:TE}{pos':Pos}(hN:X.N.Nodup)(hi:X.N[i]? = some x)(hx:Loc X.env.scope x)(he:PE X e te)(hs:swapsWith e (some (.Name x pos')) pos.line X.env=pure false:=by rfl)(hf:X.fn x=true\/X.env.scope.names.lookup x=some .local:=by first | exact .inl rfl | exact .inr rfl | assumption) :
  PS X (.Assign [.Name x pos'] e pos) (zdO te (zd8 i)):=by
 intro pins s σ H D I h;refine wpAny_Assign_Name (thn (he pins s σ H _ I h) fun v s1 ⟨y,H1,I1,r1,q1⟩=>?_) hs;exact zm2 I1 hN hi hx r1 (fun s2 I2=>⟨_,H1,I2,q1⟩) hf
end
section
variable{X:Cx}{pos:Pos}
end
structure It where
 go:Nat->Hp->Prop
 yld:Nat->Hp->V->Hp->Prop
 stop:Nat->Hp->Prop
def zfh(X:Cx)(pins:List (Addr×Obj))(H:Hp)(b:Addr):Prop :=
 H b=none/\b≠X.env.locals/\b∉X.fs/\(b∈X.ex\/X.s₀.heap.objs.size<=b)/\(∀x c,X.env.cells.lookup x=some c->c≠b)/\∀p∈X.pn++pins,p.1≠b
theorem Inv.fpOk{X:Cx}{pins:List (Addr×Obj)}{σ:St}{H H':Hp}{s:Shared}{b:Addr}(I:Inv X pins σ H s)(hb:s.heap.objs.size<=b)(hn:H' b=none):zfh X pins H' b:=by
 refine⟨hn,Nat.ne_of_gt (Nat.lt_of_lt_of_le I.lt hb),I.nofs hb, .inr (Nat.le_trans I.sz hb),fun x c e z=>?_,fun p hp z=>?_⟩
 .obtain⟨v,q⟩:=I.cell x c e;exact absurd (Nat.lt_of_lt_of_le q.lt (by rw[z];exact hb)) (Nat.lt_irrefl _)
 .exact absurd (Nat.lt_of_lt_of_le (Heap.lt_size (I.pin p hp).1) (by rw[z];exact hb)) (Nat.lt_irrefl _)
structure Turn(P:Program)(w:World)(K:Frag)(tg:Expr)(J:It)(fp:List Addr)(it:Addr)(tn:Nat->Heap->Prop):Prop where
 mem:it∈fp
 obj:∀i h,tn i h->∀b∈fp,∃o,h.get? b=some o/\∀v,o.data≠ .cell v
 keep:∀i h h',tn i h->(∀b∈fp,∀o,h.get? b=some o->h'.get? b=some o)->tn i h'
 item:∀(X:Cx),X.prog=P->X.w=w->X.K=K->X.calm=true->∀(i:Nat) (pins:List (Addr×Obj)) (s:Shared) (σ:St) (H:Hp) (E:Value->Shared->Prop),Inv X pins σ H s->(∀b∈fp,zfh X pins H b)->tn i s.heap->J.go i H ->
  wpAny (model P w) X.A (pyNext (.ref it)) (fun r s1=>∃u,r=some u /\
   wpAny (model P w) X.A (letOwnedTupleGo tg (.ref it) u) (fun _ s2=>∃x H',Inv X pins σ H' s2/\RelV x u/\J.yld i H x H'/\tn (i+1) s2.heap/\∀b∈fp,H' b=none) E s1) E s
 done:∀(X:Cx),X.prog=P->X.w=w->X.K=K->X.calm=true->∀(i:Nat) (pins:List (Addr×Obj)) (s:Shared) (σ:St) (H:Hp) (E:Value->Shared->Prop),Inv X pins σ H s->(∀b∈fp,zfh X pins H b)->tn i s.heap->J.stop i H ->
  wpAny (model P w) X.A (pyNext (.ref it)) (fun r s1=>r=none/\Inv X pins σ H s1) E s
 self:∀(A:Around) (i:Nat) (s:Shared) (Q:Value->Shared->Prop) (E:Value->Shared->Prop),tn i s.heap->Q (.ref it) s->wpAny (model P w) A (pyIter (.ref it)) Q E s
abbrev TI:=St->Hp->(It->Hp->Prop)->Prop
def PIE(X:Cx)(pins:List (Addr×Obj))(σ:St)(tg:Expr)(R:It->Hp->Prop)(itv:Value)(s2:Shared):Prop :=
 ∃(it:Addr) (fp:List Addr) (tn:Nat->Heap->Prop) (J:It) (H':Hp),itv= .ref it/\Inv X pins σ H' s2/\Turn X.prog X.w X.K tg J fp it tn/\tn 0 s2.heap/\(∀b∈fp,zfh X pins H' b)/\R J H'
def PI(X:Cx)(tg iter:Expr)(wi:TI):Prop :=
 ∀(pins:List (Addr×Obj)) (s:Shared) (σ:St) (H:Hp) (R:It->Hp->Prop),Inv X pins σ H s->wi σ H R ->
  wpAny (model X.prog X.w) X.A (eval iter X.env) (fun v s1=>wpAny (model X.prog X.w) X.A (pyIter v) (PIE X pins σ tg R) X.xe s1) X.xe s
theorem zpC{M:Model}{A:Around}{E:Value->Shared->Prop}{s:Shared}{tg:Expr}{it:Addr}{u:Value}{o:Obj}{n:String}{vs:Array Value}{Q:Unit->Shared->Prop}(ho:s.heap.get? it=some o)(hc:o.cls= .type n)(hd:o.data= .fields vs)
  (hn:["enumerate","zip","dict_itemiterator","dict_reverseitemiterator","odict_iterator","itertools.zip_longest","itertools.pairwise"].contains n=false)(hQ:Q () s):wpAny M A (letOwnedTupleGo tg (.ref it) u) Q E s:=by
 unfold letOwnedTupleGo;cases tg<;>first
  | exact wpAny_pure hQ
  | (cases u<;>first
    | exact wpAny_pure hQ
    | (refine wpAny_bind (wpAny_load ho ?_)
       rw[hc,hd];show wpAny M A (if (["enumerate","zip","dict_itemiterator","dict_reverseitemiterator","odict_iterator","itertools.zip_longest","itertools.pairwise"].contains n&&vs[0]? == some (rawInt _))=true then _ else _) Q E s;rw[if_neg (by intro h;rw[hn,Bool.false_and] at h;cases h)];exact wpAny_pure hQ))
def Itl(K:Frag)(a:Addr):It :=
 ⟨fun i H=>∃xs x,SqL K H a xs/\xs[i]? = some x,fun i H x H'=>H'=H/\∀xs,SqL K H a xs->xs[i]? = some x,fun i H=>∃xs,SqL K H a xs/\xs.length<=i⟩
def Itt(K:Frag)(a:Addr):It :=
 ⟨fun i H=>∃xs x,SqT K H a xs/\xs[i]? = some x,fun i H x H'=>H'=H/\∀xs,SqT K H a xs->xs[i]? = some x,fun i H=>∃xs,SqT K H a xs/\xs.length<=i⟩
def Itr(lo:Int)(n:Nat):It:=⟨fun i _=>i < n,fun i H x H'=>H'=H/\x= .int (lo+i),fun i _=>n<=i⟩
theorem zrF{P:Program}{w:World}{K:Frag}{tg:Expr}(a it:Addr):Turn P w K tg (Itl K a) [it] it (fun i h=>h.IsListIter it a i) where
 mem:=by simp
 obj:=fun i h st b hb=>by
  have e:b=it:=by simpa using hb
  subst e;obtain⟨o,e,c,d⟩:=st;exact⟨o,e,fun v z=>by rw[d] at z;cases z⟩
 keep:=fun i h h' st k=>st.at fun o e=>k it (by simp) o e
 item:=by
  intro X hP hw hK hc i pins s σ H E I hf st hg;subst hP hw hK;obtain⟨xs,x,hq,hx⟩:=hg;obtain⟨its,rv,p,hz⟩:=I.list hq;obtain⟨u,hu,ru⟩:=rv.get hx;obtain⟨f0,f1,f2,f3,f4,f5⟩:=hf it (by simp);refine wpAny_pyNext_list_item st p.isList (x:=u) (by simpa using hu) fun h' st' sb=>?_
  have I1:Inv X pins σ H { s with heap:=h' }:=I.turned (t':=s.toks) (fun b o hb e=>(sb.2 b hb).trans e) f0 f1 f3 f4 f5;obtain⟨o,e,c,d⟩:=id st';exact⟨u,rfl,zpC (s:={ s with heap:=h' }) e c d (by decide) ⟨x,H,I1,ru,⟨rfl,fun ys hy=>by rw[I.list_inj hy hq];exact hx⟩,st',fun b hb=>(hf b hb).1⟩⟩
 done:=by
  intro X hP hw hK hc i pins s σ H E I hf st hg;subst hP hw hK;obtain⟨xs,hq,hx⟩:=hg;obtain⟨its,rv,p,hz⟩:=I.list hq;obtain⟨f0,f1,f2,f3,f4,f5⟩:=hf it (by simp);have hl:=rv.length;exact wpAny_pyNext_list_end (I.ok.hd hc) st p.isList (by simp;omega) fun h' eb=>⟨rfl,I.turned (t':=s.toks) (fun b o hb e=>eb b o hb e) f0 f1 f3 f4 f5⟩
 self:=fun _ _ _ _ _ st h=>wpAny_pyIter_listiter st h
theorem zoT{P:Program}{w:World}{K:Frag}{tg:Expr}(a it:Addr):Turn P w K tg (Itt K a) [it] it (fun i h=>h.IsTupleIter it a i) where
 mem:=by simp
 obj:=fun i h st b hb=>by
  have e:b=it:=by simpa using hb
  subst e;obtain⟨o,e,c,d⟩:=st;exact⟨o,e,fun v z=>by rw[d] at z;cases z⟩
 keep:=fun i h h' st k=>st.at fun o e=>k it (by simp) o e
 item:=by
  intro X hP hw hK hc i pins s σ H E I hf st hg;subst hP hw hK;obtain⟨xs,x,hq,hx⟩:=hg;obtain⟨its,rv,p,hz⟩:=I.tuple hq;obtain⟨u,hu,ru⟩:=rv.get hx;obtain⟨f0,f1,f2,f3,f4,f5⟩:=hf it (by simp);refine wpAny_pyNext_tuple_item st (show s.heap.IsTuple a its.toArray from p) (x:=u) (by simpa using hu) fun h' st' sb=>?_
  have I1:Inv X pins σ H { s with heap:=h' }:=I.turned (t':=s.toks) (fun b o hb e=>(sb.2 b hb).trans e) f0 f1 f3 f4 f5;obtain⟨o,e,c,d⟩:=id st';exact⟨u,rfl,zpC (s:={ s with heap:=h' }) e c d (by decide) ⟨x,H,I1,ru,⟨rfl,fun ys hy=>by rw[I.tuple_inj hy hq];exact hx⟩,st',fun b hb=>(hf b hb).1⟩⟩
 done:=by
  intro X hP hw hK hc i pins s σ H E I hf st hg;subst hP hw hK;obtain⟨xs,hq,hx⟩:=hg;obtain⟨its,rv,p,hz⟩:=I.tuple hq;obtain⟨f0,f1,f2,f3,f4,f5⟩:=hf it (by simp);have hl:=rv.length;exact wpAny_pyNext_tuple_end (I.ok.hd hc) st (show s.heap.IsTuple a its.toArray from p) (by simp;omega) fun h' eb=>⟨rfl,I.turned (t':=s.toks) (fun b o hb e=>eb b o hb e) f0 f1 f3 f4 f5⟩
 self:=fun _ _ _ _ _ st h=>wpAny_pyIter_tupleiter st h
theorem zo5{P:Program}{w:World}{K:Frag}{tg:Expr}(it:Addr)(lo:Int)(n:Nat):Turn P w K tg (Itr lo n) [it] it (fun i h=>IsRangeIter h it (lo+(i:Nat)*1) ((n:Int) - (i:Nat)) 1) where
 mem:=by simp
 obj:=fun i h st b hb=>by
  have e:b=it:=by simpa using hb
  subst e;exact⟨_,st,fun v z=>by
   have z':Data.fields _=Data.cell v:=z;cases z'⟩
 keep:=fun i h h' st k=>k it (by simp) _ st
 item:=by
  intro X hP hw hK hc i pins s σ H E I hf st hg;subst hP hw hK;obtain⟨f0,f1,f2,f3,f4,f5⟩:=hf it (by simp);have W:=Walks.range (prog:=X.prog) (w:=X.w) (I.ok.hd hc) it lo 1 n;refine W.item i s _ _ hg st fun v h' tk hv st' kk=>?_
  obtain⟨t,rfl⟩:=hv;have I1:Inv X pins σ H { s with heap:=h',toks:=tk }:=I.turned (fun b o hb e=>kk b o (by simpa using hb) e) f0 f1 f3 f4 f5;refine⟨_,rfl,zpC (s:={ s with heap:=h',toks:=tk }) (n:="range_iterator") st' rfl rfl (by decide) ⟨.int (lo+i),H,I1,⟨t,?_⟩,⟨rfl,rfl⟩,st',fun b hb=>(hf b hb).1⟩⟩;rw[Int.mul_one]
 done:=by
  intro X hP hw hK hc i pins s σ H E I hf st hg;subst hP hw hK;obtain⟨f0,f1,f2,f3,f4,f5⟩:=hf it (by simp);exact wpAny_pyNext_range_end (I.ok.hd hc) st (by have:n<=i:=hg;omega) fun h' eb=>⟨rfl,I.turned (t':=s.toks) (fun b o hb e=>eb b o hb e) f0 f1 f3 f4 f5⟩
 self:=fun _ _ _ _ _ st h=>wpAny_pyIter_rangeiter st h
section
variable{X:Cx}{tg:Expr}
theorem zse{pins:List (Addr×Obj)}{σ:St}{H:Hp}{s:Shared}{R:It->Hp->Prop}{E:Value->Shared->Prop}{lo hi:Int}{t u v:Tok}{tk:Nat}(I:Inv X pins σ H s)(h1: -(2^62)<=lo)(h2:lo < 2^62)(h3: -(2^62)<=hi)(h4:hi < 2^62)
  (q:R (Itr lo (hi - lo).toNat) H):wpAny (model X.prog X.w) X.A (pyIter (.ref s.heap.objs.size)) (PIE X pins σ tg R) E { s with heap:=s.heap.push { cls:= .type "range",data:= .fields #[.int lo t, .int hi u, .int 1 v] },toks:=tk }:=by
 refine wpAny_pyIter_range (IsRange.new ..) (small_one h1 h2 h3 h4) ?_;have I1:Inv X pins σ H { s with heap:=s.heap.push { cls:= .type "range",data:= .fields #[.int lo t, .int hi u, .int 1 v] },toks:=tk }:=I.kept fun b o e=>Heap.get?_push_of_some _ e
 refine⟨(s.heap.push { cls:= .type "range",data:= .fields #[.int lo t, .int hi u, .int 1 v] }).objs.size,[(s.heap.push { cls:= .type "range",data:= .fields #[.int lo t, .int hi u, .int 1 v] }).objs.size],_,_,H,rfl,
  I1.kept (t':=tk) fun b o e=>Heap.get?_push_of_some _ e,zo5 _ lo (hi - lo).toNat,?_,fun b hb=>?_,q⟩
 .have e1:lo+((0:Nat):Int)*1=lo:=by simp
  have e2:(((hi - lo).toNat:Nat):Int) - ((0:Nat):Int)=Builtin.Range.rangeSize lo hi 1:=by rw[rangeSize_one];split<;>omega
  show IsRangeIter _ _ (lo+((0:Nat):Int)*1) ((((hi - lo).toNat:Nat):Int) - ((0:Nat):Int)) 1;rw[e1,e2];exact Heap.get?_push_size _ rfl
 .have e:b=(s.heap.push { cls:= .type "range",data:= .fields #[.int lo t, .int hi u, .int 1 v] }).objs.size:=by simpa using hb
  subst e;exact I1.fpOk (Nat.le_refl _) (I1.hok.fresh (Nat.le_refl _))
def ztN(ta:TA):TI:=fun σ H R=>ta σ H fun vs H1=>∃j:Int,vs=[.int j]/\ -(2^62)<=j/\j < 2^62/\R (Itr 0 j.toNat) H1
theorem zrd{a:Expr}{ta:TA}{p pos:Pos}(hg:Gl X "range")(hm:X.mg "range"=none)(ha:PA X [a] ta)(hs:starEach [a] X.env=[(false,eval a X.env)]:=by rfl):PI X tg (.Call (.Name "range" p) [a] [] pos) (ztN ta):=by
 intro pins s σ H R I h;refine Call_ (zhx I hg hm boot_range (PyProof.Rows.callWith_type1 (thn (ha pos pins s σ H _ I h) fun us s1 ⟨vs,H1,I1,r1,q1⟩=>?_) hs rfl));obtain⟨j,e,q1,q2,q⟩:=q1;subst e;cases r1 with
 | cons r rr =>
  cases rr;obtain⟨t,rfl⟩:=r;exact call_range_1 (zse I1 (by omega) (by omega) q1 q2 (by simpa using q))
def zxU(wi:TI)(g:TG)(tb:TS):TS:=fun D σ H=>wi σ H fun J H1=>∃W:Nat->Nat->St->Hp->Prop,(∃m,W 0 m σ H1)/\∀i m σ H,W i m σ H ->
 (J.stop i H/\D.nx σ H)\/(J.go i H/\∃N:St->Hp->Prop,(∀ σ' H',N σ' H'->∃m',m' < m/\W (i+1) m' σ' H')/\∀x H',J.yld i H x H'->g x σ H' fun σ2 H2=>tb { D with nx:=N,ct:=N,bk:=D.nx } σ2 H2)
def zdr(fp:List Addr)(h:Heap):List (Addr×Obj):=fp.filterMap fun b=>(h.get? b).map fun o=>(b,o)
theorem zb5{fp:List Addr}{h:Heap}{b:Addr}{o:Obj}(hb:b∈fp)(e:h.get? b=some o):(b,o)∈zdr fp h:=List.mem_filterMap.mpr ⟨b,hb,by rw[e];rfl⟩
theorem zlw{fp:List Addr}{h:Heap}{p:Addr×Obj}(hp:p∈zdr fp h):p.1∈fp/\h.get? p.1=some p.2:=by
 obtain⟨b,hb,e⟩:=List.mem_filterMap.mp hp;cases q:h.get? b with
 | none=>rw[q] at e;cases e
 | some o =>
  rw[q] at e;have e':(b,o)=p:=Option.some.inj e;subst e';exact⟨hb,q⟩
theorem Inv.pinned{pins:List (Addr×Obj)}{σ:St}{H:Hp}{s:Shared}{fp:List Addr}(I:Inv X pins σ H s)(hf:∀b∈fp,zfh X pins H b)(ho:∀b∈fp,∃o,s.heap.get? b=some o/\∀v,o.data≠ .cell v):Inv X (pins++zdr fp s.heap) σ H s :=
 I.pins_of fun p hp=>(List.mem_append.mp hp).elim (fun z=>I.pin p (List.mem_append_right _ z)) fun z=>by
  obtain⟨hb,e⟩:=zlw z;obtain⟨f0,f1,f2,_⟩:=hf p.1 hb;obtain⟨o,e',d⟩:=ho p.1 hb;rw[e] at e';cases e';exact⟨e,f0,f1,f2,d⟩
theorem Inv.unpinned{pins pl:List (Addr×Obj)}{σ:St}{H:Hp}{s:Shared}(I:Inv X (pins++pl) σ H s):Inv X pins σ H s:=I.pins_of fun p hp=>I.pin p (List.mem_append_right _ (List.mem_append_left _ hp))
theorem zwG{iter:Expr}{body:List Stmt}{wi:TI}{g:TG}{tb:TS}{pos:Pos}(hp:PassesOwn (model X.prog X.w) X.A X.env X.xe)(hc:X.calm=true)(hi:PI X tg iter wi)(hg:PG X tg g)(hb:PSs X body tb)
  (hs:∀x,foldedSetIterable iter X.env x=pure x:=by intro _;rfl):PS X (.For tg iter body [] pos) (zxU wi g tb):=by
 intro pins s σ H D I h;refine wpAny_For (thn (hi pins s σ H _ I h) fun v s1 h1=>thn h1 fun itv s2 h2=>?_) hs;obtain⟨it,fp,tn,J,H2,e,I2,T,st2,f2,W,⟨m0,w0⟩,turn⟩:=h2;subst e;have stat:∀{H':Hp},(∀b∈fp,H' b=none)->∀b∈fp,zfh X pins H' b:=fun hn b hb=>⟨hn b hb,(f2 b hb).2⟩
 refine codeAny_forLoop_any (fun n s'=>∃i σ' H',Inv X pins σ' H' s'/\tn i s'.heap/\(∀b∈fp,H' b=none)/\W i n σ' H') ?_ m0 ⟨0,σ,H2,I2,st2,fun b hb=>(f2 b hb).1,w0⟩;rintro n s3 ⟨i,σ3,H3,I3,st3,fr3,w3⟩;rcases turn i n σ3 H3 w3 with⟨stop,qn⟩ | ⟨go,N,hN,step⟩
 .refine wpAny_passesOwn hp (thn (T.done X rfl rfl rfl hc i pins s3 σ3 H3 X.xe I3 (stat fr3) st3 stop) fun r s4 ⟨hr,I4⟩=>?_);subst hr;exact wpAny_execs_nil ⟨σ3,H3,I4,qn⟩
 .refine wpAny_passesOwn hp (thn (T.item X rfl rfl rfl hc i pins s3 σ3 H3 X.xe I3 (stat fr3) st3 go) fun r s4 ⟨u,hr,h4⟩=>?_);subst hr;refine wpAny_passesOwn hp (thn h4 fun _ s5 ⟨x,H5,I5,r5,y5,st5,fr5⟩=>?_);have I5':=I5.pinned (stat fr5) (T.obj _ _ st5);refine wpAny_passesOwn hp (thn (hg _ s5 σ3 H5 x u _ I5' r5 (step x H5 y5)) fun _ s6 ⟨σ6,H6,I6,q6⟩=>?_);refine wpAny_passesOwn hp (thn (hb _ s6 σ6 H6 _ I6 q6) fun f s7 q7=>?_);have again:∀{σ7:St} {H7:Hp},Inv X (pins++zdr fp s5.heap) σ7 H7 s7->N σ7 H7->∃m,m < n/\∃i σ' H',Inv X pins σ' H' s7/\tn i s7.heap/\(∀b∈fp,H' b=none)/\W i m σ' H':=fun{σ7 H7} I7 n7=>by
   obtain⟨m',hm,w7⟩:=hN σ7 H7 n7;refine⟨m',hm,i+1,σ7,H7,I7.unpinned,T.keep _ _ _ st5 fun b hb o e=>(I7.pin (b,o) (List.mem_append_right _ (List.mem_append_right _ (zb5 hb e)))).1,fun b hb=>?_,w7⟩;obtain⟨o,e,d⟩:=T.obj _ _ st5 b hb;exact(I7.pin (b,o) (List.mem_append_right _ (List.mem_append_right _ (zb5 hb e)))).2.1
  cases f with
  | next=>obtain⟨σ7,H7,I7,n7⟩:=q7;exact again I7 n7
  | cont=>obtain⟨σ7,H7,I7,n7⟩:=q7;exact again I7 n7
  | brk=>obtain⟨σ7,H7,I7,q7⟩:=q7;exact⟨σ7,H7,I7.unpinned,q7⟩
  | ret v=>obtain⟨x7,σ7,H7,I7,r7,q7⟩:=q7;exact⟨x7,σ7,H7,I7.unpinned,r7,q7⟩
end
abbrev R2:=V->V->Hp->VK->Prop
def OpR(X:Cx)(f:Value->Value->Sem Value)(r:R2):Prop :=
 ∀(pins:List (Addr×Obj)) (s:Shared) (σ:St) (H:Hp) (x y:V) (v u:Value) (Q:VK),Inv X pins σ H s->RelV x v->RelV y u->r x y H Q ->
  wpAny (model X.prog X.w) X.A (f v u) (EP X pins σ Q) X.xe s
def UnR(X:Cx)(f:Value->Sem Value)(r:V->Hp->VK->Prop):Prop :=
 ∀(pins:List (Addr×Obj)) (s:Shared) (σ:St) (H:Hp) (x:V) (v:Value) (Q:VK),Inv X pins σ H s->RelV x v->r x H Q ->
  wpAny (model X.prog X.w) X.A (f v) (EP X pins σ Q) X.xe s
def zN(X:Cx)(f:Value)(r:List V->Hp->VK->Prop):Prop :=
 ∀(pins:List (Addr×Obj)) (s:Shared) (σ:St) (H:Hp) (xs:List V) (us:List Value) (Q:VK),Inv X pins σ H s->Vals xs us->r xs H Q ->
  wpAny (model X.prog X.w) X.A (call f us) (EP X pins σ Q) X.xe s
def tOp(r:R2)(ta tb:TE):TE:=fun σ H Q=>ta σ H fun x H1=>tb σ H1 fun y H2=>r x y H2 Q
def tUn(r:V->Hp->VK->Prop)(ta:TE):TE:=fun σ H Q=>ta σ H fun x H1=>r x H1 Q
def rI(C:Int->Int->Prop)(g:Int->Int->V):R2:=fun x y H Q=>∃i j,x= .int i/\y= .int j/\C i j/\Q (g i j) H
def rI0(g:Int->Int->V):R2:=fun x y H Q=>∃i j,x= .int i/\y= .int j/\Q (g i j) H
def rU(g:Int->V):V->Hp->VK->Prop:=fun x H Q=>∃i,x= .int i/\Q (g i) H
section
variable{X:Cx}{a b c:Expr}{ta tb tc:TE}{pos:Pos}
theorem zwO(ha:PE X a ta)(hb:PE X b tb){pins:List (Addr×Obj)}{s:Shared}{σ:St}{H:Hp}{R:V->V->Hp->Prop}(I:Inv X pins σ H s)
  (h:ta σ H fun x H1=>tb σ H1 fun y H2=>R x y H2){Q:Value->Shared->Prop}{f:Value->Value->Sem Value}
  (hf:∀v u s2 x y H2,Inv X pins σ H2 s2->RelV x v->RelV y u->R x y H2->wpAny (model X.prog X.w) X.A (f v u) Q X.xe s2) :
  wpAny (model X.prog X.w) X.A (eval a X.env) (fun v s₁=>wpAny (model X.prog X.w) X.A (eval b X.env) (fun u s₂=>wpAny (model X.prog X.w) X.A (f v u) Q X.xe s₂) X.xe s₁) X.xe s:=by
 refine thn (ha pins s σ H _ I h) fun v s1 ⟨x,H1,I1,r1,q1⟩=>?_
 refine thn (hb pins s1 σ H1 _ I1 q1) fun u s2 ⟨y,H2,I2,r2,q2⟩=>?_
 exact hf v u s2 x y H2 I2 r1 r2 q2
theorem zzS{op:Operator}{r:R2}(ho:OpR X (binaryOp op) r)(ha:PE X a ta)(hb:PE X b tb):PE X (.BinOp a op b pos) (tOp r ta tb):=by
 intro pins s σ H Q I h;exact wpAny_BinOp (zwO ha hb I h fun v u s2 x y H2 I2 rx ry q=>ho pins s2 σ H2 x y v u Q I2 rx ry q)
theorem zyJ{op:UnaryOp}{r:V->Hp->VK->Prop}(ho:UnR X (unaryOp op) r)(ha:PE X a ta):PE X (.UnaryOp op a pos) (tUn r ta):=by
 intro pins s σ H Q I h;exact UnaryOp_ (thn (ha pins s σ H _ I h) fun v s1 ⟨x,H1,I1,r1,q1⟩=>ho pins s1 σ H1 x v Q I1 r1 q1)
theorem opI{f:Value->Value->Sem Value}{C:Int->Int->Prop}{g:Int->Int->Int}
  (rule:∀(i j:Int) (t u:Tok) (s:Shared) (Q:Value->Shared->Prop) (E:Value->Shared->Prop),C i j->Q (.int (g i j) s.toks) { s with toks:=s.toks+1 }->wpAny (model X.prog X.w) X.A (f (.int i t) (.int j u)) Q E s) :
  OpR X f (rI C fun i j=> .int (g i j)):=by
 intro pins s σ H x y v u Q I rx ry h;obtain⟨i,j,rfl,rfl,hc,q⟩:=h;obtain⟨t,rfl⟩:=rx;obtain⟨t',rfl⟩:=ry;exact rule i j t t' s _ _ hc ⟨.int (g i j),H,I.tok _,⟨_,rfl⟩,q⟩
theorem zzw{f:Value->Value->Sem Value}{g:Int->Int->Int}
  (rule:∀(i j:Int) (t u:Tok) (s:Shared) (Q:Value->Shared->Prop) (E:Value->Shared->Prop),Q (.int (g i j) s.toks) { s with toks:=s.toks+1 }->wpAny (model X.prog X.w) X.A (f (.int i t) (.int j u)) Q E s) :
  OpR X f (rI0 fun i j=> .int (g i j)):=by
 intro pins s σ H x y v u Q I rx ry h;obtain⟨i,j,rfl,rfl,q⟩:=h;obtain⟨t,rfl⟩:=rx;obtain⟨t',rfl⟩:=ry;exact rule i j t t' s _ _ ⟨.int (g i j),H,I.tok _,⟨_,rfl⟩,q⟩
theorem zyx{f:Value->Value->Sem Value}{g:Int->Int->Bool}
  (rule:∀(i j:Int) (t u:Tok) (s:Shared) (Q:Value->Shared->Prop) (E:Value->Shared->Prop),Q (.bool (g i j)) s->wpAny (model X.prog X.w) X.A (f (.int i t) (.int j u)) Q E s) :
  OpR X f (rI0 fun i j=> .bl (g i j)):=by
 intro pins s σ H x y v u Q I rx ry h;obtain⟨i,j,rfl,rfl,q⟩:=h;obtain⟨t,rfl⟩:=rx;obtain⟨t',rfl⟩:=ry;exact rule i j t t' s _ _ ⟨.bl (g i j),H,I,rfl,q⟩
def zvH(i j:Int):Prop:=0<=j/\j<=1000000/\i.natAbs < 2^64
def zmK(i j:Int):Prop:=(-(2^64) < i/\i < 2^64)\/(-(2^64) < j/\j < 2^64)
theorem zmK.ok{i j:Int}(h:zmK i j):IntMulOk i j:=by
 rcases h with⟨h1,h2⟩ | ⟨h1,h2⟩
 .exact .of_left (intBits_le_64 h1 h2)
 .exact .of_right (intBits_le_64 h1 h2)
theorem zmA:OpR X (binaryOp .Add) (rI0 fun i j=> .int (i+j)):=zzw fun _ _ _ _ _ _ _ q=>add_int q
theorem zd0:OpR X (binaryOp .Sub) (rI0 fun i j=> .int (i - j)):=zzw fun _ _ _ _ _ _ _ q=>sub_int q
theorem zsa:OpR X (binaryOp .Mult) (rI zmK fun i j=> .int (i*j)):=opI fun _ _ _ _ _ _ _ hc q=>mul_int q hc.ok
theorem zhb:OpR X (binaryOp .Mod) (rI (fun _ j=>0 < j) fun i j=> .int (i % j)):=opI fun i j _ _ _ _ _ hc q=>by
 have h1:(0:Int) < j:=hc;exact mod_int' (by omega) (by rw[Int.fmod_eq_emod_of_nonneg i (by omega)];exact q)
theorem zsl:OpR X (binaryOp .Pow) (rI zvH fun i j=> .int (i^j.toNat)):=opI fun _ _ _ _ _ _ _ hc q=>pow_int_small hc.1 hc.2.1 hc.2.2 q
theorem unI{f:Value->Sem Value}{g:Int->Int}
  (rule:∀(i:Int) (t:Tok) (s:Shared) (Q:Value->Shared->Prop) (E:Value->Shared->Prop),Q (.int (g i) s.toks) { s with toks:=s.toks+1 }->wpAny (model X.prog X.w) X.A (f (.int i t)) Q E s) :
  UnR X f (rU fun i=> .int (g i)):=by
 intro pins s σ H x v Q I rx h;obtain⟨i,rfl,q⟩:=h;obtain⟨t,rfl⟩:=rx;exact rule i t s _ _ ⟨.int (g i),H,I.tok _,⟨_,rfl⟩,q⟩
theorem zb0:UnR X (unaryOp .USub) (rU fun i=> .int (-i)):=unI fun _ _ _ _ _ q=>neg_int q
end
def zzx:V->V->Bool
 | .non, .non=>true | .non, .int _=>true | .int _, .non=>true | .non, .bl _=>true | .bl _, .non=>true | .non, .str _=>true | .str _, .non=>true
 | .int _, .int _=>true | .bl _, .bl _=>true | .str _, .str _=>true | .byt _, .byt _=>true
 | .int _, .str _=>true | .str _, .int _=>true | .bl _, .str _=>true | .str _, .bl _=>true
 | _,_=>false
def rEq:R2:=fun x y H Q=>zzx x y=true/\Q (.bl (decide (x=y))) H
def rNe:R2:=fun x y H Q=>zzx x y=true/\Q (.bl (!decide (x=y))) H
theorem zpz{i j:Int}:decide (V.int i=V.int j)=(i==j):=by
 rw[Bool.eq_iff_iff];simp
theorem zti{i j:Bool}:decide (V.bl i=V.bl j)=(i==j):=by
 rw[Bool.eq_iff_iff];simp
theorem zpT{i j:Str}:decide (V.str i=V.str j)=(i==j):=by
 rw[Bool.eq_iff_iff];simp
theorem zpQ{i j:Array UInt8}:decide (V.byt i=V.byt j)=(i.toList==j.toList):=by
 rw[Bool.eq_iff_iff];cases i;cases j;simp
section
variable{X:Cx}{a b c:Expr}{ta tb tc:TE}{pos:Pos}
theorem zY{pins:List (Addr×Obj)}{σ:St}{H:Hp}{s:Shared}{Q:VK}{k k':Bool}(I:Inv X pins σ H s)(q:Q (.bl k) H)(e:k=k'):EP X pins σ Q (.bool k') s:=by
 subst e;exact⟨.bl k,H,I,rfl,q⟩
theorem zwq:OpR X (compareOp .Eq) rEq:=by
 intro pins s σ H x y v u Q I rx ry h;obtain⟨hs,q⟩:=h;cases x with
 | non =>
  cases rx;cases y with
  | non=>cases ry;exact PySem.EqNone.eq_none_none (zY I q (by simp))
  | bl j=>cases ry;exact PySem.EqNone.eq_none_bool (zY I q (by simp))
  | int j=>obtain⟨t',rfl⟩:=ry;exact PySem.EqNone.eq_none_int (zY I q (by simp))
  | str j=>obtain⟨t',rfl⟩:=ry;exact PySem.EqNone.eq_none_str (zY I q (by simp))
  | _=>exact absurd (show false=true from hs) Bool.false_ne_true
 | bl i =>
  cases rx;cases y with
  | non=>cases ry;exact PySem.EqNone.eq_bool_none (zY I q (by simp))
  | bl j=>cases ry;exact eq_bool (zY I q zti)
  | str j=>obtain⟨t',rfl⟩:=ry;exact PySem.EqMixed.eq_bool_str (zY I q (by simp))
  | _=>exact absurd (show false=true from hs) Bool.false_ne_true
 | int i =>
  obtain⟨t,rfl⟩:=rx;cases y with
  | non=>cases ry;exact PySem.EqNone.eq_int_none (zY I q (by simp))
  | int j=>obtain⟨t',rfl⟩:=ry;exact eq_int (zY I q zpz)
  | str j=>obtain⟨t',rfl⟩:=ry;exact PySem.EqMixed.eq_int_str (zY I q (by simp))
  | _=>exact absurd (show false=true from hs) Bool.false_ne_true
 | str i =>
  obtain⟨t,rfl⟩:=rx;cases y with
  | non=>cases ry;exact PySem.EqNone.eq_str_none (zY I q (by simp))
  | bl j=>cases ry;exact PySem.EqMixed.eq_str_bool (zY I q (by simp))
  | int j=>obtain⟨t',rfl⟩:=ry;exact PySem.EqMixed.eq_str_int (zY I q (by simp))
  | str j=>obtain⟨t',rfl⟩:=ry;exact eq_str (zY I q zpT)
  | _=>exact absurd (show false=true from hs) Bool.false_ne_true
 | byt i =>
  obtain⟨t,rfl⟩:=rx;cases y with
  | byt j=>obtain⟨t',rfl⟩:=ry;exact PySem.W.eq_bytes (zY I q zpQ)
  | _=>exact absurd (show false=true from hs) Bool.false_ne_true
 | _=>cases y<;>exact absurd (show false=true from hs) Bool.false_ne_true
theorem zyZ:OpR X (compareOp .NotEq) rNe:=by
 intro pins s σ H x y v u Q I rx ry h;obtain⟨hs,q⟩:=h;cases x with
 | non =>
  cases rx;cases y with
  | non=>cases ry;exact PySem.EqNone.ne_none_none (zY I q (by simp))
  | bl j=>cases ry;exact PySem.EqNone.ne_none_bool (zY I q (by simp))
  | int j=>obtain⟨t',rfl⟩:=ry;exact PySem.EqNone.ne_none_int (zY I q (by simp))
  | str j=>obtain⟨t',rfl⟩:=ry;exact PySem.EqNone.ne_none_str (zY I q (by simp))
  | _=>exact absurd (show false=true from hs) Bool.false_ne_true
 | bl i =>
  cases rx;cases y with
  | non=>cases ry;exact PySem.EqNone.ne_bool_none (zY I q (by simp))
  | bl j=>cases ry;exact ne_bool (zY I q (congrArg not zti))
  | str j=>obtain⟨t',rfl⟩:=ry;exact PySem.EqMixed.ne_bool_str (zY I q (by simp))
  | _=>exact absurd (show false=true from hs) Bool.false_ne_true
 | int i =>
  obtain⟨t,rfl⟩:=rx;cases y with
  | non=>cases ry;exact PySem.EqNone.ne_int_none (zY I q (by simp))
  | int j=>obtain⟨t',rfl⟩:=ry;exact ne_int (zY I q (congrArg not zpz))
  | str j=>obtain⟨t',rfl⟩:=ry;exact PySem.EqMixed.ne_int_str (zY I q (by simp))
  | _=>exact absurd (show false=true from hs) Bool.false_ne_true
 | str i =>
  obtain⟨t,rfl⟩:=rx;cases y with
  | non=>cases ry;exact PySem.EqNone.ne_str_none (zY I q (by simp))
  | bl j=>cases ry;exact PySem.EqMixed.ne_str_bool (zY I q (by simp))
  | int j=>obtain⟨t',rfl⟩:=ry;exact PySem.EqMixed.ne_str_int (zY I q (by simp))
  | str j=>obtain⟨t',rfl⟩:=ry;exact ne_str (zY I q (congrArg not zpT))
  | _=>exact absurd (show false=true from hs) Bool.false_ne_true
 | byt i =>
  obtain⟨t,rfl⟩:=rx;cases y with
  | byt j=>obtain⟨t',rfl⟩:=ry;exact PySem.W.ne_bytes (zY I q (congrArg not zpQ))
  | _=>exact absurd (show false=true from hs) Bool.false_ne_true
 | _=>cases y<;>exact absurd (show false=true from hs) Bool.false_ne_true
theorem zki:OpR X (compareOp .Lt) (rI0 fun i j=> .bl (decide (i < j))):=zyx fun _ _ _ _ _ _ _ q=>lt_int q
theorem zkf:OpR X (compareOp .LtE) (rI0 fun i j=> .bl (decide (i<=j))):=zyx fun _ _ _ _ _ _ _ q=>le_int q
theorem ztj:OpR X (compareOp .GtE) (rI0 fun i j=> .bl (decide (j<=i))):=zyx fun _ _ _ _ _ _ _ q=>ge_int q
theorem zqq:OpR X (compareOp .In) (fun x y H Q=>∃i j,x= .str i/\y= .str j/\Q (.bl (!(Builtin.Str.occurrences j i 0 j.length 1).isEmpty)) H):=by
 intro pins s σ H x y v u Q I rx ry h;obtain⟨i,j,rfl,rfl,q⟩:=h;obtain⟨t,rfl⟩:=rx;obtain⟨t',rfl⟩:=ry;exact in_str (zY I q rfl)
theorem OpR.or{f:Value->Value->Sem Value}{r r':R2}(h:OpR X f r)(h':OpR X f r'):OpR X f (fun x y H Q=>r x y H Q\/r' x y H Q):=by
 intro pins s σ H x y v u Q I rx ry q;rcases q with q | q
 .exact h pins s σ H x y v u Q I rx ry q
 .exact h' pins s σ H x y v u Q I rx ry q
theorem zap(b:Expr){op:CmpOp}(h:op≠ .In:=by decide)(h2:op≠ .NotIn:=by decide):behindInMarks op b=false:=by
 have e1:(op==CmpOp.In)=false:=by cases op<;>first | rfl | exact absurd rfl h
 have e2:(op==CmpOp.NotIn)=false:=by cases op<;>first | rfl | exact absurd rfl h2
 cases b<;>simp[behindInMarks,e1,e2]
theorem zu4{op:CmpOp}{r:R2}(ho:OpR X (compareOp op) r)(ha:PE X a ta)(hb:PE X b tb)(hm:behindInMarks op b=false):PE X (.Compare a [op] [b] pos) (tOp r ta tb):=by
 intro pins s σ H Q I h;exact wpAny_Compare1 (zwO ha hb I h fun v u s2 x y H2 I2 rx ry q=>ho pins s2 σ H2 x y v u Q I2 rx ry q) hm
def zjx(t:TE):TT:=fun σ H Q=>t σ H fun x H'=>∃k,x= .bl k/\Q k H'
theorem zvT{op:CmpOp}{r:R2}(ho:OpR X (compareOp op) r)(ha:PE X a ta)(hb:PE X b tb)(hm:behindInMarks op b=false):PT X (.Compare a [op] [b] pos) (zjx (tOp r ta tb)):=by
 intro pins s σ H Q I h;refine wpAny_isTrue_Compare1 (thn (ha pins s σ H _ I h) fun v s1 ⟨x,H1,I1,r1,q1⟩=>thn (hb pins s1 σ H1 _ I1 q1) fun u s2 ⟨y,H2,I2,r2,q2⟩ =>
  thn (ho pins s2 σ H2 x y v u _ I2 r1 r2 q2) fun c s3 ⟨z,H3,I3,r3,k,e,q3⟩=>?_) hm
 subst e;cases r3;exact wpAny_truthy_bool ⟨H3,I3,q3⟩
def zi8(r r':R2)(ta tb tc:TE):TE:=fun σ H Q=>ta σ H fun x H1=>tb σ H1 fun y H2=>r x y H2 fun z H3=>∃k,z= .bl k /\
 (if k=true then tc σ H3 fun w' H4=>r' y w' H4 Q else Q (.bl false) H3)
theorem ztO{op op':CmpOp}{r r':R2}(ho:OpR X (compareOp op) r)(ho':OpR X (compareOp op') r')(ha:PE X a ta)(hb:PE X b tb)(hc:PE X c tc)
  (hm:lastMarks [op,op'] [b,c]=false:=by with_unfolding_all rfl):PE X (.Compare a [op,op'] [b,c] pos) (zi8 r r' ta tb tc):=by
 intro pins s σ H Q I h;refine Compare_chain (thn (ha pins s σ H _ I h) fun v s1 ⟨x,H1,I1,r1,q1⟩=>chain_link (thn (hb pins s1 σ H1 _ I1 q1) fun u s2 ⟨y,H2,I2,r2,q2⟩ =>
  thn (ho pins s2 σ H2 x y v u _ I2 r1 r2 q2) fun d s3 ⟨z,H3,I3,r3,k,e,q3⟩=>?_)) hm
 subst e;cases r3;refine wpAny_truthy_bool ?_;cases k with
 | false=>exact ite_ff ⟨.bl false,H3,I3,rfl,q3⟩
 | true=>exact ite_tt (chain_last (thn (hc pins s3 σ H3 _ I3 q3) fun w' s4 ⟨z',H4,I4,r4,q4⟩=>ho' pins s4 σ H4 y z' u w' Q I4 r2 r4 q4))
theorem zrL{op op':CmpOp}{r r':R2}(ho:OpR X (compareOp op) r)(ho':OpR X (compareOp op') r')(ha:PE X a ta)(hb:PE X b tb)(hc:PE X c tc)
  (hm:lastMarks [op,op'] [b,c]=false:=by with_unfolding_all rfl):PT X (.Compare a [op,op'] [b,c] pos) (zjx (zi8 r r' ta tb tc)):=by
 intro pins s σ H Q I h;refine isTrue_chain (thn (ha pins s σ H _ I h) fun v s1 ⟨x,H1,I1,r1,q1⟩=>test_link (thn (hb pins s1 σ H1 _ I1 q1) fun u s2 ⟨y,H2,I2,r2,q2⟩ =>
  thn (ho pins s2 σ H2 x y v u _ I2 r1 r2 q2) fun d s3 ⟨z,H3,I3,r3,k,e,q3⟩=>?_)) hm
 subst e;cases r3;refine wpAny_truthy_bool ?_;cases k with
 | false =>
  obtain⟨k',e',q'⟩:=q3;cases e';exact ite_ff ⟨H3,I3,q'⟩
 | true =>
  refine ite_tt (test_last (thn (hc pins s3 σ H3 _ I3 q3) fun w' s4 ⟨z',H4,I4,r4,q4⟩=>thn (ho' pins s4 σ H4 y z' u w' _ I4 r2 r4 q4) fun d' s5 ⟨z2,H5,I5,r5,k2,e2,q5⟩=>?_));subst e2;cases r5;exact wpAny_truthy_bool ⟨H5,I5,q5⟩
theorem zhu:(sizeLine:Nat) < 2^63:=by rw[sizeLine_eq];decide
theorem zpe:OpR X (binaryOp .Add) (fun x y H Q=>∃i j,x= .str i/\y= .str j/\i.length+j.length<=sizeLine/\Q (.str (i++j)) H):=by
 intro pins s σ H x y v u Q I rx ry h;obtain⟨i,j,rfl,rfl,hz,q⟩:=h;obtain⟨t,rfl⟩:=rx;obtain⟨t',rfl⟩:=ry;exact add_str (fun t' tk=>⟨.str (i++j),H,I.tok _,⟨_,rfl⟩,q⟩) hz
theorem vals1{x:V}{us:List Value}(r:Vals [x] us):∃u,us=[u]/\RelV x u:=by
 cases r with
 | cons r1 r2=>cases r2;exact⟨_,rfl,r1⟩
theorem vals2{x y:V}{us:List Value}(r:Vals [x,y] us):∃u w',us=[u,w']/\RelV x u/\RelV y w':=by
 cases r with
 | cons r1 r2 =>
  cases r2 with
  | cons r3 r4=>cases r4;exact⟨_,_,rfl,r1,r3⟩
theorem zrS:zN X (.builtin "abs") (fun xs H Q=>∃i,xs=[.int i]/\Q (.int (if i < 0 then -i else i)) H):=by
 intro pins s σ H xs us Q I r h;obtain⟨i,rfl,q⟩:=h;obtain⟨u,rfl,t,rfl⟩:=vals1 r;exact call_abs_int fun u tk=>⟨.int (if i < 0 then -i else i),H,I.tok _,⟨_,rfl⟩,q⟩
theorem zqZ(hc:X.calm=true):zN X (.builtin "max") (fun xs H Q=>∃i j,xs=[.int i, .int j]/\Q (.int (if j > i then j else i)) H):=by
 intro pins s σ H xs us Q I r h;obtain⟨i,j,rfl,q⟩:=h;obtain⟨u,w',rfl,⟨t,rfl⟩,⟨t',rfl⟩⟩:=vals2 r;refine max_two_ints (I.ok.hd hc) fun h' tk k=>⟨_,H,I.kept k,?_,q⟩
 by_cases hj:j > i
 .rw[if_pos hj,if_pos hj];exact⟨_,rfl⟩
 .rw[if_neg hj,if_neg hj];exact⟨_,rfl⟩
theorem zrx(hc:X.calm=true):zN X (.builtin "min") (fun xs H Q=>∃i j,xs=[.int i, .int j]/\Q (.int (if j < i then j else i)) H):=by
 intro pins s σ H xs us Q I r h;obtain⟨i,j,rfl,q⟩:=h;obtain⟨u,w',rfl,⟨t,rfl⟩,⟨t',rfl⟩⟩:=vals2 r;refine min_two_ints (I.ok.hd hc) fun h' tk k=>⟨_,H,I.kept k,?_,q⟩
 by_cases hj:j < i
 .rw[if_pos hj,if_pos hj];exact⟨_,rfl⟩
 .rw[if_neg hj,if_neg hj];exact⟨_,rfl⟩
end
structure zoO(h:Heap)(x dx C:Addr)(mA:Str->Option Value):Prop where
 obj:h.get? x=some (instObj C dx)
 ns:h.Ns1 dx mA
 ne:dx≠x
theorem zqi{h:Heap}{dx:Addr}{mA:Str->Option Value}(n:h.Ns1 dx mA):∃od,h.get? dx=some od/\∀name,lookIn name od=some (mA name):=by
 obtain⟨o,es,ep,ho,hd,hk,_,hm⟩:=n;refine⟨o,ho,fun name=>?_⟩;have e:=hm name;unfold nsFind findBy at e;rw[<- Array.find?_toList] at e;unfold lookIn;rw[hd];dsimp only;split
 .rename_i y q;rw[q] at e;exact congrArg some e
 .rename_i q;rw[q] at e;have a:es.toList.any (·.refKey)=false:=by
   rw[List.any_eq_false];intro y hy;obtain⟨z,t,hkey⟩:=hk y (Array.mem_toList_iff.mp hy);simp[DictEntry.refKey,hkey]
  have a':¬ es.toList.any (·.refKey)=true:=by rw[a];exact Bool.false_ne_true
  rw[if_neg a'];exact congrArg some e
theorem zoO.look{h:Heap}{x dx C:Addr}{mA:Str->Option Value}(I:zoO h x dx C mA):∃od,PySem.W.InstAt h x (instObj C dx) C (some od)/\∀name,lookIn name od=some (mA name) :=
 let ⟨od,ho,hl⟩:=zqi I.ns
 ⟨od,⟨I.obj,rfl,rfl,ho⟩,hl⟩
section
variable{prog:Program}{w:World}{A:Around}{E:Value->Shared->Prop}{s:Shared}{K:Frag}{x dx C f:Addr}{mA:Str->Option Value}{name:Str}{v:Value}
theorem zvE{expr:Bool}{Q:Value->Shared->Prop}(X:K.In s.heap)(I:zoO s.heap x dx C mA)(hg:plainGet K C name=true)(hh:hasDictIn K C=true)
  (ha:findIn K (.ref C) name=some none)(hv:mA name=some v)(hv':PySem.W.handedIn v=true)(h:Q v { s with toks:=s.toks+1 }) :
  wpAny (model prog w) A (getAttr (.ref x) name expr) Q E s:=by
 obtain⟨od,J,hl⟩:=I.look;exact PySem.W.get_value X J (plainGet_of hg).1 (PySem.W.findObj_own hh ha rfl (by rw[hl,hv])) hv' h
theorem zug{pl:Sem Bool}{Q:Value×List Value->Shared->Prop}(X:K.In s.heap)(I:zoO s.heap x dx C mA)(hg:plainGet K C name=true)
  (hf:findIn K (.ref C) name=some (some (.ref f)))(ht:isFn K (.ref f)=true)(hv:mA name=none)(h:Q (.ref f,[.ref x]) s) :
  wpAny (model prog w) A (getMethod (.ref x) name pl) Q E s:=by
 obtain⟨od,J,hl⟩:=I.look;exact PySem.W.method_fn X J (plainGet_of hg).1 (plainGet_of hg).2 hf (beq_iff_eq.mp ht) (by show(lookIn name od).map (·.isSome)=some false;rw[hl,hv];rfl) h
theorem zmH{ns:List Str}{Q:Unit->Shared->Prop}(X:K.In s.heap)(I:zoO s.heap x dx C mA)
  (hs:findIn K (.ref C) "__setattr__"=some (some (.builtin "object.__setattr__")))(hp:PySem.W.plainOver K C=true)(ht:takerIn K C name=some none)(hh:hasDictIn K C=true)
  (hw:PySem.Within mA ns)(hsz:ns.length<=sizeLine)
  (h:∀h',zoO h' x dx C (fun y=>if y=name then some v else mA y)->Heap.SameBut dx s.heap h'->Q () { s with heap:=h',toks:=s.toks+2 }) :
  wpAny (model prog w) A (setAttr (.ref x) name v) Q E s:=by
 obtain⟨od,J,hl⟩:=I.look;refine PySem.W.set_plain X J hs (PySem.W.osa_open (s:={ s with toks:=s.toks+1 }) (r:=none) X J hp ht fun b=>?_);obtain⟨cd,hc,hd'⟩:=PySem.W.any_some hh;have hx:s.heap.get? x=some ⟨.ref C,some dx, .plain, #[]⟩:=I.obj;refine wpAny_bind (wpAny_pure (wpAny_bind (wpAny_bind (wpAny_loadPart hx (wpAny_bind (PySem.W.Looks.here (s:={ s with toks:=s.toks+1 }) (PySem.W.looks_clsIn X hc) ?_))))));rw[hd'];refine wpAny_pure (a:=some dx) (wpAny_bind (wpAny_pure (wpAny_bind ?_)));refine wpAny_nsSet1 (s:={ s with toks:=s.toks+1 }) I.ns fun h' hn2 hs2=>?_
 obtain⟨oD,esD,epD,hoD,hdD,hcD⟩:=hn2.count (PySem.Within.cons name v hw);refine wpAny_bind (wpAny_lookBehind hoD (by rw[hdD];exact pastItsLine_dict (Nat.le_trans hcD (by rw[List.length_cons];omega))) ?_);exact wpAny_pure (h _ ⟨(hs2.2 _ (Ne.symm I.ne)).trans I.obj,hn2,I.ne⟩ hs2)
theorem zs0{R:Result->Shared->Prop}{vs:List Value}{kw:List (Str×Value)}(X:K.In s.heap)(hm:makesIn K C=true)
  (hi:findIn K (.ref C) "__init__"=some (some (.ref f)))(hf:PySem.W.typeIn K (.ref f)=some (.type "function"))
  (h:codeAny (model prog w) (A.under (.builtin "type.__call__" ⟨.ref C::vs,kw⟩)) (.call (.ref f) ⟨.ref (s.heap.objs.size+1)::vs,kw⟩) (PySem.W.InitBack (s.heap.objs.size+1) R)
   {s with heap:=(s.heap.push emptyDict).push (instObj C s.heap.objs.size) }) :
  codeAny (model prog w) A (.call (.ref C) ⟨vs,kw⟩) R s:=by
 obtain⟨hh,g,d,t,os⟩:=s;exact PySem.W.make_core (PySem.W.makes_of X hm) (PySem.W.looks_findIn X hi) (fun self=>PySem.W.bind_fn X self hf) (.inl rfl) h
end
def zdP(f:Str)(v:V):List (Str×V)->List (Str×V)
 | []=>[(f,v)]
 | (g,x)::r=>if g=f then(g,v)::r else(g,x)::zdP f v r
theorem zik(f g:Str)(v:V):∀fs:List (Str×V),(zdP f v fs).lookup g=if g=f then some v else fs.lookup g
 | []=>by
  show List.lookup g [(f,v)]=_;by_cases h:g=f
  .have hb:(g==f)=true:=beq_iff_eq.mpr h;simp only[List.lookup,hb,if_pos h]
  .have hb:(g==f)=false:=beq_eq_false_iff_ne.mpr h;simp only[List.lookup,hb,if_neg h]
 | (k,x)::r=>by
  have ih:=zik f g v r;rw[show zdP f v ((k,x)::r)=(if k=f then(k,v)::r else(k,x)::zdP f v r) from rfl];by_cases hk:k=f
  .rw[if_pos hk];by_cases h:g=k
   .have hb:(g==k)=true:=beq_iff_eq.mpr h;simp only[List.lookup,hb,if_pos (h.trans hk)]
   .have hb:(g==k)=false:=beq_eq_false_iff_ne.mpr h;simp only[List.lookup,hb,if_neg (fun e:g=f=>h (e.trans hk.symm))]
  .rw[if_neg hk];by_cases h:g=k
   .have hb:(g==k)=true:=beq_iff_eq.mpr h;simp only[List.lookup,hb,if_neg (fun e:g=f=>hk (h.symm.trans e))]
   .have hb:(g==k)=false:=beq_eq_false_iff_ne.mpr h;simp only[List.lookup,hb];exact ih
theorem zhi(f:Str)(v:V):∀fs:List (Str×V),f∈(zdP f v fs).map (·.1)/\∀g,g∈fs.map (·.1)->g∈(zdP f v fs).map (·.1)
 | []=>⟨by simp[zdP],fun g h=>by simp at h⟩
 | (k,x)::r=>by
  obtain⟨i1,i2⟩:=zhi f v r;rw[show zdP f v ((k,x)::r)=(if k=f then(k,v)::r else(k,x)::zdP f v r) from rfl];by_cases hk:k=f
  .rw[if_pos hk];subst hk;exact⟨by simp,fun g h=>by simpa using h⟩
  .rw[if_neg hk];refine⟨?_,fun g h=>?_⟩
   .rw[List.map_cons];exact List.mem_cons_of_mem _ i1
   .rw[List.map_cons] at h ⊢;rcases List.mem_cons.mp h with e | e
    .exact List.mem_cons.mpr (.inl e)
    .exact List.mem_cons_of_mem _ (i2 g e)
theorem zin(f:Str)(v:V):∀fs:List (Str×V),(zdP f v fs).length<=fs.length+1
 | []=>by simp[zdP]
 | (k,x)::r=>by
  have ih:=zin f v r;rw[show zdP f v ((k,x)::r)=(if k=f then(k,v)::r else(k,x)::zdP f v r) from rfl];by_cases hk:k=f
  .rw[if_pos hk,List.length_cons,List.length_cons];omega
  .rw[if_neg hk,List.length_cons,List.length_cons];omega
theorem zfk.some_of{v:V}{o:Option Value}(r:zfk (some v) o):∃u,o=some u/\RelV v u:=by
 cases o with
 | none=>exact(show False from r).elim
 | some u=>exact⟨u,rfl,r⟩
theorem zfk.none_of{o:Option Value}(r:zfk none o):o=none:=by
 cases o with
 | none=>rfl
 | some u=>exact(show False from r).elim
theorem zqQ{v:V}{u:Value}(r:RelV v u):PySem.W.handedIn u=true:=by
 cases v with
 | non=>cases (show u=Value.none from r);rfl
 | bl b=>cases (show u=Value.bool b from r);rfl
 | int i=>obtain⟨t,e⟩:=(show ∃t,u=Value.int i t from r);cases e;rfl
 | str x=>obtain⟨t,e⟩:=(show ∃t,u=Value.str x t from r);cases e;rfl
 | byt b=>obtain⟨t,e⟩:=(show ∃t,u=Value.bytes b t from r);cases e;rfl
 | flt b=>obtain⟨t,e⟩:=(show ∃t,u=Value.float b t from r);cases e;rfl
 | ref a=>cases (show u=Value.ref a from r);rfl
 | ty n=>cases (show u=Value.type n from r);rfl
section
variable{P:Program}{w:World}{H H':Hp}{h h':Heap}{a C dx:Addr}{fs fs':List (Str×V)}
theorem ziW(hok:HOk P w H h)(e:H a=some (.ins C dx fs)):∃mA,zoO h a dx C mA/\(∀f,zfk (fs.lookup f) (mA f))/\PySem.Within mA (fs.map (·.1))/\fs.length<=1000/\H dx=some (.own a):=by
 obtain⟨d,z,ne,ob,mA,n,r,q⟩:=(show zaF P w H h a (.ins C dx fs) from hok a _ e);exact⟨mA,⟨ob,n,ne⟩,r,q,z,d⟩
end
structure Cls(K:Frag)(C:Addr):Prop where
 pg:plainGet K C Str.empty=true
 hd:hasDictIn K C=true
 po:PySem.W.plainOver K C=true
 sa:findIn K (.ref C) "__setattr__"=some (some (.builtin "object.__setattr__"))
theorem Cls.get{K:Frag}{C:Addr}(c:Cls K C)(f:Str):plainGet K C f=true:=c.pg
def zcQ(K:Frag)(C:Addr)(f:Str):Prop:=findIn K (.ref C) f=some none
theorem zcQ.taker{K:Frag}{C:Addr}{f:Str}(n:zcQ K C f):takerIn K C f=some none:=by
 unfold takerIn;rw[show findIn K (.ref C) f=some none from n];rfl
structure Meth(K:Frag)(C:Addr)(m:Str)(f:Addr):Prop where
 at_:findIn K (.ref C) m=some (some (.ref f))
 fn:isFn K (.ref f)=true
 kp:keepIn K (.ref f)=true
section
variable{X:Cx}{pins:List (Addr×Obj)}{σ:St}{H:Hp}{s:Shared}{a C dx:Addr}{fs:List (Str×V)}{f:Str}{v:V}{A:Around}{E:Value->Shared->Prop}
theorem zoW{b:Bool}{Q:Value->Shared->Prop}(I:Inv X pins σ H s)(e:H a=some (.ins C dx fs))(c:Cls X.K C)(n:zcQ X.K C f)(l:fs.lookup f=some v)
  (h:∀u s',Inv X pins σ H s'->RelV v u->Q u s'):wpAny (model X.prog X.w) A (getAttr (.ref a) f b) Q E s:=by
 obtain⟨mA,O,r,_,_,_⟩:=ziW I.hok e;obtain⟨u,hu,ru⟩:=zfk.some_of (v:=v) (o:=mA f) (by rw[<- l];exact r f);exact zvE I.kIn O (c.get f) c.hd n hu (zqQ ru) (h u _ (I.tok _) ru)
theorem zoK{m:Str}{g:Addr}{pl:Sem Bool}{Q:Value×List Value->Shared->Prop}(I:Inv X pins σ H s)(e:H a=some (.ins C dx fs))(c:Cls X.K C)(k:Meth X.K C m g)(l:fs.lookup m=none)
  (h:Q (.ref g,[.ref a]) s):wpAny (model X.prog X.w) A (getMethod (.ref a) m pl) Q E s:=by
 obtain⟨mA,O,r,_,_,_⟩:=ziW I.hok e;have hn:mA m=none:=zfk.none_of (by rw[<- l];exact r m);exact zug I.kIn O (c.get m) k.at_ k.fn hn h
theorem zpl{y:V}{u:Value}{Q:Unit->Shared->Prop}(I:Inv X pins σ H s)(e:H a=some (.ins C dx fs))(c:Cls X.K C)(n:zcQ X.K C f)(hl:fs.length < 1000)(ry:RelV y u)
  (h:∀s',Inv X pins σ (upd H a (.ins C dx (zdP f y fs))) s'->Q () s'):wpAny (model X.prog X.w) A (setAttr (.ref a) f u) Q E s:=by
 obtain⟨mA,O,r,wi,_,ho⟩:=ziW I.hok e;have hz:(fs.map (·.1)).length<=sizeLine:=by rw[List.length_map,sizeLine_eq];omega
 refine zmH I.kIn O c.sa c.po n.taker c.hd wi hz fun h' O' sb=>h _ ?_
 have hd:∃o,h'.get? dx=some o:=let ⟨o,_,_,e',_⟩:=O'.ns;⟨o,e'⟩;refine I.write (x:=a) (e:=dx) (by rw[e];exact True.intro) (.inr ho) (fun b q hb z=>(sb.2 b hb).trans z) hd ?_;refine⟨by rw[zE O.ne];exact ho,?_,O.ne,O'.obj,_,O'.ns,fun g=>?_,fun g hg=>?_⟩
 .have:=zin f y fs;omega
 .show zfk ((zdP f y fs).lookup g) (if g=f then some u else mA g);rw[zik];by_cases q:g=f
  .rw[if_pos q,if_pos q];exact ry
  .rw[if_neg q,if_neg q];exact r g
 .by_cases q:g=f
  .rw[q];exact(zhi f y fs).1
  .refine(zhi f y fs).2 g (wi g fun z=>hg ?_);show(if g=f then some u else mA g)=none;rw[if_neg q];exact z
theorem Inv.made(I:Inv X pins σ H s):Inv X pins σ (upd (upd H s.heap.objs.size (.own (s.heap.objs.size+1))) (s.heap.objs.size+1) (.ins C s.heap.objs.size []))
  {s with heap:=(s.heap.push emptyDict).push (instObj C s.heap.objs.size) }:=by
 have e1:(s.heap.push emptyDict).get? s.heap.objs.size=some emptyDict:=Heap.get?_push_size s.heap rfl;have e2:((s.heap.push emptyDict).push (instObj C s.heap.objs.size)).get? (s.heap.objs.size+1)=some (instObj C s.heap.objs.size):=by
  have:=Heap.get?_push_size (s.heap.push emptyDict) (o:=instObj C s.heap.objs.size) rfl;rwa [Heap.size_push] at this
 have e3:(s.heap.push emptyDict).Ns s.heap.objs.size (fun _=>none):=⟨emptyDict, #[],_,e1,rfl,(fun e he=>absurd he (by simp)),fun _=>rfl⟩;have I1:=I.laid (a:=s.heap.objs.size) (o:= .own (s.heap.objs.size+1)) (h':=s.heap.push emptyDict) (t':=s.toks) (fun b u q=>Heap.get?_push_of_some _ q) (Nat.le_refl _) ⟨_,e1⟩;refine I1.laid (a:=s.heap.objs.size+1) (o:= .ins C s.heap.objs.size []) (t':=s.toks) (fun b u q=>Heap.get?_push_of_some _ q) (Nat.le_of_eq (Heap.size_push _ _)) ?_;have ne:s.heap.objs.size≠s.heap.objs.size+1:=Nat.ne_of_lt (Nat.lt_succ_self _);refine⟨by rw[zE ne,zz],Nat.zero_le _,ne,e2,fun _=>none,(Heap.Ns1.of_empty e3).at fun o q=>Heap.get?_push_of_some _ q,fun _=>True.intro,fun y hy=>absurd rfl hy⟩
theorem zv4{prog:Program}{w:World}{env:Env}{e:Expr}{f:Str}{pos:Pos}{s:Shared}{Q:Value->Shared->Prop}(hb:attributeBase e f env (eval e env)=eval e env)
  (h:wpAny (model prog w) A (eval e env) (fun o s₁=>wpAny (model prog w) A (getAttr o f true) Q E s₁) E s):wpAny (model prog w) A (eval (.Attribute e f pos) env) Q E s :=
 Attribute_any_ h (by rw[arm_eval_Attribute,hb])
end
def zvL(K:Frag)(ta:TE)(f:Str):TE:=fun σ H Q=>ta σ H fun x H1=>∃a C dx fs v,x= .ref a/\H1 a=some (.ins C dx fs)/\Cls K C/\zcQ K C f/\fs.lookup f=some v/\Q v H1
def zuQ(K:Frag)(ta tv:TE)(f:Str):TS:=fun D σ H=>tv σ H fun y H1=>ta σ H1 fun x H2=>∃a C dx fs,x= .ref a/\H2 a=some (.ins C dx fs)/\Cls K C/\zcQ K C f/\fs.length < 1000 /\
 D.nx σ (upd H2 a (.ins C dx (zdP f y fs)))
section
variable{X:Cx}{o e value:Expr}{f:Str}{pos pos' tpos:Pos}{ta tv:TE}
theorem zxD(he:PE X e ta)(hb:attributeBase e f X.env (eval e X.env)=eval e X.env):PE X (.Attribute e f pos) (zvL X.K ta f):=by
 intro pins s σ H Q I h;refine zv4 hb (thn (he pins s σ H _ I h) fun u s1 ⟨x,H1,I1,rx,a,C,dx,fs,v,ex,ea,c,n,l,q⟩=>?_);subst ex;obtain rfl:u=Value.ref a:=rx;exact zoW I1 ea c n l fun u' s2 I2 ru=>⟨v,H1,I2,ru,q⟩
theorem zye(ha:PE X o ta)(hv:PE X value tv)(hs:swapsWith value (some (.Attribute o f pos')) pos.line X.env=pure false):PS X (.Assign [.Attribute o f pos'] value pos) (zuQ X.K ta tv f):=by
 intro pins s σ H D I h;refine plainObj_wpAny_Assign_Attribute (thn (hv pins s σ H _ I h) fun u s1 ⟨y,H1,I1,ry,q⟩=>thn (ha pins s1 σ H1 _ I1 q) fun ov s2 ⟨x,H2,I2,rx,a,C,dx,fs,ex,ea,c,n,l,q2⟩=>?_) hs;subst ex;obtain rfl:ov=Value.ref a:=rx;exact zpl I2 ea c n l ry fun s3 I3=>⟨σ,_,I3,q2⟩
end
section
variable{X:Cx}{pins:List (Addr×Obj)}{σ:St}{H:Hp}{s:Shared}{A:Around}{E:Value->Shared->Prop}{Q:Value->Shared->Prop}{c:Value}{b:Bool}
inductive zfl(K:Frag)(H:Hp):V->Value->Prop where
 | non:zfl K H .non (.type "NoneType")
 | bl (x:Bool):zfl K H (.bl x) (.type "bool")
 | int (i:Int):zfl K H (.int i) (.type "int")
 | str (x:Str):zfl K H (.str x) (.type "str")
 | flt (x:UInt64):zfl K H (.flt x) (.type "float")
 | lst {a:Addr} {xs:List V} (e:H a=some (.lst xs)):zfl K H (.ref a) (.type "list")
 | frz {a:Addr} {o:Obj} {xs:List V} (e:H a=some (.frz o (.lst xs))):zfl K H (.ref a) (.type "list")
 | tup {a:Addr} {xs:List V} (e:H a=some (.tup xs)):zfl K H (.ref a) (.type "tuple")
 | dK {a:Addr} {kvs:List (Key×V)} (e:H a=some (.dK kvs)):zfl K H (.ref a) (.type "dict")
 | dT {a:Addr} {kvs:List (List Key×V)} (e:H a=some (.dT kvs)):zfl K H (.ref a) (.type "dict")
 | ins {a C dx:Addr} {fs:List (Str×V)} (e:H a=some (.ins C dx fs)) (cl:Cls K C) (ha:findIn K (.ref C) "__class__"=some (some (.builtin "object.__class__")))
   (hn:PySem.W.specialIn K (.builtin "object.__class__") "__get__"=some (some (.builtin "getset_descriptor.__get__"))) (htk:PySem.W.takesIn K (.builtin "object.__class__")=some true)
   (hm:PySem.W.mroIn K C (.type "object")=some true):zfl K H (.ref a) (.ref C)
theorem zqm{x:V}{u t:Value}(I:Inv X pins σ H s)(rx:RelV x u)(ty:zfl X.K H x t)(e:kitOne X.K t c=some b)(h:∀tk,Q (.bool b) { s with toks:=tk }) :
  wpAny (model X.prog X.w) A (call (.builtin "isinstance") [u,c]) Q E s:=by
 cases ty with
 | non=>cases (show u=Value.none from rx);exact kia_one PySem.W.kitx_none I.kIn True.intro e (fun z=>nomatch z) h
 | bl y=>cases (show u=Value.bool y from rx);exact kia_one PySem.W.kitx_bool I.kIn True.intro e (fun z=>nomatch z) h
 | int i=>obtain⟨t,q⟩:=(show ∃t,u=Value.int i t from rx);cases q;exact kia_one PySem.W.kitx_int I.kIn True.intro e (fun z=>nomatch z) h
 | str y=>obtain⟨t,q⟩:=(show ∃t,u=Value.str y t from rx);cases q;exact kia_one PySem.W.kitx_str I.kIn True.intro e (fun z=>nomatch z) h
 | flt y=>obtain⟨t,q⟩:=(show ∃t,u=Value.float y t from rx);cases q;exact kia_one PySem.W.kitx_float I.kIn True.intro e (fun z=>nomatch z) h
 | @lst a xs ea =>
  cases (show u=Value.ref a from rx);obtain⟨_,_,n,_,h1⟩:=(show zaF X.prog X.w H s.heap a (.lst xs) from I.hok a _ ea);exact kia_one PySem.W.kitx_list I.kIn ⟨_,h1,rfl⟩ e (fun z=>nomatch z) h
 | @frz a ob xs ea =>
  cases (show u=Value.ref a from rx);obtain⟨_,_,_,n,_,h1⟩:=(show zaF X.prog X.w H s.heap a (.frz ob (.lst xs)) from I.hok a _ ea);exact kia_one PySem.W.kitx_list I.kIn ⟨_,h1,rfl⟩ e (fun z=>nomatch z) h
 | @tup a xs ea =>
  cases (show u=Value.ref a from rx);obtain⟨_,_,_,p⟩:=(show zaF X.prog X.w H s.heap a (.tup xs) from I.hok a _ ea);obtain⟨o,h1,h2,_⟩:=p;exact kia_one PySem.W.kitx_tuple I.kIn ⟨o,h1,h2⟩ e (fun z=>nomatch z) h
 | @dK a kvs ea =>
  cases (show u=Value.ref a from rx);obtain⟨_,_,vs,_,p⟩:=(show zaF X.prog X.w H s.heap a (.dK kvs) from I.hok a _ ea);obtain⟨o,es,ep,h1,h2,_⟩:=p;exact kia_one PySem.W.kitx_dict I.kIn ⟨o,h1,h2.1⟩ e (fun z=>nomatch z) h
 | @dT a kvs ea =>
  cases (show u=Value.ref a from rx);obtain⟨_,_,xs,_,o,es,ep,h1,h2,_⟩:=(show zaF X.prog X.w H s.heap a (.dT kvs) from I.hok a _ ea);exact kia_one PySem.W.kitx_dict I.kIn ⟨o,h1,h2.1⟩ e (fun z=>nomatch z) h
 | @ins a C dx fs ea cl ha hn htk hm =>
  cases (show u=Value.ref a from rx);obtain⟨mA,O,_⟩:=ziW I.hok ea;obtain⟨od,J,_⟩:=O.look;exact kia_one (PySem.W.kitx_own (cl.get _) cl.hd ha hn htk hm) I.kIn J e (fun z=>nomatch z) h
end
structure zaV(cm:Bool)(k:Nat)(A:Around):Prop where
 hd:cm=true->A.handled=none
 dp:A.depth+3*k+5 < recursionLimit
 un:A.units+16*k+200 < cLine
 gd:A.guards=some []
abbrev zfm(k:Nat)(A:Around):Prop:=zaV true k A
theorem zaV.mono{cm:Bool}{j k:Nat}{A:Around}(r:zaV cm k A)(h:j<=k):zaV cm j A:=⟨r.hd,by have:=r.dp;omega,by have:=r.un;omega,r.gd⟩
theorem zaV.deeper{cm:Bool}{k:Nat}{A:Around}(r:zaV cm (k+1) A)(env:Env):zaV cm k (A.deeper env) :=
 ⟨r.hd,by have:=r.dp;show A.depth+1+3*k+5 < _;omega,by have:=r.un;show A.units+3+16*k+200 < _;omega,r.gd⟩
theorem zoh{A:Around}{C:Addr}{us:List Value}{kw:List (Str×Value)}:(A.under (.builtin "type.__call__" ⟨.ref C::us,kw⟩)).depth=A.depth+1:=by
 first | rfl | simp[Around.under,Code.weight,Code.isCreation,Code.isGuard,Code.isCaller,Code.frames,Code.isFrame,guardIds]
theorem zoY{A:Around}{C:Addr}{us:List Value}{kw:List (Str×Value)}:(A.under (.builtin "type.__call__" ⟨.ref C::us,kw⟩)).units=A.units+1:=by
 first | rfl | simp[Around.under,Code.cUnits,Code.frames,Code.isFrame]
theorem zn1{A:Around}{C:Addr}{us:List Value}{kw:List (Str×Value)}:(A.under (.builtin "type.__call__" ⟨.ref C::us,kw⟩)).guards=A.guards:=by
 first | rfl | simp[Around.under,Code.guards,Code.isGuard,guardIds,pushGuards]
theorem zaV.make{cm:Bool}{k:Nat}{A:Around}(r:zaV cm (k+1) A)(C:Addr)(us:List Value)(kw:List (Str×Value)):zaV cm k (A.under (.builtin "type.__call__" ⟨.ref C::us,kw⟩)) :=
 ⟨r.hd,by have:=r.dp;rw[zoh];omega,by have:=r.un;rw[zoY];omega,by rw[zn1];exact r.gd⟩
theorem zaV.depth{cm:Bool}{k:Nat}{A:Around}(r:zaV cm k A):A.depth < recursionLimit:=by have:=r.dp;omega
theorem zaV.units{cm:Bool}{k:Nat}{A:Around}(r:zaV cm k A):A.units+64 < cLine:=by have:=r.un;omega
def zhr:TA:=fun _ H Q=>Q [] H
def zej(ta:TE)(tr:TA):TA:=fun σ H Q=>ta σ H fun x H1=>tr σ H1 fun xs H2=>Q (x::xs) H2
section
variable{X:Cx}{e:Expr}{es:List Expr}{te:TE}{t:TA}{pos:Pos}
theorem zuf:PA X [] zhr:=fun _ _ _ _ H Q I h=>Calls.spliced_nil ⟨[],H,I, .nil,h⟩
theorem zpw(ha:PE X e te)(hr:PA X es t)(hs:starEach (e::es) X.env=(false,eval e X.env)::starEach es X.env:=by rfl):PA X (e::es) (zej te t):=by
 intro pos pins s σ H Q I h;rw[hs];show wpAny _ _ (spliced ((false,eval e X.env)::backTo pos (starEach es X.env))) _ _ s;refine Calls.spliced_cons (thn (ha pins s σ H _ I h) fun u s1 ⟨x,H1,I1,r1,q1⟩=>?_);exact thn (hr pos pins s1 σ H1 _ I1 q1) fun us s2 ⟨xs,H2,I2,r2,q2⟩=>⟨x::xs,H2,I2, .cons r1 r2,q2⟩
def zow(t:TA):TE:=fun σ H Q=>t σ H fun xs H1=>xs.length<=sizeLine/\∀p,H1 p=none->Q (.ref p) (upd H1 p (.tup xs))
def zuF(t:TA):TE:=fun σ H Q=>t σ H fun xs H1=>xs.length<=sizeLine/\∀p,H1 p=none->Q (.ref p) (upd H1 p (.lst xs))
theorem zxj{x1}(h:PA X es t):PE X (.Tuple es x1 pos) (zow t):=by
 intro pins s σ H Q I hq;refine wpAny_Tuple_spliced (thn (h pos pins s σ H _ I hq) fun us s1 ⟨xs,H1,I1,r,z,q⟩=>⟨by rw[<- r.length];exact z,?_⟩);have hf:H1 s1.heap.objs.size=none:=I1.hok.fresh (Nat.le_refl _);refine⟨.ref s1.heap.objs.size,upd H1 s1.heap.objs.size (.tup xs),I1.laid (t':=s1.toks) (fun b u e=>Heap.get?_push_of_some _ e) (Nat.le_refl _) ?_,rfl,q _ hf⟩;exact⟨z,us,r,⟨_,Heap.get?_push_size _ rfl,rfl,_,rfl⟩⟩
theorem zwI(h:PA X es t):PE X (.List es pos) (zuF t):=by
 intro pins s σ H Q I hq;refine wpAny_List_spliced (thn (h pos pins s σ H _ I hq) fun us s1 ⟨xs,H1,I1,r,z,q⟩=>⟨by rw[<- r.length];exact z,?_⟩);have hf:H1 s1.heap.objs.size=none:=I1.hok.fresh (Nat.le_refl _);refine⟨.ref s1.heap.objs.size,upd H1 s1.heap.objs.size (.lst xs),I1.laid (t':=s1.toks) (fun b u e=>Heap.get?_push_of_some _ e) (Nat.le_refl _) ?_,rfl,q _ hf⟩;exact⟨z,us,0,r,Heap.get?_push_size _ rfl⟩
end
abbrev Sp:=List V->Hp->VK->XK->Prop
abbrev CXT:=List Env->Hp->Shared->XK->Value->Shared->Prop
structure zoo(P:Program)(w:World)(K:Frag)(mg:Str->Option Value)(base:Heap)(A:Around)(outer:List Env)(s:Shared)(H:Hp):Prop where
 frames:A.frames=some outer
 mod:Mod K mg base
 bs:∀b o,base.get? b=some o->s.heap.get? b=some o/\H b=none
 bsz:base.objs.size<=s.heap.objs.size
 funs:s.heap.FunFrames base outer
 frf:∀b∈frs outer,H b=none
 hok:HOk P w H s.heap
 bare:AllBare s.gens
def CE(outer:List Env)(P:Program)(w:World)(H:Hp)(s:Shared)(Q:VK)(u:Value)(s':Shared):Prop :=
 ∃v H',s'.os=s.os/\AllBare s'.gens/\Un (frs outer) [] H H' s.heap s'.heap/\HOk P w H' s'.heap/\RelV v u/\Q v H'
def CR(CX:CXT)(outer:List Env)(P:Program)(w:World)(H:Hp)(s:Shared)(Q:VK)(E:XK)(r:Result)(s':Shared):Prop :=
 match r with
 | .ok (.ret u)=>CE outer P w H s Q u s'
 | .ok _=>False
 | .error e=>CX outer H s E e s'
structure zV(P:Program)(w:World)(K:Frag)(mg:Str->Option Value)(base:Heap)(CX:CXT)(k:Nat)(f:Addr)(fd:FuncData)(ps:List Str)(sp:Sp)(cm:Bool:=true):Prop where
 len:∀vs H Q E,sp vs H Q E->vs.length=ps.length
 run:∀(A:Around) (outer:List Env) (s:Shared) (H:Hp) (args:Args) (us:List Value) (vs:List V) (Q:VK) (E:XK),zaV cm k A->zoo P w K mg base A outer s H->BindsTo s fd args (ps.zip us)->Vals vs us->sp vs H Q E ->
  codeAny (model P w) A (.call (.ref f) args) (CR CX outer P w H s Q E) s
theorem zV.mono{P:Program}{w:World}{K:Frag}{mg:Str->Option Value}{base:Heap}{CX:CXT}{j k:Nat}{f:Addr}{fd:FuncData}{ps:List Str}{sp:Sp}(F:zV P w K mg base CX j f fd ps sp)(h:j<=k) :
  zV P w K mg base CX k f fd ps sp:=⟨F.len,fun A outer s H args us vs Q E hr=>F.run A outer s H args us vs Q E (hr.mono h)⟩
theorem zV.imp{P:Program}{w:World}{K:Frag}{mg:Str->Option Value}{base:Heap}{CX:CXT}{k:Nat}{f:Addr}{fd:FuncData}{ps:List Str}{sp sp':Sp}(F:zV P w K mg base CX k f fd ps sp)
  (h:∀vs H Q E,sp' vs H Q E->sp vs H Q E):zV P w K mg base CX k f fd ps sp' :=
 ⟨fun vs H Q E q=>F.len vs H Q E (h _ _ _ _ q),fun A outer s H args us vs Q E hr he hb hv hs=>F.run A outer s H args us vs Q E hr he hb hv (h _ _ _ _ hs)⟩
theorem zoo.make{P:Program}{w:World}{K:Frag}{mg:Str->Option Value}{base:Heap}{A:Around}{outer:List Env}{s:Shared}{H:Hp}(e:zoo P w K mg base A outer s H)(C:Addr)(us:List Value)(kw:List (Str×Value)) :
  zoo P w K mg base (A.under (.builtin "type.__call__" ⟨.ref C::us,kw⟩)) outer s H:=⟨by first | exact e.frames | (simpa [Around.under,Code.envs,Code.isFrame,pushEnvs] using e.frames),e.mod,e.bs,e.bsz,e.funs,e.frf,e.hok,e.bare⟩
section
variable{X:Cx}{pins:List (Addr×Obj)}{σ:St}{H:Hp}{s s':Shared}
theorem Inv.env0(I:Inv X pins σ H s):zoo X.prog X.w X.K X.mg X.base X.A X.stack s H :=
 ⟨I.ok.frames,I.ok.mod,I.bs,Nat.le_trans I.ok.bsz I.sz,I.stack,I.stkFree,I.hok,I.bare⟩
theorem Inv.after{Q:VK}{u:Value}(I:Inv X pins σ H s)(h:CE X.stack X.prog X.w H s Q u s'):EP X pins σ Q u s':=by
 obtain⟨v,H',os,bare,un,hok,r,q⟩:=h;obtain⟨hh,g,d,t,os'⟩:=s';obtain rfl:os'=s.os:=os;exact⟨v,H',I.call (h':=hh) (g':=g) (d':=d) (t':=t) (ch:=[]) un hok bare (fun b z=>absurd z (by simp)),r,q⟩
end
def znu(sp:Sp)(dvs:List V)(E:XK)(t:TA):TE:=fun σ H Q=>t σ H fun vs H1=>sp (vs++dvs) H1 Q E
def Binds(K:Frag)(fd:FuncData)(ps:List Str)(ds:List Value):Prop :=
 ∀(s:Shared) (us:List Value),K.In s.heap->(us++ds).length=ps.length->BindsTo s fd ⟨us,[]⟩ (ps.zip (us++ds))
theorem Binds.all{K:Frag}{fd:FuncData}{ps:List Str}(h:∀us:List Value,us.length=ps.length->bindArgs fd ⟨us,[]⟩=pure (ps.zip us)):Binds K fd ps []:=fun s us _ hl=>by
 rw[List.append_nil] at hl ⊢;exact .of_eq (h us hl)
def zcs(CX:CXT)(X:Cx)(E:XK):Prop:=∀(pins:List (Addr×Obj)) (σ:St) (H:Hp) (s:Shared) (e:Value) (s':Shared),Inv X pins σ H s->CX X.stack H s E e s'->X.xe e s'
section
variable{X:Cx}{CX:CXT}{k:Nat}{f C:Addr}{fd:FuncData}{ps:List Str}{sp:Sp}{dvs:List V}{ds:List Value}{E:XK}{x m:Str}{p pos apos:Pos}{e o:Expr}{es:List Expr}{ta:TE}{t:TA}
theorem zx3{pins:List (Addr×Obj)}{σ:St}{H:Hp}{s:Shared}{Q:VK}{us:List Value}{vs:List V}(F:zV X.prog X.w X.K X.mg X.base CX k f fd ps sp)(hr:zfm k X.A)(hb:Binds X.K fd ps ds)(hd:Vals dvs ds)(hx:zcs CX X E)
  (I:Inv X pins σ H s)(r:Vals vs us)(h:sp (vs++dvs) H Q E):wpAny (model X.prog X.w) X.A (call (.ref f) us) (EP X pins σ Q) X.xe s:=by
 have r2:Vals (vs++dvs) (us++ds):=r.append hd;have hl:(us++ds).length=ps.length:=by rw[<- r2.length];exact F.len _ _ _ _ h
 refine wpAny_call (codeAny_mono (F.run X.A X.stack s H ⟨us,[]⟩ (us++ds) (vs++dvs) Q E hr I.env0 (hb s us I.kIn hl) r2 h) fun r s' hq=>?_);cases r with
 | error e=>exact hx pins σ H s e s' I hq
 | ok fl =>
  cases fl with
  | ret u=>exact I.after hq
  | next=>exact False.elim hq
  | brk=>exact False.elim hq
  | cont=>exact False.elim hq
theorem zuw(F:zV X.prog X.w X.K X.mg X.base CX k f fd ps sp)(hr:zfm k X.A)(hg:Gl X x)(hm:X.mg x=some (.ref f))(hk:keepIn X.K (.ref f)=true)(hb:Binds X.K fd ps ds)(hd:Vals dvs ds)(hx:zcs CX X E)
  (ha:PA X (e::es) t)(hdb:(x==("__debug__":Str))=false:=by decide)(he:starEach (e::es) X.env=(false,eval e X.env)::starEach es X.env:=by rfl)(hpl:(backTo pos (starEach es X.env)).any (·.1)=false:=by rfl) :
  PE X (.Call (.Name x p) (e::es) [] pos) (znu sp dvs E t):=by
 intro pins s σ H Q I h;refine wpAny_Call_Name_kw (zgk I hg hm ?_ hdb);refine PySem.W.callWith_K (h₀:=X.base) I.ok.mod.kin hk (thn (ha pos pins s σ H _ I h) fun us s1 ⟨vs,H1,I1,r,q⟩=>⟨I1.kIn,?_⟩) he hpl;exact zx3 F hr hb hd hx I1 r q
structure Mk(K:Frag)(C f:Addr):Prop where
 makes:makesIn K C=true
 init:findIn K (.ref C) "__init__"=some (some (.ref f))
 fn:isFn K (.ref f)=true
 kp:keepIn K (.ref C)=true
end
def PK(X:Cx)(kws:List Keyword)(t:TA):Prop :=
 ∀(pos:Pos) (pins:List (Addr×Obj)) (s:Shared) (σ:St) (H:Hp) (Q:List V->Hp->Prop),Inv X pins σ H s->t σ H Q->wpAny (model X.prog X.w) X.A (evalAll ((backToKw pos (keywordEach kws X.env)).map (·.2))) (AP X pins σ Q) X.xe s
section
variable{X:Cx}{CX:CXT}{k:Nat}{f C:Addr}{fd:FuncData}{ps ks:List Str}{sp:Sp}{E:XK}{x m:Str}{p pos apos kpos:Pos}{e o:Expr}{es:List Expr}{kws:List Keyword}{te ta:TE}{t tk:TA}{nm:Option Str}
theorem zx7:PK X [] zhr:=fun _ _ _ _ H Q I h=>wpAny_evalAll_nil ⟨[],H,I, .nil,h⟩
theorem zuX(ha:PE X e te)(hr:PK X kws t):PK X (⟨nm,e,kpos⟩::kws) (zej te t):=by
 intro pos pins s σ H Q I h;show wpAny _ _ (evalAll ((do let v<-eval e X.env;standAt pos;pure v)::(backToKw pos (keywordEach kws X.env)).map (·.2))) _ _ s;refine wpAny_evalAll_cons (wpAny_bind (thn (ha pins s σ H _ I h) fun u s1 ⟨x,H1,I1,r1,q1⟩=>wpAny_bind (wpAny_standAt (wpAny_pure ?_))));exact thn (hr pos pins s1 σ H1 _ I1 q1) fun us s2 ⟨xs,H2,I2,r2,q2⟩=>⟨x::xs,H2,I2, .cons r1 r2,q2⟩
structure zcX(K:Frag)(fd:FuncData)(ps ks:List Str)(g:List Value->List Value->List Value)(gV:List V->List V->List V):Prop where
 to:∀(s:Shared) (us ws:List Value),K.In s.heap->(g us ws).length=ps.length->BindsTo s fd ⟨us,ks.zip ws⟩ (ps.zip (g us ws))
 rel:∀{vs:List V} {us:List Value} {zs:List V} {ws:List Value},Vals vs us->Vals zs ws->Vals (gV vs zs) (g us ws)
def zol(sp:Sp)(gV:List V->List V->List V)(E:XK)(t tk:TA):TE:=fun σ H Q=>t σ H fun vs H1=>tk σ H1 fun zs H2=>sp (gV vs zs) H2 Q E
variable{g:List Value->List Value->List Value}{gV:List V->List V->List V}
theorem zqe{pins:List (Addr×Obj)}{σ:St}{H:Hp}{s:Shared}{Q:VK}{us ws:List Value}{vs zs:List V}(F:zV X.prog X.w X.K X.mg X.base CX k f fd ps sp)(hr:zfm k X.A)(hb:zcX X.K fd ps ks g gV)(hx:zcs CX X E)
  (I:Inv X pins σ H s)(r:Vals vs us)(rz:Vals zs ws)(h:sp (gV vs zs) H Q E):wpAny (model X.prog X.w) X.A (call (.ref f) us (ks.zip ws)) (EP X pins σ Q) X.xe s:=by
 have r2:=hb.rel r rz;have hl:(g us ws).length=ps.length:=by rw[<- r2.length];exact F.len _ _ _ _ h
 refine wpAny_call (codeAny_mono (F.run X.A X.stack s H ⟨us,ks.zip ws⟩ (g us ws) (gV vs zs) Q E hr I.env0 (hb.to s us ws I.kIn hl) r2 h) fun r s' hq=>?_);cases r with
 | error e=>exact hx pins σ H s e s' I hq
 | ok fl =>
  cases fl with
  | ret u=>exact I.after hq
  | next=>exact False.elim hq
  | brk=>exact False.elim hq
  | cont=>exact False.elim hq
theorem zrG(F:zV X.prog X.w X.K X.mg X.base CX k f fd ps sp)(hr:zfm k X.A)(hg:Gl X x)(hm:X.mg x=some (.ref f))(hk:keepIn X.K (.ref f)=true)(hb:zcX X.K fd ps ks g gV)(hx:zcs CX X E)
  (ha:PA X (e::es) t)(hkw:PK X kws tk)(hall:(backToKw pos (keywordEach kws X.env)).all (·.1.isSome)=true:=by rfl)(hks:(backToKw pos (keywordEach kws X.env)).filterMap (·.1)=ks:=by rfl)
  (hdb:(x==("__debug__":Str))=false:=by decide)(he:starEach (e::es) X.env=(false,eval e X.env)::starEach es X.env:=by rfl)
  (hpl:((backTo pos (starEach (e::es) X.env)).any (·.1)||(backToKw pos (keywordEach kws X.env)).any (·.1.isNone))=false:=by rfl) :
  PE X (.Call (.Name x p) (e::es) kws pos) (zol sp gV E t tk):=by
 intro pins s σ H Q I h;refine wpAny_Call_Name_kw (zgk I hg hm ?_ hdb);refine callWith_KW (h₀:=X.base) I.ok.mod.kin hk hall (thn (ha pos pins s σ H _ I h) fun us s1 ⟨vs,H1,I1,r,q⟩=>?_) hpl he;refine thn (hkw pos pins s1 σ H1 _ I1 q) fun ws s2 ⟨zs,H2,I2,rz,q2⟩=>⟨I2.kIn,?_⟩
 rw[hks];exact zqe F hr hb hx I2 r rz q2
end
structure zG(N P:List Str)(sc:Scope):Prop where
 kind:sc.kind= .function
 co:sc.isCoroutine=false
 gen:sc.isGenerator=false
 nd:N.Nodup
 pre:N.take P.length=P
 par:∀x∈P,sc.names.lookup x=some .local\/sc.names.lookup x=some .cell
 nofree:∀y∈sc.names,y.2≠ .free
theorem zk8{kindOf:Str->Option NameKind}{x:Str}:∀{binds:List (Str×Value)} {m:Str->Option Value},(∀v,(x,v)∉binds)->bindL kindOf binds m x=m x
 | [],_,_=>rfl
 | (n,v)::r,m,h=>by
  unfold bindL;rw[zk8 fun w hw=>h w (List.mem_cons_of_mem _ hw)];split
  .have:x≠n:=by rintro rfl;exact h v List.mem_cons_self
   simp[this]
  .rfl
theorem zlu{kindOf:Str->Option NameKind}{x:Str}:∀{binds:List (Str×Value)} {m:Str->Option Value},(∀v,(x,v)∉binds)->bindC kindOf binds m x=m x
 | [],_,_=>rfl
 | (n,v)::r,m,h=>by
  unfold bindC;rw[zlu fun w hw=>h w (List.mem_cons_of_mem _ hw)];split
  .rfl
  .have:x≠n:=by rintro rfl;exact h v List.mem_cons_self
   simp[this]
theorem zkX{kindOf:Str->Option NameKind}{x:Str}{v:Value}:∀{P:List Str} {vs:List Value} {i:Nat} {m:Str->Option Value},P.Nodup->P[i]? = some x->vs[i]? = some v->kindOf x=some .local ->
  bindL kindOf (P.zip vs) m x=some v
 | [],_,_,_,_,h,_,_=>by simp at h
 | _::_,[],_,_,_,_,h,_=>by simp at h
 | p::P,w::vs,0,m,nd,h1,h2,hk=>by
  simp at h1 h2;subst h1;subst h2;show bindL kindOf ((p,w)::P.zip vs) m p=_;unfold bindL;rw[zk8 fun v hv=>(List.nodup_cons.mp nd).1 (List.of_mem_zip hv).1,if_pos hk];simp
 | p::P,w::vs,i+1,m,nd,h1,h2,hk=>by
  show bindL kindOf ((p,w)::P.zip vs) m x=_;unfold bindL;exact zkX (i:=i) (List.nodup_cons.mp nd).2 (by simpa using h1) (by simpa using h2) hk
theorem zlr{kindOf:Str->Option NameKind}{x:Str}{v:Value}:∀{P:List Str} {vs:List Value} {i:Nat} {m:Str->Option Value},P.Nodup->P[i]? = some x->vs[i]? = some v->kindOf x≠some .local ->
  bindC kindOf (P.zip vs) m x=some v
 | [],_,_,_,_,h,_,_=>by simp at h
 | _::_,[],_,_,_,_,h,_=>by simp at h
 | p::P,w::vs,0,m,nd,h1,h2,hk=>by
  simp at h1 h2;subst h1;subst h2;show bindC kindOf ((p,w)::P.zip vs) m p=_;unfold bindC;rw[zlu fun v hv=>(List.nodup_cons.mp nd).1 (List.of_mem_zip hv).1,if_neg hk];simp
 | p::P,w::vs,i+1,m,nd,h1,h2,hk=>by
  show bindC kindOf ((p,w)::P.zip vs) m x=_;unfold bindC;exact zlr (i:=i) (List.nodup_cons.mp nd).2 (by simpa using h1) (by simpa using h2) hk
def start(N:List Str)(vs:List V):St:=vs.map some++List.replicate (N.length - vs.length) none
def znd(CX:CXT)(P:Program)(w:World)(K:Frag)(mg:Str->Option Value)(base:Heap)(N:List Str)(qual:Str)(scope:Scope)(f:Addr)(cd:Value)(A:Around)(outer:List Env)(s:Shared)(H:Hp)(E:XK)(cm:Bool:=true):Cx where
 prog:=P
 w:=w
 K:=K
 mg:=mg
 base:=base
 A:=A.deeper (envOfC qual scope s.heap.objs.size f cd)
 N:=N
 s₀:=s
 H₀:=H
 env:=envOfC qual scope s.heap.objs.size f cd
 outer:=outer
 stack:=envOfC qual scope s.heap.objs.size f cd::outer
 ex:=[]
 calm:=cm
 fn:=fun _=>true
 pn:=[]
 xe:=fun e s'=>wpAny (model P w) (A.deeper (envOfC qual scope s.heap.objs.size f cd)) (leaving (envOfC qual scope s.heap.objs.size f cd) e) (fun _ s''=>CX outer H s E e s'') (fun e' s''=>CX outer H s E e' s'') s'
theorem znB{sc:Scope}{n:Nat}{x:Str}(h:sc.names.lookup x=some .cell):∃c,(cellsFrom n sc.names []).lookup x=some c:=by
 have q:=PySem.W.cellsFrom_some sc.names n [] (.inl h);exact Option.isSome_iff_exists.mp q
theorem zrp{cm:Bool}{CX:CXT}{P:Program}{w:World}{K:Frag}{mg:Str->Option Value}{base:Heap}{N ps:List Str}{qual:Str}{scope:Scope}{f:Addr}{cd:Value}{A:Around}{outer:List Env}{s s1:Shared}{H:Hp}{E:XK}{us:List Value}{vs:List V}
  (S:zG N ps scope)(hd:cm=true->A.handled=none)(e0:zoo P w K mg base A outer s H)(hl:vs.length=ps.length)(r:Vals vs us)
  (x:InCallC s s.heap.objs.size (bindL (envOfC qual scope s.heap.objs.size f cd).kindOf (ps.zip us) fun _=>none) (cellsFrom (s.heap.objs.size+1) scope.names []) (bindC (envOfC qual scope s.heap.objs.size f cd).kindOf (ps.zip us) fun _=>none) s1) :
  Inv (znd CX P w K mg base N qual scope f cd A outer s H E cm) [] (start N vs) H s1:=by
 have hpl:ps.length<=N.length:=by have:=congrArg List.length S.pre;rw[List.length_take] at this;omega
 obtain⟨h1,tk,rfl,hk⟩:=x.done;have noA:∀b:Addr,b∉(znd CX P w K mg base N qual scope f cd A outer s H E cm).ex:=fun b z=>absurd (show b∈([]:List Addr) from z) (by simp)
 refine⟨⟨e0.mod,S.kind,rfl,rfl,Nat.le_refl _,fun y z c h1 h2=>?_,fun y hy=>?_,fun y c _ h=>?_,hd,Around.frames_deeper e0.frames, .inr ⟨rfl,rfl⟩,fun b z=>absurd z (noA b),e0.bs,e0.bsz,fun b _ _=>noA b,fun b z=>absurd z (noA b),e0.funs,e0.frf⟩,
  rfl,e0.bare,Un.kept hk,⟨_,x.toInCall.ns,fun i y v h1 h2 h3=>?_⟩,fun y c h=>⟨_,x.cell y c h⟩,e0.hok.fresh (Nat.le_refl _),fun y c h=>?_,fun p hp=>absurd (show p∈([]:List (Addr×Obj)) from hp) (by simp),e0.hok.kept hk,?_⟩
 .exact name_of_addr x.apart (PySem.mem_of_lookup h1) (PySem.mem_of_lookup h2)
 .have hy:scope.names.lookup y=some .cell\/scope.names.lookup y=some .free:=hy;rcases hy with hy | hy
  .exact znB hy
  .exact absurd rfl (S.nofree _ (PySem.mem_of_lookup hy))
 .exact Nat.le_of_lt (x.above y c (PySem.mem_of_lookup h))
 .have hi:i < vs.length:=by
   unfold start at h2;by_cases hi:i < vs.length
   .exact hi
   .rw[List.getElem?_append_right (by simpa using hi)] at h2;rw[List.getElem?_replicate] at h2;split at h2<;>cases h2
  have ha:vs[i]? = some v:=by
   unfold start at h2;rw[List.getElem?_append_left (by simpa using hi),List.getElem?_map] at h2;cases e:vs[i]? with
   | none=>rw[e] at h2;cases h2
   | some a=>rw[e] at h2;cases h2;rfl
  obtain⟨u,hu,rv⟩:=r.get ha;have hp:ps[i]? = some y:=by
   rw[<- S.pre,List.getElem?_take_of_lt (by omega)];exact h1
  have ndP:ps.Nodup:=by rw[<- S.pre];exact S.nd.sublist (List.take_sublist _ _)
  refine⟨u,rv,?_⟩;rcases S.par y (List.mem_of_getElem? hp) with k | k
  .exact .inl ⟨k,zkX ndP hp hu k⟩
  .obtain⟨c,e⟩:=znB (n:=s.heap.objs.size+1) k;refine .inr ⟨.inl k,c,e,?_⟩;have q:=x.cell y c e;rw[zlr ndP hp hu (by show scope.names.lookup y≠_;rw[k];decide)] at q;exact q
 .exact e0.hok.fresh (Nat.le_of_lt (x.above y c (PySem.mem_of_lookup h)))
 .unfold start;show _=N.length;rw[List.length_append,List.length_map,List.length_replicate];omega
theorem zzH{cm:Bool}{CX:CXT}{P:Program}{w:World}{K:Frag}{mg:Str->Option Value}{base:Heap}{k:Nat}{f:Addr}{name qual:Str}{params:Arguments}{body:List Stmt}{scope:Scope}{dV kV doc pm cdv ct oc:Value}{an od:Option Addr}
  {osl:Array (Option Value)}{N ps:List Str}{sp:Sp}(lk:K.lookup f=some ⟨oc,od, .func (fnOf name qual params body scope dV kV doc pm an cdv ct),osl⟩)(hcd:codeIn K cdv qual=true)(S:zG N ps scope)
  (len:∀vs H Q E,sp vs H Q E->vs.length=ps.length)
  (hbody:∀(A:Around) (outer:List Env) (s:Shared) (H:Hp) (vs:List V) (Q:VK) (E:XK),zaV cm k (A.deeper (envOfC qual scope s.heap.objs.size f cdv))->sp vs H Q E ->
   ∃t,PSs (znd CX P w K mg base N qual scope f cdv A outer s H E cm) body t/\t { nx:=fun _ H'=>Q .non H',rt:=Q } (start N vs) H) :
  zV P w K mg base CX (k+1) f (fnOf name qual params body scope dV kV doc pm an cdv ct) ps sp cm:=by
 refine⟨len,fun A outer s H args us vs Q E hr e0 hb r hsp=>?_⟩;have hl:=len _ _ _ _ hsp;have KX:K.In s.heap:=e0.mod.kin.keeps fun b o e=>(e0.bs b o e).1
 have lim:s.heap.NoLimit:=e0.mod.nolimit.keeps fun b o e=>(e0.bs b o e).1
 have hkind:∀y∈ps.zip us,scope.names.lookup y.1=some .local\/(scope.names.lookup y.1=some .cell/\((cellsFrom (s.heap.objs.size+1) scope.names []).lookup y.1).isSome=true):=fun⟨n,v⟩ hy=>by
  rcases S.par n (List.of_mem_zip hy).1 with q | q
  .exact .inl q
  .exact .inr ⟨q,PySem.W.cellsFrom_some _ _ _ (.inl q)⟩
 refine codeAny_call_function hr.depth (KX _ _ lk) rfl S.co S.gen rfl (PySem.W.codeRec_of KX hcd) (hb _ _ _ _ ?_);refine wpAny_newFunctionEnv_cells S.kind hkind fun env he s1 x=>?_
 subst he;refine⟨lim.keeps x.toInCall.keep,codeAny_func ?_⟩;obtain⟨t,ht,hq⟩:=hbody A outer s H vs Q E (hr.deeper _) hsp;have I:Inv (znd CX P w K mg base N qual scope f cdv A outer s H E cm) [] (start N vs) H s1:=zrp S hr.hd e0 hl r x;refine wpAny_mono (ht [] s1 (start N vs) H _ I hq) (fun fl s' hs=>?_) fun e s' hs=>hs
 have fin:∀{σ':St} {H':Hp} {v:V} {u:Value},Inv (znd CX P w K mg base N qual scope f cdv A outer s H E cm) [] σ' H' s'->RelV v u->Q v H'->CE outer P w H s Q u s' :=
  fun{σ' H' v u} J rv q=>⟨v,H',J.os,J.bare,J.base,J.hok,rv,q⟩
 cases fl with
 | ret u =>
  obtain⟨v,σ',H',J,rv,q⟩:=hs;exact fin J rv q
 | next =>
  obtain⟨σ',H',J,q⟩:=hs;exact fin (v:=V.non) (u:=Value.none) J rfl q
 | brk =>
  obtain⟨_,_,_,q⟩:=hs;exact False.elim q
 | cont =>
  obtain⟨_,_,_,q⟩:=hs;exact False.elim q
section
variable{X:Cx}{x:Str}{p pos:Pos}{e:Expr}{es:List Expr}{t:TA}{id T:String}{r:List V->Hp->VK->Prop}
def tCB(r:List V->Hp->VK->Prop)(t:TA):TE:=fun σ H Q=>t σ H fun vs H1=>r vs H1 Q
theorem zrH(hc:zN X (.builtin id) r)(hg:Gl X x)(hm:X.mg x=none)(hv:bootBuiltins x=some (.builtin id))(ha:PA X (e::es) t)(hn:x≠"__name__":=by decide)(hdb:(x==("__debug__":Str))=false:=by decide)
  (he:starEach (e::es) X.env=(false,eval e X.env)::starEach es X.env:=by rfl)(hpl:(backTo pos (starEach es X.env)).any (·.1)=false:=by rfl):PE X (.Call (.Name x p) (e::es) [] pos) (tCB r t):=by
 intro pins s σ H Q I h;refine wpAny_Call_Name_kw (zhx I hg hm hv ?_ hn hdb);exact PyProof.Rows.callWith_builtin1 (thn (ha pos pins s σ H _ I h) fun us s1 ⟨vs,H1,I1,r1,q1⟩=>hc pins s1 σ H1 vs us Q I1 r1 q1) he hpl
theorem zqL(hc:zN X (.type T) r)(hg:Gl X x)(hm:X.mg x=none)(hv:bootBuiltins x=some (.type T))(ha:PA X (e::es) t)(hn:x≠"__name__":=by decide)(hdb:(x==("__debug__":Str))=false:=by decide)
  (he:starEach (e::es) X.env=(false,eval e X.env)::starEach es X.env:=by rfl)(hpl:(backTo pos (starEach es X.env)).any (·.1)=false:=by rfl):PE X (.Call (.Name x p) (e::es) [] pos) (tCB r t):=by
 intro pins s σ H Q I h;refine wpAny_Call_Name_kw (zhx I hg hm hv ?_ hn hdb);exact PyProof.Rows.callWith_type1 (thn (ha pos pins s σ H _ I h) fun us s1 ⟨vs,H1,I1,r1,q1⟩=>hc pins s1 σ H1 vs us Q I1 r1 q1) he hpl
end
end L2
namespace HT
open PySem PyProof.Rows
def lexLt:List Int->List Int->Bool
 | [],[]=>false
 | [],_::_=>true
 | _::_,[]=>false
 | x::xs,y::ys=>if x=y then lexLt xs ys else decide (x < y)
theorem zdQ(x y:Int)(xs ys:List Int):lexLt (x::xs) (y::ys)=if x=y then lexLt xs ys else decide (x < y):=rfl
theorem zkF:lexLt [] []=false:=rfl
theorem zkd(y:Int)(ys:List Int):lexLt [] (y::ys)=true:=rfl
theorem zi3(x:Int)(xs:List Int):lexLt (x::xs) []=false:=rfl
theorem zsr(A:Around)(s:Shared)(a:Int)(t:Tok)(c:Int)(u:Tok):∃e,SeqAt.EqAt A s (.int a t) (.int c u) e/\(e=true↔a=c) :=
 ⟨(a==c),SeqAt.EqAt.int_int a t c u,by simp⟩
theorem ztG(A:Around)(s:Shared)(a:Int)(t:Tok)(c:Int)(u:Tok)(prog:Program)(w:World)(E:Value->Shared->Prop)(Q:Value->Shared->Prop)(h:Q (.bool (decide (a < c))) s) :
  wpAny (model prog w) A (richCompare .Lt (.int a t) (.int c u)) Q E s :=
 (PyProof.Rows.lt_int h:wpAny (model prog w) A (compareOp .Lt (.int a t) (.int c u)) Q E s)
section
open PySem.SeqAt
open PySem.AutoSeq1 (wpAny_loadPart')
open PySem.MeetsSeq PySem.MeetsSeq2 PySem.MeetsSeq3
theorem zkH(l b:Addr)(items items2:Array Value)(n n2:Nat)(dd dd2:Option Addr)(sl sl2:Array (Option Value))(ns ms:List Int)(hi:IntsAre items.toList ns)(hj:IntsAre items2.toList ms) :
  Meets (Builtin.«tuple.__lt__» ⟨[.ref l, .ref b],[]⟩)
   (fun _ R s=>s.heap.get? l=some { cls:= .type "tuple",dict:=dd,data:= .seq items n,slots:=sl }/\s.heap.get? b=some { cls:= .type "tuple",dict:=dd2,data:= .seq items2 n2,slots:=sl2 } /\
    R (.ok (.ret (.bool (lexLt ns ms)))) s) :=
 .of_wp fun prog w A R s h=>by
  obtain⟨hp,g,d,tk,os⟩:=s;obtain⟨hl,hb,h⟩:=h;have f2:=AutoSeq1.sub_tuple_tuple;have z1:items.size=ns.length:=by rw[<- hi.length];simp
  have z2:items2.size=ms.length:=by rw[<- hj.length];simp
  wp_walk using wpAny_loadPart' hl,wpAny_loadPart' hb,wpAny_forIn_list _ (fun rest b s'=>b.1=none/\s'=⟨hp,g,d,tk,os⟩/\∃(vs ws:List Value) (ns' ms':List Int),rest=vs.zip ws /\
   IntsAre vs ns'/\IntsAre ws ms'/\ns'.length+items2.size=ms'.length+items.size/\R (.ok (.ret (.bool (lexLt ns' ms')))) ⟨hp,g,d,tk,os⟩) _
  case turn =>
   rintro⟨y,x⟩ rest b s' ⟨hb',rfl,vs,ws,ns',ms',hz,hvi,hwi,hlen,hR⟩;cases hvi with
   | nil=>rw[List.zip_nil_left] at hz;cases hz
   | cons a t hvi' =>
    cases hwi with
    | nil=>rw[List.zip_nil_right] at hz;cases hz
    | cons c u hwi' =>
     rw[List.zip_cons_cons] at hz;injection hz with hyx hrest;injection hyx with hy hx;subst hy hx;rw[zdQ] at hR;simp only[List.length_cons] at hlen;obtain⟨e,he,hiff⟩:=zsr A.in1 ⟨hp,g,d,tk,os⟩ a t c u;refine wpAny_bind (he prog w _ _ ?_);cases e with
     | true =>
      rw[if_pos (hiff.mp rfl)] at hR;wp_walk
      exact⟨rfl,rfl,_,_,_,_,hrest,hvi',hwi',by omega,hR⟩
     | false =>
      rw[if_neg (fun q=>absurd (hiff.mpr q) Bool.false_ne_true)] at hR;have hri:=ztG A.in1 ⟨hp,g,d,tk,os⟩ a t c u prog w;wp_walk using hri
      exact⟨_,rfl,by simpa using hR⟩
  case fin =>
   rintro⟨b1,b2⟩ s' ⟨hb',rfl,vs,ws,ns',ms',hz,hvi,hwi,hlen,hR⟩;simp only at hb';subst hb';have hv:lexLt ns' ms'=decide (items.size < items2.size):=by
    cases hvi with
    | nil =>
     cases hwi with
     | nil =>
      simp only[List.length_nil] at hlen;rw[zkF];exact(decide_eq_false (by omega)).symm
     | cons c u hw =>
      simp only[List.length_nil,List.length_cons] at hlen;rw[zkd];exact(decide_eq_true (by omega)).symm
    | cons a t hv =>
     cases hwi with
     | nil =>
      simp only[List.length_nil,List.length_cons] at hlen;rw[zi3];exact(decide_eq_false (by omega)).symm
     | cons c u hw =>
      rw[List.zip_cons_cons] at hz;cases hz
   rw[hv] at hR;wp_walk
   exact⟨_,rfl,by simpa [Builtin.Tuple.tupleCompareSizes] using hR⟩
  case h =>
   exact⟨rfl,rfl,items.toList,items2.toList,ns,ms,rfl,hi,hj,by omega,h⟩
end
section
variable{prog:Program}{w:World}{A:Around}{E:Value->Shared->Prop}{s:Shared}
theorem zoF{l b:Addr}{items items2:Array Value}{ns ms:List Int}{Q:Value->Shared->Prop}(hl:IsTup s.heap l items)(hb:IsTup s.heap b items2)(hi:IntsAre items.toList ns)(hj:IntsAre items2.toList ms)
  (hu:A.units < cLine)(h:Q (.bool (lexLt ns ms)) s):wpAny (model prog w) A (compareOp .Lt (.ref l) (.ref b)) Q E s:=by
 obtain⟨⟨cls,dd,data,sl⟩,ho,hc,n,hd⟩:=id hl;obtain⟨⟨cls2,dd2,data2,sl2⟩,ho2,hc2,n2,hd2⟩:=id hb;simp only at hc hd hc2 hd2;subst hc hd hc2 hd2;exact richCompare_meets_room (op:= .Lt) ⟨_,ho,rfl⟩ ⟨_,ho2,rfl⟩ PySem.F.slot_tuple_lt PySem.F.entry_tuple_lt (PySem.F.args_tuple_lt_2 _ _) (zkH l b items items2 n n2 dd dd2 sl sl2 ns ms hi hj)
  ⟨ho,ho2,show Value.bool (lexLt ns ms)≠Value.notImplemented/\Q (.bool (lexLt ns ms)) s from ⟨(fun x=>nomatch x),h⟩⟩ hu
theorem zvQ{t b:Addr}{vs ws:List Value}{Q:Value->Shared->Prop}(ht:IsTup s.heap t vs.toArray)(hb:IsTup s.heap b ws.toArray)(hv:vs≠[])
  (h1:ws=[]->Q (.ref t) s)(h2:ws≠[]->Q (.ref s.heap.objs.size) { s with heap:=s.heap.push { cls:= .type "tuple",data:= .seq (vs++ws).toArray } })
  (hsz:vs.length+ws.length<=sizeLine):wpAny (model prog w) A (binaryOp .Add (.ref t) (.ref b)) Q E s:=by
 obtain⟨⟨cls,dd,data,sl⟩,ho,hc,n,hd⟩:=id ht;obtain⟨⟨cls2,dd2,data2,sl2⟩,ho2,hc2,n2,hd2⟩:=id hb;simp only at hc hd hc2 hd2;subst hc hd hc2 hd2;have e:vs.toArray++ws.toArray=(vs++ws).toArray:=by simp
 by_cases hw:ws=[]
 .exact concat_meets ⟨_,ho,rfl⟩ ⟨_,ho2,rfl⟩ noFill_tuple_add seq_tuple_add PySem.F.slot_tuple_add PySem.F.entry_tuple_add (PySem.F.args_tuple_add_2 _ _)
   (tuple_addW1 t b vs.toArray ws.toArray n n2 dd dd2 sl sl2 (by simpa using hv) (by simp[hw])) ⟨ho,ho2,h1 hw⟩
 .refine concat_meets ⟨_,ho,rfl⟩ ⟨_,ho2,rfl⟩ noFill_tuple_add seq_tuple_add PySem.F.slot_tuple_add PySem.F.entry_tuple_add (PySem.F.args_tuple_add_2 _ _)
   (tuple_addW2 t b vs.toArray ws.toArray n n2 dd dd2 sl sl2 (by simpa using hv) (by simpa using hw) (by rw[List.size_toArray,List.size_toArray];exact hsz)) ⟨ho,ho2,?_⟩
  rw[e];exact h2 hw
def sIx(n d:Nat):Option Int->Nat
 | none=>d
 | some v=>if v < 0 then(v+(n:Int)).toNat else min v.toNat n
theorem znk(n d:Nat):sIx n d none=d:=rfl
theorem zaS(n d k:Nat):sIx n d (some (k:Int))=min k n:=by
 show(if (k:Int) < 0 then((k:Int)+(n:Int)).toNat else min (k:Int).toNat n)=min k n;rw[if_neg (by omega),Int.toNat_natCast]
theorem zxX(n d:Nat)(hd:d<=n)(o:Option Int):sIx n d o<=n:=by
 cases o with
 | none=>exact hd
 | some v =>
  show(if v < 0 then(v+(n:Int)).toNat else min v.toNat n)<=n;by_cases hv:v < 0
  .rw[if_pos hv];omega
  .rw[if_neg hv];exact Nat.min_le_right _ _
theorem zp2(v:Int)(n d:Nat):(if v < 0 then max (v+(n:Int)) 0 else min v (n:Int))=((sIx n d (some v):Nat):Int):=by
 show(if v < 0 then max (v+(n:Int)) 0 else min v (n:Int))=(((if v < 0 then(v+(n:Int)).toNat else min v.toNat n):Nat):Int);by_cases hv:v < 0
 .simp only[if_pos hv];omega
 .simp only[if_neg hv];omega
theorem zo9(lo hi:Option Int)(n:Nat):Builtin.Slice.sliceAdjust lo hi 1 (n:Int)=(((sIx n 0 lo:Nat):Int),((sIx n n hi:Nat):Int)):=by
 have h1:¬ ((1:Int) < 0):=by omega
 unfold Builtin.Slice.sliceAdjust;simp only[h1,if_false];refine Prod.ext ?_ ?_
 .cases lo with
  | none=>rfl
  | some v=>exact zp2 v n 0
 .cases hi with
  | none=>rfl
  | some v=>exact zp2 v n n
theorem zoj(i j:Nat):Builtin.Slice.slicePlaces (i:Int) (j:Int) 1=j - i:=by
 unfold Builtin.Slice.slicePlaces;have h1:(1:Int) > 0:=by omega
 simp only[h1,if_true,Int.ediv_one];split<;>omega
theorem zcO{v:Value}{o:Option Int}{Q:Option Int->Shared->Prop}(p:IsPart v o)(h:Q o s):wpAny (model prog w) A (Builtin.Slice.slicePartIndex v) Q E s:=by
 cases p with
 | none=>exact slicePart_none h
 | int i t=>exact slicePart_int h
theorem zhD{sl:Addr}{vl vu:Value}{lo hi:Option Int}{n:Nat}{Q:Int×Int×Nat->Shared->Prop}(hs:s.heap.IsSliceOf sl vl vu .none)(pl:IsPart vl lo)(pu:IsPart vu hi)
  (h:Q (((sIx n 0 lo:Nat):Int),1,sIx n n hi - sIx n 0 lo) s):wpAny (model prog w) A (Builtin.Slice.sliceApplied (.ref sl) (pure (n:Int))) Q E s:=by
 obtain⟨os,hos,hcs,hds⟩:=id hs;unfold Builtin.Slice.sliceApplied Builtin.Slice.sliceFields;refine wpAny_bind (wpAny_bind (wpAny_field hos hds (x:=vl) rfl (wpAny_bind (wpAny_field hos hds (x:=vu) rfl (wpAny_bind (wpAny_field hos hds (x:= .none) rfl (wpAny_pure ?_)))))));refine wpAny_bind (slicePart_none ?_);show wpAny _ _ (if ((1:Int)==0)=true then _ else _) _ _ s;rw[if_neg (by decide)];refine wpAny_bind (zcO pl (wpAny_bind (zcO pu (wpAny_bind (wpAny_pure ?_)))));show wpAny _ _ (match Builtin.Slice.sliceAdjust lo hi 1 (n:Int) with | (lo,hi)=>pure (lo,(1:Int),Builtin.Slice.slicePlaces lo hi 1)) _ _ s;rw[zo9 lo hi n];show wpAny _ _ (pure (((sIx n 0 lo:Nat):Int),(1:Int),Builtin.Slice.slicePlaces ((sIx n 0 lo:Nat):Int) ((sIx n n hi:Nat):Int) 1)) _ _ s;rw[zoj];exact wpAny_pure h
theorem zsU(xs:Array Value)(i k:Nat):((List.range k).filterMap fun(m:Nat)=>xs[((i:Int)+(m:Int)*1).toNat]?).toArray=((xs.toList.drop i).take k).toArray:=by
 have e:(fun(m:Nat)=>xs[((i:Int)+(m:Int)*1).toNat]?)=fun m=>xs[i+m]? := by
  funext m;have:((i:Int)+(m:Int)*1).toNat=i+m:=by omega
  rw[this]
 rw[e];have:=pick_run xs i k;rw[List.filterMap_map] at this;have e2:((fun x=>xs[x]?)∘fun x=>i+x)=fun m=>xs[i+m]? := rfl
 rw[e2] at this;rw[this]
theorem zgo{t sl:Addr}{items:Array Value}{vl vu:Value}{lo hi:Option Int}{Q:Value->Shared->Prop}(ht:IsTup s.heap t items)(hs:s.heap.IsSliceOf sl vl vu .none)(pl:IsPart vl lo)(pu:IsPart vu hi)
  (hw:¬ (sIx items.size 0 lo=0/\sIx items.size items.size hi=items.size))
  (h:Q (.ref s.heap.objs.size) { s with heap:=s.heap.push { cls:= .type "tuple",data:= .seq ((items.toList.drop (sIx items.size 0 lo)).take (sIx items.size items.size hi - sIx items.size 0 lo)).toArray } })
  (hsz:items.size<=sizeLine):wpAny (model prog w) A (getItem (.ref t) (.ref sl)) Q E s:=by
 have htake:sizeOk (.seq ((items.toList.drop (sIx items.size 0 lo)).take (sIx items.size items.size hi - sIx items.size 0 lo)).toArray):=by
  show((items.toList.drop (sIx items.size 0 lo)).take (sIx items.size items.size hi - sIx items.size 0 lo)).toArray.size<=sizeLine;rw[List.size_toArray,List.length_take,List.length_drop,Array.length_toList];omega
 have hj:sIx items.size items.size hi<=items.size:=zxX _ _ (Nat.le_refl _) hi;obtain⟨os,hos,hcs,hds⟩:=id hs;have hTs:s.TypeIs (.ref sl) "slice":=⟨os,hos,hcs⟩;unfold getItem;try with_reducible refine wpAny_holding ?_
 first | refine wpAny_bind (wpAny_pure ?_) | skip
 refine wpAny_bind (wpAny_sequenceKey ht.typeIs (by decide) ?_);refine wpAny_bind (wpAny_callSpecial?_slot (name:=Str.ofString "__getitem__") ht.typeIs PyProof.Rows.slot_tuple_getitem
  (wpAny_call_entry PyProof.Rows.slot_tuple_getitem ht.typeIs entry_tuple_getitem ?_ (args_tuple_getitem _ _)))
 show wpAny _ _ (Builtin.Tuple.tupleItemsOf (.ref t) >>= _) _ _ s;refine wpAny_bind (tupleItemsOf_ ht ?_);refine wpAny_bind (wpAny_typeOf hTs ?_);rw[if_pos (by decide)];refine wpAny_bind (zhD hs pl pu ?_);have hno:¬ ((((sIx items.size 0 lo:Nat):Int)==0&&(1:Int)==1&&(sIx items.size items.size hi - sIx items.size 0 lo)==items.size)=true):=by
  intro q;rw[Bool.and_eq_true,Bool.and_eq_true] at q;have q1:((sIx items.size 0 lo:Nat):Int)=0:=eq_of_beq q.1.1;have q2:sIx items.size items.size hi - sIx items.size 0 lo=items.size:=eq_of_beq q.2;exact hw ⟨by omega,by omega⟩
 show wpAny _ _ (if (((sIx items.size 0 lo:Nat):Int)==0&&(1:Int)==1&&(sIx items.size items.size hi - sIx items.size 0 lo)==items.size)=true then _ else _) _ _ s;rw[if_neg hno,zsU];first
  | exact wpAny_bind (m:=Builtin.Tuple.tupleExact _) (wpAny_newObj_type (wpAny_pure ⟨_,rfl,wpAny_pure h⟩) htake)
  | exact wpAny_bind (m:=Builtin.Tuple.tupleExact _) (wpAny_newObj_type (wpAny_bind (wpAny_pure (wpAny_pure ⟨_,rfl,wpAny_pure h⟩))) htake)
  | exact wpAny_bind (wpAny_bind (m:=Builtin.Tuple.tupleExact _) (wpAny_newObj_type (wpAny_pure (wpAny_pure ⟨_,rfl,wpAny_pure h⟩)) htake))
  | exact wpAny_bind (wpAny_bind (m:=Builtin.Tuple.tupleExact _) (wpAny_newObj_type (wpAny_pure ⟨_,rfl,wpAny_pure h⟩) htake))
end
end HT
namespace L2
open PySem PySem.Spec PyProof.Rows
abbrev TO:=St->Hp->(Option Int->Hp->Prop)->Prop
def PO(X:Cx)(e:Option Expr)(t:TO):Prop :=
 ∀(pins:List (Addr×Obj)) (s:Shared) (σ:St) (H:Hp) (Q:Option Int->Hp->Prop),Inv X pins σ H s->t σ H Q ->
  wpAny (model X.prog X.w) X.A (evalPart e X.env) (fun u s'=>∃o H',Inv X pins σ H' s'/\IsPart u o/\Q o H') X.xe s
def zms:TO:=fun _ H Q=>Q none H
def zs4(t:TE):TO:=fun σ H Q=>t σ H fun x H1=>∃i,x= .int i/\Q (some i) H1
theorem intsAre_of{ns:List Int}:∀{us:List Value},Vals (ns.map V.int) us->IntsAre us ns:=by
 induction ns with
 | nil=>intro us r;rw[List.map_nil] at r;cases r;exact .nil
 | cons n ns ih =>
  intro us r;rw[List.map_cons] at r;cases r with
  | cons r1 r2 =>
   obtain⟨t,e⟩:=r1;subst e;exact .cons n t (ih r2)
section
variable{X:Cx}{e:Expr}{te:TE}{lo hi:Option Expr}{tl th:TO}{pos p2:Pos}
theorem zvy:PO X none zms:=by
 intro pins s σ H Q I h;rw[evalPart_none];exact wpAny_pure ⟨none,H,I, .none,h⟩
theorem zuN(h:PE X e te):PO X (some e) (zs4 te):=by
 intro pins s σ H Q I hw;rw[evalPart_some];refine thn (h pins s σ H _ I hw) fun u s1 ⟨x,H1,I1,r1,q1⟩=>?_
 obtain⟨i,rfl,q⟩:=q1;obtain⟨t,rfl⟩:=r1;exact⟨some i,H1,I1, .int i t,q⟩
def SlR(X:Cx)(r:V->Option Int->Option Int->Hp->VK->Prop):Prop :=
 ∀(pins:List (Addr×Obj)) (s:Shared) (σ:St) (H:Hp) (x:V) (v vl vu:Value) (lo hi:Option Int) (sl:Addr) (Q:VK),Inv X pins σ H s->RelV x v->s.heap.IsSliceOf sl vl vu .none->IsPart vl lo->IsPart vu hi->r x lo hi H Q ->
  ∃T id,typeLookup (.type T) "__getitem__"=pure (some (.builtin id))/\s.TypeIs v T/\wpAny (model X.prog X.w) X.A (getItem v (.ref sl)) (EP X pins σ Q) X.xe s
theorem SlR.or{r r':V->Option Int->Option Int->Hp->VK->Prop}(h:SlR X r)(h':SlR X r'):SlR X (fun x lo hi H Q=>r x lo hi H Q\/r' x lo hi H Q):=by
 intro pins s σ H x v vl vu lo hi sl Q I rx hs pl pu q;rcases q with q | q
 .exact h pins s σ H x v vl vu lo hi sl Q I rx hs pl pu q
 .exact h' pins s σ H x v vl vu lo hi sl Q I rx hs pl pu q
def tSl(r:V->Option Int->Option Int->Hp->VK->Prop)(te:TE)(tl th:TO):TE:=fun σ H Q=>te σ H fun x H1=>tl σ H1 fun l H2=>th σ H2 fun u H3=>r x l u H3 Q
theorem zr2{r:V->Option Int->Option Int->Hp->VK->Prop}(hr:SlR X r)(he:PE X e te)(hl:PO X lo tl)(hu:PO X hi th):PE X (.Subscript e (.Slice lo hi none p2) pos) (tSl r te tl th):=by
 intro pins s σ H Q I h;refine Subscript_ (thn (he pins s σ H _ I h) fun v s1 ⟨x,H1,I1,r1,q1⟩=>?_);refine wpAny_Slice (thn (hl pins s1 σ H1 _ I1 q1) fun vl s2 ⟨l,H2,I2,pl,q2⟩=>thn (hu pins s2 σ H2 _ I2 q2) fun vu s3 ⟨u,H3,I3,pu,q3⟩=>?_);rw[evalPart_none];refine wpAny_pure ?_;have I4:Inv X pins σ H3 { s3 with heap:=s3.heap.push { cls:= .type "slice",data:= .fields #[vl,vu, .none] } }:=I3.kept (t':=s3.toks) fun b ob q=>Heap.get?_push_of_some _ q
 obtain⟨T,id,hT,ht,hg⟩:=hr pins { s3 with heap:=s3.heap.push { cls:= .type "slice",data:= .fields #[vl,vu, .none] } } σ H3 x v vl vu l u s3.heap.objs.size Q I4 r1 (Heap.IsSliceOf.new ..) pl pu q3;show wpAny (model X.prog X.w) X.A (subscriptTail e (.Slice lo hi none p2) v (.ref s3.heap.objs.size)) (EP X pins σ Q) X.xe { s3 with heap:=s3.heap.push { cls:= .type "slice",data:= .fields #[vl,vu, .none] } };exact tail_any (ops:=[.ref s3.heap.objs.size,v]) ht hT hg (by with_unfolding_all rfl)
def ziB(xs:List V)(lo hi:Option Int):List V:=(xs.drop (HT.sIx xs.length 0 lo)).take (HT.sIx xs.length xs.length hi - HT.sIx xs.length 0 lo)
theorem zh1(xs:List V)(lo hi:Option Int):(ziB xs lo hi).length<=xs.length:=by
 unfold ziB;rw[List.length_take,List.length_drop];omega
def zzo(K:Frag):V->Option Int->Option Int->Hp->VK->Prop:=fun x lo hi H Q=>∃a xs,x= .ref a/\SqT K H a xs /\
 ¬ (HT.sIx xs.length 0 lo=0/\HT.sIx xs.length xs.length hi=xs.length)/\∀p,H p=none->Q (.ref p) (upd H p (.tup (ziB xs lo hi)))
theorem zxd:SlR X (zzo X.K):=by
 intro pins s σ H x v vl vu lo hi sl Q I rx hs pl pu h;obtain⟨a,xs,rfl,hx,hw,q⟩:=h;cases rx;obtain⟨its,r,ht,hz⟩:=I.tuple hx;have hlen:its.toArray.size=xs.length:=by rw[List.size_toArray];exact r.length.symm
 refine⟨"tuple",_,PyProof.Rows.slot_tuple_getitem.lookup,ht.typeIs,?_⟩;refine HT.zgo ht hs pl pu (by rw[hlen];exact hw) ?_ (by rw[hlen];exact hz);rw[hlen];refine⟨.ref s.heap.objs.size,_,I.laid (t':=s.toks) (o:= .tup (ziB xs lo hi)) (fun b ob q=>Heap.get?_push_of_some _ q) (Nat.le_refl _) ?_,rfl,q _ (I.hok.fresh (Nat.le_refl _))⟩;exact⟨Nat.le_trans (zh1 xs lo hi) hz,_,(r.drop (HT.sIx xs.length 0 lo)).take (HT.sIx xs.length xs.length hi - HT.sIx xs.length 0 lo),IsTup.new _ _⟩
def zv9(K:Frag):R2:=fun x y H Q=>∃a b xs ys,x= .ref a/\y= .ref b/\SqT K H a xs/\SqT K H b ys/\xs≠[]/\xs.length+ys.length<=sizeLine /\
 (ys=[]->Q (.ref a) H)/\(ys≠[]->∀p,H p=none->Q (.ref p) (upd H p (.tup (xs++ys))))
theorem Vals.nil_iff{xs:List V}{us:List Value}(r:Vals xs us):us=[]↔xs=[]:=by
 cases r with
 | nil=>simp
 | cons _ _=>simp
theorem zvn:OpR X (binaryOp .Add) (zv9 X.K):=by
 intro pins s σ H x y v u Q I rx ry h;obtain⟨a,b,xs,ys,rfl,rfl,ha,hb,hx,hz,q1,q2⟩:=h;cases rx;cases ry;obtain⟨its,r1,p1,_⟩:=I.tuple ha;obtain⟨its2,r2,p2,_⟩:=I.tuple hb;refine HT.zvQ p1 p2 (fun z=>hx (r1.nil_iff.mp z)) (fun z=>⟨.ref a,H,I,rfl,q1 (r2.nil_iff.mp z)⟩) (fun z=>?_) (by rw[<- r1.length,<- r2.length];exact hz);refine⟨.ref s.heap.objs.size,_,I.laid (t':=s.toks) (o:= .tup (xs++ys)) (fun b ob q=>Heap.get?_push_of_some _ q) (Nat.le_refl _) ?_,rfl,q2 (fun w=>z (r2.nil_iff.mpr w)) _ (I.hok.fresh (Nat.le_refl _))⟩;exact⟨by rw[List.length_append];exact hz,_,r1.append r2,IsTup.new _ _⟩
end
def ixN(n:Nat)(i:Int):Option Nat:=if 0<=i then(if i < n then some i.toNat else none) else if -(n:Int)<=i then some (i+n).toNat else none
def atI{α:Type}(xs:List α)(i:Int):Option α:=(ixN xs.length i).bind fun j=>xs[j]?
theorem zp7{n:Nat}{i:Int}{j:Nat}(h:ixN n i=some j):seqIndex? i n=some j/\j < n/\ -(n:Int)<=i/\i < n:=by
 unfold ixN at h;by_cases h0:0<=i
 .rw[if_pos h0] at h;by_cases h1:i < n
  .rw[if_pos h1] at h;have e:i.toNat=j:=Option.some.inj h;exact⟨by rw[seqIndex_of h0 h1,e],by omega,by omega,h1⟩
  .rw[if_neg h1] at h;cases h
 .rw[if_neg h0] at h;by_cases h1: -(n:Int)<=i
  .rw[if_pos h1] at h;have e:(i+n).toNat=j:=Option.some.inj h;exact⟨by rw[seqIndex_neg (by omega) h1,e],by omega,h1,by omega⟩
  .rw[if_neg h1] at h;cases h
theorem zlT{α:Type}{xs:List α}{i:Int}{v:α}(h:atI xs i=some v):∃j,seqIndex? i xs.length=some j/\xs[j]? = some v/\j < xs.length/\ -(xs.length:Int)<=i/\i < xs.length:=by
 unfold atI at h;cases e:ixN xs.length i with
 | none=>rw[e] at h;cases h
 | some j =>
  rw[e] at h;obtain⟨h1,h2,h3,h4⟩:=zp7 e;exact⟨j,h1,h,h2,h3,h4⟩
theorem zbb{α:Type}{xs:List α}{j:Nat}{v:α}(h:xs[j]? = some v):atI xs (j:Int)=some v:=by
 have hj:j < xs.length:=(List.getElem?_eq_some_iff.mp h).1;have e:ixN xs.length (j:Int)=some j:=by
  unfold ixN;rw[if_pos (by omega),if_pos (by omega)];simp
 unfold atI;rw[e];exact h
theorem zm5{α:Type}(xs:List α)(v:α):atI (xs++[v]) (-1)=some v:=by
 have hl:(xs++[v]).length=xs.length+1:=by simp
 have e:ixN (xs++[v]).length (-1)=some xs.length:=by
  unfold ixN;rw[hl,if_neg (by decide),if_pos (by omega)];congr 1
  omega
 unfold atI;rw[e];show(xs++[v])[xs.length]? = some v;simp
def zlX(b:Expr):Prop:=∀o i,subscripted b false o i=operate [o,i] (getItem o i)
def IxR(X:Cx)(r:R2):Prop :=
 ∀(value slice:Expr) (pins:List (Addr×Obj)) (s:Shared) (σ:St) (H:Hp) (x y:V) (v u:Value) (Q:VK),Inv X pins σ H s->RelV x v->RelV y u->r x y H Q ->
  subscripted slice false v u=operate [v,u] (getItem v u)->wpAny (model X.prog X.w) X.A (subscriptTail value slice v u) (EP X pins σ Q) X.xe s
def MtR(X:Cx)(id:String)(r:V->List V->Hp->VK->Prop):Prop :=
 ∀(pins:List (Addr×Obj)) (s:Shared) (σ:St) (H:Hp) (x:V) (xs:List V) (v:Value) (us:List Value) (Q:VK),Inv X pins σ H s->RelV x v->Vals xs us->r x xs H Q ->
  wpAny (model X.prog X.w) X.A (call (.builtin id) (v::us)) (EP X pins σ Q) X.xe s
section
variable{X:Cx}{a b:Expr}{ta tb:TE}{pos:Pos}
theorem IxR.or{r r':R2}(h:IxR X r)(h':IxR X r'):IxR X (fun x y H Q=>r x y H Q\/r' x y H Q):=by
 intro value slice pins s σ H x y v u Q I rx ry q hs;rcases q with q | q
 .exact h value slice pins s σ H x y v u Q I rx ry q hs
 .exact h' value slice pins s σ H x y v u Q I rx ry q hs
theorem zzP{r:R2}(hr:IxR X r)(ha:PE X a ta)(hb:PE X b tb)(hs:zlX b):PE X (.Subscript a b pos) (tOp r ta tb):=by
 intro pins s σ H Q I h;exact Subscript_ (zwO ha hb I h fun v u s2 x y H2 I2 rx ry q=>hr a b pins s2 σ H2 x y v u Q I2 rx ry q (hs _ _))
def zjD(K:Frag):R2:=fun x y H Q=>∃p xs i v,x= .ref p/\y= .int i/\SqL K H p xs/\atI xs i=some v/\Q v H
def zyL(K:Frag):R2:=fun x y H Q=>∃p xs i v,x= .ref p/\y= .int i/\SqT K H p xs/\atI xs i=some v/\Q v H
def zzq:R2:=fun x y H Q=>∃z i c,x= .str z/\y= .int i/\z.length<=sizeLine/\atI z.cps.toList i=some c/\Q (.str ⟨#[c]⟩) H
theorem zpW:IxR X (zjD X.K):=by
 intro value slice pins s σ H x y v u Q I rx ry h hs;obtain⟨p,xs,i,z,rfl,rfl,hq,he,q⟩:=h;cases rx;obtain⟨t,rfl⟩:=ry;obtain⟨its,r,pl,hz⟩:=I.list hq;obtain⟨j,h1,h2,h3,h4,h5⟩:=zlT he;obtain⟨w,ew,rw'⟩:=r.get h2;have hl:=r.length;have hn:=zhu;have fin:EP X pins σ Q w s:=⟨z,H,I,rw',q⟩;by_cases h0:0<=i
 .have hj:i.toNat=j:=by
   rw[seqIndex_of h0 h5] at h1;exact Option.some.inj h1
  exact item_listR pl.isList h0 (by omega) (by rw[hj];simpa using ew) fin hs
 .have hj:(i+(its.toArray.size:Int)).toNat=j:=by
   rw[seqIndex_neg (by omega) h4] at h1;rw[List.size_toArray,<- hl];exact Option.some.inj h1
  exact subscriptTail_builtinR (x:=w) pl.isList.typeIs slot_list_getitem.lookup
   (wpAny_getItem_list_neg (Q:=fun r s'=>r=w/\EP X pins σ Q r s') pl.isList (by omega) (by rw[List.size_toArray]<;>omega) (by omega) (by rw[hj];simpa using ew) ⟨rfl,fin⟩) hs
theorem zxN:IxR X (zyL X.K):=by
 intro value slice pins s σ H x y v u Q I rx ry h hs;obtain⟨p,xs,i,z,rfl,rfl,hq,he,q⟩:=h;cases rx;obtain⟨t,rfl⟩:=ry;obtain⟨its,r,pl,hz⟩:=I.tuple hq;obtain⟨j,h1,h2,h3,h4,h5⟩:=zlT he;obtain⟨w,ew,rw'⟩:=r.get h2;have hl:=r.length;have hn:=zhu;have fin:EP X pins σ Q w s:=⟨z,H,I,rw',q⟩;exact subscriptTail_builtinR (x:=w) pl.typeIs slot_tuple_getitem.lookup
  (getItem_tuple (j:=j) (Q:=fun r s'=>r=w/\EP X pins σ Q r s') pl (by omega) (by omega) (by rw[List.size_toArray,<- hl];exact h1) (by simpa using ew) ⟨rfl,fin⟩) hs
theorem zyd:IxR X zzq:=by
 intro value slice pins s σ H x y v u Q I rx ry h hs;obtain⟨z,i,c,rfl,rfl,hz,he,q⟩:=h;obtain⟨t,rfl⟩:=rx;obtain⟨t',rfl⟩:=ry;obtain⟨j,h1,h2,h3,h4,h5⟩:=zlT he;have hl:z.cps.toList.length=z.length:=by simp[Str.length]
 rw[hl] at h1 h4 h5;have hn:=zhu;exact tail_any (typeIs_str s z t) slot_str_getitem.lookup (getItem_str (c:=c) (by
  have e1:decide (i < -(2^63:Int))=false:=decide_eq_false (by omega);have e2:decide (i ≥ 2^63)=false:=decide_eq_false (by omega);rw[e1,e2,Bool.or_false]) (by rw[h1];simpa using h2) ⟨.str ⟨#[c]⟩,H,I.tok _,⟨_,rfl⟩,q⟩) hs
def rIx(K:Frag):R2:=fun x y H Q=>zjD K x y H Q\/zyL K x y H Q\/zzq x y H Q
theorem zxZ:IxR X (rIx X.K):=zpW.or (zxN.or zyd)
theorem zoJ(its:List Value)(n j:Nat)(u:Value):Obj.mapSeq (·.setIfInBounds j u) { cls:= .type "list",data:= .seq its.toArray n }={ cls:= .type "list",data:= .seq (its.set j u).toArray n }:=by
 simp[Obj.mapSeq]
theorem Inv.lst{pins:List (Addr×Obj)}{σ:St}{H:Hp}{s:Shared}{p:Addr}{xs:List V}(I:Inv X pins σ H s)(h:H p=some (.lst xs)) :
  ∃(its:List Value) (n:Nat),Vals xs its/\s.heap.get? p=some { cls:= .type "list",data:= .seq its.toArray n }/\xs.length<=sizeLine:=by
 obtain⟨z,its,n,r,e⟩:=I.hok p _ h;exact⟨its,n,r,e,z⟩
theorem Inv.lstUpd{pins:List (Addr×Obj)}{σ:St}{H:Hp}{s:Shared}{p:Addr}{xs ys:List V}{its its':List Value}{n n':Nat}{f:Obj->Obj}(I:Inv X pins σ H s)(h:H p=some (.lst xs))
  (ho:s.heap.get? p=some { cls:= .type "list",data:= .seq its.toArray n })(hf:f { cls:= .type "list",data:= .seq its.toArray n }={ cls:= .type "list",data:= .seq its'.toArray n' })(r:Vals ys its')(hz:ys.length<=sizeLine)(t:Nat) :
  Inv X pins σ (upd H p (.lst ys)) { s with heap:=s.heap.update p f,toks:=t }:=by
 have e:(s.heap.update p f).get? p=some { cls:= .type "list",data:= .seq its'.toArray n' }:=by
  rw[Heap.get?_update_self f ho (by rw[hf]<;>rfl),hf]
 refine I.write (x:=p) (e:=p) (by rw[h];trivial) (.inl rfl) (fun b u hb q=>(Heap.get?_update_other _ _ (Ne.symm hb)).trans q) ⟨_,e⟩ ?_;exact⟨hz,its',n',r,e⟩
def ziw:V->V->V->Hp->(Hp->Prop)->Prop:=fun o i v H Q=>∃p xs k j,o= .ref p/\i= .int k/\H p=some (.lst xs)/\ixN xs.length k=some j/\Q (upd H p (.lst (xs.set j v)))
theorem set_list:zym X ziw:=by
 intro pins s σ H o i v ov iv u Q I ro ri rv h;obtain⟨p,xs,k,j,rfl,rfl,hp,hj,q⟩:=h;cases ro;obtain⟨t,rfl⟩:=ri;obtain⟨its,n,r,ho,hz⟩:=I.lst hp;obtain⟨h1,h2,h3,h4⟩:=zp7 hj;have hl:=r.length;have hn:=zhu;have I':Inv X pins σ (upd H p (.lst (xs.set j v))) { s with heap:=s.heap.update p (Obj.mapSeq (·.setIfInBounds j u)) } :=
  I.lstUpd hp ho (zoJ its n j u) (r.set rv j) (by rw[List.length_set];exact hz) s.toks
 by_cases h0:0<=k
 .have hk:k.toNat=j:=by
   rw[seqIndex_of h0 h4] at h1;exact Option.some.inj h1
  exact PySem.W.ki_setAt ho h0 (by omega) (by rw[List.size_toArray,<- hl];exact h4) (by rw[hk];exact⟨_,I',q⟩)
 .have hk:(k+(its.toArray.size:Int)).toNat=j:=by
   rw[seqIndex_neg (by omega) h3] at h1;rw[List.size_toArray,<- hl];exact Option.some.inj h1
  exact PySem.W.ki_setBack ho (by omega) (by rw[List.size_toArray,<- hl];exact h3) (by omega) (by rw[hk];exact⟨_,I',q⟩)
theorem zma(lo hi:Option Int)(n:Nat):(sliceBounds lo hi none n).1=((HT.sIx n 0 lo:Nat):Int)/\(sliceBounds lo hi none n).2.1=((HT.sIx n n hi:Nat):Int)/\(sliceBounds lo hi none n).2.2=1:=by
 refine⟨?_,?_,rfl⟩
 .cases lo with
  | none=>simp[sliceBounds,HT.sIx]
  | some i =>
   simp only[sliceBounds,HT.sIx,Option.getD_none,show(1:Int) > 0 by decide,if_true];by_cases h:i < 0
   .simp only[h,if_true]<;>omega
   .simp only[h,if_false]<;>omega
 .cases hi with
  | none=>simp[sliceBounds,HT.sIx]
  | some i =>
   simp only[sliceBounds,HT.sIx,Option.getD_none,show(1:Int) > 0 by decide,if_true];by_cases h:i < 0
   .simp only[h,if_true]<;>omega
   .simp only[h,if_false]<;>omega
theorem zky(its:List Value)(lo hi:Option Int):slicePick its.toArray lo hi none=((its.drop (HT.sIx its.length 0 lo)).take (HT.sIx its.length its.length hi - HT.sIx its.length 0 lo)).toArray:=by
 obtain⟨h1,h2,h3⟩:=zma lo hi its.toArray.size;unfold slicePick;rw[h1,h2,h3];simp only[sliceRange_one,pick_run,List.size_toArray]<;>rfl
def zxq(K:Frag):V->Option Int->Option Int->Hp->VK->Prop:=fun x lo hi H Q=>∃a xs,x= .ref a/\SqL K H a xs/\∀p,H p=none->Q (.ref p) (upd H p (.lst (ziB xs lo hi)))
theorem zpH:SlR X (zxq X.K):=by
 intro pins s σ H x v vl vu lo hi sl Q I rx hs pl pu h;obtain⟨a,xs,rfl,hx,q⟩:=h;cases rx;obtain⟨its,r,ht,hz⟩:=I.list hx;have hlen:=r.length;refine⟨"list",_,slot_list_getitem.lookup,ht.isList.typeIs,?_⟩;refine wpAny_getItem_list_slice ht.isList hs pl pu .none (by simp) ?_ (by rw[List.size_toArray]<;>omega);rw[zky,<- hlen];refine⟨.ref s.heap.objs.size,_,I.laid (t':=s.toks) (o:= .lst (ziB xs lo hi)) (fun b ob q=>Heap.get?_push_of_some _ q) (Nat.le_refl _) ?_,rfl,q _ (I.hok.fresh (Nat.le_refl _))⟩;exact⟨Nat.le_trans (zh1 xs lo hi) hz,_,0,(r.drop (HT.sIx xs.length 0 lo)).take (HT.sIx xs.length xs.length hi - HT.sIx xs.length 0 lo),Heap.get?_push_size _ rfl⟩
def zfH:V->Bool
 | .non=>true
 | .bl _=>true
 | .int _=>true
 | .str _=>true
 | _=>false
def eqV:V->V->Bool
 | .non, .non=>true
 | .bl a, .bl b=>a==b
 | .bl a, .int b=>(if a then 1 else 0)==b
 | .int a, .bl b=>a==(if b then 1 else 0)
 | .int a, .int b=>a==b
 | .str a, .str b=>a==b
 | _,_=>false
theorem zyw{A:Around}{s:Shared}{y x:V}{u v:Value}(ry:RelV y u)(rx:RelV x v)(fy:zfH y=true)(fx:zfH x=true):SeqAt.EqAt A s u v (eqV y x):=by
 cases y with
 | non =>
  cases ry;cases x with
  | non=>cases rx;exact SeqAt.EqAt.same _
  | bl b=>cases rx;exact SeqAt.EqAt.none_bool b
  | int b=>obtain⟨t,rfl⟩:=rx;exact SeqAt.EqAt.none_int b t
  | str b=>obtain⟨t,rfl⟩:=rx;exact SeqAt.EqAt.none_str b t
  | _=>exact absurd (show false=true from fx) Bool.false_ne_true
 | bl a =>
  cases ry;cases x with
  | non=>cases rx;exact SeqAt.EqAt.bool_none a
  | bl b=>cases rx;exact SeqAt.EqAt.bool_bool a b
  | int b=>obtain⟨t,rfl⟩:=rx;exact SeqAt.EqAt.bool_int a b t
  | str b=>obtain⟨t,rfl⟩:=rx;exact SeqAt.EqAt.bool_str a b t
  | _=>exact absurd (show false=true from fx) Bool.false_ne_true
 | int a =>
  obtain⟨t',rfl⟩:=ry;cases x with
  | non=>cases rx;exact SeqAt.EqAt.int_none a t'
  | bl b=>cases rx;exact SeqAt.EqAt.int_bool a t' b
  | int b=>obtain⟨t,rfl⟩:=rx;exact SeqAt.EqAt.int_int a t' b t
  | str b=>obtain⟨t,rfl⟩:=rx;exact SeqAt.EqAt.int_str a t' b t
  | _=>exact absurd (show false=true from fx) Bool.false_ne_true
 | str a =>
  obtain⟨t',rfl⟩:=ry;cases x with
  | non=>cases rx;exact SeqAt.EqAt.str_none a t'
  | bl b=>cases rx;exact SeqAt.EqAt.str_bool a t' b
  | int b=>obtain⟨t,rfl⟩:=rx;exact SeqAt.EqAt.str_int a t' b t
  | str b=>obtain⟨t,rfl⟩:=rx;exact SeqAt.EqAt.str_str a t' b t
  | _=>exact absurd (show false=true from fx) Bool.false_ne_true
 | _=>exact absurd (show false=true from fy) Bool.false_ne_true
def eqU(x:V)(u:Value):Bool:=match u with
 | .none=>eqV .non x
 | .bool b=>eqV (.bl b) x
 | .int i _=>eqV (.int i) x
 | .str z _=>eqV (.str z) x
 | _=>false
theorem zr1{x y:V}{u:Value}(r:RelV y u)(f:zfH y=true):eqU x u=eqV y x:=by
 cases y with
 | non=>cases r;rfl
 | bl b=>cases r;rfl
 | int i=>obtain⟨t,rfl⟩:=r;rfl
 | str z=>obtain⟨t,rfl⟩:=r;rfl
 | _=>exact absurd (show false=true from f) Bool.false_ne_true
theorem zgs{x:V}:∀{xs:List V} {us:List Value},Vals xs us->xs.all zfH=true->us.any (eqU x)=xs.any fun y=>eqV y x
 | _,_, .nil,_=>rfl
 | y::xs,u::us, .cons r t,f=>by
  rw[List.all_cons,Bool.and_eq_true] at f;rw[List.any_cons,List.any_cons,zr1 r f.1,zgs t f.2]
theorem zeM{A:Around}{s:Shared}{x:V}{v:Value}(rx:RelV x v)(fx:zfH x=true):∀{xs:List V} {us:List Value},Vals xs us->xs.all zfH=true->∀u∈us,SeqAt.EqAt A s u v (eqU x u)
 | _,_, .nil,_=>fun u hu=>by cases hu
 | y::xs,u::us, .cons r t,f=>fun u' hu=>by
  rw[List.all_cons,Bool.and_eq_true] at f;rcases List.mem_cons.mp hu with rfl | hu
  .rw[zr1 r f.1];exact zyw r rx f.1 fx
  .exact zeM rx fx t f.2 u' hu
def inV(x:V)(xs:List V):Bool:=xs.any fun y=>eqV y x
def rIn(K:Frag)(neg:Bool):R2:=fun x y H Q=>∃p xs,y= .ref p/\(SqL K H p xs\/SqT K H p xs)/\zfH x=true/\xs.all zfH=true/\Q (.bl (if neg then !inV x xs else inV x xs)) H
theorem zrl:OpR X (compareOp .In) (rIn X.K false):=by
 intro pins s σ H x y v u Q I rx ry h;obtain⟨p,xs,rfl,hq,fx,fs,q⟩:=h;cases ry;rcases hq with hq | hq
 .obtain⟨its,r,pl,hz⟩:=I.list hq;refine SeqAt.in_listAt (eqU x) pl.isList (fun w hw=>zeM rx fx r fs w (by simpa using hw)) ⟨.bl _,H,I,rfl,?_⟩;rw[show its.toArray.any (eqU x)=its.any (eqU x) by simp,zgs r fs];exact q
 .obtain⟨its,r,pl,hz⟩:=I.tuple hq;refine SeqAt.in_tupleAt (eqU x) pl (fun w hw=>zeM rx fx r fs w (by simpa using hw)) ⟨.bl _,H,I,rfl,?_⟩;rw[show its.toArray.any (eqU x)=its.any (eqU x) by simp,zgs r fs];exact q
theorem zmc:OpR X (compareOp .NotIn) (rIn X.K true):=by
 intro pins s σ H x y v u Q I rx ry h;obtain⟨p,xs,rfl,hq,fx,fs,q⟩:=h;cases ry;rcases hq with hq | hq
 .obtain⟨its,r,pl,hz⟩:=I.list hq;refine SeqAt.notIn_listAt (eqU x) pl.isList (fun w hw=>zeM rx fx r fs w (by simpa using hw)) ⟨.bl _,H,I,rfl,?_⟩;rw[show its.toArray.any (eqU x)=its.any (eqU x) by simp,zgs r fs];exact q
 .obtain⟨its,r,pl,hz⟩:=I.tuple hq;refine SeqAt.notIn_tupleAt (eqU x) pl (fun w hw=>zeM rx fx r fs w (by simpa using hw)) ⟨.bl _,H,I,rfl,?_⟩;rw[show its.toArray.any (eqU x)=its.any (eqU x) by simp,zgs r fs];exact q
theorem zgK:zN X (.builtin "len") (fun xs H Q=>∃p ys,xs=[.ref p]/\(SqL X.K H p ys\/SqT X.K H p ys)/\Q (.int ys.length) H):=by
 intro pins s σ H xs us Q I r h;obtain⟨p,ys,rfl,hq,q⟩:=h;obtain⟨u,rfl,rx⟩:=vals1 r;cases rx;have hn:=zhu;rcases hq with hq | hq
 .obtain⟨its,r',pl,hz⟩:=I.list hq;have hlen:=r'.length;exact Calls.call_len_list pl.isList (by simp only[List.size_toArray]<;>omega) ⟨.int ys.length,H,I.tok _,⟨s.toks+1,by rw[List.size_toArray,hlen]⟩,q⟩
 .obtain⟨its,r',pl,hz⟩:=I.tuple hq;have hlen:=r'.length;exact len_tuple pl (by simp only[List.size_toArray]<;>omega) ⟨.int ys.length,H,I.tok _,⟨s.toks+1,by rw[List.size_toArray,hlen]⟩,q⟩
theorem zmJ:zN X (.builtin "len") (fun xs H Q=>∃z,xs=[.str z]/\z.length<=sizeLine/\Q (.int z.length) H):=by
 intro pins s σ H xs us Q I r h;obtain⟨z,rfl,hz,q⟩:=h;obtain⟨u,rfl,t,rfl⟩:=vals1 r;have hn:=zhu;exact len_str (by omega) ⟨.int z.length,H,I.tok _,⟨_,rfl⟩,q⟩
theorem zN.or{f:Value}{r r':List V->Hp->VK->Prop}(h:zN X f r)(h':zN X f r'):zN X f (fun xs H Q=>r xs H Q\/r' xs H Q):=by
 intro pins s σ H xs us Q I rs q;rcases q with q | q
 .exact h pins s σ H xs us Q I rs q
 .exact h' pins s σ H xs us Q I rs q
theorem zl0:zN X (.type "list") (fun xs H Q=>∃p ys,xs=[.ref p]/\(SqL X.K H p ys\/SqT X.K H p ys)/\∀l,H l=none->Q (.ref l) (upd H l (.lst ys))):=by
 intro pins s σ H xs us Q I r h;obtain⟨p,ys,rfl,hq,q⟩:=h;obtain⟨u,rfl,rx⟩:=vals1 r;cases rx;have fin:∀(its:List Value),Vals ys its->ys.length<=sizeLine->∀(h':Heap) (c':Nat),(∀b o',s.heap.get? b=some o'->h'.get? b=some o') ->
   h'.get? s.heap.objs.size=some { cls:= .type "list",dict:=none,data:= .seq its.toArray c',slots:= #[] }->EP X pins σ Q (.ref s.heap.objs.size) { s with heap:=h' }:=fun its r' hz h' c' kp e =>
  ⟨.ref s.heap.objs.size,_,I.laid (t':=s.toks) kp (Nat.le_refl _) (show zaF X.prog X.w _ h' _ (.lst ys) from ⟨hz,its,c',r',e⟩),rfl,q _ (I.hok.fresh (Nat.le_refl _))⟩
 rcases hq with hq | hq
 .obtain⟨its,r',pl,hz⟩:=I.list hq;have hlen:=r'.length;obtain⟨o,ho,hc,n,hd⟩:=pl.isList;exact call_list_seq p (.inl rfl) ho hc hd (fun h' c' kp e=>fin its r' hz h' c' kp e) (by simp only[List.size_toArray]<;>omega)
 .obtain⟨its,r',pl,hz⟩:=I.tuple hq;have hlen:=r'.length;obtain⟨o,ho,hc,n,hd⟩:=pl;exact call_list_seq p (.inr rfl) ho hc hd (fun h' c' kp e=>fin its r' hz h' c' kp e) (by simp only[List.size_toArray]<;>omega)
theorem zkI:zN X (.type "tuple") (fun xs H Q=>∃p ys,xs=[.ref p]/\((SqL X.K H p ys/\∀l,H l=none->Q (.ref l) (upd H l (.tup ys)))\/(SqT X.K H p ys/\Q (.ref p) H))):=by
 intro pins s σ H xs us Q I r h;obtain⟨p,ys,rfl,h⟩:=h;obtain⟨u,rfl,rx⟩:=vals1 r;cases rx;rcases h with⟨hq,q⟩ | ⟨hq,q⟩
 .obtain⟨its,r',pl,hz⟩:=I.list hq;have hlen:=r'.length;refine call_tuple_list pl.isList (fun h' kp=>?_) (by simp only[List.size_toArray]<;>omega);have I1:Inv X pins σ H { s with heap:=h' }:=I.kept (t':=s.toks) kp;have I2:Inv X pins σ (upd H h'.objs.size (.tup ys)) { s with heap:=h'.push { cls:= .type "tuple",data:= .seq its.toArray } } :=
   I1.laid (t':=s.toks) (fun b o e=>Heap.get?_push_of_some _ e) (Nat.le_refl _) (show zaF X.prog X.w _ _ _ (.tup ys) from ⟨hz,its,r',IsTup.new _ _⟩)
  exact⟨.ref h'.objs.size,_,I2,rfl,q _ (I1.hok.fresh (Nat.le_refl _))⟩
 .obtain⟨its,r',pl,hz⟩:=I.tuple hq;exact call_tuple_same pl ⟨.ref p,H,I,rfl,q⟩
def tyV(K:Frag)(T:String)(x:V)(H:Hp):Prop:=match x with
 | .str _=>T="str"
 | .int _=>T="int"
 | .ref p=>(T="list"/\∃xs,SqL K H p xs)\/(T="tuple"/\∃o,K.lookup p=some o/\o.cls= .type "tuple"/\o.dict=none) \/
   (T="dict"/\((∃kvs,H p=some (.dK kvs))\/∃kvs,H p=some (.dT kvs)))\/(T="set"/\∃S n,H p=some (.set S n))
 | _=>False
theorem zyu{pins:List (Addr×Obj)}{σ:St}{H:Hp}{s:Shared}{T:String}{x:V}{v:Value}(I:Inv X pins σ H s)(r:RelV x v)(ty:tyV X.K T x H) :
  s.TypeIs v T/\∀a,v= .ref a->∃ob,s.heap.get? a=some ob/\ob.dict=none:=by
 cases x with
 | str z =>
  obtain⟨t,rfl⟩:=r;cases (show T="str" from ty);exact⟨typeIs_str s z t,fun _ e=>nomatch e⟩
 | int i =>
  obtain⟨t,rfl⟩:=r;cases (show T="int" from ty);exact⟨typeIs_int s i t,fun _ e=>nomatch e⟩
 | ref p =>
  cases r;rcases ty with⟨rfl,xs,hq⟩ | ⟨rfl,o,hk,hc,hd⟩ | ⟨rfl,hk⟩ | ⟨rfl,S,n,hk⟩
  .obtain⟨its,_,pl,_⟩:=I.list hq;refine⟨pl.isList.typeIs,fun a e=>?_⟩;cases e;obtain⟨o,n,e,c,hd,_⟩:=pl;exact⟨o,e,hd⟩
  .refine⟨⟨o,I.kIn p o hk,hc⟩,fun a e=>?_⟩;cases e;exact⟨o,I.kIn _ o hk,hd⟩
  .have z:∃o,s.heap.get? p=some o/\o.ExactDict:=by
    rcases hk with⟨kvs,hk⟩ | ⟨kvs,hk⟩
    .obtain⟨_,_,_,_,o,_,_,e,ex,_⟩:=I.hok p _ hk;exact⟨o,e,ex⟩
    .obtain⟨_,_,_,_,o,_,_,e,ex,_⟩:=I.hok p _ hk;exact⟨o,e,ex⟩
   obtain⟨o,e,ex⟩:=z;refine⟨⟨o,e,ex.1⟩,fun a e2=>?_⟩;cases e2;exact⟨o,e,ex.2.1⟩
  .obtain⟨o,_,_,_,e,ex,_⟩:=I.hok p _ hk;refine⟨⟨o,e,ex.1⟩,fun a e2=>?_⟩;cases e2;exact⟨o,e,ex.2.1⟩
 | _=>exact False.elim ty
def tBM(K:Frag)(T:String)(r:V->List V->Hp->VK->Prop)(to:TE)(t:TA):TE:=fun σ H Q=>to σ H fun x H1=>tyV K T x H1/\t σ H1 fun xs H2=>r x xs H2 Q
variable{o e:Expr}{es:List Expr}{to:TE}{t:TA}{name:Str}{apos cpos:Pos}{T id:String}{r:V->List V->Hp->VK->Prop}
theorem zyS(pa:PlainAttrs T)(slot:Slot T name id)(hty:typeOf (.builtin id)=pure (.type "method_descriptor"))(hm:MtR X id r)(ho:PE X o to)(ha:PA X (e::es) t)
  (hbase:attributeBase o name X.env (eval o X.env)=eval o X.env:=by rfl)
  (hfew:((backTo cpos (starEach (e::es) X.env)).all (fun x=> !x.1)&&(backToKw cpos (keywordEach [] X.env)).all (fun x=>x.1.isSome)
   && decide ((e::es).length+([]:List Keyword).length+(if ([]:List Keyword).isEmpty then 0 else 1) < 30))=true:=by rfl)
  (hline:(apos.endLine==cpos.line)=true:=by rfl) (hs:starEach (e::es) X.env=(false,eval e X.env)::starEach es X.env:=by rfl) (hplain:(backTo cpos (starEach es X.env)).any (·.1)=false:=by rfl) :
  PE X (.Call (.Attribute o name apos) (e::es) [] cpos) (tBM X.K T r to t):=by
 intro pins s σ H Q I h;refine wpAny_Call_method_late hbase hfew hline rfl (thn (ho pins s σ H _ I h) fun v s1 ⟨x,H1,I1,r1,ty,q1⟩=>?_);obtain⟨h1,h2⟩:=zyu I1 r1 ty;refine⟨T,id,pa,slot,hty,h1,h2,?_⟩;have hA:=ha cpos pins s1 σ H1 _ I1 q1;rw[hs] at hA ⊢;refine Calls.callWith_builtin (by show(false||(backTo cpos (starEach es X.env)).any (·.1))=false;rw[hplain]<;>rfl) (Calls.evalArgs_plain ?_);exact thn hA fun us s2 ⟨vs,H2,I2,r2,q2⟩=>hm pins s2 σ H2 x vs v us Q I2 r1 r2 q2
end
def MtM(X:Cx)(id:String)(r:V->List V->Hp->VK->Prop):Prop :=
 ∀(pins:List (Addr×Obj)) (s:Shared) (σ:St) (H:Hp) (x:V) (xs:List V) (v:Value) (us:List Value) (Q:VK),Inv X pins σ H s->RelV x v->Vals xs us->r x xs H Q ->
  wpAny (model X.prog X.w) X.A (call (.builtin id) (v::us)) (EP X pins σ Q) X.xe s
theorem Vals.one:∀{x:V} {us:List Value},Vals [x] us->∃u,us=[u]/\RelV x u
 | _,_, .cons r .nil=>⟨_,rfl,r⟩
theorem Vals.rep{xs:List V}{us:List Value}(h:Vals xs us):∀k:Nat,Vals (List.replicate k xs).flatten (List.replicate k us).flatten
 | 0=> .nil
 | k+1=>by
  rw[List.replicate_succ,List.replicate_succ,List.flatten_cons,List.flatten_cons];exact Vals.append h (Vals.rep h k)
theorem foldl_rep(its:List Value):∀(k:Nat) (acc:List Value),
  List.foldl (fun x1 x2=>x1++x2) acc.toArray (List.replicate k its.toArray)=(acc++(List.replicate k its).flatten).toArray
 | 0,acc=>by simp
 | k+1,acc=>by
  have e:acc.toArray++its.toArray=(acc++its).toArray:=by simp
  have e2:(acc++its)++(List.replicate k its).flatten=acc++(List.replicate (k+1) its).flatten:=by
   rw[List.replicate_succ,List.flatten_cons,List.append_assoc]
  rw[<- e2,<- foldl_rep its k (acc++its),<- e,List.replicate_succ,List.foldl_cons]
section
variable{X:Cx}{pins:List (Addr×Obj)}{σ:St}{H:Hp}{s:Shared}{l b:Addr}{xs ys zs:List V}
theorem Inv.lset{its its':List Value}{n:Nat}{f:Array Value->Array Value}{t':Nat}(I:Inv X pins σ H s)(hH:H l=some (.lst xs))
  (e:s.heap.get? l=some { cls:= .type "list",data:= .seq its.toArray n })(hf:f its.toArray=its'.toArray)(hv:Vals ys its')(hz:ys.length<=sizeLine) :
  Inv X pins σ (upd H l (.lst ys)) { s with heap:=s.heap.update l (Obj.mapSeq f),toks:=t' }:=by
 have q:=PySem.IsL.update e f;rw[hf] at q;refine I.write (x:=l) (e:=l) (by rw[hH];exact trivial) (.inl rfl) (fun b' u hb hu=>(Heap.get?_update_other s.heap (Obj.mapSeq f) (Ne.symm hb)).trans hu) ⟨_,q⟩ ?_;exact⟨hz,its',_,hv,q⟩
theorem Inv.lnew{its:List Value}{t':Nat}(I:Inv X pins σ H s)(hv:Vals ys its)(hz:ys.length<=sizeLine) :
  Inv X pins σ (upd H s.heap.objs.size (.lst ys)) { s with heap:=s.heap.push { cls:= .type "list",data:= .seq its.toArray },toks:=t' } :=
 I.laid (fun _ _ q=>Heap.get?_push_of_some _ q) (Nat.le_refl _) ⟨hz,its,0,hv,Heap.get?_push_size _ rfl⟩
theorem Inv.fresh(I:Inv X pins σ H s):H s.heap.objs.size=none:=I.hok.fresh (Nat.le_refl _)
theorem Inv.lstM(I:Inv X pins σ H s)(hH:H l=some (.lst xs)):xs.length<=sizeLine/\∃(its:List Value) (n:Nat),Vals xs its/\xs.length=its.length/\s.heap.get? l=some { cls:= .type "list",data:= .seq its.toArray n }:=by
 obtain⟨z,its,n,r,e⟩:=I.hok l _ hH;exact⟨z,its,n,r,r.length,e⟩
theorem ztl{n:Nat}(h:n<=sizeLine):Builtin.List.listTooLong n=false:=by
 unfold Builtin.List.listTooLong;exact decide_eq_false (by omega)
end
section
variable{X:Cx}
def zpL:V->List V->Hp->VK->Prop:=fun x vs H Q=>∃l xs y,x= .ref l/\vs=[y]/\H l=some (.lst xs)/\xs.length < sizeLine/\Q .non (upd H l (.lst (xs++[y])))
theorem zay:MtM X "list.append" zpL:=by
 intro pins s σ H x vs v us Q I rx rv h;obtain⟨l,xs,y,rfl,rfl,hH,hz,q⟩:=h;cases rx;obtain⟨u,rfl,ru⟩:=rv.one;obtain⟨z,its,n,r,hl,e⟩:=I.lstM hH;refine call_meets F.slot_list_append ⟨_,e,rfl⟩ F.entry_list_append (F.args_list_append_2 _ _) (PySem.list_append l its.toArray n u (by rw[List.size_toArray];omega)) ⟨e,?_⟩;refine⟨.non,_,I.lset (its':=its++[u]) hH e (by simp) (r.append (.cons ru .nil)) ?_,rfl,q⟩;rw[List.length_append,List.length_singleton];omega
def zyR:R2:=fun x y H Q=>∃l b xs zs,x= .ref l/\y= .ref b/\H l=some (.lst xs)/\H b=some (.lst zs)/\xs.length+zs.length<=sizeLine/\∀p,H p=none->Q (.ref p) (upd H p (.lst (xs++zs)))
theorem zxs:OpR X (binaryOp .Add) zyR:=by
 intro pins s σ H x y v u Q I rx ry h;obtain⟨l,b,xs,zs,rfl,rfl,hH,hB,hz,q⟩:=h;cases rx;cases ry;obtain⟨z,its,n,r,hl,e⟩:=I.lstM hH;obtain⟨z2,its2,n2,r2,hl2,e2⟩:=I.lstM hB;refine PySem.P.add_list e e2 ?_ (by rw[List.size_toArray,List.size_toArray];omega);have ea:its.toArray++its2.toArray=(its++its2).toArray:=by simp
 rw[ea];exact⟨.ref _,_,I.lnew (t':=s.toks) (r.append r2) (by rw[List.length_append];omega),rfl,q _ I.fresh⟩
def zyX:R2:=fun x y H Q=>∃l k xs,x= .ref l/\y= .int k/\H l=some (.lst xs)/\ -(2^63)<=k/\k < 2^63/\xs.length*k.toNat<=sizeLine /\
 ∀p,H p=none->Q (.ref p) (upd H p (.lst (List.replicate k.toNat xs).flatten))
theorem len_rep{α:Type}(xs:List α)(k:Nat):(List.replicate k xs).flatten.length=k*xs.length:=by
 induction k with
 | zero=>simp
 | succ k ih=>rw[List.replicate_succ,List.flatten_cons,List.length_append,ih,Nat.succ_mul,Nat.add_comm]
theorem zyi:OpR X (binaryOp .Mult) zyX:=by
 intro pins s σ H x y v u Q I rx ry h;obtain⟨l,k,xs,rfl,rfl,hH,h1,h2,hz,q⟩:=h;cases rx;obtain⟨t,rfl⟩:=ry;obtain⟨z,its,n,r,hl,e⟩:=I.lstM hH;have hlen:its.toArray.size*k.toNat<=sizeLine:=by rw[List.size_toArray,<- hl];exact hz
 have hcap:¬ its.toArray.size*k.toNat > (2^63 - 1) / 8:=by
  have:(sizeLine:Nat)<=(2^63 - 1) / 8:=by decide
  omega
 have hfit:¬ (!Builtin.List.listFitsIndex k)=true:=by
  rw[fitsIndex_both h1 h2];exact Bool.false_ne_true
 have hlong:¬ Builtin.List.listTooLong (its.toArray.size*k.toNat)=true:=by
  rw[ztl hlen];exact Bool.false_ne_true
 have hnew:List.foldl (fun x1 x2=>x1++x2) #[] (List.replicate (if its.toArray.isEmpty=true then 0 else k.toNat) its.toArray)=(List.replicate k.toNat its).flatten.toArray:=by
  have f0:∀m:Nat,List.foldl (fun x1 x2=>x1++x2) #[] (List.replicate m its.toArray)=(List.replicate m its).flatten.toArray:=fun m=>by
   have:=foldl_rep its m [];rw[List.nil_append] at this;exact this
  rw[f0];cases its with
  | nil=>simp
  | cons a r'=>rw[if_neg (by simp)]
 refine wpAny_binaryOp_repeat_ref (T:="list") (U:="int") (by decide) ⟨_,e,rfl⟩ (fun s'=>typeIs_int s' k t) noFill_list_mul F.fills_int_mul F.slot_int_rmul repeat_list F.slot_int_index.lookup
  (call_meets F.slot_int_rmul (typeIs_int s k t) F.entry_int_rmul (F.args_int_rmul_2 _ _) (int___rmul___int_list k t l its.toArray n)
   ⟨e,rfl,⟨_,e,rfl⟩,call_meets F.slot_list_mul ⟨_,e,rfl⟩ F.entry_list_mul (F.args_list_mul_2 _ _) (AutoListH.list___mul___list_int_3 l its.toArray n k t hfit hcap hlong) ⟨e,?_⟩⟩)
 rw[hnew];exact⟨.ref _,_,I.lnew (t':=s.toks) (r.rep k.toNat) (by rw[len_rep,Nat.mul_comm];exact hz),rfl,q _ I.fresh⟩
end
section
variable{prog:Program}{w:World}{A:Around}{E:Value->Shared->Prop}{s:Shared}
end
section
variable{X:Cx}
end
section
variable{κ:Type}[DecidableEq κ]
def zcG(kvs:List (κ×V))(k:κ):Option V:=(kvs.find? fun kv=>decide (kv.1=k)).map (·.2)
def putK(kvs:List (κ×V))(k:κ)(v:V):List (κ×V) :=
 if (kvs.any fun kv=>decide (kv.1=k))=true then kvs.map (fun kv=>if kv.1=k then(kv.1,v) else kv) else kvs++[(k,v)]
theorem zeJ{p:κ×V}{r:List (κ×V)}{k:κ}(e:p.1=k):zcG (p::r) k=some p.2:=by simp[zcG,List.find?_cons,e]
theorem zew{p:κ×V}{r:List (κ×V)}{k:κ}(e:¬ p.1=k):zcG (p::r) k=zcG r k:=by simp[zcG,List.find?_cons,e]
theorem znE(k:κ):∀kvs:List (κ×V),(kvs.any fun kv=>decide (kv.1=k))=(zcG kvs k).isSome
 | []=>rfl
 | p::r=>by
  rw[List.any_cons];by_cases e:p.1=k
  .simp only[zeJ e,decide_eq_true e,Bool.true_or,Option.isSome_some]
  .rw[zew e,decide_eq_false e,Bool.false_or];exact znE k r
theorem zde(kvs:List (κ×V))(k:κ)(v:V):(putK kvs k v).length<=kvs.length+1:=by
 unfold putK;split
 .rw[List.length_map];omega
 .rw[List.length_append,List.length_cons,List.length_nil];omega
theorem zfk.isSome_eq{o:Option V}{u:Option Value}(r:zfk o u):o.isSome=u.isSome:=by
 cases o with
 | none=>cases u with
  | none=>rfl
  | some _=>exact(show False from r).elim
 | some _=>cases u with
  | none=>exact(show False from r).elim
  | some _=>rfl
theorem KV.val{kvs:List (κ×V)}{vs:List (κ×Value)}(r:KV kvs vs)(k:κ):zfk (zcG kvs k) (valueAt vs k):=by
 unfold KV at r;induction r with
 | nil=>exact True.intro
 | @cons p q ps qs h t ih =>
  obtain⟨h1,h2⟩:=h;by_cases e:p.1=k
  .have e':q.1=k:=h1.symm.trans e;have b:valueAt (q::qs) k=some q.2:=by simp[valueAt,List.find?_cons,e']
   rw[zeJ e,b];exact h2
  .have e':¬ q.1=k:=fun z=>e (h1.trans z)
   have b:valueAt (q::qs) k=valueAt qs k:=by simp[valueAt,List.find?_cons,e']
   rw[zew e,b];exact ih
theorem KV.any{kvs:List (κ×V)}{vs:List (κ×Value)}(r:KV kvs vs)(k:κ):(kvs.any fun kv=>decide (kv.1=k))=vs.any fun kv=>decide (kv.1=k):=by
 unfold KV at r;induction r with
 | nil=>rfl
 | cons h t ih=>rw[List.any_cons,List.any_cons,ih,h.1]
theorem KV.repl{kvs:List (κ×V)}{vs:List (κ×Value)}(r:KV kvs vs)(k:κ){y:V}{u:Value}(ry:RelV y u) :
  KV (kvs.map fun kv=>if kv.1=k then(kv.1,y) else kv) (vs.map fun kv=>if kv.1=k then(kv.1,u) else kv):=by
 unfold KV at r ⊢;induction r with
 | nil=>exact .nil
 | @cons p q ps qs h t ih =>
  rw[List.map_cons,List.map_cons];refine .cons ?_ ih;obtain⟨h1,h2⟩:=h;by_cases e:p.1=k
  .rw[if_pos e,if_pos (h1.symm.trans e)];exact⟨h1,ry⟩
  .rw[if_neg e,if_neg (fun z=>e (h1.trans z))];exact⟨h1,h2⟩
theorem KV.put{kvs:List (κ×V)}{vs:List (κ×Value)}(r:KV kvs vs)(k:κ){y:V}{u:Value}(ry:RelV y u):KV (putK kvs k y) (stored vs k u):=by
 unfold putK stored;rw[r.any k];by_cases e:(vs.any fun kv=>decide (kv.1=k))=true
 .rw[if_pos e,if_pos e];exact r.repl k ry
 .rw[if_neg e,if_neg e];exact Paired.snoc r ⟨rfl,ry⟩
theorem KV.length{kvs:List (κ×V)}{vs:List (κ×Value)}(r:KV kvs vs):kvs.length=vs.length:=Paired.length r
end
theorem zld{P:Program}{w:World}{k:Key}{u:Value}(r:RelV (kV k) u):(zaU P w).is k u=true:=by
 cases k with
 | inl i=>obtain⟨t,e⟩:=(show ∃t,u=Value.int i t from r);subst e;exact znz P w i t
 | inr x=>obtain⟨t,e⟩:=(show ∃t,u=Value.str x t from r);subst e;exact zno P w x t
theorem zlJ{P:Program}{w:World}:∀{ks:List Key} {us:List Value},Vals (ks.map kV) us->ItemsAre (zaU P w) ks us
 | [],_,r=>by rw[List.map_nil] at r;cases r;exact .nil
 | k::ks,_,r=>by
  rw[List.map_cons] at r;cases r with
  | cons h t=>exact .cons (zld h) (zlJ t)
abbrev KT(H:Hp):List (List Key×V)->List (List Key×Addr×Value)->Prop:=Paired fun p q=>p.1=q.1/\H q.2.1=some (.tup (p.1.map kV))/\RelV p.2 q.2.2
theorem KT.val{H:Hp}{kvs:List (List Key×V)}{xs:List (List Key×Addr×Value)}(r:KT H kvs xs)(k:List Key):zfk (zcG kvs k) ((atKey xs k).map (·.2)):=by
 induction r with
 | nil=>exact True.intro
 | @cons p q ps qs h t ih =>
  obtain⟨h1,_,h2⟩:=h;by_cases e:p.1=k
  .have e':q.1=k:=h1.symm.trans e;have b:atKey (q::qs) k=some q.2:=by simp[atKey,List.find?_cons,e']
   rw[zeJ e,b];exact h2
  .have e':¬ q.1=k:=fun z=>e (h1.trans z)
   have b:atKey (q::qs) k=atKey qs k:=by simp[atKey,List.find?_cons,e']
   rw[zew e,b];exact ih
theorem KT.repl{H:Hp}{kvs:List (List Key×V)}{xs:List (List Key×Addr×Value)}(r:KT H kvs xs)(k:List Key){y:V}{u:Value}(ry:RelV y u) :
  KT H (kvs.map fun kv=>if kv.1=k then(kv.1,y) else kv) (xs.map (putAt k u)):=by
 induction r with
 | nil=>exact .nil
 | @cons p q ps qs h t ih =>
  rw[List.map_cons,List.map_cons];refine .cons ?_ ih;obtain⟨h1,h2,h3⟩:=h;unfold putAt;by_cases e:p.1=k
  .rw[if_pos e,if_pos (h1.symm.trans e)];exact⟨h1,h2,ry⟩
  .rw[if_neg e,if_neg (fun z=>e (h1.trans z))];exact⟨h1,h2,h3⟩
theorem KT.put{H:Hp}{kvs:List (List Key×V)}{xs:List (List Key×Addr×Value)}(r:KT H kvs xs)(k:List Key){b:Addr}{y:V}{u:Value}(hb:H b=some (.tup (k.map kV)))(ry:RelV y u) :
  KT H (putK kvs k y) (storedH xs k b u):=by
 have e:(kvs.any fun kv=>decide (kv.1=k))=(atKey xs k).isSome:=by
  rw[znE,(r.val k).isSome_eq,Option.isSome_map]
 unfold putK storedH;rw[e];by_cases q:(atKey xs k).isSome=true
 .rw[if_pos q,if_pos q];exact r.repl k ry
 .rw[if_neg q,if_neg q];exact Paired.snoc r ⟨rfl,hb,ry⟩
theorem KT.keeps{H H':Hp}{kvs:List (List Key×V)}{xs:List (List Key×Addr×Value)}(r:KT H kvs xs)(ht:∀b ys,H b=some (.tup ys)->H' b=some (.tup ys)):KT H' kvs xs :=
 Paired.mapP r fun _ _ z=>⟨z.1,ht _ _ z.2.1,z.2.2⟩
section
variable{P:Program}{w:World}{H:Hp}{h:Heap}{a:Addr}
theorem zwc{u:HO}(ok:HOk P w H h)(e:Rd H a u):zaF P w H h a u:=e.ok ok
theorem zi5{kvs:List (Key×V)}(ok:HOk P w H h)(e:Rd H a (.dK kvs)):kvs.length<=sizeLine/\(a==sysModules)=false/\∃vs,KV kvs vs/\h.DictOf (zaU P w) a vs :=
 show zaF P w H h a (.dK kvs) from zwc ok e
theorem zwh{kvs:List (Key×V)}(ok:HOk P w H h)(e:H a=some (.dK kvs)):kvs.length<=sizeLine/\(a==sysModules)=false/\∃vs,KV kvs vs/\h.DictOf (zaU P w) a vs:=zi5 ok (.inl e)
theorem zho{ks:List Key}(ok:HOk P w H h)(e:H a=some (.tup (ks.map kV))):(tupleKind (zaU P w)).is h ks a:=by
 obtain⟨_,its,r,o,h1,h2,n,h3⟩:=(show zaF P w H h a (.tup (ks.map kV)) from ok a _ e);exact⟨o,its.toArray,n,h1,h2,h3,by simpa using zlJ r⟩
theorem znQ{kvs:List (List Key×V)}(ok:HOk P w H h)(e:Rd H a (.dT kvs)):kvs.length<=sizeLine/\(a==sysModules)=false /\
  ∃xs,KT H kvs xs/\h.DictOfH (tupleKind (zaU P w)) a xs:=by
 obtain⟨z,y,xs,r,o,es,ep,h1,h2,h3,h4,h5⟩:=(show zaF P w H h a (.dT kvs) from zwc ok e);refine⟨z,y,xs,r,o,es,ep,h1,h2,h3,h4,fun x hx=>?_,h5⟩;have all:∀{l:List (List Key×V)} {m:List (List Key×Addr×Value)},KT H l m->∀x∈m,(tupleKind (zaU P w)).is h x.1 x.2.1:=by
  intro l m q;induction q with
  | nil=>intro x hx;exact nomatch hx
  | @cons p q ps qs hq t ih =>
   intro x hx;rcases List.mem_cons.mp hx with e | hx
   .subst e;exact zho ok (by rw[<- hq.1];exact hq.2.1)
   .exact ih x hx
 exact all r x hx
theorem zwn{kvs:List (List Key×V)}(ok:HOk P w H h)(e:H a=some (.dT kvs)):kvs.length<=sizeLine/\(a==sysModules)=false /\
  ∃xs,KT H kvs xs/\h.DictOfH (tupleKind (zaU P w)) a xs:=znQ ok (.inl e)
end
def zeY(H:Hp)(a:Addr)(y:V)(r:Option V):Prop :=
 (∃kvs k,Rd H a (.dK kvs)/\y=kV k/\r=zcG kvs k)\/∃kvs k b,Rd H a (.dT kvs)/\y= .ref b/\H b=some (.tup (k.map kV))/\r=zcG kvs k
def zkG(H:Hp)(a:Addr)(y v:V)(H':Hp):Prop :=
 (∃kvs k,H a=some (.dK kvs)/\y=kV k/\kvs.length < sizeLine/\H'=upd H a (.dK (putK kvs k v))) \/
 ∃kvs k b,H a=some (.dT kvs)/\y= .ref b/\H b=some (.tup (k.map kV))/\kvs.length < sizeLine/\H'=upd H a (.dT (putK kvs k v))
theorem zeY.t{H:Hp}{a b:Addr}{kvs:List (List Key×V)}{k:List Key}(e:H a=some (.dT kvs))(eb:H b=some (.tup (k.map kV))):zeY H a (.ref b) (zcG kvs k):= .inr ⟨kvs,k,b, .inl e,rfl,eb,rfl⟩
theorem zkG.k{H:Hp}{a:Addr}{kvs:List (Key×V)}{k:Key}{v:V}(e:H a=some (.dK kvs))(hl:kvs.length < sizeLine):zkG H a (kV k) v (upd H a (.dK (putK kvs k v))):= .inl ⟨kvs,k,e,rfl,hl,rfl⟩
theorem zkG.t{H:Hp}{a b:Addr}{kvs:List (List Key×V)}{k:List Key}{v:V}(e:H a=some (.dT kvs))(eb:H b=some (.tup (k.map kV)))(hl:kvs.length < sizeLine) :
  zkG H a (.ref b) v (upd H a (.dT (putK kvs k v))):= .inr ⟨kvs,k,b,e,rfl,eb,hl,rfl⟩
section
variable{X:Cx}{pins:List (Addr×Obj)}{σ:St}{H:Hp}{s:Shared}{a:Addr}{y v:V}{u r:Value}{o:Option V}{A:Around}{E:Value->Shared->Prop}
theorem Inv.big(I:Inv X pins σ H s):sysModules < s.heap.objs.size:=by
 have h:mainGlobals < s.heap.objs.size:=(I.mod.glob.keeps I.bk).lt;exact Nat.lt_trans (by decide) h
theorem zqw{Q:Value->Shared->Prop}(hu:A.units+1 < cLine)(I:Inv X pins σ H s)(g:zeY H a y (some v))(ry:RelV y u)(h:∀w' s',Inv X pins σ H s'->RelV v w'->Q w' s') :
  wpAny (model X.prog X.w) A (getItem (.ref a) u) Q E s:=by
 rcases g with⟨kvs,k,e,ey,l⟩ | ⟨kvs,k,b,e,ey,eb,l⟩
 .subst ey;obtain⟨z,hd,vs,rel,dd⟩:=zi5 I.hok e;obtain⟨w',hw,rw'⟩:=zfk.some_of (v:=v) (o:=valueAt vs k) (by rw[l];exact rel.val k);exact wpAny_getItem_of (zld ry) dd.mapOf hw (h w' _ (I.tok _) rw')
 .subst ey;cases (show u=Value.ref b from ry);obtain⟨z,hd,xs,rel,dd⟩:=znQ I.hok e;obtain⟨w',hw,rw'⟩:=zfk.some_of (v:=v) (o:=(atKey xs k).map (·.2)) (by rw[l];exact rel.val k);obtain⟨p,hp,hp2⟩:=Option.map_eq_some_iff.mp hw;refine wpAny_getItem_heap (tupleKind_room_in1 hu) (zho I.hok eb) dd hp ?_;rw[hp2];exact h w' _ (I.tok _) rw'
theorem zz3{Q:Value->Shared->Prop}(hu:A.units+1 < cLine)(I:Inv X pins σ H s)(g:zeY H a y o)(ry:RelV y u)(h:∀s',Inv X pins σ H s'->Q (.bool o.isSome) s') :
  wpAny (model X.prog X.w) A (compareOp .In u (.ref a)) Q E s:=by
 rcases g with⟨kvs,k,e,ey,l⟩ | ⟨kvs,k,b,e,ey,eb,l⟩
 .subst ey;obtain⟨z,hd,vs,rel,dd⟩:=zi5 I.hok e;refine wpAny_in_of (zld ry) hd dd.mapOf ?_;rw[<- (rel.val k).isSome_eq,<- l];exact h _ (I.tok _)
 .subst ey;cases (show u=Value.ref b from ry);obtain⟨z,hd,xs,rel,dd⟩:=znQ I.hok e;refine wpAny_in_heap (tupleKind_room_in1 hu) (zho I.hok eb) hd dd ?_;have q:=(rel.val k).isSome_eq;rw[Option.isSome_map] at q;rw[<- q,<- l];exact h _ (I.tok _)
theorem zvX{Q:Value->Shared->Prop}(hu:A.units+1 < cLine)(I:Inv X pins σ H s)(g:zeY H a y o)(ry:RelV y u)(h:∀s',Inv X pins σ H s'->Q (.bool (!o.isSome)) s') :
  wpAny (model X.prog X.w) A (compareOp .NotIn u (.ref a)) Q E s:=by
 rcases g with⟨kvs,k,e,ey,l⟩ | ⟨kvs,k,b,e,ey,eb,l⟩
 .subst ey;obtain⟨z,hd,vs,rel,dd⟩:=zi5 I.hok e;refine wpAny_notIn_of (zld ry) hd dd.mapOf ?_;rw[<- (rel.val k).isSome_eq,<- l];exact h _ (I.tok _)
 .subst ey;cases (show u=Value.ref b from ry);obtain⟨z,hd,xs,rel,dd⟩:=znQ I.hok e;refine wpAny_notIn_heap (tupleKind_room_in1 hu) (zho I.hok eb) hd dd ?_;have q:=(rel.val k).isSome_eq;rw[Option.isSome_map] at q;rw[<- q,<- l];exact h _ (I.tok _)
theorem ziU{h':Heap}{t':Nat}{ob:HO}(I:Inv X pins σ H s)(mu:Mut (H a))(hs:Heap.SameBut a s.heap h')(he:∃q,h'.get? a=some q)(new:zaF X.prog X.w (upd H a ob) h' a ob) :
  Inv X pins σ (upd H a ob) { s with heap:=h',toks:=t' } :=
 I.write (x:=a) (e:=a) mu (.inl rfl) (fun b q hb z=>(hs.2 b hb).trans z) he new
theorem zs6{P:Program}{w:World}{H':Hp}{h':Heap}{kvs:List (Key×V)}{vs:List (Key×Value)}(z:kvs.length<=sizeLine)(hd:(a==sysModules)=false)(rel:KV kvs vs)(dd:h'.DictOf (zaU P w) a vs) :
  zaF P w H' h' a (.dK kvs):=⟨z,hd,vs,rel,dd⟩
theorem zqA{H':Hp}{Q:Unit->Shared->Prop}(hu:A.units+1 < cLine)(I:Inv X pins σ H s)(g:zkG H a y v H')(ry:RelV y u)(rv:RelV v r)(h:∀s',Inv X pins σ H' s'->Q () s') :
  wpAny (model X.prog X.w) A (setItem (.ref a) u r) Q E s:=by
 rcases g with⟨kvs,k,e,ey,l,eH⟩ | ⟨kvs,k,b,e,ey,eb,l,eH⟩
 .subst ey eH;obtain⟨z,hd,vs,rel,dd⟩:=zwh I.hok e;have hz:vs.length<=sizeLine:=by rw[<- rel.length];exact z
  have hl:(putK kvs k v).length<=sizeLine:=by have:=zde kvs k v;omega
  refine wpAny_setItem_pairs (hsz:=hz) (zld ry) dd fun h' dd' hs=>h _ ?_
  have he:∃q,h'.get? a=some q:=let ⟨q,_,_,hq,_⟩:=dd';⟨q,hq⟩;exact ziU I (by rw[e];exact True.intro) hs he (zs6 hl hd (rel.put k rv) dd')
 .subst ey eH;cases (show u=Value.ref b from ry);obtain⟨z,hd,xs,rel,dd⟩:=zwn I.hok e;have hz:xs.length<=sizeLine:=by rw[<- Paired.length rel];exact z
  have hl:(putK kvs k v).length<=sizeLine:=by have:=zde kvs k v;omega
  refine wpAny_setItem_heap (hsz:=hz) (tupleKind_room_in1 hu) (zho I.hok eb) dd fun h' dd' hs=>h _ ?_
  obtain⟨q,es,ep,hq,h2,h3,h4,_,h5⟩:=dd';refine ziU I (by rw[e];exact True.intro) hs ⟨q,hq⟩ ⟨hl,hd,_,(rel.put k eb rv).keeps fun c ys ec=>?_,q,es,ep,hq,h2,h3,h4,h5⟩;rw[zE (zwo ec e (fun z=>nomatch z))];exact ec
end
section
variable{X:Cx}{pins:List (Addr×Obj)}{σ:St}{H:Hp}{s:Shared}{a:Addr}{kvs:List (Key×V)}{k:Key}{u:Value}{A:Around}{E:Value->Shared->Prop}
theorem zzJ{Q:Value->Shared->Prop}(I:Inv X pins σ H s)(e:Rd H a (.dK kvs))(h:∀t s',Inv X pins σ H s'->Q (.int kvs.length t) s'):wpAny (model X.prog X.w) A (call (.builtin "len") [.ref a]) Q E s:=by
 obtain⟨z,hd,vs,rel,dd⟩:=zi5 I.hok e;refine call_len_dict hd dd (by rw[<- rel.length];rw[sizeLine_eq] at z;omega) ?_;rw[<- rel.length];exact h _ _ (I.tok _)
end
def zwZ(i:Expr):Prop:=∀ov iv,subscripted i false ov iv=operate [ov,iv] (getItem ov iv)
theorem zu5{prog:Program}{w:World}{A:Around}{E:Value->Shared->Prop}{s:Shared}{env:Env}{value slice:Expr}{pos:Pos}{T id:String}{Q:Value->Shared->Prop}
  (hl:typeLookup (.type T) "__getitem__"=pure (some (.builtin id)))(hs:zwZ slice)
  (h:wpAny (model prog w) A (eval value env) (fun o s₁=>wpAny (model prog w) A (eval slice env) (fun i s₂=>s₂.TypeIs o T/\wpAny (model prog w) A (getItem o i) Q E s₂) E s₁) E s) :
  wpAny (model prog w) A (eval (.Subscript value slice pos) env) Q E s:=by
 refine Subscript_ (wpAny_mono h (fun o s₁ h₁=>wpAny_mono h₁ (fun i s₂ h₂=>?_) fun _ _ x=>x) fun _ _ x=>x);obtain⟨hT,h₂⟩:=h₂;unfold subscriptTail;refine wpAny_bind ?_;rw[getitemInPython_of_ne hT.not_modules];refine wpAny_bind (wpAny_specialOf hT hl ?_);have fin:wpAny (model prog w) A (subscripted slice false o i) (fun r s₃=>wpAny (model prog w) A (letTemporaryGo value o r >>= fun _=>pure r) Q E s₃) E s₂:=by
  rw[hs o i];exact wpAny_operating (wpAny_mono h₂ (fun r s₃ h₃=>wpAny_bind (wpAny_letTemporaryGo (wpAny_pure h₃))) fun _ _ x=>x)
 first
  | exact wpAny_pure (wpAny_bind fin)
  | exact wpAny_bind (wpAny_pure (wpAny_bind fin))
  | exact wpAny_bind fin
theorem znm{X:Cx}{pins:List (Addr×Obj)}{σ:St}{H:Hp}{s:Shared}{a:Addr}{y:V}{o:Option V}(I:Inv X pins σ H s)(g:zeY H a y o):s.TypeIs (.ref a) "dict":=by
 rcases g with⟨kvs,k,e,_,_⟩ | ⟨kvs,k,b,e,_,_,_⟩
 .obtain⟨_,_,vs,_,dd⟩:=zi5 I.hok e;exact dd.typeIs
 .obtain⟨_,_,xs,_,dd⟩:=znQ I.hok e;exact dd.typeIs
def zpD(td ty:TE):TE:=fun σ H Q=>td σ H fun x H1=>ty σ H1 fun y H2=>∃a v,x= .ref a/\zeY H2 a y (some v)/\Q v H2
def zsH(td ty tv:TE):TS:=fun D σ H=>tv σ H fun v H1=>td σ H1 fun x H2=>ty σ H2 fun y H3=>∃a H4,x= .ref a/\zkG H3 a y v H4/\D.nx σ H4
section
variable{X:Cx}{o i e value:Expr}{pos pos' tpos:Pos}{td ty tv:TE}
theorem zvf(hu:X.A.units+1 < cLine)(ho:PE X o td)(hi:PE X i ty)(hs:zwZ i):PE X (.Subscript o i pos) (zpD td ty):=by
 intro pins s σ H Q I h;refine zu5 PySem.F.slot_dict_getitem.lookup hs (thn (ho pins s σ H _ I h) fun u s1 ⟨x,H1,I1,rx,q1⟩=>thn (hi pins s1 σ H1 _ I1 q1) fun iv s2 ⟨y,H2,I2,ry,a,v,ex,g,q2⟩=>?_);subst ex;obtain rfl:u=Value.ref a:=rx;exact⟨znm I2 g,zqw hu I2 g ry fun w' s3 I3 rw'=>⟨v,H2,I3,rw',q2⟩⟩
theorem zvP(hu:X.A.units+1 < cLine)(ho:PE X o td)(hi:PE X i ty)(hv:PE X value tv)(hs:swapsWith value (some (.Subscript o i pos')) pos.line X.env=pure false) :
  PS X (.Assign [.Subscript o i pos'] value pos) (zsH td ty tv):=by
 intro pins s σ H D I h;refine wpAny_Assign_Subscript (thn (hv pins s σ H _ I h) fun r s1 ⟨v,H1,I1,rv,q1⟩=>thn (ho pins s1 σ H1 _ I1 q1) fun u s2 ⟨x,H2,I2,rx,q2⟩=>thn (hi pins s2 σ H2 _ I2 q2) fun iv s3 ⟨y,H3,I3,ry,a,H4,ex,g,q3⟩=>?_) hs;subst ex;obtain rfl:u=Value.ref a:=rx;exact zqA hu I3 g ry rv fun s4 I4=>⟨σ,H4,I4,q3⟩
end
theorem znw{P:Program}{w:World}{H:Hp}(h:Heap)(hb:sysModules < h.objs.size):zaF P w H (h.push { cls:= .type "dict",data:= .dict #[] }) h.objs.size (.dK []) :=
 ⟨Nat.zero_le _,beq_eq_false_iff_ne.mpr (Ne.symm (Nat.ne_of_lt hb)),[], .nil,Heap.DictOf.new h⟩
theorem zsx{P:Program}{w:World}{H:Hp}(h:Heap)(hb:sysModules < h.objs.size):zaF P w H (h.push { cls:= .type "dict",data:= .dict #[] }) h.objs.size (.dT []) :=
 ⟨Nat.zero_le _,beq_eq_false_iff_ne.mpr (Ne.symm (Nat.ne_of_lt hb)),[], .nil,_, #[],0,Heap.get?_push_size _ rfl,⟨rfl,rfl,rfl⟩,rfl,rfl,List.nodup_nil⟩
def zmt:TE:=fun _ H Q=>∀p,H p=none->Q (.ref p) (upd H p (.dK []))
section
variable{X:Cx}{pos:Pos}
theorem zsj:PE X (.Dict [] [] pos) zmt:=fun pins s σ H Q I h =>
 wpAny_Dict_empty ⟨.ref s.heap.objs.size,_,I.laid (a:=s.heap.objs.size) (o:= .dK []) (t':=s.toks) (fun _ _ q=>Heap.get?_push_of_some _ q) (Nat.le_refl _) (znw s.heap I.big),rfl,h _ (I.hok.fresh (Nat.le_refl _))⟩
end
structure M1(X:Cx)(o:Expr)(m:Str)(apos:Pos)(e:Expr)(cpos:Pos):Prop where
 base:attributeBase o m X.env (eval o X.env)=eval o X.env
 few:((backTo cpos (starEach [e] X.env)).all (fun x=> !x.1)&&(backToKw cpos (keywordEach [] X.env)).all (fun x=>x.1.isSome)
  && decide (([e]:List Expr).length+([]:List Keyword).length+(if ([]:List Keyword).isEmpty then 0 else 1) < 30))=true
 line:(apos.endLine==cpos.line)=true
 trees:backTo cpos (starEach [e] X.env)=[(false,eval e X.env)]
structure M2(X:Cx)(o:Expr)(m:Str)(apos:Pos)(e f:Expr)(cpos:Pos):Prop where
 base:attributeBase o m X.env (eval o X.env)=eval o X.env
 few:((backTo cpos (starEach [e,f] X.env)).all (fun x=> !x.1)&&(backToKw cpos (keywordEach [] X.env)).all (fun x=>x.1.isSome)
  && decide (([e,f]:List Expr).length+([]:List Keyword).length+(if ([]:List Keyword).isEmpty then 0 else 1) < 30))=true
 line:(apos.endLine==cpos.line)=true
 trees:backTo cpos (starEach [e,f] X.env)=[(false,eval e X.env),(false,eval f X.env)]
section
variable{X:Cx}{pins:List (Addr×Obj)}{σ:St}{H:Hp}{s:Shared}{a:Addr}{y d:V}{u r:Value}{o:Option V}{A:Around}{E:Value->Shared->Prop}
end
section
variable{X:Cx}{o e f:Expr}{apos cpos:Pos}{td ty tx:TE}
end
section
variable{X:Cx}{pins:List (Addr×Obj)}{σ:St}{H:Hp}{s:Shared}{a:Addr}{kvs:List (Key×V)}{A:Around}{E:Value->Shared->Prop}
end
section
variable{X:Cx}{pins:List (Addr×Obj)}{σ:St}{H:Hp}{s:Shared}{a:Addr}{y:V}{u:Value}{A:Around}{E:Value->Shared->Prop}
end
end L2
namespace Att
open PySem PySem.W PySem.Calls PyProof.Rows
theorem ziF{P:Params}{h:Heap}:∀(ns:List Int) (vs:List Value),WellAll P h vs (ns.map WData.int)->IntsAre vs ns:=by
 intro ns;induction ns with
 | nil =>
  intro vs w;rw[List.map_nil] at w;cases w;exact .nil
 | cons n ns ih =>
  intro vs w;rw[List.map_cons] at w;cases w with
  | cons a b =>
   cases a;exact .cons _ _ (ih _ b)
theorem zrb{l:OpenLaw}{n:Nat}(hn:l.most=some n){P:Params}{h:Heap}{args:List WData}{vals:List Value}
  (hpre:l.row.toRowW.claim.pre args=true)(hwl:WellAll P h vals args) :
  ∃a vs ns,vals=[Value.ref a]/\args=[WData.list (ns.map WData.int)]/\h.get? a=some { cls:= .type "list",data:= .seq vs.toArray }/\IntsAre vs ns/\ns.length<=n:=by
 have hsh:WShape.hasAll [] args [.list .int]=true:=(pre_splitW hpre).1;have hc:l.pre.holds [] { args:=args }=true:=(pre_splitW hpre).2;obtain⟨d,r,rfl,h1,h2⟩:=hasAllW_cons hsh;obtain rfl:=hasAllW_nil h2;obtain⟨xs,rfl,h3⟩:=hasW_list h1;obtain⟨ns,rfl⟩:=items_int h3;have hlen:ns.length<=n:=by
  unfold OpenLaw.pre at hc;have h4:(WTm.not (.lt (.lit (.int (n:Int))) (.len (.arg 0)))).holds [] { args:=[.list (ns.map .int)] }=true:=by
   have h4:=(holds_andW hc).1;rw[hn] at h4;exact h4
  have h5:=condW_of h4 (w_not (w_lt w_lit (w_len_list (w_arg rfl))));rw[List.length_map] at h5;refine Nat.le_of_not_lt fun q=>?_
  have q':(n:Int) < ((ns.length:Nat):Int):=by omega
  first
   | (rw[decide_eq_true q'] at h5;exact absurd h5 (by decide))
   | (simp at h5;omega)
 cases hwl with
 | cons w1 w2 =>
  cases w2;cases w1 with
  | list ho hall=>exact⟨_,_,ns,rfl,rfl,ho,ziF ns _ hall,hlen⟩
theorem zqF(l:OpenLaw)(args:List WData):l.row.toRowW.claim.post args (.bool true) args=true :=
 postW_of (r:=l.row.toRowW) (X:=(true==true))
  (show WShape.has [] (.bool true) .bool=true by first | rfl | decide | simp[WShape.has,WShape.arms,WShape.armsAll])
  (show(WTm.eq .res (.lit (.bool true))).value [] { args:=args,res:=some (.bool true),after:=args }=some (.bool (true==true)) from w_eq_bool (w_res rfl) w_lit) rfl
theorem zn9{l:OpenLaw}{n:Nat}{q:Program}{loose:List Str}{XP:(Str->Option Value)->Heap->Prop}{YP:World->Heap->Prop}{d:DefRec}
  (hn:l.most=some n)(hdf:d.params.defaults=[])
  (call:∀(w:World) (s₀ s₁:Shared) (mg mb:Str->Option Value) (fa:Addr) (o:Obj) (pm cd doc:Value) (a:Addr) (vs:List Value) (ns:List Int),
   Ground q loose [] XP w s₀ mg mb s₁.heap->YP w s₁.heap ->
   s₁.heap.get? fa=some o->o.data= .func (docDef d.name d.params d.body d.scope pm cd doc)->s₁.heap.CodeRec cd d.name->mg d.name=some (.ref fa) ->
   s₁.heap.get? a=some { cls:= .type "list",data:= .seq vs.toArray }->IntsAre vs ns->ns.length<=n->s₁.gens= #[] ->
   codeAny (model l.prog w) callerA (.call (.ref fa) ⟨[.ref a],[]⟩) (fun r s'=>r= .ok (.ret (.bool true))/\OldK s₁.heap s'.heap/\s'.os=s₁.os/\AllBare s'.gens) s₁) :
  WalkO q loose XP YP l.row.toRowW d [] (fun f vs=>PySem.call f vs):=by
 intro w s₀ s₁ mg mb G Y fa o pm cd doc dV kV ho hd hcd hD hmg hg args vals as hpre hlay hrd hwl hlo;obtain rfl:dV= .none:=Dflts.none hD hdf;obtain rfl:kV= .none:=Dflts.noKw hD;obtain⟨a,vs,ns,rfl,rfl,hobj,hints,hlen⟩:=zrb hn hpre hwl;refine enter_call (codeAny_mono (call w s₀ s₁ mg mb fa o pm cd doc a vs ns G Y ho (fd_plain hd) hcd hmg hobj hints hlen hg) fun r s' hq=>?_);obtain⟨rfl,h2,h3,h4⟩:=hq;exact⟨.inl ⟨.bool true, .bool true,[],rfl,fun _=>rfl, .bool true,zqF l _,fun _=>⟨List.Pairwise.nil,fun _ hm=>(nomatch hm)⟩⟩,h2,h3,h4⟩
section
variable{prog:Program}{w:World}{A:Around}{E:Value->Shared->Prop}{s:Shared}{K:Frag}
end
end Att
namespace L2
open PySem PySem.Spec PyProof.Rows
theorem zle:∀{vs:List Value} {ns:List Int},IntsAre vs ns->Vals (ns.map V.int) vs
 | _,_, .nil=> .nil
 | _,_, .cons n t h=> .cons ⟨t,rfl⟩ (zle h)
def Only(H:Hp):Prop:=∀b,H b=none\/∃o xs,H b=some (.frz o (.lst xs))
theorem zsX{P:Program}{w:World}{K:Frag}{mg mb:Str->Option Value}{CX:CXT}{k:Nat}{fa a:Addr}{fd:FuncData}{x:Str}{sp:Sp}{s₁:Shared}{vs:List Value}{ns:List Int}
  (KX:K.In s₁.heap)(hns:s₁.heap.Ns mainGlobals mg)(hb:s₁.heap.Ns builtinsNs mb)(hbb:∀x:Str,x≠"__name__"->mb x=bootBuiltins x)(hlim:s₁.heap.NoLimit)(hg:s₁.gens= #[])
  (ha:s₁.heap.get? a=some { cls:= .type "list",data:= .seq vs.toArray })(hi:IntsAre vs ns)(hl:ns.length<=sizeLine)(hr:zfm k callerA)
  (F:∀base:Heap,K.In base->base.Ns mainGlobals mg->zV P w K mg base CX k fa fd [x] sp)(hbind:∀(s:Shared) (u:Value),BindsTo s fd ⟨[u],[]⟩ [(x,u)])
  (hsp:∀H:Hp,Only H->SqL K H a (ns.map V.int)->sp [.ref a] H (fun v _=>v= .bl true) fun _ _ _=>False)
  (hCX:∀H e s',CX [] H s₁ (fun _ _ _=>False) e s'->False) :
  codeAny (model P w) callerA (.call (.ref fa) ⟨[.ref a],[]⟩) (fun r s'=>r= .ok (.ret (.bool true))/\OldK s₁.heap s'.heap/\s'.os=s₁.os/\AllBare s'.gens) s₁:=by
 have rv:=zle hi;have lenV:=hi.length;have core:∀H:Hp,Only H->SqL K H a (ns.map V.int)->HOk P w H s₁.heap->(∀b,H b≠none->b=a)->(H a≠none->K.lookup a=none) ->
   codeAny (model P w) callerA (.call (.ref fa) ⟨[.ref a],[]⟩) (fun r s'=>r= .ok (.ret (.bool true))/\OldK s₁.heap s'.heap/\s'.os=s₁.os/\AllBare s'.gens) s₁:=by
  intro H hO hS hok hA hK;have base_of:∀{b:Addr} {o:Obj},s₁.heap.get? b=some o->H b=none->(zmf s₁.heap H).get? b=some o:=fun e n=>zsZ e n
  have noA:∀{b:Addr} {o:Obj} {es:Array DictEntry} {ep:Nat},s₁.heap.get? b=some o->o.data= .dict es ep->H b=none:=fun{b o es ep} e d=>by
   cases q:H b with
   | none=>rfl
   | some u =>
    have e':b=a:=hA b (by rw[q];simp);subst e';rw[ha] at e;cases e;have d':Data.seq vs.toArray _=Data.dict es ep:=d;cases d'
  have nsK:∀{b:Addr} {m:Str->Option Value},s₁.heap.Ns b m->(zmf s₁.heap H).Ns b m:=fun{b m} ⟨o,es,ep,e,d,r⟩=>⟨o,es,ep,base_of e (noA e d),d,r⟩
  have hKb:K.In (zmf s₁.heap H):=fun b o e=>base_of (KX b o e) (by
   cases q:H b with
   | none=>rfl
   | some u =>
    have e':b=a:=hA b (by rw[q];simp);subst e';rw[hK (by rw[q];simp)] at e;cases e)
  have hM:Mod K mg (zmf s₁.heap H):=⟨hKb,nsK hns,⟨mb,nsK hb,hbb⟩,let ⟨mc,h1,h2⟩:=hlim;⟨mc,nsK h1,h2⟩⟩;have e0:zoo P w K mg (zmf s₁.heap H) callerA [] s₁ H:=⟨rfl,hM,fun b o e=>zuV e,Nat.le_of_eq (zqx _ _),trivial,fun b hb=>absurd (show b∈([]:List Addr) from hb) (by simp),hok, .of_eq hg⟩;refine codeAny_mono ((F _ hKb (nsK hns)).run callerA [] s₁ H ⟨[.ref a],[]⟩ [.ref a] [.ref a] _ _ hr e0 (hbind s₁ (.ref a)) (.cons rfl .nil) (hsp H hO hS)) fun r s' h=>?_
  cases r with
  | error e=>exact(hCX H e s' h).elim
  | ok fl =>
   cases fl with
   | next=>exact False.elim h
   | brk=>exact False.elim h
   | cont=>exact False.elim h
   | ret u =>
    obtain⟨v,H',os,bare,un,hok',r',q⟩:=h;have q':v= .bl true:=q;subst q';obtain rfl:u=Value.bool true:=r';refine⟨rfl,OldK.of_keep fun b o e=>?_,os,bare⟩;cases q:H b with
    | none=>exact un.keep b o e q (by intro z;exact absurd (show b∈([]:List Addr) from z) (by simp)) (by simp)
    | some u =>
     rcases hO b with z | ⟨ob,xs,z⟩
     .rw[q] at z;cases z
     .have z2:=un.frzs b ob _ z;obtain⟨e1,_⟩:=hok b _ z;obtain⟨e2,_⟩:=hok' b _ z2;rw[e] at e1;cases e1;exact e2
 cases hk:K.lookup a with
 | some o =>
  have e:=KX a o hk;rw[ha] at e;cases e;refine core (fun _=>none) (fun _=> .inl rfl) (.inr ⟨_,vs.toArray,_,hk,rfl,rfl,rfl,by rw[List.size_toArray,lenV];exact hl,by simpa using rv⟩) (fun b u z=>by have z':(none:Option HO)=some u:=z;cases z') (fun b z=>absurd rfl z) fun z=>absurd rfl z
 | none =>
  refine core (fun b=>if b=a then some (.frz { cls:= .type "list",data:= .seq vs.toArray } (.lst (ns.map V.int))) else none) (fun b=>?_) (.inl (.inr ⟨{ cls:= .type "list",data:= .seq vs.toArray },if_pos rfl⟩)) (fun b u z=>?_) (fun b z=>?_) fun _=>hk
  .by_cases hb:b=a
   .exact .inr ⟨_,_,if_pos hb⟩
   .exact .inl (if_neg hb)
  .by_cases hb:b=a
   .have z':=(if_pos hb).symm.trans z;cases z';subst hb;exact⟨ha,by rw[List.length_map];exact hl,vs,_,rv,ha⟩
   .have z':=(if_neg hb).symm.trans z;cases z'
  .by_cases hb:b=a
   .exact hb
   .exact absurd (if_neg hb) z
theorem zvr{l:PySem.W.OpenLaw}{n k:Nat}{q:Program}{loose:List Str}{XP:(Str->Option Value)->Heap->Prop}{YP:World->Heap->Prop}{d:DefRec}{K:Params->Frag}{CX:World->CXT}{sp:World->Sp}{x:Str}
  (hn:l.most=some n)(hn2:n<=sizeLine)(hdf:d.params.defaults=[])(hr:zfm k callerA)
  (hY:∀(w:World) (h:Heap),YP w h->(K w.params).In h)
  (F:∀(w:World) (mg:Str->Option Value) (fa:Addr) (h:Heap),(K w.params).In h->h.Ns mainGlobals mg->mg d.name=some (.ref fa) ->
   ∃fd:FuncData,(∀(s:Shared) (u:Value),BindsTo s fd ⟨[u],[]⟩ [(x,u)]) /\
    ∀base:Heap,(K w.params).In base->base.Ns mainGlobals mg->zV l.prog w (K w.params) mg base (CX w) k fa fd [x] (sp w))
  (hsp:∀(w:World) (H:Hp) (a:Addr) (ns:List Int),ns.length<=n->Only H->SqL (K w.params) H a (ns.map V.int)->sp w [.ref a] H (fun v _=>v= .bl true) fun _ _ _=>False)
  (hCX:∀(w:World) (H:Hp) (s:Shared) (e:Value) (s':Shared),CX w [] H s (fun _ _ _=>False) e s'->False) :
  PySem.W.WalkO q loose XP YP l.row.toRowW d [] (fun f vs=>PySem.call f vs):=by
 refine Att.zn9 hn hdf fun w s₀ s₁ mg mb fa o pm cd doc a vs ns G Y ho hd hcd hmg hobj hints hlen hg=>?_
 have KX:=hY w _ Y;obtain⟨fd,hb,hF⟩:=F w mg fa _ KX G.T.g hmg;exact zsX KX G.T.g G.T.b G.T.builtins G.T.nolimit hg hobj hints (Nat.le_trans hlen hn2) hr hF hb (fun H hO hS=>hsp w H a ns hlen hO hS) fun H e s'=>hCX w H s₁ e s'
def inClass(s:Stmt)(j:Nat):Stmt:=match s with
 | .ClassDef _ _ _ body _ _ _ _ _ _ _=>body.getD j (.Pass ⟨0,0,0,0⟩)
 | _=> .Pass ⟨0,0,0,0⟩
def zgm(s:Stmt):Arguments:=match s with
 | .FunctionDef _ a _ _ _ _ _ _ _ _=>a
 | _=>{ posonlyargs:=[],args:=[],vararg:=none,kwonlyargs:=[],kw_defaults:=[],kwarg:=none,defaults:=[] }
def zdg(s:Stmt):List Stmt:=match s with
 | .FunctionDef _ _ b _ _ _ _ _ _ _=>b
 | _=>[]
def zx(s:Stmt):Scope:=match s with
 | .FunctionDef _ _ _ _ _ _ sc _ _ _=>sc
 | _=>{ kind:= .function,names:=[],isGenerator:=false,isCoroutine:=false }
abbrev CX0:CXT:=fun _ _ _ _ _ _=>False
abbrev E0:XK:=fun _ _ _=>False
theorem zk6{X:Cx}:zcs CX0 X E0:=fun _ _ _ _ _ _ _ h=>h.elim
structure Fun(K:Frag)(x qual:Str)(st:Stmt)(f:Addr)(fd:FuncData):Prop where
 ex:∃(oc:Value) (od:Option Addr) (kV:Value×Value) (doc pm:Value) (an:Option Addr) (cdv ct:Value) (osl:Array (Option Value)),
  fd=fnOf x qual (zgm st) (zdg st) (zx st) kV.1 kV.2 doc pm an cdv ct/\K.lookup f=some ⟨oc,od, .func fd,osl⟩/\codeIn K cdv qual=true
 kp:keepIn K (.ref f)=true
section
variable{P:Program}{w:World}{K:Frag}{mg:Str->Option Value}{base:Heap}
theorem Fun.ok{x qual:Str}{st:Stmt}{f:Addr}{fd:FuncData}{N ps:List Str}{k:Nat}{sp:Sp}(F:Fun K x qual st f fd)(S:zG N ps (zx st))(len:∀vs H Q E,sp vs H Q E->vs.length=ps.length)
  (hbody:∀(cdv:Value) (A:Around) (outer:List Env) (s:Shared) (H:Hp) (vs:List V) (Q:VK) (E:XK),zfm k (A.deeper (envOfC qual (zx st) s.heap.objs.size f cdv))->sp vs H Q E ->
   ∃t,PSs (znd CX0 P w K mg base N qual (zx st) f cdv A outer s H E).nox (zdg st) t/\t { nx:=fun _ H'=>Q .non H',rt:=Q } (start N vs) H):zV P w K mg base CX0 (k+1) f fd ps sp:=by
 obtain⟨oc,od,kV,doc,pm,an,cdv,ct,osl,rfl,lk,hcd⟩:=F.ex;refine zzH lk hcd S len fun A outer s H vs Q E hr hsp=>?_
 obtain⟨t,h,q⟩:=hbody cdv A outer s H vs Q E hr hsp;exact⟨t,h.nox,q⟩
theorem Fun.binds{x qual:Str}{st:Stmt}{f:Addr}{fd:FuncData}{ps:List Str}(F:Fun K x qual st f fd)
  (h:∀(kV doc pm:Value) (an:Option Addr) (cdv ct:Value) (us:List Value),us.length=ps.length->bindArgs (fnOf x qual (zgm st) (zdg st) (zx st) .none kV doc pm an cdv ct) ⟨us,[]⟩=pure (ps.zip us))(hd:fd.defaults= .none:=by rfl):Binds K fd ps []:=by
 obtain⟨oc,od,kV,doc,pm,an,cdv,ct,osl,rfl,lk,hcd⟩:=F.ex;have e:kV.1= .none:=hd;rw[e];exact .all (h kV.2 doc pm an cdv ct)
theorem zR{x qual:Str}{st:Stmt}{f:Addr}{oc:Value}{od an:Option Addr}{osl:Array (Option Value)}{dV kV doc pm cdv ct:Value}(l:K.lookup f=some ⟨oc,od, .func (fnOf x qual (zgm st) (zdg st) (zx st) dV kV doc pm an cdv ct),osl⟩)
  (c:codeIn K cdv qual=true)(k:keepIn K (.ref f)=true):Fun K x qual st f (fnOf x qual (zgm st) (zdg st) (zx st) dV kV doc pm an cdv ct):=⟨⟨oc,od,(dV,kV),doc,pm,an,cdv,ct,osl,rfl,l,c⟩,k⟩
end
theorem zbZ{cm:Bool}{A:Around}{k:Nat}(hr:zaV cm k A):A.units+1 < cLine:=Nat.lt_of_le_of_lt (Nat.add_le_add_left (by decide:1<=64) _) hr.units
section
variable{X:Cx}
theorem pv(i:Nat){x:Str}{pos:Pos}(hN:X.N[i]? = some x:=by rfl)(hv:Vis X.env.scope x:=by first | exact Or.inl rfl | exact Or.inr (Or.inl rfl) | exact Or.inr (Or.inr rfl))(hd:(x==("__debug__":Str))=false:=by decide)
  (hcd:(x==("__classdict__":Str))=false:=by decide):PE X (.Name x pos) (zbg i):=zth hN hv hd hcd
end
theorem zz6{A B:Prop}(h:A):if true=true then A else B:=by
 rw[if_pos rfl];exact h
theorem zvZ{c A B:Prop}[Decidable c](h1:c->A)(h2:¬ c->B):if c then A else B:=by
 by_cases h:c
 .rw[if_pos h];exact h1 h
 .rw[if_neg h];exact h2 h
def zkv(H H':Hp):Prop:=∀b o,H b=some o->H' b=some o
section
variable{X:Cx}
theorem zrn:zN X (.builtin "len") (fun xs H Q=>∃a kvs,xs=[V.ref a]/\H a=some (.dK kvs)/\Q (.int kvs.length) H):=by
 intro pins s σ H xs us Q I r h;obtain⟨a,kvs,rfl,ha,q⟩:=h;obtain⟨u,rfl,ru⟩:=vals1 r;cases ru;exact zzJ I (.inl ha) fun t s' I'=>⟨.int kvs.length,H,I',⟨t,rfl⟩,q⟩
end
section
variable{κ:Type}[DecidableEq κ]
end
def zaC(env:Env):List (Str×NameKind)->List (Str×Addr)->List (Str×Addr)
 | [],acc=>acc
 | (n,k)::r,acc=>if k== .free then zaC env r ((n,(env.cells.lookup n).getD 0)::acc) else zaC env r acc
theorem zi9{env:Env}(f:Str×NameKind->List (Str×Addr)->Sem (ForInStep (List (Str×Addr))))
  (hf:∀n k cs,f (n,k) cs=if k== .free then(do let a<-cellOf env n;pure (.yield ((n,a)::cs))) else pure (.yield cs)) :
  ∀(names:List (Str×NameKind)) (acc:List (Str×Addr)),(∀x∈names,x.2= .free->(env.cells.lookup x.1).isSome=true)->forIn names acc f=(pure (zaC env names acc):Sem _)
 | [],acc,_=>rfl
 | (n,k)::r,acc,h=>by
  have hr:∀x∈r,x.2= .free->(env.cells.lookup x.1).isSome=true:=fun x hx=>h x (List.mem_cons_of_mem _ hx)
  rw[List.forIn_cons,hf];unfold zaC;cases hk:k==NameKind.free with
  | true =>
   obtain⟨c,hc⟩:=Option.isSome_iff_exists.mp (h (n,k) List.mem_cons_self (by simpa using hk));have e:cellOf env n=pure c:=by unfold cellOf;rw[hc]
   simp only[if_true];rw[e,pure_bind,pure_bind,hc];exact zi9 f hf r _ hr
  | false =>
   simp only[Bool.false_eq_true,if_false];rw[pure_bind];exact zi9 f hf r _ hr
theorem zdo{scope:Scope}{env:Env}(h:∀x∈scope.names,x.2= .free->(env.cells.lookup x.1).isSome=true):closureFor scope env=pure (zaC env scope.names []):=by
 simp only[closureFor];rw[zi9 (env:=env) _ (fun n k cs=>by
  cases hk:k==NameKind.free<;>simp[hk]) _ _ h]
 rfl
theorem zb7{env:Env}:∀{names:List (Str×NameKind)} {acc:List (Str×Addr)} {n:Str} {c:Addr},(n,c)∈zaC env names acc->(n,c)∈acc\/((n, .free)∈names/\c=(env.cells.lookup n).getD 0)
 | [],_,_,_,h=> .inl h
 | (x,k)::r,acc,n,c,h=>by
  unfold zaC at h;cases hk:k==NameKind.free with
  | true =>
   rw[hk] at h;simp only[if_true] at h;have ek:k= .free:=by simpa using hk
   subst ek;rcases zb7 h with h | h
   .rcases List.mem_cons.mp h with e | h
    .cases e;exact .inr ⟨List.mem_cons_self,rfl⟩
    .exact .inl h
   .exact .inr ⟨List.mem_cons_of_mem _ h.1,h.2⟩
  | false =>
   rw[hk] at h;simp only[Bool.false_eq_true,if_false] at h;rcases zb7 h with h | h
   .exact .inl h
   .exact .inr ⟨List.mem_cons_of_mem _ h.1,h.2⟩
theorem zfU{env:Env}:∀{names:List (Str×NameKind)} {acc:List (Str×Addr)} {p:Str×Addr},p∈acc->p∈zaC env names acc
 | [],_,_,h=>h
 | (x,k)::r,acc,p,h=>by
  unfold zaC;split
  .exact zfU (List.mem_cons_of_mem _ h)
  .exact zfU h
theorem zge{env:Env}:∀{names:List (Str×NameKind)} {acc:List (Str×Addr)} {n:Str},(n, .free)∈names->(n,(env.cells.lookup n).getD 0)∈zaC env names acc
 | (x,k)::r,acc,n,h=>by
  unfold zaC;rcases List.mem_cons.mp h with e | h
  .cases e;exact zfU List.mem_cons_self
  .split<;>exact zge h
theorem zdx:∀{names:List (Str×NameKind)} {m:Nat} {acc:List (Str×Addr)} {n:Str} {c:Addr},(n,c)∈cellsFrom m names acc->(n,c)∈acc\/((n, .cell)∈names/\m<=c)
 | [],_,_,_,_,h=> .inl h
 | (x,k)::r,m,acc,n,c,h=>by
  unfold cellsFrom at h;cases hk:k==NameKind.cell with
  | true =>
   rw[hk] at h;simp only[if_true] at h;have ek:k= .cell:=by simpa using hk
   subst ek;rcases zdx h with h | h
   .rcases List.mem_cons.mp h with e | h
    .cases e;exact .inr ⟨List.mem_cons_self,Nat.le_refl _⟩
    .exact .inl h
   .exact .inr ⟨List.mem_cons_of_mem _ h.1,Nat.le_of_succ_le h.2⟩
  | false =>
   rw[hk] at h;simp only[Bool.false_eq_true,if_false] at h;rcases zdx h with h | h
   .exact .inl h
   .exact .inr ⟨List.mem_cons_of_mem _ h.1,h.2⟩
theorem zbq:∀{names:List (Str×NameKind)} {m:Nat} {acc:List (Str×Addr)} {p:Str×Addr},p∈acc->p∈cellsFrom m names acc
 | [],_,_,_,h=>h
 | (x,k)::r,m,acc,p,h=>by
  unfold cellsFrom;split
  .exact zbq (List.mem_cons_of_mem _ h)
  .exact zbq h
theorem zfL:∀{names:List (Str×NameKind)} {m:Nat} {acc:List (Str×Addr)} {n:Str},(n, .cell)∈names->∃c,(n,c)∈cellsFrom m names acc
 | (x,k)::r,m,acc,n,h=>by
  unfold cellsFrom;rcases List.mem_cons.mp h with e | h
  .cases e;exact⟨m,zbq List.mem_cons_self⟩
  .split<;>exact zfL h
theorem zaB{α:Type}:∀{l:List (Str×α)} {n:Str} {c:α},(n,c)∈l->∃c',l.lookup n=some c'/\(n,c')∈l
 | (k,v)::r,n,c,h=>by
  rw[List.lookup_cons];cases hb:n==k with
  | true=>exact⟨v,rfl,by rw[beq_iff_eq.mp hb];exact List.mem_cons_self⟩
  | false =>
   rcases List.mem_cons.mp h with e | h
   .cases e;simp at hb
   .obtain⟨c',e,m⟩:=zaB h;exact⟨c',e,List.mem_cons_of_mem _ m⟩
theorem zg4{α:Type}:∀{l:List (Str×α)} {n:Str} {a b:α},(l.map (·.1)).Nodup->(n,a)∈l->(n,b)∈l->a=b
 | x::r,n,a,b,nd,h,h'=>by
  rw[List.map_cons,List.nodup_cons] at nd;have no:∀c,(n,c)∈r->n≠x.1:=fun c hc e=>nd.1 (by rw[<- e];exact List.mem_map_of_mem (f:=(·.1)) hc)
  rcases List.mem_cons.mp h with e | h<;>rcases List.mem_cons.mp h' with e' | h'
  .rw[<- e] at e';cases e';rfl
  .exact absurd (by rw[<- e]) (no b h')
  .exact absurd (by rw[<- e']) (no a h)
  .exact zg4 nd.2 h h'
theorem zeq{α:Type}{l:List (Str×α)}{n:Str}{a:α}(nd:(l.map (·.1)).Nodup)(h:(n,a)∈l):l.lookup n=some a:=by
 obtain⟨c,e,m⟩:=zaB h;rw[e,zg4 nd h m]
theorem zco:∀{names:List (Str×NameKind)} {m:Nat} {acc:List (Str×Addr)},(∀p∈acc,p.2 < m)->(∀n n' c,(n,c)∈acc->(n',c)∈acc->n=n') ->
  ∀n n' c,(n,c)∈cellsFrom m names acc->(n',c)∈cellsFrom m names acc->n=n'
 | [],_,_,_,h,n,n',c,a,b=>h n n' c a b
 | (x,k)::r,m,acc,lt,h,n,n',c,a,b=>by
  unfold cellsFrom at a b;cases hk:k==NameKind.cell with
  | true =>
   rw[hk] at a b;simp only[if_true] at a b;refine zco (m:=m+1) (acc:=(x,m)::acc) (fun p hp=>?_) (fun n n' c a b=>?_) n n' c a b
   .rcases List.mem_cons.mp hp with rfl | hp
    .exact Nat.lt_succ_self _
    .exact Nat.lt_succ_of_lt (lt p hp)
   .rcases List.mem_cons.mp a with e | a<;>rcases List.mem_cons.mp b with e' | b
    .cases e;cases e';rfl
    .cases e;exact absurd (lt _ b) (Nat.lt_irrefl _)
    .cases e';exact absurd (lt _ a) (Nat.lt_irrefl _)
    .exact h n n' c a b
  | false =>
   rw[hk] at a b;simp only[Bool.false_eq_true,if_false] at a b;exact zco lt h n n' c a b
theorem zb6:∀(names:List (Str×NameKind)) (h:Heap) (acc:List (Str×Addr)) (n:Str) (c:Addr),(n,c)∈cellsFrom h.objs.size names acc->(n,c)∈acc\/(pushCells h names).IsCell c none
 | [],_,_,_,_,h=> .inl h
 | (x,k)::r,h,acc,n,c,hm=>by
  unfold cellsFrom at hm;unfold pushCells;cases hk:k==NameKind.cell with
  | true =>
   rw[hk] at hm;simp only[if_true] at hm ⊢;rw[show h.objs.size+1=(h.push { cls:= .type "cell",data:= .cell none }).objs.size from (Heap.size_push ..).symm] at hm;rcases zb6 r _ _ n c hm with h1 | h1
   .rcases List.mem_cons.mp h1 with e | h1
    .cases e;exact .inr (Heap.IsCell.keeps ⟨_,Heap.get?_push_size _ rfl,rfl⟩ (pushCells_keeps r _))
    .exact .inl h1
   .exact .inr h1
  | false =>
   rw[hk] at hm;simp only[Bool.false_eq_true,if_false] at hm ⊢;exact zb6 r h acc n c hm
def zbN(scope:Scope)(C:Addr)(env:Env):Env:=compEnvC scope (cellsFrom (C+1) scope.names (zaC env scope.names [])) C env
theorem zkm{M:Model}{A:Around}{E:Value->Shared->Prop}{s:Shared}{scope:Scope}{globals:Addr}{cl:List (Str×Addr)}{qual:Str}{env:Env}{Q:Env->Shared->Prop}
  (h:Q (newEnv scope s.heap.objs.size globals (cellsFrom (s.heap.objs.size+1) scope.names cl) qual none .none (some env) builtinsNs) { s with heap:=pushCells (s.heap.push { cls:= .type "dict",data:= .dict #[] }) scope.names }) :
  wpAny M A (newFunctionEnv scope globals cl [] qual none .none (some env)) Q E s:=by
 simp only[newFunctionEnv,Option.isSome_some,if_true];refine wpAny_bind (wpAny_alloc ?_);refine wpAny_bind (wpAny_layCells _ (fun name kind cells=>by cases hkc:kind==NameKind.cell<;>simp[hkc]) _ _ _ _ ?_);rw[show({ s with heap:=s.heap.push { cls:= .type "dict",data:= .dict #[] } }:Shared).heap.objs.size=s.heap.objs.size+1 from Heap.size_push ..];rw[List.forIn_nil];exact wpAny_bind (wpAny_pure (wpAny_pure h))
def zB(X:Cx)(N:List Str)(scope:Scope)(C:Addr)(s:Shared)(H:Hp)(ex:List Addr):Cx where
 prog:=X.prog
 w:=X.w
 K:=X.K
 mg:=X.mg
 base:=X.base
 A:=X.A
 N:=N
 s₀:=s
 H₀:=H
 env:=zbN scope C X.env
 outer:=X.stack
 stack:=X.stack
 ex:=ex
 fn:=fun x=>scope.names.lookup x==some .cell
 calm:=X.calm
 pn:=[]
 xe:=fun _ _=>False
structure zcN(X:Cx)(scope:Scope):Prop where
 kind:scope.kind= .function
 nd:(scope.names.map (·.1)).Nodup
 free:∀x∈scope.names,x.2= .free->(X.env.kindOf x.1=some .cell\/X.env.kindOf x.1=some .free)
def freeOk(sc:Scope)(scope:Scope):Bool:=scope.names.all fun x=>x.2 != .free||(sc.names.lookup x.1==some .cell||sc.names.lookup x.1==some .free)
theorem zcN.of{X:Cx}{scope:Scope}(k:scope.kind= .function)(nd:(scope.names.map (·.1)).Nodup)(f:freeOk X.env.scope scope=true):zcN X scope:=⟨k,nd,fun x hx e=>by
 have q:=List.all_eq_true.mp f x hx;rw[e] at q;show X.env.scope.names.lookup x.1=_\/X.env.scope.names.lookup x.1=_;simpa using q⟩
theorem zbO{env:Env}:∀{names:List (Str×NameKind)} {x:Str} {k:NameKind},
  (names.map fun(n,k)=>if (k==NameKind.free&&env.scope.kind== .function&&env.kindOf n==some .cell) then(n,NameKind.cell) else(n,k)).lookup x=some k ->
  (∃k',names.lookup x=some k'/\(k'=k\/(k'= .free/\k= .cell/\env.kindOf x=some .cell)))
 | [],_,_,h=>by simp at h
 | (n,k0)::r,x,k,h=>by
  rw[List.map_cons,List.lookup_cons] at h;rw[List.lookup_cons];have hn:(if (k0==NameKind.free&&env.scope.kind== .function&&env.kindOf n==some .cell)=true then(n,NameKind.cell) else(n,k0)).1=n:=by split<;>rfl
  dsimp only at h;rw[hn] at h;cases hx:x==n with
  | false =>
   rw[hx] at h;exact zbO h
  | true =>
   rw[hx] at h;simp only[Option.some.injEq] at h;refine⟨k0,rfl,?_⟩;have ex:x=n:=beq_iff_eq.mp hx;subst ex;by_cases hc:(k0==NameKind.free&&env.scope.kind== .function&&env.kindOf x==some .cell)=true
   .rw[if_pos hc] at h;simp only[Bool.and_eq_true,beq_iff_eq] at hc;exact .inr ⟨hc.1.1,h.symm,hc.2⟩
   .rw[if_neg hc] at h;exact .inl h
def zaz(σ:St)(fr:List Nat):St:=fr.map fun j=>(σ[j]?).join
theorem znv{X:Cx}{pins:List (Addr×Obj)}{σ:St}{H:Hp}{s s3:Shared}{scope:Scope}{own free:List Str}{fr:List Nat}{ex:List Addr}(S:zcN X scope)
  (I:Inv X pins σ H s)(hex:∀b∈ex,zfh X pins H b)(hob:∀b∈ex,∃o,s.heap.get? b=some o)(hfr:fr.map (fun j=>X.N[j]?)=free.map some)(hff:∀x∈free,scope.names.lookup x=some .free)
  (hs3:∀b o,s.heap.get? b=some o->s3.heap.get? b=some o)(hsz:s.heap.objs.size<=s3.heap.objs.size)(ho:s3.os=s.os)(hg:s3.gens=s.gens) :
  Inv (zB X (own++free) scope s3.heap.objs.size s H ex) [] (own.map (fun _=>none)++zaz σ fr) H { s3 with heap:=pushCells (s3.heap.push { cls:= .type "dict",data:= .dict #[] }) scope.names }:=by
 have hsome:∀x∈scope.names,x.2= .free->∃c,X.env.cells.lookup x.1=some c:=fun x hx e=>I.ok.has x.1 (S.free x hx e)
 have keep:∀b o,s3.heap.get? b=some o->(pushCells (s3.heap.push { cls:= .type "dict",data:= .dict #[] }) scope.names).get? b=some o:=fun b o e=>pushCells_keeps _ _ b o (Heap.get?_push_of_some _ e)
 have hkeep:∀b o,s.heap.get? b=some o->(pushCells (s3.heap.push { cls:= .type "dict",data:= .dict #[] }) scope.names).get? b=some o:=fun b o e=>keep b o (hs3 b o e)
 have cells:∀n c,(n,c)∈(zbN scope s3.heap.objs.size X.env).cells->((n,NameKind.free)∈scope.names/\X.env.cells.lookup n=some c)\/((n,NameKind.cell)∈scope.names/\s3.heap.objs.size+1<=c/\(pushCells (s3.heap.push { cls:= .type "dict",data:= .dict #[] }) scope.names).IsCell c none):=fun n c h=>by
  have h':(n,c)∈cellsFrom (s3.heap.objs.size+1) scope.names (zaC X.env scope.names []):=h;have hc:=zdx h';have e:=zb6 scope.names (s3.heap.push { cls:= .type "dict",data:= .dict #[] }) (zaC X.env scope.names []) n c (by rw[Heap.size_push];exact h');have fromClos:(n,c)∈zaC X.env scope.names []->(n,NameKind.free)∈scope.names/\X.env.cells.lookup n=some c:=fun hm=>by
   rcases zb7 hm with h | ⟨hn,rfl⟩
   .exact absurd h (by simp)
   .obtain⟨c',ec⟩:=hsome _ hn rfl;rw[ec];exact⟨hn,rfl⟩
  rcases hc with hc | hc
  .exact .inl (fromClos hc)
  .rcases e with e | e
   .exact .inl (fromClos e)
   .exact .inr ⟨hc.1,hc.2,e⟩
 have cell_lt:∀n c,X.env.cells.lookup n=some c->c < s.heap.objs.size:=fun n c e=>by
  obtain⟨v,o,ho,_⟩:=I.cell n c e;exact Heap.lt_size ho
 have apart:∀n n' c,(n,c)∈(zbN scope s3.heap.objs.size X.env).cells->(n',c)∈(zbN scope s3.heap.objs.size X.env).cells->n=n':=fun n n' c a b=>by
  refine zco (acc:=zaC X.env scope.names []) (m:=s3.heap.objs.size+1) (fun p hp=>?_) (fun n n' c a b=>?_) n n' c a b
  .obtain⟨n,c⟩:=p;rcases zb7 hp with h | ⟨hn,e⟩
   .exact absurd h (by simp)
   .obtain⟨c',ec⟩:=hsome _ hn rfl;rw[ec] at e;cases e;exact Nat.lt_succ_of_lt (Nat.lt_of_lt_of_le (cell_lt n _ ec) hsz)
  .rcases zb7 a with h | ⟨hn,e⟩
   .exact absurd h (by simp)
   .rcases zb7 b with h | ⟨hn',e'⟩
    .exact absurd h (by simp)
    .obtain⟨c1,e1⟩:=hsome _ hn rfl;obtain⟨c2,e2⟩:=hsome _ hn' rfl;have e1':X.env.cells.lookup n=some c1:=e1;have e2':X.env.cells.lookup n'=some c2:=e2;rw[e1'] at e;rw[e2'] at e';exact I.ok.inj n n' c (by rw[e1',e];rfl) (by rw[e2',e'];rfl)
 have vis:∀x,((zbN scope s3.heap.objs.size X.env).kindOf x=some .cell\/(zbN scope s3.heap.objs.size X.env).kindOf x=some .free)->(x,NameKind.cell)∈scope.names\/(x,NameKind.free)∈scope.names:=fun x h=>by
  rcases h with h | h
  .obtain⟨k',e,q⟩:=zbO h;rcases q with q | q
   .exact .inl (by rw[<- q];exact PySem.mem_of_lookup e)
   .exact .inr (by rw[<- q.1];exact PySem.mem_of_lookup e)
  .obtain⟨k',e,q⟩:=zbO h;rcases q with q | q
   .exact .inr (by rw[<- q];exact PySem.mem_of_lookup e)
   .exact .inr (by rw[<- q.1];exact PySem.mem_of_lookup e)
 have fsub:∀b∈frs X.stack,b=X.env.locals\/b∈X.fs:=fun b hb=>by
  have:=I.stkSub b hb;simpa using this
 have fresh:∀b,s.heap.objs.size<=b->s.heap.get? b=none:=fun b hb=>by
  cases e:s.heap.get? b with
  | none=>rfl
  | some o=>exact absurd (Heap.lt_size e) (Nat.not_lt.mpr hb)
 have exlt:∀b∈ex,b < s.heap.objs.size:=fun b hb=>by obtain⟨o,e⟩:=hob b hb;exact Heap.lt_size e
 refine⟨⟨I.ok.mod,S.kind,I.ok.glob,I.ok.blt,hsz,fun x y c a b=>apart x y c (PySem.mem_of_lookup a) (PySem.mem_of_lookup b),fun x hx=>?_,fun x c hx hc=>?_,I.ok.hd,I.ok.frames, .inl rfl,fun b hb=>?_,I.bs,?_,fun b o e hb=>?_,fun b hb hf=>?_,I.stack,I.stkFree⟩,
  ho,?_,Un.kept hkeep,?_,fun x c hc=>?_,I.hok.fresh hsz,fun x c hc=>?_,fun p hp=>absurd hp (by simp[zB]),I.hok.kept hkeep,?_⟩
 .rcases vis x hx with h | h
  .obtain⟨c,hc⟩:=zfL (m:=s3.heap.objs.size+1) (acc:=zaC X.env scope.names []) h;obtain⟨c',e,_⟩:=zaB hc;exact⟨c',e⟩
  .obtain⟨c',e,_⟩:=zaB (zbq (names:=scope.names) (m:=s3.heap.objs.size+1) (zge (env:=X.env) (acc:=[]) h));exact⟨c',e⟩
 .have hx':scope.names.lookup x=some .cell:=by simpa [zB] using hx
  rcases cells x c (PySem.mem_of_lookup hc) with h | h
  .have:=zg4 S.nd h.1 (PySem.mem_of_lookup hx');cases this
  .show s.heap.objs.size<=c;omega
 .refine⟨Nat.ne_of_lt (Nat.lt_of_lt_of_le (exlt b hb) hsz),fun x c hc=>?_⟩;rcases cells x c (PySem.mem_of_lookup hc) with h | h
  .exact(hex b hb).2.2.2.2.1 x c h.2
  .have:=exlt b hb;intro e;have e':Nat.lt c s.heap.objs.size:=by rw[e];exact this
   exact absurd (Nat.lt_of_lt_of_le e' hsz) (Nat.not_lt.mpr (Nat.le_of_succ_le h.2.1))
 .exact Nat.le_trans I.ok.bsz I.sz
 .have hb':b∈ex:=hb;rcases(hex b hb').2.2.2.1 with h | h
  .exact I.ok.noex b o e h
  .exact absurd (Heap.lt_size (I.ok.bs b o e).1) (Nat.not_lt.mpr h)
 .have hb':b∈ex:=hb;rcases fsub b hf with h | h
  .exact(hex b hb').2.1 h
  .exact(hex b hb').2.2.1 h
 .show AllBare s3.gens;rw[hg];exact I.bare
 .
  refine⟨_,(Heap.Ns.new s3.heap (.type "dict")).keeps (pushCells_keeps _ _),fun i x v hi hv vx=>?_⟩;have hN:(own++free)[i]? = some x:=hi;have hio:own.length<=i:=by
   rcases Nat.lt_or_ge i own.length with h | h
   .rw[List.getElem?_append_left (by simpa using h),List.getElem?_map,List.getElem?_eq_getElem h] at hv;cases hv
   .exact h
  rw[List.getElem?_append_right hio] at hN;rw[List.getElem?_append_right (by simpa using hio)] at hv;simp only[List.length_map] at hv;unfold zaz at hv;rw[List.getElem?_map] at hv;have hx2:=hff x (List.mem_of_getElem? hN);have hmem:(x,NameKind.free)∈scope.names:=PySem.mem_of_lookup hx2;cases ej:fr[i - own.length]? with
  | none=>rw[ej] at hv;cases hv
  | some j =>
   rw[ej] at hv;simp only[Option.map_some,Option.some.injEq] at hv;have hj:X.N[j]? = some x:=by
    have q:=congrArg (fun l=>l[i - own.length]?) hfr;simp only[List.getElem?_map,ej,hN,Option.map_some,Option.some.injEq] at q;exact q
   have hσ:σ[j]? = some (some v):=by
    cases e:σ[j]? with
    | none=>rw[e] at hv;cases hv
    | some w=>rw[e] at hv;simp at hv;rw[hv]
   obtain⟨m,hm,hl⟩:=I.loc;have kx:=S.free _ hmem rfl;obtain⟨u,ru,lk⟩:=hl j x v hj hσ (by rcases kx with k | k;exact .inr (.inl k);exact .inr (.inr k));refine⟨u,ru,?_⟩;rcases lk with⟨k,_⟩ | ⟨_,c,hc,hcell⟩
   .rcases kx with q | q<;>(have q':X.env.kindOf x=_:=q;rw[k] at q';cases q')
   .obtain⟨c',e',m'⟩:=zaB (zbq (names:=scope.names) (m:=s3.heap.objs.size+1) (zge (env:=X.env) (acc:=[]) hmem));have hcc:c'=c:=by
     rcases cells x c' m' with h | h
     .rw[h.2] at hc;cases hc;rfl
     .have:=zg4 S.nd h.1 hmem;cases this
    subst hcc;refine .inr ⟨?_,c',e',hcell.keeps hkeep⟩;rcases vx with q | q | q
    .obtain⟨k',ek,qq⟩:=zbO (env:=X.env) (names:=scope.names) q;rw[hx2] at ek;cases ek;rcases qq with qq | qq
     .cases qq
     .cases qq.2.1
    .exact .inl q
    .exact .inr q
 .rcases cells x c (PySem.mem_of_lookup hc) with h | h
  .obtain⟨v,hv⟩:=I.cell x c h.2;exact⟨v,hv.keeps hkeep⟩
  .exact⟨_,h.2.2⟩
 .rcases cells x c (PySem.mem_of_lookup hc) with h | h
  .exact I.freeC x c h.2
  .exact I.hok.fresh (by omega)
 .show _=(own++free).length;have q:=congrArg List.length hfr;simp only[List.length_map] at q;simp[zaz,q]
def PTs(X:Cx)(ifs:List Expr)(t:TT):Prop :=
 ∀(pins:List (Addr×Obj)) (s:Shared) (σ:St) (H:Hp) (Q:Bool->Hp->Prop),Inv X pins σ H s->t σ H Q ->
  wpAny (model X.prog X.w) X.A (forIn ifs true fun c r=>if r=true then do let ok<-isTrue c X.env (eval c X.env);pure (ForInStep.yield ok) else pure (ForInStep.yield r)) (TP X pins σ Q) X.xe s
def zyG:TT:=fun _ H Q=>Q true H
theorem zvx{X:Cx}:PTs X [] zyG:=fun pins s σ H Q I h=>wpAny_tests_nil ⟨H,I,h⟩
theorem zuK{X:Cx}{c:Expr}{t:TT}(h:PT X c t):PTs X [c] t:=fun pins s σ H Q I q=>wpAny_tests_one (h pins s σ H Q I q)
theorem zmx{prog:Program}{w:World}{A:Around}{R:Result->Shared->Prop}{s:Shared}{elt target iter:Expr}{ifs:List Expr}{scope:Scope}{pos:Pos}{it acc:Value}{env:Env}(I:Nat->Shared->Prop)
  (turn:∀n s,I n s->wpAny (model prog w) A (pyNext it) (fun r s₁=>match r with
   | none=>R (.ok .next) s₁
   | some v=>wpAny (model prog w) A (letOwnedTupleGo target it v) (fun _ s₁'=>wpAny (model prog w) A (assign target env v) (fun _ s₂ =>
     wpAny (model prog w) A (forIn ifs true fun c r=>if r=true then do let ok<-isTrue c env (eval c env);pure (ForInStep.yield ok) else pure (ForInStep.yield r)) (fun ok s₃ =>
      if ok=true then wpAny (model prog w) A (eval elt env) (fun x s₄ =>
       wpAny (model prog w) A (call (.builtin "list.append") [acc,x]) (fun _ s₅=>∃m,m < n/\I m s₅) (notedBy (model prog w) A env fun e s'=>R (.error e) s') s₄) (notedBy (model prog w) A env fun e s'=>R (.error e) s') s₃
      else ∃m,m < n/\I m s₃) (notedBy (model prog w) A env fun e s'=>R (.error e) s') s₂) (notedBy (model prog w) A env fun e s'=>R (.error e) s') s₁') (notedBy (model prog w) A env fun e s'=>R (.error e) s') s₁) (notedBy (model prog w) A env fun e s'=>R (.error e) s') s)
  (n:Nat) (h:I n s) :
  codeAny (model prog w) A (.compLoop (.ListComp elt [⟨target,iter,ifs,0⟩] scope pos) 0 it acc env) R s:=by
 refine codeAny_loop rfl I (fun n s hI=>?_) n h;show wpAny _ A ((compTurn (.ListComp elt [⟨target,iter,ifs,0⟩] scope pos) 0 it acc env).onRaise (fun x=>do noteFrame x env;theTreesLotGoes x)) _ _ s;refine wpAny_noted ?_;rw[compTurn_list];refine wpAny_bind (wpAny_standAt (wpAny_bind (wpAny_mono (turn n s hI) (fun r s₁ h₁=>?_) fun _ _ h'=>h')));cases r with
 | none=>exact wpAny_pure h₁
 | some v =>
  refine wpAny_bind (wpAny_mono h₁ (fun _ s₁' h₁'=>?_) fun _ _ h'=>h');refine wpAny_bind (wpAny_mono h₁' (fun _ s₂ h₂=>wpAny_bind (wpAny_mono h₂ (fun ok s₃ h₃=>?_) fun _ _ h'=>h')) fun _ _ h'=>h');cases ok with
  | false=>exact wpAny_pure ⟨rfl,h₃⟩
  | true =>
   exact wpAny_bind (wpAny_bind (wpAny_mono h₃ (fun x s₄ h₄=>wpAny_bind (wpAny_mono h₄ (fun _ s₅ h₅=>wpAny_pure (wpAny_pure ⟨rfl,h₅⟩)) fun _ _ h'=>h')) fun _ _ h'=>h'))
def Sub(σ σ2:St):Prop:=σ.length=σ2.length/\∀(i:Nat) v,σ[i]? = some (some v)->σ2[i]? = some (some v)
abbrev lobj(its:List Value)(n:Nat):Obj:={ cls:= .type "list",data:= .seq its.toArray n }
section
variable{X:Cx}{tg iter elt:Expr}{ifs:List Expr}{scope:Scope}{pos:Pos}{own free:List Str}{fr:List Nat}
def zhj(J:It)(g:TG)(tc:TT)(te:TE)(σb:St)(Fin:List V->Hp->Prop)(W:Nat->Nat->List V->Hp->Prop):Prop :=
 ∀i m ys H,W i m ys H->(J.stop i H/\Fin ys H)\/(J.go i H/\ys.length < sizeLine/\∃N:List V->Hp->Prop,(∀ys' H',N ys' H'->∃m',m' < m/\W (i+1) m' ys' H')/\∀x H',J.yld i H x H'->g x σb H' fun σ2 H3=>Sub σb σ2/\tc σ2 H3 fun b H4 =>
  if b=true then te σ2 H4 fun v H5=>N (ys++[v]) H5 else N ys H4)
theorem znx{pins:List (Addr×Obj)}{σ:St}{H2:Hp}{s2:Shared}{J:It}{fp:List Addr}{it:Addr}{tn:Nat->Heap->Prop}{g:TG}{tc:TT}{te:TE}{Fin:List V->Hp->Prop}{W:Nat->Nat->List V->Hp->Prop}{m0:Nat}
  {RR:Value->Addr->Result->Shared->Prop}{E:Value->Shared->Prop}
  (S:zcN X scope)(hc:X.calm=true)(hfr:fr.map (fun j=>X.N[j]?)=free.map some)(hff:∀x∈free,scope.names.lookup x=some .free)
  (hg:∀C s H ex,PG (zB X (own++free) scope C s H ex) tg g)(ht:∀C s H ex,PTs (zB X (own++free) scope C s H ex) ifs tc)(he:∀C s H ex,PE (zB X (own++free) scope C s H ex) elt te)
  (I2:Inv X pins σ H2 s2)(T:Turn X.prog X.w X.K tg J fp it tn)(st2:tn 0 s2.heap)(f2:∀b∈fp,zfh X pins H2 b)
  (w0:W 0 m0 [] H2)(turn:zhj J g tc te (own.map (fun _=>none)++zaz σ fr) Fin W)
  (hRR:∀D C its n ys H' s',Inv (zB X (own++free) scope C s2 H2 fp) [(D,lobj its n)] (own.map (fun _=>none)++zaz σ fr) H' s'->Vals ys its->ys.length<=sizeLine->Fin ys H'->s2.heap.objs.size<=D->RR (.ref D) C (.ok .next) s') :
  wpAny (model X.prog X.w) X.A (newList []) (fun acc s₃=>wpAny (model X.prog X.w) X.A (newFunctionEnv scope X.env.globals (zaC X.env scope.names []) [] X.env.qual none .none (some X.env)) (fun cenv s₄ =>
   codeAny (model X.prog X.w) X.A (.compStart (.ListComp elt [⟨tg,iter,ifs,0⟩] scope pos) 0 (.ref it) acc { cenv with scope:=relabel scope X.env }) (RR acc cenv.locals) s₄) E s₃) E s2:=by
 refine wpAny_newObj_type (zkm ?_);have hob:∀b∈fp,∃o,s2.heap.get? b=some o:=fun b hb=>by obtain⟨o,e,_⟩:=T.obj _ _ st2 b hb;exact⟨o,e⟩
 have fplt:∀b∈fp,b < s2.heap.objs.size:=fun b hb=>by obtain⟨o,e⟩:=hob b hb;exact Heap.lt_size e
 generalize hs3:({ s2 with heap:=s2.heap.push { cls:= .type "list",dict:=none,data:= .seq ([]:List Value).toArray } }:Shared)=s3
 have hh3:s3.heap=s2.heap.push (lobj [] 0):=by rw[<- hs3]
 have hC:s3.heap.objs.size=s2.heap.objs.size+1:=by rw[hh3,Heap.size_push]
 have keep3:∀b o,s2.heap.get? b=some o->s3.heap.get? b=some o:=fun b o e=>by rw[hh3];exact Heap.get?_push_of_some _ e
 have I3:=znv (own:=own) (ex:=fp) (s3:=s3) S I2 f2 hob hfr hff keep3 (by rw[hC];exact Nat.le_succ _) (by rw[<- hs3]) (by rw[<- hs3]);generalize hs4:({ s3 with heap:=pushCells (s3.heap.push { cls:= .type "dict",data:= .dict #[] }) scope.names }:Shared)=s4 at I3
 have keep4:∀b o,s3.heap.get? b=some o->s4.heap.get? b=some o:=fun b o e=>by rw[<- hs4];exact pushCells_keeps _ _ b o (Heap.get?_push_of_some _ e)
 have hD4:s4.heap.get? s2.heap.objs.size=some (lobj [] 0):=keep4 _ _ (by rw[hh3];exact Heap.get?_push_size _ rfl);have nf:s2.heap.objs.size∉frs X.stack:=fun hb=>by
  obtain⟨_,o,e,_⟩:=I2.stack.mem hb;exact absurd (Heap.lt_size e) (Nat.lt_irrefl _)
 have hDC:s2.heap.objs.size≠s3.heap.objs.size:=by rw[hC];exact Nat.ne_of_lt (Nat.lt_succ_self _)
 have cellD:∀{P:List (Addr×Obj)} {σ' H' s'} {its:List Value} {n:Nat},Inv (zB X (own++free) scope s3.heap.objs.size s2 H2 fp) P σ' H' s'->s'.heap.get? s2.heap.objs.size=some (lobj its n)->∀x c,(zbN scope s3.heap.objs.size X.env).cells.lookup x=some c->c≠s2.heap.objs.size:=fun I e x c hc z=>by
  obtain⟨v,o,eo,ed⟩:=I.cell x c hc;rw[z,e] at eo;cases eo;cases ed
 have pinD:∀{σ' H' s'} {its:List Value} {n:Nat},Inv (zB X (own++free) scope s3.heap.objs.size s2 H2 fp) [] σ' H' s'->s'.heap.get? s2.heap.objs.size=some (lobj its n)->H' s2.heap.objs.size=none ->
   Inv (zB X (own++free) scope s3.heap.objs.size s2 H2 fp) [(s2.heap.objs.size,lobj its n)] σ' H' s':=fun{σ' H' s' its n} I e hn=>I.pins_of fun p hp=>by
  have hp':p=(s2.heap.objs.size,lobj its n):=List.mem_singleton.mp hp;subst hp';exact⟨e,hn,hDC,nf,fun v=>by intro z;cases z⟩
 have I4:=pinD I3 hD4 (I2.hok.fresh (Nat.le_refl _));have fpOk:∀{σ' H' s'} {its:List Value} {n:Nat},Inv (zB X (own++free) scope s3.heap.objs.size s2 H2 fp) [(s2.heap.objs.size,lobj its n)] σ' H' s'->(∀b∈fp,H' b=none)->∀b∈fp,zfh (zB X (own++free) scope s3.heap.objs.size s2 H2 fp) [(s2.heap.objs.size,lobj its n)] H' b:=fun{σ' H' s' its n} I hn b hb=>by
  refine⟨hn b hb,(I.ok.exf b hb).1,I.ok.exfs b hb, .inl hb,(I.ok.exf b hb).2,fun p hp=>?_⟩;have hp':p=(s2.heap.objs.size,lobj its n):=List.mem_singleton.mp hp;subst hp';exact Ne.symm (Nat.ne_of_lt (fplt b hb))
 have stn4:tn 0 s4.heap:=T.keep _ _ _ st2 fun b hb o e=>keep4 b o (keep3 b o e)
 have loop:∀s',s'=s4->codeAny (model X.prog X.w) X.A (.compLoop (.ListComp elt [⟨tg,iter,ifs,0⟩] scope pos) 0 (.ref it) (.ref s2.heap.objs.size) (zbN scope s3.heap.objs.size X.env)) (RR (.ref s2.heap.objs.size) s3.heap.objs.size) s':=by
  rintro s' rfl;refine zmx (fun k s'=>∃i ys its n H',Inv (zB X (own++free) scope s3.heap.objs.size s2 H2 fp) [(s2.heap.objs.size,lobj its n)] (own.map (fun _=>none)++zaz σ fr) H' s'/\tn i s'.heap/\(∀b∈fp,H' b=none)/\Vals ys its/\ys.length<=sizeLine/\W i k ys H') ?_ m0
   ⟨0,[],[],0,H2,I4,stn4,fun b hb=>(f2 b hb).1, .nil,Nat.zero_le _,w0⟩
  rintro k s5 ⟨i,ys,its,n,H5,I5,st5,fr5,r5,len5,w5⟩;rcases turn i k ys H5 w5 with⟨stop,fin⟩ | ⟨go,hlt,N,hN,step⟩
  .refine wpAny_mono (T.done (zB X (own++free) scope s3.heap.objs.size s2 H2 fp) rfl rfl rfl hc i _ s5 _ H5 (fun _ _=>False) I5 (fpOk I5 fr5) st5 stop) (fun r s6 ⟨hr,I6⟩=>?_) fun _ _ f=>f.elim
   subst hr;exact hRR _ _ its n ys H5 s6 I6 r5 len5 fin (Nat.le_refl _)
  .refine wpAny_mono (T.item (zB X (own++free) scope s3.heap.objs.size s2 H2 fp) rfl rfl rfl hc i _ s5 _ H5 (fun _ _=>False) I5 (fpOk I5 fr5) st5 go) (fun r s6 ⟨u,hr,h6⟩=>?_) fun _ _ f=>f.elim
   subst hr;refine wpAny_mono h6 (fun _ s7 ⟨x,H7,I7,r7,y7,st7,fr7⟩=>?_) fun _ _ f=>f.elim
   have I7':=I7.pinned (fpOk I7 fr7) (T.obj _ _ st7);refine wpAny_mono (hg _ _ _ _ _ s7 _ H7 x u _ I7' r7 (step x H7 y7)) (fun _ s8 ⟨σ8,H8,I8,sub8,q8⟩=>?_) fun _ _ f=>f.elim
   refine wpAny_mono (ht _ _ _ _ _ s8 σ8 H8 _ I8 q8) (fun b s9 ⟨H9,I9,q9⟩=>?_) fun _ _ f=>f.elim
   have back:∀{H' s'},Inv (zB X (own++free) scope s3.heap.objs.size s2 H2 fp) ([(s2.heap.objs.size,lobj its n)]++zdr fp s7.heap) σ8 H' s'->tn (i+1) s'.heap/\(∀b∈fp,H' b=none):=fun{H' s'} I=>by
    refine⟨T.keep _ _ _ st7 fun b hb o e=>(I.pin (b,o) (List.mem_append_right _ (List.mem_append_right _ (zb5 hb e)))).1,fun b hb=>?_⟩;obtain⟨o,e,d⟩:=T.obj _ _ st7 b hb;exact(I.pin (b,o) (List.mem_append_right _ (List.mem_append_right _ (zb5 hb e)))).2.1
   cases b with
   | false =>
    obtain⟨m',hm,w9⟩:=hN _ _ q9;obtain⟨st9,fr9⟩:=back I9;exact⟨m',hm,i+1,ys,its,n,H9,I9.unpinned.weak sub8.1 sub8.2,st9,fr9,r5,len5,w9⟩
   | true =>
    refine wpAny_mono (he _ _ _ _ _ s9 σ8 H9 _ I9 q9) (fun v s10 ⟨y,H10,I10,r10,q10⟩=>?_) fun _ _ f=>f.elim
    obtain⟨m',hm,w10⟩:=hN _ _ q10;obtain⟨st10,fr10⟩:=back I10;have pD:=I10.pin (s2.heap.objs.size,lobj its n) (List.mem_append_right _ (List.mem_append_left _ List.mem_cons_self));refine append_at (hsz:=by rw[List.size_toArray,<- r5.length];exact len5) pD.1 fun h' hsb hnew=>?_
    have J0:Inv (zB X (own++free) scope s3.heap.objs.size s2 H2 fp) (zdr fp s7.heap) σ8 H10 s10:=I10.pins_of fun p hp=>I10.pin p (by
     have hp':p∈zdr fp s7.heap:=by simpa [zB] using hp
     exact List.mem_append_right _ (List.mem_append_right _ hp'))
    have J1:Inv (zB X (own++free) scope s3.heap.objs.size s2 H2 fp) (zdr fp s7.heap) σ8 H10 { s10 with heap:=h' }:=J0.turned (it:=s2.heap.objs.size) (t':=s10.toks) (fun b o hb e=>hsb.extBut b o hb e) pD.2.1 hDC (.inr (Nat.le_refl _)) (cellD J0 pD.1) (fun p hp=>by
     have hp':p∈zdr fp s7.heap:=by simpa [zB] using hp
     exact Nat.ne_of_lt (fplt _ (zlw hp').1))
    have J2:Inv (zB X (own++free) scope s3.heap.objs.size s2 H2 fp) [] σ8 H10 { s10 with heap:=h' }:=J1.pins_of fun p hp=>absurd hp (by simp[zB])
    have st11:tn (i+1) h':=T.keep _ _ _ st10 fun b hb o e=>hsb.extBut b o (Nat.ne_of_lt (fplt b hb)) e
    have e11:h'.get? s2.heap.objs.size=some (lobj (its++[v]) (n+1)):=by rw[hnew,List.push_toArray]
    refine⟨m',hm,i+1,ys++[y],its++[v],n+1,H10,(pinD J2 e11 pD.2.1).weak sub8.1 sub8.2,st11,fr10,r5.append (.cons r10 .nil),?_,w10⟩;rw[List.length_append,List.length_singleton];exact hlt
 refine codeAny_compStart_list (loop _ rfl) (T.self X.A 0 _ _ _ stn4 (loop _ rfl))
theorem zne{pins:List (Addr×Obj)}{σ σ':St}{H2 H':Hp}{s2 s':Shared}{fp:List Addr}{C D:Addr}{its:List Value}{n:Nat}{ys:List V}{N:List Str}{h'':Heap}
  (I2:Inv X pins σ H2 s2)(f2:∀b∈fp,zfh X pins H2 b)(I:Inv (zB X N scope C s2 H2 fp) [(D,lobj its n)] σ' H' s')(r:Vals ys its)(hz:ys.length<=sizeLine)(hD:s2.heap.objs.size<=D)(hs:Heap.SameBut C s'.heap h'') :
  Inv X pins σ (upd H' D (.lst ys)) { s' with heap:=h'' }/\H' D=none:=by
 have pD:=I.pin (D,lobj its n) (List.mem_append_right _ List.mem_cons_self);have hCs:s2.heap.objs.size<=C:=I.ok.above;have hDC:D≠C:=pD.2.2.1;have u:Un (frs X.stack) fp H2 H' s2.heap s'.heap:=I.base;have lt2:∀b o,s2.heap.get? b=some o->b≠C/\b≠D:=fun b o e=>by
  have:=Heap.lt_size e;exact⟨Nat.ne_of_lt (Nat.lt_of_lt_of_le this hCs),Nat.ne_of_lt (Nat.lt_of_lt_of_le this hD)⟩
 have tD:∀b o,H2 b=some o->b≠D:=fun b o e z=>by
  have:=I2.hok.lt e;rw[z] at this;exact absurd this (Nat.not_lt.mpr hD)
 have hC':∀b o,H' b=some o->b≠C:=fun b o e z=>by
  have:=I.free;rw[show(zB X N scope C s2 H2 fp).env.locals=C from rfl,<- z,e] at this;cases this
 have hok1:HOk X.prog X.w H' h'':=fun a o e=>(I.hok a o e).stay (fun b ob hb eb=>by
   rcases hb with hb | hb
   .rw[hb];rw[hb] at eb;exact hs.extBut _ _ (hC' a o e) eb
   .exact hs.extBut _ _ (hC' b _ hb) eb) (fun _ h=>h) (fun _ _ h=>h)
 have oD:h''.get? D=some (lobj its n):=hs.extBut _ _ hDC pD.1;have hok:HOk X.prog X.w (upd H' D (.lst ys)) h'':=fun a o e=>by
  by_cases ha:a=D
  .subst ha;rw[zz] at e;cases e;exact⟨hz,its,n,r,oD⟩
  .rw[zE ha] at e;refine(hok1 a o e).stay (fun b ob _ eb=>eb) (fun b h=>?_) (fun b xs h=>?_)
   .rw[zE (fun z=>by rw[z,pD.2.1] at h;cases h)];exact h
   .rw[zE (fun z=>by rw[z,pD.2.1] at h;cases h)];exact h
 have u2:Un (frs X.stack) fp H2 (upd H' D (.lst ys)) s2.heap h'' :=
  {keep:=fun b o e hn hf hx=>hs.extBut b o (lt2 b o e).1 (u.keep b o e hn hf hx)
   slot:=fun b o e hn hf hx=>by
    obtain⟨sl,q⟩:=u.slot b o e hn hf hx;exact⟨sl,hs.extBut b _ (lt2 b o e).1 q⟩
   free:=fun b o e hn hx=>by rw[zE (lt2 b o e).2];exact u.free b o e hn hx
   there:=fun b o e hx=>by
    obtain⟨o',q⟩:=u.there b o e hx;exact⟨o',hs.extBut b _ (lt2 b o e).1 q⟩
   tups:=fun b xs e=>by rw[zE (tD b _ e)];exact u.tups b xs e
   frzs:=fun b o v e=>by rw[zE (tD b _ e)];exact u.frzs b o v e
   tbls:=fun b ps e=>by rw[zE (tD b _ e)];exact u.tbls b ps e }
 refine⟨I2.call' (s':={ s' with heap:=h'' }) (ch:=fp) I.os u2 hok I.bare fun b hb=>?_,pD.2.1⟩;have q:=f2 b hb;exact⟨q.2.2.2.1,q.2.1,q.2.2.2.2.1,q.2.2.2.2.2⟩
def zk5(own:List Str)(fr:List Nat)(wi:TI)(g:TG)(tc:TT)(te:TE):TE:=fun σ H Q=>wi σ H fun J H1=>∃W:Nat->Nat->List V->Hp->Prop,(∃m,W 0 m [] H1) /\
 zhj J g tc te (own.map (fun _=>none)++zaz σ fr) (fun ys H'=>∀p,H' p=none->Q (.ref p) (upd H' p (.lst ys))) W
theorem zvg{wi:TI}{g:TG}{tc:TT}{te:TE}(own free:List Str)(fr:List Nat)(S:zcN X scope)(hc:X.calm=true)(hfr:fr.map (fun j=>X.N[j]?)=free.map some)(hff:∀x∈free,scope.names.lookup x=some .free)
  (hi:PI X tg iter wi)
  (hg:∀C s H ex,PG (zB X (own++free) scope C s H ex) tg g)(ht:∀C s H ex,PTs (zB X (own++free) scope C s H ex) ifs tc)(he:∀C s H ex,PE (zB X (own++free) scope C s H ex) elt te)
  (hs:∀x,foldedSetIterable iter X.env x=pure x:=by intro _;rfl) :
  PE X (.ListComp elt [⟨tg,iter,ifs,0⟩] scope pos) (zk5 own fr wi g tc te):=by
 intro pins s σ H Q I h;have hcl:closureFor scope X.env=pure (zaC X.env scope.names []):=zdo fun x hx e=>by
  obtain⟨c,hc⟩:=I.ok.has x.1 (S.free x hx e);rw[hc];rfl
 rw[eval_ListComp];refine wpAny_comprehension_free (use:=none) rfl hs hcl S.kind (fun x hx e=>by have:=zeq S.nd (show(x.1,x.2)∈scope.names from hx);rw[this,e]) (thn (hi pins s σ H _ I h) fun v s1 h1=>thn h1 fun itv s2 h2=>?_);obtain⟨it,fp,tn,J,H2,e,I2,T,st2,f2,W,⟨m0,w0⟩,turn⟩:=h2;subst e;refine znx (RR:=fun acc C=>compPost (model X.prog X.w) X.A X.xe none (EP X pins σ Q) acc C) S hc hfr hff hg ht he I2 T st2 f2 w0 turn ?_;intro D C its n ys H' s' I' r hz fin hD;obtain⟨m,hm,_⟩:=I'.loc;refine⟨m,hm,fun h'' hsb=>?_⟩;obtain⟨J',hn⟩:=zne I2 f2 I' r hz hD hsb;exact⟨.ref D,_,J',rfl,fin D hn⟩
theorem zvY{wi:TI}{g:TG}{tc:TT}{te:TE}{i:Nat}{x:Str}{pos' spos:Pos}(own free:List Str)(fr:List Nat)(hN:X.N.Nodup)(hx:X.N[i]? = some x)(hl:X.env.scope.names.lookup x=some .local)
  (S:zcN X scope)(hc:X.calm=true)(hfr:fr.map (fun j=>X.N[j]?)=free.map some)(hff:∀x∈free,scope.names.lookup x=some .free)
  (hi:PI X tg iter wi)
  (hg:∀C s H ex,PG (zB X (own++free) scope C s H ex) tg g)(ht:∀C s H ex,PTs (zB X (own++free) scope C s H ex) ifs tc)(he:∀C s H ex,PE (zB X (own++free) scope C s H ex) elt te)
  (hsw:swapsWith (.ListComp elt [⟨tg,iter,ifs,0⟩] scope pos) (some (.Name x pos')) spos.line X.env=pure true:=by rfl)
  (hs:∀x,foldedSetIterable iter X.env x=pure x:=by intro _;rfl) :
  PS X (.Assign [.Name x pos'] (.ListComp elt [⟨tg,iter,ifs,0⟩] scope pos) spos) (zdO (zk5 own fr wi g tc te) (zd8 i)):=by
 intro pins s σ H D0 I h;have hcl:closureFor scope X.env=pure (zaC X.env scope.names []):=zdo fun x hx e=>by
  obtain⟨c,hc⟩:=I.ok.has x.1 (S.free x hx e);rw[hc];rfl
 rw[exec_Assign_Name_used _ _ _ _ hsw];refine wpAny_bind (wpAny_standAt (wpAny_bind ?_));show wpAny _ X.A (do let _<-comprehension (.ListComp elt [⟨tg,iter,ifs,0⟩] scope pos) scope X.env _ (newList []) false (eval iter X.env) (some (assign (.Name x pos') X.env))) _ _ s;refine wpAny_bind (thn (wpAny_comprehension_free (use:=some (assign (.Name x pos') X.env)) (Q:=fun _ s'=>SP X pins D0 .next s') rfl hs hcl S.kind (fun x hx e=>by have:=zeq S.nd (show(x.1,x.2)∈scope.names from hx);rw[this,e])
  (thn (hi pins s σ H _ I h) fun v s1 h1=>thn h1 fun itv s2 h2=>?_)) (fun _ s' hq=>wpAny_pure (wpAny_pure hq)))
 obtain⟨it,fp,tn,J,H2,e,I2,T,st2,f2,W,⟨m0,w0⟩,turn⟩:=h2;subst e;refine znx (RR:=fun acc C=>compPost (model X.prog X.w) X.A X.xe (some (assign (.Name x pos') X.env)) (fun _ s'=>SP X pins D0 .next s') acc C) S hc hfr hff hg ht he I2 T st2 f2 w0 turn ?_;intro D C its n ys H' s' I' r hz fin hD;obtain⟨m,hm,_⟩:=I'.loc;obtain⟨J',hn⟩:=zne I2 f2 I' r hz hD (Heap.SameBut.refl C s'.heap);show wpAny _ _ (assign (.Name x pos') X.env (.ref D)) _ _ _;have hCx:(zB X (own++free) scope C s2 H2 fp).env.locals=C:=rfl;have hCl:C≠X.env.locals:=by
  have:=I2.lt;have h2:s2.heap.objs.size<=C:=I'.ok.above;exact Ne.symm (Nat.ne_of_lt (Nat.lt_of_lt_of_le this h2))
 refine wpAny_assign_Name (zkR (s:={ s' with heap:=s'.heap }) J' hN hx (.inl hl) (show RelV (.ref D) (.ref D) from rfl) (fun s3 I3 ⟨a,sb,ha⟩=>?_) (.inr hl));have haC:C≠a:=by
  rcases ha with rfl | ha
  .exact hCl
  .intro z;obtain⟨v,o,eo,_⟩:=I2.cell x a ha;have h2:s2.heap.objs.size<=C:=I'.ok.above;have:=Heap.lt_size eo;rw[<- z] at this;exact absurd this (Nat.not_lt.mpr h2)
 have nsC:s3.heap.Ns C m:=hm.sameBut sb haC;refine⟨m,nsC,fun h'' hsb=>?_⟩;refine⟨_,_,?_,fin D hn⟩;have hC2:s2.heap.objs.size<=C:=I'.ok.above;have hCn:(upd H' D (.lst ys)) C=none:=by
  rw[zE (fun z=>?_)]
  .exact I'.free
  .exact(I'.pin (D,lobj its n) (List.mem_append_right _ List.mem_cons_self)).2.2.1 z.symm
 have:=I3.turned (it:=C) (h':=h'') (t':=s3.toks) (fun b o hb e=>hsb.extBut b o hb e) hCn hCl (.inr (Nat.le_trans I2.sz hC2)) (fun y c hc z=>by
   obtain⟨v,o,eo,_⟩:=I2.cell y c hc;have:=Heap.lt_size eo;rw[z] at this;exact absurd this (Nat.not_lt.mpr hC2)) (fun p hp z=>by
   have:=Heap.lt_size (I2.pin p hp).1;rw[z] at this;exact absurd this (Nat.not_lt.mpr hC2))
 exact this
end
def zbP(lo:Int)(n:Nat):List Int:=(List.range n).map fun(i:Nat)=>lo+(i:Int)
theorem zjK{lo:Int}{n i:Nat}(h:i < n):(zbP lo n)[i]? = some (lo+i):=by
 unfold zbP;rw[List.getElem?_map,List.getElem?_range h];rfl
theorem zcb(lo:Int)(n:Nat):(zbP lo n).length=n:=by simp[zbP]
section
variable{X:Cx}
def zio(i j:Int):Prop:=0 < j/\j < 2^250
theorem zeC:OpR X (binaryOp .FloorDiv) (rI zio fun i j=> .int (i / j)):=opI fun i j t u s Q E h q=>by
 have e:i.fdiv j=i / j:=Int.fdiv_eq_ediv_of_nonneg i (Int.le_of_lt h.1);rw[<- e] at q;refine floordiv_int (by have:=h.1;omega) q (Or.inl (PyProof.noPylong_of_log2 ?_));have h2:=h.2;have hn:j.natAbs < 2^250:=by have:=h.1;omega
 exact Nat.lt_trans (Nat.log2_lt (by have:=h.1;omega) |>.mpr hn) (by decide)
theorem zdZ:∀{ns:List Int} {us:List Value},Vals (ns.map V.int) us->IntsAre us ns
 | [],_, .nil=> .nil
 | _::_,_, .cons ⟨t,rfl⟩ r=> .cons _ _ (zdZ r)
theorem zqU(hc:X.calm=true):zN X (.builtin "max") (fun xs H Q=>∃p ns,xs=[.ref p]/\SqL X.K H p (ns.map V.int)/\ns≠[]/\∀M∈ns,(∀a∈ns,a<=M)->Q (.int M) H):=by
 intro pins s σ H xs us Q I r h;obtain⟨p,ns,rfl,hl,hne,q⟩:=h;obtain⟨u,rfl,rx⟩:=vals1 r;cases rx;obtain⟨its,r',pl,hz⟩:=I.list hl;have hi:=zdZ r';obtain⟨ys,e⟩:=hi.allInts.items;have hns:ns=ys.toList.map (·.1):=by rw[<- hi.numsOf,<- nums_intItems,<- e]
 have hsz:0 < ys.size:=by
  rcases Nat.eq_zero_or_pos ys.size with h0 | h0
  .have:ys.toList=[]:=by simpa using h0
   rw[this] at hns;exact absurd hns hne
  .exact h0
 have hl':=pl.isList;rw[e] at hl';refine max_intList (I.ok.hd hc) hl' hsz fun v h' tk hv hk=>?_
 obtain⟨t,rfl⟩:=intItems_at hv;obtain⟨h1,h2⟩:=argBest_gt (numAt ys) (ys.size - 1);refine⟨.int _,H,I.kept hk,⟨t,rfl⟩,q _ ?_ fun a ha=>?_⟩
 .rw[hns,numAt_eq];exact getD_mem (by rw[List.length_map,Array.length_toList];omega)
 .rw[hns] at ha;obtain⟨j,hj,rfl⟩:=mem_getD ha;rw[List.length_map,Array.length_toList] at hj;rw[<- numAt_eq];exact h2 j (by omega)
theorem zqz(hc:X.calm=true):zN X (.builtin "min") (fun xs H Q=>∃p ns,xs=[.ref p]/\SqL X.K H p (ns.map V.int)/\ns≠[]/\∀M∈ns,(∀a∈ns,M<=a)->Q (.int M) H):=by
 intro pins s σ H xs us Q I r h;obtain⟨p,ns,rfl,hl,hne,q⟩:=h;obtain⟨u,rfl,rx⟩:=vals1 r;cases rx;obtain⟨its,r',pl,hz⟩:=I.list hl;have hi:=zdZ r';obtain⟨ys,e⟩:=hi.allInts.items;have hns:ns=ys.toList.map (·.1):=by rw[<- hi.numsOf,<- nums_intItems,<- e]
 have hsz:0 < ys.size:=by
  rcases Nat.eq_zero_or_pos ys.size with h0 | h0
  .have:ys.toList=[]:=by simpa using h0
   rw[this] at hns;exact absurd hns hne
  .exact h0
 have hl':=pl.isList;rw[e] at hl';refine min_intList (I.ok.hd hc) hl' hsz fun v h' tk hv hk=>?_
 obtain⟨t,rfl⟩:=intItems_at hv;obtain⟨h1,h2⟩:=argBest_lt (numAt ys) (ys.size - 1);refine⟨.int _,H,I.kept hk,⟨t,rfl⟩,q _ ?_ fun a ha=>?_⟩
 .rw[hns,numAt_eq];exact getD_mem (by rw[List.length_map,Array.length_toList];omega)
 .rw[hns] at ha;obtain⟨j,hj,rfl⟩:=mem_getD ha;rw[List.length_map,Array.length_toList] at hj;rw[<- numAt_eq];exact h2 j (by omega)
theorem zmT:zN X (.builtin "isinstance") (fun xs H Q=>∃x c t b,xs=[x,c]/\zfl X.K H x t/\(∀u,RelV c u->kitOne X.K t u=some b)/\Q (.bl b) H):=by
 intro pins s σ H xs us Q I r h;obtain⟨x,c,t,b,rfl,ty,e,q⟩:=h;obtain⟨u,v,rfl,ru,rv⟩:=vals2 r;exact zqm I ru ty (e v rv) fun tk=>⟨.bl b,H,I.tok tk,rfl,q⟩
end
theorem zly{prog:Program}{w:World}{A:Around}{E:Value->Shared->Prop}{s:Shared}{l:Addr}{items:Array Value}{Q:Value->Shared->Prop}(hl:s.heap.IsList l items)
  (h:∀s₂:Shared,s₂={ s with heap:=s.heap.push { cls:= .type "list_iterator",data:= .fields #[.ref l, .int 0 0] } }->(s₂.heap.IsListIter s.heap.objs.size l 0/\s₂.heap.IsList l items)->l≠s.heap.objs.size->Q (.ref s.heap.objs.size) s₂) :
  wpAny (model prog w) A (pyIter (.ref l)) Q E s:=by
 have hlt:l < s.heap.objs.size:=by obtain⟨_,e,_⟩:=hl;exact Heap.lt_size e
 exact wpAny_pyIter_list hl (h _ rfl ⟨⟨_,Heap.get?_push_size _ rfl,rfl,rfl⟩,hl.push _⟩ (Nat.ne_of_lt hlt))
structure Has(P:Program)(w:World)(K:Frag)(mg:Str->Option Value)(base:Heap)(CX:CXT)(x:Str)(k:Nat)(ps:List Str)(sp:Sp):Prop where
 ex:∃f fd,zV P w K mg base CX k f fd ps sp/\Binds K fd ps []/\keepIn K (.ref f)=true/\mg x=some (.ref f)
section
variable{X:Cx}{CX:CXT}{j k:Nat}{ps:List Str}{sp:Sp}{E:XK}{x:Str}{p pos:Pos}{e:Expr}{es:List Expr}{t:TA}
theorem ztf(h:Has X.prog X.w X.K X.mg X.base CX x j ps sp)(hr:zfm k X.A)(ha:PA X (e::es) t)(hj:j<=k:=by decide)(hg:Gl X x:=by rfl)(hx:zcs CX X E:=by exact zk6)(hdb:(x==("__debug__":Str))=false:=by decide)
  (he:starEach (e::es) X.env=(false,eval e X.env)::starEach es X.env:=by rfl)(hpl:(backTo pos (starEach es X.env)).any (·.1)=false:=by rfl):PE X (.Call (.Name x p) (e::es) [] pos) (znu sp [] E t):=by
 obtain⟨f,fd,F,b,kp,m⟩:=h.ex;exact zuw (F.mono hj) hr hg m kp b .nil hx ha hdb he hpl
end
theorem zaA:bootBuiltins "len"=some (.builtin "len"):=by decide+kernel
theorem zw5:bootBuiltins "abs"=some (.builtin "abs"):=by decide+kernel
theorem zxf:bootBuiltins "max"=some (.builtin "max"):=by decide+kernel
theorem zoH:bootBuiltins "min"=some (.builtin "min"):=by decide+kernel
theorem zov:bootBuiltins "all"=some (.builtin "all"):=by decide+kernel
theorem zx9:bootBuiltins "any"=some (.builtin "any"):=by decide+kernel
theorem ze8:bootBuiltins "sorted"=some (.builtin "sorted"):=by decide+kernel
theorem zbu:bootBuiltins "isinstance"=some (.builtin "isinstance"):=by decide+kernel
theorem zpF:bootBuiltins "list"=some (.type "list"):=by decide+kernel
theorem zcT:bootBuiltins "tuple"=some (.type "tuple"):=by decide+kernel
theorem zui:bootBuiltins "int"=some (.type "int"):=by decide+kernel
theorem zp1:bootBuiltins "bool"=some (.type "bool"):=by decide+kernel
theorem zub:bootBuiltins "set"=some (.type "set"):=by decide+kernel
structure Blt(mg:Str->Option Value):Prop where
 len:mg "len"=none
 abs:mg "abs"=none
 max:mg "max"=none
 min:mg "min"=none
 all:mg "all"=none
 any:mg "any"=none
 sum:mg "sum"=none
 sorted:mg "sorted"=none
 isinstance:mg "isinstance"=none
 list:mg "list"=none
 tuple:mg "tuple"=none
 int:mg "int"=none
 bool:mg "bool"=none
 str:mg "str"=none
 set:mg "set"=none
 dict:mg "dict"=none
 zip:mg "zip"=none
 range:mg "range"=none
 enumerate:mg "enumerate"=none
 reversed:mg "reversed"=none
 repr:mg "repr"=none
theorem zsK{N:List Str}{vs:List V}:start N vs=vs.map some++List.replicate (N.length - vs.length) none:=rfl
def zlO(a:Addr)(H H':Hp):Prop:=∀b,b≠a->H' b=H b
def intOf:Expr->Option Int
 | .Constant (.int i) _ _=>some i
 | _=>none
theorem zoz{e:Expr}{i:Int}(h:intOf e=some i):∃k pos,e= .Constant (.int i) k pos:=by
 unfold intOf at h;split at h
 .cases h;exact⟨_,_,rfl⟩
 .cases h
def zs8(ks:List Int):TA:=fun _ H Q=>Q (ks.map V.int) H
theorem zpU{X:Cx}:∀(ks:List Int) {es:List Expr},es.map intOf=ks.map some->PA X es (zs8 ks)
 | [],[],_=>zuf
 | k::ks,e::es,h=>by
  simp only[List.map_cons,List.cons.injEq] at h;obtain⟨n,p,rfl⟩:=zoz h.1;have ih:=zpU (X:=X) ks h.2;intro pos pins s σ H Q I q;exact zpw (X:=X) zt5 ih rfl pos pins s σ H Q I q
 | [],_::_,h=>by simp at h
 | _::_,[],h=>by simp at h
mutual
def Dat(K:Frag)(H:Hp):PyData->V->Prop
 | .none,v=>v= .non
 | .bool b,v=>v= .bl b
 | .int i,v=>v= .int i
 | .str x,v=>v= .str x
 | .list ds,v=>∃a xs,v= .ref a/\SqL K H a xs/\zdF K H ds xs
 | .tuple ds,v=>∃a xs,v= .ref a/\SqT K H a xs/\zdF K H ds xs
 | .dict _,_=>False
def zdF(K:Frag)(H:Hp):List PyData->List V->Prop
 | [],xs=>xs=[]
 | d::ds,xs=>∃x r,xs=x::r/\Dat K H d x/\zdF K H ds r
end
theorem zdF.nil{K:Frag}{H:Hp}:zdF K H [] []:=by unfold zdF;rfl
theorem zdF.cons{K:Frag}{H:Hp}{d:PyData}{ds:List PyData}{x:V}{xs:List V}(a:Dat K H d x)(b:zdF K H ds xs):zdF K H (d::ds) (x::xs):=by unfold zdF;exact⟨x,xs,rfl,a,b⟩
theorem Dat.i{K:Frag}{H:Hp}{i:Int}:Dat K H (.int i) (.int i):=by unfold Dat;rfl
theorem Dat.s{K:Frag}{H:Hp}{x:Str}:Dat K H (.str x) (.str x):=by unfold Dat;rfl
theorem Dat.b{K:Frag}{H:Hp}{x:Bool}:Dat K H (.bool x) (.bl x):=by unfold Dat;rfl
theorem Dat.n{K:Frag}{H:Hp}:Dat K H .none .non:=by unfold Dat;rfl
theorem Dat.tup{K:Frag}{H:Hp}{a:Addr}{xs:List V}{ds:List PyData}(h:SqT K H a xs)(b:zdF K H ds xs):Dat K H (.tuple ds) (.ref a):=by unfold Dat;exact⟨a,xs,rfl,h,b⟩
theorem Dat.lst{K:Frag}{H:Hp}{a:Addr}{xs:List V}{ds:List PyData}(h:SqL K H a xs)(b:zdF K H ds xs):Dat K H (.list ds) (.ref a):=by unfold Dat;exact⟨a,xs,rfl,h,b⟩
section
variable{X:Cx}{pins:List (Addr×Obj)}{σ:St}{H:Hp}{s:Shared}
mutual
theorem Dat.reads(I:Inv X pins σ H s):∀{d:PyData} {v:V} {u:Value},Dat X.K H d v->RelV v u->∃as,Reads s.heap u d as
 | .none,v,u,h,r=>by unfold Dat at h;subst h;cases r;exact⟨_, .none⟩
 | .bool b,v,u,h,r=>by unfold Dat at h;subst h;cases r;exact⟨_, .bool b⟩
 | .int i,v,u,h,r=>by unfold Dat at h;subst h;obtain⟨t,rfl⟩:=r;exact⟨_, .int i t⟩
 | .str x,v,u,h,r=>by unfold Dat at h;subst h;obtain⟨t,rfl⟩:=r;exact⟨_, .str x t⟩
 | .list ds,v,u,h,r=>by
  unfold Dat at h;obtain⟨a,xs,rfl,hl,hd⟩:=h;cases r;obtain⟨its,r',pl,hz⟩:=I.list hl;obtain⟨as,q⟩:=zdF.reads I hd r';obtain⟨o,ho,hc,n,hdt⟩:=pl.isList;exact⟨_, .list ho hc hdt (by simpa using q)⟩
 | .tuple ds,v,u,h,r=>by
  unfold Dat at h;obtain⟨a,xs,rfl,hl,hd⟩:=h;cases r;obtain⟨its,r',pl,hz⟩:=I.tuple hl;obtain⟨as,q⟩:=zdF.reads I hd r';obtain⟨o,ho,hc,n,hdt⟩:=pl;exact⟨_, .tuple ho hc hdt (by simpa using q)⟩
 | .dict _,v,u,h,r=>by unfold Dat at h;exact h.elim
theorem zdF.reads(I:Inv X pins σ H s):∀{ds:List PyData} {xs:List V} {us:List Value},zdF X.K H ds xs->Vals xs us->∃as,ReadsAll s.heap us ds as
 | [],xs,us,h,r=>by unfold zdF at h;subst h;cases r;exact⟨_, .nil⟩
 | d::ds,xs,us,h,r=>by
  unfold zdF at h;obtain⟨x,rs,rfl,h1,h2⟩:=h;cases r with
  | cons ru rr =>
   obtain⟨as,q⟩:=Dat.reads I h1 ru;obtain⟨bs,q2⟩:=zdF.reads I h2 rr;exact⟨_, .cons q q2⟩
end
end
structure ziz(d:PyData):Prop where
 lay:d.canLay0=true
 deep:d.depth<=60
section
variable{X:Cx}{k:Nat}
theorem zwS{cm:Bool}(hr:zaV cm k X.A):OpR X (compareOp .Eq) (fun x y H Q=>∃d d',Dat X.K H d x/\Dat X.K H d' y/\ziz d/\ziz d'/\Q (.bl (PyData.eqv d d')) H):=by
 intro pins s σ H x y v u Q I rx ry h;obtain⟨d,d',h1,h2,o1,o2,q⟩:=h;obtain⟨as,r1⟩:=h1.reads I rx;obtain⟨bs,r2⟩:=h2.reads I ry;refine SeqAt.compareEq_reads r1 r2 o1.lay o2.lay ?_ ⟨.bl _,H,I,rfl,q⟩;have:=hr.units;have:=o1.deep;omega
theorem zyI{cm:Bool}(hr:zaV cm k X.A):OpR X (compareOp .NotEq) (fun x y H Q=>∃d d',Dat X.K H d x/\Dat X.K H d' y/\ziz d/\ziz d'/\Q (.bl (!PyData.eqv d d')) H):=by
 intro pins s σ H x y v u Q I rx ry h;obtain⟨d,d',h1,h2,o1,o2,q⟩:=h;obtain⟨as,r1⟩:=h1.reads I rx;obtain⟨bs,r2⟩:=h2.reads I ry;refine SeqAt.compareNe_reads r1 r2 o1.lay o2.lay ?_ ⟨.bl _,H,I,rfl,q⟩;have:=hr.units;have:=o1.deep;omega
end
theorem all_range(bs:List Bool):(List.range bs.length).all (fun i=>bs.getD i true)=bs.all id:=by
 rw[Bool.eq_iff_iff,List.all_eq_true,List.all_eq_true];constructor
 .intro h x hx;obtain⟨i,hi,e⟩:=List.mem_iff_getElem.mp hx;have:=h i (List.mem_range.mpr hi);rw[List.getD_eq_getElem?_getD,List.getElem?_eq_getElem hi] at this;rw[<- e];exact this
 .intro h i hi;have hi':=List.mem_range.mp hi;rw[List.getD_eq_getElem?_getD,List.getElem?_eq_getElem hi'];exact h _ (List.getElem_mem hi')
theorem any_range(bs:List Bool):(List.range bs.length).any (fun i=>bs.getD i true)=bs.any id:=by
 rw[Bool.eq_iff_iff,List.any_eq_true,List.any_eq_true];constructor
 .rintro⟨i,hi,h⟩;have hi':=List.mem_range.mp hi;rw[List.getD_eq_getElem?_getD,List.getElem?_eq_getElem hi'] at h;exact⟨_,List.getElem_mem hi',h⟩
 .rintro⟨x,hx,h⟩;obtain⟨i,hi,e⟩:=List.mem_iff_getElem.mp hx;refine⟨i,List.mem_range.mpr hi,?_⟩;rw[List.getD_eq_getElem?_getD,List.getElem?_eq_getElem hi,e];exact h
theorem zi4:∀{bs:List Bool} {us:List Value},Vals (bs.map V.bl) us->us=bs.map Value.bool
 | [],_, .nil=>rfl
 | _::_,_, .cons r t=>by cases r;rw[zi4 t];rfl
section
variable{X:Cx}
theorem zrw(hc:X.calm=true):zN X (.builtin "all") (fun xs H Q=>∃(p:Addr) (bs:List Bool),xs=[.ref p]/\SqL X.K H p (bs.map V.bl)/\Q (.bl (bs.all id)) H):=by
 intro pins s σ H xs us Q I r h;obtain⟨p,bs,rfl,hl,q⟩:=h;obtain⟨u,rfl,rx⟩:=vals1 r;cases rx;obtain⟨its,r',pl,hz⟩:=I.list hl;have e:=zi4 r';subst e;refine call_all_walk (zly pl.isList fun s₂ e2 st hne=>?_);subst e2;refine⟨_,_,_,_,_,_,fun i=>bs.getD i true,rfl,Walks.list (A:=X.A.in1) (I.ok.hd hc) s.heap.objs.size p hne _,st,fun i v s3 Q3 E3 hP hQ=>?_,fun h' tk hk=>?_⟩
 .have hP':(bs.map Value.bool)[i]? = some v:=by simpa using hP
  rw[List.getElem?_map] at hP';cases eb:bs[i]? with
  | none=>rw[eb] at hP';cases hP'
  | some b =>
   rw[eb] at hP';cases hP';refine wpAny_truthy_bool ?_;dsimp only at hQ;rw[List.getD_eq_getElem?_getD,eb] at hQ;exact hQ
 .rw[List.size_toArray,List.length_map,all_range];refine⟨.bl _,H,I.kept (fun b o e=>hk b o (fun z=>?_) (Heap.get?_push_of_some _ e)),rfl,q⟩;rw[List.mem_singleton] at z;exact absurd (z▸Heap.lt_size e) (Nat.lt_irrefl _)
theorem zrh(hc:X.calm=true):zN X (.builtin "any") (fun xs H Q=>∃(p:Addr) (bs:List Bool),xs=[.ref p]/\SqL X.K H p (bs.map V.bl)/\Q (.bl (bs.any id)) H):=by
 intro pins s σ H xs us Q I r h;obtain⟨p,bs,rfl,hl,q⟩:=h;obtain⟨u,rfl,rx⟩:=vals1 r;cases rx;obtain⟨its,r',pl,hz⟩:=I.list hl;have e:=zi4 r';subst e;refine call_any_walk (zly pl.isList fun s₂ e2 st hne=>?_);subst e2;refine⟨_,_,_,_,_,_,fun i=>bs.getD i true,rfl,Walks.list (A:=X.A.in1) (I.ok.hd hc) s.heap.objs.size p hne _,st,fun i v s3 Q3 E3 hP hQ=>?_,fun h' tk hk=>?_⟩
 .have hP':(bs.map Value.bool)[i]? = some v:=by simpa using hP
  rw[List.getElem?_map] at hP';cases eb:bs[i]? with
  | none=>rw[eb] at hP';cases hP'
  | some b =>
   rw[eb] at hP';cases hP';refine wpAny_truthy_bool ?_;dsimp only at hQ;rw[List.getD_eq_getElem?_getD,eb] at hQ;exact hQ
 .rw[List.size_toArray,List.length_map,any_range];refine⟨.bl _,H,I.kept (fun b o e=>hk b o (fun z=>?_) (Heap.get?_push_of_some _ e)),rfl,q⟩;rw[List.mem_singleton] at z;exact absurd (z▸Heap.lt_size e) (Nat.lt_irrefl _)
end
structure WE(X:Cx)(e:Expr)(t:TE):Prop where out:PE X e t
structure WT(X:Cx)(e:Expr)(t:TT):Prop where out:PT X e t
structure WW(X:Cx)(e:Expr)(t:TT):Prop where out:PW X e t
structure WA(X:Cx)(es:List Expr)(t:TA):Prop where out:PA X es t
structure WS(X:Cx)(s:Stmt)(t:TS):Prop where out:PS X s t
structure WSs(X:Cx)(s:List Stmt)(t:TS):Prop where out:PSs X s t
structure WG(X:Cx)(e:Expr)(t:TG):Prop where out:PG X e t
structure WGs(X:Cx)(e:List Expr)(t:TGs):Prop where out:PGs X e t
structure WI(X:Cx)(tg e:Expr)(t:TI):Prop where out:PI X tg e t
structure WTs(X:Cx)(e:List Expr)(t:TT):Prop where out:PTs X e t
structure WK(X:Cx)(e:List Keyword)(t:TA):Prop where out:PK X e t
structure WO(X:Cx)(e:Option Expr)(t:TO):Prop where out:PO X e t
section
variable{X:Cx}{a b c e o:Expr}{es rest:List Expr}{ta tb tc te to:TE}{t u:TT}{pos pos' p apos cpos p2:Pos}{tA:TA}{x:Str}
theorem qv(i:Nat){x:Str}{pos:Pos}(hN:X.N[i]? = some x:=by rfl)(hv:Vis X.env.scope x:=by first | exact Or.inl rfl | exact Or.inr (Or.inl rfl) | exact Or.inr (Or.inr rfl))(hd:(x==("__debug__":Str))=false:=by decide)
  (hcd:(x==("__classdict__":Str))=false:=by decide):WE X (.Name x pos) (zbg i):=⟨zth hN hv hd hcd⟩
theorem zc{i j pos}:WE X (.Constant (.int i) j pos) (tC (.int i)):=⟨zt5⟩
theorem ztL{b j pos}:WE X (.Constant (.bool b) j pos) (tC (.bl b)):=⟨zzU⟩
theorem zhA{x j pos}:WE X (.Constant (.str x) j pos) (tC (.str x)):=⟨zxS⟩
theorem zcd{x:Str}{v:V}{u:Value}{pos:Pos}(hg:Gl X x)(hm:X.mg x=some u)(r:RelV v u)(hd:(x==("__debug__":Str))=false:=by decide):WE X (.Name x pos) (tC v):=⟨zuR hg hm r hd⟩
theorem zgw{x:Str}{v:V}{u:Value}{pos:Pos}(hg:Gl X x)(hm:X.mg x=none)(hv:bootBuiltins x=some u)(r:RelV v u)(hn:x≠"__name__":=by decide)(hd:(x==("__debug__":Str))=false:=by decide):WE X (.Name x pos) (tC v):=⟨zuE hg hm hv r hn hd⟩
theorem zO{op:Operator}{r:R2}(ho:OpR X (binaryOp op) r)(ha:WE X a ta)(hb:WE X b tb):WE X (.BinOp a op b pos) (tOp r ta tb):=⟨zzS ho ha.out hb.out⟩
theorem zdy{op:UnaryOp}{r:V->Hp->VK->Prop}(ho:UnR X (unaryOp op) r)(ha:WE X a ta):WE X (.UnaryOp op a pos) (tUn r ta):=⟨zyJ ho ha.out⟩
theorem zmr{op:CmpOp}{r:R2}(ho:OpR X (compareOp op) r)(ha:WE X a ta)(hb:WE X b tb)(hm:behindInMarks op b=false):WE X (.Compare a [op] [b] pos) (tOp r ta tb):=⟨zu4 ho ha.out hb.out hm⟩
theorem zH{op:CmpOp}{r:R2}(ho:OpR X (compareOp op) r)(ha:WE X a ta)(hb:WE X b tb)(hm:behindInMarks op b=false):WT X (.Compare a [op] [b] pos) (zjx (tOp r ta tb)):=⟨zvT ho ha.out hb.out hm⟩
theorem zr4{op op':CmpOp}{r r':R2}(ho:OpR X (compareOp op) r)(ho':OpR X (compareOp op') r')(ha:WE X a ta)(hb:WE X b tb)(hc:WE X c tc)(hm:lastMarks [op,op'] [b,c]=false:=by with_unfolding_all rfl):WE X (.Compare a [op,op'] [b,c] pos) (zi8 r r' ta tb tc):=⟨ztO ho ho' ha.out hb.out hc.out hm⟩
theorem znU{op op':CmpOp}{r r':R2}(ho:OpR X (compareOp op) r)(ho':OpR X (compareOp op') r')(ha:WE X a ta)(hb:WE X b tb)(hc:WE X c tc)(hm:lastMarks [op,op'] [b,c]=false:=by with_unfolding_all rfl):WT X (.Compare a [op,op'] [b,c] pos) (zjx (zi8 r r' ta tb tc)):=⟨zrL ho ho' ha.out hb.out hc.out hm⟩
theorem zf6{t:TE}(h:WE X e t)(he:∀whole,isTrue e X.env whole=(do let v<-whole;standAt e.pos;holding [v] (truthy v)):=by intro _;rfl):WT X e (tB t):=⟨zyr h.out he⟩
theorem zp3(ha:WT X a t):WW X (.BoolOp .And [a] pos) t:=⟨zvz ha.out⟩
theorem zeV(ha:WT X a t):WW X (.BoolOp .Or [a] pos) t:=⟨zxv ha.out⟩
theorem zta(ha:WT X a t)(hb:WW X (.BoolOp .And (b::rest) pos) u):WW X (.BoolOp .And (a::b::rest) pos) (zxI t u):=⟨zx2 ha.out hb.out⟩
theorem zgx(ha:WT X a t)(hb:WW X (.BoolOp .Or (b::rest) pos) u):WW X (.BoolOp .Or (a::b::rest) pos) (tOr t u):=⟨zyW ha.out hb.out⟩
theorem WW.qt(h:WW X e t):WT X e t:=⟨h.out.pt⟩
theorem zgd(ha:WT X a t):WT X (.UnaryOp .Not a pos) (zyt t):=⟨zxp ha.out⟩
theorem zoi{op}{t:TE}(h:WE X a t):WE X (.BoolOp op [a] pos) t:=⟨zwN h.out⟩
theorem zph(ha:WE X a ta)(hb:WE X (.BoolOp .And (b::rest) pos) tb):WE X (.BoolOp .And (a::b::rest) pos) (zrM ta tb):=⟨zxB ha.out hb.out⟩
theorem zsu(ha:WE X a ta):WE X (.UnaryOp .Not a pos) (ztC ta):=⟨zwY ha.out⟩
theorem zcv:WA X [] zhr:=⟨zuf⟩
theorem zy(ha:WE X e te)(hr:WA X es tA)(hs:starEach (e::es) X.env=(false,eval e X.env)::starEach es X.env:=by rfl):WA X (e::es) (zej te tA):=⟨zpw ha.out hr.out hs⟩
theorem zpI(ks:List Int){es:List Expr}(h:es.map intOf=ks.map some):WA X es (zs8 ks):=⟨zpU ks h⟩
theorem zbj{x1}(h:WA X es tA):WE X (.Tuple es x1 pos) (zow tA):=⟨zxj h.out⟩
theorem zbA(h:WA X es tA):WE X (.List es pos) (zuF tA):=⟨zwI h.out⟩
theorem zee{r:R2}(hr:IxR X r)(ha:WE X a ta)(hb:WE X b tb)(hs:zlX b):WE X (.Subscript a b pos) (tOp r ta tb):=⟨zzP hr ha.out hb.out hs⟩
theorem ziX:WO X none zms:=⟨zvy⟩
theorem zcB(h:WE X e te):WO X (some e) (zs4 te):=⟨zuN h.out⟩
theorem zex{lo hi:Option Expr}{tl th:TO}{r:V->Option Int->Option Int->Hp->VK->Prop}(hr:SlR X r)(he:WE X e te)(hl:WO X lo tl)(hu:WO X hi th):WE X (.Subscript e (.Slice lo hi none p2) pos) (tSl r te tl th):=⟨zr2 hr he.out hl.out hu.out⟩
theorem zA{id:String}{r:List V->Hp->VK->Prop}(hc:zN X (.builtin id) r)(hg:Gl X x)(hm:X.mg x=none)(hv:bootBuiltins x=some (.builtin id))(ha:WA X (e::es) tA)(hn:x≠"__name__":=by decide)(hdb:(x==("__debug__":Str))=false:=by decide)
  (he:starEach (e::es) X.env=(false,eval e X.env)::starEach es X.env:=by rfl)(hpl:(backTo pos (starEach es X.env)).any (·.1)=false:=by rfl):WE X (.Call (.Name x p) (e::es) [] pos) (tCB r tA):=⟨zrH hc hg hm hv ha.out hn hdb he hpl⟩
theorem za1{T:String}{r:List V->Hp->VK->Prop}(hc:zN X (.type T) r)(hg:Gl X x)(hm:X.mg x=none)(hv:bootBuiltins x=some (.type T))(ha:WA X (e::es) tA)(hn:x≠"__name__":=by decide)(hdb:(x==("__debug__":Str))=false:=by decide)
  (he:starEach (e::es) X.env=(false,eval e X.env)::starEach es X.env:=by rfl)(hpl:(backTo pos (starEach es X.env)).any (·.1)=false:=by rfl):WE X (.Call (.Name x p) (e::es) [] pos) (tCB r tA):=⟨zqL hc hg hm hv ha.out hn hdb he hpl⟩
theorem zq{CX:CXT}{j k:Nat}{ps:List Str}{sp:Sp}{E:XK}(h:Has X.prog X.w X.K X.mg X.base CX x j ps sp)(hr:zfm k X.A)(ha:WA X (e::es) tA)(hj:j<=k:=by decide)(hg:Gl X x:=by rfl)(hx:zcs CX X E:=by exact zk6)(hdb:(x==("__debug__":Str))=false:=by decide)
  (he:starEach (e::es) X.env=(false,eval e X.env)::starEach es X.env:=by rfl)(hpl:(backTo pos (starEach es X.env)).any (·.1)=false:=by rfl):WE X (.Call (.Name x p) (e::es) [] pos) (znu sp [] E tA):=⟨ztf h hr ha.out hj hg hx hdb he hpl⟩
theorem zbC:WK X [] zhr:=⟨zx7⟩
theorem zfc{nm:Option Str}{kpos:Pos}{kws:List Keyword}{tk:TA}(ha:WE X e te)(hr:WK X kws tk):WK X (⟨nm,e,kpos⟩::kws) (zej te tk):=⟨zuX ha.out hr.out⟩
structure zu2(P:Program)(w:World)(K:Frag)(mg:Str->Option Value)(base:Heap)(CX:CXT)(x:Str)(k:Nat)(ps:List Str)(sp:Sp)(ks:List Str)(gV:List V->List V->List V):Prop where
 ex:∃f fd g,zV P w K mg base CX k f fd ps sp/\zcX K fd ps ks g gV/\keepIn K (.ref f)=true/\mg x=some (.ref f)
theorem zkU{CX:CXT}{j k:Nat}{ps ks:List Str}{sp:Sp}{E:XK}{gV:List V->List V->List V}{kws:List Keyword}{tk:TA}(h:zu2 X.prog X.w X.K X.mg X.base CX x j ps sp ks gV)(hr:zfm k X.A)(ha:WA X (e::es) tA)(hkw:WK X kws tk)(hj:j<=k:=by decide)(hg:Gl X x:=by rfl)(hx:zcs CX X E:=by exact zk6)
  (hall:(backToKw pos (keywordEach kws X.env)).all (·.1.isSome)=true:=by rfl)(hks:(backToKw pos (keywordEach kws X.env)).filterMap (·.1)=ks:=by rfl)
  (hdb:(x==("__debug__":Str))=false:=by decide)(he:starEach (e::es) X.env=(false,eval e X.env)::starEach es X.env:=by rfl)
  (hpl:((backTo pos (starEach (e::es) X.env)).any (·.1)||(backToKw pos (keywordEach kws X.env)).any (·.1.isNone))=false:=by rfl):WE X (.Call (.Name x p) (e::es) kws pos) (zol sp gV E tA tk):=by
 obtain⟨f,fd,g,F,b,kp,m⟩:=h.ex;exact⟨zrG (F.mono hj) hr hg m kp b hx ha.out hkw.out hall hks hdb he hpl⟩
theorem zxb{f:Str}(he:WE X e ta)(hb:attributeBase e f X.env (eval e X.env)=eval e X.env):WE X (.Attribute e f pos) (zvL X.K ta f):=⟨zxD he.out hb⟩
theorem zzv{name:Str}{T id:String}{r:V->List V->Hp->VK->Prop}(pa:PlainAttrs T)(slot:Slot T name id)(hty:typeOf (.builtin id)=pure (.type "method_descriptor"))(hm:MtR X id r)(ho:WE X o to)(ha:WA X (e::es) tA)
  (hbase:attributeBase o name X.env (eval o X.env)=eval o X.env:=by rfl)
  (hfew:((backTo cpos (starEach (e::es) X.env)).all (fun x=> !x.1)&&(backToKw cpos (keywordEach [] X.env)).all (fun x=>x.1.isSome)&&decide ((e::es).length+([]:List Keyword).length+(if ([]:List Keyword).isEmpty then 0 else 1) < 30))=true:=by rfl)
  (hline:(apos.endLine==cpos.line)=true:=by rfl)(hs:starEach (e::es) X.env=(false,eval e X.env)::starEach es X.env:=by rfl)(hplain:(backTo cpos (starEach es X.env)).any (·.1)=false:=by rfl) :
  WE X (.Call (.Attribute o name apos) (e::es) [] cpos) (tBM X.K T r to tA):=⟨zyS pa slot hty hm ho.out ha.out hbase hfew hline hs hplain⟩
variable{st:Stmt}{sts:List Stmt}{ts us:TS}
theorem zK:WSs X [] zun:=⟨zup⟩
theorem zf(h1:WS X st ts)(h2:WSs X sts us):WSs X (st::sts) (zkx ts us):=⟨ztR h1.out h2.out⟩
theorem zj(h1:WS X st ts):WSs X [st] ts:=⟨zvI h1.out⟩
theorem zai:WS X st zor:=⟨zsF⟩
theorem zL(he:WE X e te)(hs:swapsWith e none pos.line X.env=pure false:=by rfl):WS X (.Expr e pos) (zsh te):=⟨zvF he.out hs⟩
theorem zac(he:WE X e te):WS X (.Return (some e) pos) (zoR te):=⟨zyA he.out⟩
theorem zak{ba bb:List Stmt}(hc:WT X c t)(ha:WSs X ba ts)(hb:WSs X bb us):WS X (.If c ba bb pos) (zvN t ts us):=⟨zzI hc.out ha.out hb.out⟩
theorem za2{tg iter:Expr}{body:List Stmt}{wi:TI}{g:TG}(hp:PassesOwn (model X.prog X.w) X.A X.env X.xe)(hc:X.calm=true)(hi:WI X tg iter wi)(hg:WG X tg g)(hb:WSs X body ts)
  (hs:∀x,foldedSetIterable iter X.env x=pure x:=by intro _;rfl):WS X (.For tg iter body [] pos) (zxU wi g ts):=⟨zwG hp hc hi.out hg.out hb.out hs⟩
theorem zaH{i:Nat}{x:Str}(hN:X.N.Nodup)(hi:X.N[i]? = some x)(hx:Loc X.env.scope x)(hf:X.fn x=true\/X.env.scope.names.lookup x=some .local:=by first | exact .inl rfl | exact .inr rfl | assumption):WG X (.Name x pos) (zd8 i):=⟨zvw hN hi hx hf⟩
theorem zcA:WGs X [] zwU:=⟨zuL⟩
theorem zT{g:TG}{gs:TGs}(h1:WG X e g)(h2:WGs X es gs)(hs:(assignEach (e::es) X.env).map (·.2)=assign e X.env::(assignEach es X.env).map (·.2):=by rfl):WGs X (e::es) (zsG g gs):=⟨zr6 h1.out h2.out hs⟩
theorem zwR{k:Nat}{gs:TGs}{n:Nat}(hc:X.calm=true)(h:WGs X es gs)(hn:(assignEach es X.env).length=n:=by rfl)(hst:(assignEach es X.env).findIdx? (·.1)=none:=by rfl):WG X (.Tuple es k pos) (zvO X.K n gs):=⟨zs9 hc h.out hn hst⟩
theorem zhh{i:Expr}{ti:TE}{tS:zqv}(ho:WE X o to)(hi:WE X i ti)(hs:zym X tS)
  (ha:∀v,assign (.Subscript o i pos) X.env v=(do
    let ov<-holding [v] (eval o X.env)
    let iv<-holding [v,ov] (eval i X.env)
    standAt pos
    holding [v,ov,iv] (setItem ov iv v)
    release [v,ov,iv] []):=by intro _;rfl):WG X (.Subscript o i pos) (zlN to ti tS):=⟨zxt ho.out hi.out hs ha⟩
theorem zg7{tg:Expr}{g:TG}(he:WE X e te)(hg:WG X tg g)(hs:swapsWithSole [tg] e pos.line X.env=pure false:=by rfl)(hw:swappedStores [tg] e X.env=pure none:=by rfl)(h1:(assignEach [tg] X.env).map (·.2)=[assign tg X.env]:=by rfl):WS X (.Assign [tg] e pos) (zdO te g):=⟨zyl he.out hg.out hs hw h1⟩
theorem zmL{i:Nat}{x:Str}(hN:X.N.Nodup)(hi:X.N[i]? = some x)(hx:Loc X.env.scope x)(he:WE X e te)(hs:swapsWith e (some (.Name x pos')) pos.line X.env=pure false:=by rfl)
  (hf:X.fn x=true\/X.env.scope.names.lookup x=some .local:=by first | exact .inl rfl | exact .inr rfl | assumption):WS X (.Assign [.Name x pos'] e pos) (zdO te (zd8 i)):=⟨zxm hN hi hx he.out hs hf⟩
theorem zxg{value:Expr}{tv:TE}{f:Str}(ha:WE X o ta)(hv:WE X value tv)(hs:swapsWith value (some (.Attribute o f pos')) pos.line X.env=pure false):WS X (.Assign [.Attribute o f pos'] value pos) (zuQ X.K ta tv f):=⟨zye ha.out hv.out hs⟩
theorem zb2{tg:Expr}(hg:Gl X "range")(hm:X.mg "range"=none)(ha:WA X [a] tA)(hs:starEach [a] X.env=[(false,eval a X.env)]:=by rfl):WI X tg (.Call (.Name "range" p) [a] [] pos) (ztN tA):=⟨zrd hg hm ha.out hs⟩
theorem zb9:WTs X [] zyG:=⟨zvx⟩
theorem ziN(h:WT X c t):WTs X [c] t:=⟨zuK h.out⟩
theorem zdU{tg iter elt:Expr}{ifs:List Expr}{scope:Scope}{wi:TI}{g:TG}{tc:TT}{te:TE}(own free:List Str)(fr:List Nat)(S:zcN X scope)(hc:X.calm=true)(hfr:fr.map (fun j=>X.N[j]?)=free.map some)(hff:∀x∈free,scope.names.lookup x=some .free)
  (hi:WI X tg iter wi)(hg:∀C s H ex,WG (zB X (own++free) scope C s H ex) tg g)(ht:∀C s H ex,WTs (zB X (own++free) scope C s H ex) ifs tc)(he:∀C s H ex,WE (zB X (own++free) scope C s H ex) elt te)
  (hs:∀x,foldedSetIterable iter X.env x=pure x:=by intro _;rfl):WE X (.ListComp elt [⟨tg,iter,ifs,0⟩] scope pos) (zk5 own fr wi g tc te) :=
 ⟨zvg own free fr S hc hfr hff hi.out (fun C s H ex=>(hg C s H ex).out) (fun C s H ex=>(ht C s H ex).out) (fun C s H ex=>(he C s H ex).out) hs⟩
theorem ze6{tg iter elt:Expr}{ifs:List Expr}{scope:Scope}{wi:TI}{g:TG}{tc:TT}{te:TE}{i:Nat}{x:Str}{spos:Pos}(own free:List Str)(fr:List Nat)(hN:X.N.Nodup)(hx:X.N[i]? = some x)(hl:X.env.scope.names.lookup x=some .local)
  (S:zcN X scope)(hc:X.calm=true)(hfr:fr.map (fun j=>X.N[j]?)=free.map some)(hff:∀x∈free,scope.names.lookup x=some .free)
  (hi:WI X tg iter wi)(hg:∀C s H ex,WG (zB X (own++free) scope C s H ex) tg g)(ht:∀C s H ex,WTs (zB X (own++free) scope C s H ex) ifs tc)(he:∀C s H ex,WE (zB X (own++free) scope C s H ex) elt te)
  (hsw:swapsWith (.ListComp elt [⟨tg,iter,ifs,0⟩] scope pos) (some (.Name x pos')) spos.line X.env=pure true:=by rfl)
  (hs:∀x,foldedSetIterable iter X.env x=pure x:=by intro _;rfl):WS X (.Assign [.Name x pos'] (.ListComp elt [⟨tg,iter,ifs,0⟩] scope pos) spos) (zdO (zk5 own fr wi g tc te) (zd8 i)) :=
 ⟨zvY own free fr hN hx hl S hc hfr hff hi.out (fun C s H ex=>(hg C s H ex).out) (fun C s H ex=>(ht C s H ex).out) (fun C s H ex=>(he C s H ex).out) hsw hs⟩
end
section
variable{X:Cx}(K:Frag)
theorem za8(h:X.K=K:=by rfl):IxR X (zjD K):=h▸zpW
theorem zsT(h:X.K=K:=by rfl):SlR X (zxq K):=h▸zpH
theorem zyC(h:X.K=K:=by rfl):OpR X (compareOp .In) (rIn K false):=h▸zrl
theorem zqT(h:X.K=K:=by rfl):OpR X (compareOp .NotIn) (rIn K true):=h▸zmc
theorem zqg(h:X.K=K:=by rfl):zN X (.builtin "len") (fun xs H Q=>∃p ys,xs=[.ref p]/\(SqL K H p ys\/SqT K H p ys)/\Q (.int ys.length) H):=h▸zgK
theorem zj3(h:X.K=K:=by rfl):zN X (.type "list") (fun xs H Q=>∃p ys,xs=[.ref p]/\(SqL K H p ys\/SqT K H p ys)/\∀l,H l=none->Q (.ref l) (upd H l (.lst ys))):=h▸zl0
theorem zn4(h:X.K=K:=by rfl):zN X (.type "tuple") (fun xs H Q=>∃p ys,xs=[.ref p]/\((SqL K H p ys/\∀l,H l=none->Q (.ref l) (upd H l (.tup ys)))\/(SqT K H p ys/\Q (.ref p) H))):=h▸zkI
theorem zqN(hc:X.calm=true)(h:X.K=K:=by rfl):zN X (.builtin "max") (fun xs H Q=>∃p ns,xs=[.ref p]/\SqL K H p (ns.map V.int)/\ns≠[]/\∀M∈ns,(∀a∈ns,a<=M)->Q (.int M) H):=h▸zqU hc
theorem zqs(hc:X.calm=true)(h:X.K=K:=by rfl):zN X (.builtin "min") (fun xs H Q=>∃p ns,xs=[.ref p]/\SqL K H p (ns.map V.int)/\ns≠[]/\∀M∈ns,(∀a∈ns,M<=a)->Q (.int M) H):=h▸zqz hc
theorem zqo(hc:X.calm=true)(h:X.K=K:=by rfl):zN X (.builtin "all") (fun xs H Q=>∃(p:Addr) (bs:List Bool),xs=[.ref p]/\SqL K H p (bs.map V.bl)/\Q (.bl (bs.all id)) H):=h▸zrw hc
theorem zq1(hc:X.calm=true)(h:X.K=K:=by rfl):zN X (.builtin "any") (fun xs H Q=>∃(p:Addr) (bs:List Bool),xs=[.ref p]/\SqL K H p (bs.map V.bl)/\Q (.bl (bs.any id)) H):=h▸zrh hc
theorem zmb(h:X.K=K:=by rfl):zN X (.builtin "isinstance") (fun xs H Q=>∃x c t b,xs=[x,c]/\zfl K H x t/\(∀u,RelV c u->kitOne K t u=some b)/\Q (.bl b) H):=h▸zmT
theorem zxG{k:Nat}{cm:Bool}(hr:zaV cm k X.A)(h:X.K=K:=by rfl):OpR X (compareOp .Eq) (fun x y H Q=>∃d d',Dat K H d x/\Dat K H d' y/\ziz d/\ziz d'/\Q (.bl (PyData.eqv d d')) H):=h▸zwS hr
theorem zxQ{k:Nat}{cm:Bool}(hr:zaV cm k X.A)(h:X.K=K:=by rfl):OpR X (compareOp .NotEq) (fun x y H Q=>∃d d',Dat K H d x/\Dat K H d' y/\ziz d/\ziz d'/\Q (.bl (!PyData.eqv d d')) H):=h▸zyI hr
variable{a e o:Expr}{es:List Expr}{ta te to:TE}{tA:TA}{pos pos' apos cpos:Pos}
theorem zc9{k:Nat}{gs:TGs}{n:Nat}(hc:X.calm=true)(hg:WGs X es gs)(h:X.K=K:=by rfl)(hn:(assignEach es X.env).length=n:=by rfl)(hst:(assignEach es X.env).findIdx? (·.1)=none:=by rfl):WG X (.Tuple es k pos) (zvO K n gs):=h▸zwR hc hg hn hst
theorem zaK{f:Str}(he:WE X e ta)(h:X.K=K:=by rfl)(hb:attributeBase e f X.env (eval e X.env)=eval e X.env:=by rfl):WE X (.Attribute e f pos) (zvL K ta f):=h▸zxb he hb
theorem zcE{value:Expr}{tv:TE}{f:Str}(ha:WE X o ta)(hv:WE X value tv)(h:X.K=K:=by rfl)(hs:swapsWith value (some (.Attribute o f pos')) pos.line X.env=pure false:=by rfl):WS X (.Assign [.Attribute o f pos'] value pos) (zuQ K ta tv f):=h▸zxg ha hv hs
theorem zbS{name:Str}{T id:String}{r:V->List V->Hp->VK->Prop}(pa:PlainAttrs T)(slot:Slot T name id)(hty:typeOf (.builtin id)=pure (.type "method_descriptor"))(hm:MtR X id r)(ho:WE X o to)(ha:WA X (e::es) tA)(h:X.K=K:=by rfl)
  (hbase:attributeBase o name X.env (eval o X.env)=eval o X.env:=by rfl)
  (hfew:((backTo cpos (starEach (e::es) X.env)).all (fun x=> !x.1)&&(backToKw cpos (keywordEach [] X.env)).all (fun x=>x.1.isSome)&&decide ((e::es).length+([]:List Keyword).length+(if ([]:List Keyword).isEmpty then 0 else 1) < 30))=true:=by rfl)
  (hline:(apos.endLine==cpos.line)=true:=by rfl)(hs:starEach (e::es) X.env=(false,eval e X.env)::starEach es X.env:=by rfl)(hplain:(backTo cpos (starEach es X.env)).any (·.1)=false:=by rfl) :
  WE X (.Call (.Attribute o name apos) (e::es) [] cpos) (tBM K T r to tA):=h▸zzv pa slot hty hm ho ha hbase hfew hline hs hplain
end
def zc0:Value->Option Int
 | .int i _=>some i
 | _=>none
theorem za5{u:Value}{i:Int}(h:zc0 u=some i):RelV (.int i) u:=by
 cases u<;>simp[zc0] at h
 subst h;exact⟨_,rfl⟩
def zgv:List Value->Option (List Int)
 | []=>some []
 | v::r=>match zc0 v,zgv r with
  | some i,some l=>some (i::l)
  | _,_=>none
theorem zgJ:∀{us:List Value} {ns:List Int},zgv us=some ns->Vals (ns.map V.int) us
 | [],ns,h=>by cases h;exact .nil
 | u::us,ns,h=>by
  unfold zgv at h;cases e1:zc0 u with
  | none=>rw[e1] at h;cases h
  | some i =>
   cases e2:zgv us with
   | none=>rw[e1,e2] at h;cases h
   | some l =>
    rw[e1,e2] at h;cases h;exact .cons (za5 e1) (zgJ e2)
def ziL(o:Obj):Option (List Int):=match o.cls,o.data with
 | .type "tuple", .seq its _=>if its.size<=1000 then zgv its.toList else none
 | _,_=>none
theorem zsb{K:Frag}{a:Addr}{o:Obj}{ns:List Int}(l:K.lookup a=some o)(h:ziL o=some ns)(H:Hp):SqT K H a (ns.map V.int):=by
 unfold ziL at h;split at h
 .rename_i its n hc hd;split at h
  .rename_i hz;exact .inr ⟨o,its,n,l,hc,hd,Nat.le_trans hz (by decide),zgJ h⟩
  .cases h
 .cases h
section
variable{P:Program}{w:World}{K:Frag}{mg:Str->Option Value}{base:Heap}
theorem Fun.okq{x qual:Str}{st:Stmt}{f:Addr}{fd:FuncData}{N ps:List Str}{k:Nat}{sp:Sp}(F:Fun K x qual st f fd)(S:zG N ps (zx st))(len:∀vs H Q E,sp vs H Q E->vs.length=ps.length)
  (hbody:∀(cdv:Value) (A:Around) (outer:List Env) (s:Shared) (H:Hp) (vs:List V) (Q:VK) (E:XK),zfm k (A.deeper (envOfC qual (zx st) s.heap.objs.size f cdv))->sp vs H Q E ->
   ∃t,WSs (znd CX0 P w K mg base N qual (zx st) f cdv A outer s H E).nox (zdg st) t/\t { nx:=fun _ H'=>Q .non H',rt:=Q } (start N vs) H):zV P w K mg base CX0 (k+1) f fd ps sp :=
 F.ok S len fun cdv A outer s H vs Q E hr h=>by
  obtain⟨t,ht,q⟩:=hbody cdv A outer s H vs Q E hr h;exact⟨t,ht.out,q⟩
end
section
variable{X:Cx}{tg:Expr}
end
theorem zuj{x y:Str}(h:x.cps.toList=y.cps.toList):x=y:=by
 cases x;cases y;simp only[Str.mk.injEq];exact Array.toList_inj.mp h
theorem zfe:∀{ys:List Str} {us:List Value},Vals (ys.map V.str) us->StrsAre us ys
 | [],_, .nil=> .nil
 | _::_,_, .cons ⟨t,rfl⟩ r=> .cons _ _ (zfe r)
theorem zia(sep:Str):∀(rest:List Str) (x:Str),(⟨rest.foldl (fun acc p=>acc++sep.cps++p.cps) x.cps⟩:Str)=Str.join sep (x::rest)
 | [],x=>rfl
 | y::r,x=>by
  have ih:=zia sep r ⟨x.cps++sep.cps++y.cps⟩;show(⟨r.foldl (fun acc p=>acc++sep.cps++p.cps) (x.cps++sep.cps++y.cps)⟩:Str)=x++sep++Str.join sep (y::r);rw[ih];cases r with
  | nil=>rfl
  | cons z r' =>
   show(⟨x.cps++sep.cps++y.cps⟩:Str)++sep++Str.join sep (z::r')=x++sep++(y++sep++Str.join sep (z::r'));apply zuj;have e:∀a b:Str,(a++b).cps.toList=a.cps.toList++b.cps.toList:=fun a b=>by
    show(a.cps++b.cps).toList=_;simp
   simp only[e,Array.toList_append,List.append_assoc]
theorem zjn(sep:Str):∀parts,PySem.Builtin.Str.glued sep parts=Str.join sep parts
 | []=>rfl
 | x::r=>zia sep r x
def zg2(ys:List Str):Nat:=(ys.map (·.length)).sum+ys.length
section
variable{X:Cx}(K:Frag)
theorem zsJ(h:X.K=K:=by rfl):MtR X "str.join" (fun x xs H Q=>∃sep p ys,x= .str sep/\xs=[.ref p]/\(SqL K H p (ys.map V.str)\/SqT K H p (ys.map V.str))/\sep.length<=16/\zg2 ys<=1048576/\Q (.str (Str.join sep ys)) H):=by
 subst h;intro pins s σ H x xs v us Q I rx r h;obtain⟨sep,p,ys,rfl,rfl,hl,h1,h2,q⟩:=h;obtain⟨t,rfl⟩:=rx;obtain⟨u,rfl,ru⟩:=vals1 r;cases ru;rcases hl with hl | hl
 .obtain⟨its,r',pl,hz⟩:=I.list hl;refine join_listW pl.isList (by simpa using zfe r') h1 h2 fun t' k=>⟨.str _,H,I.tok k,⟨t',?_⟩,q⟩
  show Value.str (PySem.Builtin.Str.glued sep ys) t'=_;rw[zjn]
 .obtain⟨its,r',pl,hz⟩:=I.tuple hl;refine join_tupleW pl (by simpa using zfe r') h1 h2 fun t' k=>⟨.str _,H,I.tok k,⟨t',?_⟩,q⟩
  show Value.str (PySem.Builtin.Str.glued sep ys) t'=_;rw[zjn]
end
section
variable{X:Cx}
theorem zo2:OpR X (binaryOp .Mult) (fun x y H Q=>∃c n,x= .str ⟨#[c]⟩/\y= .int n/\0<=n/\n<=1000/\∀z:Str,z.cps.toList=List.replicate n.toNat c->Q (.str z) H):=by
 intro pins s σ H x y v u Q I rx ry h;obtain⟨c,n,rfl,rfl,h0,h1,q⟩:=h;obtain⟨t,rfl⟩:=rx;obtain⟨t',rfl⟩:=ry;refine SB.mul ⟨?_,?_,?_⟩ fun t' k=>⟨.str _,H,I.tok k,⟨t',rfl⟩,q _ (mul_one_list c n)⟩
 .rw[decide_eq_false (by omega),decide_eq_false (by omega)];rfl
 .intro a _;have e:(⟨#[c]⟩:Str).length=1:=rfl;rw[e];have:1<=(2^63 - 1) / n:=Int.le_ediv_of_mul_le (by omega) (by omega);omega
 .intro a _;have e:(⟨#[c]⟩:Str).length=1:=rfl;rw[e];unfold PySem.Builtin.Str.tooLong;simp only[Nat.one_mul,decide_eq_false_iff_not];have:n.toNat<=1000:=by omega
  first
   | omega
   | (intro z;have:=Nat.lt_of_lt_of_le z this;revert this;decide)
end
theorem zeK:∀ys:List Str,(Str.join Str.empty ys).cps.toList=(ys.map fun y=>y.cps.toList).flatten
 | []=>rfl
 | [y]=>by simp[Str.join]
 | y::z::r=>by
  have ih:=zeK (z::r);show((y++Str.empty++Str.join Str.empty (z::r):Str)).cps.toList=_;have e:∀a b:Str,(a++b).cps.toList=a.cps.toList++b.cps.toList:=fun a b=>by
   show(a.cps++b.cps).toList=_;simp
  rw[e,e,ih];simp[Str.empty]
theorem zvo{x y:Str}(h:x.cps.toList=y.cps.toList):x=y:=by
 cases x;cases y;simp only[Str.mk.injEq];exact Array.toList_inj.mp h
def zjH(H:Hp)(a l:Addr):Prop:=∃(ns:List Int) (i b c:Int),H a=some (.lst [.ref l, .int i, .int b, .int c])/\H l=some (.lst (ns.map V.int))/\0<=i/\0<=b/\a≠l
def zmF:Sp:=fun vs H Q _=>∃(a l:Addr) (many:Int),vs=[.ref a, .int many]/\zjH H a l/\0 < many/\many < 2^250/\∀v H',0<=v->v < many->zjH H' a l->zlO a H H'->Q (.int v) H'
def zjj(K:Frag):Sp:=fun vs H Q _=>∃(a:Addr) (ns:List Int),vs=[.ref a]/\SqL K H a (ns.map V.int)/\∀(r l:Addr) (H':Hp),H r=none->H l=none->zjH H' r l->zkv H H'->Q (.ref r) H'
theorem zmU(x:Str):∀xs:List Str,inV (.str x) (xs.map V.str)=decide (x∈xs)
 | []=>by simp[inV]
 | y::r=>by
  have ih:=zmU x r;unfold inV at ih ⊢;rw[List.map_cons,List.any_cons,ih];show((y==x)||decide (x∈r))=decide (x∈y::r);by_cases h:y=x
  .subst h;simp
  .have h':¬ x=y:=fun e=>h e.symm
   simp[h,h']
structure Nm(x:Str):Prop where
 l1:1<=x.cps.toList.length
 l8:x.cps.toList.length<=8
 az:∀c∈x.cps.toList,97<=c/\c<=122
structure LR where
 a:Addr
 sa:Addr
 ea:Addr
 nm:Str
 S:List Str
 E:List Str
 w:Int
section
variable{κ:Addr->Nat}{H H':Hp}{s l na la:Addr}{ns ns':List Str}{ls:List LR}
end
def zeb(one:Str)(bd:List Str)(r:LR):Bool:= !decide (r.nm∈bd)&&(decide (one∈r.S)||decide (r.S.length < 6))
def zfK(two:Str)(r:LR):Bool:=decide (two∈r.E)||decide (r.E.length < 6)
def zaP(x:Str)(S:List Str):List Str:=if x∈S then S else S++[x]
inductive ztm(one two:Str)(bd:List Str)(ns:List Str)(ls:List LR)(x:Str):List Str->List LR->Prop
 | new (pa ps pe:Addr) (w:Int):x∉ns->Nm x->ls.length < 14->0<=w->w < 4->ztm one two bd ns ls x (ns++[x]) (ls++[⟨pa,ps,pe,x,[one],[two],w⟩])
 | old (i:Nat) (r:LR):ls[i]? = some r->r.nm=x->zeb one bd r=true->zfK two r=true->ztm one two bd ns ls x ns (ls.set i { r with S:=zaP one r.S,E:=zaP two r.E })
theorem zbG{x y:Str}{S:List Str}:y∈zaP x S↔y∈S\/y=x:=by
 unfold zaP;split
 .exact⟨.inl,fun h=>h.elim id (fun e=>by rw[e];assumption)⟩
 .rw[List.mem_append,List.mem_singleton]
theorem zhT{x:Str}{S:List Str}(h:S.Nodup):(zaP x S).Nodup:=by
 unfold zaP;split
 .exact h
 .rename_i c;exact List.nodup_append.mpr ⟨h,by simp,fun a ha b hb e=>by rw[List.mem_singleton.mp hb] at e;exact c (e▸ha)⟩
theorem zlo{x:Str}{S:List Str}:(zaP x S).length<=S.length+1:=by
 unfold zaP;split
 .omega
 .rw[List.length_append];exact Nat.le_refl _
theorem zlh{x:Str}{S:List Str}(h:x∈S\/S.length < 6)(h6:S.length<=6):(zaP x S).length<=6:=by
 unfold zaP;split
 .omega
 .rw[List.length_append];rcases h with h | h
  .contradiction
  .show S.length+1<=6;omega
def wide(r:LR):Nat:=max r.S.length r.E.length
def zdu(ls:List LR):Nat:=(ls.map wide).sum
structure zzL(ho ga:List Str)(r:LR):Prop where
 sn:r.S.Nodup
 en:r.E.Nodup
 s0:r.S≠[]
 e0:r.E≠[]
 s6:r.S.length<=6
 e6:r.E.length<=6
 ss:∀x∈r.S,x∈ho++ga
 es:∀x∈r.E,x∈ho++ga
 w0:0<=r.w
 w3:r.w<=3
structure zch(ho ga ns:List Str)(ls:List LR)(h c:Nat):Prop where
 nd:(ho++ga++ls.map LR.nm).Nodup
 sub:∀x∈ho++ga++ls.map LR.nm,x∈ns
 nms:∀x∈ns,Nm x
 nsd:ns.Nodup
 ends:∀r∈ls,zzL ho ga r
 len:ls.length<=14
 hops:zdu ls<=h
 cnt:ns.length<=c+ls.length
def sig(ls:List LR):List (Str×Int):=ls.map fun r=>(r.nm,r.w)
def zdt(ns:List Str)(ls ls':List LR):Prop:=(∀r∈ls,∃r'∈ls',r'.nm=r.nm/\r'.w=r.w/\(∀x∈r.S,x∈r'.S)/\(∀x∈r.E,x∈r'.E))/\∃ext,sig ls'=sig ls++ext/\∀p∈ext,p.1∉ns
theorem zdt.refl(ns:List Str)(ls:List LR):zdt ns ls ls:=⟨fun r h=>⟨r,h,rfl,rfl,fun _ h=>h,fun _ h=>h⟩,[],by rw[List.append_nil],fun p hp=>by cases hp⟩
theorem zdt.trans{ns ns':List Str}{a b c:List LR}(x:zdt ns a b)(n:∀y∈ns,y∈ns')(y:zdt ns' b c):zdt ns a c:=⟨fun r h=>by
 obtain⟨r1,h1,e1,e2,e3,e4⟩:=x.1 r h;obtain⟨r2,h2,f1,f2,f3,f4⟩:=y.1 r1 h1;exact⟨r2,h2,f1.trans e1,f2.trans e2,fun z hz=>f3 z (e3 z hz),fun z hz=>f4 z (e4 z hz)⟩,by
 obtain⟨u,hu,hu'⟩:=x.2;obtain⟨v,hv,hv'⟩:=y.2;exact⟨u++v,by rw[hv,hu,List.append_assoc],fun p hp=>(List.mem_append.mp hp).elim (hu' p) fun z q=>hv' p z (n _ q)⟩⟩
def Joins(ls:List LR)(one x two:Str):Prop:=∃r∈ls,r.nm=x/\one∈r.S/\two∈r.E
theorem Joins.grow{ls ls':List LR}{one x two:Str}(h:Joins ls one x two){ns0:List Str}(g:zdt ns0 ls ls'):Joins ls' one x two:=by
 obtain⟨r,hr,e,h1,h2⟩:=h;obtain⟨r',hr',f1,f2,f3,f4⟩:=g.1 r hr;exact⟨r',hr',f1.trans e,f3 _ h1,f4 _ h2⟩
theorem sum_set:∀{ls:List LR} {i:Nat} {r r':LR},ls[i]? = some r->wide r'<=wide r+1->zdu (ls.set i r')<=zdu ls+1
 | [],_,_,_,h,_=>by simp at h
 | a::t,0,r,r',h,hw=>by
  cases h;unfold zdu;rw[List.set_cons_zero,List.map_cons,List.map_cons,List.sum_cons,List.sum_cons];omega
 | a::t,i+1,r,r',h,hw=>by
  have ih:=sum_set (ls:=t) (i:=i) (by simpa using h) hw;unfold zdu at ih ⊢;rw[List.set_cons_succ,List.map_cons,List.map_cons,List.sum_cons,List.sum_cons];omega
theorem zjV{ls:List LR}{i:Nat}{q r':LR}(h:q∈ls.set i r'):q∈ls\/q=r':=List.mem_or_eq_of_mem_set h
theorem zvu{ho ga ns ns':List Str}{ls ls':List LR}{h c:Nat}{one two x:Str}{bd:List Str}(N:zch ho ga ns ls h c)(h1:one∈ho++ga)(h2:two∈ho++ga)(hb:∀y∈bd,y∈ns)(R:ztm one two bd ns ls x ns' ls') :
  zch ho ga ns' ls' (h+1) c/\zdt ns ls ls'/\Joins ls' one x two/\x∉bd/\(∀y∈ns,y∈ns')/\x∉ho++ga/\x∈ns':=by
 cases R with
 | new pa ps pe w hx nm hl w0 w4 =>
  refine⟨⟨?_,?_,?_,?_,?_,?_,?_,?_⟩,?_,?_,fun z=>hx (hb x z),fun y hy=>List.mem_append_left _ hy,fun z=>hx (N.sub x (List.mem_append_left _ z)),by simp⟩
  .rw[List.map_append,<- List.append_assoc];refine List.nodup_append.mpr ⟨N.nd,by simp,fun a ha b hb e=>?_⟩;rw[show b=x by simpa using hb] at e;exact hx (e▸N.sub a ha)
  .intro y hy;rw[List.map_append,<- List.append_assoc] at hy;rcases List.mem_append.mp hy with hy | hy
   .exact List.mem_append_left _ (N.sub y hy)
   .exact List.mem_append_right _ (by simpa using hy)
  .intro y hy;rcases List.mem_append.mp hy with hy | hy
   .exact N.nms y hy
   .rw[List.mem_singleton.mp hy];exact nm
  .exact List.nodup_append.mpr ⟨N.nsd,by simp,fun a ha b hb e=>by rw[List.mem_singleton.mp hb] at e;exact hx (e▸ha)⟩
  .intro r hr;rcases List.mem_append.mp hr with hr | hr
   .exact N.ends r hr
   .rw[List.mem_singleton.mp hr];exact⟨by simp,by simp,by simp,by simp,by simp,by simp,fun y hy=>by rw[List.mem_singleton.mp hy];exact h1,fun y hy=>by rw[List.mem_singleton.mp hy];exact h2,w0,by show w<=3;omega⟩
  .rw[List.length_append];exact hl
  .unfold zdu;rw[List.map_append,List.sum_append];have:=N.hops;unfold zdu at this;show _+(1+0)<=h+1;omega
  .rw[List.length_append,List.length_append];have:=N.cnt;show ns.length+1<=c+(ls.length+1);omega
  .exact⟨fun r hr=>⟨r,List.mem_append_left _ hr,rfl,rfl,fun _ h=>h,fun _ h=>h⟩,[(x,w)],by unfold sig;rw[List.map_append];rfl,fun p hp=>by rw[List.mem_singleton.mp hp];exact hx⟩
  .exact⟨_,List.mem_append_right _ (List.mem_singleton.mpr rfl),rfl,by simp,by simp⟩
 | old i r hi hn f1 f2 =>
  have hm:r∈ls:=List.mem_of_getElem? hi;have hlt:i < ls.length:=by
   by_cases h:i < ls.length
   .exact h
   .rw[List.getElem?_eq_none (by omega)] at hi;cases hi
  have em:(ls.set i { r with S:=zaP one r.S,E:=zaP two r.E }).map LR.nm=ls.map LR.nm:=by
   rw[List.map_set];apply List.ext_getElem?;intro j;rw[List.getElem?_set];split
   .rename_i e;subst e;rw[List.length_map,if_pos hlt,List.getElem?_map,hi];rfl
   .rfl
  have E:=N.ends r hm;unfold zeb at f1;unfold zfK at f2;simp only[Bool.and_eq_true,Bool.or_eq_true,decide_eq_true_eq,Bool.not_eq_true',decide_eq_false_iff_not] at f1 f2;have hnew:{ r with S:=zaP one r.S,E:=zaP two r.E }∈ls.set i { r with S:=zaP one r.S,E:=zaP two r.E }:=List.mem_of_getElem? (i:=i) (by rw[List.getElem?_set,if_pos rfl,if_pos hlt]);have hx:x∈ls.map LR.nm:=by rw[<- hn];exact List.mem_map.mpr ⟨r,hm,rfl⟩
  refine⟨⟨by rw[em];exact N.nd,by rw[em];exact N.sub,N.nms,N.nsd,fun q hq=>?_,by rw[List.length_set];exact N.len,?_,by rw[List.length_set];exact N.cnt⟩,?_,?_,by rw[<- hn];exact f1.1,fun y hy=>hy,fun z=>?_,N.sub x (List.mem_append_right _ hx)⟩
  .rcases zjV hq with hq | rfl
   .exact N.ends q hq
   .exact⟨zhT E.sn,zhT E.en,List.ne_nil_of_mem (zbG.mpr (.inr rfl)),List.ne_nil_of_mem (zbG.mpr (.inr rfl)),zlh f1.2 E.s6,zlh f2 E.e6,
     fun y hy=>(zbG.mp hy).elim (E.ss y) (fun e=>e▸h1),fun y hy=>(zbG.mp hy).elim (E.es y) (fun e=>e▸h2),E.w0,E.w3⟩
  .have:=sum_set (r':={ r with S:=zaP one r.S,E:=zaP two r.E }) hi (by
    unfold wide;have a:=zlo (x:=one) (S:=r.S);have b:=zlo (x:=two) (S:=r.E);show max (zaP one r.S).length (zaP two r.E).length<=_;omega)
   have:=N.hops;omega
  .refine⟨fun q hq=>?_,[],?_,fun p hp=>by cases hp⟩;rotate_left
   .rw[List.append_nil];unfold sig;rw[List.map_set];apply List.ext_getElem?;intro j;rw[List.getElem?_set];split
    .rename_i e;subst e;rw[List.length_map,if_pos hlt,List.getElem?_map,hi];rfl
    .rfl
   by_cases e:q=r
   .subst e;exact⟨_,hnew,rfl,rfl,fun y hy=>zbG.mpr (.inl hy),fun y hy=>zbG.mpr (.inl hy)⟩
   .obtain⟨j,hj⟩:=List.mem_iff_getElem?.mp hq;have hji:i≠j:=fun z=>by subst z;rw[hi] at hj;cases hj;exact e rfl
    exact⟨q,List.mem_of_getElem? (i:=j) (by rw[List.getElem?_set,if_neg hji];exact hj),rfl,rfl,fun _ h=>h,fun _ h=>h⟩
  .exact⟨_,hnew,hn,zbG.mpr (.inr rfl),zbG.mpr (.inr rfl)⟩
  .exact(List.nodup_append.mp N.nd).2.2 x z x hx rfl
def beside(ho ga bd:List Str):Nat:=(bd.filter fun x=> !decide (x∈ho++ga)).length
theorem zfw(ho ga a b:List Str):beside ho ga (a++b)=beside ho ga a+beside ho ga b:=by unfold beside;rw[List.filter_append,List.length_append]
theorem zm3:∀{ls:List LR},(∀r∈ls,1<=wide r)->ls.length+5*(ls.filter fun r=>decide (6<=wide r)).length<=zdu ls
 | [],_=>by simp[zdu]
 | r::t,h=>by
  have ih:=zm3 (ls:=t) fun q hq=>h q (List.mem_cons_of_mem _ hq)
  have h1:=h r List.mem_cons_self;unfold zdu at ih ⊢;rw[List.map_cons,List.sum_cons,List.filter_cons,List.length_cons];split
  .rename_i c;have:=of_decide_eq_true c;rw[List.length_cons];omega
  .omega
theorem split_len{α:Type}(p q:α->Bool):∀{ls:List α},(∀r∈ls,p r=true\/q r=true)->ls.length<=(ls.filter p).length+(ls.filter q).length
 | [],_=>by simp
 | r::t,h=>by
  have ih:=split_len p q (ls:=t) fun x hx=>h x (List.mem_cons_of_mem _ hx)
  have h1:=h r List.mem_cons_self;rw[List.filter_cons,List.filter_cons,List.length_cons];split<;>split
  .rw[List.length_cons,List.length_cons];omega
  .rw[List.length_cons];omega
  .rw[List.length_cons];omega
  .rename_i a b;rcases h1 with h1 | h1
   .exact absurd h1 a
   .exact absurd h1 b
theorem zxT{ho ga ns:List Str}{ls:List LR}{h c:Nat}(N:zch ho ga ns ls h c)(hh:h<=47)(one two:Str){bd:List Str}(hb:beside ho ga bd<=5)(hl:ls.length=14):∃r∈ls,zeb one bd r=true/\zfK two r=true:=by
 apply Classical.byContradiction;intro no;have all:∀r∈ls,decide (r.nm∈bd)=true\/decide (6<=wide r)=true:=fun r hr=>by
  apply Classical.byContradiction;intro z;apply no;have z1:¬ r.nm∈bd:=fun y=>z (.inl (decide_eq_true y))
  have z2:¬ 6<=wide r:=fun y=>z (.inr (decide_eq_true y))
  unfold wide at z2;refine⟨r,hr,?_,?_⟩
  .unfold zeb;simp only[Bool.and_eq_true,Bool.or_eq_true,decide_eq_true_eq,Bool.not_eq_true',decide_eq_false_iff_not];exact⟨z1, .inr (by omega)⟩
  .unfold zfK;simp only[Bool.or_eq_true,decide_eq_true_eq];exact .inr (by omega)
 have a:=split_len _ _ all;have b:=zm3 (ls:=ls) fun r hr=>by
  have E:=(N.ends r hr).s0;have:=List.length_pos_iff.mpr E;unfold wide;omega
 have hs:=N.hops;have nd2:(ls.map LR.nm).Nodup:=(List.nodup_append.mp N.nd).2.1;have d:(ls.filter fun r=>decide (r.nm∈bd)).length<=beside ho ga bd:=by
  have nd3:((ls.filter fun r=>decide (r.nm∈bd)).map LR.nm).Nodup:=nd2.sublist (List.Sublist.map _ List.filter_sublist);have:=List.Nodup.length_le_of_subset (l₂:=bd.filter fun x=> !decide (x∈ho++ga)) nd3 (fun x hx=>by
   obtain⟨r,hr,rfl⟩:=List.mem_map.mp hx;obtain⟨m1,m2⟩:=List.mem_filter.mp hr;refine List.mem_filter.mpr ⟨of_decide_eq_true m2,?_⟩;rw[decide_eq_false]
   .rfl
   .exact fun z=>(List.nodup_append.mp N.nd).2.2 _ z _ (List.mem_map.mpr ⟨r,m1,rfl⟩) rfl)
  rw[List.length_map] at this;exact this
 omega
structure Way(ho ga ns:List Str)(ls:List LR)(bd:List Str)(first:Str)(k m:Nat)(wh:List Str):Prop where
 len:wh.length=2*k+1
 hd:wh[0]? = some first
 nd:wh.Nodup
 jn:∀i x y z,wh[2*i]? = some x->wh[2*i+1]? = some y->wh[2*i+2]? = some z->Joins ls x y z
 ln:∀i y,wh[2*i+1]? = some y->y∉ho++ga/\y∉bd
 gt:∀i x,2*i+2 < m->wh[2*i+2]? = some x->x∈ga/\x∉bd
 nn:∀i x,wh[2*i]? = some x->x∈ho++ga
 sub:∀y∈wh,y∈ns
 bs:beside ho ga wh<=k
theorem Way.one{ho ga ns:List Str}{ls:List LR}{bd:List Str}{first:Str}(h:first∈ho++ga)(hn:first∈ns):Way ho ga ns ls bd first 0 1 [first] where
 len:=rfl
 hd:=rfl
 nd:=by simp
 jn:=fun i x y z _ e _=>by rw[List.getElem?_eq_none (by show 1<=_;omega)] at e;cases e
 ln:=fun i y e=>by rw[List.getElem?_eq_none (by show 1<=_;omega)] at e;cases e
 gt:=fun i y hm e=>by omega
 nn:=fun i x e=>by
  have:i=0:=Classical.byContradiction fun z=>by rw[List.getElem?_eq_none (by show 1<=_;omega)] at e;cases e
  subst this;cases e;exact h
 sub:=fun y hy=>by rw[List.mem_singleton.mp hy];exact hn
 bs:=by unfold beside;rw[List.filter_cons,if_neg (by rw[decide_eq_true h];decide)];exact Nat.le_refl _
theorem Way.grow{ho ga ns ns':List Str}{ls ls':List LR}{bd:List Str}{first:Str}{k m:Nat}{wh:List Str}(W:Way ho ga ns ls bd first k m wh){ns0:List Str}(g:zdt ns0 ls ls')(n:∀y∈ns,y∈ns'):Way ho ga ns' ls' bd first k m wh :=
 ⟨W.len,W.hd,W.nd,fun i x y z a b c=>(W.jn i x y z a b c).grow g,W.ln,W.gt,W.nn,fun y hy=>n y (W.sub y hy),W.bs⟩
theorem Way.step{ho ga ns:List Str}{ls:List LR}{bd:List Str}{first:Str}{k:Nat}{wh:List Str}(W:Way ho ga ns ls bd first k (2*k+1) wh){one x two:Str}(h1:wh[2*k]? = some one)(j:Joins ls one x two)(xg:x∉ho++ga)(xb:x∉bd)(xw:x∉wh)(xn:x∈ns)
  (tw:two∉wh)(tg:two∈ho++ga)(tn:two∈ns):Way ho ga ns ls bd first (k+1) (2*k+2) (wh++[x,two])/\(two∈ga->two∉bd->Way ho ga ns ls bd first (k+1) (2*k+3) (wh++[x,two])):=by
 have hl:=W.len;have L:∀i,i < 2*k+1->(wh++[x,two])[i]? = wh[i]? := fun i hi=>List.getElem?_append_left (by omega)
 have X:(wh++[x,two])[2*k+1]? = some x:=by rw[List.getElem?_append_right (by omega),hl,Nat.sub_self];rfl
 have T:(wh++[x,two])[2*k+2]? = some two:=by rw[List.getElem?_append_right (by omega),hl,show 2*k+2 - (2*k+1)=1 by omega];rfl
 have O:∀i,2*k+3<=i->(wh++[x,two])[i]? = none:=fun i hi=>List.getElem?_eq_none (by rw[List.length_append,hl];exact hi)
 have xt:x≠two:=fun e=>xg (e▸tg)
 have base:∀m,(∀i y,2*i+2 < m->(wh++[x,two])[2*i+2]? = some y->y∈ga/\y∉bd)->Way ho ga ns ls bd first (k+1) m (wh++[x,two]):=fun m hm=>by
  refine⟨by rw[List.length_append,hl];show 2*k+1+2=_;omega,by rw[L 0 (by omega)];exact W.hd,List.nodup_append.mpr ⟨W.nd,by simp[xt],fun a ha b hb e=>?_⟩,fun i a b c ea eb ec=>?_,fun i y e=>?_,hm,fun i y e=>?_,fun y hy=>?_,?_⟩
  .subst e;rcases List.mem_cons.mp hb with e | hb
   .exact xw (e▸ha)
   .exact tw (List.mem_singleton.mp hb▸ha)
  .rcases Nat.lt_trichotomy i k with hi | hi | hi
   .rw[L _ (by omega)] at ea eb ec;exact W.jn i a b c ea eb ec
   .subst hi;rw[L _ (by omega),h1] at ea;rw[X] at eb;rw[T] at ec;cases ea;cases eb;cases ec;exact j
   .rw[O _ (by omega)] at eb;cases eb
  .rcases Nat.lt_trichotomy i k with hi | hi | hi
   .rw[L _ (by omega)] at e;exact W.ln i y e
   .subst hi;rw[X] at e;cases e;exact⟨xg,xb⟩
   .rw[O _ (by omega)] at e;cases e
  .rcases Nat.lt_trichotomy i (k+1) with hi | hi | hi
   .rw[L _ (by omega)] at e;exact W.nn i y e
   .subst hi;rw[show 2*(k+1)=2*k+2 by omega,T] at e;cases e;exact tg
   .rw[O _ (by omega)] at e;cases e
  .rcases List.mem_append.mp hy with hy | hy
   .exact W.sub y hy
   .rcases List.mem_cons.mp hy with e | hy
    .exact e▸xn
    .exact List.mem_singleton.mp hy▸tn
  .rw[zfw];have:=W.bs;have e:beside ho ga [x,two]=1:=by
    unfold beside;rw[List.filter_cons,if_pos (by rw[decide_eq_false xg];rfl),List.filter_cons,if_neg (by rw[decide_eq_true tg];decide)];rfl
   omega
 refine⟨base _ fun i y hi e=>?_,fun g b=>base _ fun i y hi e=>?_⟩
 .rw[L _ (by omega)] at e;exact W.gt i y (by omega) e
 .by_cases c:i=k
  .subst c;rw[T] at e;cases e;exact⟨g,b⟩
  .rw[L _ (by omega)] at e;exact W.gt i y (by omega) e
theorem Way.mem{ho ga ns:List Str}{ls:List LR}{bd:List Str}{first:Str}{k m:Nat}{wh:List Str}(W:Way ho ga ns ls bd first k m wh){y:Str}(hy:y∈wh)(hm:2*k+1<=m):y=first\/y∉ho++ga\/y∈ga:=by
 obtain⟨j,hj⟩:=List.mem_iff_getElem?.mp hy;have hlt:j < 2*k+1:=by
  by_cases h:j < 2*k+1
  .exact h
  .rw[List.getElem?_eq_none (by rw[W.len];omega)] at hj;cases hj
 rcases Nat.mod_two_eq_zero_or_one j with e | e
 .by_cases z:j=0
  .subst z;rw[W.hd] at hj;cases hj;exact .inl rfl
  .obtain⟨i,rfl⟩:∃i,j=2*i+2:=⟨j / 2 - 1,by omega⟩;exact .inr (.inr (W.gt i y (by omega) hj).1)
 .obtain⟨i,rfl⟩:∃i,j=2*i+1:=⟨j / 2,by omega⟩;exact .inr (.inl (W.ln i y hj).1)
theorem zfN{x:Str}:∀{l:List Str},l.Nodup->l.length<=(l.filter fun y=> !decide (y=x)).length+1
 | [],_=>by simp
 | y::t,h=>by
  obtain⟨h1,h2⟩:=List.nodup_cons.mp h;rw[List.filter_cons,List.length_cons];by_cases e:y=x
  .subst e;rw[if_neg (by simp),List.filter_eq_self.mpr (fun z hz=>by
    rw[decide_eq_false]
    .rfl
    .exact fun q=>h1 (q▸hz))]
   exact Nat.le_refl _
  .rw[if_pos (by rw[decide_eq_false e];rfl),List.length_cons];have:=zfN (x:=x) h2;omega
theorem zch.nd2{ho ga ns:List Str}{ls:List LR}{h c:Nat}(N:zch ho ga ns ls h c){x:Str}(a:x∈ho)(b:x∈ga):False :=
 (List.nodup_append.mp (List.nodup_append.mp N.nd).1).2.2 x a x b rfl
theorem zch.more{ho ga ns:List Str}{ls:List LR}{h h' c:Nat}(N:zch ho ga ns ls h c)(l:h<=h'):zch ho ga ns ls h' c:=⟨N.nd,N.sub,N.nms,N.nsd,N.ends,N.len,Nat.le_trans N.hops l,N.cnt⟩
def zaT(ls:List LR)(way:List Str)(lo sl:Int):Int:=ls.foldl (fun m r=>if r.nm∈way then m+lo+r.w+sl else m) 0
def zfF(ls:List LR)(ways:List (List Str))(lo sl:Int):Int:=ways.foldl (fun m way=>if zaT ls way lo sl > m then zaT ls way lo sl else m) 0
structure RW where
 nm:Str
 ways:List (List Str)
 e:Int
 lo:Int
 re:Int
 lst:Int
def inner(w:List Str):List Str:=(w.drop 1).take (w.length - 2)
theorem zqS{w:List Str}{x:Str}(h:x∈inner w):x∈w:=List.mem_of_mem_drop (List.mem_of_mem_take h)
theorem zlk(w:List Str):(inner w).length<=w.length:=by unfold inner;rw[List.length_take,List.length_drop];omega
theorem zmM(ho ga w:List Str):beside ho ga (inner w)<=beside ho ga w:=by
 unfold beside inner;exact(((List.take_sublist _ _).trans (List.drop_sublist _ _)).filter _).length_le
theorem zch.named{ho ga ns:List Str}{ls:List LR}{h c:Nat}{x:Str}(N:zch ho ga ns ls h c)(hx:x∉ns)(nm:Nm x):zch ho ga (ns++[x]) ls h (c+1) where
 nd:=N.nd
 sub:=fun y hy=>List.mem_append_left _ (N.sub y hy)
 nms:=fun y hy=>(List.mem_append.mp hy).elim (N.nms y) fun z=>List.mem_singleton.mp z▸nm
 nsd:=List.nodup_append.mpr ⟨N.nsd,by simp,fun a ha b hb e=>by rw[List.mem_singleton.mp hb] at e;exact hx (e▸ha)⟩
 ends:=N.ends
 len:=N.len
 hops:=N.hops
 cnt:=by rw[List.length_append];have:=N.cnt;show ns.length+1<=_;omega
def ziR:List Int:=[12,8,20,24,10,30,15,40,60,12,120]
structure zfB(ho ga ns:List Str)(ls:List LR)(sl:Int)(r:RW):Prop where
 nmn:r.nm∈ns
 nmo:r.nm∉ho++ga++ls.map LR.nm
 way:∃first last w1 k1,first∈ho/\last∈ho/\first≠last/\1<=k1/\k1<=3/\Way ho ga ns ls [] first k1 (2*k1) w1/\w1[2*k1]? = some last/\(r.ways=[w1]\/∃w2 k2,r.ways=[w1,w2]/\1<=k2/\k2<=3/\Way ho ga ns ls (inner w1) first k2 (2*k2) w2/\w2[2*k2]? = some last)
 ev:r.e∈ziR
 l1:1<=r.lo
 l4:r.lo<=4
 le:r.lo+sl<=r.e
 r0:0<=r.re
 re:r.re < r.e
 lst:∃spare,r.lst=zfF ls r.ways r.lo sl+spare/\spare∈[0,1,2,r.e / 2,3,r.e - 1,6]
theorem zls(ls:List LR):ls.map LR.nm=(sig ls).map Prod.fst:=by unfold sig;rw[List.map_map];rfl
theorem zh5(ls:List LR)(way:List Str)(lo sl:Int):zaT ls way lo sl=(sig ls).foldl (fun m r=>if r.1∈way then m+lo+r.2+sl else m) 0:=by
 unfold zaT sig;rw[List.foldl_map]
theorem zjZ{way:List Str}{lo sl:Int}:∀{ext:List (Str×Int)} (m:Int),(∀p∈ext,p.1∉way)->ext.foldl (fun m r=>if r.1∈way then m+lo+r.2+sl else m) m=m
 | [],_,_=>rfl
 | p::t,m,h=>by
  rw[List.foldl_cons,if_neg (h p List.mem_cons_self)];exact zjZ m fun q hq=>h q (List.mem_cons_of_mem _ hq)
theorem zmv{ns:List Str}{ls ls':List LR}{way:List Str}{lo sl:Int}(g:zdt ns ls ls')(h:∀y∈way,y∈ns):zaT ls' way lo sl=zaT ls way lo sl:=by
 obtain⟨_,ext,e,hn⟩:=g;rw[zh5,zh5,e,List.foldl_append];exact zjZ _ fun p hp z=>hn p hp (h _ z)
theorem zou{ns:List Str}{ls ls':List LR}{lo sl:Int}(g:zdt ns ls ls'):∀{ways:List (List Str)},(∀way∈ways,∀y∈way,y∈ns)->zfF ls' ways lo sl=zfF ls ways lo sl:=by
 intro ways;unfold zfF;generalize (0:Int)=m
 induction ways generalizing m with
 | nil=>intro _;rfl
 | cons w t ih =>
  intro h;rw[List.foldl_cons,List.foldl_cons,zmv g (h w List.mem_cons_self)];exact ih _ fun v hv=>h v (List.mem_cons_of_mem _ hv)
theorem zfB.sub{ho ga ns:List Str}{ls:List LR}{sl:Int}{r:RW}(R:zfB ho ga ns ls sl r):∀way∈r.ways,∀y∈way,y∈ns:=by
 obtain⟨first,last,w1,k1,_,_,_,_,_,Y,_,h⟩:=R.way;intro way hw;rcases h with e | ⟨w2,k2,e,_,_,Y2,_⟩
 .rw[e] at hw;rw[List.mem_singleton.mp hw];exact Y.sub
 .rw[e] at hw;rcases List.mem_cons.mp hw with rfl | hw
  .exact Y.sub
  .rw[List.mem_singleton.mp hw];exact Y2.sub
theorem zfB.grow{ho ga ns ns':List Str}{ls ls':List LR}{sl:Int}{r:RW}(R:zfB ho ga ns ls sl r)(g:zdt ns ls ls')(n:∀y∈ns,y∈ns'):zfB ho ga ns' ls' sl r where
 nmn:=n _ R.nmn
 nmo:=fun z=>by
  obtain⟨_,ext,e,hn⟩:=g;rw[zls,e,List.map_append,<- zls,<- List.append_assoc] at z;rcases List.mem_append.mp z with z | z
  .exact R.nmo z
  .obtain⟨p,hp,ep⟩:=List.mem_map.mp z;exact hn p hp (ep▸R.nmn)
 way:=by
  obtain⟨first,last,w1,k1,a1,a2,a3,a4,a5,Y,a6,h⟩:=R.way;refine⟨first,last,w1,k1,a1,a2,a3,a4,a5,Y.grow g n,a6,?_⟩;rcases h with e | ⟨w2,k2,e,b1,b2,Y2,b3⟩
  .exact .inl e
  .exact .inr ⟨w2,k2,e,b1,b2,Y2.grow g n,b3⟩
 ev:=R.ev
 l1:=R.l1
 l4:=R.l4
 le:=R.le
 r0:=R.r0
 re:=R.re
 lst:=by
  obtain⟨sp,e,h⟩:=R.lst;exact⟨sp,by rw[zou g R.sub];exact e,h⟩
theorem zt0{xs:List Str}{i j:Nat}{x:Str}(nd:xs.Nodup)(h1:xs[i]? = some x)(h2:xs[j]? = some x):i=j:=by
 have hi:i < xs.length:=by
  by_cases h:i < xs.length
  .exact h
  .rw[List.getElem?_eq_none (by omega)] at h1;cases h1
 exact(List.getElem?_inj hi nd).mp (h1.trans h2.symm)
def zdm(σ:List Str)(v:Str):List Str:=if σ.any (·== v)=true then σ else σ++[v]
def zdA(val:Nat->Str)(i:Nat):List Str:=((List.range i).map val).foldl zdm []
theorem zq2(val:Nat->Str):zdA val 0=[]:=rfl
theorem zhE(val:Nat->Str)(i:Nat):zdA val (i+1)=zdm (zdA val i) (val i):=by
 unfold zdA;rw[List.range_succ,List.map_append,List.foldl_append];rfl
theorem zk1(σ:List Str)(v:Str):(zdm σ v).length=if σ.any (·== v)=true then σ.length else σ.length+1:=by
 unfold zdm;split<;>simp
theorem zhO(val:Nat->Str):∀i,(zdA val i).length<=i
 | 0=>by rw[zq2];exact Nat.le_refl _
 | i+1=>by
  rw[zhE,zk1];have ih:=zhO val i;split<;>omega
theorem zrA(σ:List Str)(v k:Str):(zdm σ v).any (·== k)=(σ.any (·== k)||decide (k=v)):=by
 unfold zdm;by_cases h:σ.any (·== v)=true
 .rw[if_pos h];by_cases e:k=v
  .subst e;rw[h];simp
  .simp[e]
 .rw[if_neg h,List.any_append];by_cases e:k=v
  .subst e;simp
  .have hb:(v==k)=false:=by simpa [beq_iff_eq] using (fun h':v=k=>e h'.symm)
   simp[hb,e]
theorem zpY{σ:List Str}{v:Str}:σ.any (·== v)=true↔v∈σ:=by
 rw[List.any_eq_true];exact⟨fun⟨x,hx,e⟩=>by rw[beq_iff_eq] at e;exact e▸hx,fun h=>⟨v,h,by simp⟩⟩
theorem zja:∀(ys acc:List Str),acc.Nodup->((ys.foldl zdm acc).length=acc.length+ys.length↔(acc++ys).Nodup)/\(ys.foldl zdm acc).length<=acc.length+ys.length
 | [],acc,h=>by simp[h]
 | y::t,acc,h=>by
  rw[List.foldl_cons];by_cases c:y∈acc
  .have e:zdm acc y=acc:=by unfold zdm;rw[if_pos (zpY.mpr c)]
   rw[e];obtain⟨_,ih⟩:=zja t acc h;refine⟨⟨fun z=>?_,fun z=>?_⟩,?_⟩
   .rw[List.length_cons] at z;omega
   .exact absurd rfl ((List.nodup_append.mp z).2.2 y c y List.mem_cons_self)
   .rw[List.length_cons];omega
  .have e:zdm acc y=acc++[y]:=by unfold zdm;rw[if_neg (fun z=>c (zpY.mp z))]
   have h':(acc++[y]).Nodup:=List.nodup_append.mpr ⟨h,by simp,fun a ha b hb q=>by rw[List.mem_singleton.mp hb] at q;exact c (q▸ha)⟩;obtain⟨ih1,ih2⟩:=zja t (acc++[y]) h';rw[e];rw[List.length_append,List.append_assoc] at ih1;rw[List.length_append] at ih2;rw[List.length_cons];have l1:([y]:List Str).length=1:=rfl;rw[l1] at ih1 ih2;refine⟨⟨fun z=>ih1.mp (by omega),fun z=>?_⟩,by omega⟩;have:=ih1.mpr z;omega
def zk3(ys:List Str):Nat:=(ys.foldl zdm []).length
theorem zhM{ys:List Str}(h:ys.Nodup):zk3 ys=ys.length:=by
 have:=(zja ys [] (by simp)).1.mpr (by simpa using h);unfold zk3;simpa using this
theorem ztT(ys:List Str):zdA (fun i=>ys.getD i Str.empty) ys.length=ys.foldl zdm []:=by
 unfold zdA;congr 1
 apply List.ext_getElem?;intro i;rw[List.getElem?_map];by_cases h:i < ys.length
 .rw[List.getElem?_range h,List.getElem?_eq_getElem h];show some (ys.getD i Str.empty)=_;rw[List.getD_eq_getElem?_getD,List.getElem?_eq_getElem h];rfl
 .rw[List.getElem?_eq_none (by rw[List.length_range];omega),List.getElem?_eq_none (by omega)];rfl
theorem StrsAre.str_at:∀{vs:List Value} {ns:List Str},StrsAre vs ns->∀(i:Nat) (v:Value),vs[i]? = some v->∃t,v= .str (ns.getD i Str.empty) t
 | _,_, .nil,i,v,h=>by simp at h
 | _,_, .cons n t hr,0,v,h=>by simp at h;exact⟨t,by rw[<- h];rfl⟩
 | _,_, .cons n t hr,i+1,v,h=>by
  simp only[List.getElem?_cons_succ] at h;obtain⟨t',e⟩:=StrsAre.str_at hr i v h;exact⟨t',by rw[e];rfl⟩
section
variable{prog:Program}{w:World}{A:Around}{R:Result->Shared->Prop}{I:Addr}{fp wr:List Addr}{G:Array GenState->Array GenState->Prop}{n:Nat}{P:Nat->Value->Prop}{St:Nat->Shared->Prop}
theorem zre(W:WalksS prog w A.in1 I fp wr G n P St)(S:Addr)(hSf:S∉fp)
  (val:Nat->Str)(hval:∀i v,P i v->∃t,v= .str (val i) t)(hb:n+1 < scanBound) :
  ∀(k i:Nat) (s:Shared),n - i=k->i<=n->St i s ->
   s.heap.SetOf (strKind prog w) S (fun k'=>(zdA val i).any (·== k')) (zdA val i).length ->
   (∀s',Moved (S::wr) G s s'->s'.heap.SetOf (strKind prog w) S (fun k'=>(zdA val n).any (·== k')) (zdA val n).length->R (.ok (.ret .none)) s') ->
   codeAny (model prog w) A (.builtin "set.update.loop" ⟨[.ref S, .ref I],[]⟩) R s:=by
 have hSw:S∉wr:=fun h=>hSf (W.sub _ h)
 have hsub:∀b∈wr,b∈S::wr:=fun b hb=>List.mem_cons_of_mem _ hb
 intro k;induction k with
 | zero =>
  intro i s hk hi hst hS hR;have hin:i=n:=by omega
  subst hin;refine codeAny_builtin PyProof.Rows.F.entry_set_update_loop ?_;rw[Around.under_plainId PyProof.Rows.F.plain_set_update_loop _];show wpAny _ A.in1 (pyNext (.ref I) >>= _) _ _ s;refine wpAny_bind (W.done s _ _ hst fun s' hm=>?_);show wpAny _ A.in1 (ret Value.none) _ _ s';exact wpAny_pure (hR s' (hm.mono hsub) (by
   obtain⟨o,es,ep,t,ho,rest⟩:=hS;exact⟨o,es,ep,t,hm.heap S _ hSw ho,rest⟩))
 | succ k ih =>
  intro i s hk hi hst hS hR;have hlt:i < n:=by omega
  refine codeAny_builtin PyProof.Rows.F.entry_set_update_loop ?_;rw[Around.under_plainId PyProof.Rows.F.plain_set_update_loop _];show wpAny _ A.in1 (pyNext (.ref I) >>= _) _ _ s;refine wpAny_bind (W.item i s _ _ hlt hst fun v s' hP hst' hm=>?_);obtain⟨t,rfl⟩:=hval i v hP;have hS':s'.heap.SetOf (strKind prog w) S (fun k'=>(zdA val i).any (·== k')) (zdA val i).length:=by
   obtain⟨o,es,ep,tb,ho,rest⟩:=hS;exact⟨o,es,ep,tb,hm.heap S _ hSw ho,rest⟩
  show wpAny _ A.in1 (holding [Value.str (val i) t] (setAdd S (.str (val i) t)) >>= _) _ _ s';refine wpAny_bind (wpAny_holding ?_);unfold setAdd;refine wpAny_holding ?_;refine wpAny_bind ((strKind prog w).pyHash (k:=val i) (strKind_is _ _ _ _) ?_);have hroom:(zdA val i).length+1 < scanBound:=by have:=zhO val i;omega
  refine wpAny_setAddHashed_of (knd:=strKind prog w) (s:={ s' with toks:=s'.toks+1 }) (strKind_is _ _ _ _) rfl hS' hroom fun h' hsb hS2=>?_
  have hSi:h'.SetOf (strKind prog w) S (fun k'=>(zdA val (i+1)).any (·== k')) (zdA val (i+1)).length :=
   SetOf_congr hS2 (fun k'=>by rw[zhE,zrA]) (by rw[zhE,zk1])
  refine wpAny_pure ⟨plainId_quiet PyProof.Rows.F.plain_set_update_loop _,ih (i+1) _ (by omega) hlt (W.frame _ s' _ _ hst' (Nat.le_succ _) fun b hb o e=>?_) hSi fun s'' hm'' hS''=>?_⟩
  .rw[hsb.2 b (fun h:b=S=>hSf (by rw[<- h];exact hb))];exact e
  .refine hR s'' (Moved.trans W.gtrans ((hm.mono hsub).then_heap (Nat.le_succ _) fun b o hb e=>?_) hm'') hS'';rw[hsb.2 b (fun h:b=S=>hb (by rw[h];exact List.mem_cons_self))];exact e
end
end L2
namespace PySem
open PyProof.Rows
theorem zjh:isSubtype (.type "tuple") (.type "set")=pure false:=by rw[isSubtype_type];kernel_rfl
theorem zeW:isSubtype (.type "tuple") (.type "frozenset")=pure false:=by rw[isSubtype_type];kernel_rfl
section
variable{prog:Program}{w:World}{A:Around}{E:Value->Shared->Prop}{s:Shared}
set_option maxHeartbeats 3200000 in
theorem ziI{l:Addr}{items:Array Value}{ns:List Str}{Q:Value->Shared->Prop}
  (hh:A.handled=none)(hl:s.heap.IsTuple l items)(hi:PyProof.Rows.StrsAre items.toList ns)(hb:items.size+1 < scanBound)
  (h:∀(h':Heap) (tk:Nat),h'.SetOf (strKind prog w) s.heap.objs.size (fun k'=>(L2.zdA (fun i=>ns.getD i Str.empty) items.size).any (·== k')) (L2.zdA (fun i=>ns.getD i Str.empty) items.size).length ->
   (∀b o,b < s.heap.objs.size->s.heap.get? b=some o->h'.get? b=some o)->Q (.ref s.heap.objs.size) { s with heap:=h',toks:=tk }) :
  wpAny (model prog w) A (call (.type "set") [.ref l]) Q E s:=by
 obtain⟨c,tl,hmro⟩:=F.called_set.mro;have hmade:=F.called_set.made;have hsub:=F.called_set.sub;refine wpAny_call (codeAny_of_tree ?_);show wpAny _ _ (callAny (.type "set") _) _ _ _;refine wpAny_pure ⟨Code.quiet_builtin _ (by decide+kernel),codeAny_builtin F.entry_type_call ?_⟩;rw[Around.under_plain (weight_type_call_type "set" [.ref l] []) rfl];have h1:=F.called_set.notType;have h2:=F.called_set.canCreate;have hct:=F.typeCall_set_1 (.ref l);repeat (any_goals (first | assumption | wp_step))
 refine codeAny_mono (code_set_new_1 (.ref l) (E:=E) (Q₁:=fun obj s₁=>∃led:Bool,obj= .ref s.heap.objs.size/\s₁={ s with heap:=s.heap.push { cls:= .type "set",dict:=none,data:= .set #[] 0 (.fresh 0 0 led) } }) fun led=>⟨led,rfl,rfl⟩) fun r s₁ hr=>?_
 cases r with
 | error e=>exact hr
 | ok fl =>
  cases fl with
  | ret obj =>
   obtain⟨led,rfl,rfl⟩:=hr;have hS:(s.heap.push { cls:= .type "set",dict:=none,data:= .set #[] 0 (.fresh 0 0 led) }).get? s.heap.objs.size=some { cls:= .type "set",dict:=none,data:= .set #[] 0 (.fresh 0 0 led) }:=Heap.get?_push_size _ rfl;have hT:Shared.TypeIs { s with heap:=s.heap.push { cls:= .type "set",dict:=none,data:= .set #[] 0 (.fresh 0 0 led) } } (.ref s.heap.objs.size) "set":=⟨_,hS,rfl⟩;have hli:=F.called_set.init.lookup;have hbi:=F.called_set.init.bind (.ref s.heap.objs.size);repeat (any_goals (first | assumption | wp_step))
   refine codeAny_mono (codeAny_call_builtin (R:=wants (fun r s₂=>r= .none/\∃h' tk,s₂={ s with heap:=h',toks:=tk } /\
     h'.SetOf (strKind prog w) s.heap.objs.size (fun k'=>(L2.zdA (fun i=>ns.getD i Str.empty) items.size).any (·== k')) (L2.zdA (fun i=>ns.getD i Str.empty) items.size).length /\
     (∀b o,b < s.heap.objs.size->s.heap.get? b=some o->h'.get? b=some o)) E) F.called_set.init.plain F.entry_set_init (check_set_init_1 hT ?_)) fun r₂ s₂ hr₂=>?_
   .have hl1:(s.heap.push { cls:= .type "set",dict:=none,data:= .set #[] 0 (.fresh 0 0 led) }).IsTuple l items:=hl.push _;obtain⟨ol,hol,hcl,nl,hdl⟩:=id hl;obtain⟨ocls,odict,odata,oslots⟩:=ol;simp only at hcl hdl;subst hcl;subst hdl;have hol':(s.heap.push { cls:= .type "set",dict:=none,data:= .set #[] 0 (.fresh 0 0 led) }).get? l=some { cls:= .type "tuple",dict:=odict,data:= .seq items nl,slots:=oslots }:=Heap.get?_push_of_some _ hol;have hsls:=zjh;have hslf:=zeW;have hne:(Value.type "tuple"==Value.type "dict")=false:=by decide
    unfold Builtin.«set.__init__» noKeywords Builtin.Frozenset.updateFrom;generalize hPI:pyIter=PI
    wp_walk
    subst hPI;refine wpAny_pyIter_tuple hl1 ?_;refine wpAny_bind (wpAny_runValue ?_);have hlS:l < s.heap.objs.size:=Heap.lt_size hol;have hh3:A.in1.in1.in1.handled=none:=by simp[hh]
    have hneI:l≠(s.heap.push { cls:= .type "set",dict:=none,data:= .set #[] 0 (.fresh 0 0 led) }).objs.size:=by
     rw[Heap.size_push];exact Nat.ne_of_lt (Nat.lt_succ_of_lt hlS)
    have hSf:s.heap.objs.size∉[(s.heap.push { cls:= .type "set",dict:=none,data:= .set #[] 0 (.fresh 0 0 led) }).objs.size,l]:=by
     rw[Heap.size_push];simp only[List.mem_cons,List.mem_singleton,List.not_mem_nil,or_false,not_or];exact⟨Nat.ne_of_lt (Nat.lt_succ_self _),Nat.ne_of_gt hlS⟩
    have hval:∀(i:Nat) (v:Value),items[i]? = some v->∃t,v= .str ((fun i=>ns.getD i Str.empty) i) t:=fun i v hv =>
     L2.StrsAre.str_at hi i v (by rw[Array.getElem?_toList];exact hv)
    refine L2.zre ((Walks.tuple hh3 _ l hneI items).toS) s.heap.objs.size
     hSf (fun i=>ns.getD i Str.empty) hval hb (items.size - 0) 0 _ (by omega) (Nat.zero_le _)
     ⟨⟨_,Heap.get?_push_size _ rfl,rfl,rfl⟩,(hl1.push _)⟩ ?hS0 ?hR
    case hS0 =>
     have hget:((s.heap.push { cls:= .type "set",dict:=none,data:= .set #[] 0 (.fresh 0 0 led) }).push { cls:= .type "tuple_iterator",data:= .fields #[.ref l, .int 0 0] }).get? s.heap.objs.size
       = some { cls:= .type "set",dict:=none,data:= .set #[] 0 (.fresh 0 0 led) }:=Heap.get?_push_of_some _ hS
     exact PyProof.Rows.SetOf_congr ((PyProof.Rows.setObjOf_fresh (knd:=strKind prog w) led).setOf hget (by unfold scanBound;omega)) (fun _=>rfl) rfl
    case hR =>
     intro s' hm hS';obtain⟨h',g',d',tk',os'⟩:=s';have eg:g'=s.gens:=hm.gens;have ed:d'=s.drawn:=hm.drawn;have eo:os'=s.os:=hm.os;subst eg;subst ed;subst eo;show wpAny _ _ _ _ _ _;refine wpAny_pure ?_;show wpAny _ _ (ret Value.none) _ _ _;refine wpAny_pure ⟨rfl,h',tk',rfl,hS',fun b o hb e=>?_⟩;have hb1:b≠s.heap.objs.size:=Nat.ne_of_lt hb;have hb2:b≠(s.heap.push { cls:= .type "set",dict:=none,data:= .set #[] 0 (.fresh 0 0 led) }).objs.size:=by
      rw[Heap.size_push];exact Nat.ne_of_lt (Nat.lt_succ_of_lt hb)
     exact hm.heap b o (by simp only[List.mem_cons,List.mem_singleton,List.not_mem_nil,or_false,not_or];exact⟨hb1,hb2⟩) (Heap.get?_push_of_some _ (Heap.get?_push_of_some _ e))
   .cases r₂ with
    | error e=>exact hr₂
    | ok fl₂ =>
     cases fl₂ with
     | ret r =>
      obtain⟨rfl,h',tk,rfl,hS',hk'⟩:=hr₂;repeat (any_goals (first | assumption | wp_step))
      exact h _ _ hS' hk'
     | _=>exact hr₂.elim
  | _=>exact hr.elim
end
end PySem
namespace L2
open PySem PySem.Spec PyProof.Rows
def zrg(P:Program)(w:World)(a:Addr)(ys:List Str):HO:= .ext fun h=>∃S,h.SetOf (strKind P w) a S (zk3 ys)
section
variable{X:Cx}(K:Frag)
theorem zri(hc:X.calm=true)(h:X.K=K:=by rfl):zN X (.type "set") (fun xs H Q=>∃p ys,xs=[.ref p]/\SqT K H p (ys.map V.str)/\ys.length<=100/\∀a,H a=none->Q (.ref a) (upd H a (zrg X.prog X.w a ys))):=by
 subst h;intro pins s σ H xs us Q I r h;obtain⟨p,ys,rfl,hl,hz,q⟩:=h;obtain⟨u,rfl,rx⟩:=vals1 r;cases rx;obtain⟨its,r',pl,_⟩:=I.tuple hl;have hlen:its.toArray.size=ys.length:=by rw[List.size_toArray,<- r'.length,List.length_map]
 refine ziI (I.ok.hd hc) (show s.heap.IsTuple p its.toArray from pl) (by simpa using zfe r') (by rw[hlen];unfold scanBound;omega) fun h' tk hS hk=>?_
 rw[hlen,ztT] at hS;have hk':∀b u,s.heap.get? b=some u->h'.get? b=some u:=fun b u e=>hk b u (Heap.lt_size e) e
 refine⟨.ref s.heap.objs.size,_,I.laid (o:=zrg X.prog X.w s.heap.objs.size ys) hk' (Nat.le_refl _) ?_,rfl,q _ (I.hok.fresh (Nat.le_refl _))⟩;refine⟨⟨_,hS⟩,?_,fun h1 h2 ⟨S,o,es,ep,t,e,r⟩ k=>⟨S,o,es,ep,t,k o e,r⟩⟩;obtain⟨o,_,_,_,e,_⟩:=hS;exact⟨o,e⟩
theorem zqf:zN X (.builtin "len") (fun xs H Q=>∃a ys,xs=[.ref a]/\H a=some (zrg X.prog X.w a ys)/\Q (.int (zk3 ys:Nat)) H):=by
 intro pins s σ H xs us Q I r h;obtain⟨a,ys,rfl,ha,q⟩:=h;obtain⟨u,rfl,rx⟩:=vals1 r;cases rx;obtain⟨⟨S,o,es,ep,t,ho,hex,hd,_,_,hsb,hf,hn⟩,_,_⟩:=(show zaF X.prog X.w H s.heap a (zrg X.prog X.w a ys) from I.hok a _ ha);have hb:(es.size:Int) < 2^63:=by unfold scanBound at hsb;omega
 refine call_len_set ho hex hd hf hb ⟨.int _,H,I.tok _,⟨_,rfl⟩,?_⟩;rw[hn];exact q
end
def Its(x:Str):It:=⟨fun i _=>i < x.cps.size,fun i H v H'=>H'=H/\∃c,x.cps.toList[i]? = some c/\v= .str ⟨#[c]⟩,fun i _=>x.cps.size<=i⟩
theorem zt3{P:Program}{w:World}{K:Frag}{tg:Expr}(it:Addr)(x:Str)(t:Tok):Turn P w K tg (Its x) [it] it (fun i h=>h.IsStrIter it "str_ascii_iterator" x t i) where
 mem:=by simp
 obj:=fun i h st b hb=>by
  have e:b=it:=by simpa using hb
  subst e;obtain⟨o,e,c,d⟩:=st;exact⟨o,e,fun v z=>by rw[d] at z;cases z⟩
 keep:=fun i h h' st k=>let ⟨o,ho,r⟩:=st;⟨o,k it (by simp) o ho,r⟩
 item:=by
  intro X hP hw hK hc i pins s σ H E I hf st hg;subst hP hw hK;obtain⟨f0,f1,f2,f3,f4,f5⟩:=hf it (by simp);have W:=Walks.strAscii (prog:=X.prog) (w:=X.w) (I.ok.hd hc) it x t;refine W.item i s _ _ hg st fun v h' tk hv st' kk=>?_
  obtain⟨c,u,hcu,rfl⟩:=hv;have I1:Inv X pins σ H { s with heap:=h',toks:=tk }:=I.turned (fun b o hb e=>kk b o (by simpa using hb) e) f0 f1 f3 f4 f5;obtain⟨o,e,c',d⟩:=id st';exact⟨_,rfl,zpC (s:={ s with heap:=h',toks:=tk }) e c' d (by decide) ⟨.str ⟨#[c]⟩,H,I1,⟨u,rfl⟩,⟨rfl,c,by rw[Array.getElem?_toList];exact hcu,rfl⟩,st',fun b hb=>(hf b hb).1⟩⟩
 done:=by
  intro X hP hw hK hc i pins s σ H E I hf st hg;subst hP hw hK;obtain⟨f0,f1,f2,f3,f4,f5⟩:=hf it (by simp);exact wpAny_pyNext_ascii_end (I.ok.hd hc) st (Array.getElem?_eq_none hg) fun h' eb=>⟨rfl,I.turned (t':=s.toks) (fun b o hb e=>eb b o hb e) f0 f1 f3 f4 f5⟩
 self:=fun _ _ _ _ _ st h=>wpAny_pyIter_striter_ascii st h
section
variable{X:Cx}{tg:Expr}
end
section
variable{X:Cx}{CX:CXT}{k:Nat}{f C:Addr}{fd:FuncData}{ps ks:List Str}{sp:Sp}{E:XK}{x:Str}{p pos:Pos}{e:Expr}{es:List Expr}{kws:List Keyword}{t tk:TA}{g:List Value->List Value->List Value}{gV:List V->List V->List V}
theorem zk2{pins:List (Addr×Obj)}{σ:St}{H:Hp}{s:Shared}{Q:VK}{us ws:List Value}{vs zs:List V}(M:Mk X.K C f)(F:zV X.prog X.w X.K X.mg X.base CX k f fd ps sp)(hr:zfm (k+1) X.A)(hb:zcX X.K fd ps ks g gV)
  (hx:zcs CX X E)(I:Inv X pins σ H s)(r:Vals vs us)(rz:Vals zs ws)
  (h:∀x dx,H x=none->H dx=none->dx≠x->sp (gV (.ref x::vs) zs) (upd (upd H dx (.own x)) x (.ins C dx [])) (fun v H2=>v= .non/\Q (.ref x) H2) E) :
  wpAny (model X.prog X.w) X.A (call (.ref C) us (ks.zip ws)) (EP X pins σ Q) X.xe s:=by
 have hq:=h (s.heap.objs.size+1) s.heap.objs.size (I.hok.fresh (Nat.le_succ _)) (I.hok.fresh (Nat.le_refl _)) (Nat.ne_of_lt (Nat.lt_succ_self _));have I2:=Inv.made (C:=C) I;have r2:Vals (gV (V.ref (s.heap.objs.size+1)::vs) zs) (g (Value.ref (s.heap.objs.size+1)::us) ws):=hb.rel (.cons rfl r) rz;have hl:(g (Value.ref (s.heap.objs.size+1)::us) ws).length=ps.length:=by rw[<- r2.length];exact F.len _ _ _ _ hq
 refine wpAny_call (zs0 (f:=f) I.kIn M.makes M.init (beq_iff_eq.mp M.fn) (codeAny_mono (F.run _ X.stack _ _ ⟨Value.ref (s.heap.objs.size+1)::us,ks.zip ws⟩ _ _ _ E (hr.make C us (ks.zip ws))
  (I2.env0.make C us (ks.zip ws)) (hb.to _ (Value.ref (s.heap.objs.size+1)::us) ws I2.kIn hl) r2 hq) fun r s' hq'=>?_))
 cases r with
 | error e=>exact hx pins σ _ _ e s' I2 hq'
 | ok fl =>
  cases fl with
  | ret u =>
   obtain⟨v,H',I3,rv,ev,q3⟩:=I2.after hq';subst ev;exact⟨rv,⟨V.ref (s.heap.objs.size+1),H',I3,rfl,q3⟩⟩
  | next=>exact False.elim hq'
  | brk=>exact False.elim hq'
  | cont=>exact False.elim hq'
end
section
variable{X:Cx}{CX:CXT}
end
inductive D where
 | non | bl (b:Bool) | int (i:Int) | str (x:Str) | ty (n:String)
 | cls (c:Str) | scr (ns:List Int) | cell (k:Nat)
 | tup (ds:List D) | lst (ds:List D)
 | dct (ks:List Key) (vs:List D) | dtt (ks:List (List Key)) (vs:List D)
 | obj (c:Str) (ns:List Str) (vs:List D)
 | exc (c:Str)
inductive Ct where
 | lst (ds:List D) | dct (ks:List Key) (vs:List D) | dtt (ks:List (List Key)) (vs:List D)
 | ins (c:Str) (ns:List Str) (vs:List D) | draw
 | fdct (o:Obj) (ks:List Key) (vs:List D) | fdtt (o:Obj) (ks:List (List Key)) (vs:List D)
def clsOf(K:Frag)(c:Str):Option Addr:=match nsIn K mainGlobals c with
 | some (some (.ref C))=>some C
 | _=>none
def zzW(a C:Addr)(dx:Option Addr):HO:= .ext fun h=>∃ox,h.get? a=some ox/\ox.cls= .ref C/\ox.dict=dx/\PySem.W.notCls ox=true
structure Wd where
 b:Nat->Option Addr
 F:Hp
structure Wd.le(W W':Wd):Prop where
 b:∀k a,W.b k=some a->W'.b k=some a
 F:zkv W.F W'.F
theorem Wd.le.refl(W:Wd):W.le W:=⟨fun _ _ h=>h,fun _ _ h=>h⟩
theorem Wd.le.trans{W W' W'':Wd}(a:W.le W')(b:W'.le W''):W.le W'':=⟨fun k x h=>b.b k x (a.b k x h),fun k x h=>b.F k x (a.F k x h)⟩
abbrev Mu:=Nat->Option Ct
abbrev zad:=List (Option D)
def zF(μ:Mu)(k:Nat)(c:Ct):Mu:=fun j=>if j=k then some c else μ j
def zkM(μ:Mu)(k:Nat):Mu:=fun j=>if j=k then none else μ j
theorem zr{μ:Mu}{k:Nat}{c:Ct}:zF μ k c k=some c:=if_pos rfl
theorem zg{μ:Mu}{k j:Nat}{c:Ct}(h:j≠k):zF μ k c j=μ j:=if_neg h
theorem zaa{μ:Mu}{k:Nat}{c c':Ct}:zF (zF μ k c) k c'=zF μ k c':=by funext j;unfold zF;split<;>rfl
theorem ze3{μ:Mu}{k:Nat}{c:Ct}(h:μ k=none):zkM (zF μ k c) k=μ:=by
 funext j;unfold zF zkM;by_cases e:j=k
 .subst e;rw[if_pos rfl,h]
 .show(if j=k then none else if j=k then some c else μ j)=μ j;rw[if_neg e,if_neg e]
def MLe(μ μ':Mu):Prop:=∀k c,μ k=some c->μ' k=some c
theorem MLe.refl(μ:Mu):MLe μ μ:=fun _ _ h=>h
theorem MLe.zF{μ:Mu}{k:Nat}{c:Ct}(h:μ k=none):MLe μ (L2.zF μ k c):=fun j d e=>by
 rw[zg (fun z=>by subst z;rw[h] at e;cases e)];exact e
theorem ze1{H:Hp}{p:Addr}{o:HO}(h:H p=none):zkv H (upd H p o):=fun b u q=>by rw[zE (zan q h)];exact q
theorem Rd.sm{F F':Hp}{a:Addr}{o:HO}(s:zkv F F')(h:Rd F a o):Rd F' a o:=by
 rcases h with h | ⟨u,h⟩
 .exact .inl (s _ _ h)
 .exact .inr ⟨u,s _ _ h⟩
theorem SqL.sm{K:Frag}{F F':Hp}{a:Addr}{xs:List V}(s:zkv F F')(h:SqL K F a xs):SqL K F' a xs:=h.imp (Rd.sm s) id
theorem SqT.sm{K:Frag}{F F':Hp}{a:Addr}{xs:List V}(s:zkv F F')(h:SqT K F a xs):SqT K F' a xs:=h.imp (Rd.sm s) id
mutual
def Rep(K:Frag)(W:Wd):D->V->Prop
 | .non,v=>v= .non
 | .bl b,v=>v= .bl b
 | .int i,v=>v= .int i
 | .str x,v=>v= .str x
 | .ty n,v=>v= .ty n
 | .cls c,v=>∃C,clsOf K c=some C/\v= .ref C
 | .scr ns,v=>∃a,v= .ref a/\SqL K W.F a (ns.map V.int)
 | .cell k,v=>∃a,v= .ref a/\W.b k=some a
 | .tup ds,v=>∃a xs,v= .ref a/\SqT K W.F a xs/\zu K W ds xs
 | .lst ds,v=>∃a xs,v= .ref a/\W.F a=some (.lst xs)/\zu K W ds xs
 | .dct ks vs,v=>∃a xs,v= .ref a/\W.F a=some (.dK (ks.zip xs))/\ks.length=xs.length/\zu K W vs xs
 | .dtt ks vs,v=>∃a xs,v= .ref a/\W.F a=some (.dT (ks.zip xs))/\ks.length=xs.length/\zu K W vs xs
 | .obj c ns vs,v=>∃C a dx xs,clsOf K c=some C/\v= .ref a/\W.F a=some (.ins C dx (ns.zip xs))/\ns.length=xs.length/\zu K W vs xs
 | .exc c,v=>∃C a,clsOf K c=some C/\v= .ref a/\W.F a=some (zzW a C none)
def zu(K:Frag)(W:Wd):List D->List V->Prop
 | [],xs=>xs=[]
 | d::ds,xs=>∃x r,xs=x::r/\Rep K W d x/\zu K W ds r
end
section
variable{K:Frag}{fl:Wd}{W W':Wd}
mutual
theorem Rep.mono(h:W.le W'):∀{d:D} {x:V},Rep K W d x->Rep K W' d x
 | .non,_,r=>by unfold Rep at *; exact r
 | .bl _,_,r=>by unfold Rep at *; exact r
 | .int _,_,r=>by unfold Rep at *; exact r
 | .str _,_,r=>by unfold Rep at *; exact r
 | .ty _,_,r=>by unfold Rep at *; exact r
 | .cls _,_,r=>by unfold Rep at *; exact r
 | .scr _,_,r=>by unfold Rep at *; obtain⟨a,e,q⟩:=r;exact⟨a,e,q.sm h.F⟩
 | .cell _,_,r=>by unfold Rep at *; obtain⟨a,e,q⟩:=r;exact⟨a,e,h.b _ _ q⟩
 | .tup _,_,r=>by unfold Rep at *; obtain⟨a,xs,e,q,z⟩:=r;exact⟨a,xs,e,q.sm h.F,zu.mono h z⟩
 | .lst _,_,r=>by unfold Rep at *; obtain⟨a,xs,e,q,z⟩:=r;exact⟨a,xs,e,h.F _ _ q,zu.mono h z⟩
 | .dct _ _,_,r=>by unfold Rep at *; obtain⟨a,xs,e,q,l,z⟩:=r;exact⟨a,xs,e,h.F _ _ q,l,zu.mono h z⟩
 | .dtt _ _,_,r=>by unfold Rep at *; obtain⟨a,xs,e,q,l,z⟩:=r;exact⟨a,xs,e,h.F _ _ q,l,zu.mono h z⟩
 | .obj _ _ _,_,r=>by unfold Rep at *; obtain⟨C,a,dx,xs,hc,e,q,l,z⟩:=r;exact⟨C,a,dx,xs,hc,e,h.F _ _ q,l,zu.mono h z⟩
 | .exc _,_,r=>by unfold Rep at *; obtain⟨C,a,hc,e,q⟩:=r;exact⟨C,a,hc,e,h.F _ _ q⟩
theorem zu.mono(h:W.le W'):∀{ds:List D} {xs:List V},zu K W ds xs->zu K W' ds xs
 | [],_,r=>by unfold zu at *; exact r
 | _::_,_,r=>by unfold zu at *; obtain⟨x,t,e,q,z⟩:=r;exact⟨x,t,e,Rep.mono h q,zu.mono h z⟩
end
theorem zu.nil:zu K W [] []:=by unfold zu;rfl
theorem zu.cons{d:D}{ds:List D}{x:V}{xs:List V}(a:Rep K W d x)(b:zu K W ds xs):zu K W (d::ds) (x::xs):=by unfold zu;exact⟨x,xs,rfl,a,b⟩
theorem zu.nil'{xs:List V}(h:zu K W [] xs):xs=[]:=by unfold zu at h;exact h
theorem zu.uncons{d:D}{ds:List D}{xs:List V}(h:zu K W (d::ds) xs):∃x r,xs=x::r/\Rep K W d x/\zu K W ds r:=by unfold zu at h;exact h
theorem zu.length:∀{ds:List D} {xs:List V},zu K W ds xs->xs.length=ds.length
 | [],_,h=>by rw[h.nil'];rfl
 | _::_,_,h=>by obtain⟨x,r,rfl,_,q⟩:=h.uncons;rw[List.length_cons,List.length_cons,q.length]
theorem zu.get:∀{ds:List D} {xs:List V} {i:Nat} {d:D},zu K W ds xs->ds[i]? = some d->∃x,xs[i]? = some x/\Rep K W d x
 | [],_,_,_,_,e=>by simp at e
 | _::_,_,0,_,h,e=>by obtain⟨x,r,rfl,q,_⟩:=h.uncons;simp at e;subst e;exact⟨x,rfl,q⟩
 | _::_,_,i+1,d,h,e=>by obtain⟨x,r,rfl,_,q⟩:=h.uncons;simpa using q.get (i:=i) (d:=d) (by simpa using e)
theorem zu.append:∀{ds es:List D} {xs ys:List V},zu K W ds xs->zu K W es ys->zu K W (ds++es) (xs++ys)
 | [],_,_,_,h,g=>by rw[h.nil'];exact g
 | _::_,_,_,_,h,g=>by obtain⟨x,r,rfl,q,z⟩:=h.uncons;exact .cons q (z.append g)
theorem zu.take:∀{ds:List D} {xs:List V} (n:Nat),zu K W ds xs->zu K W (ds.take n) (xs.take n)
 | _,_,0,_=>by simp[zu.nil]
 | [],_,_+1,h=>by rw[h.nil'];exact .nil
 | _::_,_,n+1,h=>by obtain⟨x,r,rfl,q,z⟩:=h.uncons;exact .cons q (z.take n)
theorem zu.drop:∀{ds:List D} {xs:List V} (n:Nat),zu K W ds xs->zu K W (ds.drop n) (xs.drop n)
 | _,_,0,h=>h
 | [],_,_+1,h=>by rw[h.nil'];exact .nil
 | _::_,_,n+1,h=>by obtain⟨x,r,rfl,q,z⟩:=h.uncons;exact z.drop n
theorem zu.set:∀{ds:List D} {xs:List V} {d:D} {x:V} (n:Nat),zu K W ds xs->Rep K W d x->zu K W (ds.set n d) (xs.set n x)
 | [],_,_,_,_,h,_=>by rw[h.nil'];exact .nil
 | _::_,_,_,_,0,h,g=>by obtain⟨x,r,rfl,q,z⟩:=h.uncons;exact .cons g z
 | _::_,_,_,_,n+1,h,g=>by obtain⟨x,r,rfl,q,z⟩:=h.uncons;exact .cons q (z.set n g)
theorem zu.ints:∀{ns:List Int} {xs:List V},zu K W (ns.map D.int) xs->xs=ns.map V.int
 | [],_,h=>h.nil'
 | _::_,_,h=>by obtain⟨x,r,rfl,q,z⟩:=h.uncons;unfold Rep at q;rw[q,z.ints];rfl
theorem zu.strs:∀{ns:List Str} {xs:List V},zu K W (ns.map D.str) xs->xs=ns.map V.str
 | [],_,h=>h.nil'
 | _::_,_,h=>by obtain⟨x,r,rfl,q,z⟩:=h.uncons;unfold Rep at q;rw[q,z.strs];rfl
theorem zu.bls:∀{ns:List Bool} {xs:List V},zu K W (ns.map D.bl) xs->xs=ns.map V.bl
 | [],_,h=>h.nil'
 | _::_,_,h=>by obtain⟨x,r,rfl,q,z⟩:=h.uncons;unfold Rep at q;rw[q,z.bls];rfl
theorem Rep.i{i:Int}:Rep K W (.int i) (.int i):=by unfold Rep;rfl
theorem Rep.s{x:Str}:Rep K W (.str x) (.str x):=by unfold Rep;rfl
theorem Rep.b{x:Bool}:Rep K W (.bl x) (.bl x):=by unfold Rep;rfl
theorem Rep.n:Rep K W .non .non:=by unfold Rep;rfl
theorem Rep.t{x:String}:Rep K W (.ty x) (.ty x):=by unfold Rep;rfl
theorem Rep.i'{i:Int}{x:V}(h:Rep K W (.int i) x):x= .int i:=by unfold Rep at h;exact h
theorem Rep.s'{i:Str}{x:V}(h:Rep K W (.str i) x):x= .str i:=by unfold Rep at h;exact h
theorem Rep.b'{i:Bool}{x:V}(h:Rep K W (.bl i) x):x= .bl i:=by unfold Rep at h;exact h
theorem Rep.n'{x:V}(h:Rep K W .non x):x= .non:=by unfold Rep at h;exact h
theorem Rep.cell'{k:Nat}{x:V}(h:Rep K W (.cell k) x):∃a,x= .ref a/\W.b k=some a:=by unfold Rep at h;exact h
theorem Rep.lst'{ds:List D}{x:V}(h:Rep K W (.lst ds) x):∃a xs,x= .ref a/\W.F a=some (.lst xs)/\zu K W ds xs:=by unfold Rep at h;exact h
theorem Rep.tup'{ds:List D}{x:V}(h:Rep K W (.tup ds) x):∃a xs,x= .ref a/\SqT K W.F a xs/\zu K W ds xs:=by unfold Rep at h;exact h
theorem Rep.lst{ds:List D}{a:Addr}{xs:List V}(h:W.F a=some (.lst xs))(r:zu K W ds xs):Rep K W (.lst ds) (.ref a):=by unfold Rep;exact⟨a,xs,rfl,h,r⟩
theorem Rep.tup{ds:List D}{a:Addr}{xs:List V}(h:SqT K W.F a xs)(r:zu K W ds xs):Rep K W (.tup ds) (.ref a):=by unfold Rep;exact⟨a,xs,rfl,h,r⟩
end
def Ctn(K:Frag)(W:Wd)(c:Ct)(o:Option HO):Prop:=match c with
 | .lst ds=>∃xs,o=some (.lst xs)/\zu K W ds xs
 | .dct ks vs=>∃xs,o=some (.dK (ks.zip xs))/\ks.length=xs.length/\zu K W vs xs
 | .dtt ks vs=>∃xs,o=some (.dT (ks.zip xs))/\ks.length=xs.length/\zu K W vs xs
 | .fdct ob ks vs=>∃xs,o=some (.frz ob (.dK (ks.zip xs)))/\ks.length=xs.length/\zu K W vs xs
 | .fdtt ob ks vs=>∃xs,o=some (.frz ob (.dT (ks.zip xs)))/\ks.length=xs.length/\zu K W vs xs
 | .ins c ns vs=>∃C dx xs,clsOf K c=some C/\o=some (.ins C dx (ns.zip xs))/\ns.length=xs.length/\zu K W vs xs
 | .draw=>∃(l:Addr) (ns:List Int) (i b c:Int),o=some (.lst [.ref l, .int i, .int b, .int c])/\W.F l=some (.lst (ns.map V.int))/\0<=i/\0<=b
theorem Ctn.mono{K:Frag}{W W':Wd}{c:Ct}{o:Option HO}(h:W.le W')(r:Ctn K W c o):Ctn K W' c o:=by
 cases c with
 | lst ds=>obtain⟨xs,e,q⟩:=r;exact⟨xs,e,q.mono h⟩
 | dct ks vs=>obtain⟨xs,e,l,q⟩:=r;exact⟨xs,e,l,q.mono h⟩
 | dtt ks vs=>obtain⟨xs,e,l,q⟩:=r;exact⟨xs,e,l,q.mono h⟩
 | fdct ob ks vs=>obtain⟨xs,e,l,q⟩:=r;exact⟨xs,e,l,q.mono h⟩
 | fdtt ob ks vs=>obtain⟨xs,e,l,q⟩:=r;exact⟨xs,e,l,q.mono h⟩
 | ins C ns vs=>obtain⟨C',dx,xs,hc,e,l,q⟩:=r;exact⟨C',dx,xs,hc,e,l,q.mono h⟩
 | draw=>obtain⟨l,ns,i,b,c,e,q,z⟩:=r;exact⟨l,ns,i,b,c,e,h.F _ _ q,z⟩
theorem Ctn.some{K:Frag}{W:Wd}{c:Ct}{o:Option HO}(r:Ctn K W c o):∃u,o=some u:=by
 cases c with
 | lst ds=>obtain⟨xs,e,q⟩:=r;exact⟨_,e⟩
 | dct ks vs=>obtain⟨xs,e,l,q⟩:=r;exact⟨_,e⟩
 | dtt ks vs=>obtain⟨xs,e,l,q⟩:=r;exact⟨_,e⟩
 | fdct ob ks vs=>obtain⟨xs,e,l,q⟩:=r;exact⟨_,e⟩
 | fdtt ob ks vs=>obtain⟨xs,e,l,q⟩:=r;exact⟨_,e⟩
 | ins C ns vs=>obtain⟨C',dx,xs,hc,e,l,q⟩:=r;exact⟨_,e⟩
 | draw=>obtain⟨l,ns,i,b,c,e,q,z⟩:=r;exact⟨_,e⟩
structure Rel(K:Frag)(fl:Wd)(W:Wd)(μ:Mu)(H:Hp):Prop where
 sub:zkv W.F H
 fin:∃n,∀k,n<=k->W.b k=none
 cel:∀k c,μ k=some c->∃a,W.b k=some a/\W.F a=none/\Ctn K W c (H a)
 inj:∀k k' c c' a,μ k=some c->μ k'=some c'->W.b k=some a->W.b k'=some a->k=k'
 up:fl.le W
def zbh(K:Frag)(W:Wd)(ρ:zad)(σ:St):Prop:=ρ.length=σ.length/\∀(i:Nat) d,ρ[i]? = some (some d)->∃x,σ[i]? = some (some x)/\Rep K W d x
section
variable{K:Frag}{fl:Wd}{W W':Wd}{μ μ':Mu}{H:Hp}{ρ:zad}{σ:St}
theorem Rel.floor{fl':Wd}(r:Rel K fl W μ H)(h:fl'.le W):Rel K fl' W μ H:=⟨r.sub,r.fin,r.cel,r.inj,h⟩
theorem zbh.mono(h:W.le W')(r:zbh K W ρ σ):zbh K W' ρ σ:=⟨r.1,fun i d e=>by obtain⟨x,e',q⟩:=r.2 i d e;exact⟨x,e',q.mono h⟩⟩
theorem zbh.set{i:Nat}{d:D}{x:V}(r:zbh K W ρ σ)(q:Rep K W d x):zbh K W (ρ.set i (some d)) (σ.set i (some x)):=⟨by simp[r.1],fun j d' e=>by
 by_cases hj:i=j
 .subst hj;by_cases hl:i < ρ.length
  .rw[List.getElem?_set_self hl] at e;cases e;exact⟨x,List.getElem?_set_self (r.1▸hl),q⟩
  .rw[List.getElem?_eq_none (by simp;omega)] at e;cases e
 .rw[List.getElem?_set_ne hj] at e;rw[List.getElem?_set_ne hj];exact r.2 j d' e⟩
theorem Rel.less(r:Rel K fl W μ' H)(h:MLe μ μ'):Rel K fl W μ H:=⟨r.sub,r.fin,fun k c e=>r.cel k c (h k c e),fun k k' c c' a e e'=>r.inj k k' c c' a (h _ _ e) (h _ _ e'),r.up⟩
theorem Rel.newF{p:Addr}{o:HO}(r:Rel K fl W μ H)(hp:H p=none):Rel K fl ⟨W.b,upd W.F p o⟩ μ (upd H p o)/\W.le ⟨W.b,upd W.F p o⟩:=by
 have hF:W.F p=none:=by
  cases e:W.F p with
  | none=>rfl
  | some u=>rw[r.sub _ _ e] at hp;cases hp
 have le:W.le ⟨W.b,upd W.F p o⟩:=⟨fun _ _ h=>h,ze1 hF⟩;refine⟨⟨fun b u e=>?_,r.fin,fun k c e=>?_,r.inj,r.up.trans le⟩,le⟩
 .by_cases hb:b=p
  .subst hb;have e':(upd W.F b o) b=some u:=e;rw[zz] at e' ⊢; exact e'
  .have e':(upd W.F p o) b=some u:=e;rw[zE hb] at e' ⊢; exact r.sub _ _ e'
 .obtain⟨a,e1,e2,q⟩:=r.cel k c e;obtain⟨u,eu⟩:=q.some;have ha:a≠p:=zan eu hp;exact⟨a,e1,by show upd W.F p o a=none;rw[zE ha];exact e2,by rw[zE ha];exact q.mono le⟩
theorem Rel.newC{p:Addr}{o:HO}{c:Ct}(r:Rel K fl W μ H)(hp:H p=none)(hc:Ctn K W c (some o)):∃(k:Nat) (W':Wd),μ k=none/\W.le W'/\Rel K fl W' (zF μ k c) (upd H p o)/\W'.b k=some p:=by
 obtain⟨n,hn⟩:=r.fin;have hF:W.F p=none:=by
  cases e:W.F p with
  | none=>rfl
  | some u=>rw[r.sub _ _ e] at hp;cases hp
 have hk:μ n=none:=by
  cases e:μ n with
  | none=>rfl
  | some c=>obtain⟨a,e1,_⟩:=r.cel n c e;rw[hn n (Nat.le_refl _)] at e1;cases e1
 have le:W.le ⟨fun j=>if j=n then some p else W.b j,W.F⟩:=⟨fun k a e=>by
  show(if k=n then some p else W.b k)=some a;rw[if_neg (fun z=>by rw[z,hn n (Nat.le_refl _)] at e;cases e)];exact e,fun _ _ h=>h⟩
 refine⟨n,⟨fun j=>if j=n then some p else W.b j,W.F⟩,hk,le,⟨fun b u e=>?_,⟨n+1,fun k hk=>?_⟩,fun k c' e=>?_,fun k k' c1 c2 a e e' q q'=>?_,r.up.trans le⟩,if_pos rfl⟩
 .have:b≠p:=fun z=>by
   have e':W.F b=some u:=e;rw[z,hF] at e';cases e'
  rw[zE this];exact r.sub _ _ e
 .show(if k=n then some p else W.b k)=none;rw[if_neg (by omega)];exact hn k (by omega)
 .by_cases ek:k=n
  .subst ek;rw[zr] at e;cases e;exact⟨p,if_pos rfl,hF,by rw[zz];exact hc.mono le⟩
  .rw[zg ek] at e;obtain⟨a,e1,e2,q⟩:=r.cel k c' e;obtain⟨u,eu⟩:=q.some;have ha:a≠p:=zan eu hp;exact⟨a,by show(if k=n then some p else W.b k)=some a;rw[if_neg ek];exact e1,e2,by rw[zE ha];exact q.mono le⟩
 .have key:∀k c,zF μ n c k=some c->True:=fun _ _ _=>trivial
  have at':∀{j:Nat} {cj:Ct},zF μ n c j=some cj->j≠n->(∃a',W.b j=some a'/\a'≠p):=fun{j cj} ej hj=>by
   rw[zg hj] at ej;obtain⟨a',e1,e2,q⟩:=r.cel j cj ej;obtain⟨u,eu⟩:=q.some;exact⟨a',e1,zan eu hp⟩
  have q1:(if k=n then some p else W.b k)=some a:=q;have q2:(if k'=n then some p else W.b k')=some a:=q';by_cases ek:k=n
  .by_cases ek':k'=n
   .rw[ek,ek']
   .rw[if_pos ek] at q1;rw[if_neg ek'] at q2;obtain⟨a',f1,f2⟩:=at' e' ek';rw[f1] at q2;cases q1;cases q2;exact absurd rfl f2
  .by_cases ek':k'=n
   .rw[if_neg ek] at q1;rw[if_pos ek'] at q2;obtain⟨a',f1,f2⟩:=at' e ek;rw[f1] at q1;cases q2;cases q1;exact absurd rfl f2
   .rw[if_neg ek] at q1;rw[if_neg ek'] at q2;rw[zg ek] at e;rw[zg ek'] at e';exact r.inj k k' _ _ a e e' q1 q2
theorem Rel.setC{k:Nat}{a:Addr}{c c':Ct}{o:HO}(r:Rel K fl W μ H)(hk:μ k=some c)(ha:W.b k=some a)(hc:Ctn K W c' (some o)):Rel K fl W (zF μ k c') (upd H a o):=by
 obtain⟨a',e1,e2,_⟩:=r.cel k c hk;rw[ha] at e1;cases e1;refine⟨fun b u e=>?_,r.fin,fun j d e=>?_,fun j j' d d' x e e'=>?_,r.up⟩
 .rw[zE (fun z=>by rw[z,e2] at e;cases e)];exact r.sub _ _ e
 .by_cases ek:j=k
  .subst ek;rw[zr] at e;cases e;exact⟨a,ha,e2,by rw[zz];exact hc⟩
  .rw[zg ek] at e;obtain⟨x,f1,f2,q⟩:=r.cel j d e;have hx:x≠a:=fun z=>ek (r.inj j k _ _ a e hk (z▸f1) ha)
   exact⟨x,f1,f2,by rw[zE hx];exact q⟩
 .have g:∀{j d},zF μ k c' j=some d->∃d,μ j=some d:=fun{j d} e=>by
   by_cases ek:j=k
   .subst ek;exact⟨_,hk⟩
   .rw[zg ek] at e;exact⟨_,e⟩
  obtain⟨d1,f1⟩:=g e;obtain⟨d2,f2⟩:=g e';exact r.inj j j' _ _ x f1 f2
theorem Rel.freeze{k:Nat}{a:Addr}{c:Ct}{o:HO}(r:Rel K fl W μ H)(hk:μ k=some c)(ha:W.b k=some a)(ho:H a=some o):Rel K fl ⟨W.b,upd W.F a o⟩ (zkM μ k) H/\W.le ⟨W.b,upd W.F a o⟩:=by
 obtain⟨a',e1,e2,_⟩:=r.cel k c hk;rw[ha] at e1;cases e1;have le:W.le ⟨W.b,upd W.F a o⟩:=⟨fun _ _ h=>h,ze1 e2⟩;have g:∀{j d},zkM μ k j=some d->j≠k/\μ j=some d:=fun{j d} e=>by
  unfold zkM at e;by_cases ek:j=k
  .rw[if_pos ek] at e;cases e
  .rw[if_neg ek] at e;exact⟨ek,e⟩
 refine⟨⟨fun b u e=>?_,r.fin,fun j d e=>?_,fun j j' d d' x e e'=>r.inj j j' _ _ x (g e).2 (g e').2,r.up.trans le⟩,le⟩
 .by_cases hb:b=a
  .subst hb;have e':(upd W.F b o) b=some u:=e;rw[zz] at e';cases e';exact ho
  .have e':(upd W.F a o) b=some u:=e;rw[zE hb] at e';exact r.sub _ _ e'
 .obtain⟨hj,ej⟩:=g e;obtain⟨x,f1,f2,q⟩:=r.cel j d ej;have hx:x≠a:=fun z=>hj (r.inj j k _ _ a ej hk (z▸f1) ha)
  exact⟨x,f1,by show upd W.F a o x=none;rw[zE hx];exact f2,q.mono le⟩
end
abbrev DK:=D->Mu->Prop
abbrev DE:=zad->Mu->DK->Prop
abbrev DT:=zad->Mu->(Bool->Mu->Prop)->Prop
abbrev DA:=zad->Mu->(List D->Mu->Prop)->Prop
structure zcw where
 nx:zad->Mu->Prop
 rt:DK
 bk:zad->Mu->Prop:=fun _ _=>False
 ct:zad->Mu->Prop:=fun _ _=>False
abbrev DS:=zcw->zad->Mu->Prop
abbrev DG:=D->zad->Mu->(zad->Mu->Prop)->Prop
abbrev DGs:=List D->zad->Mu->(zad->Mu->Prop)->Prop
abbrev DR2:=D->D->Mu->DK->Prop
abbrev DR1:=D->Mu->DK->Prop
abbrev DRs:=List D->Mu->DK->Prop
abbrev DO:=zad->Mu->(Option Int->Mu->Prop)->Prop
abbrev DI:=zad->Mu->(List D->(Mu->Prop)->Mu->Prop)->Prop
abbrev DSp:=List D->Mu->DK->Prop
section
variable(K:Frag)(fl:Wd)
abbrev KV'(W:Wd)(Q:DK)(Q':VK):Prop:=∀W' d μ' x H',W.le W'->Rel K fl W' μ' H'->Rep K W' d x->Q d μ'->Q' x H'
class zQ(t:TE)(w:DE):Prop where
 run:∀{W ρ μ σ H Q Q'},Rel K fl W μ H->zbh K W ρ σ->w ρ μ Q->KV' K fl W Q Q'->t σ H Q'
class zfi(t:TT)(w:DT):Prop where
 run:∀{W ρ μ σ H} {Q:Bool->Mu->Prop} {Q':Bool->Hp->Prop},Rel K fl W μ H->zbh K W ρ σ->w ρ μ Q->(∀W' b μ' H',W.le W'->Rel K fl W' μ' H'->Q b μ'->Q' b H')->t σ H Q'
class zbK(t:TA)(w:DA):Prop where
 run:∀{W ρ μ σ H} {Q:List D->Mu->Prop} {Q':List V->Hp->Prop},Rel K fl W μ H->zbh K W ρ σ->w ρ μ Q->(∀W' ds μ' xs H',W.le W'->Rel K fl W' μ' H'->zu K W' ds xs->Q ds μ'->Q' xs H')->t σ H Q'
structure zpJ(W:Wd)(D':zcw)(D:Ends):Prop where
 nx:∀W' ρ μ σ H,W.le W'->Rel K fl W' μ H->zbh K W' ρ σ->D'.nx ρ μ->D.nx σ H
 bk:∀W' ρ μ σ H,W.le W'->Rel K fl W' μ H->zbh K W' ρ σ->D'.bk ρ μ->D.bk σ H
 ct:∀W' ρ μ σ H,W.le W'->Rel K fl W' μ H->zbh K W' ρ σ->D'.ct ρ μ->D.ct σ H
 rt:∀W' d μ x H,W.le W'->Rel K fl W' μ H->Rep K W' d x->D'.rt d μ->D.rt x H
class zem(t:TS)(w:DS):Prop where
 run:∀{W ρ μ σ H D' D},Rel K fl W μ H->zbh K W ρ σ->w D' ρ μ->zpJ K fl W D' D->t D σ H
class zj7(g:TG)(dg:DG)(S:outParam (List Nat)):Prop where
 run:∀{W ρ μ σ H d x} {Q:zad->Mu->Prop} {Q':St->Hp->Prop},Rel K fl W μ H->zbh K W ρ σ->Rep K W d x->dg d ρ μ Q ->
  (∀W' ρ' μ' σ' H',W.le W'->Rel K fl W' μ' H'->zbh K W' ρ' σ'->σ'.length=σ.length->(∀i,i∉S->σ'[i]? = σ[i]?)->Q ρ' μ'->Q' σ' H')->g x σ H Q'
class znp(g:TGs)(dg:DGs)(S:outParam (List Nat)):Prop where
 run:∀{W ρ μ σ H ds xs} {Q:zad->Mu->Prop} {Q':St->Hp->Prop},Rel K fl W μ H->zbh K W ρ σ->zu K W ds xs->dg ds ρ μ Q ->
  (∀W' ρ' μ' σ' H',W.le W'->Rel K fl W' μ' H'->zbh K W' ρ' σ'->σ'.length=σ.length->(∀i,i∉S->σ'[i]? = σ[i]?)->Q ρ' μ'->Q' σ' H')->g xs σ H Q'
class zbd(r:R2)(q:DR2):Prop where
 run:∀{W μ H d e x y Q Q'},Rel K fl W μ H->Rep K W d x->Rep K W e y->q d e μ Q->KV' K fl W Q Q'->r x y H Q'
class zwa(r:V->Hp->VK->Prop)(q:DR1):Prop where
 run:∀{W μ H d x Q Q'},Rel K fl W μ H->Rep K W d x->q d μ Q->KV' K fl W Q Q'->r x H Q'
class zbm(r:List V->Hp->VK->Prop)(q:DRs):Prop where
 run:∀{W μ H ds xs Q Q'},Rel K fl W μ H->zu K W ds xs->q ds μ Q->KV' K fl W Q Q'->r xs H Q'
class zpn(t:TO)(w:DO):Prop where
 run:∀{W ρ μ σ H} {Q:Option Int->Mu->Prop} {Q':Option Int->Hp->Prop},Rel K fl W μ H->zbh K W ρ σ->w ρ μ Q->(∀W' b μ' H',W.le W'->Rel K fl W' μ' H'->Q b μ'->Q' b H')->t σ H Q'
def ItR(W:Wd)(J:It)(ds:List D)(Pm:Mu->Prop):Prop:=∀W1 μ H,W.le W1->Rel K fl W1 μ H->Pm μ->∀i:Nat,(∀d,ds[i]? = some d->J.go i H/\∀x H',J.yld i H x H'->∃W2,W1.le W2/\Rel K fl W2 μ H'/\Rep K W2 d x)/\(ds.length<=i->J.stop i H)
class zn6(t:TI)(w:DI):Prop where
 run:∀{W ρ μ σ H} {Q:List D->(Mu->Prop)->Mu->Prop} {Q':It->Hp->Prop},Rel K fl W μ H->zbh K W ρ σ->w ρ μ Q->(∀W' J ds Pm μ' H',W.le W'->Rel K fl W' μ' H'->ItR K fl W' J ds Pm->Q ds Pm μ'->Q' J H')->t σ H Q'
end
def zb(i:Nat):DE:=fun ρ μ Q=>match ρ[i]? with
 | some (some d)=>Q d μ
 | _=>False
def dC(d:D):DE:=fun _ μ Q=>Q d μ
section
variable{K:Frag}{fl:Wd}
instance{i:Nat}:zQ K fl (zbg i) (zb i):=⟨fun{W ρ μ σ H Q Q'} r e h k=>by
 unfold zb at h;split at h
 .rename_i d hd;obtain⟨x,ex,q⟩:=e.2 i d hd;exact⟨x,ex,k W d μ x H (.refl W) r q h⟩
 .exact h.elim⟩
instance{i:Int}:zQ K fl (tC (.int i)) (dC (.int i)):=⟨fun{W ρ μ σ H Q Q'} r e h k=>k W _ μ _ H (.refl W) r .i h⟩
instance{i:Str}:zQ K fl (tC (.str i)) (dC (.str i)):=⟨fun{W ρ μ σ H Q Q'} r e h k=>k W _ μ _ H (.refl W) r .s h⟩
instance{i:Bool}:zQ K fl (tC (.bl i)) (dC (.bl i)):=⟨fun{W ρ μ σ H Q Q'} r e h k=>k W _ μ _ H (.refl W) r .b h⟩
instance{i:String}:zQ K fl (tC (.ty i)) (dC (.ty i)):=⟨fun{W ρ μ σ H Q Q'} r e h k=>k W _ μ _ H (.refl W) r .t h⟩
class ztS(K:Frag)(c:Str)(C:Addr):Prop where
 at_:clsOf K c=some C
end
def dOp(q:DR2)(wa wb:DE):DE:=fun ρ μ Q=>wa ρ μ fun d μ1=>wb ρ μ1 fun e μ2=>q d e μ2 Q
def dUn(q:DR1)(wa:DE):DE:=fun ρ μ Q=>wa ρ μ fun d μ1=>q d μ1 Q
def zM(w:DE):DT:=fun ρ μ Q=>w ρ μ fun d μ1=>match d with
 | .bl b=>Q b μ1
 | _=>False
def zuO(t u:DT):DT:=fun ρ μ Q=>t ρ μ fun c μ1=>if c=true then u ρ μ1 Q else Q false μ1
def dOr(t u:DT):DT:=fun ρ μ Q=>t ρ μ fun c μ1=>if c=true then Q true μ1 else u ρ μ1 Q
def zmO(t:DT):DT:=fun ρ μ Q=>t ρ μ fun c μ1=>Q (!c) μ1
def zod(ta tb:DE):DE:=fun ρ μ Q=>zM ta ρ μ fun c μ1=>if c=true then tb ρ μ1 Q else Q (.bl false) μ1
def zz9(ta tb:DE):DE:=fun ρ μ Q=>zM ta ρ μ fun c μ1=>if c=true then Q (.bl true) μ1 else tb ρ μ1 Q
def zpt(ta:DE):DE:=fun ρ μ Q=>zM ta ρ μ fun c μ1=>Q (.bl (!c)) μ1
def dIf(t:DT)(ta tb:DE):DE:=fun ρ μ Q=>t ρ μ fun c μ1=>if c=true then ta ρ μ1 Q else tb ρ μ1 Q
def zjp(q q':DR2)(wa wb wc:DE):DE:=fun ρ μ Q=>wa ρ μ fun d μ1=>wb ρ μ1 fun e μ2=>q d e μ2 fun z μ3=>match z with
 | .bl k=>if k=true then wc ρ μ3 fun f μ4=>q' e f μ4 Q else Q (.bl false) μ3
 | _=>False
section
variable{K:Frag}{fl:Wd}{r r':R2}{q q':DR2}{ta tb tc:TE}{wa wb wc:DE}{t u:TT}{v w:DT}
instance[a:zQ K fl ta wa][b:zQ K fl tb wb][o:zbd K fl r q]:zQ K fl (tOp r ta tb) (dOp q wa wb):=⟨fun r e h k =>
 a.run r e h fun W1 d μ1 x H1 le1 r1 q1 h1=>b.run r1 (e.mono le1) h1 fun W2 d' μ2 y H2 le2 r2 q2 h2=>o.run r2 (q1.mono le2) q2 h2 fun W3 d3 μ3 z H3 le3 r3 q3 h3=>k W3 d3 μ3 z H3 (le1.trans (le2.trans le3)) r3 q3 h3⟩
instance{r:V->Hp->VK->Prop}{q:DR1}[a:zQ K fl ta wa][o:zwa K fl r q]:zQ K fl (tUn r ta) (dUn q wa):=⟨fun r e h k =>
 a.run r e h fun W1 d μ1 x H1 le1 r1 q1 h1=>o.run r1 q1 h1 fun W3 d3 μ3 z H3 le3 r3 q3 h3=>k W3 d3 μ3 z H3 (le1.trans le3) r3 q3 h3⟩
theorem ziM[a:zQ K fl ta wa]{W ρ μ σ H}{Q:Bool->Mu->Prop}{Q':Bool->Hp->Prop}(r:Rel K fl W μ H)(e:zbh K W ρ σ)(h:zM wa ρ μ Q)(k:∀W' b μ' H',W.le W'->Rel K fl W' μ' H'->Q b μ'->Q' b H'):ta σ H fun x H'=>∃k,x= .bl k/\Q' k H' :=
 a.run r e h fun W1 d μ1 x H1 le1 r1 q1 h1=>by
  cases d<;>first | exact h1.elim | skip
  rename_i b;exact⟨b,q1.b',k W1 b μ1 H1 le1 r1 h1⟩
instance[a:zQ K fl ta wa]:zfi K fl (zjx ta) (zM wa):=⟨fun r e h k=>ziM r e h k⟩
instance[a:zQ K fl ta wa]:zfi K fl (tB ta) (zM wa):=⟨fun r e h k=>ziM r e h k⟩
instance[a:zfi K fl t v][b:zfi K fl u w]:zfi K fl (zxI t u) (zuO v w):=⟨fun r e h k=>a.run r e h fun W1 c μ1 H1 le1 r1 h1=>by
 cases c with
 | true=>exact b.run r1 (e.mono le1) h1 fun W2 c2 μ2 H2 le2 r2 h2=>k W2 c2 μ2 H2 (le1.trans le2) r2 h2
 | false=>exact k W1 false μ1 H1 le1 r1 h1⟩
instance[a:zfi K fl t v][b:zfi K fl u w]:zfi K fl (tOr t u) (dOr v w):=⟨fun r e h k=>a.run r e h fun W1 c μ1 H1 le1 r1 h1=>by
 cases c with
 | false=>exact b.run r1 (e.mono le1) h1 fun W2 c2 μ2 H2 le2 r2 h2=>k W2 c2 μ2 H2 (le1.trans le2) r2 h2
 | true=>exact k W1 true μ1 H1 le1 r1 h1⟩
instance[a:zfi K fl t v]:zfi K fl (zyt t) (zmO v):=⟨fun r e h k=>a.run r e h fun W1 c μ1 H1 le1 r1 h1=>k W1 (!c) μ1 H1 le1 r1 h1⟩
instance[a:zQ K fl ta wa][b:zQ K fl tb wb]:zQ K fl (zrM ta tb) (zod wa wb):=⟨fun r e h k=>ziM r e h fun W1 c μ1 H1 le1 r1 h1=>by
 cases c with
 | true=>exact b.run r1 (e.mono le1) h1 fun W2 c2 μ2 x H2 le2 r2 q2 h2=>k W2 c2 μ2 x H2 (le1.trans le2) r2 q2 h2
 | false=>exact k W1 (.bl false) μ1 _ H1 le1 r1 .b h1⟩
instance[a:zQ K fl ta wa]:zQ K fl (ztC ta) (zpt wa):=⟨fun r e h k=>ziM r e h fun W1 c μ1 H1 le1 r1 h1=>k W1 (.bl (!c)) μ1 _ H1 le1 r1 .b h1⟩
instance[a:zQ K fl ta wa][b:zQ K fl tb wb][c:zQ K fl tc wc][o:zbd K fl r q][o':zbd K fl r' q']:zQ K fl (zi8 r r' ta tb tc) (zjp q q' wa wb wc):=⟨fun r e h k =>
 a.run r e h fun W1 d μ1 x H1 le1 r1 q1 h1=>b.run r1 (e.mono le1) h1 fun W2 d' μ2 y H2 le2 r2 q2 h2=>o.run r2 (q1.mono le2) q2 h2 fun W3 d3 μ3 z H3 le3 r3 q3 h3=>by
  cases d3<;>first | exact h3.elim | skip
  rename_i kk;refine⟨kk,q3.b',?_⟩;cases kk with
  | false=>exact k W3 (.bl false) μ3 _ H3 (le1.trans (le2.trans le3)) r3 .b h3
  | true=>exact c.run r3 (e.mono (le1.trans (le2.trans le3))) h3 fun W4 d4 μ4 x4 H4 le4 r4 q4 h4=>o'.run r4 (q2.mono (le3.trans le4)) q4 h4 fun W5 d5 μ5 x5 H5 le5 r5 q5 h5=>k W5 d5 μ5 x5 H5 (le1.trans (le2.trans (le3.trans (le4.trans le5)))) r5 q5 h5⟩
end
def zm:DA:=fun _ μ Q=>Q [] μ
def za(wa:DE)(wr:DA):DA:=fun ρ μ Q=>wa ρ μ fun d μ1=>wr ρ μ1 fun ds μ2=>Q (d::ds) μ2
def dTup(w:DA):DE:=fun ρ μ Q=>w ρ μ fun ds μ1=>ds.length<=sizeLine/\Q (.tup ds) μ1
def zlY(w:DA):DE:=fun ρ μ Q=>w ρ μ fun ds μ1=>ds.length<=sizeLine/\Q (.lst ds) μ1
def zdM(w:DA):DE:=fun ρ μ Q=>w ρ μ fun ds μ1=>ds.length<=sizeLine/\∀k,μ1 k=none->Q (.cell k) (zF μ1 k (.lst ds))
def zpx(ks:List Int):DA:=fun _ μ Q=>Q (ks.map D.int) μ
def znO(t:TE):TE:=t
section
variable{K:Frag}{fl:Wd}{ta:TE}{wa:DE}{t:TA}{w:DA}
instance:zbK K fl zhr zm:=⟨fun{W ρ μ σ H Q Q'} r e h k=>k W [] μ [] H (.refl W) r .nil h⟩
instance[a:zQ K fl ta wa][b:zbK K fl t w]:zbK K fl (zej ta t) (za wa w):=⟨fun r e h k =>
 a.run r e h fun W1 d μ1 x H1 le1 r1 q1 h1=>b.run r1 (e.mono le1) h1 fun W2 ds μ2 xs H2 le2 r2 q2 h2=>k W2 (d::ds) μ2 (x::xs) H2 (le1.trans le2) r2 (.cons (q1.mono le2) q2) h2⟩
theorem zu.of_ints{W:Wd}:∀ns:List Int,zu K W (ns.map D.int) (ns.map V.int)
 | []=> .nil
 | _::r=> .cons .i (zu.of_ints r)
theorem zu.of_strs{W:Wd}:∀ns:List Str,zu K W (ns.map D.str) (ns.map V.str)
 | []=> .nil
 | _::r=> .cons .s (zu.of_strs r)
instance{ks:List Int}:zbK K fl (zs8 ks) (zpx ks):=⟨fun{W ρ μ σ H Q Q'} r e h k=>k W _ μ _ H (.refl W) r (.of_ints ks) h⟩
instance[a:zbK K fl t w]:zQ K fl (zow t) (dTup w):=⟨fun r e h k=>a.run r e h fun W1 ds μ1 xs H1 le1 r1 q1 h1=>⟨by rw[q1.length];exact h1.1,fun p hp=>by
 obtain⟨r2,le2⟩:=r1.newF (o:= .tup xs) hp;exact k _ _ _ _ _ (le1.trans le2) r2 (.tup (SqT.of zz) (q1.mono le2)) h1.2⟩⟩
instance[a:zbK K fl t w]:zQ K fl (zuF t) (zlY w):=⟨fun r e h k=>a.run r e h fun W1 ds μ1 xs H1 le1 r1 q1 h1=>⟨by rw[q1.length];exact h1.1,fun p hp=>by
 obtain⟨r2,le2⟩:=r1.newF (o:= .lst xs) hp;exact k _ _ _ _ _ (le1.trans le2) r2 (.lst zz (q1.mono le2)) h1.2⟩⟩
theorem znh{W W1:Wd}{μ1:Mu}{H1:Hp}{p:Addr}{xs:List V}{ds:List D}{Q:DK}{Q':VK}(le1:W.le W1)(r1:Rel K fl W1 μ1 H1)(q1:zu K W1 ds xs)(hp:H1 p=none)(k:KV' K fl W Q Q')(h:∀k,μ1 k=none->Q (.cell k) (zF μ1 k (.lst ds))):Q' (.ref p) (upd H1 p (.lst xs)):=by
 obtain⟨c,W2,hk,le2,r2,e2⟩:=r1.newC (o:= .lst xs) (c:= .lst ds) hp ⟨xs,rfl,q1⟩;exact k W2 (.cell c) _ _ _ (le1.trans le2) r2 (by unfold Rep;exact⟨p,rfl,e2⟩) (h c hk)
instance[a:zbK K fl t w]:zQ K fl (znO (zuF t)) (zdM w):=⟨fun r e h k=>a.run r e h fun W1 ds μ1 xs H1 le1 r1 q1 h1=>⟨by rw[q1.length];exact h1.1,fun p hp=>znh le1 r1 q1 hp k h1.2⟩⟩
end
def zaq:DS:=fun D ρ μ=>D.nx ρ μ
def zJ(t u:DS):DS:=fun D ρ μ=>t { D with nx:=u D } ρ μ
def zyo:DS:=fun D ρ μ=>D.bk ρ μ
def zzN:DS:=fun D ρ μ=>D.ct ρ μ
def zal(w:DE):DS:=fun D ρ μ=>w ρ μ fun _ μ1=>D.nx ρ μ1
def zbk(w:DE):DS:=fun D ρ μ=>w ρ μ D.rt
def zzm:DS:=fun D _ μ=>D.rt .non μ
def zaX(c:DT)(t u:DS):DS:=fun D ρ μ=>c ρ μ fun b μ1=>if b=true then t D ρ μ1 else u D ρ μ1
def zaL:DS:=fun _ _ _=>False
def zp(i:Nat):DG:=fun d ρ μ Q=>Q (ρ.set i (some d)) μ
def zef:DGs:=fun ds ρ μ Q=>ds=[]/\Q ρ μ
def zao(g:DG)(gs:DGs):DGs:=fun ds ρ μ Q=>match ds with
 | d::r=>g d ρ μ fun ρ' μ'=>gs r ρ' μ' Q
 | []=>False
def zeL(n:Nat)(gs:DGs):DG:=fun d ρ μ Q=>match d with
 | .tup ds=>ds.length=n/\gs ds ρ μ Q
 | _=>False
def zas(w:DE)(g:DG):DS:=fun D ρ μ=>w ρ μ fun d μ1=>g d ρ μ1 D.nx
def dPar(i j:Nat)(w:DA):DS:=fun D ρ μ=>w ρ μ fun ds μ1=>match ds with
 | [d,e]=>D.nx ((ρ.set i (some d)).set j (some e)) μ1
 | _=>False
def zAb(i:Nat)(w:DE)(q:DR2):DS:=fun D ρ μ=>zb i ρ μ fun x _=>w ρ μ fun y μ1=>q x y μ1 fun z μ2=>D.nx (ρ.set i (some z)) μ2
def zpu(i:Nat)(t:TS):TS:=t
theorem zjO{X:Cx}{sts:List Stmt}{t:TS}(i:Nat)(h:WSs X sts t):WSs X sts (zpu i t):=h
theorem zpr{X:Cx}{e:Expr}{t:TE}(h:WE X e t):WE X e (znO t):=h
def zn0(μ:Mu)(d:D)(Q:DK):Prop:=match d with
 | .cell k=>match μ k with
  | some (.lst ds)=>Q (.lst ds) (zkM μ k)
  | some (.dct ks vs)=>Q (.dct ks vs) (zkM μ k)
  | some (.dtt ks vs)=>Q (.dtt ks vs) (zkM μ k)
  | some (.ins C ns vs)=>Q (.obj C ns vs) (zkM μ k)
  | _=>False
 | _=>False
def zgY(i:Nat)(w:DS):DS:=fun D ρ μ=>match ρ[i]? with
 | some (some d)=>zn0 μ d fun d' μ'=>w D (ρ.set i (some d')) μ'
 | _=>False
section
variable{K:Frag}{fl:Wd}{ta:TE}{wa:DE}{t u:TS}{v w:DS}
theorem zpJ.mono{W W':Wd}{D':zcw}{D:Ends}(le:W.le W')(h:zpJ K fl W D' D):zpJ K fl W' D' D :=
 ⟨fun W2 ρ μ σ H l=>h.nx W2 ρ μ σ H (le.trans l),fun W2 ρ μ σ H l=>h.bk W2 ρ μ σ H (le.trans l),fun W2 ρ μ σ H l=>h.ct W2 ρ μ σ H (le.trans l),fun W2 ρ μ σ H l=>h.rt W2 ρ μ σ H (le.trans l)⟩
instance:zem K fl zun zaq:=⟨fun{W ρ μ σ H D' D} r e h k=>k.nx W ρ μ σ H (.refl W) r e h⟩
instance:zem K fl zor zaL:=⟨fun r e h k=>h.elim⟩
instance[a:zem K fl t v][b:zem K fl u w]:zem K fl (zkx t u) (zJ v w):=⟨fun r e h k=>a.run r e h ⟨fun W1 ρ1 μ1 σ1 H1 le1 r1 e1 h1=>b.run r1 e1 h1 (k.mono le1),k.bk,k.ct,k.rt⟩⟩
instance[a:zQ K fl ta wa]:zem K fl (zsh ta) (zal wa):=⟨fun r e h k=>a.run r e h fun W1 d μ1 x H1 le1 r1 q1 h1=>k.nx W1 _ μ1 _ H1 le1 r1 (e.mono le1) h1⟩
instance[a:zQ K fl ta wa]:zem K fl (zoR ta) (zbk wa):=⟨fun r e h k=>a.run r e h fun W1 d μ1 x H1 le1 r1 q1 h1=>k.rt W1 d μ1 x H1 le1 r1 q1 h1⟩
instance{c:TT}{wc:DT}[a:zfi K fl c wc][x:zem K fl t v][y:zem K fl u w]:zem K fl (zvN c t u) (zaX wc v w):=⟨fun r e h k=>a.run r e h fun W1 b μ1 H1 le1 r1 h1=>by
 cases b with
 | true=>exact x.run r1 (e.mono le1) h1 (k.mono le1)
 | false=>exact y.run r1 (e.mono le1) h1 (k.mono le1)⟩
instance{i:Nat}:zj7 K fl (zd8 i) (zp i) [i]:=⟨fun{W ρ μ σ H d x Q Q'} r e q h k=>k W _ μ _ H (.refl W) r (e.set q) (by simp) (fun j hj=>by rw[List.getElem?_set_ne (fun z=>hj (by simp[z]))]) h⟩
instance:znp K fl zwU zef []:=⟨fun{W ρ μ σ H ds xs Q Q'} r e q h k=>by obtain⟨rfl,h⟩:=h;exact⟨q.nil',k W _ μ _ H (.refl W) r e rfl (fun _ _=>rfl) h⟩⟩
instance{g:TG}{dg:DG}{S S':List Nat}{gs:TGs}{dgs:DGs}[a:zj7 K fl g dg S][b:znp K fl gs dgs S']:znp K fl (zsG g gs) (zao dg dgs) (S++S'):=⟨fun{W ρ μ σ H ds xs Q Q'} r e q h k=>by
 cases ds with
 | nil=>exact h.elim
 | cons d ds =>
  obtain⟨x,xs,rfl,q1,q2⟩:=q.uncons;exact⟨x,xs,rfl,a.run r e q1 h fun W1 ρ1 μ1 σ1 H1 le1 r1 e1 l1 s1 h1=>b.run r1 e1 (q2.mono le1) h1 fun W2 ρ2 μ2 σ2 H2 le2 r2 e2 l2 s2 h2=>k W2 ρ2 μ2 σ2 H2 (le1.trans le2) r2 e2 (l2.trans l1) (fun i hi=>by rw[s2 i (fun z=>hi (List.mem_append_right _ z)),s1 i (fun z=>hi (List.mem_append_left _ z))]) h2⟩⟩
instance{n:Nat}{gs:TGs}{dgs:DGs}{S:List Nat}[b:znp K fl gs dgs S]:zj7 K fl (zvO K n gs) (zeL n dgs) S:=⟨fun{W ρ μ σ H d x Q Q'} r e q h k=>by
 cases d<;>first | exact h.elim | skip
 obtain⟨a,xs,rfl,hs,q1⟩:=q.tup';exact⟨a,xs,rfl,hs.sm r.sub,by rw[q1.length];exact h.1,b.run r e q1 h.2 k⟩⟩
instance{g:TG}{dg:DG}{S:List Nat}[a:zQ K fl ta wa][b:zj7 K fl g dg S]:zem K fl (zdO ta g) (zas wa dg):=⟨fun r e h k=>a.run r e h fun W1 d μ1 x H1 le1 r1 q1 h1=>b.run r1 (e.mono le1) q1 h1 fun W2 ρ2 μ2 σ2 H2 le2 r2 e2 _ _ h2=>k.nx W2 ρ2 μ2 σ2 H2 (le1.trans le2) r2 e2 h2⟩
theorem zpZ{W:Wd}{μ:Mu}{H:Hp}{d:D}{x:V}{Q:DK}(r:Rel K fl W μ H)(q:Rep K W d x)(h:zn0 μ d Q):∃W' d' μ',W.le W'/\Rel K fl W' μ' H/\Rep K W' d' x/\Q d' μ':=by
 unfold zn0 at h;split at h
 .rename_i k;obtain⟨a,rfl,hb⟩:=q.cell';split at h
  .rename_i ds hk;obtain⟨a',e1,e2,xs,e3,q3⟩:=r.cel k _ hk;rw[hb] at e1;cases e1;obtain⟨r2,le2⟩:=r.freeze hk hb e3;exact⟨_,_,_,le2,r2, .lst zz (q3.mono le2),h⟩
  .rename_i ks vs hk;obtain⟨a',e1,e2,xs,e3,l3,q3⟩:=r.cel k _ hk;rw[hb] at e1;cases e1;obtain⟨r2,le2⟩:=r.freeze hk hb e3;exact⟨_,_,_,le2,r2,by unfold Rep;exact⟨a,xs,rfl,zz,l3,q3.mono le2⟩,h⟩
  .rename_i ks vs hk;obtain⟨a',e1,e2,xs,e3,l3,q3⟩:=r.cel k _ hk;rw[hb] at e1;cases e1;obtain⟨r2,le2⟩:=r.freeze hk hb e3;exact⟨_,_,_,le2,r2,by unfold Rep;exact⟨a,xs,rfl,zz,l3,q3.mono le2⟩,h⟩
  .rename_i C ns vs hk;obtain⟨a',e1,e2,C',dx,xs,hc,e3,l3,q3⟩:=r.cel k _ hk;rw[hb] at e1;cases e1;obtain⟨r2,le2⟩:=r.freeze hk hb e3;exact⟨_,_,_,le2,r2,by unfold Rep;exact⟨C',a,dx,xs,hc,rfl,zz,l3,q3.mono le2⟩,h⟩
  .exact h.elim
 .exact h.elim
theorem zbh.set_left{W:Wd}{ρ:zad}{σ:St}{i:Nat}{d:D}{x:V}(r:zbh K W ρ σ)(hx:σ[i]? = some (some x))(q:Rep K W d x):zbh K W (ρ.set i (some d)) σ:=⟨by simp[r.1],fun j d' e=>by
 by_cases hj:i=j
 .subst hj;by_cases hl:i < ρ.length
  .rw[List.getElem?_set_self hl] at e;cases e;exact⟨x,hx,q⟩
  .rw[List.getElem?_eq_none (by simp;omega)] at e;cases e
 .rw[List.getElem?_set_ne hj] at e;exact r.2 j d' e⟩
instance{i:Nat}[a:zem K fl t v]:zem K fl (zpu i t) (zgY i v):=⟨fun{W ρ μ σ H D' D} r e h k=>by
 unfold zgY at h;split at h
 .rename_i d hd;obtain⟨x,ex,qx⟩:=e.2 i d hd;obtain⟨W',d',μ',le,r',q',h'⟩:=zpZ r qx h;exact a.run r' ((e.mono le).set_left ex q') h' (k.mono le)
 .exact h.elim⟩
end
def zjR(g:DG)(wb:DS)(D:zcw)(Pm:Mu->Prop):List L2.D->zad->Mu->Prop
 | [],ρ,μ=>Pm μ/\D.nx ρ μ
 | d::r,ρ,μ=>Pm μ/\g d ρ μ fun ρ2 μ2=>wb { D with nx:=zjR g wb D Pm r,ct:=zjR g wb D Pm r,bk:=D.nx } ρ2 μ2
def zdw(wi:DI)(g:DG)(wb:DS):DS:=fun D ρ μ=>wi ρ μ fun ds Pm μ1=>zjR g wb D Pm ds ρ μ1
section
variable{K:Frag}{fl:Wd}{tb:TS}{wb:DS}
instance{wi:TI}{di:DI}{g:TG}{dg:DG}{S:List Nat}[a:zn6 K fl wi di][b:zj7 K fl g dg S][c:zem K fl tb wb]:zem K fl (zxU wi g tb) (zdw di dg wb):=⟨fun{W ρ μ σ H D' D} r e h k =>
 a.run r e h fun W1 J ds Pm μ1 H1 le1 r1 it1 h1=>by
  refine⟨fun i m σ H=>∃W2 ρ2 μ2,W1.le W2/\Rel K fl W2 μ2 H/\zbh K W2 ρ2 σ/\m=ds.length - i/\zjR dg wb D' Pm (ds.drop i) ρ2 μ2,⟨_,W1,ρ,μ1, .refl _,r1,e.mono le1,rfl,h1⟩,?_⟩;rintro i m σ2 H2 ⟨W2,ρ2,μ2,le2,r2,e2,rfl,h2⟩;have hPm:Pm μ2:=by
   cases hdr:ds.drop i with
   | nil=>rw[hdr] at h2;exact h2.1
   | cons _ _=>rw[hdr] at h2;exact h2.1
  obtain⟨go,stop⟩:=it1 W2 μ2 H2 le2 r2 hPm i;by_cases hi:i < ds.length
  .refine .inr ?_;have hd:ds[i]? = some ds[i]:=List.getElem?_eq_getElem hi;obtain⟨g1,g2⟩:=go _ hd;rw[List.drop_eq_getElem_cons hi] at h2;obtain⟨_,h2⟩:=h2;refine⟨g1,fun σ' H'=>∃W3 ρ3 μ3,W1.le W3/\Rel K fl W3 μ3 H'/\zbh K W3 ρ3 σ'/\zjR dg wb D' Pm (ds.drop (i+1)) ρ3 μ3,fun σ' H' ⟨W3,ρ3,μ3,l3,r3,e3,h3⟩=>⟨ds.length - (i+1),by omega,W3,ρ3,μ3,l3,r3,e3,rfl,h3⟩,fun x H' y=>?_⟩;obtain⟨W3,le3,r3,q3⟩:=g2 x H' y;refine b.run r3 (e2.mono le3) q3 h2 fun W4 ρ4 μ4 σ4 H4 le4 r4 e4 _ _ h4=>c.run r4 e4 h4 ⟨fun W5 ρ5 μ5 σ5 H5 le5 r5 e5 h5=>?_,fun W5 ρ5 μ5 σ5 H5 le5 r5 e5 h5=>?_,fun W5 ρ5 μ5 σ5 H5 le5 r5 e5 h5=>?_,fun W5 d5 μ5 x5 H5 le5 r5 e5 h5=>?_⟩
   .exact⟨W5,ρ5,μ5,le2.trans (le3.trans (le4.trans le5)),r5,e5,h5⟩
   .exact k.nx W5 ρ5 μ5 σ5 H5 (le1.trans (le2.trans (le3.trans (le4.trans le5)))) r5 e5 h5
   .exact⟨W5,ρ5,μ5,le2.trans (le3.trans (le4.trans le5)),r5,e5,h5⟩
   .exact k.rt W5 d5 μ5 x5 H5 (le1.trans (le2.trans (le3.trans (le4.trans le5)))) r5 e5 h5
  .rw[List.drop_eq_nil_of_le (by omega)] at h2;exact .inl ⟨stop (by omega),k.nx W2 ρ2 μ2 σ2 H2 (le1.trans le2) r2 e2 h2.2⟩⟩
end
def zea(ρ:zad)(fr:List Nat):zad:=fr.map fun j=>(ρ[j]?).join
def zbQ(g:DG)(wc:DT)(we:DE)(ρb:zad)(Pm:Mu->Prop)(Fin:List D->Mu->Prop):List D->List D->Mu->Prop
 | [],ys,μ=>Pm μ/\Fin ys μ
 | d::r,ys,μ=>Pm μ/\ys.length < sizeLine/\g d ρb μ fun ρ2 μ2=>wc ρ2 μ2 fun b μ3=>if b=true then we ρ2 μ3 fun v μ4=>zbQ g wc we ρb Pm Fin r (ys++[v]) μ4 else zbQ g wc we ρb Pm Fin r ys μ3
def zeS:DT:=fun _ μ Q=>Q true μ
instance{K:Frag}{fl:Wd}:zfi K fl zyG zeS:=⟨fun{W ρ μ σ H Q Q'} r e h k=>k W _ μ H (.refl W) r h⟩
def zc6(own:List Str)(fr:List Nat)(S:List Nat)(wi:DI)(g:DG)(wc:DT)(we:DE):DE:=fun ρ μ Q=>(S.all fun i=>decide (i < own.length))=true/\wi ρ μ fun ds Pm μ1 =>
 zbQ g wc we (List.replicate own.length none++zea ρ fr) Pm (fun ys μ2=>Q (.lst ys) μ2) ds [] μ1
def zo7(own:List Str)(fr:List Nat)(S:List Nat)(wi:DI)(g:DG)(wc:DT)(we:DE):DE:=fun ρ μ Q=>(S.all fun i=>decide (i < own.length))=true/\wi ρ μ fun ds Pm μ1 =>
 zbQ g wc we (List.replicate own.length none++zea ρ fr) Pm (fun ys μ2=>∀k,μ2 k=none->Q (.cell k) (zF μ2 k (.lst ys))) ds [] μ1
section
variable{K:Frag}{fl:Wd}{te:TE}{we:DE}{tc:TT}{wc:DT}{wi:TI}{di:DI}{g:TG}{dg:DG}{S:List Nat}
theorem zbh.comp{W:Wd}{ρ:zad}{σ:St}(e:zbh K W ρ σ)(own:List Str)(fr:List Nat):zbh K W (List.replicate own.length none++zea ρ fr) (own.map (fun _=>none)++zaz σ fr):=by
 refine⟨by simp[zea,zaz],fun i d h=>?_⟩;by_cases hi:i < own.length
 .rw[List.getElem?_append_left (by simp;exact hi),List.getElem?_replicate] at h;rw[if_pos hi] at h;cases h
 .rw[List.getElem?_append_right (by simp;omega)] at h;rw[List.getElem?_append_right (by simp;omega)];simp only[List.length_replicate,zea,List.getElem?_map] at h;simp only[List.length_map,zaz,List.getElem?_map];cases hj:fr[i - own.length]? with
  | none=>rw[hj] at h;cases h
  | some j =>
   rw[hj] at h;simp only[Option.map_some,Option.some.injEq] at h ⊢;cases hd:ρ[j]? with
   | none=>rw[hd] at h;cases h
   | some o =>
    rw[hd] at h;obtain⟨x,hx,q⟩:=e.2 j d (by rw[hd];simpa using h);exact⟨x,by rw[hx];rfl,q⟩
theorem znl(own:List Str)(fr:List Nat)[b:zj7 K fl g dg S][c:zfi K fl tc wc][v:zQ K fl te we]{W1:Wd}{ρ:zad}{μ1:Mu}{σ:St}{H1:Hp}{J:It}{ds:List D}{Pm:Mu->Prop}{Fin:List D->Mu->Prop}{Fin':List V->Hp->Prop}(e:zbh K W1 ρ σ)(r1:Rel K fl W1 μ1 H1)(it1:ItR K fl W1 J ds Pm)
  (hS:(S.all fun i=>decide (i < own.length))=true)(h:zbQ dg wc we (List.replicate own.length none++zea ρ fr) Pm Fin ds [] μ1)
  (hF:∀W2 ys μ2 xs H2,W1.le W2->Rel K fl W2 μ2 H2->zu K W2 ys xs->Fin ys μ2->Fin' xs H2) :
  ∃W:Nat->Nat->List V->Hp->Prop,(∃m,W 0 m [] H1)/\zhj J g tc te (own.map (fun _=>none)++zaz σ fr) Fin' W:=by
 refine⟨fun i m xs H=>∃W2 ys μ2,W1.le W2/\Rel K fl W2 μ2 H/\zu K W2 ys xs/\m=ds.length - i/\zbQ dg wc we (List.replicate own.length none++zea ρ fr) Pm Fin (ds.drop i) ys μ2,⟨_,W1,[],μ1, .refl _,r1, .nil,rfl,h⟩,?_⟩;rintro i m xs H2 ⟨W2,ys,μ2,le2,r2,q2,rfl,h2⟩;have hPm:Pm μ2:=by
  cases hdr:ds.drop i with
  | nil=>rw[hdr] at h2;exact h2.1
  | cons _ _=>rw[hdr] at h2;exact h2.1
 obtain⟨go,stop⟩:=it1 W2 μ2 H2 le2 r2 hPm i;by_cases hi:i < ds.length
 .refine .inr ?_;have hd:ds[i]? = some ds[i]:=List.getElem?_eq_getElem hi;obtain⟨g1,g2⟩:=go _ hd;rw[List.drop_eq_getElem_cons hi] at h2;obtain⟨_,hz,h2⟩:=h2;refine⟨g1,by rw[q2.length];exact hz,fun xs' H'=>∃W3 ys3 μ3,W1.le W3/\Rel K fl W3 μ3 H'/\zu K W3 ys3 xs'/\zbQ dg wc we (List.replicate own.length none++zea ρ fr) Pm Fin (ds.drop (i+1)) ys3 μ3,fun xs' H' ⟨W3,ρ3,μ3,l3,r3,e3,h3⟩=>⟨ds.length - (i+1),by omega,W3,ρ3,μ3,l3,r3,e3,rfl,h3⟩,fun x H' y=>?_⟩;obtain⟨W3,le3,r3,q3⟩:=g2 x H' y;refine b.run r3 (((e.comp own fr).mono le2).mono le3) q3 h2 fun W4 ρ4 μ4 σ4 H4 le4 r4 e4 l4 s4 h4=>⟨⟨l4.symm,fun j v hj=>?_⟩,?_⟩
  .by_cases hjS:j∈S
   .have:j < own.length:=of_decide_eq_true (List.all_eq_true.mp hS j hjS);rw[List.getElem?_append_left (by simp;exact this),List.getElem?_map,List.getElem?_eq_getElem this] at hj;cases hj
   .rw[s4 j hjS];exact hj
  .refine c.run r4 e4 h4 fun W5 bb μ5 H5 le5 r5 h5=>?_
   cases bb with
   | true=>exact v.run r5 (e4.mono le5) h5 fun W6 d6 μ6 x6 H6 le6 r6 q6 h6=>⟨W6,_,μ6,le2.trans (le3.trans (le4.trans (le5.trans le6))),r6,(q2.mono (le3.trans (le4.trans (le5.trans le6)))).append (.cons q6 .nil),h6⟩
   | false=>exact⟨W5,ys,μ5,le2.trans (le3.trans (le4.trans le5)),r5,q2.mono (le3.trans (le4.trans le5)),h5⟩
 .rw[List.drop_eq_nil_of_le (by omega)] at h2;exact .inl ⟨stop (by omega),hF W2 ys μ2 xs H2 le2 r2 q2 h2.2⟩
instance{own:List Str}{fr:List Nat}[a:zn6 K fl wi di][b:zj7 K fl g dg S][c:zfi K fl tc wc][v:zQ K fl te we]:zQ K fl (zk5 own fr wi g tc te) (zc6 own fr S di dg wc we):=⟨fun{W ρ μ σ H Q Q'} r e h k =>
 a.run r e h.2 fun W1 J ds Pm μ1 H1 le1 r1 it1 h1=>znl own fr (e.mono le1) r1 it1 h.1 h1 fun W2 ys μ2 xs H2 le2 r2 q2 h2 p hp=>by
  obtain⟨r3,le3⟩:=r2.newF (o:= .lst xs) hp;exact k _ _ _ _ _ (le1.trans (le2.trans le3)) r3 (.lst zz (q2.mono le3)) h2⟩
instance{own:List Str}{fr:List Nat}[a:zn6 K fl wi di][b:zj7 K fl g dg S][c:zfi K fl tc wc][v:zQ K fl te we]:zQ K fl (znO (zk5 own fr wi g tc te)) (zo7 own fr S di dg wc we):=⟨fun{W ρ μ σ H Q Q'} r e h k =>
 a.run r e h.2 fun W1 J ds Pm μ1 H1 le1 r1 it1 h1=>znl own fr (e.mono le1) r1 it1 h.1 h1 fun W2 ys μ2 xs H2 le2 r2 q2 h2 p hp=>znh (le1.trans le2) r2 q2 hp k h2⟩
end
def lift(K:Frag)(dsp:DSp):Sp:=fun vs H Q _=>∃fl W μ ds Q0,Rel K fl W μ H/\zu K W ds vs/\dsp ds μ Q0/\KV' K fl W Q0 Q
def dCall(dsp:DSp)(w:DA):DE:=fun ρ μ Q=>w ρ μ fun ds μ1=>dsp ds μ1 Q
instance{K:Frag}{fl:Wd}{dsp:DSp}{E:XK}{t:TA}{w:DA}[a:zbK K fl t w]:zQ K fl (znu (lift K dsp) [] E t) (dCall dsp w):=⟨fun{W ρ μ σ H Q Q'} r e h k =>
 a.run r e h fun W1 ds μ1 xs H1 le1 r1 q1 h1=>⟨fl,W1,μ1,ds,Q,r1,by rw[List.append_nil];exact q1,h1,fun W2 d μ2 x H2 le2=>k W2 d μ2 x H2 (le1.trans le2)⟩⟩
def zkh(N:List Str)(ds:List D):zad:=ds.map some++List.replicate (N.length - ds.length) none
theorem zbh.start{K:Frag}{W:Wd}{N:List Str}{ds:List D}{vs:List V}(h:zu K W ds vs):zbh K W (zkh N ds) (start N vs):=by
 refine⟨by simp[zkh,zsK,h.length],fun i d e=>?_⟩;unfold zkh at e;rw[zsK];by_cases hi:i < ds.length
 .rw[List.getElem?_append_left (by simp;exact hi),List.getElem?_map,List.getElem?_eq_getElem hi] at e;simp only[Option.map_some,Option.some.injEq] at e;obtain⟨x,hx,q⟩:=h.get (i:=i) (d:=d) (by rw[List.getElem?_eq_getElem hi,e]);exact⟨x,by rw[List.getElem?_append_left (by simp[h.length];exact hi),List.getElem?_map,hx];rfl,q⟩
 .rw[List.getElem?_append_right (by simp;omega),List.getElem?_replicate] at e;split at e<;>cases e
section
variable{P:Program}{w:World}{K:Frag}{fl:Wd}{mg:Str->Option Value}{base:Heap}
end
section
variable{X:Cx}
end
def zX(μ:Mu):D->Option (List D)
 | .lst ds=>some ds
 | .cell k=>match μ k with
  | some (.lst ds)=>some ds
  | _=>none
 | _=>none
def zbs(μ:Mu):D->Option (List D)
 | .tup ds=>some ds
 | d=>zX μ d
section
variable{K:Frag}{fl:Wd}{W:Wd}{μ:Mu}{H:Hp}{d:D}{x:V}{ds:List D}
theorem zax(r:Rel K fl W μ H)(q:Rep K W d x)(h:zX μ d=some ds):∃a xs,x= .ref a/\H a=some (.lst xs)/\zu K W ds xs:=by
 unfold zX at h;split at h
 .cases h;obtain⟨a,xs,rfl,e,z⟩:=q.lst';exact⟨a,xs,rfl,r.sub _ _ e,z⟩
 .rename_i k;obtain⟨a,rfl,hb⟩:=q.cell';split at h
  .rename_i ds' hk;cases h;obtain⟨a',e1,e2,xs,e3,q3⟩:=r.cel k _ hk;rw[hb] at e1;cases e1;exact⟨a,xs,rfl,e3,q3⟩
  .cases h
 .cases h
theorem zcK(r:Rel K fl W μ H)(q:Rep K W d x)(h:zbs μ d=some ds):∃a xs,x= .ref a/\(SqL K H a xs\/SqT K H a xs)/\zu K W ds xs:=by
 unfold zbs at h;split at h
 .cases h;obtain⟨a,xs,rfl,e,z⟩:=q.tup';exact⟨a,xs,rfl, .inr (e.sm r.sub),z⟩
 .obtain⟨a,xs,rfl,e,z⟩:=zax r q h;exact⟨a,xs,rfl, .inl (SqL.of e),z⟩
end
section
variable{X:Cx}
end
def zzA:R2:=fun x y H Q=>∃i j,x= .str i/\y= .str j/\i.length+j.length<=sizeLine/\Q (.str (i++j)) H
def zy7:R2:=rI0 fun i j=> .int (i+j)
def zwd(K:Frag):R2:=fun x y H Q=>zy7 x y H Q\/zzA x y H Q\/zyR x y H Q\/zv9 K x y H Q
theorem zW{X:Cx}(K:Frag)(h:X.K=K:=by rfl):OpR X (binaryOp .Add) (zwd K):=h▸zmA.or (zpe.or (zxs.or zvn))
def zbi:DR2:=fun d e μ Q=>match d,e with
 | .int i, .int j=>Q (.int (i+j)) μ
 | .str a, .str b=>a.length+b.length<=sizeLine/\Q (.str (a++b)) μ
 | .tup a, .tup b=>a≠[]/\a.length+b.length<=sizeLine/\Q (.tup (a++b)) μ
 | d,e=>∃a b,zX μ d=some a/\zX μ e=some b/\a.length+b.length<=sizeLine/\Q (.lst (a++b)) μ
instance{K:Frag}{fl:Wd}:zbd K fl (zwd K) zbi:=⟨fun{W μ H d e x y Q Q'} r q1 q2 h k=>by
 unfold zbi at h;split at h
 .rw[q1.i',q2.i'];exact .inl ⟨_,_,rfl,rfl,k _ _ _ _ _ (.refl _) r .i h⟩
 .rw[q1.s',q2.s'];exact .inr (.inl ⟨_,_,rfl,rfl,h.1,k _ _ _ _ _ (.refl _) r .s h.2⟩)
 .rename_i a b;obtain⟨p,xs,rfl,s1,z1⟩:=q1.tup';obtain⟨p',ys,rfl,s2,z2⟩:=q2.tup';obtain⟨hn,hz,h⟩:=h;refine .inr (.inr (.inr ⟨p,p',xs,ys,rfl,rfl,s1.sm r.sub,s2.sm r.sub,fun z=>?_,by rw[z1.length,z2.length];exact hz,fun z=>?_,fun _ q hq=>?_⟩))
  .have:=z1.length;rw[z] at this;exact hn (List.length_eq_zero_iff.mp this.symm)
  .have:=z2.length;rw[z] at this;have e:b=[]:=List.length_eq_zero_iff.mp this.symm;subst e;rw[List.append_nil] at h;exact k _ _ _ _ _ (.refl _) r q1 h
  .obtain⟨r2,le2⟩:=r.newF (o:= .tup (xs++ys)) hq;exact k _ _ _ _ _ le2 r2 (.tup (SqT.of zz) ((z1.mono le2).append (z2.mono le2))) h
 .obtain⟨a,b,e1,e2,hz,h⟩:=h;obtain⟨p,xs,rfl,s1,z1⟩:=zax r q1 e1;obtain⟨p',ys,rfl,s2,z2⟩:=zax r q2 e2;refine .inr (.inr (.inl ⟨p,p',xs,ys,rfl,rfl,s1,s2,by rw[z1.length,z2.length];exact hz,fun q hq=>?_⟩));obtain⟨r2,le2⟩:=r.newF (o:= .lst (xs++ys)) hq;exact k _ _ _ _ _ le2 r2 (.lst zz ((z1.mono le2).append (z2.mono le2))) h⟩
def dI(C:Int->Int->Prop)(g:Int->Int->D):DR2:=fun d e μ Q=>match d,e with
 | .int i, .int j=>C i j/\Q (g i j) μ
 | _,_=>False
def dI0(g:Int->Int->D):DR2:=fun d e μ Q=>match d,e with
 | .int i, .int j=>Q (g i j) μ
 | _,_=>False
section
variable{K:Frag}{fl:Wd}
theorem zss{C:Int->Int->Prop}{g:Int->Int->V}{g':Int->Int->D}(hg:∀W i j,Rep K W (g' i j) (g i j)):zbd K fl (rI C g) (dI C g'):=⟨fun{W μ H d e x y Q Q'} r q1 q2 h k=>by
 unfold dI at h;split at h
 .rw[q1.i',q2.i'];exact⟨_,_,rfl,rfl,h.1,k _ _ _ _ _ (.refl _) r (hg _ _ _) h.2⟩
 .exact h.elim⟩
theorem ziV{g:Int->Int->V}{g':Int->Int->D}(hg:∀W i j,Rep K W (g' i j) (g i j)):zbd K fl (rI0 g) (dI0 g'):=⟨fun{W μ H d e x y Q Q'} r q1 q2 h k=>by
 unfold dI0 at h;split at h
 .rw[q1.i',q2.i'];exact⟨_,_,rfl,rfl,k _ _ _ _ _ (.refl _) r (hg _ _ _) h⟩
 .exact h.elim⟩
end
def zj1:DR2:=dI0 fun i j=> .int (i - j)
def zmY:DR2:=dI zio fun i j=> .int (i / j)
def zuT:DR2:=dI (fun _ j=>0 < j) fun i j=> .int (i % j)
def zz8:DR2:=dI zvH fun i j=> .int (i^j.toNat)
def dLt:DR2:=dI0 fun i j=> .bl (decide (i < j))
def dLe:DR2:=dI0 fun i j=> .bl (decide (i<=j))
def dGt:DR2:=dI0 fun i j=> .bl (decide (j < i))
def dGe:DR2:=dI0 fun i j=> .bl (decide (j<=i))
def zfj:DR1:=fun d μ Q=>match d with
 | .int i=>Q (.int (-i)) μ
 | _=>False
section
variable{K:Frag}{fl:Wd}
instance:zbd K fl (rI0 fun i j=> .int (i - j)) zj1:=ziV fun _ _ _=> .i
instance:zbd K fl (rI zio fun i j=> .int (i / j)) zmY:=zss fun _ _ _=> .i
instance:zbd K fl (rI (fun _ j=>0 < j) fun i j=> .int (i % j)) zuT:=zss fun _ _ _=> .i
instance:zbd K fl (rI0 fun i j=> .bl (decide (i < j))) dLt:=ziV fun _ _ _=> .b
instance:zbd K fl (rI0 fun i j=> .bl (decide (i<=j))) dLe:=ziV fun _ _ _=> .b
instance:zbd K fl (rI0 fun i j=> .bl (decide (j<=i))) dGe:=ziV fun _ _ _=> .b
instance:zwa K fl (rU fun i=> .int (-i)) zfj:=⟨fun{W μ H d x Q Q'} r q h k=>by
 unfold zfj at h;split at h
 .rw[q.i'];exact⟨_,rfl,k _ _ _ _ _ (.refl _) r .i h⟩
 .exact h.elim⟩
end
def zzn:R2:=rI zmK fun i j=> .int (i*j)
def zpv:R2:=fun x y H Q=>zzn x y H Q\/zyX x y H Q
theorem zvM{X:Cx}:OpR X (binaryOp .Mult) zpv:=zsa.or zyi
def ztn:DR2:=fun d e μ Q=>match d,e with
 | .int i, .int j=>zmK i j/\Q (.int (i*j)) μ
 | d, .int j=>∃a,zX μ d=some a/\ -(2^63)<=j/\j < 2^63/\a.length*j.toNat<=sizeLine/\Q (.lst (List.replicate j.toNat a).flatten) μ
 | _,_=>False
theorem zu.rep{K:Frag}{W:Wd}{ds:List D}{xs:List V}(h:zu K W ds xs):∀n:Nat,zu K W (List.replicate n ds).flatten (List.replicate n xs).flatten
 | 0=> .nil
 | n+1=>by rw[List.replicate_succ,List.replicate_succ,List.flatten_cons,List.flatten_cons];exact h.append (zu.rep h n)
instance{K:Frag}{fl:Wd}:zbd K fl zpv ztn:=⟨fun{W μ H d e x y Q Q'} r q1 q2 h k=>by
 unfold ztn at h;split at h
 .rw[q1.i',q2.i'];exact .inl ⟨_,_,rfl,rfl,h.1,k _ _ _ _ _ (.refl _) r .i h.2⟩
 .rename_i j _;obtain⟨a,e1,h1,h2,hz,h⟩:=h;obtain⟨p,xs,rfl,s1,z1⟩:=zax r q1 e1;rw[q2.i'];refine .inr ⟨p,_,xs,rfl,rfl,s1,h1,h2,by rw[z1.length];exact hz,fun q hq=>?_⟩;obtain⟨r2,le2⟩:=r.newF (o:= .lst (List.replicate j.toNat xs).flatten) hq;exact k _ _ _ _ _ le2 r2 (.lst zz ((z1.mono le2).rep _)) h
 .exact h.elim⟩
def zzB:DR2:=fun d e μ Q=>match d,e with
 | .int i, .int j=>Q (.int (i+j)) μ
 | .cell k,e=>∃a b,μ k=some (.lst a)/\zX μ e=some b/\a.length+b.length<=sizeLine/\Q (.cell k) (zF μ k (.lst (a++b)))
 | _,_=>False
def zyY:DR2:=dI0 fun i j=> .int (i - j)
def zzD:DR2:=dI zmK fun i j=> .int (i*j)
theorem zu.atI{K:Frag}{W:Wd}{ds:List D}{xs:List V}{i:Int}{d:D}(h:zu K W ds xs)(e:L2.atI ds i=some d):∃x,L2.atI xs i=some x/\Rep K W d x:=by
 unfold L2.atI at *;rw[h.length];cases hn:ixN ds.length i with
 | none=>rw[hn] at e;cases e
 | some j =>
  rw[hn] at e;exact h.get e
def dIx:DR2:=fun d e μ Q=>match d,e with
 | .str z, .int i=>z.length<=sizeLine/\(match L2.atI z.cps.toList i with
  | some c=>Q (.str ⟨#[c]⟩) μ
  | none=>False)
 | d, .int i=>match zbs μ d with
  | some ds=>match L2.atI ds i with
   | some v=>Q v μ
   | none=>False
  | none=>False
 | _,_=>False
instance{K:Frag}{fl:Wd}:zbd K fl (rIx K) dIx:=⟨fun{W μ H d e x y Q Q'} r q1 q2 h k=>by
 unfold dIx at h;split at h
 .rename_i z i;obtain⟨hz,h⟩:=h;split at h
  .rename_i c hc;rw[q1.s',q2.i'];exact .inr (.inr ⟨z,i,c,rfl,rfl,hz,hc,k _ _ _ _ _ (.refl _) r .s h⟩)
  .exact h.elim
 .rename_i i _;split at h
  .rename_i ds hds;obtain⟨p,xs,rfl,s1,z1⟩:=zcK r q1 hds;split at h
   .rename_i v hv;obtain⟨w,ew,qw⟩:=z1.atI hv;rw[q2.i'];rcases s1 with s1 | s1
    .exact .inl ⟨p,xs,i,w,rfl,rfl,s1,ew,k _ _ _ _ _ (.refl _) r qw h⟩
    .exact .inr (.inl ⟨p,xs,i,w,rfl,rfl,s1,ew,k _ _ _ _ _ (.refl _) r qw h⟩)
   .exact h.elim
  .exact h.elim
 .exact h.elim⟩
theorem zvC{X:Cx}(K:Frag)(h:X.K=K:=by rfl):IxR X (rIx K):=h▸zxZ
def zaG:DO:=fun _ μ Q=>Q none μ
def zbe(w:DE):DO:=fun ρ μ Q=>w ρ μ fun d μ1=>match d with
 | .int i=>Q (some i) μ1
 | _=>False
abbrev DSl:=D->Option Int->Option Int->Mu->DK->Prop
class zwj(K:Frag)(fl:Wd)(r:V->Option Int->Option Int->Hp->VK->Prop)(q:DSl):Prop where
 run:∀{W μ H d x lo hi Q Q'},Rel K fl W μ H->Rep K W d x->q d lo hi μ Q->KV' K fl W Q Q'->r x lo hi H Q'
def dSl(q:DSl)(we:DE)(wl wh:DO):DE:=fun ρ μ Q=>we ρ μ fun d μ1=>wl ρ μ1 fun l μ2=>wh ρ μ2 fun u μ3=>q d l u μ3 Q
section
variable{K:Frag}{fl:Wd}{te:TE}{we:DE}{tl th:TO}{wl wh:DO}
instance:zpn K fl zms zaG:=⟨fun{W ρ μ σ H Q Q'} r e h k=>k W _ μ H (.refl W) r h⟩
instance[a:zQ K fl te we]:zpn K fl (zs4 te) (zbe we):=⟨fun r e h k=>a.run r e h fun W1 d μ1 x H1 le1 r1 q1 h1=>by
 cases d<;>first | exact h1.elim | skip
 exact⟨_,q1.i',k W1 _ μ1 H1 le1 r1 h1⟩⟩
instance{r:V->Option Int->Option Int->Hp->VK->Prop}{q:DSl}[a:zQ K fl te we][b:zpn K fl tl wl][c:zpn K fl th wh][o:zwj K fl r q]:zQ K fl (tSl r te tl th) (dSl q we wl wh):=⟨fun r e h k =>
 a.run r e h fun W1 d μ1 x H1 le1 r1 q1 h1=>b.run r1 (e.mono le1) h1 fun W2 l μ2 H2 le2 r2 h2=>c.run r2 (e.mono (le1.trans le2)) h2 fun W3 u μ3 H3 le3 r3 h3=>o.run r3 (q1.mono (le2.trans le3)) h3 fun W4 d4 μ4 x4 H4 le4 r4 q4 h4=>k W4 d4 μ4 x4 H4 (le1.trans (le2.trans (le3.trans le4))) r4 q4 h4⟩
end
def cutD{α:Type}(xs:List α)(lo hi:Option Int):List α:=(xs.drop (HT.sIx xs.length 0 lo)).take (HT.sIx xs.length xs.length hi - HT.sIx xs.length 0 lo)
theorem zu.cut{K:Frag}{W:Wd}{ds:List D}{xs:List V}(h:zu K W ds xs)(lo hi:Option Int):zu K W (cutD ds lo hi) (ziB xs lo hi):=by
 unfold cutD ziB;rw[h.length];exact(h.drop _).take _
def zyV(K:Frag):V->Option Int->Option Int->Hp->VK->Prop:=fun x lo hi H Q=>zxq K x lo hi H Q\/zzo K x lo hi H Q
theorem ziP{X:Cx}(K:Frag)(h:X.K=K:=by rfl):SlR X (zyV K):=h▸zpH.or zxd
def zbJ:DSl:=fun d lo hi μ Q=>match d with
 | .tup ds=>¬ (HT.sIx ds.length 0 lo=0/\HT.sIx ds.length ds.length hi=ds.length)/\Q (.tup (cutD ds lo hi)) μ
 | d=>match zX μ d with
  | some ds=>Q (.lst (cutD ds lo hi)) μ
  | none=>False
instance{K:Frag}{fl:Wd}:zwj K fl (zyV K) zbJ:=⟨fun{W μ H d x lo hi Q Q'} r q1 h k=>by
 unfold zbJ at h;split at h
 .obtain⟨p,xs,rfl,s1,z1⟩:=q1.tup';refine .inr ⟨p,xs,rfl,s1.sm r.sub,by rw[z1.length];exact h.1,fun q hq=>?_⟩;obtain⟨r2,le2⟩:=r.newF (o:= .tup (ziB xs lo hi)) hq;exact k _ _ _ _ _ le2 r2 (.tup (SqT.of zz) ((z1.mono le2).cut _ _)) h.2
 .split at h
  .rename_i ds hds;obtain⟨p,xs,rfl,s1,z1⟩:=zax r q1 hds;refine .inl ⟨p,xs,rfl,SqL.of s1,fun q hq=>?_⟩;obtain⟨r2,le2⟩:=r.newF (o:= .lst (ziB xs lo hi)) hq;exact k _ _ _ _ _ le2 r2 (.lst zz ((z1.mono le2).cut _ _)) h
  .exact h.elim⟩
mutual
def toPy:D->Option PyData
 | .non=>some .none
 | .bl b=>some (.bool b)
 | .int i=>some (.int i)
 | .str x=>some (.str x)
 | .tup ds=>(zbD ds).map .tuple
 | .lst ds=>(zbD ds).map .list
 | _=>none
def zbD:List D->Option (List PyData)
 | []=>some []
 | d::ds=>match toPy d,zbD ds with
  | some p,some ps=>some (p::ps)
  | _,_=>none
end
def zmZ(μ:Mu):D->Option PyData
 | .cell k=>match μ k with
  | some (.lst ds)=>(zbD ds).map .list
  | _=>none
 | d=>toPy d
section
variable{K:Frag}{fl:Wd}{W:Wd}{H:Hp}
mutual
theorem znX(s:zkv W.F H):∀{d:D} {p:PyData} {x:V},toPy d=some p->Rep K W d x->Dat K H p x
 | .non,_,_,e,q=>by unfold toPy at e;cases e;rw[q.n'];exact .n
 | .bl _,_,_,e,q=>by unfold toPy at e;cases e;rw[q.b'];exact .b
 | .int _,_,_,e,q=>by unfold toPy at e;cases e;rw[q.i'];exact .i
 | .str _,_,_,e,q=>by unfold toPy at e;cases e;rw[q.s'];exact .s
 | .tup ds,_,_,e,q=>by
  unfold toPy at e;obtain⟨a,xs,rfl,h,z⟩:=q.tup';cases e1:zbD ds with
  | none=>rw[e1] at e;cases e
  | some ps=>rw[e1] at e;cases e;exact .tup (h.sm s) (zfd s e1 z)
 | .lst ds,_,_,e,q=>by
  unfold toPy at e;obtain⟨a,xs,rfl,h,z⟩:=q.lst';cases e1:zbD ds with
  | none=>rw[e1] at e;cases e
  | some ps=>rw[e1] at e;cases e;exact .lst (SqL.of (s _ _ h)) (zfd s e1 z)
 | .ty _,_,_,e,_=>by unfold toPy at e;cases e
 | .cls _,_,_,e,_=>by unfold toPy at e;cases e
 | .scr _,_,_,e,_=>by unfold toPy at e;cases e
 | .cell _,_,_,e,_=>by unfold toPy at e;cases e
 | .dct _ _,_,_,e,_=>by unfold toPy at e;cases e
 | .dtt _ _,_,_,e,_=>by unfold toPy at e;cases e
 | .obj _ _ _,_,_,e,_=>by unfold toPy at e;cases e
theorem zfd(s:zkv W.F H):∀{ds:List D} {ps:List PyData} {xs:List V},zbD ds=some ps->zu K W ds xs->zdF K H ps xs
 | [],_,_,e,q=>by unfold zbD at e;cases e;rw[q.nil'];exact .nil
 | d::ds,_,_,e,q=>by
  unfold zbD at e;obtain⟨x,r,rfl,q1,q2⟩:=q.uncons;cases e1:toPy d with
  | none=>rw[e1] at e;cases e
  | some p =>
   cases e2:zbD ds with
   | none=>rw[e1,e2] at e;cases e
   | some ps=>rw[e1,e2] at e;cases e;exact .cons (znX s e1 q1) (zfd s e2 q2)
end
theorem ze7{μ:Mu}{d:D}{p:PyData}{x:V}(r:Rel K fl W μ H)(e:zmZ μ d=some p)(q:Rep K W d x):Dat K H p x:=by
 unfold zmZ at e;split at e
 .rename_i k;obtain⟨a,rfl,hb⟩:=q.cell';split at e
  .rename_i ds hk;obtain⟨a',e1,e2,xs,e3,q3⟩:=r.cel k _ hk;rw[hb] at e1;cases e1;cases e4:zbD ds with
   | none=>rw[e4] at e;cases e
   | some ps=>rw[e4] at e;cases e;exact .lst (SqL.of e3) (zfd r.sub e4 q3)
  .cases e
 .exact znX r.sub e q
end
def zzu(K:Frag)(neg:Bool):R2:=fun x y H Q=>∃d d',Dat K H d x/\Dat K H d' y/\ziz d/\ziz d'/\Q (.bl (if neg then !PyData.eqv d d' else PyData.eqv d d')) H
def zzC(K:Frag):R2:=fun x y H Q=>rEq x y H Q\/zzu K false x y H Q
def zy2(K:Frag):R2:=fun x y H Q=>rNe x y H Q\/zzu K true x y H Q
theorem zd5{X:Cx}(K:Frag){k:Nat}{cm:Bool}(hr:zaV cm k X.A)(h:X.K=K:=by rfl):OpR X (compareOp .Eq) (zzC K):=zwq.or (zxG K hr h)
theorem zjP{X:Cx}(K:Frag){k:Nat}{cm:Bool}(hr:zaV cm k X.A)(h:X.K=K:=by rfl):OpR X (compareOp .NotEq) (zy2 K):=zyZ.or (zxQ K hr h)
def zmC(neg:Bool):DR2:=fun d e μ Q=>match d,e with
 | .int i, .int j=>Q (.bl (neg ^^ decide (i=j))) μ
 | .str i, .str j=>Q (.bl (neg ^^ decide (i=j))) μ
 | .bl i, .bl j=>Q (.bl (neg ^^ decide (i=j))) μ
 | d,e=>match zmZ μ d,zmZ μ e with
  | some p,some q=>ziz p/\ziz q/\Q (.bl (neg ^^ PyData.eqv p q)) μ
  | _,_=>False
def dEq:DR2:=zmC false
def dNe:DR2:=zmC true
theorem zsC(i j:Int):decide (V.int i=V.int j)=decide (i=j):=by by_cases h:i=j<;>simp[h]
theorem zrI(i j:Str):decide (V.str i=V.str j)=decide (i=j):=by by_cases h:i=j<;>simp[h]
theorem zwb(i j:Bool):decide (V.bl i=V.bl j)=decide (i=j):=by by_cases h:i=j<;>simp[h]
instance{K:Frag}{fl:Wd}:zbd K fl (zzC K) dEq:=⟨fun{W μ H d e x y Q Q'} r q1 q2 h k=>by
 unfold dEq zmC at h;simp only[Bool.false_xor] at h;split at h
 .rw[q1.i',q2.i'];exact .inl ⟨rfl,k _ _ _ _ _ (.refl _) r (by rw[zsC];exact .b) h⟩
 .rw[q1.s',q2.s'];exact .inl ⟨rfl,k _ _ _ _ _ (.refl _) r (by rw[zrI];exact .b) h⟩
 .rw[q1.b',q2.b'];exact .inl ⟨rfl,k _ _ _ _ _ (.refl _) r (by rw[zwb];exact .b) h⟩
 .split at h
  .rename_i p q e1 e2;exact .inr ⟨p,q,ze7 r e1 q1,ze7 r e2 q2,h.1,h.2.1,k _ _ _ _ _ (.refl _) r .b h.2.2⟩
  .exact h.elim⟩
instance{K:Frag}{fl:Wd}:zbd K fl (zy2 K) dNe:=⟨fun{W μ H d e x y Q Q'} r q1 q2 h k=>by
 unfold dNe zmC at h;simp only[Bool.true_xor] at h;split at h
 .rw[q1.i',q2.i'];exact .inl ⟨rfl,k _ _ _ _ _ (.refl _) r (by rw[zsC];exact .b) h⟩
 .rw[q1.s',q2.s'];exact .inl ⟨rfl,k _ _ _ _ _ (.refl _) r (by rw[zrI];exact .b) h⟩
 .rw[q1.b',q2.b'];exact .inl ⟨rfl,k _ _ _ _ _ (.refl _) r (by rw[zwb];exact .b) h⟩
 .split at h
  .rename_i p q e1 e2;exact .inr ⟨p,q,ze7 r e1 q1,ze7 r e2 q2,h.1,h.2.1,k _ _ _ _ _ (.refl _) r .b h.2.2⟩
  .exact h.elim⟩
def zeR:D->Bool
 | .non=>true
 | _=>false
def dIs:DR2:=fun d e μ Q=>match e with
 | .non=>Q (.bl (zeR d)) μ
 | _=>False
def zxe:DR2:=fun d e μ Q=>match e with
 | .non=>Q (.bl (!zeR d)) μ
 | _=>False
def zjf:D->Option V
 | .non=>some .non
 | .bl b=>some (.bl b)
 | .int i=>some (.int i)
 | .str x=>some (.str x)
 | _=>none
def zdq:List D->Option (List V)
 | []=>some []
 | d::ds=>match zjf d,zdq ds with
  | some x,some xs=>some (x::xs)
  | _,_=>none
theorem zkQ{K:Frag}{W:Wd}{d:D}{x v:V}(e:zjf d=some v)(q:Rep K W d x):x=v/\zfH v=true:=by
 cases d<;>simp only[zjf,Option.some.injEq,reduceCtorEq] at e
 .rw[<- e];exact⟨q.n',rfl⟩
 .rw[<- e];exact⟨q.b',rfl⟩
 .rw[<- e];exact⟨q.i',rfl⟩
 .rw[<- e];exact⟨q.s',rfl⟩
theorem zjo{K:Frag}{W:Wd}:∀{ds:List D} {xs vs:List V},zdq ds=some vs->zu K W ds xs->xs=vs/\vs.all zfH=true
 | [],_,_,e,q=>by unfold zdq at e;cases e;exact⟨q.nil',rfl⟩
 | d::ds,_,_,e,q=>by
  unfold zdq at e;obtain⟨x,r,rfl,q1,q2⟩:=q.uncons;cases e1:zjf d with
  | none=>rw[e1] at e;cases e
  | some v =>
   cases e2:zdq ds with
   | none=>rw[e1,e2] at e;cases e
   | some vs =>
    rw[e1,e2] at e;cases e;obtain⟨a,b⟩:=zkQ e1 q1;obtain⟨c,f⟩:=zjo e2 q2;exact⟨by rw[a,c],by rw[List.all_cons,b,f];rfl⟩
def zbW(neg:Bool):DR2:=fun d e μ Q=>match zbs μ e with
 | some ds=>match zjf d,zdq ds with
  | some v,some vs=>Q (.bl (if neg then !inV v vs else inV v vs)) μ
  | _,_=>False
 | none=>False
instance{K:Frag}{fl:Wd}{neg:Bool}:zbd K fl (rIn K neg) (zbW neg):=⟨fun{W μ H d e x y Q Q'} r q1 q2 h k=>by
 unfold zbW at h;split at h
 .rename_i ds hds;obtain⟨p,xs,rfl,s1,z1⟩:=zcK r q2 hds;split at h
  .rename_i v vs e1 e2;obtain⟨a,b⟩:=zkQ e1 q1;obtain⟨c,f⟩:=zjo e2 z1;subst a c;exact⟨p,_,rfl,s1,b,f,k _ _ _ _ _ (.refl _) r .b h⟩
  .exact h.elim
 .exact h.elim⟩
def dCB(q:DRs)(w:DA):DE:=fun ρ μ Q=>w ρ μ fun ds μ1=>q ds μ1 Q
instance{K:Frag}{fl:Wd}{r:List V->Hp->VK->Prop}{q:DRs}{t:TA}{w:DA}[a:zbK K fl t w][o:zbm K fl r q]:zQ K fl (tCB r t) (dCB q w):=⟨fun r e h k =>
 a.run r e h fun W1 ds μ1 xs H1 le1 r1 q1 h1=>o.run r1 q1 h1 fun W2 d μ2 x H2 le2=>k W2 d μ2 x H2 (le1.trans le2)⟩
section
variable{X:Cx}(K:Frag)
def zzM:List V->Hp->VK->Prop:=fun xs H Q=>∃p ys,xs=[.ref p]/\(SqL K H p ys\/SqT K H p ys)/\Q (.int ys.length) H
def zyN:List V->Hp->VK->Prop:=fun xs H Q=>∃z,xs=[.str z]/\z.length<=sizeLine/\Q (.int z.length) H
def zwu:List V->Hp->VK->Prop:=fun xs H Q=>zzM K xs H Q\/zyN xs H Q
theorem zZ(h:X.K=K:=by rfl):zN X (.builtin "len") (zwu K):=h▸zgK.or zmJ
def zyT:List V->Hp->VK->Prop:=fun xs H Q=>∃i j,xs=[.int i, .int j]/\Q (.int (if j > i then j else i)) H
def zzk:List V->Hp->VK->Prop:=fun xs H Q=>∃p ns,xs=[.ref p]/\SqL K H p (ns.map V.int)/\ns≠[]/\∀M∈ns,(∀a∈ns,a<=M)->Q (.int M) H
def zwz:List V->Hp->VK->Prop:=fun xs H Q=>zyT xs H Q\/zzk K xs H Q
def zy5:List V->Hp->VK->Prop:=fun xs H Q=>∃i j,xs=[.int i, .int j]/\Q (.int (if j < i then j else i)) H
def zzQ:List V->Hp->VK->Prop:=fun xs H Q=>∃p ns,xs=[.ref p]/\SqL K H p (ns.map V.int)/\ns≠[]/\∀M∈ns,(∀a∈ns,M<=a)->Q (.int M) H
def zpq:List V->Hp->VK->Prop:=fun xs H Q=>zy5 xs H Q\/zzQ K xs H Q
theorem zqJ(hc:X.calm=true:=by rfl)(h:X.K=K:=by rfl):zN X (.builtin "max") (zwz K):=(zqZ hc).or (zqN K hc h)
theorem zhv(hc:X.calm=true:=by rfl)(h:X.K=K:=by rfl):zN X (.builtin "min") (zpq K):=(zrx hc).or (zqs K hc h)
def zza:List V->Hp->VK->Prop:=fun xs H Q=>∃(p:Addr) (bs:List Bool),xs=[.ref p]/\SqL K H p (bs.map V.bl)/\Q (.bl (bs.all id)) H
def zzR:List V->Hp->VK->Prop:=fun xs H Q=>∃(p:Addr) (bs:List Bool),xs=[.ref p]/\SqL K H p (bs.map V.bl)/\Q (.bl (bs.any id)) H
def zxz:List V->Hp->VK->Prop:=fun xs H Q=>∃x c t b,xs=[x,c]/\zfl K H x t/\(∀u,RelV c u->kitOne K t u=some b)/\Q (.bl b) H
def zwe:List V->Hp->VK->Prop:=fun xs H Q=>∃p ys,xs=[.ref p]/\(SqL K H p ys\/SqT K H p ys)/\∀l,H l=none->Q (.ref l) (upd H l (.lst ys))
def zs1:List V->Hp->VK->Prop:=fun xs H Q=>∃p ys,xs=[.ref p]/\((SqL K H p ys/\∀l,H l=none->Q (.ref l) (upd H l (.tup ys)))\/(SqT K H p ys/\Q (.ref p) H))
theorem zhg(hc:X.calm=true:=by rfl)(h:X.K=K:=by rfl):zN X (.builtin "all") (zza K):=zqo K hc h
theorem zrE(hc:X.calm=true:=by rfl)(h:X.K=K:=by rfl):zN X (.builtin "any") (zzR K):=zq1 K hc h
theorem zrs(h:X.K=K:=by rfl):zN X (.builtin "isinstance") (zxz K):=zmb K h
theorem zoQ(h:X.K=K:=by rfl):zN X (.type "list") (zwe K):=zj3 K h
theorem zbE(h:X.K=K:=by rfl):zN X (.type "tuple") (zs1 K):=zn4 K h
end
def zcH:DRs:=fun ds μ Q=>match ds with
 | [.str z]=>z.length<=sizeLine/\Q (.int z.length) μ
 | [d]=>match zbs μ d with
  | some es=>Q (.int es.length) μ
  | none=>False
 | _=>False
def zz7:DRs:=fun ds μ Q=>match ds with
 | [.int i]=>Q (.int (if i < 0 then -i else i)) μ
 | _=>False
def intsOf:List D->Option (List Int)
 | []=>some []
 | .int i::r=>match intsOf r with
  | some l=>some (i::l)
  | none=>none
 | _=>none
def zbY:List D->Option (List Bool)
 | []=>some []
 | .bl i::r=>match zbY r with
  | some l=>some (i::l)
  | none=>none
 | _=>none
theorem zlp:∀{ds:List D} {ns:List Int},intsOf ds=some ns->ds=ns.map D.int
 | [],_,h=>by cases h;rfl
 | d::r,ns,h=>by
  cases d<;>simp only[intsOf,reduceCtorEq] at h
  cases e:intsOf r with
  | none=>rw[e] at h;cases h
  | some l=>rw[e] at h;cases h;rw[zlp e];rfl
theorem znf:∀{ds:List D} {ns:List Bool},zbY ds=some ns->ds=ns.map D.bl
 | [],_,h=>by cases h;rfl
 | d::r,ns,h=>by
  cases d<;>simp only[zbY,reduceCtorEq] at h
  cases e:zbY r with
  | none=>rw[e] at h;cases h
  | some l=>rw[e] at h;cases h;rw[znf e];rfl
theorem zlc:∀ns:List Bool,zbY (ns.map D.bl)=some ns
 | []=>rfl
 | _::r=>by rw[List.map_cons,zbY,zlc r]
def zqH:DRs:=fun ds μ Q=>match ds with
 | [.int i, .int j]=>Q (.int (if j > i then j else i)) μ
 | [d]=>match (zX μ d).bind intsOf with
  | some ns=>ns≠[]/\∀M∈ns,(∀a∈ns,a<=M)->Q (.int M) μ
  | none=>False
 | _=>False
def zl7:DRs:=fun ds μ Q=>match ds with
 | [.int i, .int j]=>Q (.int (if j < i then j else i)) μ
 | [d]=>match (zX μ d).bind intsOf with
  | some ns=>ns≠[]/\∀M∈ns,(∀a∈ns,M<=a)->Q (.int M) μ
  | none=>False
 | _=>False
def zze:DRs:=fun ds μ Q=>match ds with
 | [d]=>match (zX μ d).bind intsOf with
  | some ns=>Q (.int ns.sum) μ
  | none=>False
 | _=>False
def zpd:DRs:=fun ds μ Q=>match ds with
 | [d]=>match (zX μ d).bind zbY with
  | some bs=>Q (.bl (bs.all id)) μ
  | none=>False
 | _=>False
def ztw:DRs:=fun ds μ Q=>match ds with
 | [d]=>match (zX μ d).bind zbY with
  | some bs=>Q (.bl (bs.any id)) μ
  | none=>False
 | _=>False
def znM:DRs:=fun ds μ Q=>match ds with
 | [d]=>match zbs μ d with
  | some es=>Q (.lst es) μ
  | none=>False
 | _=>False
def ztu:DRs:=fun ds μ Q=>match ds with
 | [d]=>match zbs μ d with
  | some es=>∀k,μ k=none->Q (.cell k) (zF μ k (.lst es))
  | none=>False
 | _=>False
def zcr:DRs:=fun ds μ Q=>match ds with
 | [d]=>match zbs μ d with
  | some es=>Q (.tup es) μ
  | none=>False
 | _=>False
def tyD(μ:Mu):D->Option String
 | .non=>some "NoneType"
 | .bl _=>some "bool"
 | .int _=>some "int"
 | .str _=>some "str"
 | .lst _=>some "list"
 | .cell k=>match μ k with
  | some (.lst _)=>some "list"
  | some (.dct _ _)=>some "dict"
  | some (.dtt _ _)=>some "dict"
  | _=>none
 | .dct _ _=>some "dict"
 | .dtt _ _=>some "dict"
 | _=>none
def zah:List String:=["int","bool","str","list","tuple","dict"]
def zg3(t T:String):Bool:=t==T||(t=="bool"&&T=="int")
def zsP:DRs:=fun ds μ Q=>match ds with
 | [d, .ty T]=>match tyD μ d with
  | some t=>T∈zah/\Q (.bl (zg3 t T)) μ
  | none=>False
 | _=>False
section
variable{K:Frag}{fl:Wd}{W:Wd}{μ:Mu}{H:Hp}
theorem zu.one{d:D}{xs:List V}(h:zu K W [d] xs):∃x,xs=[x]/\Rep K W d x:=by
 obtain⟨x,r,rfl,q,z⟩:=h.uncons;rw[z.nil'];exact⟨x,rfl,q⟩
theorem zu.two{d e:D}{xs:List V}(h:zu K W [d,e] xs):∃x y,xs=[x,y]/\Rep K W d x/\Rep K W e y:=by
 obtain⟨x,r,rfl,q,z⟩:=h.uncons;obtain⟨y,rfl,q2⟩:=z.one;exact⟨x,y,rfl,q,q2⟩
instance:zbm K fl (zwu K) zcH:=⟨fun{W μ H ds xs Q Q'} r z h k=>by
 unfold zcH at h;split at h
 .obtain⟨x,rfl,q⟩:=z.one;rw[q.s'];exact .inr ⟨_,rfl,h.1,k _ _ _ _ _ (.refl _) r .i h.2⟩
 .obtain⟨x,rfl,q⟩:=z.one;split at h
  .rename_i es he;obtain⟨p,ys,rfl,s1,z1⟩:=zcK r q he;exact .inl ⟨p,ys,rfl,s1,k _ _ _ _ _ (.refl _) r (by rw[z1.length];exact .i) h⟩
  .exact h.elim
 .exact h.elim⟩
theorem zlz{d:D}{x:V}{ns:List Int}(r:Rel K fl W μ H)(q:Rep K W d x)(h:(zX μ d).bind intsOf=some ns):∃a,x= .ref a/\SqL K H a (ns.map V.int):=by
 cases e:zX μ d with
 | none=>rw[e] at h;cases h
 | some ds =>
  rw[e] at h;obtain⟨a,xs,rfl,e1,z⟩:=zax r q e;have:=zlp h;subst this;rw[z.ints] at e1;exact⟨a,rfl,SqL.of e1⟩
theorem znC{d:D}{x:V}{ns:List Bool}(r:Rel K fl W μ H)(q:Rep K W d x)(h:(zX μ d).bind zbY=some ns):∃a,x= .ref a/\SqL K H a (ns.map V.bl):=by
 cases e:zX μ d with
 | none=>rw[e] at h;cases h
 | some ds =>
  rw[e] at h;obtain⟨a,xs,rfl,e1,z⟩:=zax r q e;have:=znf h;subst this;rw[z.bls] at e1;exact⟨a,rfl,SqL.of e1⟩
instance:zbm K fl (zwz K) zqH:=⟨fun{W μ H ds xs Q Q'} r z h k=>by
 unfold zqH at h;split at h
 .obtain⟨x,y,rfl,q1,q2⟩:=z.two;rw[q1.i',q2.i'];exact .inl ⟨_,_,rfl,k _ _ _ _ _ (.refl _) r .i h⟩
 .obtain⟨x,rfl,q⟩:=z.one;split at h
  .rename_i ns hn;obtain⟨a,rfl,s⟩:=zlz r q hn;exact .inr ⟨a,ns,rfl,s,h.1,fun M hM hb=>k _ _ _ _ _ (.refl _) r .i (h.2 M hM hb)⟩
  .exact h.elim
 .exact h.elim⟩
instance:zbm K fl (zpq K) zl7:=⟨fun{W μ H ds xs Q Q'} r z h k=>by
 unfold zl7 at h;split at h
 .obtain⟨x,y,rfl,q1,q2⟩:=z.two;rw[q1.i',q2.i'];exact .inl ⟨_,_,rfl,k _ _ _ _ _ (.refl _) r .i h⟩
 .obtain⟨x,rfl,q⟩:=z.one;split at h
  .rename_i ns hn;obtain⟨a,rfl,s⟩:=zlz r q hn;exact .inr ⟨a,ns,rfl,s,h.1,fun M hM hb=>k _ _ _ _ _ (.refl _) r .i (h.2 M hM hb)⟩
  .exact h.elim
 .exact h.elim⟩
instance:zbm K fl (zza K) zpd:=⟨fun{W μ H ds xs Q Q'} r z h k=>by
 unfold zpd at h;split at h
 .obtain⟨x,rfl,q⟩:=z.one;split at h
  .rename_i ns hn;obtain⟨a,rfl,s⟩:=znC r q hn;exact⟨a,ns,rfl,s,k _ _ _ _ _ (.refl _) r .b h⟩
  .exact h.elim
 .exact h.elim⟩
instance:zbm K fl (zzR K) ztw:=⟨fun{W μ H ds xs Q Q'} r z h k=>by
 unfold ztw at h;split at h
 .obtain⟨x,rfl,q⟩:=z.one;split at h
  .rename_i ns hn;obtain⟨a,rfl,s⟩:=znC r q hn;exact⟨a,ns,rfl,s,k _ _ _ _ _ (.refl _) r .b h⟩
  .exact h.elim
 .exact h.elim⟩
instance:zbm K fl (zwe K) znM:=⟨fun{W μ H ds xs Q Q'} r z h k=>by
 unfold znM at h;split at h
 .obtain⟨x,rfl,q⟩:=z.one;split at h
  .rename_i es he;obtain⟨p,ys,rfl,s1,z1⟩:=zcK r q he;refine⟨p,ys,rfl,s1,fun l hl=>?_⟩;obtain⟨r2,le2⟩:=r.newF (o:= .lst ys) hl;exact k _ _ _ _ _ le2 r2 (.lst zz (z1.mono le2)) h
  .exact h.elim
 .exact h.elim⟩
instance:zbm K fl (zs1 K) zcr:=⟨fun{W μ H ds xs Q Q'} r z h k=>by
 unfold zcr at h;split at h
 .obtain⟨x,rfl,q⟩:=z.one;split at h
  .rename_i es he;unfold zbs at he;split at he
   .cases he;obtain⟨p,ys,rfl,t,z2⟩:=q.tup';exact⟨p,ys,rfl, .inr ⟨t.sm r.sub,k _ _ _ _ _ (.refl _) r q h⟩⟩
   .obtain⟨p,ys,rfl,t,z2⟩:=zax r q he;refine⟨p,ys,rfl, .inl ⟨SqL.of t,fun l hl=>?_⟩⟩;obtain⟨r2,le2⟩:=r.newF (o:= .tup ys) hl;exact k _ _ _ _ _ le2 r2 (.tup (SqT.of zz) (z2.mono le2)) h
  .exact h.elim
 .exact h.elim⟩
theorem zsf{d:D}{x:V}{t:String}(r:Rel K fl W μ H)(q:Rep K W d x)(h:tyD μ d=some t):zfl K H x (.type t):=by
 unfold tyD at h;split at h<;>try cases h
 .rw[q.n'];exact .non
 .rw[q.b'];exact .bl _
 .rw[q.i'];exact .int _
 .rw[q.s'];exact .str _
 .obtain⟨a,xs,rfl,e,z⟩:=q.lst';exact .lst (r.sub _ _ e)
 .rename_i k;obtain⟨a,rfl,hb⟩:=q.cell';split at h<;>try cases h
  .rename_i ds hk;obtain⟨a',e1,e2,xs,e3,q3⟩:=r.cel k _ hk;rw[hb] at e1;cases e1;exact .lst e3
  .rename_i ks vs hk;obtain⟨a',e1,e2,xs,e3,l3,q3⟩:=r.cel k _ hk;rw[hb] at e1;cases e1;exact .dK e3
  .rename_i ks vs hk;obtain⟨a',e1,e2,xs,e3,l3,q3⟩:=r.cel k _ hk;rw[hb] at e1;cases e1;exact .dT e3
 .unfold Rep at q;obtain⟨a,xs,rfl,e,_⟩:=q;exact .dK (r.sub _ _ e)
 .unfold Rep at q;obtain⟨a,xs,rfl,e,_⟩:=q;exact .dT (r.sub _ _ e)
theorem zrP{d:D}{t:String}(h:tyD μ d=some t):t∈["NoneType","bool","int","str","list","dict"]:=by
 unfold tyD at h;split at h<;>(try cases h)<;>(try decide)
 split at h<;>(try cases h)<;>decide
theorem zxY{t T:String}(h:t∈["NoneType","bool","int","str","list","dict"])(h':T∈zah):kitOne K (.type t) (.type T)=some (zg3 t T):=by
 simp only[zah,List.mem_cons,List.not_mem_nil,or_false] at h h';rcases h with rfl | rfl | rfl | rfl | rfl | rfl<;>rcases h' with rfl | rfl | rfl | rfl | rfl | rfl<;>rfl
instance:zbm K fl (zxz K) zsP:=⟨fun{W μ H ds xs Q Q'} r z h k=>by
 unfold zsP at h;split at h
 .rename_i d T;obtain⟨x,y,rfl,q1,q2⟩:=z.two;split at h
  .rename_i t ht;unfold Rep at q2;subst q2;exact⟨x, .ty T, .type t,zg3 t T,rfl,zsf r q1 ht,fun u hu=>by cases hu;exact zxY (zrP ht) h.1,k _ _ _ _ _ (.refl _) r .b h.2⟩
  .exact h.elim
 .exact h.elim⟩
end
def zyP(K:Frag)(tl:TE):TI:=fun σ H R=>tl σ H fun x H1=>(∃a,x= .ref a/\(∃xs,SqL K H1 a xs)/\R (Itl K a) H1)\/(∃a,x= .ref a/\(∃xs,SqT K H1 a xs)/\R (Itt K a) H1)\/∃y,x= .str y/\y.cps.all (· < 128)=true/\R (Its y) H1
theorem zar{X:Cx}{tg l:Expr}{tl:TE}(K:Frag)(hl:WE X l tl)(h:X.K=K:=by rfl):WI X tg l (zyP K tl):=⟨by
 subst h;intro pins s σ H R I h;refine thn (hl.out pins s σ H _ I h) fun v s1 ⟨x,H1,I1,r1,q1⟩=>?_
 rcases q1 with⟨a,e,⟨xs,hq⟩,q⟩ | ⟨a,e,⟨xs,hq⟩,q⟩ | ⟨y,e,ha,q⟩
 .subst e;cases r1;obtain⟨its,rv,p,hz⟩:=I1.list hq;refine wpAny_pyIter_list p.isList ?_;refine⟨s1.heap.objs.size,[s1.heap.objs.size],_,_,H1,rfl,I1.kept (t':=s1.toks) fun b o e=>Heap.get?_push_of_some _ e,zrF a _,⟨_,Heap.get?_push_size _ rfl,rfl,rfl⟩,fun b hb=>?_,q⟩;have e:b=s1.heap.objs.size:=by simpa using hb
  subst e;exact I1.fpOk (Nat.le_refl _) (I1.hok.fresh (Nat.le_refl _))
 .subst e;cases r1;obtain⟨its,rv,p,hz⟩:=I1.tuple hq;refine wpAny_pyIter_tuple (show s1.heap.IsTuple a its.toArray from p) ?_;refine⟨s1.heap.objs.size,[s1.heap.objs.size],_,_,H1,rfl,I1.kept (t':=s1.toks) fun b o e=>Heap.get?_push_of_some _ e,zoT a _,⟨_,Heap.get?_push_size _ rfl,rfl,rfl⟩,fun b hb=>?_,q⟩;have e:b=s1.heap.objs.size:=by simpa using hb
  subst e;exact I1.fpOk (Nat.le_refl _) (I1.hok.fresh (Nat.le_refl _))
 .subst e;obtain⟨t,rfl⟩:=r1;refine wpAny_pyIter_ascii ha ?_;refine⟨s1.heap.objs.size,[s1.heap.objs.size],_,_,H1,rfl,I1.kept (t':=s1.toks) fun b o e=>Heap.get?_push_of_some _ e,zt3 _ y t,⟨_,Heap.get?_push_size _ rfl,rfl,rfl⟩,fun b hb=>?_,q⟩;have e:b=s1.heap.objs.size:=by simpa using hb
  subst e;exact I1.fpOk (Nat.le_refl _) (I1.hok.fresh (Nat.le_refl _))⟩
def zvm:D->Option (List D)
 | .lst ds=>some ds
 | .tup ds=>some ds
 | .str y=>if y.cps.all (· < 128)=true then some (y.cps.toList.map fun c=> .str ⟨#[c]⟩) else none
 | _=>none
def zoa(μ:Mu)(d:D)(Q:List D->(Mu->Prop)->Prop):Prop:=match d with
 | .cell k=>match μ k with
  | some (.lst ds)=>Q ds fun μ'=>μ' k=some (.lst ds)
  | _=>False
 | d=>match zvm d with
  | some ds=>Q ds fun _=>True
  | none=>False
def zbf(w:DE):DI:=fun ρ μ Q=>w ρ μ fun d μ1=>zoa μ1 d fun ds Pm=>Q ds Pm μ1
def zdY(w:DA):DI:=fun ρ μ Q=>w ρ μ fun ds μ1=>match ds with
 | [.int j]=> -(2^62)<=j/\j < 2^62/\Q ((zbP 0 j.toNat).map D.int) (fun _=>True) μ1
 | _=>False
def zxV(w:DA):DI:=fun ρ μ Q=>w ρ μ fun ds μ1=>match ds with
 | [.int i, .int j]=>(-(2^62)<=i/\i < 2^62/\ -(2^62)<=j/\j < 2^62)/\Q ((zbP i (j - i).toNat).map D.int) (fun _=>True) μ1
 | _=>False
section
variable{K:Frag}{fl:Wd}{te:TE}{we:DE}{ta:TA}{wa:DA}
theorem zrO(W:Wd)(lo:Int)(n:Nat)(Pm:Mu->Prop):ItR K fl W (Itr lo n) ((zbP lo n).map D.int) Pm:=fun W1 μ H le r _ i=>by
 constructor
 .intro d hd;rw[List.getElem?_map] at hd;by_cases hi:i < n
  .rw[zjK hi] at hd;cases hd;refine⟨hi,fun x H' y=>?_⟩;obtain⟨e,y⟩:=y;subst e y;exact⟨W1, .refl _,r, .i⟩
  .rw[List.getElem?_eq_none (by rw[zcb];omega)] at hd;cases hd
 .intro h;rw[List.length_map,zcb] at h;exact h
theorem zvV{W:Wd}{p:Addr}{xs:List V}{ds:List D}{Pm:Mu->Prop}(z1:zu K W ds xs)(hp:∀W1 μ H,W.le W1->Rel K fl W1 μ H->Pm μ->H p=some (.lst xs)):ItR K fl W (Itl K p) ds Pm:=fun W2 μ2 H2 le2 r2 pm i=>by
 have s2:=hp W2 μ2 H2 le2 r2 pm;constructor
 .intro d hd;obtain⟨x,ex,qx⟩:=z1.get hd;refine⟨⟨xs,x,SqL.of s2,ex⟩,fun y H' hy=>?_⟩;obtain⟨e',y'⟩:=hy;have ey:=y' xs (SqL.of s2);rw[ex] at ey;cases ey;exact⟨W2, .refl _,e'▸r2,qx.mono le2⟩
 .intro hl;exact⟨xs,SqL.of s2,by rw[z1.length];exact hl⟩
theorem zhl{W:Wd}{μ:Mu}{H:Hp}{k:Nat}{a:Addr}{ds:List D}(r:Rel K fl W μ H)(hb:W.b k=some a)(hk:μ k=some (.lst ds)):∃xs,H a=some (.lst xs)/\zu K W ds xs:=by
 obtain⟨a',e1,e2,xs,e3,q3⟩:=r.cel k _ hk;rw[hb] at e1;cases e1;exact⟨xs,e3,q3⟩
theorem zvW{W:Wd}{k:Nat}{a:Addr}{ds:List D}(hb:W.b k=some a):ItR K fl W (Itl K a) ds (fun μ'=>μ' k=some (.lst ds)):=fun W2 μ2 H2 le2 r2 pm i=>by
 obtain⟨xs,s2,z1⟩:=zhl r2 (le2.b _ _ hb) pm;constructor
 .intro d hd;obtain⟨x,ex,qx⟩:=z1.get hd;refine⟨⟨xs,x,SqL.of s2,ex⟩,fun y H' hy=>?_⟩;obtain⟨e',y'⟩:=hy;have ey:=y' xs (SqL.of s2);rw[ex] at ey;cases ey;exact⟨W2, .refl _,e'▸r2,qx⟩
 .intro hl;exact⟨xs,SqL.of s2,by rw[z1.length];exact hl⟩
instance[a:zQ K fl te we]:zn6 K fl (zyP K te) (zbf we):=⟨fun{W ρ μ σ H Q Q'} r e h k=>a.run r e h fun W1 d μ1 x H1 le1 r1 q1 h1=>by
 unfold zoa at h1;split at h1
 .rename_i c;obtain⟨p,rfl,hb⟩:=q1.cell';split at h1
  .rename_i ds hk;obtain⟨xs,s1,z1⟩:=zhl r1 hb hk;exact .inl ⟨p,rfl,⟨xs,SqL.of s1⟩,k W1 _ ds _ μ1 H1 le1 r1 (zvW hb) h1⟩
  .exact h1.elim
 .cases hd:zvm d with
  | none=>rw[hd] at h1;exact h1.elim
  | some ds =>
   rw[hd] at h1;have h1:Q ds (fun _=>True) μ1:=h1;unfold zvm at hd;split at hd
   .cases hd;obtain⟨p,xs,rfl,s1,z1⟩:=q1.lst';exact .inl ⟨p,rfl,⟨xs,SqL.of (r1.sub _ _ s1)⟩,k W1 _ ds _ μ1 H1 le1 r1 (zvV z1 fun W2 μ2 H2 le2 r2 _=>r2.sub _ _ (le2.F _ _ s1)) h1⟩
   .cases hd;obtain⟨p,xs,rfl,s1,z1⟩:=q1.tup';refine .inr (.inl ⟨p,rfl,⟨xs,s1.sm r1.sub⟩,k W1 _ ds _ μ1 H1 le1 r1 (fun W2 μ2 H2 le2 r2 _ i=>?_) h1⟩);have s2:SqT K H2 p xs:=(s1.sm le2.F).sm r2.sub;constructor
    .intro d hd;obtain⟨x,ex,qx⟩:=z1.get hd;refine⟨⟨xs,x,s2,ex⟩,fun y H' hy=>?_⟩;obtain⟨e',y'⟩:=hy;have ey:=y' xs s2;rw[ex] at ey;cases ey;exact⟨W2, .refl _,e'▸r2,qx.mono le2⟩
    .intro hl;exact⟨xs,s2,by rw[z1.length];exact hl⟩
   .rename_i y _;split at hd
    .rename_i ha;cases hd;rw[q1.s'];refine .inr (.inr ⟨y,rfl,ha,k W1 _ _ _ μ1 H1 le1 r1 (fun W2 μ2 H2 le2 r2 _ i=>?_) h1⟩);constructor
     .intro d hd;rw[List.getElem?_map] at hd;cases hc:y.cps.toList[i]? with
      | none=>rw[hc] at hd;cases hd
      | some c =>
       rw[hc] at hd;cases hd;have hi:i < y.cps.size:=by have:=(List.getElem?_eq_some_iff.mp hc).1;rwa [Array.length_toList] at this
       refine⟨hi,fun x H' hy=>?_⟩;obtain⟨e',c',hc',rfl⟩:=hy;rw[hc] at hc';cases hc';exact⟨W2, .refl _,e'▸r2, .s⟩
     .intro hl;rw[List.length_map,Array.length_toList] at hl;exact hl
    .cases hd
   .cases hd⟩
instance[a:zbK K fl ta wa]:zn6 K fl (ztN ta) (zdY wa):=⟨fun{W ρ μ σ H Q Q'} r e h k=>a.run r e h fun W1 ds μ1 xs H1 le1 r1 q1 h1=>by
 split at h1
 .obtain⟨x,rfl,q⟩:=q1.one;rw[q.i'];exact⟨_,rfl,h1.1,h1.2.1,k W1 _ _ _ μ1 H1 le1 r1 (zrO _ _ _ _) h1.2.2⟩
 .exact h1.elim⟩
end
abbrev DM:=D->List D->Mu->DK->Prop
class zs2(K:Frag)(fl:Wd)(T:String)(r:V->List V->Hp->VK->Prop)(q:DM):Prop where
 run:∀{W μ H d x ds xs Q Q'},Rel K fl W μ H->Rep K W d x->zu K W ds xs->q d ds μ Q->KV' K fl W Q Q'->r x xs H Q'
def tyM(T:String)(μ:Mu)(d:D):Prop:=tyD μ d=some T
def dBM(T:String)(q:DM)(wo:DE)(w:DA):DE:=fun ρ μ Q=>wo ρ μ fun d μ1=>tyM T μ1 d/\w ρ μ1 fun ds μ2=>q d ds μ2 Q
def zz5(T:String)(q:DM)(wo:DE):DE:=fun ρ μ Q=>wo ρ μ fun d μ1=>tyM T μ1 d/\q d [] μ1 Q
theorem zur{K:Frag}{fl:Wd}{W:Wd}{μ:Mu}{H:Hp}{d:D}{x:V}{T:String}(hT:T="list"\/T="str"\/T="dict")(r:Rel K fl W μ H)(q:Rep K W d x)(h:tyM T μ d):tyV K T x H:=by
 have ty:=zsf r q h;cases ty with
 | non=>rcases hT with h | h | h<;>exact absurd h (by decide)
 | bl=>rcases hT with h | h | h<;>exact absurd h (by decide)
 | int=>rcases hT with h | h | h<;>exact absurd h (by decide)
 | str=>rfl
 | flt=>rcases hT with h | h | h<;>exact absurd h (by decide)
 | lst e=>exact .inl ⟨rfl,_,SqL.of e⟩
 | frz e=>exact .inl ⟨rfl,_, .inl (.inr ⟨_,e⟩)⟩
 | tup=>rcases hT with h | h | h<;>exact absurd h (by decide)
 | dK e=>exact .inr (.inr (.inl ⟨rfl, .inl ⟨_,e⟩⟩))
 | dT e=>exact .inr (.inr (.inl ⟨rfl, .inr ⟨_,e⟩⟩))
section
variable{K:Frag}{fl:Wd}{to:TE}{wo:DE}{t:TA}{w:DA}{r:V->List V->Hp->VK->Prop}{q:DM}
theorem zsc{T:String}(hT:T="list"\/T="str"\/T="dict")[a:zQ K fl to wo][b:zbK K fl t w][o:zs2 K fl T r q]:zQ K fl (tBM K T r to t) (dBM T q wo w):=⟨fun r e h k=>a.run r e h fun W1 d μ1 x H1 le1 r1 q1 h1 =>
 ⟨zur hT r1 q1 h1.1,b.run r1 (e.mono le1) h1.2 fun W2 ds μ2 xs H2 le2 r2 q2 h2=>o.run r2 (q1.mono le2) q2 h2 fun W3 d3 μ3 x3 H3 le3=>k W3 d3 μ3 x3 H3 (le1.trans (le2.trans le3))⟩⟩
instance[a:zQ K fl to wo][b:zbK K fl t w][o:zs2 K fl "list" r q]:zQ K fl (tBM K "list" r to t) (dBM "list" q wo w):=zsc (.inl rfl)
instance[a:zQ K fl to wo][b:zbK K fl t w][o:zs2 K fl "str" r q]:zQ K fl (tBM K "str" r to t) (dBM "str" q wo w):=zsc (.inr (.inl rfl))
end
def zcY(μ:Mu)(d:D)(Q:Nat->List D->Prop):Prop:=match d with
 | .cell k=>match μ k with
  | some (.lst ds)=>Q k ds
  | _=>False
 | _=>False
theorem zlA{K:Frag}{fl:Wd}{W:Wd}{μ:Mu}{H:Hp}{d:D}{x:V}{Q:Nat->List D->Prop}(r:Rel K fl W μ H)(q:Rep K W d x)(h:zcY μ d Q):∃k ds a xs,x= .ref a/\W.b k=some a/\μ k=some (.lst ds)/\H a=some (.lst xs)/\zu K W ds xs/\Q k ds:=by
 unfold zcY at h;split at h
 .rename_i k;obtain⟨a,rfl,hb⟩:=q.cell';split at h
  .rename_i ds hk;obtain⟨a',e1,e2,xs,e3,q3⟩:=r.cel k _ hk;rw[hb] at e1;cases e1;exact⟨k,ds,a,xs,rfl,hb,hk,e3,q3,h⟩
  .exact h.elim
 .exact h.elim
def zaE:DM:=fun d es μ Q=>match es with
 | [e]=>zcY μ d fun k ds=>ds.length < sizeLine/\Q .non (zF μ k (.lst (ds++[e])))
 | _=>False
def zws:DM:=fun d es μ Q=>match es with
 | []=>zcY μ d fun k ds=>match ds[ds.length - 1]? with
  | some y=>Q y (zF μ k (.lst ds.dropLast))
  | none=>False
 | [.int i]=>zcY μ d fun k ds=> -(2^63)<=i/\i < 2^63/\match ixN ds.length i with
  | some j=>match ds[j]? with
   | some y=>Q y (zF μ k (.lst (ds.eraseIdx j)))
   | none=>False
  | none=>False
 | _=>False
def zkl:D->D->D->Mu->(Mu->Prop)->Prop:=fun d i v μ Q=>match i with
 | .int i=>zcY μ d fun k ds=>match ixN ds.length i with
  | some j=>Q (zF μ k (.lst (ds.set j v)))
  | none=>False
 | _=>False
class zsB(K:Frag)(fl:Wd)(r:zqv)(q:D->D->D->Mu->(Mu->Prop)->Prop):Prop where
 run:∀{W μ H d i v x y z} {Q:Mu->Prop} {Q':Hp->Prop},Rel K fl W μ H->Rep K W d x->Rep K W i y->Rep K W v z->q d i v μ Q->(∀W' μ' H',W.le W'->Rel K fl W' μ' H'->Q μ'->Q' H')->r x y z H Q'
def zpB(wo wi:DE)(q:D->D->D->Mu->(Mu->Prop)->Prop):DG:=fun v ρ μ Q=>wo ρ μ fun d μ1=>wi ρ μ1 fun i μ2=>q d i v μ2 fun μ3=>Q ρ μ3
section
variable{K:Frag}{fl:Wd}
instance:zs2 K fl "list" zpL zaE:=⟨fun{W μ H d x ds xs Q Q'} r q z h k=>by
 unfold zaE at h;split at h
 .obtain⟨y,rfl,qy⟩:=z.one;obtain⟨c,es,a,ys,rfl,hb,hk,ha,z2,hz,h⟩:=zlA r q h;exact⟨a,ys,y,rfl,rfl,ha,by rw[z2.length];exact hz,k _ _ _ _ _ (.refl _) (r.setC (c':= .lst _) hk hb ⟨_,rfl,z2.append (.cons qy .nil)⟩) .n h⟩
 .exact h.elim⟩
instance:zsB K fl ziw zkl:=⟨fun{W μ H d i v x y z Q Q'} r q qi qv h k=>by
 unfold zkl at h;split at h
 .obtain⟨c,es,a,ys,rfl,hb,hk,ha,z2,h⟩:=zlA r q h;split at h
  .rename_i j hj;rw[qi.i'];exact⟨a,ys,_,j,rfl,rfl,ha,by rw[z2.length];exact hj,k _ _ _ (.refl _) (r.setC (c':= .lst _) hk hb ⟨_,rfl,z2.set j qv⟩) h⟩
  .exact h.elim
 .exact h.elim⟩
instance{to ti:TE}{wo wi:DE}{r:zqv}{q:D->D->D->Mu->(Mu->Prop)->Prop}[a:zQ K fl to wo][b:zQ K fl ti wi][c:zsB K fl r q]:zj7 K fl (zlN to ti r) (zpB wo wi q) []:=⟨fun{W ρ μ σ H d x Q Q'} r e qd h k =>
 a.run r e h fun W1 d1 μ1 x1 H1 le1 r1 q1 h1=>b.run r1 (e.mono le1) h1 fun W2 d2 μ2 x2 H2 le2 r2 q2 h2=>c.run r2 (q1.mono le2) q2 (qd.mono (le1.trans le2)) h2 fun W3 μ3 H3 le3 r3 h3 =>
  k W3 ρ μ3 σ H3 (le1.trans (le2.trans le3)) r3 (e.mono (le1.trans (le2.trans le3))) rfl (fun _ _=>rfl) h3⟩
end
theorem zqk{K:Frag}{fl:Wd}{W:Wd}{μ:Mu}{H:Hp}{k:Nat}{a:Addr}(r:Rel K fl W μ H)(hk:μ k=some .draw)(ha:W.b k=some a):∃l,zjH H a l/\W.F a=none/\(∃ns:List Int,W.F l=some (.lst (ns.map V.int))) /\
  ∀H',zjH H' a l->zlO a H H'->Rel K fl W μ H':=by
 obtain⟨a',e1,e2,l,ns,i,b,c,e3,e4,hi,hb⟩:=r.cel k _ hk;rw[ha] at e1;cases e1;have hal:a≠l:=fun z=>by rw[<- z,e2] at e4;cases e4
 refine⟨l,⟨ns,i,b,c,e3,r.sub _ _ e4,hi,hb,hal⟩,e2,⟨ns,e4⟩,fun H' d o=>⟨fun x u e=>?_,r.fin,fun j ct e=>?_,r.inj,r.up⟩⟩
 .rw[o x (fun z=>by rw[z,e2] at e;cases e)];exact r.sub _ _ e
 .by_cases hj:j=k
  .subst hj;rw[hk] at e;cases e;obtain⟨ns',i',b',c',f1,f2,f3,f4,f5⟩:=d;exact⟨a,ha,e2,l,ns,i',b',c',f1,e4,f3,f4⟩
  .obtain⟨x,f1,f2,q⟩:=r.cel j ct e;have hx:x≠a:=fun z=>hj (r.inj j k _ _ a e hk (z▸f1) ha)
   exact⟨x,f1,f2,by rw[o x hx];exact q⟩
class zrV(K:Frag)(fl:Wd)(sp:Sp)(dsp:DSp):Prop where
 run:∀{W μ H ds vs Q Q'} (E:XK),Rel K fl W μ H->zu K W ds vs->dsp ds μ Q->KV' K fl W Q Q'->sp vs H Q' E
instance{K:Frag}{fl:Wd}{sp:Sp}{dsp:DSp}{E:XK}{t:TA}{w:DA}[a:zbK K fl t w][o:zrV K fl sp dsp]:zQ K fl (znu sp [] E t) (dCall dsp w):=⟨fun{W ρ μ σ H Q Q'} r e h k =>
 a.run r e h fun W1 ds μ1 xs H1 le1 r1 q1 h1=>o.run E r1 (by rw[List.append_nil];exact q1) h1 fun W2 d μ2 x H2 le2=>k W2 d μ2 x H2 (le1.trans le2)⟩
def zab:DSp:=fun ds μ Q=>match ds with
 | [.cell k, .int many]=>μ k=some .draw/\0 < many/\many < 2^250/\∀v,0<=v->v < many->Q (.int v) μ
 | _=>False
instance{K:Frag}{fl:Wd}:zrV K fl zmF zab:=⟨fun{W μ H ds vs Q Q'} E r z h k=>by
 unfold zab at h;split at h
 .rename_i c many;obtain⟨x,y,rfl,q1,q2⟩:=z.two;obtain⟨a,rfl,hb⟩:=q1.cell';rw[q2.i'];obtain⟨hk,h1,h2,h⟩:=h;obtain⟨l,d,_,_,fin⟩:=zqk r hk hb;exact⟨a,l,many,rfl,d,h1,h2,fun v H' l1 l2 d' o=>k W _ μ _ H' (.refl _) (fin H' d' o) .i (h v l1 l2)⟩
 .exact h.elim⟩
def zgz:DSp:=fun ds μ Q=>match ds with
 | [.scr _]=>∀k,μ k=none->Q (.cell k) (zF μ k .draw)
 | _=>False
section
variable{K:Frag}{fl:Wd}{W W':Wd}{μ μ':Mu}{H H':Hp}
theorem Rel.same(r:Rel K fl W μ H)(s:zkv H H'):Rel K fl W μ H':=⟨fun b o e=>s _ _ (r.sub _ _ e),r.fin,fun k c e=>by
 obtain⟨a,e1,e2,q⟩:=r.cel k c e;obtain⟨u,eu⟩:=q.some;exact⟨a,e1,e2,by rw[s _ _ eu,<- eu];exact q⟩,r.inj,r.up⟩
theorem Rel.newAt{p:Addr}(r:Rel K fl W μ H)(hp:H p=none):W.F p=none/\∀k c,μ k=some c->W.b k≠some p:=by
 constructor
 .cases e:W.F p with
  | none=>rfl
  | some u=>rw[r.sub _ _ e] at hp;cases hp
 .intro k c e h;obtain⟨a,e1,_,q⟩:=r.cel k c e;obtain⟨u,eu⟩:=q.some;rw[h] at e1;cases e1;rw[hp] at eu;cases eu
theorem Rel.adoptF{p:Addr}{o:HO}(r:Rel K fl W μ H)(hp:H p=some o)(hF:W.F p=none)(hc:∀k c,μ k=some c->W.b k≠some p):Rel K fl ⟨W.b,upd W.F p o⟩ μ H/\W.le ⟨W.b,upd W.F p o⟩:=by
 have le:W.le ⟨W.b,upd W.F p o⟩:=⟨fun _ _ h=>h,ze1 hF⟩;refine⟨⟨fun b u e=>?_,r.fin,fun k c e=>?_,r.inj,r.up.trans le⟩,le⟩
 .have e':(upd W.F p o) b=some u:=e;by_cases hb:b=p
  .subst hb;rw[zz] at e';cases e';exact hp
  .rw[zE hb] at e';exact r.sub _ _ e'
 .obtain⟨a,e1,e2,q⟩:=r.cel k c e;have ha:a≠p:=fun z=>hc k c e (z▸e1)
  exact⟨a,e1,by show upd W.F p o a=none;rw[zE ha];exact e2,q.mono le⟩
theorem Rel.adoptC{p:Addr}{c:Ct}(r:Rel K fl W μ H)(hF:W.F p=none)(hc:∀k c,μ k=some c->W.b k≠some p)(hq:Ctn K W c (H p)):∃(k:Nat) (W':Wd),μ k=none/\W.le W'/\Rel K fl W' (zF μ k c) H/\W'.b k=some p:=by
 obtain⟨n,hn⟩:=r.fin;have hk:μ n=none:=by
  cases e:μ n with
  | none=>rfl
  | some c=>obtain⟨a,e1,_⟩:=r.cel n c e;rw[hn n (Nat.le_refl _)] at e1;cases e1
 have le:W.le ⟨fun j=>if j=n then some p else W.b j,W.F⟩:=⟨fun k a e=>by
  show(if k=n then some p else W.b k)=some a;rw[if_neg (fun z=>by rw[z,hn n (Nat.le_refl _)] at e;cases e)];exact e,fun _ _ h=>h⟩
 refine⟨n,⟨fun j=>if j=n then some p else W.b j,W.F⟩,hk,le,⟨r.sub,⟨n+1,fun k hk=>?_⟩,fun k c' e=>?_,fun k k' c1 c2 a e e' q q'=>?_,r.up.trans le⟩,if_pos rfl⟩
 .show(if k=n then some p else W.b k)=none;rw[if_neg (by omega)];exact hn k (by omega)
 .by_cases ek:k=n
  .subst ek;rw[zr] at e;cases e;exact⟨p,if_pos rfl,hF,hq.mono le⟩
  .rw[zg ek] at e;obtain⟨a,e1,e2,q⟩:=r.cel k c' e;exact⟨a,by show(if k=n then some p else W.b k)=some a;rw[if_neg ek];exact e1,e2,q.mono le⟩
 .have q1:(if k=n then some p else W.b k)=some a:=q;have q2:(if k'=n then some p else W.b k')=some a:=q';by_cases ek:k=n
  .by_cases ek':k'=n
   .rw[ek,ek']
   .rw[if_pos ek] at q1;rw[if_neg ek'] at q2;rw[zg ek'] at e';cases q1;exact absurd q2 (hc _ _ e')
  .by_cases ek':k'=n
   .rw[if_neg ek] at q1;rw[if_pos ek'] at q2;rw[zg ek] at e;cases q2;exact absurd q1 (hc _ _ e)
   .rw[if_neg ek] at q1;rw[if_neg ek'] at q2;rw[zg ek] at e;rw[zg ek'] at e';exact r.inj k k' _ _ a e e' q1 q2
end
instance{K:Frag}{fl:Wd}:zrV K fl (zjj K) zgz:=⟨fun{W μ H ds vs Q Q'} E r z h k=>by
 unfold zgz at h;split at h
 .rename_i ns;obtain⟨x,rfl,q⟩:=z.one;unfold Rep at q;obtain⟨a,rfl,hs⟩:=q;refine⟨a,ns,rfl,hs.sm r.sub,fun p l H' hp hl d sm=>?_⟩;obtain⟨ns',i,b,c,e1,e2,hi,hb,hne⟩:=d;have r1:=r.same sm;obtain⟨f1,g1⟩:=r.newAt hl;obtain⟨r2,le2⟩:=r1.adoptF e2 f1 g1;obtain⟨f2,g2⟩:=r.newAt hp;have f2':(upd W.F l (.lst (ns'.map V.int))) p=none:=by rw[zE hne];exact f2
  obtain⟨j,W3,hj,le3,r3,e3⟩:=r2.adoptC (c:= .draw) (p:=p) f2' g2 ⟨l,ns',i,b,c,e1,zz,hi,hb⟩;exact k W3 _ _ _ _ (le2.trans le3) r3 (by unfold Rep;exact⟨p,rfl,e3⟩) (h j hj)
 .exact h.elim⟩
def ztt:DSp:=fun ds μ Q=>∃ns,ds=[.scr ns]/\ns.length<=63/\∀ μ',Q (.bl true) μ'
def zpM(K:Frag):Sp:=fun vs H Q _=>∃(a:Addr) (ns:List Int),vs=[.ref a]/\SqL K H a (ns.map V.int)/\ns.length<=63/\∀H',Q (.bl true) H'
theorem zsk{K:Frag}(vs:List V)(H:Hp)(Q:VK)(E:XK)(h:zpM K vs H Q E):lift K ztt vs H Q E:=by
 obtain⟨a,ns,rfl,hs,hl,q⟩:=h;refine⟨⟨fun _=>none,fun _=>none⟩,⟨fun _=>none,fun b=>if b=a then H a else none⟩,fun _=>none,[.scr ns],fun d _=>d= .bl true,⟨fun b o e=>?_,⟨0,fun _ _=>rfl⟩,fun k c e=>(by cases e),fun k k' c c' x e=>(by cases e),⟨fun _ _ e=>(by cases e),fun _ _ e=>(by cases e)⟩⟩, .cons ?_ .nil,⟨ns,rfl,hl,fun _=>rfl⟩,fun W' d μ' x H' _ _ r e=>?_⟩
 .have e':(if b=a then H a else none)=some o:=e;by_cases hb:b=a
  .rw[if_pos hb] at e';rw[hb];exact e'
  .rw[if_neg hb] at e';cases e'
 .unfold Rep;refine⟨a,rfl,?_⟩;rcases hs with h | h
  .refine .inl ?_;rcases h with h | ⟨o,h⟩
   .exact .inl (by show(if a=a then H a else none)=_;rw[if_pos rfl];exact h)
   .exact .inr ⟨o,by show(if a=a then H a else none)=_;rw[if_pos rfl];exact h⟩
  .exact .inr h
 .subst e;rw[r.b'];exact q H'
theorem zaR{X:Cx}{s:Stmt}{t:TE}{g:TG}(h:WS X s (zdO t g)):WS X s (zdO (znO t) g):=h
theorem zlW{X:Cx}(K:Frag){k:Nat}{cm:Bool}(hr:zaV cm k X.A)(h:X.K=K:=by rfl):OpR X (compareOp .In) (rIn K false):=zyC K h
theorem zba{X:Cx}(K:Frag){k:Nat}{cm:Bool}(hr:zaV cm k X.A)(h:X.K=K:=by rfl):OpR X (compareOp .NotIn) (rIn K true):=zqT K h
def ends(Q:DK):zcw:={ nx:=fun _ μ'=>∃ μ'',MLe μ'' μ'/\Q .non μ'',rt:=fun d μ'=>∃ μ'',MLe μ'' μ'/\Q d μ'' }
def zP(w:DS)(N:List Str)(n:Nat):DSp:=fun ds μ Q=>ds.length=n/\w (ends Q) (zkh N ds) μ
section
variable{P:Program}{w:World}{K:Frag}{fl:Wd}{mg:Str->Option Value}{base:Heap}
theorem Fun.okB{x qual:Str}{st:Stmt}{f:Addr}{fd:FuncData}{N ps:List Str}{k n:Nat}(dw:DS)(F:Fun K x qual st f fd)(S:zG N ps (zx st))(len:ps.length=n)
  (hbody:∀(cdv:Value) (A:Around) (outer:List Env) (s:Shared) (H:Hp) (E:XK),zfm k (A.deeper (envOfC qual (zx st) s.heap.objs.size f cdv)) ->
   ∃t,WSs (znd CX0 P w K mg base N qual (zx st) f cdv A outer s H E).nox (zdg st) t/\∀fl,zem K fl t dw):zV P w K mg base CX0 (k+1) f fd ps (lift K (zP dw N n)):=by
 refine F.okq S (fun vs H Q E h=>?_) (fun cdv A outer s H vs Q E hr h=>?_)
 .obtain⟨_,W,μ,ds,Q0,_,r,h,_⟩:=h;rw[r.length,h.1,len]
 .obtain⟨fl,W,μ,ds,Q0,rel,r,h,k⟩:=h;obtain⟨t,ht,sm⟩:=hbody cdv A outer s H E hr;refine⟨t,ht,(sm W).run (rel.floor (.refl W)) (.start r) h.2 ⟨fun W' ρ μ σ H le rr ee hh=>?_,fun _ _ _ _ _ _ _ _ hh=>hh.elim,fun _ _ _ _ _ _ _ _ hh=>hh.elim,fun W' d μ x H le rr ee hh=>?_⟩⟩
  .obtain⟨μ'',l,hh⟩:=hh;exact k W' .non μ'' _ H le ((rr.floor (rel.up.trans le)).less l) .n hh
  .obtain⟨μ'',l,hh⟩:=hh;exact k W' d μ'' x H le ((rr.floor (rel.up.trans le)).less l) ee hh
end
theorem zty{K:Frag}{dsp dsp':DSp}(h:∀ds μ Q,dsp ds μ Q->dsp' ds μ Q){vs:List V}{H:Hp}{Q:VK}{E:XK}(q:lift K dsp vs H Q E):lift K dsp' vs H Q E:=by
 obtain⟨fl,W,μ,ds,Q0,a,b,c,d⟩:=q;exact⟨fl,W,μ,ds,Q0,a,b,h _ _ _ c,d⟩
section
variable{Pm:Mu->Prop}{g:DG}{wb:DS}{D':zcw}{ds:List D}{ρ:zad}{μ:Mu}{wc:DT}{we:DE}{ρb:zad}{Fin:List D->Mu->Prop}{ys:List D}
theorem zaj(I:Nat->zad->Mu->Prop)(h0:I 0 ρ μ)
  (step:∀i d ρ μ,ds[i]? = some d->I i ρ μ->∀N:zad->Mu->Prop,(∀ ρ' μ',I (i+1) ρ' μ'->N ρ' μ')->g d ρ μ fun ρ2 μ2=>wb { D' with nx:=N,ct:=N,bk:=D'.nx } ρ2 μ2)
  (fin:∀ ρ μ,I ds.length ρ μ->D'.nx ρ μ)(hP:∀i ρ μ,I i ρ μ->Pm μ:=by exact fun _ _ _ _=>trivial):zjR g wb D' Pm ds ρ μ:=by
 have key:∀(n i:Nat) ρ μ,i+n=ds.length->I i ρ μ->zjR g wb D' Pm (ds.drop i) ρ μ:=by
  intro n;induction n with
  | zero =>
   intro i ρ μ hi hI;rw[List.drop_eq_nil_of_le (by omega)];have:i=ds.length:=by omega
   subst this;exact⟨hP _ _ _ hI,fin ρ μ hI⟩
  | succ n ih =>
   intro i ρ μ hi hI;rw[List.drop_eq_getElem_cons (by omega)];exact⟨hP _ _ _ hI,step i _ ρ μ (List.getElem?_eq_getElem (by omega)) hI _ fun ρ' μ' h=>ih (i+1) ρ' μ' (by omega) h⟩
 exact key ds.length 0 ρ μ (by omega) h0
theorem zlE(I:Nat->List D->Mu->Prop)(h0:I 0 ys μ)
  (step:∀i d ys μ,ds[i]? = some d->I i ys μ->ys.length < sizeLine/\∀N:List D->Mu->Prop,(∀ys' μ',I (i+1) ys' μ'->N ys' μ')->g d ρb μ fun ρ2 μ2=>wc ρ2 μ2 fun b μ3=>if b=true then we ρ2 μ3 fun v μ4=>N (ys++[v]) μ4 else N ys μ3)
  (fin:∀ys μ,I ds.length ys μ->Fin ys μ)(hP:∀i ys μ,I i ys μ->Pm μ:=by exact fun _ _ _ _=>trivial):zbQ g wc we ρb Pm Fin ds ys μ:=by
 have key:∀(n i:Nat) ys μ,i+n=ds.length->I i ys μ->zbQ g wc we ρb Pm Fin (ds.drop i) ys μ:=by
  intro n;induction n with
  | zero =>
   intro i ys μ hi hI;rw[List.drop_eq_nil_of_le (by omega)];have:i=ds.length:=by omega
   subst this;exact⟨hP _ _ _ hI,fin ys μ hI⟩
  | succ n ih =>
   intro i ys μ hi hI;rw[List.drop_eq_getElem_cons (by omega)];obtain⟨hz,st⟩:=step i _ ys μ (List.getElem?_eq_getElem (by omega)) hI;exact⟨hP _ _ _ hI,hz,st (fun ys' μ'=>zbQ g wc we ρb Pm Fin (ds.drop (i+1)) ys' μ') fun ys' μ' h=>ih (i+1) ys' μ' (by omega) h⟩
 exact key ds.length 0 ys μ (by omega) h0
end
theorem zcn{lo:Int}{n i:Nat}{d:D}(h:((zbP lo n).map D.int)[i]? = some d):i < n/\d= .int (lo+i):=by
 rw[List.getElem?_map] at h;by_cases hi:i < n
 .rw[zjK hi] at h;cases h;exact⟨hi,rfl⟩
 .rw[List.getElem?_eq_none (by rw[zcb];omega)] at h;cases h
theorem zbl(lo:Int)(n:Nat):((zbP lo n).map D.int).length=n:=by rw[List.length_map,zcb]
theorem zpy{i j:Int}{μ:Mu}{Q:DK}:dEq (.int i) (.int j) μ Q=Q (.bl (decide (i=j))) μ:=by simp[dEq,zmC]
theorem zuW{i j:Str}{μ:Mu}{Q:DK}:dEq (.str i) (.str j) μ Q=Q (.bl (decide (i=j))) μ:=by simp[dEq,zmC]
theorem zuH{i j:Str}{μ:Mu}{Q:DK}:dNe (.str i) (.str j) μ Q=Q (.bl (!decide (i=j))) μ:=by simp[dNe,zmC]
theorem zdD{μ:Mu}{ds:List D}:zX μ (.lst ds)=some ds:=rfl
theorem zrr{μ:Mu}{ds:List D}:zbs μ (.tup ds)=some ds:=rfl
theorem zoy{μ:Mu}{k:Nat}{ds:List D}(h:μ k=some (.lst ds)):zbs μ (.cell k)=some ds:=by simp[zbs,zX,h]
def Pl:Nat->D->Prop
 | _, .non=>True
 | _, .bl _=>True
 | _, .int _=>True
 | _, .str x=>PyData.strOk x=true
 | n+1, .tup ds=>∀d∈ds,Pl n d
 | n+1, .lst ds=>∀d∈ds,Pl n d
 | _,_=>False
theorem Pl.pys{n:Nat}(ih:∀d,Pl n d->∃p,toPy d=some p/\p.canLay0=true/\p.depth<=n):∀ds:List D,(∀d∈ds,Pl n d)->∃ps,zbD ds=some ps/\PyData.canLayAll0 ps=true/\PyData.depthAll ps<=n
 | [],_=>⟨[],by unfold zbD;rfl,by unfold PyData.canLayAll0;rfl,by unfold PyData.depthAll;omega⟩
 | d::ds,h=>by
  obtain⟨p,e,c,b⟩:=ih d (h d List.mem_cons_self);obtain⟨ps,e',c',b'⟩:=Pl.pys ih ds fun x hx=>h x (List.mem_cons_of_mem _ hx)
  refine⟨p::ps,by unfold zbD;rw[e,e'],by unfold PyData.canLayAll0;rw[c,c'];rfl,?_⟩;unfold PyData.depthAll;omega
theorem Pl.py:∀(n:Nat) (d:D),Pl n d->∃p,toPy d=some p/\p.canLay0=true/\p.depth<=n:=by
 intro n;induction n with
 | zero =>
  intro d h;cases d<;>first | exact h.elim | skip
  .exact⟨_,by unfold toPy;rfl,by simp[PyData.canLay0],by simp[PyData.depth]⟩
  .exact⟨_,by unfold toPy;rfl,by simp[PyData.canLay0],by simp[PyData.depth]⟩
  .exact⟨_,by unfold toPy;rfl,by simp[PyData.canLay0],by simp[PyData.depth]⟩
  .exact⟨_,by unfold toPy;rfl,by rw[PyData.canLay0];exact h,by simp[PyData.depth]⟩
 | succ n ih =>
  intro d h;cases d<;>first | exact h.elim | skip
  .exact⟨_,by unfold toPy;rfl,by simp[PyData.canLay0],by simp[PyData.depth]⟩
  .exact⟨_,by unfold toPy;rfl,by simp[PyData.canLay0],by simp[PyData.depth]⟩
  .exact⟨_,by unfold toPy;rfl,by simp[PyData.canLay0],by simp[PyData.depth]⟩
  .exact⟨_,by unfold toPy;rfl,by rw[PyData.canLay0];exact h,by simp[PyData.depth]⟩
  .rename_i ds;obtain⟨ps,e,c,b⟩:=Pl.pys ih ds h;exact⟨.tuple ps,by unfold toPy;rw[e];rfl,by rw[PyData.canLay0];exact c,by rw[PyData.depth];omega⟩
  .rename_i ds;obtain⟨ps,e,c,b⟩:=Pl.pys ih ds h;exact⟨.list ps,by unfold toPy;rw[e];rfl,by rw[PyData.canLay0];exact c,by rw[PyData.depth];omega⟩
theorem zoc{μ:Mu}{d:D}{p:PyData}(h:toPy d=some p):zmZ μ d=some p:=by
 cases d<;>first | exact h | (unfold toPy at h;cases h)
section
variable{D':zcw}{ρ:zad}{μ:Mu}
end
theorem zfg{α:Type}(xs:List α)(n:Nat):cutD xs none (some (n:Int))=xs.take n:=by
 unfold cutD;rw[HT.znk,HT.zaS,List.drop_zero,Nat.sub_zero];rcases Nat.le_total n xs.length with h | h
 .rw[Nat.min_eq_left h]
 .rw[Nat.min_eq_right h,List.take_length,List.take_of_length_le h]
theorem zgU{α:Type}(xs:List α)(n:Nat):cutD xs (some (n:Int)) none=xs.drop n:=by
 unfold cutD;rw[HT.znk,HT.zaS];rcases Nat.le_total n xs.length with h | h
 .rw[Nat.min_eq_left h,List.take_of_length_le (by rw[List.length_drop];omega)]
 .rw[Nat.min_eq_right h,Nat.sub_self,List.take_zero,List.drop_eq_nil_of_le h]
section
variable{X:Cx}{pins:List (Addr×Obj)}{σ:St}{H:Hp}{s:Shared}{h':Heap}
theorem Inv.turnedL{t':Nat}(ch:List Addr)(I:Inv X pins σ H s)(k:∀b o,b∉ch->s.heap.get? b=some o->h'.get? b=some o)(hf:∀b∈ch,zfh X pins H b):Inv X pins σ H { s with heap:=h',toks:=t' }:=by
 have nit:∀b u,H b=some u->b∉ch:=fun b u e z=>by rw[(hf b z).1] at e;cases e
 have hL:X.env.locals∉ch:=fun z=>(hf _ z).2.1 rfl
 refine I.step (g':=s.gens) (d':=s.drawn) (ch:=ch) (fun b hb=>?_) (fun b o _ _ hc e _=>k b o hc e) (fun b o _ _ hc e _=>⟨o.slots,k b o hc e⟩) (fun _ _ _ _ n=>n)
  (fun b o hc e=>⟨o,k b o hc e⟩) (fun _ _ e=>e) (fun _ _ _ e=>e) (fun b ps e=>⟨#[],by rw[e];simp⟩) (fun m hm=>?_) (fun b u e=>?_) I.bare
 .obtain⟨f0,f1,f2,f3,f4,f5⟩:=hf b hb;exact⟨f3,f1,f4,f5⟩
 .obtain⟨o,es,ep,ho,r⟩:=hm;exact⟨o,es,ep,k _ o hL ho,r⟩
 .refine(I.hok b u e).stay (fun c v hc q=>k c v ?_ q) (fun _ q=>q) fun _ _ q=>q
  rcases hc with z | z
  .rw[z];exact nit b u e
  .exact nit c _ z
end
theorem zlF{h:Heap}{o u:Obj}{b:Addr}(hb:b≠h.objs.size)(e:(h.push o).get? b=some u):h.get? b=some u:=by
 unfold Heap.get? Heap.push at *;rw[Array.getElem?_push] at e;rw[if_neg hb] at e;exact e
theorem zyO{X:Cx}{pins:List (Addr×Obj)}{σ:St}{H:Hp}{s:Shared}{l:Addr}{xs ys:List V}(I:Inv X pins σ H s)(q:SqL X.K H l xs)(q':SqL X.K H l ys):xs=ys:=by
 obtain⟨its1,r1,p1,_⟩:=I.list q;obtain⟨its2,r2,p2,_⟩:=I.list q';obtain⟨o1,n1,e1,c1,d1,s1⟩:=p1;obtain⟨o2,n2,e2,c2,d2,s2⟩:=p2;rw[e1] at e2;cases e2;rw[s1] at s2;have:its1=its2:=by
  have:=(Data.seq.inj s2).1;simpa using this
 subst this;exact r1.inj r2
def zzX(K:Frag)(fl:Wd)(W:Wd)(Pm:Mu->Prop)(p:Addr)(ds:List D):Prop:=∀W1 μ H,W.le W1->Rel K fl W1 μ H->Pm μ->∃xs,H p=some (.lst xs)/\zu K W1 ds xs
def lsM(μ:Mu)(d:D)(Q:List D->(Mu->Prop)->Prop):Prop:=match d with
 | .cell k=>match μ k with
  | some (.lst ds)=>Q ds fun μ'=>μ' k=some (.lst ds)
  | _=>False
 | .lst ds=>Q ds fun _=>True
 | _=>False
theorem zpG{K:Frag}{fl:Wd}{W:Wd}{μ:Mu}{H:Hp}{d:D}{x:V}{Q:List D->(Mu->Prop)->Prop}(r:Rel K fl W μ H)(q:Rep K W d x)(h:lsM μ d Q):∃p ds Pm,x= .ref p/\zzX K fl W Pm p ds/\Pm μ/\Q ds Pm:=by
 unfold lsM at h;split at h
 .rename_i c;obtain⟨p,rfl,hb⟩:=q.cell';split at h
  .rename_i ds hk;exact⟨p,ds,_,rfl,fun W1 μ1 H1 le1 r1 pm=>zhl r1 (le1.b _ _ hb) pm,hk,h⟩
  .exact h.elim
 .obtain⟨p,xs,rfl,s1,z1⟩:=q.lst';exact⟨p,_,_,rfl,fun W1 μ1 H1 le1 r1 _=>⟨xs,r1.sub _ _ (le1.F _ _ s1),z1.mono le1⟩,trivial,h⟩
 .exact h.elim
def pairD(p:D×D):D:= .tup [p.1,p.2]
def zy6(w:DA):DI:=fun ρ μ Q=>w ρ μ fun es μ1=>match es with
 | [d,e]=>lsM μ1 d fun ds P1=>lsM μ1 e fun es P2=>Q ((ds.zip es).map pairD) (fun μ'=>P1 μ'/\P2 μ') μ1
 | _=>False
section
variable{μ:Mu}{Q:DK}{α:Type}
theorem zvD{ds:List D}{i:Int}:dIx (.tup ds) (.int i) μ Q=match atI ds i with
  | some v=>Q v μ
  | none=>False:=rfl
theorem zva{ds:List D}{i:Int}:dIx (.lst ds) (.int i) μ Q=match atI ds i with
  | some v=>Q v μ
  | none=>False:=rfl
theorem zr9{a:α}{r:List α}:atI (a::r) 0=some a:=zbb (j:=0) rfl
theorem zsR{a b:α}{r:List α}:atI (a::b::r) 1=some b:=zbb (j:=1) rfl
theorem zwt{a b c:α}{r:List α}:atI (a::b::c::r) 2=some c:=zbb (j:=2) rfl
theorem zwi{a b c d:α}{r:List α}:atI (a::b::c::d::r) 3=some d:=zbb (j:=3) rfl
theorem zwA{a b c d e:α}{r:List α}:atI (a::b::c::d::e::r) 4=some e:=zbb (j:=4) rfl
theorem zwT{a:α}:atI [a] (-1)=some a:=rfl
theorem zw1{a b:α}:atI [a,b] (-1)=some b:=rfl
theorem zx4{a b c:α}:atI [a,b,c] (-1)=some c:=rfl
theorem zxy{a b c d:α}:atI [a,b,c,d] (-1)=some d:=rfl
theorem zxn{a b c d e:α}:atI [a,b,c,d,e] (-1)=some e:=rfl
theorem zdh{β:Type}{f:α->β}{xs:List α}{i:Int}:atI (xs.map f) i=(atI xs i).map f:=by
 unfold atI;rw[List.length_map];cases ixN xs.length i with
 | none=>rfl
 | some j=>simp[List.getElem?_map]
theorem zs7{xs:List α}{i:Int}{j:Nat}{v:α}(hi:i=j)(h:xs[j]? = some v):atI xs i=some v:=by subst hi;exact zbb h
theorem zot{xs:List α}{i:Int}(h0:0<=i)(h1:i < xs.length):∃v,atI xs i=some v/\xs[i.toNat]? = some v:=by
 have hi:i.toNat < xs.length:=by omega
 exact⟨xs[i.toNat],zs7 (by omega) (List.getElem?_eq_getElem hi),List.getElem?_eq_getElem hi⟩
theorem zgX{xs:List α}:atI xs (-1)=xs.getLast? := by
 rcases List.eq_nil_or_concat xs with rfl | ⟨ys,v,rfl⟩
 .rfl
 .rw[List.concat_eq_append,zm5];simp
theorem zxa{n:Nat}{i:Int}(h0:0<=i)(h1:i < n):ixN n i=some i.toNat:=by unfold ixN;rw[if_pos h0,if_pos h1]
theorem zrK{xs:List α}:cutD xs none (some 2)=xs.take 2:=zfg xs 2
end
theorem zkD{s1 u:DS}{D':zcw}{ρ:zad}{μ:Mu}(R:zad->Mu->Prop)(h1:∀N:zad->Mu->Prop,(∀ ρ' μ',R ρ' μ'->N ρ' μ')->s1 { D' with nx:=N } ρ μ)(h2:∀ ρ' μ',R ρ' μ'->u D' ρ' μ'):zJ s1 u D' ρ μ:=h1 _ h2
def blK(Q:Bool->Mu->Prop):DK:=fun d μ=>match d with
 | .bl b=>Q b μ
 | _=>False
def zy3(Q:Int->Mu->Prop):DK:=fun d μ=>match d with
 | .int b=>Q b μ
 | _=>False
def chK(q':DR2)(e:D)(wc:DE)(ρ:zad)(Q:DK):DK:=fun z μ3=>match z with
 | .bl k=>if k=true then wc ρ μ3 fun f μ4=>q' e f μ4 Q else Q (.bl false) μ3
 | _=>False
def cellK(c:Option Ct)(Q:List D->Prop):Prop:=match c with
 | some (.lst ds)=>Q ds
 | _=>False
def zaO{α:Type}(o:Option α)(Q:α->Prop):Prop:=match o with
 | some a=>Q a
 | none=>False
def ztZ{α β:Type}(o:Option α)(f:α->β):Option β:=match o with
 | some a=>some (f a)
 | none=>none
theorem zqP{α β:Type}{a:α}{f:α->β}:ztZ (some a) f=some (f a):=rfl
def zqj(c:Option Ct)(Q:DK)(μ:Mu):Prop:=match c with
 | some (.lst ds)=>Q (.lst ds) μ
 | some (.dct ks vs)=>Q (.dct ks vs) μ
 | some (.dtt ks vs)=>Q (.dtt ks vs) μ
 | some (.ins C ns vs)=>Q (.obj C ns vs) μ
 | _=>False
def tyC(T:String)(c:Option Ct):Prop:=match c with
 | some (.lst _)=>"list"=T
 | some (.dct _ _)=>"dict"=T
 | some (.dtt _ _)=>"dict"=T
 | _=>False
section
variable{μ μ':Mu}{Q:DK}{ρ:zad}{w wa wb wc:DE}{k:Nat}{d e:D}{ds es:List D}{i j:Int}{q q':DR2}{α:Type}{D':zcw}
theorem zlS{b:Bool}{R:Bool->Mu->Prop}:blK R (.bl b) μ=R b μ:=rfl
theorem zsn{R:Int->Mu->Prop}:zy3 R (.int i) μ=R i μ:=rfl
theorem zyv{b:Bool}:chK q' e wc ρ Q (.bl b) μ=if b=true then wc ρ μ fun f μ4=>q' e f μ4 Q else Q (.bl false) μ:=rfl
theorem zqB{R:List D->Prop}:cellK (some (.lst ds)) R=R ds:=rfl
theorem zaD{a:α}{R:α->Prop}:zaO (some a) R=R a:=rfl
theorem ztV:zqj (some (.lst ds)) Q μ=Q (.lst ds) μ:=rfl
theorem ztW{ks:List Key}:zqj (some (.dct ks ds)) Q μ=Q (.dct ks ds) μ:=rfl
theorem zso{ks:List (List Key)}:zqj (some (.dtt ks ds)) Q μ=Q (.dtt ks ds) μ:=rfl
theorem zjF{C:Str}{ns:List Str}:zqj (some (.ins C ns ds)) Q μ=Q (.obj C ns ds) μ:=rfl
theorem zvG:tyC "list" (some (.lst ds))=True:=eq_true rfl
theorem zwQ{R:Bool->Mu->Prop}:zM w ρ μ R=w ρ μ (blK R):=rfl
theorem zv5:zjp q q' wa wb wc ρ μ Q=wa ρ μ fun d μ1=>wb ρ μ1 fun e μ2=>q d e μ2 (chK q' e wc ρ Q):=rfl
theorem zxC{R:Option Int->Mu->Prop}:zbe w ρ μ R=w ρ μ (zy3 fun i=>R (some i)):=rfl
theorem zp8{g:DG}{gs:DGs}{R:zad->Mu->Prop}:zao g gs (d::ds) ρ μ R=g d ρ μ fun ρ' μ'=>gs ds ρ' μ' R:=rfl
theorem zoG{n:Nat}{gs:DGs}{R:zad->Mu->Prop}:zeL n gs (.tup ds) ρ μ R=(ds.length=n/\gs ds ρ μ R):=rfl
def zy9(i j:Nat)(D0:zcw)(ρ:zad):List D->Mu->Prop:=fun ds μ1=>match ds with
 | [d,e]=>D0.nx ((ρ.set i (some d)).set j (some e)) μ1
 | _=>False
theorem zzy{i j:Nat}{wA:DA}:dPar i j wA D' ρ μ=wA ρ μ (zy9 i j D' ρ):=rfl
theorem zt1{i j:Nat}:zy9 i j D' ρ [d,e] μ=D'.nx ((ρ.set i (some d)).set j (some e)) μ:=rfl
theorem ztz:zn0 μ (.cell k) Q=zqj (μ k) Q (zkM μ k):=by
 unfold zn0 zqj;cases h:μ k with
 | none=>simp[h]
 | some c=>cases c<;>simp[h]
theorem zz2{g:Int->Int->D}:dI0 g (.int i) (.int j) μ Q=Q (g i j) μ:=rfl
theorem e_i{C:Int->Int->Prop}{g:Int->Int->D}:dI C g (.int i) (.int j) μ Q=(C i j/\Q (g i j) μ):=rfl
theorem zyM:zfj (.int i) μ Q=Q (.int (-i)) μ:=rfl
theorem zwD:zbi (.int i) (.int j) μ Q=Q (.int (i+j)) μ:=rfl
theorem zxL{a b:Str}:zbi (.str a) (.str b) μ Q=(a.length+b.length<=sizeLine/\Q (.str (a++b)) μ):=rfl
theorem zsN:zbi (.tup ds) (.tup es) μ Q=(ds≠[]/\ds.length+es.length<=sizeLine/\Q (.tup (ds++es)) μ):=rfl
theorem zzi(μ:Mu)(k:Nat)(R:List D->Prop):(∃a,zX μ (.cell k)=some a/\R a)=cellK (μ k) R:=by
 unfold zX cellK;cases h:μ k with
 | none=>simp[h]
 | some c=>cases c<;>simp[h]
theorem zuu:zbi (.lst ds) (.cell k) μ Q=cellK (μ k) fun es=>ds.length+es.length<=sizeLine/\Q (.lst (ds++es)) μ:=by
 rw[<- zzi];show(∃a b,zX μ (.lst ds)=some a/\zX μ (.cell k)=some b/\a.length+b.length<=sizeLine/\Q (.lst (a++b)) μ)=_;refine propext ⟨fun⟨a,b,e1,e2,h⟩=>by cases e1;exact⟨_,e2,h⟩,fun⟨b,e2,h⟩=>⟨_,_,rfl,e2,h⟩⟩
theorem zzT:ztn (.int i) (.int j) μ Q=(zmK i j/\Q (.int (i*j)) μ):=rfl
theorem zxF:zzB (.int i) (.int j) μ Q=Q (.int (i+j)) μ:=rfl
theorem zhU:dIx (.tup ds) (.int i) μ Q=zaO (atI ds i) fun v=>Q v μ:=by
 rw[zvD];cases atI ds i<;>rfl
theorem zwp:dIx (.lst ds) (.int i) μ Q=zaO (atI ds i) fun v=>Q v μ:=by
 rw[zva];cases atI ds i<;>rfl
theorem zyU:dIx (.cell k) (.int i) μ Q=cellK (μ k) fun ds=>zaO (atI ds i) fun v=>Q v μ:=by
 show(match zbs μ (.cell k) with | some ds=>(match L2.atI ds i with | some v=>Q v μ | none=>False) | none=>False)=_;unfold cellK zbs zX zaO;cases h:μ k with
 | none=>simp[h]
 | some c =>
  cases c<;>simp[h]
  rename_i ds;cases atI ds i<;>simp
theorem zzO{z:Str}:dIx (.str z) (.int i) μ Q=(z.length<=sizeLine/\zaO (L2.atI z.cps.toList i) fun c=>Q (.str ⟨#[c]⟩) μ):=by
 show(z.length<=sizeLine/\(match L2.atI z.cps.toList i with | some c=>Q (.str ⟨#[c]⟩) μ | none=>False))=_;cases L2.atI z.cps.toList i<;>rfl
theorem zer{lo hi:Option Int}:zbJ (.tup ds) lo hi μ Q=(¬ (HT.sIx ds.length 0 lo=0/\HT.sIx ds.length ds.length hi=ds.length)/\Q (.tup (cutD ds lo hi)) μ):=rfl
theorem zzj{lo hi:Option Int}:zbJ (.lst ds) lo hi μ Q=Q (.lst (cutD ds lo hi)) μ:=rfl
theorem zyE{z:Str}:zcH [.str z] μ Q=(z.length<=sizeLine/\Q (.int z.length) μ):=rfl
theorem zyp:zcH [.lst ds] μ Q=Q (.int ds.length) μ:=rfl
theorem zsY:zcH [.tup ds] μ Q=Q (.int ds.length) μ:=rfl
theorem zxi:zcH [.cell k] μ Q=cellK (μ k) fun ds=>Q (.int ds.length) μ:=by
 show(match zbs μ (.cell k) with | some es=>Q (.int es.length) μ | none=>False)=_;unfold cellK zbs zX;cases h:μ k with
 | none=>simp[h]
 | some c=>cases c<;>simp[h]
theorem zvU:znM [.lst ds] μ Q=Q (.lst ds) μ:=rfl
theorem zuJ:znM [.tup ds] μ Q=Q (.lst ds) μ:=rfl
theorem zr7:ztu [.lst ds] μ Q=∀k,μ k=none->Q (.cell k) (zF μ k (.lst ds)):=rfl
theorem zsv:ztu [.tup ds] μ Q=∀k,μ k=none->Q (.cell k) (zF μ k (.lst ds)):=rfl
theorem znJ:zcr [.lst ds] μ Q=Q (.tup ds) μ:=rfl
theorem ztY:zcr [.tup ds] μ Q=Q (.tup ds) μ:=rfl
theorem ztI:zcr [.cell k] μ Q=cellK (μ k) fun ds=>Q (.tup ds) μ:=by
 show(match zbs μ (.cell k) with | some es=>Q (.tup es) μ | none=>False)=_;unfold cellK zbs zX;cases h:μ k with
 | none=>simp[h]
 | some c=>cases c<;>simp[h]
theorem zyK:zz7 [.int i] μ Q=Q (.int (if i < 0 then -i else i)) μ:=rfl
theorem zyD:zqH [.int i, .int j] μ Q=Q (.int (if j > i then j else i)) μ:=rfl
theorem zxc:zl7 [.int i, .int j] μ Q=Q (.int (if j < i then j else i)) μ:=rfl
theorem zwL:zqH [.lst ds] μ Q=zaO (intsOf ds) fun ns=>ns≠[]/\∀M∈ns,(∀a∈ns,a<=M)->Q (.int M) μ:=by
 unfold zqH zaO;simp only[zdD,Option.bind_some];cases intsOf ds<;>rfl
theorem zxo:zl7 [.lst ds] μ Q=zaO (intsOf ds) fun ns=>ns≠[]/\∀M∈ns,(∀a∈ns,M<=a)->Q (.int M) μ:=by
 unfold zl7 zaO;simp only[zdD,Option.bind_some];cases intsOf ds<;>rfl
theorem zxk:zze [.lst ds] μ Q=zaO (intsOf ds) fun ns=>Q (.int ns.sum) μ:=by
 unfold zze zaO;simp only[zdD,Option.bind_some];cases intsOf ds<;>rfl
theorem zxu:zpd [.lst ds] μ Q=zaO (zbY ds) fun ns=>Q (.bl (ns.all id)) μ:=by
 unfold zpd zaO;simp only[zdD,Option.bind_some];cases zbY ds<;>rfl
theorem zyq:ztw [.lst ds] μ Q=zaO (zbY ds) fun ns=>Q (.bl (ns.any id)) μ:=by
 unfold ztw zaO;simp only[zdD,Option.bind_some];cases zbY ds<;>rfl
theorem zoA:intsOf []=some []:=rfl
theorem znI:intsOf (.int i::ds)=ztZ (intsOf ds) (fun l=>i::l):=by
 unfold ztZ;simp only[intsOf];cases intsOf ds<;>rfl
theorem zqp:zbY []=some []:=rfl
theorem zoZ{b:Bool}:zbY (.bl b::ds)=ztZ (zbY ds) (fun l=>b::l):=by
 unfold ztZ;simp only[zbY];cases zbY ds<;>rfl
theorem zxE{R:List D->(Mu->Prop)->Prop}:zoa μ (.lst ds) R=R ds fun _=>True:=rfl
theorem zxO{R:List D->(Mu->Prop)->Prop}:zoa μ (.tup ds) R=R ds fun _=>True:=rfl
theorem zwX{R:List D->(Mu->Prop)->Prop}:zoa μ (.cell k) R=cellK (μ k) fun ds=>R ds fun μ'=>μ' k=some (.lst ds):=by
 first
  | (unfold zoa cellK
     cases h:μ k with
     | none=>simp[h]
     | some c=>cases c<;>simp[h])
  | (unfold lsM cellK
     cases h:μ k with
     | none=>simp[h]
     | some c=>cases c<;>simp[h])
theorem zy8{R:List D->(Mu->Prop)->Prop}:lsM μ (.lst ds) R=R ds fun _=>True:=rfl
def zwy(R:List D->(Mu->Prop)->Mu->Prop):List D->Mu->Prop:=fun ds μ1=>match ds with
 | [.int j]=> -(2^62)<=j/\j < 2^62/\R ((zbP 0 j.toNat).map D.int) (fun _=>True) μ1
 | _=>False
def zwC(R:List D->(Mu->Prop)->Mu->Prop):List D->Mu->Prop:=fun ds μ1=>match ds with
 | [.int i, .int j]=>(-(2^62)<=i/\i < 2^62/\ -(2^62)<=j/\j < 2^62)/\R ((zbP i (j - i).toNat).map D.int) (fun _=>True) μ1
 | _=>False
theorem zxM{wA:DA}{R:List D->(Mu->Prop)->Mu->Prop}:zdY wA ρ μ R=wA ρ μ (zwy R):=rfl
theorem zvB{R:List D->(Mu->Prop)->Mu->Prop}:zwy R [.int j] μ=(-(2^62)<=j/\j < 2^62/\R ((zbP 0 j.toNat).map D.int) (fun _=>True) μ):=rfl
theorem zyh{wA:DA}{R:List D->(Mu->Prop)->Mu->Prop}:zxV wA ρ μ R=wA ρ μ (zwC R):=rfl
theorem zv2{R:List D->(Mu->Prop)->Mu->Prop}:zwC R [.int i, .int j] μ=((-(2^62)<=i/\i < 2^62/\ -(2^62)<=j/\j < 2^62)/\R ((zbP i (j - i).toNat).map D.int) (fun _=>True) μ):=rfl
def zzb(R:List D->(Mu->Prop)->Mu->Prop):List D->Mu->Prop:=fun es μ1=>match es with
 | [d,e]=>lsM μ1 d fun ds P1=>lsM μ1 e fun es P2=>R ((ds.zip es).map pairD) (fun μ'=>P1 μ'/\P2 μ') μ1
 | _=>False
theorem zzz{wA:DA}{R:List D->(Mu->Prop)->Mu->Prop}:zy6 wA ρ μ R=wA ρ μ (zzb R):=rfl
theorem zx6{R:List D->(Mu->Prop)->Mu->Prop}:zzb R [d,e] μ=lsM μ d fun ds P1=>lsM μ e fun es P2=>R ((ds.zip es).map pairD) (fun μ'=>P1 μ'/\P2 μ') μ:=rfl
theorem zwM{many:Int}:zab [.cell k, .int many] μ Q=(μ k=some .draw/\0 < many/\many < 2^250/\∀v,0<=v->v < many->Q (.int v) μ):=rfl
theorem zvi{ns:List Int}:zgz [.scr ns] μ Q=∀k,μ k=none->Q (.cell k) (zF μ k .draw):=rfl
theorem zzp{T:String}:tyM T μ (.cell k)=tyC T (μ k):=by
 unfold tyM tyD tyC;cases h:μ k with
 | none=>simp[h]
 | some c=>cases c<;>simp[h]
theorem zzt:tyM "list" μ (.lst ds)=True:=eq_true rfl
theorem zzE{z:Str}:tyM "str" μ (.str z)=True:=eq_true rfl
theorem zu8{R:Nat->List D->Prop}:zcY μ (.cell k) R=cellK (μ k) (R k):=by
 unfold zcY cellK;cases h:μ k with
 | none=>simp[h]
 | some c=>cases c<;>simp[h]
theorem zrY:zaE d [e] μ Q=zcY μ d fun k ds=>ds.length < sizeLine/\Q .non (zF μ k (.lst (ds++[e]))):=rfl
theorem zwJ:zws d [] μ Q=zcY μ d fun k ds=>zaO ds[ds.length - 1]? fun y=>Q y (zF μ k (.lst ds.dropLast)):=by
 refine congrArg (zcY μ d) (funext fun k=>funext fun ds=>?_);cases ds[ds.length - 1]? <;> rfl
theorem zya:zws d [.int i] μ Q=zcY μ d fun k ds=> -(2^63)<=i/\i < 2^63/\zaO (ixN ds.length i) fun j=>zaO ds[j]? fun y=>Q y (zF μ k (.lst (ds.eraseIdx j))):=by
 refine congrArg (zcY μ d) (funext fun k=>funext fun ds=>?_);refine congrArg (And _) (congrArg (And _) ?_);unfold zaO;cases ixN ds.length i with
 | none=>rfl
 | some j =>
  generalize ds.eraseIdx j=ee
  simp only;cases ds[j]? <;> rfl
theorem zuz{R:Mu->Prop}:zkl d (.int i) e μ R=zcY μ d fun k ds=>zaO (ixN ds.length i) fun j=>R (zF μ k (.lst (ds.set j e))):=by
 refine congrArg (zcY μ d) (funext fun k=>funext fun ds=>?_);cases ixN ds.length i<;>rfl
theorem zz0:dIs d .non μ Q=Q (.bl (zeR d)) μ:=rfl
theorem zus:zxe d .non μ Q=Q (.bl (!zeR d)) μ:=rfl
theorem zn2{x:Int}:zsP [(.int x), .ty "int"] μ Q=Q (.bl true) μ:=by show("int"∈zah/\Q (.bl (zg3 "int" "int")) μ)=_;rw[show("int"∈zah)=True from eq_true (by decide),true_and];rfl
theorem zmP{x:Int}:zsP [(.int x), .ty "bool"] μ Q=Q (.bl false) μ:=by show("bool"∈zah/\Q (.bl (zg3 "int" "bool")) μ)=_;rw[show("bool"∈zah)=True from eq_true (by decide),true_and];rfl
end
def Ite(K:Frag)(l:Addr):It :=
 ⟨fun i H => ∃xs x, SqL K H l xs /\ xs[i]? = some x,
  fun i H v H'=>∃p,H p=none/\v= .ref p/\∀xs,SqL K H l xs->∃x,xs[i]? = some x/\H'=upd H p (.tup [.int i,x]),
  fun i H=>∃xs,SqL K H l xs/\xs.length<=i⟩
def zyz(e it l:Addr)(i:Nat)(h:Heap):Prop:=(∃old,IsEnum h e it i old)/\h.IsListIter it l i
theorem zrf{P:Program}{w:World}{K:Frag}{elts:List Expr}{k:Nat}{pos:Pos}(e it l:Addr)(d:e≠it):Turn P w K (.Tuple elts k pos) (Ite K l) [e,it] e (zyz e it l) where
 mem:=by simp
 obj:=fun i h st b hb=>by
  obtain⟨⟨old,hz⟩,⟨o1,e1,c1,d1⟩⟩:=st;simp only[List.mem_cons,List.not_mem_nil,or_false] at hb;rcases hb with rfl | rfl
  .exact⟨_,hz,fun v e=>by cases e⟩
  .exact⟨_,e1,fun v e=>by rw[d1] at e;cases e⟩
 keep:=fun i h h' st kk=>by
  obtain⟨⟨old,hz⟩,h1⟩:=st;exact⟨⟨old,kk e (by simp) _ hz⟩,h1.at fun o e=>kk it (by simp) o e⟩
 item:=by
  intro X hP hw hK hc i pins s σ H E I hf st hg;subst hP hw hK;obtain⟨xs,x,q1,hx⟩:=hg;obtain⟨its1,r1,p1,_⟩:=I.list q1;obtain⟨u1,eu1,ru1⟩:=r1.get hx;obtain⟨⟨old,hz⟩,h1⟩:=st;have hl1:=p1.isList;refine wpAny_pyNext_enum_item hz h1 hl1 (x:=u1) (by simpa using eu1) d fun h' a1 a2 a3 a4 hk=>?_
  refine⟨_,rfl,wpAny_letOwnedTupleGo_enum a1 fun h'' b1 b2=>?_⟩;have lt:∀b∈[e,it],b < s.heap.objs.size:=fun b hb=>by
   simp only[List.mem_cons,List.not_mem_nil,or_false] at hb;rcases hb with rfl | rfl
   .exact Heap.lt_size hz
   .obtain⟨o1,e1,_⟩:=h1;exact Heap.lt_size e1
  have hfr:H s.heap.objs.size=none:=I.hok.fresh (Nat.le_refl _);have I1:Inv X pins σ (upd H s.heap.objs.size (.tup [.int i,x])) { s with heap:=s.heap.push { cls:= .type "tuple",data:= .seq #[Value.int (i:Int) s.toks,u1] },toks:=s.toks+1 } :=
   I.laid (t':=s.toks+1) (fun b o e=>Heap.get?_push_of_some _ e) (Nat.le_refl _) ⟨by show 2<=sizeLine;decide,[Value.int (i:Int) s.toks,u1], .cons ⟨_,rfl⟩ (.cons ru1 .nil),⟨_,Heap.get?_push_size _ rfl,rfl,_,rfl⟩⟩
  have hne:∀b∈[e,it],(upd H s.heap.objs.size (.tup [.int i,x])) b=none:=fun b hb=>by
   rw[zE (Nat.ne_of_lt (lt b hb))];exact(hf b hb).1
  have I2:=I1.turnedL (h':=h'') (t':=s.toks+1) [e,it] (fun b o hb e=>?_) (fun b hb=>⟨hne b hb,(hf b hb).2⟩)
  .refine⟨.ref s.heap.objs.size,_,I2,rfl,⟨_,hfr,rfl,fun xs' q1'=>⟨x,by rw[zyO I q1' q1];exact hx,rfl⟩⟩,⟨⟨_,b1⟩,a2.extBut b2.extBut d.symm⟩,hne⟩
  .simp only[List.mem_cons,List.not_mem_nil,or_false,not_or] at hb;refine b2.extBut _ _ hb.1 ?_;by_cases hT:b=s.heap.objs.size
   .subst hT;rw[Heap.get?_push_size _ rfl] at e;cases e;exact a3
   .have e':s.heap.get? b=some o:=zlF hT e;exact hk b o hb.1 hb.2 e'
 done:=by
  intro X hP hw hK hc i pins s σ H E I hf st hg;subst hP hw hK;obtain⟨xs,q1,hend⟩:=hg;obtain⟨its1,r1,p1,_⟩:=I.list q1;obtain⟨⟨old,hz⟩,h1⟩:=st;refine wpAny_pyNext_enum_end (I.ok.hd hc) hz h1 p1.isList ?_ fun h' hk=>⟨rfl,I.turnedL (h':=h') (t':=s.toks) [e,it] (fun b o hb e=>?_) hf⟩
  .rw[Array.getElem?_eq_none];rw[List.size_toArray,<- r1.length];exact hend
  .simp only[List.mem_cons,List.not_mem_nil,or_false,not_or] at hb;exact hk b o hb.2 e
 self:=fun _ _ _ _ _ st h=>by obtain⟨⟨old,hz⟩,_⟩:=st;exact wpAny_pyIter_enum hz h
def zwk(K:Frag)(ta:TA):TI:=fun σ H R=>ta σ H fun vs H2=>∃l xs,vs=[.ref l]/\SqL K H2 l xs/\R (Ite K l) H2
theorem zmV{X:Cx}{a:Expr}{ta:TA}{p pos pos2:Pos}{elts:List Expr}{k:Nat}(K:Frag)(hg:Gl X "enumerate")(hm:X.mg "enumerate"=none)(ha:WA X [a] ta)(h:X.K=K:=by rfl)
  (hs:starEach [a] X.env=(false,eval a X.env)::starEach [] X.env:=by rfl)(hpl:(backTo pos (starEach [] X.env)).any (·.1)=false:=by rfl):WI X (.Tuple elts k pos2) (.Call (.Name "enumerate" p) [a] [] pos) (zwk K ta):=⟨by
 subst h;intro pins s σ H R I h;refine Call_ (zhx I hg hm boot_enumerate (PyProof.Rows.callWith_type1 (thn (ha.out pos pins s σ H _ I h) fun us s1 ⟨vs,H1,I1,r1,q1⟩=>?_) hs hpl));obtain⟨l,xs,rfl,q2,q⟩:=q1;obtain⟨u,rfl,e1⟩:=vals1 r1;cases e1;obtain⟨its1,rv1,p1,_⟩:=I1.list q2;refine call_enumerate_list p1.isList fun h' b1 b2 b3 b4=>?_
 refine wpAny_pyIter_enum b1 ?_;refine⟨s1.heap.objs.size+1,[s1.heap.objs.size+1,s1.heap.objs.size],_,_,H1,rfl,I1.kept (t':=s1.toks) b4,zrf (s1.heap.objs.size+1) s1.heap.objs.size l (Nat.ne_of_gt (Nat.lt_succ_self _)),⟨⟨_,b1⟩,b2⟩,fun b hb=>?_,q⟩;have hge:s1.heap.objs.size<=b:=by
  simp only[List.mem_cons,List.not_mem_nil,or_false] at hb;rcases hb with rfl | rfl
  .exact Nat.le_succ _
  .exact Nat.le_refl _
 exact I1.fpOk hge (I1.hok.fresh hge)⟩
def zgS(ds:List D):List D:=((List.range ds.length).zip ds).map fun p=> .tup [.int p.1,p.2]
theorem zb4{ds:List D}{i:Nat}{d:D}(h:(zgS ds)[i]? = some d):∃e,ds[i]? = some e/\d= .tup [.int i,e]:=by
 unfold zgS at h;rw[List.getElem?_map] at h;cases hz:((List.range ds.length).zip ds)[i]? with
 | none=>rw[hz] at h;cases h
 | some pr =>
  rw[hz] at h;cases h;obtain⟨m1,m2⟩:=List.getElem?_zip_eq_some.mp hz;have hi:=(List.getElem?_eq_some_iff.mp m2).1;rw[List.getElem?_range hi] at m1;cases pr;cases m1;exact⟨_,m2,rfl⟩
theorem zaQ(ds:List D):(zgS ds).length=ds.length:=by simp[zgS]
def zuk(R:List D->(Mu->Prop)->Mu->Prop):List D->Mu->Prop:=fun es μ1=>match es with
 | [d]=>lsM μ1 d fun ds P1=>R (zgS ds) P1 μ1
 | _=>False
def zmI(w:DA):DI:=fun ρ μ Q=>w ρ μ (zuk Q)
theorem zuD{d:D}{μ:Mu}{R:List D->(Mu->Prop)->Mu->Prop}:zuk R [d] μ=lsM μ d fun ds P1=>R (zgS ds) P1 μ:=rfl
instance{K:Frag}{fl:Wd}{ta:TA}{wa:DA}[a:zbK K fl ta wa]:zn6 K fl (zwk K ta) (zmI wa):=⟨fun{W ρ μ σ H Q Q'} r e h k=>a.run r e h fun W1 ds μ1 xs H1 le1 r1 z1 h1=>by
 unfold zuk at h1;split at h1
 .obtain⟨x,rfl,q1⟩:=z1.one;obtain⟨p1,d1,P1,rfl,l1,pm1,h1⟩:=zpG r1 q1 h1;obtain⟨xs1,e1,_⟩:=l1 W1 μ1 H1 (.refl _) r1 pm1;refine⟨p1,xs1,rfl,SqL.of e1,k W1 _ _ _ μ1 H1 le1 r1 (fun W2 μ2 H2 le2 r2 pm i=>?_) h1⟩;obtain⟨a1,f1,g1⟩:=l1 W2 μ2 H2 le2 r2 pm;constructor
  .intro d hd;obtain⟨e,m2,rfl⟩:=zb4 hd;obtain⟨x1,ex1,qx1⟩:=g1.get m2;refine⟨⟨a1,x1,SqL.of f1,ex1⟩,fun v H' hy=>?_⟩;obtain⟨p,hp,rfl,hy⟩:=hy;obtain⟨y1,ey1,rfl⟩:=hy a1 (SqL.of f1);rw[ex1] at ey1;cases ey1;obtain⟨r3,le3⟩:=r2.newF (o:= .tup [.int i,x1]) hp;exact⟨_,le3,r3, .tup (SqT.of zz) (.cons .i (.cons (qx1.mono le3) .nil))⟩
  .intro hl;rw[zaQ] at hl;exact⟨a1,SqL.of f1,by rw[g1.length];exact hl⟩
 .exact h1.elim⟩
section
variable{X:Cx}(K:Frag)
def zzd:List V->Hp->VK->Prop:=fun xs H Q=>∃a ys c b,xs=[.ref a,c]/\SqT K H a ys/\(∀u,RelV c u->kitOne K (.type "tuple") u=some b)/\Q (.bl b) H
def zzF:List V->Hp->VK->Prop:=fun xs H Q=>zxz K xs H Q\/zzd K xs H Q
theorem zqC(h:X.K=K:=by rfl):zN X (.builtin "isinstance") (zzd K):=by
 subst h;intro pins s σ H xs us Q I r h;obtain⟨a,ys,c,b,rfl,hq,hk,q⟩:=h;obtain⟨u,w,rfl,ra,rc⟩:=vals2 r;cases ra;obtain⟨its,rv,p,hz⟩:=I.tuple hq;obtain⟨o,h1,h2,_⟩:=p;exact kia_one PySem.W.kitx_tuple I.kIn ⟨o,h1,h2⟩ (hk w rc) (fun z=>nomatch z) fun tk=>⟨.bl b,H,I.tok _,rfl,q⟩
theorem zcZ(h:X.K=K:=by rfl):zN X (.builtin "isinstance") (zzF K):=(zrs K h).or (zqC K h)
end
def zgf:DRs:=fun ds μ Q=>match ds with
 | [.tup _, .ty T]=>T∈zah/\Q (.bl (zg3 "tuple" T)) μ
 | ds=>zsP ds μ Q
theorem zvl{K:Frag}{T:String}(h':T∈zah):kitOne K (.type "tuple") (.type T)=some (zg3 "tuple" T):=by
 simp only[zah,List.mem_cons,List.not_mem_nil,or_false] at h';rcases h' with rfl | rfl | rfl | rfl | rfl | rfl<;>rfl
instance{K:Frag}{fl:Wd}:zbm K fl (zzF K) zgf:=⟨fun{W μ H ds xs Q Q'} r z h k=>by
 unfold zgf at h;split at h
 .rename_i es T;obtain⟨x,y,rfl,q1,q2⟩:=z.two;obtain⟨a,ys,rfl,hs,_⟩:=q1.tup';unfold Rep at q2;subst q2;exact .inr ⟨a,ys, .ty T,zg3 "tuple" T,rfl,hs.sm r.sub,fun u hu=>by cases hu;exact zvl h.1,k _ _ _ _ _ (.refl _) r .b h.2⟩
 .exact .inl (zbm.run (K:=K) r z h k)⟩
inductive Src where
 | p (i:Nat) | k (i:Nat) | c (i:Nat)
def pick{α:Type}(d:α)(cs us ws:List α):Src->α
 | .p i=>us.getD i d
 | .k i=>ws.getD i d
 | .c i=>cs.getD i d
def sel{α:Type}(n m:Nat)(pat:List Src)(d:α)(cs us ws:List α):List α:=bif (us.length==n&&ws.length==m) then pat.map (pick d cs us ws) else[]
theorem Vals.getD{vs:List V}{us:List Value}(h:Vals vs us)(i:Nat):RelV (vs.getD i .non) (us.getD i .none):=by
 rw[List.getD_eq_getElem?_getD,List.getD_eq_getElem?_getD];cases e:vs[i]? with
 | none =>
  have:us[i]? = none:=by
   rw[List.getElem?_eq_none_iff] at e ⊢;rw[<- h.length];exact e
  rw[this];rfl
 | some v =>
  obtain⟨u,hu,rv⟩:=h.get e;rw[hu];exact rv
theorem Vals.mapS{f:Src->V}{g:Src->Value}(h:∀x,RelV (f x) (g x)):∀pat:List Src,Vals (pat.map f) (pat.map g)
 | []=> .nil
 | x::r=> .cons (h x) (Vals.mapS h r)
theorem zsm{n m:Nat}{pat:List Src}{csV vs zs:List V}{csU us ws:List Value}(hc:Vals csV csU)(h1:Vals vs us)(h2:Vals zs ws):Vals (sel n m pat .non csV vs zs) (sel n m pat .none csU us ws):=by
 unfold sel;rw[h1.length,h2.length];cases (us.length==n&&ws.length==m) with
 | false=>exact .nil
 | true =>
  refine Vals.mapS (fun x=>?_) pat;cases x with
  | p i=>exact h1.getD i
  | k i=>exact h2.getD i
  | c i=>exact hc.getD i
section
variable{K:Frag}{fl:Wd}{W:Wd}
theorem zu.getD{ds:List D}{xs:List V}(h:zu K W ds xs)(i:Nat):Rep K W (ds.getD i .non) (xs.getD i .non):=by
 rw[List.getD_eq_getElem?_getD,List.getD_eq_getElem?_getD];cases e:ds[i]? with
 | none =>
  have:xs[i]? = none:=by
   rw[List.getElem?_eq_none_iff] at e ⊢;rw[h.length];exact e
  rw[this];exact .n
 | some v =>
  obtain⟨u,hu,rv⟩:=h.get e;rw[hu];exact rv
theorem zu.mapS{f:Src->D}{g:Src->V}(h:∀x,Rep K W (f x) (g x)):∀pat:List Src,zu K W (pat.map f) (pat.map g)
 | []=> .nil
 | x::r=> .cons (h x) (zu.mapS h r)
theorem zgC{n m:Nat}{pat:List Src}{csV vs zs:List V}{csD ds es:List D}(hc:zu K W csD csV)(h1:zu K W ds vs)(h2:zu K W es zs):zu K W (sel n m pat .non csD ds es) (sel n m pat .non csV vs zs):=by
 unfold sel;rw[h1.length,h2.length];cases (ds.length==n&&es.length==m) with
 | false=>exact .nil
 | true =>
  refine zu.mapS (fun x=>?_) pat;cases x with
  | p i=>exact h1.getD i
  | k i=>exact h2.getD i
  | c i=>exact hc.getD i
end
theorem zys{K:Frag}{fd:FuncData}{ps ks:List Str}{n m:Nat}{pat:List Src}{csV:List V}{csU:List Value}(hc:Vals csV csU)(hp:ps.length≠0)
  (h:∀(S:Setting) (us ws:List Value),us.length=n->ws.length=m->PySem.W.peek K S (bindArgs fd ⟨us,ks.zip ws⟩)=some (ps.zip (sel n m pat .none csU us ws))):zcX K fd ps ks (sel n m pat .none csU) (sel n m pat .non csV) where
 to:=fun s us ws hK hl=>by
  by_cases c:us.length=n/\ws.length=m
  .exact PySem.W.kp_binds hK fun S=>h S us ws c.1 c.2
  .have:(us.length==n&&ws.length==m)=false:=by
    rw[Bool.and_eq_false_iff];by_cases c1:us.length=n
    .exact .inr (by rw[beq_eq_false_iff_ne];exact fun z=>c ⟨c1,z⟩)
    .exact .inl (by rw[beq_eq_false_iff_ne];exact c1)
   unfold sel at hl;rw[this] at hl;exact absurd hl.symm hp
 rel:=fun r rz=>zsm hc r rz
class znb(K:Frag)(ds:List D)(xs:List V):Prop where
 run:∀W,zu K W ds xs
instance{K:Frag}:znb K [] []:=⟨fun _=> .nil⟩
instance{K:Frag}{i:Int}{ds:List D}{xs:List V}[a:znb K ds xs]:znb K (.int i::ds) (.int i::xs):=⟨fun W=> .cons .i (a.run W)⟩
def zmD(dsp:DSp)(n m:Nat)(pat:List Src)(cs:List D)(w wk:DA):DE:=fun ρ μ Q=>w ρ μ fun ds μ1=>wk ρ μ1 fun es μ2=>dsp (sel n m pat .non cs ds es) μ2 Q
instance{K:Frag}{fl:Wd}{dsp:DSp}{n m:Nat}{pat:List Src}{csD:List D}{csV:List V}{E:XK}{t tk:TA}{w wk:DA}[a:zbK K fl t w][b:zbK K fl tk wk][c:znb K csD csV]:zQ K fl (zol (lift K dsp) (sel n m pat .non csV) E t tk) (zmD dsp n m pat csD w wk):=⟨fun{W ρ μ σ H Q Q'} r e h k =>
 a.run r e h fun W1 ds μ1 xs H1 le1 r1 q1 h1=>b.run r1 (e.mono le1) h1 fun W2 es μ2 ys H2 le2 r2 q2 h2=>⟨fl,W2,μ2,_,Q,r2,zgC (c.run W2) (q1.mono le2) q2,h2,fun W3 d μ3 x H3 le3=>k W3 d μ3 x H3 (le1.trans (le2.trans le3))⟩⟩
theorem zf5:∀{us:List Value} {ns:List Str},StrsAre us ns->Vals (ns.map V.str) us
 | _,_, .nil=> .nil
 | _,_, .cons n t h=> .cons ⟨t,rfl⟩ (zf5 h)
theorem zkk:∀{us:List Value} {ns:List Int},IntsAre us ns->Vals (ns.map V.int) us
 | _,_, .nil=> .nil
 | _,_, .cons n t h=> .cons ⟨t,rfl⟩ (zkk h)
theorem zfW:∀{ns:List Str} {us:List Value},Vals (ns.map V.str) us->StrsAre us ns
 | [],_,h=>by cases h;exact .nil
 | y::r,_,h=>by
  cases h with
  | cons a b=>obtain⟨t,rfl⟩:=a;exact .cons y t (zfW b)
section
variable{X:Cx}(K:Frag)
def zul:List V->Hp->VK->Prop:=fun xs H Q=>∃p ns,xs=[.ref p]/\SqL K H p (ns.map V.int)/\ns.length < 64/\∀ns' l,List.Perm ns' ns->List.Pairwise (·<= ·) ns'->H l=none->Q (.ref l) (upd H l (.lst (ns'.map V.int)))
def zr8:List V->Hp->VK->Prop:=fun xs H Q=>∃p ns,xs=[.ref p]/\SqL K H p (ns.map V.str)/\ns.length < 64/\∀ns' l,List.Perm ns' ns->sortedS ns'=true->H l=none->Q (.ref l) (upd H l (.lst (ns'.map V.str)))
theorem zo1(h:X.K=K:=by rfl):zN X (.builtin "sorted") (zul K):=by
 subst h;intro pins s σ H xs us Q I r h;obtain⟨p,ns,rfl,hl,hz,q⟩:=h;obtain⟨u,rfl,rx⟩:=vals1 r;cases rx;obtain⟨its,r',pl,hz'⟩:=I.list hl;have hi:=zdZ r';refine sorted_ints pl.isList hi (by rw[<- r'.length,List.length_map];exact hz) fun out ns' h1 h2 h3=>?_
 obtain⟨e,he⟩:=sortedAll_at s.heap its out;have hf:H (s.heap.objs.size+1)=none:=I.hok.fresh (Nat.le_succ _);refine⟨.ref (s.heap.objs.size+1),_,I.laid (a:=s.heap.objs.size+1) (o:= .lst (ns'.map V.int)) (t':=s.toks) (fun b o e=>sortedAll_old e) (Nat.le_succ _) ?_,rfl,q ns' _ h2 h3 hf⟩;refine⟨by rw[List.length_map,h2.length_eq];exact Nat.le_trans (Nat.le_of_lt hz) (by decide),out.toList,e,zkk h1,?_⟩;rw[he]
theorem zoD(h:X.K=K:=by rfl):zN X (.builtin "sorted") (zr8 K):=by
 subst h;intro pins s σ H xs us Q I r h;obtain⟨p,ns,rfl,hl,hz,q⟩:=h;obtain⟨u,rfl,rx⟩:=vals1 r;cases rx;obtain⟨its,r',pl,hz'⟩:=I.list hl;have hi:=zfW r';refine sorted_strs pl.isList hi (by rw[<- r'.length,List.length_map];exact hz) fun out ns' h1 h2 h3=>?_
 obtain⟨e,he⟩:=sortedAll_at s.heap its out;have hf:H (s.heap.objs.size+1)=none:=I.hok.fresh (Nat.le_succ _);refine⟨.ref (s.heap.objs.size+1),_,I.laid (a:=s.heap.objs.size+1) (o:= .lst (ns'.map V.str)) (t':=s.toks) (fun b o e=>sortedAll_old e) (Nat.le_succ _) ?_,rfl,q ns' _ h2 h3 hf⟩;refine⟨by rw[List.length_map,h2.length_eq];exact Nat.le_trans (Nat.le_of_lt hz) (by decide),out.toList,e,zf5 h1,?_⟩;rw[he]
def zlV:List V->Hp->VK->Prop:=fun xs H Q=>zul K xs H Q\/zr8 K xs H Q
theorem zlZ(h:X.K=K:=by rfl):zN X (.builtin "sorted") (zlV K):=(zo1 K h).or (zoD K h)
end
def ziO:DRs:=fun ds μ Q=>match ds with
 | [d]=>(∃ns,zX μ d=some (ns.map D.int)/\ns.length < 64/\∀ns',List.Perm ns' ns->List.Pairwise (·<= ·) ns'->Q (.lst (ns'.map D.int)) μ) \/
   (∃ns,zX μ d=some (ns.map D.str)/\ns.length < 64/\∀ns',List.Perm ns' ns->sortedS ns'=true->Q (.lst (ns'.map D.str)) μ)
 | _=>False
instance{K:Frag}{fl:Wd}:zbm K fl (zlV K) ziO:=⟨fun{W μ H ds xs Q Q'} r z h k=>by
 unfold ziO at h;split at h
 .obtain⟨x,rfl,q⟩:=z.one;rcases h with⟨ns,hl,hz,h⟩ | ⟨ns,hl,hz,h⟩
  .obtain⟨a,xs,rfl,e1,z1⟩:=zax r q hl;rw[z1.ints] at e1;refine .inl ⟨a,ns,rfl,SqL.of e1,hz,fun ns' l h1 h2 hl=>?_⟩;obtain⟨r2,le2⟩:=r.newF (o:= .lst (ns'.map V.int)) hl;exact k _ _ _ _ _ le2 r2 (.lst zz (.of_ints ns')) (h ns' h1 h2)
  .obtain⟨a,xs,rfl,e1,z1⟩:=zax r q hl;rw[z1.strs] at e1;refine .inr ⟨a,ns,rfl,SqL.of e1,hz,fun ns' l h1 h2 hl=>?_⟩;obtain⟨r2,le2⟩:=r.newF (o:= .lst (ns'.map V.str)) hl;exact k _ _ _ _ _ le2 r2 (.lst zz (.of_strs ns')) (h ns' h1 h2)
 .exact h.elim⟩
theorem zqW:zeR .non=true:=rfl
theorem zrD{i:Int}:zeR (.int i)=false:=rfl
theorem zqM{i:Str}:zeR (.str i)=false:=rfl
theorem zuh{i:Bool}:zeR (.bl i)=false:=rfl
theorem zrt{i:List D}:zeR (.lst i)=false:=rfl
theorem zqD{i:List D}:zeR (.tup i)=false:=rfl
theorem zoB{i:Nat}:zeR (.cell i)=false:=rfl
section
variable{μ:Mu}{Q:DK}
theorem znH{x:Int}:zgf [(.int x), .ty "int"] μ Q=Q (.bl true) μ:=zn2 (x:=x)
theorem zlQ{x:Int}:zgf [(.int x), .ty "bool"] μ Q=Q (.bl false) μ:=zmP (x:=x)
theorem znP{x:List D}:zgf [.tup x, .ty "int"] μ Q=Q (.bl false) μ:=by show("int"∈zah/\Q (.bl (zg3 "tuple" "int")) μ)=_;rw[show("int"∈zah)=True from eq_true (by decide),true_and];rfl
theorem zmB{x:List D}:zgf [.tup x, .ty "bool"] μ Q=Q (.bl false) μ:=by show("bool"∈zah/\Q (.bl (zg3 "tuple" "bool")) μ)=_;rw[show("bool"∈zah)=True from eq_true (by decide),true_and];rfl
theorem zm9{x:List D}:zgf [.tup x, .ty "str"] μ Q=Q (.bl false) μ:=by show("str"∈zah/\Q (.bl (zg3 "tuple" "str")) μ)=_;rw[show("str"∈zah)=True from eq_true (by decide),true_and];rfl
theorem zmi{x:List D}:zgf [.tup x, .ty "list"] μ Q=Q (.bl false) μ:=by show("list"∈zah/\Q (.bl (zg3 "tuple" "list")) μ)=_;rw[show("list"∈zah)=True from eq_true (by decide),true_and];rfl
theorem zfM{x:List D}:zgf [.tup x, .ty "tuple"] μ Q=Q (.bl true) μ:=by show("tuple"∈zah/\Q (.bl (zg3 "tuple" "tuple")) μ)=_;rw[show("tuple"∈zah)=True from eq_true (by decide),true_and];rfl
theorem zmE{x:List D}:zgf [.tup x, .ty "dict"] μ Q=Q (.bl false) μ:=by show("dict"∈zah/\Q (.bl (zg3 "tuple" "dict")) μ)=_;rw[show("dict"∈zah)=True from eq_true (by decide),true_and];rfl
end
theorem stp{s u:DS}{D':zcw}{ρ:zad}{μ:Mu}(h:∀N:zad->Mu->Prop,(∀ ρ' μ',u D' ρ' μ'->N ρ' μ')->s { D' with nx:=N } ρ μ):zJ s u D' ρ μ:=h _ fun _ _ z=>z
section
variable{Pm:Mu->Prop}{g:DG}{we:DE}{ρb:zad}{Fin:List D->Mu->Prop}{d:D}{r ys:List D}{μ:Mu}
end
abbrev Tab:=List (Str×List Str)
def zdb(tab:Tab)(c f:Str):Bool:=tab.any fun p=>p.1==c&&p.2.contains f
class TabOk(K:Frag)(tab:Tab):Prop where
 run:∀c f C,zdb tab c f=true->clsOf K c=some C->Cls K C/\zcQ K C f
def zf0(tab:Tab)(f c:Str)(ns:List Str)(vs:List D)(R:D->Prop):Prop:=zdb tab c f=true/\zaO ((ns.zip vs).lookup f) R
def zmo(c:Option Ct)(R:Str->List Str->List D->Prop):Prop:=match c with
 | some (.ins c ns vs)=>R c ns vs
 | _=>False
def zo0(μ:Mu)(d:D)(R:Str->List Str->List D->Prop):Prop:=match d with
 | .obj c ns vs=>R c ns vs
 | .cell k=>zmo (μ k) R
 | _=>False
theorem zsw{c:Str}{ns:List Str}{vs:List D}{R:Str->List Str->List D->Prop}:zmo (some (.ins c ns vs)) R=R c ns vs:=rfl
theorem ztq{o:Option Ct}{R:Str->List Str->List D->Prop}(h:zmo o R):∃c ns vs,o=some (.ins c ns vs)/\R c ns vs:=by
 unfold zmo at h;split at h
 .exact⟨_,_,_,rfl,h⟩
 .exact h.elim
theorem zsz{μ:Mu}{c:Str}{ns:List Str}{vs:List D}{R:Str->List Str->List D->Prop}:zo0 μ (.obj c ns vs) R=R c ns vs:=rfl
theorem zq8{μ:Mu}{k:Nat}{R:Str->List Str->List D->Prop}:zo0 μ (.cell k) R=zmo (μ k) R:=rfl
def zzc(tab:Tab)(f:Str)(Q:DK):DK:=fun d μ=>zo0 μ d fun c ns vs=>zf0 tab f c ns vs fun v=>Q v μ
def zen(tab:Tab)(w:DE)(f:Str):DE:=fun ρ μ Q=>w ρ μ (zzc tab f Q)
section
variable{K:Frag}{fl:Wd}{W:Wd}{μ:Mu}{H:Hp}
theorem znc{d:D}{x:V}{R:Str->List Str->List D->Prop}(r:Rel K fl W μ H)(q:Rep K W d x)(h:zo0 μ d R):∃c C a dx ns vs xs,clsOf K c=some C/\x= .ref a/\H a=some (.ins C dx (ns.zip xs))/\ns.length=xs.length/\zu K W vs xs/\R c ns vs:=by
 unfold zo0 at h;split at h
 .rename_i c ns vs;unfold Rep at q;obtain⟨C,a,dx,xs,hc,rfl,e,l,z⟩:=q;exact⟨c,C,a,dx,ns,vs,xs,hc,rfl,r.sub _ _ e,l,z,h⟩
 .rename_i k;obtain⟨a,rfl,hb⟩:=q.cell';unfold zmo at h;split at h
  .rename_i c ns vs hk;obtain⟨a',e1,e2,C,dx,xs,hc,e3,l3,q3⟩:=r.cel k _ hk;rw[hb] at e1;cases e1;exact⟨c,C,a,dx,ns,vs,xs,hc,rfl,e3,l3,q3,h⟩
  .exact h.elim
 .exact h.elim
theorem zu.lookup{f:Str}:∀{ns:List Str} {vs:List D} {xs:List V} {v:D},zu K W vs xs->(ns.zip vs).lookup f=some v->∃x,(ns.zip xs).lookup f=some x/\Rep K W v x
 | [],_,_,_,_,h=>by simp at h
 | _::_,[],_,_,_,h=>by simp at h
 | n::ns,d::vs,xs,v,r,h=>by
  obtain⟨x,xs,rfl,q,z⟩:=r.uncons;simp only[List.zip_cons_cons,List.lookup_cons] at h ⊢;cases e:(f==n) with
  | true=>rw[e] at h;cases h;exact⟨x,rfl,q⟩
  | false=>rw[e] at h;exact zu.lookup z h
theorem zu.lookup_none{f:Str}:∀{ns:List Str} {vs:List D} {xs:List V},zu K W vs xs->(ns.zip vs).lookup f=none->(ns.zip xs).lookup f=none
 | [],_,_,_,_=>by simp
 | _::_,[],_,r,_=>by rw[r.nil'];simp
 | n::ns,d::vs,xs,r,h=>by
  obtain⟨x,xs,rfl,q,z⟩:=r.uncons;simp only[List.zip_cons_cons,List.lookup_cons] at h ⊢;cases e:(f==n) with
  | true=>rw[e] at h;cases h
  | false=>rw[e] at h;exact zu.lookup_none z h
instance{tab:Tab}{ta:TE}{wa:DE}{f:Str}[t:TabOk K tab][a:zQ K fl ta wa]:zQ K fl (zvL K ta f) (zen tab wa f):=⟨fun{W ρ μ σ H Q Q'} r e h k=>a.run r e h fun W1 d μ1 x H1 le1 r1 q1 h1=>by
 obtain⟨c,C,a,dx,ns,vs,xs,hc,rfl,ea,l,z,hi,hl⟩:=znc r1 q1 h1;unfold zaO at hl;split at hl
 .rename_i v hv;obtain⟨x,hx,q⟩:=z.lookup hv;obtain⟨c1,c2⟩:=t.run c f C hi hc;exact⟨a,C,dx,_,x,rfl,ea,c1,c2,hx,k _ _ _ _ _ le1 r1 q hl⟩
 .exact hl.elim⟩
end
def putN(f:Str):List Str->List Str
 | []=>[f]
 | g::r=>if g=f then g::r else g::putN f r
def putD(f:Str)(v:D):List Str->List D->List D
 | g::r,x::xs=>if g=f then v::xs else x::putD f v r xs
 | _,_=>[v]
def zds(tab:Tab)(f:Str)(v:D)(c:Str)(ns:List Str)(vs:List D)(R:List Str->List D->Prop):Prop:=zdb tab c f=true/\ns.length < 1000/\R (putN f ns) (putD f v ns vs)
def zdC(tab:Tab)(wo w:DE)(f:Str):DS:=fun D ρ μ=>w ρ μ fun v μ1=>wo ρ μ1 fun d μ2=>match d with
 | .cell k=>zmo (μ2 k) fun c ns vs=>zds tab f v c ns vs fun ns' vs'=>D.nx ρ (zF μ2 k (.ins c ns' vs'))
 | _=>False
def zy0(tab:Tab)(f:Str)(v:D)(D0:zcw)(ρ:zad):DK:=fun d μ2=>match d with
 | .cell k=>zmo (μ2 k) fun c ns vs=>zds tab f v c ns vs fun ns' vs'=>D0.nx ρ (zF μ2 k (.ins c ns' vs'))
 | _=>False
theorem zxR{tab:Tab}{wo w:DE}{f:Str}{D0:zcw}{ρ:zad}{μ:Mu}:zdC tab wo w f D0 ρ μ=w ρ μ fun v μ1=>wo ρ μ1 (zy0 tab f v D0 ρ):=rfl
theorem zqY{tab:Tab}{f:Str}{v:D}{D0:zcw}{ρ:zad}{k:Nat}{μ:Mu}:zy0 tab f v D0 ρ (.cell k) μ=zmo (μ k) fun c ns vs=>zds tab f v c ns vs fun ns' vs'=>D0.nx ρ (zF μ k (.ins c ns' vs')):=rfl
section
variable{K:Frag}{fl:Wd}{W:Wd}
theorem zpV{f:Str}{y:V}:∀{ns:List Str} {xs:List V},ns.length=xs.length->∃xs',zdP f y (ns.zip xs)=(putN f ns).zip xs'/\(putN f ns).length=xs'.length/\∀{vs:List D} {v:D},zu K W vs xs->Rep K W v y->zu K W (putD f v ns vs) xs'
 | [],[],_=>⟨[y],rfl,rfl,fun{vs v} r q=>by
   cases vs with
   | nil=>exact .cons q .nil
   | cons d vs=>obtain⟨x,r',e,_⟩:=r.uncons;cases e⟩
 | [],_::_,h=>by simp at h
 | _::_,[],h=>by simp at h
 | n::ns,x::xs,h=>by
  obtain⟨xs',e1,e2,e3⟩:=zpV (f:=f) (y:=y) (ns:=ns) (xs:=xs) (by simpa using h);by_cases hn:n=f
  .refine⟨y::xs,?_,?_,fun{vs v} r q=>?_⟩
   .simp[zdP,putN,hn]
   .simp only[putN,if_pos hn];simpa using h
   .cases vs with
    | nil=>have:=r.nil';cases this
    | cons d vs =>
     obtain⟨x',r',e,q1,z⟩:=r.uncons;cases e;simp only[putD,if_pos hn];exact .cons q z
  .refine⟨x::xs',?_,?_,fun{vs v} r q=>?_⟩
   .simp only[List.zip_cons_cons,zdP,putN,if_neg hn,e1]
   .simp only[putN,if_neg hn,List.length_cons,e2]
   .cases vs with
    | nil=>have:=r.nil';cases this
    | cons d vs =>
     obtain⟨x',r',e,q1,z⟩:=r.uncons;cases e;simp only[putD,if_neg hn];exact .cons q1 (e3 z q)
instance{tab:Tab}{ta tv:TE}{wa wv:DE}{f:Str}[t:TabOk K tab][a:zQ K fl ta wa][b:zQ K fl tv wv]:zem K fl (zuQ K ta tv f) (zdC tab wa wv f):=⟨fun{W ρ μ σ H D' D} r e h k=>b.run r e h fun W1 v μ1 y H1 le1 r1 qv h1=>a.run r1 (e.mono le1) h1 fun W2 d μ2 x H2 le2 r2 q2 h2=>by
 cases d<;>first | exact h2.elim | skip
 rename_i kk;obtain⟨a,rfl,hb⟩:=q2.cell';obtain⟨c,ns,vs,hk,h2⟩:=ztq (o:=μ2 kk) h2;obtain⟨a',e1,e2,C,dx,xs,hc,e3,l3,q3⟩:=r2.cel kk _ hk;rw[hb] at e1;cases e1;obtain⟨hi,hz,h2⟩:=h2;obtain⟨c1,c2⟩:=t.run c f C hi hc;obtain⟨xs',p1,p2,p3⟩:=zpV (K:=K) (W:=W2) (f:=f) (y:=y) l3;refine⟨a,C,dx,_,rfl,e3,c1,c2,by rw[List.length_zip,<- l3,Nat.min_self];exact hz,?_⟩;rw[p1];exact k.nx W2 ρ _ σ _ (le1.trans le2) (r2.setC (c':= .ins c (putN f ns) (putD f v ns vs)) hk hb ⟨C,dx,xs',hc,rfl,p2,p3 q3 (qv.mono le2)⟩) (e.mono (le1.trans le2)) h2⟩
end
structure zft(P:Program)(w:World)(K:Frag)(mg:Str->Option Value)(base:Heap)(CX:CXT)(c m:Str)(k:Nat)(ps:List Str)(sp:Sp)(ks:List Str)(gV:List V->List V->List V):Prop where
 ex:∃C f fd g,clsOf K c=some C/\Cls K C/\Meth K C m f/\zV P w K mg base CX k f fd ps sp/\zcX K fd ps ks g gV
def ztJ(K:Frag)(c m:Str)(sp:Sp)(gV:List V->List V->List V)(E:XK)(ta:TE)(t tk:TA):TE:=fun σ H Q=>ta σ H fun x H1=>∃C a dx fs,clsOf K c=some C/\x= .ref a/\H1 a=some (.ins C dx fs)/\fs.lookup m=none /\
 t σ H1 fun vs H2=>tk σ H2 fun zs H3=>sp (gV (x::vs) zs) H3 Q E
section
variable{X:Cx}{CX:CXT}{j k:Nat}{ps ks:List Str}{sp:Sp}{E:XK}{c m:Str}{pos apos:Pos}{e o:Expr}{es:List Expr}{ta:TE}{t tk:TA}{kws:List Keyword}{gV:List V->List V->List V}
theorem za6{pl:Sem Bool}(K:Frag)(hh:zft X.prog X.w X.K X.mg X.base CX c m j ps sp ks gV)(hr:zfm k X.A)(he:WE X o ta)(ha:WA X (e::es) t)(hkw:WK X kws tk)(hK:X.K=K:=by rfl)(hj:j<=k:=by decide)(hx:zcs CX X E:=by exact zk6)
  (hall:(backToKw pos (keywordEach kws X.env)).all (·.1.isSome)=true:=by rfl)(hks:(backToKw pos (keywordEach kws X.env)).filterMap (·.1)=ks:=by rfl)
  (hst:starEach (e::es) X.env=(false,eval e X.env)::starEach es X.env:=by rfl)
  (hpl:((backTo pos (starEach (e::es) X.env)).any (·.1)||(backToKw pos (keywordEach kws X.env)).any (·.1.isNone))=false:=by rfl)
  (ht:eval (.Call (.Attribute o m apos) (e::es) kws pos) X.env=(do
   let ov<-eval o X.env
   standAt apos.atName
   let (f,first)<-holding [ov] (getMethod ov m pl)
   callWith pos f first (backTo pos (starEach (e::es) X.env)) (backToKw pos (keywordEach kws X.env))):=by rfl) :
  WE X (.Call (.Attribute o m apos) (e::es) kws pos) (ztJ K c m sp gV E ta t tk):=⟨by
 subst hK;obtain⟨C0,f,fd,g,hc0,hcl,hm,F,hb⟩:=hh.ex;intro pins s σ H Q I h;refine PySem.W.methodCall_KW (pl:=pl) (thn (he.out pins s σ H _ I h) fun u s1 ⟨x,H1,I1,rx,C,a,dx,fs,hc,ex,ea,l,q⟩=>?_) ht;rw[hc0] at hc;cases hc;subst ex;obtain rfl:u=Value.ref a:=rx;refine zoK I1 ea hcl hm l ?_;refine callWith_KW (first:=[.ref a]) (h₀:=X.base) I.ok.mod.kin hm.kp hall (thn (ha.out pos pins s1 σ H1 _ I1 q) fun us s2 ⟨vs,H2,I2,r,q2⟩=>?_) hpl hst;refine thn (hkw.out pos pins s2 σ H2 _ I2 q2) fun ws s3 ⟨zs,H3,I3,rz,q3⟩=>⟨I3.kIn,?_⟩
 rw[hks];exact zqe (us:= .ref a::us) (vs:= .ref a::vs) (F.mono hj) hr hb hx I3 (.cons rfl r) rz q3⟩
end
def zdJ(c m:Str)(dsp:DSp)(n j:Nat)(pat:List Src)(cs:List D)(wo:DE)(w wk:DA):DE:=fun ρ μ Q=>wo ρ μ fun d μ1=>(zo0 μ1 d fun c' ns vs=>c'=c/\(ns.zip vs).lookup m=none)/\w ρ μ1 fun ds μ2=>wk ρ μ2 fun es μ3=>dsp (sel n j pat .non cs (d::ds) es) μ3 Q
instance{K:Frag}{fl:Wd}{c m:Str}{dsp:DSp}{n j:Nat}{pat:List Src}{csD:List D}{csV:List V}{E:XK}{ta:TE}{wa:DE}{t tk:TA}{w wk:DA}[o:zQ K fl ta wa][a:zbK K fl t w][b:zbK K fl tk wk][cr:znb K csD csV]:zQ K fl (ztJ K c m (lift K dsp) (sel n j pat .non csV) E ta t tk) (zdJ c m dsp n j pat csD wa w wk):=⟨fun{W ρ μ σ H Q Q'} r e h k =>
 o.run r e h fun W1 d μ1 x H1 le1 r1 q1 h1=>by
  obtain⟨c',C,p,dx,ns,vs,xs,hc,rfl,ea,l,z,rfl,hl⟩:=znc r1 q1 h1.1;refine⟨C,p,dx,_,hc,rfl,ea,z.lookup_none hl,a.run r1 (e.mono le1) h1.2 fun W2 ds μ2 xs H2 le2 r2 q2 h2=>b.run r2 (e.mono (le1.trans le2)) h2 fun W3 es μ3 ys H3 le3 r3 q3 h3=>?_⟩;exact⟨fl,W3,μ3,_,Q,r3,zgC (cr.run W3) (.cons (q1.mono (le2.trans le3)) (q2.mono le3)) q3,h3,fun W4 d4 μ4 x4 H4 le4=>k W4 d4 μ4 x4 H4 (le1.trans (le2.trans (le3.trans le4)))⟩⟩
structure zll(P:Program)(w:World)(K:Frag)(mg:Str->Option Value)(base:Heap)(CX:CXT)(c:Str)(k:Nat)(ps:List Str)(sp:Sp)(ks:List Str)(gV:List V->List V->List V):Prop where
 ex:∃C f fd g,clsOf K c=some C/\Mk K C f/\zV P w K mg base CX k f fd ps sp/\zcX K fd ps ks g gV/\mg c=some (.ref C)
def zjJ(K:Frag)(c:Str)(sp:Sp)(gV:List V->List V->List V)(E:XK)(t tk:TA):TE:=fun σ H Q=>t σ H fun vs H1=>tk σ H1 fun zs H2=>∀C x dx,clsOf K c=some C->H2 x=none->H2 dx=none->dx≠x ->
 sp (gV (.ref x::vs) zs) (upd (upd H2 dx (.own x)) x (.ins C dx [])) (fun v H3=>v= .non/\Q (.ref x) H3) E
section
variable{X:Cx}{CX:CXT}{j k:Nat}{ps ks:List Str}{sp:Sp}{E:XK}{c:Str}{p pos:Pos}{e:Expr}{es:List Expr}{t tk:TA}{kws:List Keyword}{gV:List V->List V->List V}
theorem znj(K:Frag)(h:zll X.prog X.w X.K X.mg X.base CX c j ps sp ks gV)(hr:zfm k X.A)(ha:WA X (e::es) t)(hkw:WK X kws tk)(hK:X.K=K:=by rfl)(hj:j+1<=k:=by decide)(hg:Gl X c:=by rfl)(hx:zcs CX X E:=by exact zk6)
  (hall:(backToKw pos (keywordEach kws X.env)).all (·.1.isSome)=true:=by rfl)(hks:(backToKw pos (keywordEach kws X.env)).filterMap (·.1)=ks:=by rfl)
  (hdb:(c==("__debug__":Str))=false:=by decide)(he:starEach (e::es) X.env=(false,eval e X.env)::starEach es X.env:=by rfl)
  (hpl:((backTo pos (starEach (e::es) X.env)).any (·.1)||(backToKw pos (keywordEach kws X.env)).any (·.1.isNone))=false:=by rfl):WE X (.Call (.Name c p) (e::es) kws pos) (zjJ K c sp gV E t tk):=⟨by
 subst hK;obtain⟨C,f,fd,g,hc,M,F,b,m⟩:=h.ex;intro pins s σ H Q I h;refine wpAny_Call_Name_kw (zgk I hg m ?_ hdb);refine callWith_KW (h₀:=X.base) I.ok.mod.kin M.kp hall (thn (ha.out pos pins s σ H _ I h) fun us s1 ⟨vs,H1,I1,r,q⟩=>?_) hpl he;refine thn (hkw.out pos pins s1 σ H1 _ I1 q) fun ws s2 ⟨zs,H2,I2,rz,q2⟩=>⟨I2.kIn,?_⟩
 rw[hks];exact zk2 M F (hr.mono hj) b hx I2 r rz fun x dx h1 h2 h3=>q2 C x dx hc h1 h2 h3⟩
theorem zrj(K:Frag)(h:zll X.prog X.w X.K X.mg X.base CX c j ps sp [] gV)(hr:zfm k X.A)(hK:X.K=K:=by rfl)(hj:j+1<=k:=by decide)(hg:Gl X c:=by rfl)(hx:zcs CX X E:=by exact zk6)
  (hdb:(c==("__debug__":Str))=false:=by decide):WE X (.Call (.Name c p) [] [] pos) (zjJ K c sp gV E zhr zhr):=⟨by
 subst hK;obtain⟨C,f,fd,g,hc,M,F,b,m⟩:=h.ex;intro pins s σ H Q I h;refine wpAny_Call_Name_kw (zgk I hg m ?_ hdb);exact PySem.W.callWith_K0 I.kIn M.kp (zk2 (us:=[]) (vs:=[]) (ws:=[]) (zs:=[]) M F (hr.mono hj) b hx I .nil .nil fun x dx h1 h2 h3=>h C x dx hc h1 h2 h3)⟩
end
def zte(c:Str)(dsp:DSp)(n j:Nat)(pat:List Src)(cs:List D)(w wk:DA):DE:=fun ρ μ Q=>w ρ μ fun ds μ1=>wk ρ μ1 fun es μ2=>∀k,μ2 k=none->dsp (sel n j pat .non cs (.cell k::ds) es) (zF μ2 k (.ins c [] [])) fun d μ3=>d= .non/\Q (.cell k) μ3
def zhs(c:Str)(dsp:DSp)(n j:Nat)(pat:List Src)(cs:List D)(w wk:DA):DE:=fun ρ μ Q=>w ρ μ fun ds μ1=>wk ρ μ1 fun es μ2=>∀k,μ2 k=none->dsp (sel n j pat .non cs (.cell k::ds) es) (zF μ2 k (.ins c [] [])) fun d μ3=>d= .non/\zn0 μ3 (.cell k) Q
section
variable{K:Frag}{fl:Wd}{c:Str}{dsp:DSp}{n j:Nat}{pat:List Src}{csD:List D}{csV:List V}{E:XK}{t tk:TA}{w wk:DA}
theorem zpO{W:Wd}{μ:Mu}{H:Hp}{C x dx:Addr}(r:Rel K fl W μ H)(hc:clsOf K c=some C)(h1:H x=none)(h2:H dx=none)(h3:dx≠x):∃(k:Nat) (W':Wd),μ k=none/\W.le W'/\Rel K fl W' (zF μ k (.ins c [] [])) (upd (upd H dx (.own x)) x (.ins C dx []))/\W'.b k=some x:=by
 have r1:Rel K fl W μ (upd H dx (.own x)):=r.same (ze1 h2);have hx:upd H dx (.own x) x=none:=by rw[zE (Ne.symm h3)];exact h1
 exact r1.newC (o:= .ins C dx []) (c:= .ins c [] []) hx ⟨C,dx,[],hc,rfl,rfl, .nil⟩
instance[a:zbK K fl t w][b:zbK K fl tk wk][cr:znb K csD csV]:zQ K fl (zjJ K c (lift K dsp) (sel n j pat .non csV) E t tk) (zte c dsp n j pat csD w wk):=⟨fun{W ρ μ σ H Q Q'} r e h k =>
 a.run r e h fun W1 ds μ1 xs H1 le1 r1 q1 h1=>b.run r1 (e.mono le1) h1 fun W2 es μ2 ys H2 le2 r2 q2 h2 C x dx hc g1 g2 g3=>by
  obtain⟨kk,W3,hk,le3,r3,e3⟩:=zpO r2 hc g1 g2 g3;refine⟨fl,W3,_,_,_,r3,zgC (cr.run W3) (.cons (by unfold Rep;exact⟨x,rfl,e3⟩) (q1.mono (le2.trans le3))) (q2.mono le3),h2 kk hk,fun W4 d4 μ4 x4 H4 le4 r4 q4 h4=>?_⟩;obtain⟨rfl,h4⟩:=h4;exact⟨q4.n',k W4 (.cell kk) μ4 _ H4 (le1.trans (le2.trans (le3.trans le4))) r4 (by unfold Rep;exact⟨x,rfl,le4.b _ _ e3⟩) h4⟩⟩
theorem zum[a:zbK K fl t w][b:zbK K fl tk wk][cr:znb K csD csV]:zQ K fl (zjJ K c (lift K dsp) (sel n j pat .non csV) E t tk) (zhs c dsp n j pat csD w wk):=⟨fun{W ρ μ σ H Q Q'} r e h k =>
 a.run r e h fun W1 ds μ1 xs H1 le1 r1 q1 h1=>b.run r1 (e.mono le1) h1 fun W2 es μ2 ys H2 le2 r2 q2 h2 C x dx hc g1 g2 g3=>by
  obtain⟨kk,W3,hk,le3,r3,e3⟩:=zpO r2 hc g1 g2 g3;refine⟨fl,W3,_,_,_,r3,zgC (cr.run W3) (.cons (by unfold Rep;exact⟨x,rfl,e3⟩) (q1.mono (le2.trans le3))) (q2.mono le3),h2 kk hk,fun W4 d4 μ4 x4 H4 le4 r4 q4 h4=>?_⟩;obtain⟨rfl,h4⟩:=h4;obtain⟨W5,d5,μ5,le5,r5,q5,h5⟩:=zpZ r4 (x:= .ref x) (d:= .cell kk) (by unfold Rep;exact⟨x,rfl,le4.b _ _ e3⟩) h4;exact⟨q4.n',k W5 d5 μ5 _ H4 (le1.trans (le2.trans (le3.trans (le4.trans le5)))) r5 q5 h5⟩⟩
instance[a:zbK K fl t w][b:zbK K fl tk wk][cr:znb K csD csV]:zQ K fl (zjJ K c (lift K dsp) (sel n j pat .non csV) E t tk) (zhs c dsp n j pat csD w wk):=zum
end
theorem zcg{K:Frag}{c:Str}{C:Addr}(h:nsIn K mainGlobals c=some (some (.ref C))):clsOf K c=some C:=by unfold clsOf;rw[h]
theorem zq0{K:Frag}:TabOk K []:=⟨fun _ _ _ h=>by simp[zdb] at h⟩
theorem zgi{K:Frag}{c:Str}{fs:List Str}{tab:Tab}{C:Addr}(hc:clsOf K c=some C)(cl:Cls K C)(hf:∀f∈fs,zcQ K C f)(t:TabOk K tab):TabOk K ((c,fs)::tab):=⟨fun c' f C' hi h=>by
 simp only[zdb,List.any_cons,Bool.or_eq_true,Bool.and_eq_true] at hi;rcases hi with⟨h1,h2⟩ | h1
 .have e:=eq_of_beq h1;subst e;rw[hc] at h;cases h;exact⟨cl,hf f (List.contains_iff_mem.mp h2)⟩
 .exact t.run c' f C' h1 h⟩
def zuo(K:Frag):V->List V->Hp->VK->Prop:=fun x xs H Q=>∃sep p ys,x= .str sep/\xs=[.ref p]/\(SqL K H p (ys.map V.str)\/SqT K H p (ys.map V.str))/\sep.length<=16/\zg2 ys<=1048576/\Q (.str (Str.join sep ys)) H
theorem zsL{X:Cx}(K:Frag)(h:X.K=K:=by rfl):MtR X "str.join" (zuo K):=zsJ K h
def zsg:DM:=fun d es μ Q=>match d,es with
 | .str sep,[e]=>∃ys,zbs μ e=some (ys.map D.str)/\sep.length<=16/\zg2 ys<=1048576/\Q (.str (Str.join sep ys)) μ
 | _,_=>False
instance{K:Frag}{fl:Wd}:zs2 K fl "str" (zuo K) zsg:=⟨fun{W μ H d x ds xs Q Q'} r q z h k=>by
 unfold zsg at h;split at h
 .obtain⟨y,rfl,qy⟩:=z.one;obtain⟨ys,hl,h1,h2,h⟩:=h;obtain⟨a,vs,rfl,e1,z1⟩:=zcK r qy hl;rw[z1.strs] at e1;rw[q.s'];exact⟨_,a,ys,rfl,rfl,e1,h1,h2,k _ _ _ _ _ (.refl _) r .s h⟩
 .exact h.elim⟩
def zyQ:R2:=fun x y H Q=>∃c n,x= .str ⟨#[c]⟩/\y= .int n/\0<=n/\n<=1000/\∀z:Str,z.cps.toList=List.replicate n.toNat c->Q (.str z) H
def zsp:R2:=fun x y H Q=>zpv x y H Q\/zyQ x y H Q
theorem zna{X:Cx}:OpR X (binaryOp .Mult) zsp:=zvM.or zo2
def zk4:DR2:=fun d e μ Q=>match d,e with
 | .str z, .int n=>∃c,z=⟨#[c]⟩/\0<=n/\n<=1000/\∀y:Str,y.cps.toList=List.replicate n.toNat c->Q (.str y) μ
 | d,e=>ztn d e μ Q
instance{K:Frag}{fl:Wd}:zbd K fl zsp zk4:=⟨fun{W μ H d e x y Q Q'} r q1 q2 h k=>by
 unfold zk4 at h;split at h
 .obtain⟨c,rfl,h1,h2,h⟩:=h;rw[q1.s',q2.i'];exact .inr ⟨c,_,rfl,rfl,h1,h2,fun z hz=>k _ _ _ _ _ (.refl _) r .s (h z hz)⟩
 .exact .inl (zbd.run (K:=K) (r:=zpv) (q:=ztn) r q1 q2 h k)⟩
section
variable{μ:Mu}{Q:DK}{i j:Int}{ds:List D}
theorem zwV:zk4 (.int i) (.int j) μ Q=(zmK i j/\Q (.int (i*j)) μ):=rfl
theorem zuG{c:Nat}:zk4 (.str ⟨#[c]⟩) (.int j) μ Q=(0<=j/\j<=1000/\∀y:Str,y.cps.toList=List.replicate j.toNat c->Q (.str y) μ):=by
 show(∃c',(⟨#[c]⟩:Str)=⟨#[c']⟩/\0<=j/\j<=1000/\∀y:Str,y.cps.toList=List.replicate j.toNat c'->Q (.str y) μ)=_;refine propext ⟨fun⟨c',e,h⟩=>?_,fun h=>⟨c,rfl,h⟩⟩;have:c=c':=by
  have:=congrArg (fun s:Str=>s.cps.toList) e;simpa using this
 subst this;exact h
end
theorem zb1{Pm:Mu->Prop}{g:DG}{ds:List D}{μ:Mu}{we:DE}{ρb:zad}{Fin:List D->Mu->Prop}{ys:List D}(I:Nat->List D->Mu->Prop)(h0:I 0 ys μ)
  (step:∀i d ys μ,ds[i]? = some d->I i ys μ->ys.length < sizeLine/\∀N:List D->Mu->Prop,(∀ys' μ',I (i+1) ys' μ'->N ys' μ')->g d ρb μ fun ρ2 μ2=>we ρ2 μ2 fun v μ4=>N (ys++[v]) μ4)
  (fin:∀ys μ,I ds.length ys μ->Fin ys μ)(hP:∀i ys μ,I i ys μ->Pm μ:=by exact fun _ _ _ _=>trivial):zbQ g zeS we ρb Pm Fin ds ys μ :=
 zlE I h0 (fun i d ys μ hd hI=>⟨(step i d ys μ hd hI).1,fun N hN=>(step i d ys μ hd hI).2 N hN⟩) fin hP
theorem zcz{α:Type}{Pm:Mu->Prop}{g:DG}{μ:Mu}{wc:DT}{we:DE}{ρb:zad}{Fin:List D->Mu->Prop}(xs:List α)(f:α->D)(p:α->Bool)(f':α->D)(hl:xs.length<=sizeLine)
  (step:∀x∈xs,∀(Y:DK) (Z:Mu->Prop),(p x=true->Y (f' x) μ)->(p x=false->Z μ)->g (f x) ρb μ fun ρ2 μ2=>wc ρ2 μ2 fun b μ3=>if b=true then we ρ2 μ3 Y else Z μ3)
  (fin:Fin ((xs.filter p).map f') μ)(hP:Pm μ:=by exact trivial):zbQ g wc we ρb Pm Fin (xs.map f) [] μ:=by
 refine zlE (fun i ys μ'=>μ'=μ/\ys=((xs.take i).filter p).map f') ⟨rfl,by simp⟩ (fun i d ys μ' hd hI=>?_) (fun ys μ' hI=>?_) (fun i ys μ' h=>h.1▸hP)
 .obtain⟨rfl,rfl⟩:=hI;rw[List.getElem?_map] at hd;cases hx:xs[i]? with
  | none=>rw[hx] at hd;cases hd
  | some x =>
   rw[hx] at hd;cases hd;have hi:=(List.getElem?_eq_some_iff.mp hx).1;refine⟨?_,fun N hN=>?_⟩
   .have:=List.length_filter_le p (xs.take i);rw[List.length_map];rw[List.length_take] at this;omega
   .refine step x (List.mem_of_getElem? hx) (fun v μ4=>N (((xs.take i).filter p).map f'++[v]) μ4) (fun μ3=>N (((xs.take i).filter p).map f') μ3) (fun hp=>hN _ _ ⟨rfl,?_⟩) (fun hp=>hN _ _ ⟨rfl,?_⟩)
    .rw[List.take_add_one,hx];simp[hp]
    .rw[List.take_add_one,hx];simp[hp]
 .obtain⟨rfl,rfl⟩:=hI;rw[List.length_map,List.take_length];exact fin
theorem zid:∀xs:List Str,zdq (xs.map D.str)=some (xs.map V.str)
 | []=>rfl
 | x::r=>by rw[List.map_cons,zdq,zid r];rfl
theorem zlR{x:Str}{xs:List Str}{μ:Mu}{Q:DK}{neg:Bool}{e:D}(h:zbs μ e=some (xs.map D.str)):zbW neg (.str x) e μ Q=Q (.bl (neg ^^ decide (x∈xs))) μ:=by
 have h2:zjf (.str x)=some (.str x):=rfl;unfold zbW;simp only[h,h2,zid,zmU];cases neg<;>simp
theorem zcM{x:Str}{xs:List Str}{μ:Mu}{Q:DK}{neg:Bool}{k:Nat}(h:μ k=some (.lst (xs.map D.str))):zbW neg (.str x) (.cell k) μ Q=Q (.bl (neg ^^ decide (x∈xs))) μ:=zlR (zoy h)
theorem zlt{x:Str}{xs:List Str}{μ:Mu}{Q:DK}{neg:Bool}:zbW neg (.str x) (.lst (xs.map D.str)) μ Q=Q (.bl (neg ^^ decide (x∈xs))) μ:=zlR rfl
theorem zlB{x:Str}{xs:List Str}{μ:Mu}{Q:DK}{neg:Bool}:zbW neg (.str x) (.tup (xs.map D.str)) μ Q=Q (.bl (neg ^^ decide (x∈xs))) μ:=zlR rfl
class KTup(K:Frag)(a:Addr)(ns:List Int):Prop where
 at_:∀H,SqT K H a (ns.map V.int)
instance{K:Frag}{fl:Wd}{a:Addr}{ns:List Int}[i:KTup K a ns]:zQ K fl (tC (.ref a)) (dC (.tup (ns.map D.int))):=⟨fun{W ρ μ σ H Q Q'} r e h k=>k W _ μ _ H (.refl W) r (.tup (i.at_ _) (.of_ints ns)) h⟩
theorem ziv:∀xs:List Int,zdq (xs.map D.int)=some (xs.map V.int)
 | []=>rfl
 | x::r=>by rw[List.map_cons,zdq,ziv r];rfl
theorem zni(x:Int):∀xs:List Int,inV (.int x) (xs.map V.int)=decide (x∈xs)
 | []=>by simp[inV]
 | y::r=>by
  have ih:=zni x r;unfold inV at ih ⊢;rw[List.map_cons,List.any_cons,ih];show((y==x)||decide (x∈r))=decide (x∈y::r);by_cases h:y=x
  .subst h;simp
  .have h':¬ x=y:=fun e=>h e.symm
   simp[h,h']
theorem zmk{x:Int}{xs:List Int}{μ:Mu}{Q:DK}{neg:Bool}:zbW neg (.int x) (.tup (xs.map D.int)) μ Q=Q (.bl (neg ^^ decide (x∈xs))) μ:=by
 have h2:zjf (.int x)=some (.int x):=rfl;unfold zbW;simp only[zrr,h2,ziv,zni];cases neg<;>simp
def zzg:R2:=fun x y H Q=>∃i j,x= .str i/\y= .str j/\Q (.bl (!(Builtin.Str.occurrences j i 0 j.length 1).isEmpty)) H
theorem zvk{X:Cx}:OpR X (compareOp .In) zzg:=zqq
def zm6(signs x:Str):Bool:= !(Builtin.Str.occurrences signs x 0 signs.length 1).isEmpty
def zuM:DR2:=fun d e μ Q=>match d,e with
 | .str i, .str j=>Q (.bl (zm6 j i)) μ
 | _,_=>False
instance{K:Frag}{fl:Wd}:zbd K fl zzg zuM:=⟨fun{W μ H d e x y Q Q'} r q1 q2 h k=>by
 unfold zuM at h;split at h
 .rw[q1.s',q2.s'];exact⟨_,_,rfl,rfl,k _ _ _ _ _ (.refl _) r .b h⟩
 .exact h.elim⟩
theorem zzG{i j:Str}{μ:Mu}{Q:DK}:zuM (.str i) (.str j) μ Q=Q (.bl (zm6 j i)) μ:=rfl
def zwr(P:Program)(w:World)(K:Frag):List V->Hp->VK->Prop:=fun xs H Q=>∃p ys,xs=[.ref p]/\SqT K H p (ys.map V.str)/\ys.length<=100/\∀a,H a=none->Q (.ref a) (upd H a (zrg P w a ys))
def zpP(P:Program)(w:World):List V->Hp->VK->Prop:=fun xs H Q=>∃a ys,xs=[.ref a]/\H a=some (zrg P w a ys)/\Q (.int (zk3 ys:Nat)) H
theorem zlg{X:Cx}{P:Program}{w:World}(K:Frag)(h:X.K=K:=by rfl)(hP:X.prog=P:=by rfl)(hw:X.w=w:=by rfl)(hc:X.calm=true:=by rfl):zN X (.type "set") (zwr P w K):=by subst hP hw;exact zri K hc h
theorem zgH{X:Cx}{P:Program}{w:World}(hP:X.prog=P:=by rfl)(hw:X.w=w:=by rfl):zN X (.builtin "len") (zpP P w):=by subst hP hw;exact zqf
def ziY(w:DE):DE:=fun ρ μ Q=>w ρ μ fun d μ1=>match d with
 | .tup ds=>∃ys,ds=ys.map D.str/\ys.length<=100/\Q (.int (zk3 ys:Nat)) μ1
 | _=>False
instance{P:Program}{w:World}{K:Frag}{fl:Wd}{te:TE}{we:DE}[a:zQ K fl te we]:zQ K fl (tCB (zpP P w) (zej (tCB (zwr P w K) (zej te zhr)) zhr)) (ziY we):=⟨fun{W ρ μ σ H Q Q'} r e h k=>a.run r e h fun W1 d μ1 x H1 le1 r1 q1 h1=>by
 cases d<;>first | exact h1.elim | skip
 obtain⟨ys,rfl,hl,h1⟩:=h1;obtain⟨p,xs,rfl,s1,z1⟩:=q1.tup';rw[z1.strs] at s1;refine⟨p,ys,rfl,s1.sm r1.sub,hl,fun b hb=>⟨b,ys,rfl,zz,?_⟩⟩;exact k W1 _ μ1 _ _ le1 (r1.same (ze1 hb)) .i h1⟩
def zAc(c:Str):DRs:=fun ds μ Q=>match ds with
 | [.str _, .cls c']=>c'=c/\Q (.bl false) μ
 | [.int _, .cls c']=>c'=c/\Q (.bl false) μ
 | [d, .cls c']=>c'=c/\zo0 μ d fun c2 _ _=>c2=c/\Q (.bl true) μ
 | _=>False
section
variable{μ:Mu}{Q:DK}{c:Str}
end
def SI:Nat->D->Prop
 | _, .int _=>True
 | _, .str x=>PyData.strOk x=true
 | n+1, .tup ds=>∀d∈ds,SI n d
 | n+1, .lst ds=>∀d∈ds,SI n d
 | _,_=>False
theorem SI.pl:∀{n:Nat} {d:D},SI n d->Pl n d:=by
 intro n;induction n with
 | zero=>intro d h;cases d<;>first | exact h.elim | exact h
 | succ n ih=>intro d h;cases d<;>first | exact h.elim | exact h | exact fun x hx=>ih (h x hx)
theorem SI.eqvs{n:Nat}(ih:∀d e p q,SI n d->SI n e->toPy d=some p->toPy e=some q->(PyData.eqv p q=true↔d=e)):∀(ds es:List D) (ps qs:List PyData),(∀d∈ds,SI n d)->(∀d∈es,SI n d)->zbD ds=some ps->zbD es=some qs->(PyData.eqvAll ps qs=true↔ds=es)
 | [],[],ps,qs,_,_,h1,h2=>by
  unfold zbD at h1 h2;cases h1;cases h2;simp[PyData.eqvAll]
 | [],e::es,ps,qs,_,_,h1,h2=>by
  unfold zbD at h1 h2;split at h2
  .cases h1;cases h2;simp[PyData.eqvAll]
  .cases h2
 | d::ds,[],ps,qs,_,_,h1,h2=>by
  unfold zbD at h1 h2;split at h1
  .cases h1;cases h2;simp[PyData.eqvAll]
  .cases h1
 | d::ds,e::es,ps,qs,s1,s2,h1,h2=>by
  unfold zbD at h1 h2;split at h1
  .rename_i p ps' e1 e2;split at h2
   .rename_i q qs' e3 e4;cases h1;cases h2;have a:=ih d e p q (s1 d List.mem_cons_self) (s2 e List.mem_cons_self) e1 e3;have b:=SI.eqvs ih ds es ps' qs' (fun x hx=>s1 x (List.mem_cons_of_mem _ hx)) (fun x hx=>s2 x (List.mem_cons_of_mem _ hx)) e2 e4;unfold PyData.eqvAll;rw[Bool.and_eq_true,a,b,List.cons.injEq]
   .cases h2
  .cases h1
theorem SI.eqv:∀(n:Nat) (d e:D) (p q:PyData),SI n d->SI n e->toPy d=some p->toPy e=some q->(PyData.eqv p q=true↔d=e):=by
 intro n;induction n with
 | zero =>
  intro d e p q h1 h2 t1 t2;cases d<;>first | exact h1.elim | skip
  all_goals cases e<;>first | exact h2.elim | skip
  all_goals (unfold toPy at t1 t2;cases t1;cases t2;simp[PyData.eqv])
 | succ n ih =>
  intro d e p q h1 h2 t1 t2;cases d<;>first | exact h1.elim | skip
  all_goals cases e<;>first | exact h2.elim | skip
  all_goals unfold toPy at t1 t2
  all_goals first
   | (cases t1;cases t2;simp[PyData.eqv];done)
   | (cases t1
      obtain⟨qs,e2,rfl⟩:=Option.map_eq_some_iff.mp t2;simp[PyData.eqv];done)
   | (cases t2
      obtain⟨ps,e1,rfl⟩:=Option.map_eq_some_iff.mp t1;simp[PyData.eqv];done)
   | (obtain ⟨ps, e1, rfl⟩ := Option.map_eq_some_iff.mp t1
      obtain⟨qs,e2,rfl⟩:=Option.map_eq_some_iff.mp t2;first
       | (simp[PyData.eqv];done)
       | (unfold PyData.eqv
          rw[SI.eqvs ih _ _ ps qs h1 h2 e1 e2];simp))
theorem zvp{neg:Bool}{d e:D}{μ:Mu}{Q:DK}{n:Nat}(h1:SI n d)(h2:SI n e)(hn:n<=60)(q:∀b:Bool,(b=true↔d=e)->Q (.bl (neg ^^ b)) μ):zmC neg d e μ Q:=by
 obtain⟨p,t1,c1,b1⟩:=Pl.py n d h1.pl;obtain⟨p',t2,c2,b2⟩:=Pl.py n e h2.pl;unfold zmC;split
 .exact q _ (by simp)
 .exact q _ (by simp)
 .exact q _ (by simp)
 .rw[zoc t1,zoc t2];exact⟨⟨c1,by omega⟩,⟨c2,by omega⟩,q _ (SI.eqv n d e p p' h1 h2 t1 t2)⟩
theorem zxJ{d e:D}{μ:Mu}{Q:DK}{n:Nat}(h1:SI n d)(h2:SI n e)(hn:n<=60)(q:∀b:Bool,(b=true↔d=e)->Q (.bl (!b)) μ):dNe d e μ Q:=zvp h1 h2 hn fun b hb=>by rw[Bool.true_xor];exact q b hb
theorem znt{d:D}{μ:Mu}{Q:DK}{n:Nat}(h1:SI n d)(hn:n<=60)(q:Q (.bl false) μ):dNe d d μ Q:=zxJ h1 h1 hn fun b hb=>by rw[hb.mpr rfl];exact q
def zx1(c:Str)(dsp:DSp)(n j:Nat)(pat:List Src)(cs ds es:List D)(μ:Mu)(Q:DK):Prop:=∀k,μ k=none->dsp (sel n j pat .non cs (.cell k::ds) es) (zF μ k (.ins c [] [])) fun d μ3=>d= .non/\zn0 μ3 (.cell k) Q
theorem zvj{c:Str}{dsp:DSp}{n j:Nat}{pat:List Src}{cs:List D}{w wk:DA}{ρ:zad}{μ:Mu}{Q:DK}:zhs c dsp n j pat cs w wk ρ μ Q=w ρ μ fun ds μ1=>wk ρ μ1 fun es μ2=>zx1 c dsp n j pat cs ds es μ2 Q:=rfl
theorem zu9{a b c d e f:D}{μ:Mu}{Q:DK}:zbJ (.tup [a,b,c,d,e,f]) none (some 2) μ Q=Q (.tup [a,b]) μ:=by
 rw[zer];simp only[show cutD [a,b,c,d,e,f] none (some 2)=[a,b] from zfg _ 2,eq_iff_iff,and_iff_right_iff_imp];intro _ ⟨_,h⟩;have h3:HT.sIx 6 6 (some 2)=2:=HT.zaS 6 6 2;have h2:HT.sIx 6 6 (some 2)=6:=h;rw[h3] at h2;omega
theorem zvd{a b c d e f:D}{μ:Mu}{Q:DK}:zbJ (.tup [a,b,c,d,e,f]) none (some 3) μ Q=Q (.tup [a,b,c]) μ:=by
 rw[zer];simp only[show cutD [a,b,c,d,e,f] none (some 3)=[a,b,c] from zfg _ 3,eq_iff_iff,and_iff_right_iff_imp];intro _ ⟨_,h⟩;have h3:HT.sIx 6 6 (some 3)=3:=HT.zaS 6 6 3;have h2:HT.sIx 6 6 (some 3)=6:=h;rw[h3] at h2;omega
theorem zuI{a b c d e f:D}{μ:Mu}{Q:DK}:zbJ (.tup [a,b,c,d,e,f]) none (some 4) μ Q=Q (.tup [a,b,c,d]) μ:=by
 rw[zer];simp only[show cutD [a,b,c,d,e,f] none (some 4)=[a,b,c,d] from zfg _ 4,eq_iff_iff,and_iff_right_iff_imp];intro _ ⟨_,h⟩;have h3:HT.sIx 6 6 (some 4)=4:=HT.zaS 6 6 4;have h2:HT.sIx 6 6 (some 4)=6:=h;rw[h3] at h2;omega
theorem zuP{a b c d e f:D}{μ:Mu}{Q:DK}:zbJ (.tup [a,b,c,d,e,f]) none (some 5) μ Q=Q (.tup [a,b,c,d,e]) μ:=by
 rw[zer];simp only[show cutD [a,b,c,d,e,f] none (some 5)=[a,b,c,d,e] from zfg _ 5,eq_iff_iff,and_iff_right_iff_imp];intro _ ⟨_,h⟩;have h3:HT.sIx 6 6 (some 5)=5:=HT.zaS 6 6 5;have h2:HT.sIx 6 6 (some 5)=6:=h;rw[h3] at h2;omega
theorem zqR{a b c d e f:D}{μ:Mu}{Q:DK}:zbJ (.tup [a,b,c,d,e,f]) (some 1) none μ Q=Q (.tup [b,c,d,e,f]) μ:=by
 rw[zer];simp only[show cutD [a,b,c,d,e,f] (some 1) none=[b,c,d,e,f] from zgU _ 1,eq_iff_iff,and_iff_right_iff_imp];intro _ ⟨h,_⟩;have h3:HT.sIx 6 0 (some 1)=1:=HT.zaS 6 0 1;have h2:HT.sIx 6 0 (some 1)=0:=h;rw[h3] at h2;omega
theorem zrk{a b c d e f:D}{μ:Mu}{Q:DK}:zbJ (.tup [a,b,c,d,e,f]) (some 2) none μ Q=Q (.tup [c,d,e,f]) μ:=by
 rw[zer];simp only[show cutD [a,b,c,d,e,f] (some 2) none=[c,d,e,f] from zgU _ 2,eq_iff_iff,and_iff_right_iff_imp];intro _ ⟨h,_⟩;have h3:HT.sIx 6 0 (some 2)=2:=HT.zaS 6 0 2;have h2:HT.sIx 6 0 (some 2)=0:=h;rw[h3] at h2;omega
theorem zqn{a b c d e f:D}{μ:Mu}{Q:DK}:zbJ (.tup [a,b,c,d,e,f]) (some 4) none μ Q=Q (.tup [e,f]) μ:=by
 rw[zer];simp only[show cutD [a,b,c,d,e,f] (some 4) none=[e,f] from zgU _ 4,eq_iff_iff,and_iff_right_iff_imp];intro _ ⟨h,_⟩;have h3:HT.sIx 6 0 (some 4)=4:=HT.zaS 6 0 4;have h2:HT.sIx 6 0 (some 4)=0:=h;rw[h3] at h2;omega
theorem zrv{a b c d e f:D}{μ:Mu}{Q:DK}:zbJ (.tup [a,b,c,d,e,f]) (some 5) none μ Q=Q (.tup [f]) μ:=by
 rw[zer];simp only[show cutD [a,b,c,d,e,f] (some 5) none=[f] from zgU _ 5,eq_iff_iff,and_iff_right_iff_imp];intro _ ⟨h,_⟩;have h3:HT.sIx 6 0 (some 5)=5:=HT.zaS 6 0 5;have h2:HT.sIx 6 0 (some 5)=0:=h;rw[h3] at h2;omega
theorem zwl{α:Type}{a b c d e f:α}{r:List α}:atI (a::b::c::d::e::f::r) 5=some f:=zbb (j:=5) rfl
def Ev(w:DE)(ρ:zad)(μ:Mu)(d:D):Prop:=∀Q:DK,Q d μ->w ρ μ Q
def Evs(w:DA)(ρ:zad)(μ:Mu)(ds:List D):Prop:=∀Q:List D->Mu->Prop,Q ds μ->w ρ μ Q
def EvT(w:DT)(ρ:zad)(μ:Mu)(b:Bool):Prop:=∀Q:Bool->Mu->Prop,Q b μ->w ρ μ Q
def EvO(q:DR2)(d e:D)(μ:Mu)(v:D):Prop:=∀Q:DK,Q v μ->q d e μ Q
def EvB(q:DRs)(ds:List D)(μ:Mu)(v:D):Prop:=∀Q:DK,Q v μ->q ds μ Q
section
variable{w wa wb:DE}{wr:DA}{ρ:zad}{μ:Mu}{d e v:D}{ds es:List D}{i:Nat}{q:DR2}{D':zcw}
theorem zue(h:ρ[i]? = some (some d)):Ev (zb i) ρ μ d:=fun Q z=>by unfold zb;rw[h];exact z
theorem zzV:Ev (dC d) ρ μ d:=fun Q z=>z
theorem zzs(h1:Ev wa ρ μ d)(h2:Ev wb ρ μ e)(h3:EvO q d e μ v):Ev (dOp q wa wb) ρ μ v:=fun Q z=>h1 _ (h2 _ (h3 _ z))
theorem zv1:Evs zm ρ μ []:=fun Q z=>z
theorem zsQ(h1:Ev wa ρ μ d)(h2:Evs wr ρ μ ds):Evs (za wa wr) ρ μ (d::ds):=fun Q z=>h1 _ (h2 _ z)
theorem zw0(h:Evs wr ρ μ ds)(hl:ds.length<=1000):Ev (dTup wr) ρ μ (.tup ds):=fun Q z=>h _ ⟨Nat.le_trans hl (by decide),z⟩
theorem zxw(h:Evs wr ρ μ ds)(hl:ds.length<=1000):Ev (zlY wr) ρ μ (.lst ds):=fun Q z=>h _ ⟨Nat.le_trans hl (by decide),z⟩
theorem zy1{q:DRs}(h:Evs wr ρ μ ds)(h3:EvB q ds μ v):Ev (dCB q wr) ρ μ v:=fun Q z=>h _ (h3 _ z)
theorem zht{j:Int}(h:atI ds j=some v):EvO dIx (.tup ds) (.int j) μ v:=fun Q z=>by rw[zhU,h];exact z
theorem zt9{j:Int}(h:atI ds j=some v):EvO dIx (.lst ds) (.int j) μ v:=fun Q z=>by rw[zwp,h];exact z
theorem zu1(h1:ds≠[])(hl:ds.length+es.length<=1000):EvO zbi (.tup ds) (.tup es) μ (.tup (ds++es)):=fun Q z=>by
 rw[zsN];exact⟨h1,Nat.le_trans hl (by decide),z⟩
theorem zyF{a b:Int}:EvO zbi (.int a) (.int b) μ (.int (a+b)):=fun Q z=>by rw[zwD];exact z
theorem zw7{a b:Int}:EvO dEq (.int a) (.int b) μ (.bl (decide (a=b))):=fun Q z=>by rw[zpy];exact z
theorem zrC:EvB zcr [.lst ds] μ (.tup ds):=fun Q z=>by rw[znJ];exact z
theorem zts{b:Bool}(h:Ev w ρ μ (.bl b)):EvT (zM w) ρ μ b:=fun Q z=>h _ z
theorem zww{t:DT}{s u:DS}{b:Bool}(h:EvT t ρ μ b)(k:if b=true then s D' ρ μ else u D' ρ μ):zaX t s u D' ρ μ:=h _ k
theorem zgr{n:Nat}{m:Int}(h:Ev w ρ μ (.tup ds))(hm:m=n)(hl:n < ds.length):Ev (dSl zbJ w zaG (zbe (dC (.int m)))) ρ μ (.tup (ds.take n)):=fun Q z=>h _ (by
 subst hm;show zbJ (.tup ds) none (some (n:Int)) μ Q;rw[zer,zfg];refine⟨fun⟨_,h2⟩=>?_,z⟩;rw[HT.zaS] at h2;omega)
theorem zdH{n:Nat}{m:Int}(h:Ev w ρ μ (.tup ds))(hm:m=n)(h0:0 < n)(hl:n < ds.length):Ev (dSl zbJ w (zbe (dC (.int m))) zaG) ρ μ (.tup (ds.drop n)):=fun Q z=>h _ (by
 subst hm;show zbJ (.tup ds) (some (n:Int)) none μ Q;rw[zer,zgU];refine⟨fun⟨h2,_⟩=>?_,z⟩;rw[HT.zaS] at h2;omega)
theorem zqV{c:Str}{dsp:DSp}{n j:Nat}{pat:List Src}{cs:List D}{w wk:DA}(h1:Evs w ρ μ ds)(h2:Evs wk ρ μ es)(h:zx1 c dsp n j pat cs ds es μ D'.rt):zbk (zhs c dsp n j pat cs w wk) D' ρ μ:=h1 _ (h2 _ h)
theorem zwK(h:Ev w ρ μ (.tup ds))(hl:1 < ds.length):Ev (dSl zbJ w zaG (zbe (dC (.int 1)))) ρ μ (.tup (ds.take 1)):=zgr h rfl hl
theorem zx5(h:Ev w ρ μ (.tup ds))(hl:2 < ds.length):Ev (dSl zbJ w zaG (zbe (dC (.int 2)))) ρ μ (.tup (ds.take 2)):=zgr h rfl hl
theorem zyc(h:Ev w ρ μ (.tup ds))(hl:3 < ds.length):Ev (dSl zbJ w zaG (zbe (dC (.int 3)))) ρ μ (.tup (ds.take 3)):=zgr h rfl hl
theorem zwH(h:Ev w ρ μ (.tup ds))(hl:4 < ds.length):Ev (dSl zbJ w zaG (zbe (dC (.int 4)))) ρ μ (.tup (ds.take 4)):=zgr h rfl hl
theorem zwF(h:Ev w ρ μ (.tup ds))(hl:5 < ds.length):Ev (dSl zbJ w zaG (zbe (dC (.int 5)))) ρ μ (.tup (ds.take 5)):=zgr h rfl hl
theorem zs5(h:Ev w ρ μ (.tup ds))(hl:1 < ds.length):Ev (dSl zbJ w (zbe (dC (.int 1))) zaG) ρ μ (.tup (ds.drop 1)):=zdH h rfl (by decide) hl
theorem zr3(h:Ev w ρ μ (.tup ds))(hl:2 < ds.length):Ev (dSl zbJ w (zbe (dC (.int 2))) zaG) ρ μ (.tup (ds.drop 2)):=zdH h rfl (by decide) hl
theorem zr5(h:Ev w ρ μ (.tup ds))(hl:3 < ds.length):Ev (dSl zbJ w (zbe (dC (.int 3))) zaG) ρ μ (.tup (ds.drop 3)):=zdH h rfl (by decide) hl
theorem ztp(h:Ev w ρ μ (.tup ds))(hl:4 < ds.length):Ev (dSl zbJ w (zbe (dC (.int 4))) zaG) ρ μ (.tup (ds.drop 4)):=zdH h rfl (by decide) hl
theorem zt2(h:Ev w ρ μ (.tup ds))(hl:5 < ds.length):Ev (dSl zbJ w (zbe (dC (.int 5))) zaG) ρ μ (.tup (ds.drop 5)):=zdH h rfl (by decide) hl
end
def zo3:Value->Option Str
 | .str x _=>some x
 | _=>none
theorem zos{u:Value}{x:Str}(h:zo3 u=some x):RelV (.str x) u:=by
 cases u<;>simp[zo3] at h
 subst h;exact⟨_,rfl⟩
instance decKey(k:Key)(ks:List Key):Decidable (k∈ks):=@List.instDecidableMemOfLawfulBEq Key instBEqOfDecidableEq inferInstance k ks
def zl8:D->Option Key
 | .int i=>some (.inl i)
 | .str x=>some (.inr x)
 | _=>none
def zcx:List Key->List D->Key->Option D
 | k::ks,v::vs,q=>if k=q then some v else zcx ks vs q
 | _,_,_=>none
def zeB(ks:List Key)(k:Key):List Key:=if k∈ks then ks else ks++[k]
def zfI(ks:List Key)(vs:List D)(k:Key)(v:D):List D:=if k∈ks then List.zipWith (fun k' v'=>if k'=k then v else v') ks vs else vs++[v]
def zq7(c:Option Ct)(R:List Key->List D->Prop):Prop:=match c with
 | some (.dct ks vs)=>R ks vs
 | _=>False
def zqK(μ:Mu)(d:D)(R:List Key->List D->Prop):Prop:=match d with
 | .cell k=>zq7 (μ k) R
 | .dct ks vs=>R ks vs
 | _=>False
def zp4(c:Option Ct)(R:List Key->List D->Prop):Prop:=match c with
 | some (.dct ks vs)=>R ks vs
 | some (.fdct _ ks vs)=>R ks vs
 | _=>False
def zoX(μ:Mu)(d:D)(R:List Key->List D->Prop):Prop:=match d with
 | .cell k=>zp4 (μ k) R
 | .dct ks vs=>R ks vs
 | _=>False
theorem zdR{ks:List Key}{vs:List D}{R:List Key->List D->Prop}:zp4 (some (.dct ks vs)) R=R ks vs:=rfl
theorem zfV{μ:Mu}{k:Nat}{R:List Key->List D->Prop}:zoX μ (.cell k) R=zp4 (μ k) R:=rfl
theorem zeY.kr{H:Hp}{a:Addr}{kvs:List (Key×V)}{k:Key}(e:Rd H a (.dK kvs)):zeY H a (kV k) (zcG kvs k):= .inl ⟨kvs,k,e,rfl,rfl⟩
theorem zi0{ks:List Key}{vs:List D}{R:List Key->List D->Prop}:zq7 (some (.dct ks vs)) R=R ks vs:=rfl
theorem zrR{μ:Mu}{k:Nat}{R:List Key->List D->Prop}:zqK μ (.cell k) R=zq7 (μ k) R:=rfl
theorem zdn{x:Str}:zl8 (.str x)=some (.inr x):=rfl
def zkj:DE:=fun _ μ Q=>∀k,μ k=none->Q (.cell k) (zF μ k (.dct [] []))
def zi6(wo wi:DE):DE:=fun ρ μ Q=>wo ρ μ fun d μ1=>wi ρ μ1 fun e μ2=>zoX μ2 d fun ks vs=>zaO (zl8 e) fun k=>zaO (zcx ks vs k) fun v=>Q v μ2
def zkA(wo wi wv:DE):DS:=fun D' ρ μ=>wv ρ μ fun v μ1=>wo ρ μ1 fun d μ2=>wi ρ μ2 fun e μ3=>zaO (match d with | .cell c=>some c | _=>none) fun c=>zq7 (μ3 c) fun ks vs=>zaO (zl8 e) fun k=>ks.length<=1000/\D'.nx ρ (zF μ3 c (.dct (zeB ks k) (zfI ks vs k v)))
def zlf:DRs:=fun ds μ Q=>match ds with
 | [d]=>zqK μ d fun ks _=>Q (.int ks.length) μ
 | _=>False
section
variable{K:Frag}{fl:Wd}{W:Wd}
theorem zj9{k:Key}:∀{ks:List Key} {vs:List D} {xs:List V},ks.length=xs.length->zu K W vs xs->(∀v,zcx ks vs k=some v->∃y,zcG (ks.zip xs) k=some y/\Rep K W v y)/\(zcx ks vs k=none->zcG (ks.zip xs) k=none)
 | [],vs,xs,_,_=>⟨fun v h=>by cases vs<;>simp[zcx] at h,fun _=>rfl⟩
 | q::ks,[],xs,h,r=>by rw[r.nil'] at h;simp at h
 | q::ks,d::vs,xs,h,r=>by
  obtain⟨x,t,rfl,q1,q2⟩:=r.uncons;have ih:=zj9 (k:=k) (ks:=ks) (vs:=vs) (xs:=t) (by simpa using h) q2;by_cases e:q=k
  .have hv:zcG ((q::ks).zip (x::t)) k=some x:=by rw[List.zip_cons_cons];exact zeJ (p:=(q,x)) e
   rw[hv];exact⟨fun v hl=>by rw[zcx,if_pos e] at hl;cases hl;exact⟨x,rfl,q1⟩,fun hl=>by rw[zcx,if_pos e] at hl;cases hl⟩
  .have hv:zcG ((q::ks).zip (x::t)) k=zcG (ks.zip t) k:=by rw[List.zip_cons_cons];exact zew (p:=(q,x)) e
   rw[hv,zcx,if_neg e];exact ih
theorem zlj{k:Key}:∀{ks:List Key} {vs:List D},ks.length=vs.length->(zcx ks vs k).isSome=decide (k∈ks)
 | [],vs,_=>by simp[zcx]
 | q::ks,[],h=>by simp at h
 | q::ks,d::vs,h=>by
  have ih:=zlj (k:=k) (ks:=ks) (vs:=vs) (by simpa using h);by_cases e:q=k
  .simp[zcx,e]
  .have e':¬ k=q:=fun z=>e z.symm
   simp[zcx,e,e',ih]
theorem zrN{k:Key}{ks:List Key}{vs:List D}{xs:List V}(h:ks.length=xs.length)(r:zu K W vs xs):(zcG (ks.zip xs) k).isSome=decide (k∈ks):=by
 have hl:ks.length=vs.length:=by rw[h,r.length]
 rw[<- zlj hl];obtain⟨a,b⟩:=zj9 (k:=k) h r;cases e:zcx ks vs k with
 | none=>rw[b e];rfl
 | some v=>obtain⟨y,ey,_⟩:=a v e;rw[ey];rfl
theorem zpR{k:Key}:∀{ks:List Key} {xs:List V},ks.length=xs.length->((ks.zip xs).any fun kv=>decide (kv.1=k))=decide (k∈ks)
 | [],_,_=>by simp
 | q::ks,[],h=>by simp at h
 | q::ks,x::xs,h=>by
  have ih:=zpR (k:=k) (ks:=ks) (xs:=xs) (by simpa using h);rw[List.zip_cons_cons,List.any_cons,ih];by_cases e:q=k
  .simp[e]
  .have e':¬ k=q:=fun z=>e z.symm
   simp[e,e']
theorem zu0{k:Key}{y:V}{v:D}{ks:List Key}{vs:List D}{xs:List V}(h:ks.length=xs.length)(r:zu K W vs xs)(q:Rep K W v y):∃xs',putK (ks.zip xs) k y=(zeB ks k).zip xs'/\(zeB ks k).length=xs'.length/\zu K W (zfI ks vs k v) xs':=by
 unfold putK zeB zfI;rw[zpR h];by_cases m:k∈ks
 .rw[if_pos (decide_eq_true m),if_pos m,if_pos m];clear m;induction ks generalizing vs xs with
  | nil=>exact⟨[],rfl,rfl,by simp[zu.nil]⟩
  | cons a ks ih =>
   cases xs with
   | nil=>simp at h
   | cons x xs =>
    cases vs with
    | nil=>rw[r.nil'] at h;simp at h
    | cons d vs =>
     obtain⟨x',t,e,q1,q2⟩:=r.uncons;cases e;obtain⟨xs',e1,e2,e3⟩:=ih (by simpa using h) q2;refine⟨(if a=k then y else x)::xs',?_,by simp[e2],?_⟩
     .rw[List.zip_cons_cons,List.map_cons,e1];by_cases e:a=k
      .simp[e]
      .simp[e]
     .rw[List.zipWith_cons_cons];refine .cons ?_ e3;by_cases e:a=k
      .simp only[if_pos e];exact q
      .simp only[if_neg e];exact q1
 .rw[if_neg (by simpa using m),if_neg m,if_neg m];refine⟨xs++[y],?_,by simp[h],r.append (.cons q .nil)⟩;rw[List.zip_append h];rfl
theorem zp0{μ:Mu}{H:Hp}{d:D}{x:V}{R:List Key->List D->Prop}(r:Rel K fl W μ H)(q:Rep K W d x)(h:zqK μ d R):∃a ks vs xs,x= .ref a/\H a=some (.dK (ks.zip xs))/\ks.length=xs.length/\zu K W vs xs/\R ks vs:=by
 unfold zqK at h;split at h
 .rename_i k;obtain⟨a,rfl,hb⟩:=q.cell';unfold zq7 at h;split at h
  .rename_i ks vs hk;obtain⟨a',e1,e2,xs,e3,l,z⟩:=r.cel k _ hk;rw[hb] at e1;cases e1;exact⟨a,ks,vs,xs,rfl,e3,l,z,h⟩
  .exact h.elim
 .unfold Rep at q;obtain⟨a,xs,rfl,e,l,z⟩:=q;exact⟨a,_,_,xs,rfl,r.sub _ _ e,l,z,h⟩
 .exact h.elim
theorem zke{μ:Mu}{H:Hp}{d:D}{x:V}{R:List Key->List D->Prop}(r:Rel K fl W μ H)(q:Rep K W d x)(h:zoX μ d R):∃a ks vs xs,x= .ref a/\Rd H a (.dK (ks.zip xs))/\ks.length=xs.length/\zu K W vs xs/\R ks vs:=by
 unfold zoX at h;split at h
 .rename_i k;obtain⟨a,rfl,hb⟩:=q.cell';unfold zp4 at h;split at h
  .rename_i ks vs hk;obtain⟨a',e1,e2,xs,e3,l,z⟩:=r.cel k _ hk;rw[hb] at e1;cases e1;exact⟨a,ks,vs,xs,rfl, .inl e3,l,z,h⟩
  .rename_i ob ks vs hk;obtain⟨a',e1,e2,xs,e3,l,z⟩:=r.cel k _ hk;rw[hb] at e1;cases e1;exact⟨a,ks,vs,xs,rfl, .inr ⟨ob,e3⟩,l,z,h⟩
  .exact h.elim
 .unfold Rep at q;obtain⟨a,xs,rfl,e,l,z⟩:=q;exact⟨a,_,_,xs,rfl, .inl (r.sub _ _ e),l,z,h⟩
 .exact h.elim
theorem zgP{e:D}{y:V}{k:Key}(q:Rep K W e y)(h:zl8 e=some k):y=kV k:=by
 unfold zl8 at h;split at h<;>cases h
 .rw[q.i'];rfl
 .rw[q.s'];rfl
theorem zaY{α:Type}{o:Option α}{R:α->Prop}(h:zaO o R):∃a,o=some a/\R a:=by
 cases o with
 | none=>exact h.elim
 | some a=>exact⟨a,rfl,h⟩
instance:zQ K fl (znO zmt) zkj:=⟨fun{W ρ μ σ H Q Q'} r e h k p hp=>by
 obtain⟨c,W',hc,le,r',eb⟩:=r.newC (o:= .dK []) (c:= .dct [] []) hp ⟨[],rfl,rfl, .nil⟩;exact k W' (.cell c) _ _ _ le r' (by unfold Rep;exact⟨p,rfl,eb⟩) (h c hc)⟩
instance:zQ K fl zmt zkj:=⟨fun{W ρ μ σ H Q Q'} r e h k p hp=>by
 obtain⟨c,W',hc,le,r',eb⟩:=r.newC (o:= .dK []) (c:= .dct [] []) hp ⟨[],rfl,rfl, .nil⟩;exact k W' (.cell c) _ _ _ le r' (by unfold Rep;exact⟨p,rfl,eb⟩) (h c hc)⟩
instance{ta tb:TE}{wa wb:DE}[a:zQ K fl ta wa][b:zQ K fl tb wb]:zQ K fl (zpD ta tb) (zi6 wa wb):=⟨fun{W ρ μ σ H Q Q'} r e h k=>a.run r e h fun W1 d μ1 x H1 le1 r1 q1 h1=>b.run r1 (e.mono le1) h1 fun W2 d2 μ2 y H2 le2 r2 q2 h2=>by
 obtain⟨p,ks,vs,xs,rfl,ea,l,z,h3⟩:=zke r2 (q1.mono le2) h2;obtain⟨kk,ek,h3⟩:=zaY h3;obtain⟨v,ev,h3⟩:=zaY h3;obtain⟨y',ey,qy⟩:=(zj9 (k:=kk) l z).1 v ev;rw[zgP q2 ek];exact⟨p,y',rfl,ey▸zeY.kr ea,k W2 v μ2 y' H2 (le1.trans le2) r2 qy h3⟩⟩
instance{ta tb tv:TE}{wa wb wv:DE}[a:zQ K fl ta wa][b:zQ K fl tb wb][c:zQ K fl tv wv]:zem K fl (zsH ta tb tv) (zkA wa wb wv):=⟨fun{W ρ μ σ H D' D} r e h k=>c.run r e h fun W1 v μ1 x H1 le1 r1 q1 h1=>a.run r1 (e.mono le1) h1 fun W2 d2 μ2 y H2 le2 r2 q2 h2=>b.run r2 (e.mono (le1.trans le2)) h2 fun W3 d3 μ3 z3 H3 le3 r3 q3 h3=>by
 have hz:(1001:Nat)<=sizeLine:=by decide
 obtain⟨cc,ec,h4⟩:=zaY h3;have ed:d2= .cell cc:=by
  cases d2<;>simp at ec
  subst ec;rfl
 subst ed;obtain⟨p,rfl,hb⟩:=(q2.mono le3).cell';unfold zq7 at h4;split at h4
 .rename_i ks vs hk;obtain⟨a',e1,e2,xs,e3,l,z⟩:=r3.cel cc _ hk;rw[hb] at e1;cases e1;obtain⟨kk,ek,hl,h5⟩:=zaY h4;rw[zgP q3 ek];obtain⟨xs',p1,p2,p3⟩:=zu0 (k:=kk) l z (q1.mono (le2.trans le3));refine⟨p,_,rfl,zkG.k e3 (by rw[List.length_zip,<- l,Nat.min_self];omega),?_⟩;rw[p1];exact k.nx W3 ρ _ σ _ (le1.trans (le2.trans le3)) (r3.setC (c':= .dct (zeB ks kk) (zfI ks vs kk v)) hk hb ⟨xs',rfl,p2,p3⟩) (e.mono (le1.trans (le2.trans le3))) h5
 .exact h4.elim⟩
end
section
variable{X:Cx}{o i e value:Expr}{pos pos' apos cpos:Pos}{td ty tv:TE}
theorem zmg:WE X (.Dict [] [] pos) zmt:=⟨zsj⟩
theorem zdG(hu:X.A.units+1 < cLine)(ho:WE X o td)(hi:WE X i ty)(hs:zwZ i:=by exact fun _ _=>rfl):WE X (.Subscript o i pos) (zpD td ty):=⟨zvf hu ho.out hi.out hs⟩
theorem zgB(hu:X.A.units+1 < cLine)(ho:WE X o td)(hi:WE X i ty)(hv:WE X value tv)(hs:swapsWith value (some (.Subscript o i pos')) pos.line X.env=pure false:=by rfl):WS X (.Assign [.Subscript o i pos'] value pos) (zsH td ty tv):=⟨zvP hu ho.out hi.out hv.out hs⟩
def zzf:R2:=fun y x H Q=>∃a o,x= .ref a/\zeY H a y o/\Q (.bl o.isSome) H
def zlL:R2:=fun y x H Q=>∃a o,x= .ref a/\zeY H a y o/\Q (.bl (!o.isSome)) H
theorem zsW(hu:X.A.units+1 < cLine):OpR X (compareOp .In) zzf:=by
 intro pins s σ H x y v u Q I rx ry h;obtain⟨a,o,rfl,g,q⟩:=h;cases ry;exact zz3 hu I g rx fun s3 I3=>⟨.bl o.isSome,H,I3,rfl,q⟩
theorem zff(hu:X.A.units+1 < cLine):OpR X (compareOp .NotIn) zlL:=by
 intro pins s σ H x y v u Q I rx ry h;obtain⟨a,o,rfl,g,q⟩:=h;cases ry;exact zvX hu I g rx fun s3 I3=>⟨.bl (!o.isSome),H,I3,rfl,q⟩
def zwf:List V->Hp->VK->Prop:=fun xs H Q=>∃a kvs,xs=[V.ref a]/\H a=some (.dK kvs)/\Q (.int kvs.length) H
theorem zgc:zN X (.builtin "len") zwf:=zrn
end
def zir(neg:Bool):DR2:=fun e d μ Q=>zoX μ d fun ks vs=>zaO (zl8 e) fun k=>Q (.bl (neg ^^ decide (k∈ks))) μ
theorem zob{neg:Bool}{e d:D}{μ:Mu}{Q:DK}:zir neg e d μ Q=zoX μ d fun ks vs=>zaO (zl8 e) fun k=>Q (.bl (neg ^^ decide (k∈ks))) μ:=rfl
theorem zjT{wo wi:DE}{ρ:zad}{μ:Mu}{Q:DK}:zi6 wo wi ρ μ Q=wo ρ μ fun d μ1=>wi ρ μ1 fun e μ2=>zoX μ2 d fun ks vs=>zaO (zl8 e) fun k=>zaO (zcx ks vs k) fun v=>Q v μ2:=rfl
theorem zt8{d:D}{μ:Mu}{Q:DK}:zlf [d] μ Q=zqK μ d fun ks _=>Q (.int ks.length) μ:=rfl
section
variable{K:Frag}{fl:Wd}
instance:zbd K fl zzf (zir false):=⟨fun{W μ H d e x y Q Q'} r q1 q2 h k=>by
 obtain⟨p,ks,vs,xs,rfl,ea,l,z,h3⟩:=zke r q2 h;obtain⟨kk,ek,h3⟩:=zaY h3;rw[zgP q1 ek];refine⟨p,_,rfl,zeY.kr ea,?_⟩;rw[zrN l z];exact k W _ μ _ H (.refl _) r .b (by simpa using h3)⟩
instance:zbd K fl zlL (zir true):=⟨fun{W μ H d e x y Q Q'} r q1 q2 h k=>by
 obtain⟨p,ks,vs,xs,rfl,ea,l,z,h3⟩:=zke r q2 h;obtain⟨kk,ek,h3⟩:=zaY h3;rw[zgP q1 ek];refine⟨p,_,rfl,zeY.kr ea,?_⟩;rw[zrN l z];exact k W _ μ _ H (.refl _) r .b (by simpa using h3)⟩
instance:zbm K fl zwf zlf:=⟨fun{W μ H ds xs Q Q'} r z h k=>by
 unfold zlf at h;split at h
 .obtain⟨y,rfl,qy⟩:=z.one;obtain⟨p,ks,vs,xs,rfl,ea,l,z,h3⟩:=zp0 r qy h;refine⟨p,_,rfl,ea,?_⟩;rw[List.length_zip,<- l,Nat.min_self];exact k W _ μ _ H (.refl _) r .i h3
 .exact h.elim⟩
end
section
variable{prog:Program}{w:World}{A:Around}{E:Value->Shared->Prop}{s:Shared}
theorem zh6{v:Value}{ss:List Str}{Q:Value->Shared->Prop}
  (hc:∀R:List Value->Shared->Prop,(∀(h':Heap) (tk:Nat) (vs:List Value),(∀b o,s.heap.get? b=some o->h'.get? b=some o)->StrsAre vs ss->R vs { s with heap:=h',toks:=tk })->wpAny (model prog w) A.in1 (collect v) R E s)(h64:ss.length < 64)
  (h:∀(h1 h2:Heap) (tk:Nat) (out:Array Value) (ss':List Str) (e:Nat),(∀b o,s.heap.get? b=some o->h1.get? b=some o)->(∀b o,h1.get? b=some o->h2.get? b=some o)->h2.get? h1.objs.size=some (seqObj "list" out e)->StrsAre out.toList ss'->ss'.Perm ss->sortedS ss'=true->Q (.ref h1.objs.size) { s with heap:=h2,toks:=tk }) :
  wpAny (model prog w) A (call (.builtin "sorted") [v]) Q E s:=by
 refine Calls.call_function_entry kind_sorted plain_sorted entry_sorted (args_sorted1 _) ?_;unfold Builtin.«sorted»;refine wpAny_bind (m:=checkCount "sorted" 1 1 _) (wpAny_pure ?_);refine wpAny_bind (hc _ fun h' tk vs hk hS=>?_);have hl:vs.length=ss.length:=by
  clear h hc h64;induction hS with
  | nil=>rfl
  | cons _ _ _ ih=>simp[ih]
 refine wpAny_bind (wpAny_newList ?_ (by rw[hl];exact Nat.le_trans (Nat.le_of_lt h64) (by decide)));have hoL:(h'.push (seqObj "list" vs.toArray 0)).get? h'.objs.size=some (seqObj "list" vs.toArray 0):=Heap.get?_push_size _ rfl;refine wpAny_bind (wpAny_holding (wpAny_call_entry slot_list_sort ⟨_,hoL,rfl⟩ entry_list_sort (list_sort_treeK strKind_oneLt hoL hS.keysOf (fun v₁ v₂ rest e=>keyKind_strs (by rw[<- e];exact hS)) (by rw[hl];exact h64) fun st' a1 a2=>⟨_,rfl,?_⟩) (args_list_sort _)));obtain⟨ss',h1,h2,h3⟩:=sorted_out_str hS a1 a2;obtain⟨e,he⟩:=sortedHeap_at (out:=(arrOf st').map (·.2)) hoL;refine wpAny_pure ⟨_,rfl,h h' _ tk _ ss' e hk (fun b o q'=>?_) he h1 h2 h3⟩;have hlt:=Heap.lt_size q';rw[sortedHeap_old (Nat.ne_of_lt hlt) (by rw[size_push'];exact Nat.lt_succ_of_lt hlt),Heap.get?_push_ne _ _ _ (Nat.ne_of_lt hlt)];exact q'
end
section
variable{X:Cx}(K:Frag)
def ztK:List V->Hp->VK->Prop:=fun xs H Q=>∃p ns,xs=[.ref p]/\SqT K H p (ns.map V.str)/\ns.length < 64/\∀ns' l,List.Perm ns' ns->sortedS ns'=true->H l=none->Q (.ref l) (upd H l (.lst (ns'.map V.str)))
def zsi:List V->Hp->VK->Prop:=fun xs H Q=>∃p kvs ns,xs=[.ref p]/\H p=some (.dK kvs)/\kvs.map (·.1)=ns.map Sum.inr/\ns.length < 64/\∀ns' l,List.Perm ns' ns->sortedS ns'=true->H l=none->Q (.ref l) (upd H l (.lst (ns'.map V.str)))
theorem zqc{pins:List (Addr×Obj)}{σ:St}{H:Hp}{s:Shared}{h2:Heap}{tk:Nat}{ns ss':List Str}{out:Array Value}{e:Nat}{Q:VK}(I:Inv X pins σ H s)(hz:ns.length < 64)(hk:∀b o,s.heap.get? b=some o->h2.get? b=some o)(he:h2.get? s.heap.objs.size=some (seqObj "list" out e))(g1:StrsAre out.toList ss')(g2:ss'.Perm ns)(g3:sortedS ss'=true)(q:H s.heap.objs.size=none->Q (.ref s.heap.objs.size) (upd H s.heap.objs.size (.lst (ss'.map V.str)))):EP X pins σ Q (.ref s.heap.objs.size) { s with heap:=h2,toks:=tk }:=by
 have hf:H s.heap.objs.size=none:=I.hok.fresh (Nat.le_refl _);refine⟨.ref s.heap.objs.size,_,I.laid (a:=s.heap.objs.size) (o:= .lst (ss'.map V.str)) (t':=tk) hk (Nat.le_refl _) ?_,rfl,q hf⟩;refine⟨by rw[List.length_map,g2.length_eq];exact Nat.le_trans (Nat.le_of_lt hz) (by decide),out.toList,e,zf5 g1,?_⟩;rw[he]
theorem ziS{P:Program}{w:World}:∀{kvs:List (Key×V)} {vs:List (Key×Value)} {ns:List Str} {acc:Array Value},ItemsOf (fun i v=>∃k x,vs[i]? = some (k,x)/\(zaU P w).is k v=true) acc vs.length->KV kvs vs->kvs.map (·.1)=ns.map Sum.inr->StrsAre acc.toList ns:=by
 intro kvs vs ns acc hacc rel hn;have hk:vs.map (·.1)=ns.map Sum.inr:=by
  rw[<- hn];clear hn hacc;induction rel with
  | nil=>rfl
  | cons a _ ih=>simp only[List.map_cons,ih,a.1]
 have hl:vs.length=ns.length:=by
  have:=congrArg List.length hk;simpa using this
 have hat:∀(i:Nat) (v:Value),acc.toList[i]? = some v->∃y t,ns[i]? = some y/\v= .str y t:=fun i v hv=>by
  obtain⟨k,x,hx,hi⟩:=hacc.2 i v (by rw[<- Array.getElem?_toList];exact hv);have h1:(vs.map (·.1))[i]? = some k:=by rw[List.getElem?_map,hx];rfl
  rw[hk,List.getElem?_map] at h1;obtain⟨y,hy,rfl⟩:=Option.map_eq_some_iff.mp h1;have:zjr (.inr y) v=true:=hi;obtain⟨t,rfl⟩:∃t,v= .str y t:=by
   rcases zav this with⟨i,t,e,_⟩ | ⟨x',t,e,rfl⟩
   .cases e
   .cases e;exact⟨t,rfl⟩
  exact⟨y,t,hy,rfl⟩
 have hsz:acc.toList.length=ns.length:=by rw[Array.length_toList,hacc.1,hl]
 clear hacc rel hn hk hl;generalize acc.toList=l at hat hsz
 induction l generalizing ns with
 | nil=>cases ns with
  | nil=>exact .nil
  | cons y r=>simp at hsz
 | cons v l ih=>cases ns with
  | nil=>simp at hsz
  | cons y r =>
   obtain⟨y',t,e1,rfl⟩:=hat 0 v rfl;cases e1;exact .cons y t (ih (fun i v hv=>hat (i+1) v (by simpa using hv)) (by simpa using hsz))
theorem zoP(h:X.K=K:=by rfl):zN X (.builtin "sorted") (ztK K):=by
 subst h;intro pins s σ H xs us Q I r h;obtain⟨p,ns,rfl,hl,hz,q⟩:=h;obtain⟨u,rfl,rx⟩:=vals1 r;cases rx;obtain⟨its,r',⟨o,ho,hcl,n,hd⟩,hz'⟩:=I.tuple hl;refine zh6 (ss:=ns) (fun R hR=>?_) hz fun h1 h2 tk out ss' e k1 k2 he g1 g2 g3=>?_
 .refine wpAny_collect_seq p (.inr rfl) ho hcl hd (fun h' hk=>?_) (by rw[List.size_toArray,<- r'.length,List.length_map];exact Nat.le_trans (Nat.le_of_lt hz) (by decide));have:=hR h' s.toks its hk (zfW r');simpa using this
 .exact zqc (I.kept (t':=tk) k1) hz k2 he g1 g2 g3 (q ss' h1.objs.size g2 g3)
theorem zo8(hc:X.calm=true:=by rfl):zN X (.builtin "sorted") zsi:=by
 intro pins s σ H xs us Q I r h;obtain⟨p,kvs,ns,rfl,hp,hn,hz,q⟩:=h;obtain⟨u,rfl,rx⟩:=vals1 r;cases rx;obtain⟨z,hd,vs,rel,dd⟩:=zi5 I.hok (.inl hp);obtain⟨ep,dd⟩:=dd.dictAt;have hlen:vs.length=ns.length:=by
  have e1:=Paired.length rel;have e2:=congrArg List.length hn;simp only[List.length_map] at e2;omega
 refine zh6 (ss:=ns) (fun R hR=>?_) hz fun h1 h2 tk out ss' e k1 k2 he g1 g2 g3=>?_
 .refine PySem.W.kdu_collect (PySem.W.kdl_dict hd) (by first | exact I.ok.hd hc | exact(I.ok.hd hc)) dd (by rw[hlen];exact Nat.le_trans (Nat.le_of_lt hz) (by decide)) fun h' tk acc hk hacc=>?_
  refine hR h' tk acc.toList hk ?_;exact ziS hacc rel hn
 .exact zqc (I.kept (t':=tk) k1) hz k2 he g1 g2 g3 (q ss' h1.objs.size g2 g3)
def zmz:List V->Hp->VK->Prop:=fun xs H Q=>(zlV K xs H Q\/ztK K xs H Q)\/zsi xs H Q
theorem zfS(h:X.K=K:=by rfl)(hc:X.calm=true:=by rfl):zN X (.builtin "sorted") (zmz K):=((zlZ K h).or (zoP K h)).or (zo8 hc)
end
def zhq:DRs:=fun ds μ Q=>ziO ds μ Q\/match ds with
 | [.tup es]=>∃ns,es=ns.map D.str/\ns.length < 64/\∀ns',List.Perm ns' ns->sortedS ns'=true->Q (.lst (ns'.map D.str)) μ
 | [d]=>zqK μ d fun ks _=>∃ns,ks=ns.map Sum.inr/\ns.length < 64/\∀ns',List.Perm ns' ns->sortedS ns'=true->Q (.lst (ns'.map D.str)) μ
 | _=>False
instance{K:Frag}{fl:Wd}:zbm K fl (zmz K) zhq:=⟨fun{W μ H ds xs Q Q'} r z h k=>by
 have fin:∀ns':List Str,Q (.lst (ns'.map D.str)) μ->∀l,H l=none->Q' (.ref l) (upd H l (.lst (ns'.map V.str))):=fun ns' hq l hl=>by
  obtain⟨r2,le⟩:=r.newF (o:= .lst (ns'.map V.str)) hl;exact k _ _ _ _ _ le r2 (.lst zz (zu.of_strs ns')) hq
 rcases h with h | h
 .exact .inl (.inl (zbm.run (K:=K) (r:=zlV K) (q:=ziO) r z h k))
 .split at h
  .obtain⟨ns,rfl,hz,h⟩:=h;obtain⟨y,rfl,qy⟩:=z.one;obtain⟨p,xs,rfl,s1,z1⟩:=qy.tup';rw[z1.strs] at s1;exact .inl (.inr ⟨p,ns,rfl,s1.sm r.sub,hz,fun ns' l g1 g2 hl=>fin ns' (h ns' g1 g2) l hl⟩)
  .obtain⟨y,rfl,qy⟩:=z.one;obtain⟨p,ks,vs,xs,rfl,ea,l,z1,h3⟩:=zp0 r qy h;obtain⟨ns,rfl,hz,h⟩:=h3;refine .inr ⟨p,_,ns,rfl,ea,?_,hz,fun ns' l g1 g2 hl=>fin ns' (h ns' g1 g2) l hl⟩;rw[List.map_fst_zip];omega
  .exact h.elim⟩
theorem zn8{ns:List Str}{μ:Mu}{Q:DK}(hz:ns.length < 64)(h:∀ns',List.Perm ns' ns->sortedS ns'=true->Q (.lst (ns'.map D.str)) μ):zhq [.tup (ns.map D.str)] μ Q:= .inr ⟨ns,rfl,hz,h⟩
section
variable{P:Program}{w:World}{H:Hp}{h:Heap}{a:Addr}{u u':HO}
end
section
variable{X:Cx}{pins:List (Addr×Obj)}{σ:St}{H:Hp}{s:Shared}{a:Addr}{u u':HO}
end
section
variable{K:Frag}{fl:Wd}{tl:TE}{w:DE}
end
def zbF{α:Type}(xs:List α)(lo hi:Option Int)(st:Int):List α:=(sliceRange (sliceBounds lo hi (some st) xs.length).1 (sliceBounds lo hi (some st) xs.length).2.1 (sliceBounds lo hi (some st) xs.length).2.2).filterMap (xs[·]?)
def stepT{α:Type}(xs:List α)(lo hi:Option Int)(st:Int):List α:=(List.range (Builtin.Slice.slicePlaces (Builtin.Slice.sliceAdjust lo hi st xs.length).1 (Builtin.Slice.sliceAdjust lo hi st xs.length).2 st)).filterMap fun(m:Nat)=>xs[((Builtin.Slice.sliceAdjust lo hi st xs.length).1+(m:Int)*st).toNat]?
theorem Vals.pick{xs:List V}{us:List Value}(r:Vals xs us):∀(ix:List Nat),Vals (ix.filterMap (xs[·]?)) (ix.filterMap (us[·]?))
 | []=> .nil
 | i::ix=>by
  have ih:=Vals.pick r ix;rw[List.filterMap_cons,List.filterMap_cons];cases e:xs[i]? with
  | some x =>
   obtain⟨u,eu,ru⟩:=r.get e;rw[eu];exact .cons ru ih
  | none =>
   have hl:us[i]? = none:=by
    rw[List.getElem?_eq_none_iff] at e ⊢;rw[<- r.length];exact e
   rw[hl];exact ih
theorem zu.pick{K:Frag}{W:Wd}{ds:List D}{xs:List V}(r:zu K W ds xs):∀(ix:List Nat),zu K W (ix.filterMap (ds[·]?)) (ix.filterMap (xs[·]?))
 | []=> .nil
 | i::ix=>by
  have ih:=zu.pick r ix;rw[List.filterMap_cons,List.filterMap_cons];cases e:ds[i]? with
  | some x =>
   obtain⟨u,eu,ru⟩:=r.get e;rw[eu];exact .cons ru ih
  | none =>
   have hl:xs[i]? = none:=by
    rw[List.getElem?_eq_none_iff] at e ⊢;rw[r.length];exact e
   rw[hl];exact ih
theorem zu.zbF{K:Frag}{W:Wd}{ds:List D}{xs:List V}(r:zu K W ds xs)(lo hi:Option Int)(st:Int):zu K W (L2.zbF ds lo hi st) (L2.zbF xs lo hi st):=by
 unfold L2.zbF;rw[r.length];exact r.pick _
theorem zd1{α:Type}(xs:List α)(lo hi:Option Int)(st:Int):stepT xs lo hi st=((List.range (Builtin.Slice.slicePlaces (Builtin.Slice.sliceAdjust lo hi st xs.length).1 (Builtin.Slice.sliceAdjust lo hi st xs.length).2 st)).map fun(m:Nat)=>((Builtin.Slice.sliceAdjust lo hi st xs.length).1+(m:Int)*st).toNat).filterMap (xs[·]?):=by
 unfold stepT;rw[List.filterMap_map];rfl
theorem zu.stepT{K:Frag}{W:Wd}{ds:List D}{xs:List V}(r:zu K W ds xs)(lo hi:Option Int)(st:Int):zu K W (L2.stepT ds lo hi st) (L2.stepT xs lo hi st):=by
 rw[zd1,zd1,r.length];exact r.pick _
theorem Vals.stepT{xs:List V}{us:List Value}(r:Vals xs us)(lo hi:Option Int)(st:Int):Vals (L2.stepT xs lo hi st) (L2.stepT us lo hi st):=by
 rw[zd1,zd1,r.length];exact r.pick _
theorem zoV(us:List Value)(lo hi:Option Int)(st:Int):(slicePick us.toArray lo hi (some st))=(zbF us lo hi st).toArray:=by
 unfold slicePick zbF;simp only[List.size_toArray,List.getElem?_toArray]
section
variable{prog:Program}{w:World}{A:Around}{E:Value->Shared->Prop}{s:Shared}
theorem ziE{sl:Addr}{vl vu vk:Value}{lo hi:Option Int}{st:Int}{n:Nat}{Q:Int×Int×Nat->Shared->Prop}(hs:s.heap.IsSliceOf sl vl vu vk)(pl:IsPart vl lo)(pu:IsPart vu hi)(pk:IsPart vk (some st))(h0:st≠0)
  (h:Q ((Builtin.Slice.sliceAdjust lo hi st n).1,st,Builtin.Slice.slicePlaces (Builtin.Slice.sliceAdjust lo hi st n).1 (Builtin.Slice.sliceAdjust lo hi st n).2 st) s):wpAny (model prog w) A (Builtin.Slice.sliceApplied (.ref sl) (pure (n:Int))) Q E s:=by
 obtain⟨os,hos,hcs,hds⟩:=id hs;unfold Builtin.Slice.sliceApplied Builtin.Slice.sliceFields;refine wpAny_bind (wpAny_bind (wpAny_field hos hds (x:=vl) rfl (wpAny_bind (wpAny_field hos hds (x:=vu) rfl (wpAny_bind (wpAny_field hos hds (x:=vk) rfl (wpAny_pure ?_)))))));refine wpAny_bind (HT.zcO pk ?_);show wpAny _ _ (if (st==0)=true then _ else _) _ _ s;rw[if_neg (by simpa using h0)];refine wpAny_bind (HT.zcO pl (wpAny_bind (HT.zcO pu (wpAny_bind (wpAny_pure ?_)))));exact wpAny_pure h
theorem zhm{t sl:Addr}{items:Array Value}{vl vu vk:Value}{lo hi:Option Int}{st:Int}{Q:Value->Shared->Prop}(ht:IsTup s.heap t items)(hs:s.heap.IsSliceOf sl vl vu vk)(pl:IsPart vl lo)(pu:IsPart vu hi)(pk:IsPart vk (some st))(h0:st≠0)(h1:st≠1)
  (h:Q (.ref s.heap.objs.size) { s with heap:=s.heap.push { cls:= .type "tuple",data:= .seq (stepT items.toList lo hi st).toArray } })
  (hsz:(stepT items.toList lo hi st).length<=sizeLine):wpAny (model prog w) A (getItem (.ref t) (.ref sl)) Q E s:=by
 have htake:sizeOk (.seq (stepT items.toList lo hi st).toArray):=by
  show(stepT items.toList lo hi st).toArray.size<=sizeLine;rw[List.size_toArray];exact hsz
 obtain⟨os,hos,hcs,hds⟩:=id hs;have hTs:s.TypeIs (.ref sl) "slice":=⟨os,hos,hcs⟩;unfold getItem;try with_reducible refine wpAny_holding ?_
 first | refine wpAny_bind (wpAny_pure ?_) | skip
 refine wpAny_bind (wpAny_sequenceKey ht.typeIs (by decide) ?_);refine wpAny_bind (wpAny_callSpecial?_slot (name:=Str.ofString "__getitem__") ht.typeIs PyProof.Rows.slot_tuple_getitem
  (wpAny_call_entry PyProof.Rows.slot_tuple_getitem ht.typeIs entry_tuple_getitem ?_ (args_tuple_getitem _ _)))
 show wpAny _ _ (Builtin.Tuple.tupleItemsOf (.ref t) >>= _) _ _ s;refine wpAny_bind (tupleItemsOf_ ht ?_);refine wpAny_bind (wpAny_typeOf hTs ?_);rw[if_pos (by decide)];refine wpAny_bind (ziE hs pl pu pk h0 ?_);have hno:∀b c:Bool,¬ ((b&&(st==1)&&c)=true):=by
  intro b c q;rw[Bool.and_eq_true,Bool.and_eq_true] at q;exact h1 (eq_of_beq q.1.2)
 show wpAny _ _ (if ((_==_)&&(st==1)&&(_==_))=true then _ else _) _ _ s;rw[if_neg (hno _ _)];have e:((List.range (Builtin.Slice.slicePlaces (Builtin.Slice.sliceAdjust lo hi st items.size).1 (Builtin.Slice.sliceAdjust lo hi st items.size).2 st)).filterMap fun(m:Nat)=>items[((Builtin.Slice.sliceAdjust lo hi st items.size).1+(m:Int)*st).toNat]?).toArray=(stepT items.toList lo hi st).toArray:=by
  unfold stepT;simp only[Array.length_toList,Array.getElem?_toList]
 rw[e];first
  | exact wpAny_bind (m:=Builtin.Tuple.tupleExact _) (wpAny_newObj_type (wpAny_pure ⟨_,rfl,wpAny_pure h⟩) htake)
  | exact wpAny_bind (m:=Builtin.Tuple.tupleExact _) (wpAny_newObj_type (wpAny_bind (wpAny_pure (wpAny_pure ⟨_,rfl,wpAny_pure h⟩))) htake)
  | exact wpAny_bind (wpAny_bind (m:=Builtin.Tuple.tupleExact _) (wpAny_newObj_type (wpAny_pure (wpAny_pure ⟨_,rfl,wpAny_pure h⟩)) htake))
  | exact wpAny_bind (wpAny_bind (m:=Builtin.Tuple.tupleExact _) (wpAny_newObj_type (wpAny_pure ⟨_,rfl,wpAny_pure h⟩) htake))
end
section
variable{X:Cx}{e ke:Expr}{lo hi:Option Expr}{te:TE}{tl th tk:TO}{p2 pos:Pos}
def Sl3(X:Cx)(r:V->Option Int->Option Int->Int->Hp->VK->Prop):Prop :=
 ∀(pins:List (Addr×Obj)) (s:Shared) (σ:St) (H:Hp) (x:V) (v vl vu vk:Value) (lo hi:Option Int) (st:Int) (sl:Addr) (Q:VK),Inv X pins σ H s->RelV x v->s.heap.IsSliceOf sl vl vu vk->IsPart vl lo->IsPart vu hi->IsPart vk (some st)->r x lo hi st H Q ->
  ∃T id,typeLookup (.type T) "__getitem__"=pure (some (.builtin id))/\s.TypeIs v T/\wpAny (model X.prog X.w) X.A (getItem v (.ref sl)) (EP X pins σ Q) X.xe s
def zxl(r:V->Option Int->Option Int->Int->Hp->VK->Prop)(te:TE)(tl th tk:TO):TE:=fun σ H Q=>te σ H fun x H1=>tl σ H1 fun l H2=>th σ H2 fun u H3=>tk σ H3 fun k H4=>∃st,k=some st/\r x l u st H4 Q
theorem zq9{r:V->Option Int->Option Int->Int->Hp->VK->Prop}(hr:Sl3 X r)(he:PE X e te)(hl:PO X lo tl)(hu:PO X hi th)(hk:PO X (some ke) tk):PE X (.Subscript e (.Slice lo hi (some ke) p2) pos) (zxl r te tl th tk):=by
 intro pins s σ H Q I h;refine Subscript_ (thn (he pins s σ H _ I h) fun v s1 ⟨x,H1,I1,r1,q1⟩=>?_);refine wpAny_Slice (thn (hl pins s1 σ H1 _ I1 q1) fun vl s2 ⟨l,H2,I2,pl,q2⟩=>thn (hu pins s2 σ H2 _ I2 q2) fun vu s3 ⟨u,H3,I3,pu,q3⟩=>thn (hk pins s3 σ H3 _ I3 q3) fun vk s4 ⟨k,H4,I4,pk,st,ek,q4⟩=>?_);subst ek;have I5:Inv X pins σ H4 { s4 with heap:=s4.heap.push { cls:= .type "slice",data:= .fields #[vl,vu,vk] } }:=I4.kept (t':=s4.toks) fun b ob q=>Heap.get?_push_of_some _ q
 obtain⟨T,id,hT,ht,hg⟩:=hr pins { s4 with heap:=s4.heap.push { cls:= .type "slice",data:= .fields #[vl,vu,vk] } } σ H4 x v vl vu vk l u st s4.heap.objs.size Q I5 r1 (Heap.IsSliceOf.new ..) pl pu pk q4;show wpAny (model X.prog X.w) X.A (subscriptTail e (.Slice lo hi (some ke) p2) v (.ref s4.heap.objs.size)) (EP X pins σ Q) X.xe { s4 with heap:=s4.heap.push { cls:= .type "slice",data:= .fields #[vl,vu,vk] } };exact tail_any (ops:=[v, .ref s4.heap.objs.size]) ht hT hg (by with_unfolding_all rfl)
def rSt(K:Frag):V->Option Int->Option Int->Int->Hp->VK->Prop:=fun x lo hi st H Q=>(∃a xs,x= .ref a/\SqL K H a xs/\st≠0/\(zbF xs lo hi st).length<=sizeLine/\∀p,H p=none->Q (.ref p) (upd H p (.lst (zbF xs lo hi st)))) \/
 (∃a xs,x= .ref a/\SqT K H a xs/\st≠0/\st≠1/\(stepT xs lo hi st).length<=sizeLine/\∀p,H p=none->Q (.ref p) (upd H p (.tup (stepT xs lo hi st))))
theorem zv6(K:Frag)(hK:X.K=K:=by rfl):Sl3 X (rSt K):=by
 subst hK;intro pins s σ H x v vl vu vk lo hi st sl Q I rx hs pl pu pk h;rcases h with⟨a,xs,rfl,hx,h0,hl,q⟩ | ⟨a,xs,rfl,hx,h0,h1,hl,q⟩
 .cases rx;obtain⟨its,r,ht,hz⟩:=I.list hx;have hlen:=r.length;refine⟨"list",_,slot_list_getitem.lookup,ht.isList.typeIs,?_⟩;refine wpAny_getItem_list_slice ht.isList hs pl pu pk (fun z=>h0 (Option.some.inj z)) ?_ (by rw[List.size_toArray]<;>omega);rw[zoV];refine⟨.ref s.heap.objs.size,_,I.laid (t':=s.toks) (o:= .lst (zbF xs lo hi st)) (fun b ob q=>Heap.get?_push_of_some _ q) (Nat.le_refl _) ?_,rfl,q _ (I.hok.fresh (Nat.le_refl _))⟩;have rv:Vals (zbF xs lo hi st) (zbF its lo hi st):=by
   unfold zbF;rw[r.length];exact r.pick _
  exact⟨hl,_,0,rv,Heap.get?_push_size _ rfl⟩
 .cases rx;obtain⟨its,r,ht,hz⟩:=I.tuple hx;have rv:=r.stepT lo hi st;refine⟨"tuple",_,PyProof.Rows.slot_tuple_getitem.lookup,ht.typeIs,?_⟩;refine zhm ht hs pl pu pk h0 h1 ?_ (by simpa [<- rv.length] using hl);refine⟨.ref s.heap.objs.size,_,I.laid (t':=s.toks) (o:= .tup (stepT xs lo hi st)) (fun b ob q=>Heap.get?_push_of_some _ q) (Nat.le_refl _) ?_,rfl,q _ (I.hok.fresh (Nat.le_refl _))⟩;exact⟨hl,_,rv,IsTup.new _ _⟩
theorem zqX{r:V->Option Int->Option Int->Int->Hp->VK->Prop}(hr:Sl3 X r)(he:WE X e te)(hl:WO X lo tl)(hu:WO X hi th)(hk:WO X (some ke) tk):WE X (.Subscript e (.Slice lo hi (some ke) p2) pos) (zxl r te tl th tk):=⟨zq9 hr he.out hl.out hu.out hk.out⟩
end
def dSt:D->Option Int->Option Int->Int->Mu->DK->Prop:=fun d lo hi st μ Q=>match d with
 | .tup ds=>(st≠0/\st≠1/\(stepT ds lo hi st).length<=sizeLine)/\Q (.tup (stepT ds lo hi st)) μ
 | d=>match zX μ d with
  | some ds=>(st≠0/\(zbF ds lo hi st).length<=sizeLine)/\Q (.lst (zbF ds lo hi st)) μ
  | none=>False
def zxh(we:DE)(wl wh wk:DO):DE:=fun ρ μ Q=>we ρ μ fun d μ1=>wl ρ μ1 fun l μ2=>wh ρ μ2 fun u μ3=>wk ρ μ3 fun k μ4=>zaO k fun st=>dSt d l u st μ4 Q
instance{K:Frag}{fl:Wd}{te:TE}{we:DE}{tl th tk:TO}{wl wh wk:DO}[a:zQ K fl te we][b:zpn K fl tl wl][c:zpn K fl th wh][c2:zpn K fl tk wk]:zQ K fl (zxl (rSt K) te tl th tk) (zxh we wl wh wk):=⟨fun r e h k =>
 a.run r e h fun W1 d μ1 x H1 le1 r1 q1 h1=>b.run r1 (e.mono le1) h1 fun W2 l μ2 H2 le2 r2 h2=>c.run r2 (e.mono (le1.trans le2)) h2 fun W3 u μ3 H3 le3 r3 h3=>c2.run r3 (e.mono (le1.trans (le2.trans le3))) h3 fun W4 kk μ4 H4 le4 r4 h4=>by
  obtain⟨st,rfl,h4⟩:=zaY h4;refine⟨st,rfl,?_⟩;have q4:=q1.mono (le2.trans (le3.trans le4));have fin:∀xs ds,zu K W4 ds xs->st≠0/\(zbF ds l u st).length<=sizeLine->∀Q,(_:Q (D.lst (zbF ds l u st)) μ4)->∀Q',KV' K fl _ Q Q'->∀p,H4 p=none->Q' (.ref p) (upd H4 p (.lst (zbF xs l u st))):=fun xs ds z hz Q hq Q' kk p hp=>by
   obtain⟨r5,le5⟩:=r4.newF (o:= .lst (zbF xs l u st)) hp;exact kk _ _ _ _ _ (le1.trans (le2.trans (le3.trans (le4.trans le5)))) r5 (.lst zz ((z.zbF l u st).mono le5)) hq
  unfold dSt at h4;split at h4
  .rename_i ds;obtain⟨⟨h0,h1',hl⟩,hq⟩:=h4;obtain⟨p,xs,rfl,s1,z1⟩:=q4.tup';have z2:=z1.stepT l u st;refine .inr ⟨p,xs,rfl,s1.sm r4.sub,h0,h1',by rw[z2.length];exact hl,fun p' hp=>?_⟩;obtain⟨r5,le5⟩:=r4.newF (o:= .tup (stepT xs l u st)) hp;exact k _ _ _ _ _ (le1.trans (le2.trans (le3.trans (le4.trans le5)))) r5 (.tup (SqT.of zz) (z2.mono le5)) hq
  .cases hd:zX μ4 d with
   | none=>rw[hd] at h4;exact h4.elim
   | some ds =>
    rw[hd] at h4;obtain⟨hz,hq⟩:=h4;obtain⟨p,xs,rfl,s1,z1⟩:=zax r4 q4 hd;refine .inl ⟨p,xs,rfl,SqL.of s1,hz.1,by rw[(z1.zbF l u st).length];exact hz.2,fun p' hp=>fin xs ds z1 hz _ hq _ k p' hp⟩⟩
section
variable{X:Cx}{k:Nat}(K:Frag)
end
theorem zjv{α:Type}{g:DG}{we:DE}{ρb:zad}{μ:Mu}{Fin:List D->Mu->Prop}{Pm:Mu->Prop}(xs:List α)(f:α->D)(hl:xs.length<=1000)(step:∀x∈xs,∀Q:DK,Q (.bl true) μ->g (f x) ρb μ fun ρ2 μ2=>we ρ2 μ2 Q)(fin:∀bs:List Bool,bs.all id=true->Fin (bs.map D.bl) μ)(hP:Pm μ):zbQ g zeS we ρb Pm Fin (xs.map f) [] μ:=by
 have hz:(1000:Nat)<=sizeLine:=by decide
 refine zb1 (fun i ys μ'=>μ'=μ/\ys=(List.replicate i true).map D.bl) ⟨rfl,rfl⟩ ?_ ?_ (fun i ys μ' h=>h.1▸hP)
 .rintro i d ys μ' hd ⟨rfl,rfl⟩;rw[List.getElem?_map] at hd;cases hx:xs[i]? with
  | none=>rw[hx] at hd;cases hd
  | some x =>
   rw[hx] at hd;cases hd;have hi:=(List.getElem?_eq_some_iff.mp hx).1;refine⟨by rw[List.length_map,List.length_replicate];omega,fun N hN=>step x (List.mem_of_getElem? hx) (fun v μ4=>N _ μ4) (hN _ _ ⟨rfl,?_⟩)⟩;rw[List.replicate_succ',List.map_append];rfl
 .rintro ys μ' ⟨rfl,rfl⟩;exact fin _ (by simp)
section
variable{X:Cx}{CX:CXT}{k:Nat}{f:Addr}{fd:FuncData}{ps:List Str}{sp:Sp}{ds:List Value}{dvs:List V}{E:XK}
end
section
variable{prog:Program}{w:World}{A:Around}{E:Value->Shared->Prop}{s:Shared}
theorem zwm{it l:Addr}{its:Array Value}(hne:l≠it):∀(n i:Nat) (s:Shared) (Q:List Value->Shared->Prop),s.heap.IsListIter it l i->s.heap.IsList l its->i+n<=its.size ->
  (∀h',h'.IsListIter it l (i+n)->Heap.SameBut it s.heap h'->Q ((its.toList.drop i).take n) { s with heap:=h' })->wpAny (model prog w) A (draw (.ref it) n) Q E s
 | 0,i,s,Q,hi,_,_,hq=>by
  show wpAny _ _ (pure []) Q E s;exact wpAny_pure (by simpa using hq s.heap hi (Heap.SameBut.refl ..))
 | n+1,i,s,Q,hi,hl,hle,hq=>by
  have hlt:i < its.size:=by omega
  show wpAny _ _ (pyNext (.ref it) >>= _) Q E s;refine wpAny_bind (wpAny_pyNext_list_item hi hl (x:=its[i]) (by simp[hlt]) fun h1 hi1 sb1=>wpAny_bind (wpAny_holding (zwm (its:=its) hne n (i+1) _ _ hi1 ?_ (by omega) fun h2 hi2 sb2=>wpAny_pure ?_)))
  .obtain⟨o,e,r⟩:=hl;exact⟨o,sb1.extBut l o hne e,r⟩
  have hd:its.toList.drop i=its[i]::its.toList.drop (i+1):=by simp[List.drop_eq_getElem_cons,hlt]
  have z:=hq h2 (by rw[show i+(n+1)=i+1+n by omega];exact hi2) (sb1.trans sb2);rw[hd,List.take_succ_cons] at z;exact z
theorem zrc{l:Addr}{its:Array Value}{Q:List Value->Shared->Prop}(hh:A.handled=none)(hl:s.heap.IsList l its)
  (hq:∀h',Heap.ExtBut s.heap.objs.size s.heap h'->Q its.toList { s with heap:=h' }):wpAny (model prog w) A (unpackItems (.ref l) its.size none) Q E s:=by
 have hlt:l≠s.heap.objs.size:=by obtain⟨o,ho,_⟩:=hl;exact Nat.ne_of_lt (Heap.lt_size ho)
 have hl1:(s.heap.push { cls:= .type "list_iterator",data:= .fields #[.ref l, .int 0 0] }).IsList l its:=by obtain⟨o,e,r⟩:=hl;exact⟨o,Heap.get?_push_of_some _ e,r⟩
 unfold unpackItems;refine wpAny_bind ?_;unfold notIterableAtAll;refine wpAny_bind (wpAny_specialOf hl.typeIs PySem.F.slot_list_iter.lookup (wpAny_pure ?_));simp only[Bool.false_eq_true,if_false];refine wpAny_bind (wpAny_holding (wpAny_pyIter_list hl (wpAny_bind (wpAny_holding (zwm hlt its.size 0 _ _ ⟨_,Heap.get?_push_size _ rfl,rfl,rfl⟩ hl1 (by omega) fun h1 hi1 sb1=>?_)))));rw[show List.take its.size (List.drop 0 its.toList)=its.toList by rw[List.drop_zero];exact List.take_of_length_le (by simp),if_neg (by simp)];have hl2:h1.IsList l its:=by obtain⟨o,e,r⟩:=hl1;exact⟨o,sb1.extBut l o hlt e,r⟩
 refine wpAny_bind (wpAny_holding (wpAny_pyNext_list_end hh hi1 hl2 (by simp) fun h2 he2=>?_));simp only[Option.isSome_none,Bool.false_eq_true,if_false];refine wpAny_pure (hq h2 fun b o hb e=>he2 b o hb (sb1.extBut b o hb (Heap.get?_push_of_some _ e)))
theorem zof{env:Env}{es:List Expr}{x1}{pos:Pos}{l:Addr}{its:Array Value}{Q:Unit->Shared->Prop}(hh:A.handled=none)(hl:s.heap.IsList l its)
  (hn:(assignEach es env).length=its.size)(hst:(assignEach es env).findIdx? (·.1)=none)
  (h:∀h',Heap.ExtBut s.heap.objs.size s.heap h'->wpAny (model prog w) A (assignInOrder ((assignEach es env).map (·.2)) its.toList) Q E { s with heap:=h' }) :
  wpAny (model prog w) A (assign (.Tuple es x1 pos) env (.ref l)) Q E s:=by
 rw[assign_Tuple];refine wpAny_bind (wpAny_standAt ?_);unfold unpack;rw[hn,hst];exact wpAny_bind (wpAny_holding (zrc hh hl h))
end
def gSq(K:Frag)(n:Nat)(t:TGs):TG:=fun v σ H Q=>∃a xs,v= .ref a/\(SqT K H a xs\/SqL K H a xs)/\xs.length=n/\t xs σ H Q
theorem zw9{X:Cx}{es:List Expr}{k:Nat}{gs:TGs}{n:Nat}{pos:Pos}{K:Frag}(hc:X.calm=true)(hg:WGs X es gs)(hK:X.K=K:=by rfl)(hn:(assignEach es X.env).length=n:=by rfl)(hst:(assignEach es X.env).findIdx? (·.1)=none:=by rfl):WG X (.Tuple es k pos) (gSq K n gs):=⟨by
 subst hK;intro pins s σ H v u Q I r hw;obtain⟨a,xs,e1,hq,hl,hw⟩:=hw;rcases hq with hq | hq
 .exact zs9 hc hg.out hn hst pins s σ H v u Q I r ⟨a,xs,e1,hq,hl,hw⟩
 .subst e1;cases r;obtain⟨its,rv,ht,hz⟩:=I.list hq;refine zof (I.ok.hd hc) ht.isList (by simp[hn,<- hl,rv.length]) hst fun h' hx=>?_
  have I1:Inv X pins σ H { s with heap:=h' }:=I.kept (t':=s.toks) fun b o e=>hx b o (Nat.ne_of_lt (Heap.lt_size e)) e
  exact hg.out pins _ σ H xs _ Q I1 (by simpa using rv) hw⟩
def zwP(n:Nat)(gs:DGs):DG:=fun d ρ μ Q=>zaO (zbs μ d) fun ds=>ds.length=n/\gs ds ρ μ Q
instance{K:Frag}{fl:Wd}{n:Nat}{gs:TGs}{dgs:DGs}{S:List Nat}[b:znp K fl gs dgs S]:zj7 K fl (gSq K n gs) (zwP n dgs) S:=⟨fun{W ρ μ σ H d x Q Q'} r e q h k=>by
 obtain⟨ds,hd,hl,h⟩:=zaY h;obtain⟨a,xs,rfl,hs,z⟩:=zcK r q hd;exact⟨a,xs,rfl,hs.symm,by rw[z.length];exact hl,b.run r e z h k⟩⟩
theorem zvh{n:Nat}{gs:DGs}{ds:List D}{ρ:zad}{μ:Mu}{R:zad->Mu->Prop}:zwP n gs (.lst ds) ρ μ R=(ds.length=n/\gs ds ρ μ R):=rfl
section
variable{X:Cx}{pins:List (Addr×Obj)}{σ:St}{H:Hp}{s:Shared}{a:Addr}{y v:V}{u r:Value}{A:Around}{E:Value->Shared->Prop}
theorem zra{H':Hp}{Q:Unit->Shared->Prop}(hu:A.units+1 < cLine)(I:Inv X pins σ H s)(g:zkG H a y v H')(ry:RelV y u)(rv:RelV v r)(h:∀s',Inv X pins σ H' s'->Q () s') :
  wpAny (model X.prog X.w) A (dictSet a u r) Q E s:=by
 rcases g with⟨kvs,k,e,ey,l,eH⟩ | ⟨kvs,k,b,e,ey,eb,l,eH⟩
 .subst ey eH;obtain⟨z,hd,vs,rel,dd⟩:=zwh I.hok e;have hz:vs.length<=sizeLine:=by rw[<- rel.length];exact z
  have hl:(putK kvs k v).length<=sizeLine:=by have:=zde kvs k v;omega
  refine wpAny_dictSet_pairs (hsz:=hz) (zld ry) dd fun h' dd' hs=>h _ ?_
  have he:∃q,h'.get? a=some q:=let ⟨q,_,_,hq,_⟩:=dd';⟨q,hq⟩;exact ziU I (by rw[e];exact True.intro) hs he (zs6 hl hd (rel.put k rv) dd')
 .subst ey eH;cases (show u=Value.ref b from ry);obtain⟨z,hd,xs,rel,dd⟩:=zwn I.hok e;have hz:xs.length<=sizeLine:=by rw[<- Paired.length rel];exact z
  have hl:(putK kvs k v).length<=sizeLine:=by have:=zde kvs k v;omega
  refine wpAny_dictSet_heap (hsz:=hz) (show(tupleKind (zaU X.prog X.w)).room A from Nat.lt_of_succ_lt hu) (zho I.hok eb) dd fun h' dd' hs=>h _ ?_
  obtain⟨q,es,ep,hq,h2,h3,h4,_,h5⟩:=dd';refine ziU I (by rw[e];exact True.intro) hs ⟨q,hq⟩ ⟨hl,hd,_,(rel.put k eb rv).keeps fun c ys ec=>?_,q,es,ep,hq,h2,h3,h4,h5⟩;rw[zE (zwo ec e (fun z=>nomatch z))];exact ec
end
theorem zkK{prog:Program}{w:World}{A:Around}{R:Result->Shared->Prop}{s:Shared}{kx vx target iter:Expr}{ifs:List Expr}{scope:Scope}{pos:Pos}{it:Value}{D:Addr}{env:Env}(I:Nat->Shared->Prop)
  (turn:∀n s,I n s->wpAny (model prog w) A (pyNext it) (fun r s₁=>match r with
   | none=>R (.ok .next) s₁
   | some v=>wpAny (model prog w) A (letOwnedTupleGo target it v) (fun _ s₁'=>wpAny (model prog w) A (assign target env v) (fun _ s₂ =>
     wpAny (model prog w) A (forIn ifs true fun c r=>if r=true then do let ok<-isTrue c env (eval c env);pure (ForInStep.yield ok) else pure (ForInStep.yield r)) (fun ok s₃ =>
      if ok=true then wpAny (model prog w) A (eval kx env) (fun kv s₄=>wpAny (model prog w) A (eval vx env) (fun vv s₅ =>
       wpAny (model prog w) A (dictSet D kv vv) (fun _ s₆=>∃m,m < n/\I m s₆) (notedBy (model prog w) A env fun e s'=>R (.error e) s') s₅) (notedBy (model prog w) A env fun e s'=>R (.error e) s') s₄) (notedBy (model prog w) A env fun e s'=>R (.error e) s') s₃
      else ∃m,m < n/\I m s₃) (notedBy (model prog w) A env fun e s'=>R (.error e) s') s₂) (notedBy (model prog w) A env fun e s'=>R (.error e) s') s₁') (notedBy (model prog w) A env fun e s'=>R (.error e) s') s₁) (notedBy (model prog w) A env fun e s'=>R (.error e) s') s)
  (n:Nat) (h:I n s) :
  codeAny (model prog w) A (.compLoop (.DictComp kx vx [⟨target,iter,ifs,0⟩] scope pos) 0 it (.ref D) env) R s:=by
 refine codeAny_loop rfl I (fun n s hI=>?_) n h;show wpAny _ A ((compTurn (.DictComp kx vx [⟨target,iter,ifs,0⟩] scope pos) 0 it (.ref D) env).onRaise (fun x=>do noteFrame x env;theTreesLotGoes x)) _ _ s;refine wpAny_noted ?_;rw[compTurn_dict];refine wpAny_bind (wpAny_standAt (wpAny_bind (wpAny_mono (turn n s hI) (fun r s₁ h₁=>?_) fun _ _ z=>z)));cases r with
 | none=>exact wpAny_pure h₁
 | some v =>
  refine wpAny_bind (wpAny_mono h₁ (fun _ s₁' h₁'=>?_) fun _ _ z=>z);refine wpAny_bind (wpAny_mono h₁' (fun _ s₂ h₂=>wpAny_bind (wpAny_mono h₂ (fun ok s₃ h₃=>?_) fun _ _ z=>z)) fun _ _ z=>z);cases ok with
  | false=>exact wpAny_pure ⟨rfl,h₃⟩
  | true =>
   refine wpAny_bind (wpAny_bind (wpAny_mono h₃ (fun kv s₄ h₄=>?_) fun _ _ z=>z));refine wpAny_bind (wpAny_holding (wpAny_mono h₄ (fun vv s₅ h₅=>wpAny_bind (wpAny_standAt (wpAny_holding (wpAny_mono h₅ (fun _ s₆ h₆=>wpAny_pure ⟨rfl,h₆⟩) fun _ _ z=>z)))) fun _ _ z=>z))
section
variable{X:Cx}{tg iter kx vx:Expr}{ifs:List Expr}{scope:Scope}{pos:Pos}{own free:List Str}{fr:List Nat}
def zje(D:Addr)(J:It)(g:TG)(tc:TT)(tk tv:TE)(σb:St)(Fin:Hp->Prop)(W:Nat->Nat->Hp->Prop):Prop :=
 ∀i m H,W i m H->(J.stop i H/\Fin H)\/(J.go i H/\∃N:Hp->Prop,(∀H',N H'->∃m',m' < m/\W (i+1) m' H')/\∀x H',J.yld i H x H'->g x σb H' fun σ2 H3=>Sub σb σ2/\tc σ2 H3 fun b H4 =>
  if b=true then tk σ2 H4 fun k H5=>tv σ2 H5 fun v H6=>∃H7,zkG H6 D k v H7/\N H7 else N H4)
theorem zqI{pins:List (Addr×Obj)}{σ:St}{H2:Hp}{s2:Shared}{J:It}{fp:List Addr}{it:Addr}{tn:Nat->Heap->Prop}{g:TG}{tc:TT}{tk tv:TE}{o0:HO}
  {RR:Value->Addr->Result->Shared->Prop}{E:Value->Shared->Prop}{Fin:Addr->Hp->Prop}
  (S:zcN X scope)(hc:X.calm=true)(hu:X.A.units+1 < cLine)(hfr:fr.map (fun j=>X.N[j]?)=free.map some)(hff:∀x∈free,scope.names.lookup x=some .free)
  (hg:∀C s H ex,PG (zB X (own++free) scope C s H ex) tg g)(ht:∀C s H ex,PTs (zB X (own++free) scope C s H ex) ifs tc)(hk:∀C s H ex,PE (zB X (own++free) scope C s H ex) kx tk)(hv:∀C s H ex,PE (zB X (own++free) scope C s H ex) vx tv)
  (I2:Inv X pins σ H2 s2)(T:Turn X.prog X.w X.K tg J fp it tn)(st2:tn 0 s2.heap)(f2:∀b∈fp,zfh X pins H2 b)(ho0:o0= .dK []\/o0= .dT [])
  (turns:∀D,H2 D=none->∃W:Nat->Nat->Hp->Prop,(∃m,W 0 m (upd H2 D o0))/\zje D J g tc tk tv (own.map (fun _=>none)++zaz σ fr) (Fin D) W)
  (hRR:∀D C H' s1 s',Inv X pins σ (upd H2 D o0) s1->(∀b∈fp,zfh X pins (upd H2 D o0) b)->Inv (zB X (own++free) scope C s1 (upd H2 D o0) fp) [] (own.map (fun _=>none)++zaz σ fr) H' s'->Fin D H'->RR (.ref D) C (.ok .next) s') :
  wpAny (model X.prog X.w) X.A newDict (fun acc s₃=>wpAny (model X.prog X.w) X.A (newFunctionEnv scope X.env.globals (zaC X.env scope.names []) [] X.env.qual none .none (some X.env)) (fun cenv s₄ =>
   codeAny (model X.prog X.w) X.A (.compStart (.DictComp kx vx [⟨tg,iter,ifs,0⟩] scope pos) 0 (.ref it) acc { cenv with scope:=relabel scope X.env }) (RR acc cenv.locals) s₄) E s₃) E s2:=by
 refine wpAny_newObj_type (zkm ?_);have hob:∀b∈fp,∃o,s2.heap.get? b=some o:=fun b hb=>by obtain⟨o,e,_⟩:=T.obj _ _ st2 b hb;exact⟨o,e⟩
 have fplt:∀b∈fp,b < s2.heap.objs.size:=fun b hb=>by obtain⟨o,e⟩:=hob b hb;exact Heap.lt_size e
 have hsys:sysModules < s2.heap.objs.size:=I2.big;generalize hs3:({ s2 with heap:=s2.heap.push { cls:= .type "dict",dict:=none,data:= .dict #[] } }:Shared)=s3
 have hh3:s3.heap=s2.heap.push { cls:= .type "dict",dict:=none,data:= .dict #[] }:=by rw[<- hs3]
 have keep3:∀b o,s2.heap.get? b=some o->s3.heap.get? b=some o:=fun b o e=>by rw[hh3];exact Heap.get?_push_of_some _ e
 have hf:H2 s2.heap.objs.size=none:=I2.hok.fresh (Nat.le_refl _);have I3:Inv X pins σ (upd H2 s2.heap.objs.size o0) s3:=by
  rw[<- hs3];refine I2.laid (t':=s2.toks) (o:=o0) (fun b o e=>Heap.get?_push_of_some _ e) (Nat.le_refl _) ?_;rcases ho0 with rfl | rfl
  .exact znw _ hsys
  .exact zsx _ hsys
 have f3:∀b∈fp,zfh X pins (upd H2 s2.heap.objs.size o0) b:=fun b hb=>by
  obtain⟨a1,a2⟩:=f2 b hb;exact⟨by rw[zE (Nat.ne_of_lt (fplt b hb))];exact a1,a2⟩
 have hob3:∀b∈fp,∃o,s3.heap.get? b=some o:=fun b hb=>by obtain⟨o,e⟩:=hob b hb;exact⟨o,keep3 b o e⟩
 have st3:tn 0 s3.heap:=T.keep _ _ _ st2 fun b hb o e=>keep3 b o e
 obtain⟨W,⟨m0,w0⟩,turn⟩:=turns s2.heap.objs.size hf;have hDlt:s2.heap.objs.size < s3.heap.objs.size:=by rw[hh3,Heap.size_push];exact Nat.lt_succ_self _
 generalize hDD:s2.heap.objs.size=D at *
 generalize hHH:upd H2 D o0=H3 at *
 have I4:=znv (own:=own) (ex:=fp) (s3:=s3) S I3 f3 hob3 hfr hff (fun _ _ e=>e) (Nat.le_refl _) rfl rfl;generalize hs4:({ s3 with heap:=pushCells (s3.heap.push { cls:= .type "dict",data:= .dict #[] }) scope.names }:Shared)=s4 at I4
 have keep4:∀b o,s3.heap.get? b=some o->s4.heap.get? b=some o:=fun b o e=>by rw[<- hs4];exact pushCells_keeps _ _ b o (Heap.get?_push_of_some _ e)
 have fpOk:∀{σ' H' s'},Inv (zB X (own++free) scope s3.heap.objs.size s3 H3 fp) [] σ' H' s'->(∀b∈fp,H' b=none)->∀b∈fp,zfh (zB X (own++free) scope s3.heap.objs.size s3 H3 fp) [] H' b:=fun{σ' H' s'} I hn b hb =>
  ⟨hn b hb,(I.ok.exf b hb).1,I.ok.exfs b hb, .inl hb,(I.ok.exf b hb).2,fun p hp=>absurd hp (by simp[zB])⟩
 have stn4:tn 0 s4.heap:=T.keep _ _ _ st3 fun b hb o e=>keep4 b o e
 have loop:∀s',s'=s4->codeAny (model X.prog X.w) X.A (.compLoop (.DictComp kx vx [⟨tg,iter,ifs,0⟩] scope pos) 0 (.ref it) (.ref D) (zbN scope s3.heap.objs.size X.env)) (RR (.ref D) s3.heap.objs.size) s':=by
  rintro s' rfl;refine zkK (fun k s'=>∃i H',Inv (zB X (own++free) scope s3.heap.objs.size s3 H3 fp) [] (own.map (fun _=>none)++zaz σ fr) H' s'/\tn i s'.heap/\(∀b∈fp,H' b=none)/\W i k H') ?_ m0 ⟨0,H3,I4,stn4,fun b hb=>(f3 b hb).1,w0⟩;rintro k s5 ⟨i,H5,I5,st5,fr5,w5⟩;rcases turn i k H5 w5 with⟨stop,fin⟩ | ⟨go,N,hN,step⟩
  .refine wpAny_mono (T.done (zB X (own++free) scope s3.heap.objs.size s3 H3 fp) rfl rfl rfl hc i _ s5 _ H5 (fun _ _=>False) I5 (fpOk I5 fr5) st5 stop) (fun r s6 ⟨hr,I6⟩=>?_) fun _ _ f=>f.elim
   subst hr;exact hRR D _ H5 s3 s6 (by rw[hHH];exact I3) (by rw[hHH];exact f3) (by rw[hHH];exact I6) fin
  .refine wpAny_mono (T.item (zB X (own++free) scope s3.heap.objs.size s3 H3 fp) rfl rfl rfl hc i _ s5 _ H5 (fun _ _=>False) I5 (fpOk I5 fr5) st5 go) (fun r s6 ⟨u,hr,h6⟩=>?_) fun _ _ f=>f.elim
   subst hr;refine wpAny_mono h6 (fun _ s7 ⟨x,H7,I7,r7,y7,st7,fr7⟩=>?_) fun _ _ f=>f.elim
   have I7':=I7.pinned (fpOk I7 fr7) (T.obj _ _ st7);refine wpAny_mono (hg _ _ _ _ _ s7 _ H7 x u _ I7' r7 (step x H7 y7)) (fun _ s8 ⟨σ8,H8,I8,sub8,q8⟩=>?_) fun _ _ f=>f.elim
   refine wpAny_mono (ht _ _ _ _ _ s8 σ8 H8 _ I8 q8) (fun b s9 ⟨H9,I9,q9⟩=>?_) fun _ _ f=>f.elim
   have back:∀{H' s'},Inv (zB X (own++free) scope s3.heap.objs.size s3 H3 fp) ([]++zdr fp s7.heap) σ8 H' s'->tn (i+1) s'.heap/\(∀b∈fp,H' b=none):=fun{H' s'} I=>by
    refine⟨T.keep _ _ _ st7 fun b hb o e=>(I.pin (b,o) (List.mem_append_right _ (List.mem_append_right _ (zb5 hb e)))).1,fun b hb=>?_⟩;obtain⟨o,e,d⟩:=T.obj _ _ st7 b hb;exact(I.pin (b,o) (List.mem_append_right _ (List.mem_append_right _ (zb5 hb e)))).2.1
   cases b with
   | false =>
    obtain⟨m',hm,w9⟩:=hN _ q9;obtain⟨st9,fr9⟩:=back I9;exact⟨m',hm,i+1,H9,I9.unpinned.weak sub8.1 sub8.2,st9,fr9,w9⟩
   | true =>
    refine wpAny_mono (hk _ _ _ _ _ s9 σ8 H9 _ I9 q9) (fun kv s10 ⟨y,H10,I10,r10,q10⟩=>?_) fun _ _ f=>f.elim
    refine wpAny_mono (hv _ _ _ _ _ s10 σ8 H10 _ I10 q10) (fun vv s11 ⟨z,H11,I11,r11,H12,put,q11⟩=>?_) fun _ _ f=>f.elim
    refine zra (X:=zB X (own++free) scope s3.heap.objs.size s3 H3 fp) hu I11 put r10 r11 fun s12 I12=>?_
    obtain⟨m',hm,w12⟩:=hN _ q11;obtain⟨st12,fr12⟩:=back I12;exact⟨m',hm,i+1,H12,I12.unpinned.weak sub8.1 sub8.2,st12,fr12,w12⟩
 exact codeAny_compStart_dict (loop _ rfl) (T.self X.A 0 _ _ _ stn4 (loop _ rfl))
theorem zqu{pins:List (Addr×Obj)}{σ σ':St}{H2 H':Hp}{s2 s':Shared}{fp:List Addr}{C:Addr}{N:List Str}{h'':Heap}
  (I2:Inv X pins σ H2 s2)(f2:∀b∈fp,zfh X pins H2 b)(I:Inv (zB X N scope C s2 H2 fp) [] σ' H' s')(hs:Heap.SameBut C s'.heap h'') :
  Inv X pins σ H' { s' with heap:=h'' }:=by
 have hCs:s2.heap.objs.size<=C:=I.ok.above;have u:Un (frs X.stack) fp H2 H' s2.heap s'.heap:=I.base;have lt2:∀b o,s2.heap.get? b=some o->b≠C:=fun b o e=>Nat.ne_of_lt (Nat.lt_of_lt_of_le (Heap.lt_size e) hCs)
 have hC':∀b o,H' b=some o->b≠C:=fun b o e z=>by
  have:=I.free;rw[show(zB X N scope C s2 H2 fp).env.locals=C from rfl,<- z,e] at this;cases this
 have hok1:HOk X.prog X.w H' h'':=fun a o e=>(I.hok a o e).stay (fun b ob hb eb=>by
   rcases hb with hb | hb
   .rw[hb];rw[hb] at eb;exact hs.extBut _ _ (hC' a o e) eb
   .exact hs.extBut _ _ (hC' b _ hb) eb) (fun _ h=>h) (fun _ _ h=>h)
 have u2:Un (frs X.stack) fp H2 H' s2.heap h'' :=
  {keep:=fun b o e hn hf hx=>hs.extBut b o (lt2 b o e) (u.keep b o e hn hf hx)
   slot:=fun b o e hn hf hx=>by
    obtain⟨sl,q⟩:=u.slot b o e hn hf hx;exact⟨sl,hs.extBut b _ (lt2 b o e) q⟩
   free:=fun b o e hn hx=>u.free b o e hn hx
   there:=fun b o e hx=>by
    obtain⟨o',q⟩:=u.there b o e hx;exact⟨o',hs.extBut b _ (lt2 b o e) q⟩
   tups:=u.tups
   frzs:=u.frzs
   tbls:=u.tbls }
 refine I2.call' (s':={ s' with heap:=h'' }) (ch:=fp) I.os u2 hok1 I.bare fun b hb=>?_
 have q:=f2 b hb;exact⟨q.2.2.2.1,q.2.1,q.2.2.2.2.1,q.2.2.2.2.2⟩
def zoC(o0:HO)(own:List Str)(fr:List Nat)(wi:TI)(g:TG)(tc:TT)(tk tv:TE):TE:=fun σ H Q=>wi σ H fun J H1=>∀D,H1 D=none->∃W:Nat->Nat->Hp->Prop,(∃m,W 0 m (upd H1 D o0)) /\
 zje D J g tc tk tv (own.map (fun _=>none)++zaz σ fr) (fun H'=>Q (.ref D) H') W
theorem ztB{wi:TI}{g:TG}{tc:TT}{tk tv:TE}{o0:HO}(own free:List Str)(fr:List Nat)(ho0:o0= .dK []\/o0= .dT [])(hu:X.A.units+1 < cLine)(S:zcN X scope)(hc:X.calm=true)(hfr:fr.map (fun j=>X.N[j]?)=free.map some)(hff:∀x∈free,scope.names.lookup x=some .free)
  (hi:PI X tg iter wi)
  (hg:∀C s H ex,PG (zB X (own++free) scope C s H ex) tg g)(ht:∀C s H ex,PTs (zB X (own++free) scope C s H ex) ifs tc)(hk:∀C s H ex,PE (zB X (own++free) scope C s H ex) kx tk)(hv:∀C s H ex,PE (zB X (own++free) scope C s H ex) vx tv)
  (hs:∀x,foldedSetIterable iter X.env x=pure x:=by intro _;rfl) :
  PE X (.DictComp kx vx [⟨tg,iter,ifs,0⟩] scope pos) (zoC o0 own fr wi g tc tk tv):=by
 intro pins s σ H Q I h;have hcl:closureFor scope X.env=pure (zaC X.env scope.names []):=zdo fun x hx e=>by
  obtain⟨c,hc⟩:=I.ok.has x.1 (S.free x hx e);rw[hc];rfl
 rw[arm_eval_DictComp];refine wpAny_comprehension_free (use:=none) rfl hs hcl S.kind (fun x hx e=>by have:=zeq S.nd (show(x.1,x.2)∈scope.names from hx);rw[this,e]) (thn (hi pins s σ H _ I h) fun v s1 h1=>thn h1 fun itv s2 h2=>?_);obtain⟨it,fp,tn,J,H2,e,I2,T,st2,f2,turns⟩:=h2;subst e;refine zqI (Fin:=fun D H'=>Q (.ref D) H') (RR:=fun acc C=>compPost (model X.prog X.w) X.A X.xe none (EP X pins σ Q) acc C) S hc hu hfr hff hg ht hk hv I2 T st2 f2 ho0 turns ?_;intro D C H' s3 s' I3 f3 I' fin;obtain⟨m,hm,_⟩:=I'.loc;refine⟨m,hm,fun h'' hsb=>?_⟩;exact⟨.ref D,_,zqu I3 f3 I' hsb,rfl,fin⟩
end
section
variable{X:Cx}{tg iter kx vx:Expr}{ifs:List Expr}{scope:Scope}{pos:Pos}{wi:TI}{g:TG}{tc:TT}{tk tv:TE}{o0:HO}
theorem zr0(own free:List Str)(fr:List Nat)(ho0:o0= .dK []\/o0= .dT [])(hu:X.A.units+1 < cLine)(S:zcN X scope)(hc:X.calm=true)(hfr:fr.map (fun j=>X.N[j]?)=free.map some)(hff:∀x∈free,scope.names.lookup x=some .free)
  (hi:WI X tg iter wi)(hg:∀C s H ex,WG (zB X (own++free) scope C s H ex) tg g)(ht:∀C s H ex,WTs (zB X (own++free) scope C s H ex) ifs tc)(hk:∀C s H ex,WE (zB X (own++free) scope C s H ex) kx tk)(hv:∀C s H ex,WE (zB X (own++free) scope C s H ex) vx tv)
  (hs:∀x,foldedSetIterable iter X.env x=pure x:=by intro _;rfl):WE X (.DictComp kx vx [⟨tg,iter,ifs,0⟩] scope pos) (zoC o0 own fr wi g tc tk tv):=⟨ztB own free fr ho0 hu S hc hfr hff hi.out (fun C s H ex=>(hg C s H ex).out) (fun C s H ex=>(ht C s H ex).out) (fun C s H ex=>(hk C s H ex).out) (fun C s H ex=>(hv C s H ex).out) hs⟩
end
section
variable{K:Frag}{fl:Wd}{tk tv:TE}{wk wv:DE}{tc:TT}{wc:DT}{wi:TI}{di:DI}{g:TG}{dg:DG}{S:List Nat}
end
def two(a b:Int):Nat:=((b - a+1) / 2).toNat
section
variable{X:Cx}{tg:Expr}
end
section
variable{X:Cx}{CX:CXT}{k:Nat}{f:Addr}{fd:FuncData}{ps:List Str}{sp:Sp}{ds:List Value}{dvs:List V}{E:XK}
end
section
open PySem.Builtin PySem.Builtin.Str
end
def sqN:Bool->String | true=>"tuple" | false=>"list"
def itN:Bool->String | true=>"tuple_iterator" | false=>"list_iterator"
def zq4(b:Bool)(h:Heap)(a:Addr)(its:Array Value):Prop:=∃o,h.get? a=some o/\o.cls= .type (sqN b)/\∃n,o.data= .seq its n
def ItB(b:Bool)(h:Heap)(a t:Addr)(i:Nat):Prop:=∃o,h.get? a=some o/\o.cls= .type (itN b)/\o.data= .fields #[.ref t, .int i 0]
theorem ItB.at{b:Bool}{h h':Heap}{a t:Addr}{i:Nat}(x:ItB b h a t i)(e:∀o,h.get? a=some o->h'.get? a=some o):ItB b h' a t i:=let ⟨o,ho,r⟩:=x;⟨o,e o ho,r⟩
section
variable{prog:Program}{w:World}{A:Around}{E:Value->Shared->Prop}{s:Shared}{b b1 b2:Bool}
theorem zpm{it l:Addr}{i:Nat}{items:Array Value}{x:Value}{Q:Value->Shared->Prop}(hit:ItB b s.heap it l i)(hl:zq4 b s.heap l items)(hx:items[i]? = some x)
  (hQ:∀h',ItB b h' it l (i+1)->Heap.SameBut it s.heap h'->Q x { s with heap:=h' }):wpAny (model prog w) A (Builtin.SmallTypes.nextOf (.ref it)) Q E s:=by
 cases b with
 | false=>exact wpAny_nextOf_list_item hit hl hx hQ
 | true =>
  have ty:s.TypeIs (.ref it) "tuple_iterator":=let ⟨o,ho,hc,_⟩:=hit;⟨o,ho,hc⟩;obtain⟨o,ho,hc,hd⟩:=id hit;obtain⟨ol,hol,_,nl,hdl⟩:=hl;unfold Builtin.SmallTypes.nextOf;refine wpAny_bind (wpAny_callSpecial?_slot (name:=Str.ofString "__next__") ty F.slot_tuple_iterator_next (wpAny_call_entry F.slot_tuple_iterator_next ty F.entry_tuple_iterator_next ?_ (F.args_tuple_iterator_next_1 _)));show wpAny _ _ (field (.ref it) 0 >>= _) _ _ s;refine wpAny_bind (wpAny_field ho hd (x:= .ref l) rfl ?_);show wpAny _ _ (if (Value.ref l==Value.none)=true then _ else _) _ _ s;rw[if_neg (show ¬ ((Value.ref l==Value.none)=true) from Bool.false_ne_true)];show wpAny _ _ (field (.ref it) 1 >>= _) _ _ s;refine wpAny_bind (wpAny_field ho hd (x:= .int i 0) rfl ?_);show wpAny _ _ (seqItems? (.ref l) >>= _) _ _ s;refine wpAny_bind (wpAny_seqItems hol hdl ?_);simp only[Int.toNat_natCast,hx];refine wpAny_bind (wpAny_setField ho hd (by simp) (wpAny_pure ⟨x,rfl,wpAny_pure (hQ _ ?_ (Heap.SameBut.update ..))⟩));exact⟨_,Heap.get?_update_self _ ho (Obj.isFreed_of_fields (Obj.data_mapFields hd _)),(Obj.cls_mapFields ..).trans hc,by rw[Obj.data_mapFields hd];simp[rawInt]⟩
theorem zqy{it l:Addr}{i:Nat}{items:Array Value}{Q:Value->Shared->Prop}(hh:A.handled=none)(hit:ItB b s.heap it l i)(hl:zq4 b s.heap l items)(hx:items[i]? = none)
  (hE:∀h' e,Heap.ExtBut it s.heap h'->(∃o,h'.get? e=some o/\o.cls= .type "StopIteration")->E (.ref e) { s with heap:=h' }):wpAny (model prog w) A (Builtin.SmallTypes.nextOf (.ref it)) Q E s:=by
 cases b with
 | false=>exact wpAny_nextOf_list_end hh hit hl hx hE
 | true =>
  have ty:s.TypeIs (.ref it) "tuple_iterator":=let ⟨o,ho,hc,_⟩:=hit;⟨o,ho,hc⟩;obtain⟨o,ho,hc,hd⟩:=id hit;obtain⟨ol,hol,_,nl,hdl⟩:=hl;unfold Builtin.SmallTypes.nextOf;refine wpAny_bind (wpAny_callSpecial?_slot (name:=Str.ofString "__next__") ty F.slot_tuple_iterator_next (wpAny_call_entry F.slot_tuple_iterator_next ty F.entry_tuple_iterator_next ?_ (F.args_tuple_iterator_next_1 _)));show wpAny _ _ (field (.ref it) 0 >>= _) _ _ s;refine wpAny_bind (wpAny_field ho hd (x:= .ref l) rfl ?_);show wpAny _ _ (if (Value.ref l==Value.none)=true then _ else _) _ _ s;rw[if_neg (show ¬ ((Value.ref l==Value.none)=true) from Bool.false_ne_true)];show wpAny _ _ (field (.ref it) 1 >>= _) _ _ s;refine wpAny_bind (wpAny_field ho hd (x:= .int i 0) rfl ?_);show wpAny _ _ (seqItems? (.ref l) >>= _) _ _ s;refine wpAny_bind (wpAny_seqItems hol hdl ?_);simp only[Int.toNat_natCast,hx];refine wpAny_bind (wpAny_rule (wpAny_bind (wpAny_setField ho hd (by simp) ?_)));show wpAny _ _ (newExc (.type "StopIteration") [] >>= _) _ _ _;refine wpAny_bind ?_;simp only[newExc,newTuple];refine wpAny_bind (wpAny_newObj_type ?_ (by size_fits));refine wpAny_bind (m:=firstArgMember _ _) (wpAny_of_eq (a:=Value.none) (by first | rfl | (simp only[firstArgMember];rfl)) ?_);refine wpAny_newObj_type ?_ (by size_fits);simp only[raiseNew];refine wpAny_bind (wpAny_handled ?_);first | rw[show A.in1.handled=none from hh] | rw[hh]
  refine wpAny_bind (wpAny_pure (wpAny_throw ?_));exact hE _ _ (((Heap.SameBut.update ..).extBut.push _).push _) ⟨_,Heap.get?_push_size _ rfl,rfl⟩
end
def SqB(b:Bool)(K:Frag)(H:Hp)(a:Addr)(xs:List V):Prop:=match b with
 | true=>SqT K H a xs
 | false=>SqL K H a xs
theorem Inv.sqB{X:Cx}{pins:List (Addr×Obj)}{σ:St}{H:Hp}{s:Shared}{b:Bool}{a:Addr}{xs:List V}(I:Inv X pins σ H s)(h:SqB b X.K H a xs):∃its:List Value,Vals xs its/\zq4 b s.heap a its.toArray:=by
 cases b with
 | false =>
  obtain⟨its,r,p,_⟩:=I.list h;exact⟨its,r,p.isList⟩
 | true =>
  obtain⟨its,r,p,_⟩:=I.tuple h;exact⟨its,r,p⟩
theorem zw4{X:Cx}{pins:List (Addr×Obj)}{σ:St}{H:Hp}{s:Shared}{b:Bool}{l:Addr}{xs ys:List V}(I:Inv X pins σ H s)(q:SqB b X.K H l xs)(q':SqB b X.K H l ys):xs=ys:=by
 cases b with
 | false=>exact I.list_inj q q'
 | true=>exact I.tuple_inj q q'
def zzY(K:Frag)(fl:Wd)(W:Wd)(Pm:Mu->Prop)(b:Bool)(p:Addr)(ds:List D):Prop:=∀W1 μ H,W.le W1->Rel K fl W1 μ H->Pm μ->∃xs,SqB b K H p xs/\zu K W1 ds xs
def sqM(μ:Mu)(d:D)(Q:List D->(Mu->Prop)->Prop):Prop:=match d with
 | .tup ds=>Q ds fun _=>True
 | d=>lsM μ d Q
theorem zut{K:Frag}{fl:Wd}{W:Wd}{μ:Mu}{H:Hp}{d:D}{x:V}{Q:List D->(Mu->Prop)->Prop}(r:Rel K fl W μ H)(q:Rep K W d x)(h:sqM μ d Q):∃b p ds Pm,x= .ref p/\zzY K fl W Pm b p ds/\Pm μ/\Q ds Pm:=by
 unfold sqM at h;split at h
 .obtain⟨p,xs,rfl,s1,z1⟩:=q.tup';exact⟨true,p,_,_,rfl,fun W1 μ1 H1 le1 r1 _=>⟨xs,(s1.sm le1.F).sm r1.sub,z1.mono le1⟩,trivial,h⟩
 .obtain⟨p,ds,Pm,rfl,l1,pm,h⟩:=zpG r q h;exact⟨false,p,ds,Pm,rfl,fun W1 μ1 H1 le1 r1 pm1=>let ⟨xs,e,z⟩:=l1 W1 μ1 H1 le1 r1 pm1;⟨xs,SqL.of e,z⟩,pm,h⟩
section
variable{wA:DA}{ρ:zad}{μ:Mu}{R:List D->(Mu->Prop)->Mu->Prop}{d e:D}{ds:List D}{Q:List D->(Mu->Prop)->Prop}
theorem ztE:sqM μ (.tup ds) Q=Q ds fun _=>True:=rfl
end
section
variable{X:Cx}{pins:List (Addr×Obj)}{σ:St}{H:Hp}{s:Shared}
end
section
variable{prog:Program}{w:World}{A:Around}{E:Value->Shared->Prop}{s:Shared}{b:Bool}
theorem zt6{e it l:Addr}{i:Nat}{items:Array Value}{x old:Value}{Q:Option Value->Shared->Prop}(he:IsEnum s.heap e it i old)(hit:ItB b s.heap it l i)(hl:zq4 b s.heap l items)(hx:items[i]? = some x)(hne:e≠it)
  (hQ:∀h',IsEnumOut h' e it ((i:Int)+1) x s.heap.objs.size->ItB b h' it l (i+1)->h'.get? s.heap.objs.size=some { cls:= .type "tuple",data:= .seq #[.int i s.toks,x] } ->
   (∀c o,c≠e->c≠it->s.heap.get? c=some o->h'.get? c=some o)->Q (some (.ref s.heap.objs.size)) { s with heap:=h',toks:=s.toks+1 }):wpAny (model prog w) A (pyNext (.ref e)) Q E s:=by
 have hT:s.TypeIs (.ref e) "enumerate":=⟨_,he,rfl⟩;unfold pyNext;refine wpAny_bind (wpAny_attempt (wpAny_callSpecial?_slot (name:=Str.ofString "__next__") hT F.slot_enumerate_next (wpAny_call_entry F.slot_enumerate_next hT F.entry_enumerate_next ?_ (F.args_enumerate_next_1 _))));obtain⟨hp,g,d,tk,os⟩:=s;have lt:e < hp.objs.size:=Heap.lt_size he;show wpAny _ _ (field (.ref e) 2 >>= _) _ _ _;refine wpAny_bind (wpAny_field he rfl (x:= .ref it) rfl (wpAny_bind (zpm (b:=b) hit hl hx fun g1 n1 s1=>?_)));replace s1:Heap.SameBut it hp g1:=s1
 have e1:IsEnum g1 e it i old:=(s1.2 e hne).trans he;show wpAny _ _ (field (.ref e) 3 >>= _) _ _ ⟨g1,g,d,tk,os⟩;refine wpAny_bind (wpAny_field e1 rfl (x:=rawInt i) rfl ?_);show wpAny _ _ (field (.ref e) 4 >>= _) _ _ ⟨g1,g,d,tk,os⟩;refine wpAny_bind (wpAny_field e1 rfl (x:= .none) rfl ?_);show wpAny _ _ (mkInt i >>= _) _ _ ⟨g1,g,d,tk,os⟩;refine wpAny_bind (wpAny_mkInt ?_);show wpAny _ _ (setField (.ref e) 3 (rawInt ((i:Int)+1)) >>= _) _ _ ⟨g1,g,d,tk+1,os⟩;refine wpAny_bind (wpAny_setField_rec e1 (by simp) fun g2 e2 s2=>?_);replace s2:Heap.SameBut e g1 g2:=s2
 replace e2:IsEnum g2 e it ((i:Int)+1) old:=e2
 show wpAny _ _ (setField (.ref e) 4 .none >>= _) _ _ ⟨g2,g,d,tk+1,os⟩;refine wpAny_bind (wpAny_setField_rec e2 (by simp) fun g3 e3 s3=>?_);replace s3:Heap.SameBut e g2 g3:=s3
 replace e3:IsEnum g3 e it ((i:Int)+1) old:=e3
 show wpAny _ _ (newTuple [.int i tk,x] >>= _) _ _ ⟨g3,g,d,tk+1,os⟩;refine wpAny_bind (wpAny_newTuple ?_);have sz:g3.objs.size=hp.objs.size:=by rw[s3.1,s2.1,s1.1]
 have up0:∀c o,c≠e->c≠it->hp.get? c=some o->g3.get? c=some o:=fun c o c1 c2 q=>s3.extBut c o c1 (s2.extBut c o c1 (s1.extBut c o c2 q))
 have m3:ItB b g3 it l (i+1):=n1.at fun o q=>s3.extBut _ _ (Ne.symm hne) (s2.extBut _ _ (Ne.symm hne) q)
 obtain⟨g4,h4⟩:∃g4,g4=g3.push { cls:= .type "tuple",data:= .seq #[.int i tk,x] }:=⟨_,rfl⟩;have kp:∀{c:Addr} {o:Obj},g3.get? c=some o->g4.get? c=some o:=fun q=>by rw[h4];exact Heap.get?_push_of_some _ q
 have e4:IsEnum g4 e it ((i:Int)+1) old:=kp e3;have t4:g4.get? hp.objs.size=some { cls:= .type "tuple",data:= .seq #[.int i tk,x] }:=by rw[h4,<- sz];exact Heap.get?_push_size _ rfl
 show wpAny _ _ (Builtin.SmallTypes.ownedTupleIsFree (.ref e) >>= _) _ _ ⟨g3.push { cls:= .type "tuple",data:= .seq #[.int i tk,x] },g,d,tk+1,os⟩;rw[<- h4,sz];refine wpAny_bind ?_;unfold Builtin.SmallTypes.ownedTupleIsFree;refine wpAny_bind (wpAny_field e4 rfl (x:= .none) rfl (wpAny_pure ?_));simp only[if_true];refine wpAny_bind (wpAny_rule (wpAny_bind (wpAny_field e4 rfl (x:=old) rfl (wpAny_bind (wpAny_setField_rec e4 (by simp) fun g5 e5 s5=>?_)))));replace s5:Heap.SameBut e g4 g5:=s5
 replace e5:IsEnum g5 e it ((i:Int)+1) x:=e5
 show wpAny _ _ (Builtin.SmallTypes.ownedTupleHandOut (.ref e) (.ref hp.objs.size) >>= _) _ _ ⟨g5,g,d,tk+1,os⟩;refine wpAny_bind ?_;unfold Builtin.SmallTypes.ownedTupleHandOut;refine wpAny_bind (wpAny_setField_rec e5 (by simp) fun g6 e6 s6=>?_);replace s6:Heap.SameBut e g5 g6:=s6
 replace e6:IsEnumOut g6 e it ((i:Int)+1) x hp.objs.size:=e6
 refine wpAny_setField_rec e6 (by simp) fun g7 e7 s7=>?_
 replace s7:Heap.SameBut e g6 g7:=s7
 replace e7:IsEnumOut g7 e it ((i:Int)+1) x hp.objs.size:=e7
 have up:∀{c:Addr} {o:Obj},c≠e->g4.get? c=some o->g7.get? c=some o:=fun c1 q=>s7.extBut _ _ c1 (s6.extBut _ _ c1 (s5.extBut _ _ c1 q))
 exact wpAny_bind (wpAny_letGo (wpAny_pure ⟨_,rfl,wpAny_pure (hQ g7 e7 (m3.at fun o q=>up (Ne.symm hne) (kp q)) (up (Nat.ne_of_gt lt) t4) fun c o c1 c2 q=>up c1 (kp (up0 c o c1 c2 q)))⟩))
theorem zuA{e it l:Addr}{i:Nat}{items:Array Value}{old:Value}{Q:Option Value->Shared->Prop}(hh:A.handled=none)(he:IsEnum s.heap e it i old)(hit:ItB b s.heap it l i)(hl:zq4 b s.heap l items)(hx:items[i]? = none)
  (hQ:∀h',Heap.ExtBut it s.heap h'->Q none { s with heap:=h' }):wpAny (model prog w) A (pyNext (.ref e)) Q E s:=by
 have hT:s.TypeIs (.ref e) "enumerate":=⟨_,he,rfl⟩;unfold pyNext;refine wpAny_bind (wpAny_attempt (wpAny_callSpecial?_slot (name:=Str.ofString "__next__") hT F.slot_enumerate_next (wpAny_call_entry F.slot_enumerate_next hT F.entry_enumerate_next ?_ (F.args_enumerate_next_1 _))));show wpAny _ _ (field (.ref e) 2 >>= _) _ _ _;refine wpAny_bind (wpAny_field he rfl (x:= .ref it) rfl (wpAny_bind (zqy (b:=b) hh hit hl hx fun h' x he' hx'=>?_)));obtain⟨o,ho,hc⟩:=hx';exact wpAny_bind (wpAny_isInstance (T:="StopIteration") (b:=true) ⟨o,ho,hc⟩ isSubtype_stop (wpAny_pure (hQ _ he')))
end
set_option maxHeartbeats 1000000 in
theorem zzZ(l : Addr)(items : Array Value)(ob : Obj)(n : Nat)(hc : ob.cls = .type "tuple")(hd : ob.data = .seq items n) : Meets (Builtin.«enumerate.__new__» ⟨[.type "enumerate", .ref l], []⟩) (fun _ R s => s.heap.get? l = some ob /\
   R (.ok (.ret (.ref (s.heap.push { cls:= .type "tuple_iterator",data:= .fields #[.ref l, .int 0 0] }).objs.size)))
    {s with heap:=(s.heap.push { cls:= .type "tuple_iterator",data:= .fields #[.ref l, .int 0 0] }).push { cls:= .type "enumerate",data:= .fields #[.none, .bool false, .ref s.heap.objs.size,rawInt 0, .none, .none] } }) :=
 .of_wp fun prog w A R s h=>by
  obtain⟨hp,g,d,tk,os⟩:=s;obtain⟨hl,h⟩:=h;obtain⟨c,dct,dt,sl⟩:=ob;replace hc:c= .type "tuple":=hc
  replace hd:dt= .seq items n:=hd
  subst hc hd;have hsub:=sub_enumerate;have hL:Heap.IsTuple (Shared.heap ⟨hp,g,d,tk,os⟩) l items:=⟨_,hl,rfl,n,rfl⟩;wp_walk using wpAny_loadPart' hl
  refine wpAny_stack_any fun st=>wpAny_pure ?_
  split
  .rename_i c _ _ _ _ _;cases (c==Value.type "enumerate")
   .wp_walk using wpAny_loadPart' hl,wpAny_pyIter_tuple hL
    exact⟨_,rfl,h⟩
   .wp_walk using wpAny_loadPart' hl,wpAny_pyIter_tuple hL
    exact⟨_,rfl,h⟩
  .wp_walk using wpAny_loadPart' hl,wpAny_pyIter_tuple hL
   exact⟨_,rfl,h⟩
theorem zzr{prog:Program}{w:World}{A:Around}{E:Value->Shared->Prop}{s:Shared}{b:Bool}{l:Addr}{items:Array Value}{Q:Value->Shared->Prop}(hL:zq4 b s.heap l items)
  (h:∀h',IsEnum h' (s.heap.objs.size+1) s.heap.objs.size 0 .none->ItB b h' s.heap.objs.size l 0->(∀c o,s.heap.get? c=some o->h'.get? c=some o)->Q (.ref (s.heap.objs.size+1)) { s with heap:=h' }) :
  wpAny (model prog w) A (call (.type "enumerate") [.ref l]) Q E s:=by
 cases b with
 | false=>exact call_enumerate_list hL fun h' a b _ d=>h h' a b d
 | true =>
  obtain⟨ob,hl,hc,n,hd⟩:=hL;refine callType_new F.called_enumerate (by decide) (F.typeCall_enumerate_1 _) (F.newCall_enumerate_1 _) (fun obj=>F.args_object_init_2 obj _) F.entry_enumerate_new (zzZ l items ob n hc hd) ⟨hl,?_⟩;have z:(s.heap.push { cls:= .type "tuple_iterator",data:= .fields #[.ref l, .int 0 0] }).objs.size=s.heap.objs.size+1:=Heap.size_push ..;have g2:((s.heap.push { cls:= .type "tuple_iterator",data:= .fields #[.ref l, .int 0 0] }).push { cls:= .type "enumerate",data:= .fields #[.none, .bool false, .ref s.heap.objs.size,rawInt 0, .none, .none] }).get? (s.heap.push { cls:= .type "tuple_iterator",data:= .fields #[.ref l, .int 0 0] }).objs.size=some _:=Heap.get?_push_size _ rfl;have g1:((s.heap.push { cls:= .type "tuple_iterator",data:= .fields #[.ref l, .int 0 0] }).push { cls:= .type "enumerate",data:= .fields #[.none, .bool false, .ref s.heap.objs.size,rawInt 0, .none, .none] }).get? s.heap.objs.size=some _:=Heap.get?_push_of_some _ (Heap.get?_push_size _ rfl);show _/\_;rw[z] at g2 ⊢;exact⟨⟨_,g2,rfl⟩,h _ g2 ⟨_,g1,rfl,rfl⟩ fun c o q=>Heap.get?_push_of_some _ (Heap.get?_push_of_some _ q)⟩
def zzh(K:Frag)(b:Bool)(l:Addr):It :=
 ⟨fun i H => ∃xs x, SqB b K H l xs /\ xs[i]? = some x,
  fun i H v H'=>∃p,H p=none/\v= .ref p/\∀xs,SqB b K H l xs->∃x,xs[i]? = some x/\H'=upd H p (.tup [.int i,x]),
  fun i H=>∃xs,SqB b K H l xs/\xs.length<=i⟩
def zuC(b:Bool)(e it l:Addr)(i:Nat)(h:Heap):Prop:=(∃old,IsEnum h e it i old)/\ItB b h it l i
theorem zpb{P:Program}{w:World}{K:Frag}{elts:List Expr}{k:Nat}{pos:Pos}(b:Bool)(e it l:Addr)(d:e≠it):Turn P w K (.Tuple elts k pos) (zzh K b l) [e,it] e (zuC b e it l):=by
 refine{ mem:=by simp,obj:=?_,keep:=?_,item:=?_,done:=?_,self:=fun _ _ _ _ _ st h=>by obtain⟨⟨old,hz⟩,_⟩:=st;exact wpAny_pyIter_enum hz h }
 .intro i h st c hb;obtain⟨⟨old,hz⟩,⟨o1,e1,c1,d1⟩⟩:=st;simp only[List.mem_cons,List.not_mem_nil,or_false] at hb;rcases hb with rfl | rfl
  .exact⟨_,hz,fun v e=>by cases e⟩
  .exact⟨_,e1,fun v e=>by rw[d1] at e;cases e⟩
 .intro i h h' st kk;obtain⟨⟨old,hz⟩,h1⟩:=st;exact⟨⟨old,kk e (by simp) _ hz⟩,h1.at fun o e=>kk it (by simp) o e⟩
 .intro X hP hw hK hc i pins s σ H E I hf st hg;subst hP hw hK;obtain⟨xs,x,q1,hx⟩:=hg;obtain⟨its1,r1,hl1⟩:=I.sqB q1;obtain⟨u1,eu1,ru1⟩:=r1.get hx;obtain⟨⟨old,hz⟩,h1⟩:=st;refine zt6 hz h1 hl1 (x:=u1) (by simpa using eu1) d fun h' a1 a2 a3 hk=>?_
  refine⟨_,rfl,wpAny_letOwnedTupleGo_enum a1 fun h'' b1 b2=>?_⟩;have lt:∀c∈[e,it],c < s.heap.objs.size:=fun c hb=>by
   simp only[List.mem_cons,List.not_mem_nil,or_false] at hb;rcases hb with rfl | rfl
   .exact Heap.lt_size hz
   .obtain⟨o1,e1,_⟩:=h1;exact Heap.lt_size e1
  have hfr:H s.heap.objs.size=none:=I.hok.fresh (Nat.le_refl _);have I1:Inv X pins σ (upd H s.heap.objs.size (.tup [.int i,x])) { s with heap:=s.heap.push { cls:= .type "tuple",data:= .seq #[Value.int (i:Int) s.toks,u1] },toks:=s.toks+1 } :=
   I.laid (t':=s.toks+1) (fun b o e=>Heap.get?_push_of_some _ e) (Nat.le_refl _) ⟨by show 2<=sizeLine;decide,[Value.int (i:Int) s.toks,u1], .cons ⟨_,rfl⟩ (.cons ru1 .nil),⟨_,Heap.get?_push_size _ rfl,rfl,_,rfl⟩⟩
  have hne:∀c∈[e,it],(upd H s.heap.objs.size (.tup [.int i,x])) c=none:=fun c hb=>by
   rw[zE (Nat.ne_of_lt (lt c hb))];exact(hf c hb).1
  have I2:=I1.turnedL (h':=h'') (t':=s.toks+1) [e,it] (fun c o hb e=>?_) (fun c hb=>⟨hne c hb,(hf c hb).2⟩)
  .refine⟨.ref s.heap.objs.size,_,I2,rfl,⟨_,hfr,rfl,fun xs' q1'=>⟨x,by rw[zw4 I q1' q1];exact hx,rfl⟩⟩,⟨⟨_,b1⟩,a2.at fun o e=>b2.extBut _ _ d.symm e⟩,hne⟩
  .simp only[List.mem_cons,List.not_mem_nil,or_false,not_or] at hb;refine b2.extBut _ _ hb.1 ?_;by_cases hT:c=s.heap.objs.size
   .subst hT;rw[Heap.get?_push_size _ rfl] at e;cases e;exact a3
   .exact hk c o hb.1 hb.2 (zlF hT e)
 .intro X hP hw hK hc i pins s σ H E I hf st hg;subst hP hw hK;obtain⟨xs,q1,hend⟩:=hg;obtain⟨its1,r1,hl1⟩:=I.sqB q1;obtain⟨⟨old,hz⟩,h1⟩:=st;refine zuA (I.ok.hd hc) hz h1 hl1 ?_ fun h' hk=>⟨rfl,I.turnedL (h':=h') (t':=s.toks) [e,it] (fun b o hb e=>?_) hf⟩
  .rw[Array.getElem?_eq_none];rw[List.size_toArray,<- r1.length];exact hend
  .simp only[List.mem_cons,List.not_mem_nil,or_false,not_or] at hb;exact hk b o hb.2 e
def ztP(K:Frag)(ta:TA):TI:=fun σ H R=>ta σ H fun vs H2=>∃b l xs,vs=[.ref l]/\SqB b K H2 l xs/\R (zzh K b l) H2
theorem zjm{X:Cx}{a:Expr}{ta:TA}{p pos pos2:Pos}{elts:List Expr}{k:Nat}(K:Frag)(hg:Gl X "enumerate")(hm:X.mg "enumerate"=none)(ha:WA X [a] ta)(h:X.K=K:=by rfl)
  (hs:starEach [a] X.env=(false,eval a X.env)::starEach [] X.env:=by rfl)(hpl:(backTo pos (starEach [] X.env)).any (·.1)=false:=by rfl):WI X (.Tuple elts k pos2) (.Call (.Name "enumerate" p) [a] [] pos) (ztP K ta):=⟨by
 subst h;intro pins s σ H R I h;refine Call_ (zhx I hg hm boot_enumerate (PyProof.Rows.callWith_type1 (thn (ha.out pos pins s σ H _ I h) fun us s1 ⟨vs,H1,I1,r1,q1⟩=>?_) hs hpl));obtain⟨b,l,xs,rfl,q2,q⟩:=q1;obtain⟨u,rfl,e1⟩:=vals1 r1;cases e1;obtain⟨its1,rv1,p1⟩:=I1.sqB q2;refine zzr p1 fun h' b1 b2 b4=>?_
 refine wpAny_pyIter_enum b1 ?_;refine⟨s1.heap.objs.size+1,[s1.heap.objs.size+1,s1.heap.objs.size],_,_,H1,rfl,I1.kept (t':=s1.toks) b4,zpb b (s1.heap.objs.size+1) s1.heap.objs.size l (Nat.ne_of_gt (Nat.lt_succ_self _)),⟨⟨_,b1⟩,b2⟩,fun c hb=>?_,q⟩;have hge:s1.heap.objs.size<=c:=by
  simp only[List.mem_cons,List.not_mem_nil,or_false] at hb;rcases hb with rfl | rfl
  .exact Nat.le_succ _
  .exact Nat.le_refl _
 exact I1.fpOk hge (I1.hok.fresh hge)⟩
def zoE(R:List D->(Mu->Prop)->Mu->Prop):List D->Mu->Prop:=fun es μ1=>match es with
 | [d]=>sqM μ1 d fun ds P1=>R (zgS ds) P1 μ1
 | _=>False
def zdX(w:DA):DI:=fun ρ μ Q=>w ρ μ (zoE Q)
theorem zjN{d:D}{μ:Mu}{R:List D->(Mu->Prop)->Mu->Prop}:zoE R [d] μ=sqM μ d fun ds P1=>R (zgS ds) P1 μ:=rfl
instance{K:Frag}{fl:Wd}{ta:TA}{wa:DA}[a:zbK K fl ta wa]:zn6 K fl (ztP K ta) (zdX wa):=⟨fun{W ρ μ σ H Q Q'} r e h k=>a.run r e h fun W1 ds μ1 xs H1 le1 r1 z1 h1=>by
 unfold zoE at h1;split at h1
 .obtain⟨x,rfl,q1⟩:=z1.one;obtain⟨b,p1,d1,P1,rfl,l1,pm1,h1⟩:=zut r1 q1 h1;obtain⟨xs1,e1,_⟩:=l1 W1 μ1 H1 (.refl _) r1 pm1;refine⟨b,p1,xs1,rfl,e1,k W1 _ _ _ μ1 H1 le1 r1 (fun W2 μ2 H2 le2 r2 pm i=>?_) h1⟩;obtain⟨a1,f1,g1⟩:=l1 W2 μ2 H2 le2 r2 pm;constructor
  .intro d hd;obtain⟨e,m2,rfl⟩:=zb4 hd;obtain⟨x2,ex2,qx2⟩:=g1.get m2;refine⟨⟨a1,x2,f1,ex2⟩,fun v H' hy=>?_⟩;obtain⟨p,hp,rfl,hy⟩:=hy;obtain⟨y2,ey2,rfl⟩:=hy a1 f1;rw[ex2] at ey2;cases ey2;obtain⟨r3,le3⟩:=r2.newF (o:= .tup [.int i,x2]) hp;exact⟨_,le3,r3, .tup (SqT.of zz) (.cons .i (.cons (qx2.mono le3) .nil))⟩
  .intro hl;rw[zaQ] at hl;exact⟨a1,f1,by rw[g1.length];omega⟩
 .exact h1.elim⟩
abbrev gN(p:Array Nat)(i:Nat):Nat:=p.getD i 0
theorem zjc(p:Array Nat)(i:Nat):gN p i=(p[i]?).getD 0:=by
 show p.getD i 0=_;by_cases h:i < p.size<;>simp[Array.getD,h]
def okW{α:Type}(n:Nat)(lt:Nat->Nat->Bool):KasT α->(α->Prop)->Prop
 | .ret a,P=>P a
 | .ask i j k,P=>i < n/\j < n/\i≠j/\okW n lt (k (lt i j)) P
section
variable{n:Nat}{lt:Nat->Nat->Bool}
theorem zdK{α β:Type}{f:α->KasT β}{P:β->Prop}:∀(t:KasT α),okW n lt t (fun a=>okW n lt (f a) P)->okW n lt (t.bind f) P
 | .ret a,h=>h
 | .ask i j k,h=>⟨h.1,h.2.1,h.2.2.1,zdK (k (lt i j)) h.2.2.2⟩
theorem zbr{α:Type}{P Q:α->Prop}(q:∀a,P a->Q a):∀(t:KasT α),okW n lt t P->okW n lt t Q
 | .ret a,h=>q a h
 | .ask i j k,h=>⟨h.1,h.2.1,h.2.2.1,zbr q (k (lt i j)) h.2.2.2⟩
theorem zud{α:Type}{cmp:Nat->Nat->(Bool->Shared->Prop)->Shared->Prop}{I:Shared->Prop}{Q:α->Shared->Prop}{P:α->Prop}
  (hc:∀i j C s,i < n->j < n->i≠j->I s->(∀s',I s'->C (lt i j) s')->cmp i j C s)(q:∀a s,P a->I s->Q a s):∀(t:KasT α) (s:Shared),okW n lt t P->I s->t.kasWp cmp Q s
 | .ret a,s,h,hi=>q a s h hi
 | .ask i j k,s,h,hi=>hc i j _ s h.1 h.2.1 h.2.2.1 hi fun s' hi'=>zud hc q (k (lt i j)) s' h.2.2.2 hi'
def Srt(lt:Nat->Nat->Bool)(p:Array Nat)(m:Nat):Prop:=∀i j,i < j->j < m->lt (gN p j) (gN p i)=false
def Dsc(lt:Nat->Nat->Bool)(p:Array Nat)(m:Nat):Prop:=∀i j,i < j->j < m->lt (gN p i) (gN p j)=false
def PN(n:Nat)(p:Array Nat):Prop:=p.toList.Perm (List.range n)
theorem PN.sz{p:Array Nat}(h:PN n p):p.size=n:=by
 have:=h.length_eq;simpa using this
theorem PN.lp{p:Array Nat}(h:PN n p){i:Nat}(hi:i < n):gN p i < n:=by
 have hs:=h.sz;have hi':i < p.size:=by omega
 have e:gN p i=p[i]:=by show p.getD i 0=_;simp[Array.getD,hi']
 rw[e];have m:p[i]∈p.toList:=by simp
 exact List.mem_range.mp (h.mem_iff.mp m)
theorem PN.ne{p:Array Nat}(h:PN n p){i j:Nat}(hi:i < n)(hj:j < n)(d:i≠j):gN p i≠gN p j:=by
 have hs:=h.sz;have hi':i < p.size:=by omega
 have hj':j < p.size:=by omega
 have e:gN p i=p.toList[i]:=by show p.getD i 0=_;simp[Array.getD,hi']
 have e2:gN p j=p.toList[j]:=by show p.getD j 0=_;simp[Array.getD,hj']
 have nd:p.toList.Nodup:=h.nodup_iff.mpr List.nodup_range;rw[e,e2];intro q;have hl:p.toList.length=p.size:=by simp
 rcases Nat.lt_or_gt_of_ne d with z | z
 .exact(List.pairwise_iff_getElem.mp nd) i j (by omega) (by omega) z q
 .exact(List.pairwise_iff_getElem.mp nd) j i (by omega) (by omega) z q.symm
theorem PN.rev{p:Array Nat}(h:PN n p)(i j:Nat):PN n (kas_rev p i j):=(mirror_perm p i j _).toList.trans h
theorem PN.bub{p:Array Nat}(h:PN n p)(k d:Nat):PN n (bubble p k d):=(bubble_perm p k d).toList.trans h
theorem zhc{p:Array Nat}{i j:Nat}(hj:j<=p.size)(k:Nat):gN (kas_rev p i j) k=if i<=k/\k < j then gN p (i+j - 1 - k) else gN p k:=by
 rw[zjc,zjc,zjc];show((mirror p i j ((j - i) / 2))[k]?).getD 0=_;rw[getElem?_mirror_all hj];split<;>rfl
theorem zsA{p:Array Nat}{k l:Nat}(hk:k < p.size)(hl:l<=k)(m:Nat):gN (bubble p k (k - l)) m=if m=l then gN p k else if l < m/\m<=k then gN p (m - 1) else gN p m:=by
 rw[zjc,zjc,zjc,zjc,getElem?_bubble hk _ (by omega)];have e:k - (k - l)=l:=by omega
 rw[e];split
 .rfl
 .split<;>rfl
structure Ord(lt:Nat->Nat->Bool):Prop where
 as:∀a b,lt a b=true->lt b a=false
 tr:∀a b c,lt b a=false->lt c b=false->lt c a=false
variable(O:Ord lt)
include O
theorem zo4{p:Array Nat}(hp:PN n p):∀(f m:Nat),1<=m->m+f<=n->Srt lt p m->okW n lt (PySem.W.kas_asc p f m) (fun r=>m<=r/\r<=m+f/\Srt lt p r/\(r < m+f->lt (gN p r) (gN p (r - 1))=true))
 | 0,m,_,_,hs=>⟨Nat.le_refl _,Nat.le_refl _,hs,fun h=>absurd h (Nat.lt_irrefl _)⟩
 | f+1,m,h1,h2,hs=>by
  refine⟨hp.lp (by omega),hp.lp (by omega),hp.ne (by omega) (by omega) (by omega),?_⟩;show okW n lt (if lt (gN p m) (gN p (m - 1))=true then _ else _) _;by_cases hc:lt (gN p m) (gN p (m - 1))=true
  .rw[if_pos hc];exact⟨Nat.le_refl _,by omega,hs,fun _=>hc⟩
  .rw[if_neg hc];have hc':lt (gN p m) (gN p (m - 1))=false:=by simpa using hc
   refine zbr (fun r h=>⟨by omega,by omega,h.2.2.1,fun hr=>h.2.2.2 (by omega)⟩) _ (zo4 hp f (m+1) (by omega) (by omega) fun i j hij hj=>?_);by_cases e:j=m
   .subst e;by_cases e2:i=j - 1
    .rw[e2];exact hc'
    .exact O.tr _ _ _ (hs i (j - 1) (by omega) (by omega)) hc'
   .exact hs i j hij (by omega)
def Flat(lt:Nat->Nat->Bool)(p:Array Nat)(a b:Nat):Prop:=∀i j,a<=i->i < b->a<=j->j < b->lt (gN p i) (gN p j)=false
theorem zps{p:Array Nat}{a b m:Nat}(hd:Dsc lt p m)(hf:Flat lt p a b)(hb:b<=m)(hm:m<=p.size):Dsc lt (kas_rev p a b) m:=by
 intro i j hij hj;rw[zhc (by omega),zhc (by omega)];by_cases hi':a<=i/\i < b
 .rw[if_pos hi'];by_cases hj':a<=j/\j < b
  .rw[if_pos hj'];exact hf _ _ (by omega) (by omega) (by omega) (by omega)
  .rw[if_neg hj'];exact hd _ _ (by omega) hj
 .rw[if_neg hi'];by_cases hj':a<=j/\j < b
  .rw[if_pos hj'];exact hd _ _ (by omega) (by omega)
  .rw[if_neg hj'];exact hd _ _ hij hj
theorem ziT : ∀(f : Nat) (p : Array Nat) (m q : Nat), PN n p -> 1 <= m -> m + f <= n -> q < m -> Dsc lt p m -> Flat lt p (m - (q + 1)) m -> okW n lt (PySem.W.kas_desc f p m q)
   (fun r=>PN n r.1/\m<=r.2.1/\r.2.1<=n/\r.2.2 < r.2.1/\Dsc lt r.1 r.2.1/\Flat lt r.1 (r.2.1 - (r.2.2+1)) r.2.1)
 | 0,p,m,q,hp,h1,h2,hq,hd,hf=>⟨hp,Nat.le_refl _,by show m<=n;omega,hq,hd,hf⟩
 | f+1,p,m,q,hp,h1,h2,hq,hd,hf=>by
  have hz:=hp.sz;have irr:∀a,lt a a=false:=fun a=>by
   by_cases h:lt a a=true
   .have:=O.as _ _ h;rw[this] at h;cases h
   .simpa using h
  refine⟨hp.lp (by omega),hp.lp (by omega),hp.ne (by omega) (by omega) (by omega),?_⟩;show okW n lt (if lt (gN p m) (gN p (m - 1))=true then _ else _) _;by_cases hc:lt (gN p m) (gN p (m - 1))=true
  .rw[if_pos hc];have hc1:=O.as _ _ hc;have hd1:Dsc lt p (m+1):=fun i j hij hj=>by
    by_cases e:j=m
    .subst e;by_cases e2:i=j - 1
     .rw[e2];exact hc1
     .exact O.tr _ _ _ hc1 (hd i (j - 1) (by omega) (by omega))
    .exact hd i j hij (by omega)
   have fl:∀p',Flat lt p' (m+1 - (0+1)) (m+1):=fun p' i j a1 a2 a3 a4=>by
    have:i=j:=by omega
    rw[this];exact irr _
   by_cases hq0:q > 0
   .rw[if_pos hq0];refine zbr (fun r h=>⟨h.1,by omega,h.2.2.1,h.2.2.2.1,h.2.2.2.2⟩) _ (ziT f _ (m+1) 0 (hp.rev _ _) (by omega) (by omega) (by omega) (zps O hd1 hf (by omega) (by omega)) (fl _))
   .rw[if_neg hq0];exact zbr (fun r h=>⟨h.1,by omega,h.2.2.1,h.2.2.2.1,h.2.2.2.2⟩) _ (ziT f _ (m+1) 0 hp (by omega) (by omega) (by omega) hd1 (fl _))
  .rw[if_neg hc];have hc':lt (gN p m) (gN p (m - 1))=false:=by simpa using hc
   refine⟨hp.lp (by omega),hp.lp (by omega),hp.ne (by omega) (by omega) (by omega),?_⟩;show okW n lt (if lt (gN p (m - 1)) (gN p m)=true then _ else _) _;by_cases hb:lt (gN p (m - 1)) (gN p m)=true
   .rw[if_pos hb];exact⟨hp,Nat.le_refl _,by show m<=n;omega,hq,hd,hf⟩
   .rw[if_neg hb];have hb':lt (gN p (m - 1)) (gN p m)=false:=by simpa using hb
    refine zbr (fun r h=>⟨h.1,by omega,h.2.2.1,h.2.2.2.1,h.2.2.2.2⟩) _ (ziT f p (m+1) (q+1) hp (by omega) (by omega) (by omega) (fun i j hij hj=>?_) (fun i j a1 a2 a3 a4=>?_))
    .by_cases e:j=m
     .subst e;by_cases e2:i=j - 1
      .rw[e2];exact hb'
      .exact O.tr _ _ _ hb' (hd i (j - 1) (by omega) (by omega))
     .exact hd i j hij (by omega)
    .by_cases ei:i=m
     .subst ei;by_cases ej:j=i
      .rw[ej];exact irr _
      .exact O.tr _ _ _ (hf (i - 1) j (by omega) (by omega) (by omega) (by omega)) hc'
     .by_cases ej:j=m
      .subst ej;exact O.tr _ _ _ hb' (hf i (j - 1) (by omega) (by omega) (by omega) (by omega))
      .exact hf i j (by omega) (by omega) (by omega) (by omega)
theorem znr{m nrem:Nat}{p:Array Nat}(hp:PN nrem p)(h1:1<=m)(hm:m<=nrem)(hd:Dsc lt p m):okW nrem lt (PySem.W.kas_tail3 m nrem p) (fun r=>PN nrem r.2/\1<=r.1/\r.1<=nrem/\Srt lt r.2 r.1):=by
 refine zdK _ (zbr (fun r h=>?_) _ (zo4 O (hp.rev 0 m) (nrem - m) m h1 (by omega) fun i j hij hj=>?_))
 .exact⟨hp.rev 0 m,by omega,by omega,h.2.2.1⟩
 .have hz:=hp.sz;rw[zhc (by omega),zhc (by omega),if_pos ⟨Nat.zero_le _,hj⟩,if_pos ⟨Nat.zero_le _,by omega⟩];exact hd _ _ (by omega) (by omega)
theorem zil{m nrem:Nat}{p:Array Nat}(hp:PN nrem p)(h1:1<=m)(hm:m+1<=nrem)(hd:Dsc lt p (m+1)):okW nrem lt (PySem.W.kas_descPart m nrem p) (fun r=>PN nrem r.2/\1<=r.1/\r.1<=nrem/\Srt lt r.2 r.1):=by
 have irr:∀a,lt a a=false:=fun a=>by
  by_cases h:lt a a=true
  .have:=O.as _ _ h;rw[this] at h;cases h
  .simpa using h
 refine zdK _ (zbr (fun r h=>?_) _ (ziT O (nrem - (m+1)) p (m+1) 0 hp (by omega) (by omega) (by omega) hd fun i j a1 a2 a3 a4=>?_))
 .obtain⟨p',m',q'⟩:=r;obtain⟨hp',b1,b2,b3,b4,b5⟩:=h;dsimp only at hp' b1 b2 b3 b4 b5 ⊢;have hz:=hp'.sz;split
  .exact znr O (hp'.rev _ _) (by omega) b2 (zps O b4 b5 (Nat.le_refl _) (by omega))
  .exact znr O hp' (by omega) b2 b4
 .have:i=j:=by omega
  rw[this];exact irr _
theorem zst{nrem:Nat}{p:Array Nat}(hp:PN nrem p)(h1:1<=nrem):okW nrem lt (PySem.W.kas_count nrem p) (fun r=>PN nrem r.2/\1<=r.1/\r.1<=nrem/\Srt lt r.2 r.1):=by
 have hz:=hp.sz;refine zdK _ (zbr (fun m h=>?_) _ (zo4 O hp (nrem - 1) 1 (Nat.le_refl _) (by omega) fun i j hij hj=>by omega));obtain⟨b1,b2,b3,b4⟩:=h;by_cases e:m=nrem
 .rw[if_pos (by simp[e])];exact⟨hp,b1,by show m<=nrem;omega,b3⟩
 .rw[if_neg (by simp[e])];have hl:=b4 (by omega);have hl':=O.as _ _ hl;by_cases hm:m > 1
  .rw[if_pos hm];refine⟨hp.lp (by omega),hp.lp (by omega),hp.ne (by omega) (by omega) (by omega),?_⟩;show okW nrem lt (if lt (gN p 0) (gN p (m - 1))=true then _ else _) _;by_cases hc:lt (gN p 0) (gN p (m - 1))=true
   .rw[if_pos hc];exact⟨hp,b1,by show m<=nrem;omega,b3⟩
   .rw[if_neg hc];have hc':lt (gN p 0) (gN p (m - 1))=false:=by simpa using hc
    have irr:∀a,lt a a=false:=fun a=>by
     by_cases h:lt a a=true
     .have:=O.as _ _ h;rw[this] at h;cases h
     .simpa using h
    have up:∀i,i < m->lt (gN p i) (gN p (m - 1))=false:=fun i hi=>by
     by_cases e0:i=0
     .rw[e0];exact hc'
     .exact O.tr _ _ _ hc' (b3 0 i (by omega) hi)
    have dn:∀i,i < m->lt (gN p (m - 1)) (gN p i)=false:=fun i hi=>by
     by_cases e0:i=m - 1
     .rw[e0];exact irr _
     .exact b3 i (m - 1) (by omega) (by omega)
    refine zil O (hp.rev 0 m) b1 (by omega) fun i j hij hj=>?_
    rw[zhc (by omega),zhc (by omega),if_pos ⟨Nat.zero_le _,by omega⟩];by_cases ej:j < m
    .rw[if_pos ⟨Nat.zero_le _,ej⟩];exact O.tr _ _ _ (dn _ (by omega)) (up _ (by omega))
    .have ej':j=m:=by omega
     rw[if_neg (by omega),ej'];exact O.tr _ _ _ hl' (up _ (by omega))
  .rw[if_neg hm];have e1:m=1:=by omega
   subst e1;refine zil O hp (Nat.le_refl _) (by omega) fun i j hij hj=>?_
   have ei:i=0:=by omega
   have ej:j=1:=by omega
   subst ei;subst ej;exact hl'
theorem zj5{p:Array Nat}{k:Nat}(hp:PN n p)(hk:k < n)(hs:Srt lt p k):∀(f l r:Nat),r<=k->l<=r->r - l<=f->(∀i,i < l->lt (gN p k) (gN p i)=false)->(∀i,r<=i->i < k->lt (gN p i) (gN p k)=false) ->
  okW n lt (PySem.W.kas_place p k f l r) (fun x=>x<=k/\(∀i,i < x->lt (gN p k) (gN p i)=false)/\(∀i,x<=i->i < k->lt (gN p i) (gN p k)=false))
 | 0,l,r,h1,h2,h3,a,b=>⟨by omega,a,fun i h=>b i (by omega)⟩
 | f+1,l,r,h1,h2,h3,a,b=>by
  unfold PySem.W.kas_place;by_cases e:l ≥ r
  .rw[if_pos e];exact⟨by omega,a,fun i h=>b i (by omega)⟩
  .rw[if_neg e];refine⟨hp.lp hk,hp.lp (by omega),hp.ne hk (by omega) (by omega),?_⟩;show okW n lt (if lt (gN p k) (gN p ((l+r) / 2))=true then _ else _) _;by_cases hc:lt (gN p k) (gN p ((l+r) / 2))=true
   .rw[if_pos hc];refine zj5 hp hk hs f l _ (by omega) (by omega) (by omega) a fun i hi hik=>?_
    by_cases ei:i=(l+r) / 2
    .rw[ei];exact O.as _ _ hc
    .exact O.tr _ _ _ (O.as _ _ hc) (hs _ _ (by omega) hik)
   .rw[if_neg hc];have hc':lt (gN p k) (gN p ((l+r) / 2))=false:=by simpa using hc
    refine zj5 hp hk hs f _ r h1 (by omega) (by omega) (fun i hi=>?_) b;by_cases ei:i=(l+r) / 2
    .rw[ei];exact hc'
    .exact O.tr _ _ _ (hs i _ (by omega) (by omega)) hc'
theorem ztr:∀(f:Nat) (p:Array Nat) (k:Nat),PN n p->k+f=n->Srt lt p k->okW n lt (PySem.W.kas_bin f p k) (fun r=>PN n r/\Srt lt r n)
 | 0,p,k,hp,h,hs=>⟨hp,by rw[<- h];exact hs⟩
 | f+1,p,k,hp,h,hs=>by
  have hz:=hp.sz;refine zdK _ (zbr (fun l hl=>?_) _ (zj5 O hp (by omega) hs k 0 k (Nat.le_refl _) (Nat.zero_le _) (by omega) (fun i hi=>by omega) (fun i a b=>by omega)));obtain⟨c1,c2,c3⟩:=hl;refine ztr f _ (k+1) (hp.bub _ _) (by omega) fun i j hij hj=>?_
  rw[zsA (by omega) c1,zsA (by omega) c1];by_cases ej:j=l
  .rw[if_pos ej,if_neg (by omega),if_neg (by omega)];exact c2 i (by omega)
  .rw[if_neg ej];by_cases ei:i=l
   .rw[if_pos ei,if_pos ⟨by omega,by omega⟩];exact c3 _ (by omega) (by omega)
   .rw[if_neg ei];by_cases hj':l < j/\j<=k
    .rw[if_pos hj'];by_cases hi':l < i/\i<=k
     .rw[if_pos hi'];exact hs _ _ (by omega) (by omega)
     .rw[if_neg hi'];exact hs _ _ (by omega) (by omega)
    .rw[if_neg hj',if_neg (by omega)];exact hs _ _ hij (by omega)
theorem zmS(h1:1<=n):okW n lt (PySem.W.kas_sort n) (fun r=>PN n r/\Srt lt r n):=by
 refine zdK _ (zbr (fun r h=>?_) _ (zst O (p:=List.toArray (List.range n)) (List.Perm.refl _) h1));obtain⟨hp,b1,b2,b3⟩:=h;by_cases e:r.1 < n
 .rw[if_pos e];have em:max r.1 1=r.1:=by omega
  rw[em];exact ztr O _ _ _ hp (by omega) b3
 .rw[if_neg e];have en:r.1=n:=by omega
  exact⟨hp,by rw[<- en];exact b3⟩
end
def Kept(h0 h:Heap):Prop:=∀b o,h0.get? b=some o->h.get? b=some o
structure zwB(prog:Program)(w:World)(h0:Heap)(s:Shared)(vs:List Value)(κ:SortKind)(lt:Nat->Nat->Bool):Prop where
 kind:∀(A:Around) (h':Heap),Kept h0 h'->2<=vs.length->∀(Q:SortKind->Shared->Prop) (E:Value->Shared->Prop),Q κ { s with heap:=h' }->wpAny (model prog w) A (keyKind' vs.toArray) Q E { s with heap:=h' }
 ask:∀(A:Around) (h':Heap),Kept h0 h'->∀i j,i < vs.length->j < vs.length->i≠j->∀(C:Bool->Shared->Prop),C (lt i j) { s with heap:=h' }->wpAny (model prog w) A (keyLt' κ (vs.getD i .none) (vs.getD j .none)) C (fun _ _=>False) { s with heap:=h' }
section
variable{prog:Program}{w:World}{A:Around}{E:Value->Shared->Prop}{s:Shared}{κ:SortKind}{lt:Nat->Nat->Bool}{h0:Heap}
theorem zkq{a:Addr}{vs:List Value}{n:Nat}{P:PySem.Fin->Shared->Prop}(ho:s.heap.get? a=some (seqObj "list" vs.toArray n))
  (k0:Kept h0 s.heap)(ha0:h0.get? a=none)(O:Ord lt)(sq:zwB prog w h0 s vs κ lt)(h64:vs.length < 64)
  (h:∀(p:Array Nat),PN vs.length p->Srt lt p vs.length->P (.done (.ret .none)) { s with heap:=sortedHeap s.heap a vs (p.toList.map fun i=>vs.getD i .none).toArray }) :
  wpAny (model prog w) A (Builtin.«list.sort» ⟨[.ref a],[]⟩) P E s:=by
 rw[list_sort_plain];have ha:a < s.heap.objs.size:=Heap.lt_size ho;refine wpAny_bind (listItems_at ho rfl ?_);refine wpAny_bind (listUpdate_at ho rfl ?_ (by rw[List.size_toArray,sizeLine_eq];omega) (Nat.zero_le _));obtain⟨e1,ho1⟩:∃e1,(s.heap.update a (Obj.mapSeq fun _=>(#[]:Array Value))).get? a=some (seqObj "list" #[] e1):=⟨_,get?_update_seq ho (fun _=> #[])⟩;refine wpAny_bind (seqEpoch_at ho1 rfl ?_);refine wpAny_bind (wpAny_newTuple ?_ (by show vs.length<=_;rw[sizeLine_eq];omega));refine wpAny_bind (wpAny_newList ?_ (Nat.zero_le _));refine wpAny_holding ?_;have ho6:(((s.heap.update a (Obj.mapSeq fun _=>(#[]:Array Value))).push (seqObj "tuple" vs.toArray 0)).push (seqObj "list" #[] 0)).get? a=some (seqObj "list" #[] e1):=by
  rw[Heap.get?_push_ne _ _ _ (by rw[size_push',Heap.size_update];exact Nat.ne_of_lt (Nat.lt_succ_of_lt ha)),Heap.get?_push_ne _ _ _ (by rw[Heap.size_update];exact Nat.ne_of_lt ha)];exact ho1
 have kk:Kept h0 (((s.heap.update a (Obj.mapSeq fun _=>(#[]:Array Value))).push (seqObj "tuple" vs.toArray 0)).push (seqObj "list" #[] 0)):=fun b o e=>by
  refine Heap.get?_push_of_some _ (Heap.get?_push_of_some _ ?_);have hb:b≠a:=fun q=>by rw[q,ha0] at e;cases e
  rw[Heap.get?_update_ne _ _ _ _ hb];exact k0 b o e
 show wpAny (model prog w) A _ P E { s with heap:=((s.heap.update a (Obj.mapSeq fun _=>(#[]:Array Value))).push (seqObj "tuple" vs.toArray 0)).push (seqObj "list" #[] 0) };dsimp only;have hsz:vs.toArray.size=vs.length:=by simp
 by_cases h2:vs.toArray.size < 2
 .rw[if_pos h2,if_pos h2];refine wpAny_bind (wpAny_pure ?_);rw[StateT.run_pure];refine wpAny_bind (wpAny_pure ?_);dsimp only;have eo:(arrOf (SortSt.mk' general' (vs.toArray.zip vs.toArray) #[] 7 none)).map (·.2)=vs.toArray:=by
   apply Array.toList_inj.mp;show((vs.toArray.zip vs.toArray).map (·.2)).toList=vs.toArray.toList;simp;match vs,hsz,h2 with
   | [],_,_=>rfl
   | [_],_,_=>rfl
   | _::_::r,_,h2=>simp at h2;omega
  refine wpAny_bind (seqEpoch_at ho6 rfl ?_);refine wpAny_bind (listUpdate_at ho6 rfl ?_ (Nat.zero_le _) (by rw[eo,List.size_toArray,sizeLine_eq];omega));rw[eo];simp only[bne_self_eq_false,Bool.false_eq_true,if_false];have hl2:vs.length < 2:=by rw[hsz] at h2;exact h2
  have q:=h (List.range vs.length).toArray (by show List.Perm _ _;rw[List.toList_toArray]) (fun i j hij hj=>by
   exfalso;omega)
  have ev:((List.range vs.length).toArray.toList.map fun i=>vs.getD i .none).toArray=vs.toArray:=by
   match vs,hl2 with
   | [],_=>rfl
   | [_],_=>rfl
  rw[ev] at q;exact wpAny_pure q
 .rw[if_neg h2,if_neg h2];have hl2:2<=vs.length:=by rw[hsz] at h2;omega
  refine wpAny_bind (sq.kind A _ kk hl2 _ _ ?_);have ask:(PySem.W.kas_sort vs.length).kasWp (PySem.W.kas_ask prog w A κ vs) (fun p s'=>s'={ s with heap:=((s.heap.update a (Obj.mapSeq fun _=>(#[]:Array Value))).push (seqObj "tuple" vs.toArray 0)).push (seqObj "list" #[] 0) }/\PN vs.length p/\Srt lt p vs.length)
    {s with heap:=((s.heap.update a (Obj.mapSeq fun _=>(#[]:Array Value))).push (seqObj "tuple" vs.toArray 0)).push (seqObj "list" #[] 0) } :=
   zud (I:=fun s'=>s'={ s with heap:=((s.heap.update a (Obj.mapSeq fun _=>(#[]:Array Value))).push (seqObj "tuple" vs.toArray 0)).push (seqObj "list" #[] 0) })
    (fun i j C s' hi hj hne e hC=>by subst e;exact sq.ask A _ kk i j hi hj hne C (hC _ rfl)) (fun p s' hp e=>⟨e,hp.1,hp.2⟩) _ _ (zmS O (n:=vs.length) (by omega)) rfl
  refine wpAny_bind (wpAny_mono (PySem.W.kat_run (Q:=fun st' s'=>∃p:Array Nat,arrOf st'=p.map (PySem.W.kas_item (vs.toArray.zip vs.toArray))/\failedOf st'=none/\(s'={ s with heap:=((s.heap.update a (Obj.mapSeq fun _=>(#[]:Array Value))).push (seqObj "tuple" vs.toArray 0)).push (seqObj "list" #[] 0) }/\PN vs.length p/\Srt lt p vs.length))
   rfl hl2 h64 (fun p' st' s' a1 a2 a3 a4=>⟨p',a2,a3,a4⟩) ask) ?_ fun _ _ e=>e)
  rintro⟨⟨⟩,st'⟩ s' ⟨p,har,hf,rfl,hp,hs⟩;dsimp only;have hout:=PySem.W.kat_snds rfl har;have hz2:(List.toArray (p.toList.map fun i=>vs.getD i Value.none)).size=vs.length:=by rw[List.size_toArray,List.length_map,Array.length_toList,hp.sz]
  rw[hout];refine wpAny_bind (seqEpoch_at ho6 rfl ?_);refine wpAny_bind (listUpdate_at ho6 rfl ?_ (Nat.zero_le _) (by rw[hz2,sizeLine_eq];omega));rw[hf];simp only[bne_self_eq_false,Bool.false_eq_true,if_false];exact wpAny_pure (h p hp hs)
theorem znL{l:Addr}{vs:List Value}{Q:List Value->Shared->Prop}(hl:IsTup s.heap l vs.toArray)
  (h:Q vs { s with heap:=(s.heap.push (seqObj "list" #[] 0)).update s.heap.objs.size (Obj.mapSeq (·++ vs.toArray)) })(hsz:vs.length<=sizeLine) :
  wpAny (model prog w) A (collect (.ref l)) Q E s:=by
 obtain⟨o,ho,hc,n,hd⟩:=id hl;unfold collect;refine wpAny_bind (wpAny_runValue (codeAny_builtin entry_proto_collect' ?_));show wpAny _ _ (do again (.builtin "list.__iadd__" ⟨[<- newList [], .ref l],[]⟩)) _ _ s;refine wpAny_bind (wpAny_newList (wpAny_pure ⟨Code.quiet_builtin _ (by decide+kernel),codeAny_builtin entry_list_iadd' ?_⟩) (Nat.zero_le _));show wpAny _ _ (Builtin.List.listExtendWith (.ref s.heap.objs.size) (.ref l) (.ref s.heap.objs.size)) _ _ { s with heap:=s.heap.push (seqObj "list" #[] 0) };unfold Builtin.List.listExtendWith;have ho':(s.heap.push (seqObj "list" #[] 0)).get? l=some o:=Heap.get?_push_of_some _ ho;refine wpAny_bind (wpAny_typeOf (T:="tuple") ⟨o,ho',hc⟩ ?_);have ht:(Value.type "tuple"==Value.type "tuple")=true:=by rfl
 rw[if_pos (by rw[ht];simp)];refine wpAny_bind (listItems_at ho' hd ?_);refine wpAny_bind (listItems_at (xs:= #[]) (n:=0) (Heap.get?_push_size _ rfl) rfl ?_);rw[if_neg (by simp)];refine wpAny_bind (listUpdate_at (xs:= #[]) (n:=0) (Heap.get?_push_size _ rfl) rfl ?_ (Nat.zero_le _) (by show(#[]++vs.toArray).size<=sizeLine+1;simp only[Array.size_append,List.size_toArray,List.length_nil];omega));refine wpAny_pure ?_;show wpAny (model prog w) A (do
   let o<-load s.heap.objs.size
   match o.data with
   | .seq xs _=>pure xs.toList
   | _=>unsupported "internal:collect") Q E { s with heap:=(s.heap.push (seqObj "list" #[] 0)).update s.heap.objs.size (Obj.mapSeq (·++ vs.toArray)) }
 refine wpAny_bind (wpAny_load (get?_update_seq (Heap.get?_push_size _ rfl) _) ?_);show wpAny _ _ (pure ((#[]:Array Value)++vs.toArray).toList) Q E _;rw[show((#[]:Array Value)++vs.toArray).toList=vs by simp];exact wpAny_pure h
theorem zox{l:Addr}{vs:List Value}{Q:Value->Shared->Prop}(hl:s.heap.IsList l vs.toArray\/IsTup s.heap l vs.toArray)(O:Ord lt)(sq:zwB prog w s.heap s vs κ lt)(h64:vs.length < 64)
  (h:∀(p:Array Nat),PN vs.length p->Srt lt p vs.length->Q (.ref (s.heap.objs.size+1)) { s with heap:=sortedAll s.heap vs (p.toList.map fun i=>vs.getD i .none).toArray }) :
  wpAny (model prog w) A (call (.builtin "sorted") [.ref l]) Q E s:=by
 refine Calls.call_function_entry kind_sorted plain_sorted entry_sorted (args_sorted1 _) ?_;unfold Builtin.«sorted»;refine wpAny_bind (m:=checkCount "sorted" 1 1 _) (wpAny_pure ?_);have g:∀{A':Around} {E':Value->Shared->Prop} (R:List Value->Shared->Prop),R vs { s with heap:=(s.heap.push (seqObj "list" #[] 0)).update s.heap.objs.size (Obj.mapSeq (·++ vs.toArray)) }->wpAny (model prog w) A' (collect (.ref l)) R E' s :=
  fun R r=>hl.elim (fun q=>collect_list q r (by rw[sizeLine_eq];omega)) fun q=>znL q r (by rw[sizeLine_eq];omega)
 refine wpAny_bind (g _ ?_);refine wpAny_bind (wpAny_newList ?_ (by rw[sizeLine_eq];omega));have hsz:((s.heap.push (seqObj "list" #[] 0)).update s.heap.objs.size (Obj.mapSeq (·++ vs.toArray))).objs.size=s.heap.objs.size+1:=by
  rw[Heap.size_update,size_push']
 have hoL:(((s.heap.push (seqObj "list" #[] 0)).update s.heap.objs.size (Obj.mapSeq (·++ vs.toArray))).push (seqObj "list" vs.toArray 0)).get? (s.heap.objs.size+1)=some (seqObj "list" vs.toArray 0):=by
  rw[<- hsz];exact Heap.get?_push_size _ rfl
 have keep:Kept s.heap (((s.heap.push (seqObj "list" #[] 0)).update s.heap.objs.size (Obj.mapSeq (·++ vs.toArray))).push (seqObj "list" vs.toArray 0)):=fun b o q=>by
  have hlt:b < s.heap.objs.size:=Heap.lt_size q;rw[Heap.get?_push_ne _ _ _ (by rw[hsz];exact Nat.ne_of_lt (Nat.lt_succ_of_lt hlt)),Heap.get?_update_ne _ _ _ _ (Nat.ne_of_lt hlt),Heap.get?_push_ne _ _ _ (Nat.ne_of_lt hlt)];exact q
 show wpAny _ _ _ _ _ { s with heap:=((s.heap.push (seqObj "list" #[] 0)).update s.heap.objs.size (Obj.mapSeq (·++ vs.toArray))).push (seqObj "list" vs.toArray 0) };rw[hsz];refine wpAny_bind (wpAny_holding (wpAny_call_entry slot_list_sort ⟨_,hoL,rfl⟩ entry_list_sort
  (zkq (s:={ s with heap:=((s.heap.push (seqObj "list" #[] 0)).update s.heap.objs.size (Obj.mapSeq (·++ vs.toArray))).push (seqObj "list" vs.toArray 0) }) (h0:=s.heap) (κ:=κ) (lt:=lt) hoL keep (Heap.get?_none_of_le (Nat.le_succ _)) O ⟨sq.kind,sq.ask⟩ h64 fun p a1 a2=>⟨_,rfl,?_⟩) (args_list_sort _)))
 exact wpAny_pure ⟨_,rfl,h p a1 a2⟩
end
def sLt(a b:Str):Bool:=decide (a.cps.toList < b.cps.toList)
theorem zyH{a b:Str}(h:sLt a b=true):sLt b a=false:=by
 unfold sLt at *; rw[decide_eq_true_eq] at h;rw[decide_eq_false_iff_not];exact List.lt_asymm h
theorem zyj{a b c:Str}(h:sLt b a=false)(h':sLt c b=false):sLt c a=false:=by
 unfold sLt at *; rw[decide_eq_false_iff_not] at *;exact List.le_trans (show a.cps.toList<=b.cps.toList from h) h'
theorem zyf{a b:Str}(h:sLt a b=false)(h':sLt b a=false):a=b:=by
 unfold sLt at *; rw[decide_eq_false_iff_not] at *;have e:a.cps.toList=b.cps.toList:=List.le_antisymm (show a.cps.toList<=b.cps.toList from h') h;cases a;cases b;simp only[Str.mk.injEq];exact Array.toList_inj.mp e
def vLt:List V->List V->Option Bool
 | [],[]=>some false
 | [],_::_=>some true
 | _::_,[]=>some false
 | .str a::xs, .str b::ys=>if a=b then vLt xs ys else some (sLt a b)
 | .int a::xs, .int b::ys=>if a=b then vLt xs ys else some (decide (a < b))
 | _::_,_::_=>none
theorem zom:∀{x y:List V},vLt x y=some true->vLt y x=some false
 | [],[],h=>by simp[vLt] at h
 | [],_::_,h=>rfl
 | _::_,[],h=>by simp[vLt] at h
 | u::x,v::y,h=>by
  cases u<;>cases v<;>first | (simp[vLt] at h;done) | skip
  case int a b =>
   unfold vLt at h ⊢;by_cases e:a=b
   .rw[if_pos e] at h;rw[if_pos e.symm];exact zom h
   .rw[if_neg e] at h;rw[if_neg fun z=>e z.symm];have:a < b:=by simpa using h
    simp;omega
  case str a b =>
   unfold vLt at h ⊢;by_cases e:a=b
   .rw[if_pos e] at h;rw[if_pos e.symm];exact zom h
   .rw[if_neg e] at h;rw[if_neg fun z=>e z.symm];rw[zyH (by simpa using h)]
theorem zpk:∀{x y z:List V},vLt y x=some false->vLt z y=some false->vLt z x=some false
 | [],y,z,h,h'=>by
  cases z with
  | nil =>
   rfl
  | cons _ _=>rfl
 | u::x,[],z,h,h'=>by simp[vLt] at h
 | u::x,v::y,[],h,h'=>by simp[vLt] at h'
 | u::x,v::y,t::z,h,h'=>by
  cases u<;>cases v<;>first | (simp[vLt] at h;done) | skip
  case int a b =>
   cases t<;>first | (simp[vLt] at h';done) | skip
   rename_i c;unfold vLt at h h' ⊢;by_cases e:b=a
   .rw[if_pos e] at h;subst e;by_cases e2:c=b
    .rw[if_pos e2] at h' ⊢; exact zpk h h'
    .rw[if_neg e2] at h' ⊢; exact h'
   .rw[if_neg e] at h;have h1:¬ b < a:=by simpa using h
    by_cases e2:c=b
    .subst e2;rw[if_neg e];exact h
    .rw[if_neg e2] at h';have h2:¬ c < b:=by simpa using h'
     rw[if_neg (by omega)];simp;omega
  case str a b =>
   cases t<;>first | (simp[vLt] at h';done) | skip
   rename_i c;unfold vLt at h h' ⊢;by_cases e:b=a
   .rw[if_pos e] at h;subst e;by_cases e2:c=b
    .rw[if_pos e2] at h' ⊢; exact zpk h h'
    .rw[if_neg e2] at h' ⊢; exact h'
   .rw[if_neg e] at h;have h1:sLt b a=false:=by simpa using h
    by_cases e2:c=b
    .subst e2;rw[if_neg e];exact h
    .rw[if_neg e2] at h';have h2:sLt c b=false:=by simpa using h'
     have h3:=zyj h1 h2;have e3:c≠a:=fun z=>by
      subst z;exact e (zyf h1 h2)
     rw[if_neg e3,h3]
def vAt(rs:List (List V))(i j:Nat):Bool:=vLt (rs.getD i []) (rs.getD j [])==some true
theorem zpA{rs:List (List V)}(h:∀i j,i≠j->(vLt (rs.getD i []) (rs.getD j [])).isSome):Ord (vAt rs) where
 as:=fun a b e=>by
  have e':vLt (rs.getD a []) (rs.getD b [])=some true:=by simpa [vAt] using e
  show(_==_)=false;rw[zom e'];rfl
 tr:=fun a b c e e'=>by
  by_cases hab:a=b
  .subst hab;exact e'
  .by_cases hbc:b=c
   .subst hbc;exact e
   .have f:∀{i j},i≠j->vAt rs i j=false->vLt (rs.getD i []) (rs.getD j [])=some false:=fun{i j} hij q=>by
     have s:=h i j hij;have q':(vLt (rs.getD i []) (rs.getD j [])==some true)=false:=q;cases z:vLt (rs.getD i []) (rs.getD j []) with
     | none=>rw[z] at s;cases s
     | some b=>cases b with
      | true=>rw[z] at q';exact absurd q' (by decide)
      | false=>rfl
    have r:=zpk (f (fun z=>hab z.symm) e) (f (fun z=>hbc z.symm) e');show(_==_)=false;rw[r];rfl
section
variable{prog:Program}{w:World}{A:Around}{E:Value->Shared->Prop}{s:Shared}
theorem zmw{Q:Bool->Shared->Prop}{c:Bool}:∀{xs ys:List V} {us ws:List Value} {i:Nat} {fin:Bool},Vals xs us->Vals ys ws->fin=decide (xs.length < ys.length)->vLt xs ys=some c->Q c s ->
  PySem.W.KatLex prog w A true fin Q (us.zip ws) i s
 | [],[],_,_,i,fin, .nil, .nil,hf,h,q=>by
  simp[vLt] at h;subst h;subst hf;exact kat_nil q
 | [],_::_,_,_,i,fin, .nil, .cons _ _,hf,h,q=>by
  simp[vLt] at h;subst h;subst hf;exact kat_nil (by simpa using q)
 | _::_,[],_,_,i,fin, .cons _ _, .nil,hf,h,q=>by
  simp[vLt] at h;subst h;subst hf;exact kat_nil (by simpa using q)
 | u::x,v::y,_,_,i,fin, .cons a ta, .cons b tb,hf,h,q=>by
  cases u<;>cases v<;>first | (simp[vLt] at h;done) | skip
  case int m n =>
   obtain⟨t,rfl⟩:=a;obtain⟨t',rfl⟩:=b;unfold vLt at h;refine PySem.W.kat_cons (wpAny_eqBool_int ?_);by_cases e:m=n
   .rw[if_pos e] at h;rw[show(m==n)=true by simpa using e];exact PySem.W.kat_yes (zmw ta tb (by rw[hf];simp) h q)
   .rw[if_neg e] at h;rw[show(m==n)=false by simpa using e];have hc:decide (m < n)=c:=by simpa using h
    refine PySem.W.kat_no ?_;cases i with
    | zero=>exact oneLt_int (by rw[hc];exact q)
    | succ i=>exact PySem.W.kat_one _ _ (lt_int (show PySem.W.BoolBack Q (.bool _) s from by show Q _ s;rw[hc];exact q))
  case str m n =>
   obtain⟨t,rfl⟩:=a;obtain⟨t',rfl⟩:=b;unfold vLt at h;refine PySem.W.kat_cons (wpAny_eqBool_str ?_);by_cases e:m=n
   .rw[if_pos e] at h;rw[show decide (m=n)=true by simpa using e];exact PySem.W.kat_yes (zmw ta tb (by rw[hf];simp) h q)
   .rw[if_neg e] at h;rw[show decide (m=n)=false by simpa using e];have hc:decide (m.cps.toList < n.cps.toList)=c:=by simpa [sLt] using h
    refine PySem.W.kat_no ?_;cases i with
    | zero=>exact oneLt_str (by rw[hc];exact q)
    | succ i=>exact PySem.W.kat_one _ _ (lt_str (show PySem.W.BoolBack Q (.bool _) s from by show Q _ s;rw[hc];exact q))
end
def Fst(rs:List (List V)):Prop:=(∀r∈rs,∃x t,r= .str x::t)\/(∀r∈rs,∃x t,r= .int x::t)
def ziq(K:Frag)(H:Hp):List Addr->List (List V)->Prop:=Paired fun a ys=>SqT K H a ys
section
variable{X:Cx}{pins:List (Addr×Obj)}{σ:St}{H:Hp}{s:Shared}
theorem zln{h':Heap}(k:Kept s.heap h')(I:Inv X pins σ H s){T:String}:∀{as:List Addr} {rs:List (List V)},ziq X.K H as rs->(∀r∈rs,∃x t,r=x::t/\∀u,RelV x u->(typeOf u=(pure (.type T):Sem Value))) ->
  ∃fs,PySem.W.KatTups h' (as.map Value.ref) fs/\fs.length=as.length/\∀v∈fs,typeOf v=(pure (.type T):Sem Value)
 | _,_, .nil,_=>⟨[], .nil,rfl,fun _ h=>by cases h⟩
 | a::as,ys::rs, .cons q t,f=>by
  obtain⟨x,r,rfl,hx⟩:=f _ (.head _);obtain⟨its,v,⟨o,ho,hc,n,hd⟩,_⟩:=I.tuple q;obtain⟨fs,h1,h2,h3⟩:=zln k I t fun r hr=>f r (.tail _ hr)
  cases v with
  | cons a1 a2 =>
   rename_i u us;refine⟨u::fs, .cons (k _ _ ho) hc hd (by simp) h1,by simp[h2],fun v hv=>?_⟩;rcases List.mem_cons.mp hv with rfl | hv
   .exact hx _ a1
   .exact h3 _ hv
theorem zjA{as:List Addr}{rs:List (List V)}{i:Nat}:ziq X.K H as rs->i < as.length->∃a ys,as[i]? = some a/\rs.getD i []=ys/\SqT X.K H a ys:=fun r hi=>by
 induction r generalizing i with
 | nil=>simp at hi
 | cons q t ih =>
  cases i with
  | zero=>exact⟨_,_,rfl,rfl,q⟩
  | succ i =>
   obtain⟨a,ys,e,e2,z⟩:=ih (i:=i) (by simpa using hi);exact⟨a,ys,by simpa using e,by simpa using e2,z⟩
end
section
variable{X:Cx}(K:Frag)
def zml:List V->Hp->VK->Prop:=fun xs H Q=>∃p as rs,xs=[.ref p]/\(SqL K H p (as.map V.ref)\/SqT K H p (as.map V.ref))/\ziq K H as rs/\as.length < 64/\Fst rs/\(∀i j,i≠j->(vLt (rs.getD i []) (rs.getD j [])).isSome) /\
 ∀(q:Array Nat) l,PN as.length q->Srt (vAt rs) q as.length->H l=none->Q (.ref l) (upd H l (.lst (q.toList.map fun i=>V.ref (as.getD i 0))))
theorem ze5:∀{as:List Addr} {us:List Value},Vals (as.map V.ref) us->us=as.map Value.ref
 | [],_,h=>by cases h;rfl
 | a::as,_,h=>by
  cases h with
  | cons a1 a2=>rw[show _=Value.ref a from a1,ze5 a2];rfl
theorem zlC:∀(as:List Addr),Vals (as.map V.ref) (as.map Value.ref)
 | []=> .nil
 | a::as=> .cons rfl (zlC as)
theorem zoM(h:X.K=K:=by rfl):zN X (.builtin "sorted") (zml K):=by
 subst h;intro pins s σ H xs us Q I r h;obtain⟨p,as,rs,rfl,hl,hr,hz,hF,hS,q⟩:=h;obtain⟨u,rfl,rx⟩:=vals1 r;cases rx;have hv:s.heap.IsList p (as.map Value.ref).toArray\/IsTup s.heap p (as.map Value.ref).toArray:=by
  rcases hl with hl | hl
  .obtain⟨its,r',pl,_⟩:=I.list hl;rw[ze5 r'] at pl;exact .inl pl.isList
  .obtain⟨its,r',pl,_⟩:=I.tuple hl;rw[ze5 r'] at pl;exact .inr pl
 have hlen:(as.map Value.ref).length=as.length:=List.length_map ..;have tT:∃T:String,(Value.type T !=Value.type "tuple")=true/\(Value.type T==Value.type T)=true/\∀r∈rs,∃x t,r=x::t/\∀u,RelV x u->(typeOf u=(pure (.type T):Sem Value)):=by
  rcases hF with hF | hF
  .refine⟨"str",by decide,by decide,fun r hr=>?_⟩;obtain⟨x,t,rfl⟩:=hF r hr;exact⟨_,t,rfl,fun u hu=>by obtain⟨t,rfl⟩:=hu;rfl⟩
  .refine⟨"int",by decide,by decide,fun r hr=>?_⟩;obtain⟨x,t,rfl⟩:=hF r hr;exact⟨_,t,rfl,fun u hu=>by obtain⟨t,rfl⟩:=hu;rfl⟩
 obtain⟨T,hT1,hT2,hT3⟩:=tT;refine zox (κ:=tuples' true) (lt:=vAt rs) hv (zpA hS) ⟨fun A h' k h2 Q E hq=>?_,fun A h' k i j hi hj hij C hC=>?_⟩ (by rw[hlen];exact hz) fun p' h1 h2=>?_
 .obtain⟨fs,f1,f2,f3⟩:=zln k I hr hT3;refine PySem.W.kat_kind f1 (by rw[f2];rw[hlen] at h2;omega) (fun v hv=>PySem.W.Looks.of_pure (f3 v hv)) hT2 ?_;rw[hT1];exact hq
 .rw[hlen] at hi hj;obtain⟨a,ys,e1,e2,z⟩:=zjA hr hi;obtain⟨b,zs,e3,e4,z'⟩:=zjA hr hj;obtain⟨its,v,⟨o,ho,hc,n,hd⟩,_⟩:=I.tuple z;obtain⟨its',v',⟨o',ho',hc',n',hd'⟩,_⟩:=I.tuple z';rw[show(as.map Value.ref).getD i .none= .ref a by simp[e1],show(as.map Value.ref).getD j .none= .ref b by simp[e3]];refine PySem.W.kat_lt (s:={ s with heap:=h' }) (k _ _ ho) hd (k _ _ ho') hd' ?_;have hs:=hS i j hij;have hval:vLt ys zs=some (vAt rs i j):=by
   unfold vAt;rw[e2,e4] at hs ⊢;cases w:vLt ys zs with
   | none=>rw[w] at hs;cases hs
   | some b=>cases b<;>rfl
  exact zmw (xs:=ys) (ys:=zs) (by simpa using v) (by simpa using v') (by simp[v.length,v'.length]) hval hC
 .rw[hlen] at h1 h2;obtain⟨e,he⟩:=sortedAll_at s.heap (as.map Value.ref) (p'.toList.map fun i=>(as.map Value.ref).getD i .none).toArray;have hf:H (s.heap.objs.size+1)=none:=I.hok.fresh (Nat.le_succ _);have hout:(p'.toList.map fun i=>(as.map Value.ref).getD i .none)=(p'.toList.map fun i=>as.getD i 0).map Value.ref:=by
   rw[List.map_map];refine List.map_congr_left fun i hi=>?_
   have hi':i < as.length:=List.mem_range.mp (h1.mem_iff.mp hi);simp[hi']
  refine⟨.ref (s.heap.objs.size+1),_,I.laid (a:=s.heap.objs.size+1) (o:= .lst (p'.toList.map fun i=>V.ref (as.getD i 0))) (t':=s.toks) (fun b o e=>sortedAll_old e) (Nat.le_succ _) ?_,rfl,q p' _ h1 h2 hf⟩;refine⟨by rw[List.length_map,Array.length_toList,h1.sz];exact Nat.le_trans (Nat.le_of_lt hz) (by decide),(p'.toList.map fun i=>as.getD i 0).map Value.ref,e,?_,?_⟩
  .have:=zlC (p'.toList.map fun i=>as.getD i 0);rw[List.map_map] at this;exact this
  .rw[he,hout]
end
def zeo:List D->List D->Option Bool
 | [],[]=>some false
 | [],_::_=>some true
 | _::_,[]=>some false
 | .str a::xs, .str b::ys=>if a=b then zeo xs ys else some (sLt a b)
 | .int a::xs, .int b::ys=>if a=b then zeo xs ys else some (decide (a < b))
 | _::_,_::_=>none
section
variable{K:Frag}{W:Wd}
theorem zg0{c:Bool}:∀{ds es:List D} {xs ys:List V},zu K W ds xs->zu K W es ys->zeo ds es=some c->vLt xs ys=some c
 | [],[],_,_,a,b,h=>by rw[a.nil',b.nil'];simp[zeo] at h;subst h;rfl
 | [],_::_,_,_,a,b,h=>by obtain⟨y,r,rfl,_⟩:=b.uncons;rw[a.nil'];simp[zeo] at h;subst h;rfl
 | _::_,[],_,_,a,b,h=>by obtain⟨y,r,rfl,_⟩:=a.uncons;rw[b.nil'];simp[zeo] at h;subst h;rfl
 | d::ds,e::es,_,_,a,b,h=>by
  obtain⟨x,xs,rfl,qx,a'⟩:=a.uncons;obtain⟨y,ys,rfl,qy,b'⟩:=b.uncons;cases d<;>cases e<;>first | (simp[zeo] at h;done) | skip
  case int m n =>
   rw[qx.i',qy.i'];unfold zeo at h;unfold vLt;by_cases z:m=n
   .rw[if_pos z] at h ⊢; exact zg0 a' b' h
   .rw[if_neg z] at h ⊢; exact h
  case str m n =>
   rw[qx.s',qy.s'];unfold zeo at h;unfold vLt;by_cases z:m=n
   .rw[if_pos z] at h ⊢; exact zg0 a' b' h
   .rw[if_neg z] at h ⊢; exact h
theorem zns:∀{rows:List (List D)} {xs:List V},zu K W (rows.map D.tup) xs->∃as rs,xs=as.map V.ref/\ziq K W.F as rs/\Paired (fun ds ys=>zu K W ds ys) rows rs
 | [],_,h=>⟨[],[],by rw[h.nil'];rfl, .nil, .nil⟩
 | _::_,_,h=>by
  obtain⟨x,r,rfl,q,z⟩:=h.uncons;obtain⟨a,ys,rfl,e,q⟩:=q.tup';obtain⟨as,rs,rfl,h1,h2⟩:=zns z;exact⟨a::as,ys::rs,rfl, .cons e h1, .cons q h2⟩
theorem zvs{i:Nat}:∀{rows:List (List D)} {as:List Addr} {rs:List (List V)},ziq K W.F as rs->Paired (fun ds ys=>zu K W ds ys) rows rs->i < as.length ->
  ∃a,as.getD i 0=a/\SqT K W.F a (rs.getD i [])/\zu K W (rows.getD i []) (rs.getD i []):=fun{rows as rs} h g hi=>by
 induction h generalizing i rows with
 | nil=>simp at hi
 | cons q t ih =>
  cases g with
  | cons g1 g2 =>
   cases i with
   | zero=>exact⟨_,rfl,q,g1⟩
   | succ i=>obtain⟨a,e1,e2,e3⟩:=ih g2 (i:=i) (by simpa using hi);exact⟨a,by simpa using e1,by simpa using e2,by simpa using e3⟩
theorem zgL:∀{rows:List (List D)} {rs:List (List V)},Paired (fun ds ys=>zu K W ds ys) rows rs->∀i,zu K W (rows.getD i []) (rs.getD i []):=fun{rows rs} g=>by
 induction g with
 | nil=>intro i;simp[zu.nil]
 | cons g1 _ ih =>
  intro i;cases i with
  | zero=>exact g1
  | succ i=>simpa using ih i
end
def zw8(rs:List (List D)):Prop:=(∀r∈rs,∃x t,r= .str x::t)\/(∀r∈rs,∃x t,r= .int x::t)
theorem zuS{K:Frag}{W:Wd}:∀{rows:List (List D)} {rs:List (List V)},Paired (fun ds ys=>zu K W ds ys) rows rs->zw8 rows->Fst rs:=fun{rows rs} g h=>by
 rcases h with h | h
 .refine .inl ?_;induction g with
  | nil=>intro r hr;cases hr
  | cons g1 _ ih =>
   intro r hr;rcases List.mem_cons.mp hr with rfl | hr
   .obtain⟨x,t,rfl⟩:=h _ (.head _);obtain⟨y,s,rfl,q,_⟩:=g1.uncons;exact⟨x,s,by rw[q.s']⟩
   .exact ih (fun r hr=>h r (.tail _ hr)) r hr
 .refine .inr ?_;induction g with
  | nil=>intro r hr;cases hr
  | cons g1 _ ih =>
   intro r hr;rcases List.mem_cons.mp hr with rfl | hr
   .obtain⟨x,t,rfl⟩:=h _ (.head _);obtain⟨y,s,rfl,q,_⟩:=g1.uncons;exact⟨x,s,by rw[q.i']⟩
   .exact ih (fun r hr=>h r (.tail _ hr)) r hr
def rLe(a b:List D):Prop:=zeo b a≠some true
def zmm:DRs:=fun ds μ Q=>match ds with
 | [d]=>∃rows:List (List D),(zX μ d=some (rows.map D.tup)\/d= .tup (rows.map D.tup))/\rows.length < 64/\zw8 rows/\(∀i j,i≠j->(zeo (rows.getD i []) (rows.getD j [])).isSome) /\
   ∀rows',List.Perm rows' rows->List.Pairwise rLe rows'->Q (.lst (rows'.map D.tup)) μ
 | _=>False
instance{K:Frag}{fl:Wd}:zbm K fl (zml K) zmm:=⟨fun{W μ H ds xs Q Q'} r z h k=>by
 unfold zmm at h;split at h
 .obtain⟨x,rfl,q⟩:=z.one;obtain⟨rows,hl,hz,hF,hS,h⟩:=h;have hx:∃p xs,x= .ref p/\(SqL K H p xs\/SqT K H p xs)/\zu K W (rows.map D.tup) xs:=by
   rcases hl with hl | rfl
   .obtain⟨a,xs,rfl,e1,z1⟩:=zax r q hl;exact⟨a,xs,rfl, .inl (SqL.of e1),z1⟩
   .obtain⟨a,xs,rfl,e1,z1⟩:=q.tup';exact⟨a,xs,rfl, .inr (e1.sm r.sub),z1⟩
  obtain⟨p,xs,rfl,hp,z1⟩:=hx;obtain⟨as,rs,rfl,g1,g2⟩:=zns z1;have la:as.length=rows.length:=by have a:=Paired.length g1;have b:=Paired.length g2;omega
  have iSm:∀{o:Option Bool},o.isSome->∃c,o=some c:=fun{o} h=>by cases o with
   | none=>cases h
   | some c=>exact⟨c,rfl⟩
  refine⟨p,as,rs,rfl,hp,Paired.mapP g1 fun a ys e=>e.sm r.sub,by omega,zuS g2 hF,fun i j hij=>?_,fun qq l h1 h2 hl=>?_⟩
  .obtain⟨c,hc⟩:=iSm (hS i j hij);rw[zg0 (zgL g2 i) (zgL g2 j) hc];rfl
  .have mem:∀i∈qq.toList,i < as.length:=fun i hi=>List.mem_range.mp (h1.mem_iff.mp hi)
   obtain⟨r2,le2⟩:=r.newF (o:= .lst (qq.toList.map fun i=>V.ref (as.getD i 0))) hl;refine k _ (.lst ((qq.toList.map fun i=>rows.getD i []).map D.tup)) _ _ _ le2 r2 (.lst zz ?_) (h _ ?_ ?_)
   .have go:∀l:List Nat,(∀i∈l,i < as.length)->zu K W ((l.map fun i=>rows.getD i []).map D.tup) (l.map fun i=>V.ref (as.getD i 0)):=fun l=>by
     induction l with
     | nil=>intro _;exact .nil
     | cons i l ih =>
      intro hm;obtain⟨a,e1,e2,e3⟩:=zvs g1 g2 (hm i (.head _));refine .cons ?_ (ih fun j hj=>hm j (.tail _ hj));dsimp only;rw[e1];exact .tup e2 e3
    exact(go _ mem).mono le2
   .have e:rows=(List.range as.length).map fun i=>rows.getD i []:=by
     apply List.ext_getElem?;intro i;rw[la];by_cases hi:i < rows.length
     .simp[hi]
     .simp[hi,Nat.le_of_not_lt hi]
    have h1':List.Perm (qq.toList.map fun i=>rows.getD i []) ((List.range as.length).map fun i=>rows.getD i []):=h1.map _;rw[<- e] at h1';exact h1'
   .rw[List.pairwise_map,List.pairwise_iff_getElem];intro i j hi hj hij;have hn:qq.toList.length=as.length:=by rw[Array.length_toList,h1.sz]
    have gi:gN qq i=qq.toList[i]:=(by
     have z:i < qq.size:=(by simpa using hi);show qq.getD i 0=_;simp[Array.getD,z])
    have gj:gN qq j=qq.toList[j]:=(by
     have z:j < qq.size:=(by simpa using hj);show qq.getD j 0=_;simp[Array.getD,z])
    have:=h2 i j hij (by omega);rw[gi,gj] at this;intro hd;unfold vAt at this;rw[zg0 (zgL g2 _) (zgL g2 _) hd] at this;exact absurd this (by decide)
 .exact h.elim⟩
def zrX(K:Frag):List V->Hp->VK->Prop:=fun xs H Q=>zmz K xs H Q\/zml K xs H Q
theorem zjw{X:Cx}(K:Frag)(h:X.K=K:=by rfl)(hc:X.calm=true:=by rfl):zN X (.builtin "sorted") (zrX K):=(zfS K h hc).or (zoM K h)
def zjL:DRs:=fun ds μ Q=>zhq ds μ Q\/zmm ds μ Q
instance{K:Frag}{fl:Wd}:zbm K fl (zrX K) zjL:=⟨fun{W μ H ds xs Q Q'} r z h k=>by
 rcases h with h | h
 .exact .inl (zbm.run (K:=K) (r:=zmz K) (q:=zhq) r z h k)
 .exact .inr (zbm.run (K:=K) (r:=zml K) (q:=zmm) r z h k)⟩
theorem zi1{rows:List (List D)}{d:D}{μ:Mu}{Q:DK}(hl:zX μ d=some (rows.map D.tup)\/d= .tup (rows.map D.tup))(hz:rows.length < 64)(hF:zw8 rows)(hS:∀i j,i≠j->(zeo (rows.getD i []) (rows.getD j [])).isSome)(h:∀rows',List.Perm rows' rows->List.Pairwise rLe rows'->Q (.lst (rows'.map D.tup)) μ):zjL [d] μ Q:= .inr ⟨rows,hl,hz,hF,hS,h⟩
abbrev zbI:=List Key
instance decKeyT(k:zbI)(ks:List zbI):Decidable (k∈ks):=@List.instDecidableMemOfLawfulBEq zbI instBEqOfDecidableEq inferInstance k ks
def zes:List D->Option zbI
 | []=>some []
 | d::r=>match zl8 d,zes r with
  | some k,some ks=>some (k::ks)
  | _,_=>none
def zc4:List zbI->List D->zbI->Option D
 | k::ks,v::vs,q=>if k=q then some v else zc4 ks vs q
 | _,_,_=>none
def zj8(ks:List zbI)(k:zbI):List zbI:=if k∈ks then ks else ks++[k]
def zkV(ks:List zbI)(vs:List D)(k:zbI)(v:D):List D:=if k∈ks then List.zipWith (fun k' v'=>if k'=k then v else v') ks vs else vs++[v]
def zoN(c:Option Ct)(R:List zbI->List D->Prop):Prop:=match c with
 | some (.dtt ks vs)=>R ks vs
 | _=>False
def ztd(μ:Mu)(d:D)(R:List zbI->List D->Prop):Prop:=match d with
 | .cell k=>zoN (μ k) R
 | .dtt ks vs=>R ks vs
 | _=>False
theorem zoL{ks:List zbI}{vs:List D}{R:List zbI->List D->Prop}:zoN (some (.dtt ks vs)) R=R ks vs:=rfl
theorem ztk{μ:Mu}{k:Nat}{R:List zbI->List D->Prop}:ztd μ (.cell k) R=zoN (μ k) R:=rfl
def zsE(wo:DE)(w:DA):DE:=fun ρ μ Q=>wo ρ μ fun d μ1=>w ρ μ1 fun ds μ2=>ds.length<=1000/\ztd μ2 d fun ks vs=>zaO (zes ds) fun k=>zaO (zc4 ks vs k) fun v=>Q v μ2
def zvt(neg:Bool)(w:DA)(wo:DE):DE:=fun ρ μ Q=>w ρ μ fun ds μ1=>ds.length<=1000/\wo ρ μ1 fun d μ2=>ztd μ2 d fun ks vs=>zaO (zes ds) fun k=>Q (.bl (neg ^^ decide (k∈ks))) μ2
section
variable{K:Frag}{fl:Wd}{W:Wd}
theorem zjS{k:zbI}:∀{ds:List D} {xs:List V},zu K W ds xs->zes ds=some k->xs=k.map kV:=fun{ds}=>by
 induction ds generalizing k with
 | nil=>intro xs r h;unfold zes at h;cases h;exact r.nil'
 | cons d t ih =>
  intro xs r h;obtain⟨x,xs',rfl,q,r⟩:=r.uncons;unfold zes at h;split at h
  .rename_i k0 ks e1 e2;cases h;rw[zgP q e1,ih r e2];rfl
  .cases h
theorem zhy{k:zbI}:∀{ks:List zbI} {vs:List D} {xs:List V},ks.length=xs.length->zu K W vs xs->(∀v,zc4 ks vs k=some v->∃y,zcG (ks.zip xs) k=some y/\Rep K W v y)/\(zc4 ks vs k=none->zcG (ks.zip xs) k=none)
 | [],vs,xs,_,_=>⟨fun v h=>by cases vs<;>simp[zc4] at h,fun _=>rfl⟩
 | q::ks,[],xs,h,r=>by rw[r.nil'] at h;simp at h
 | q::ks,d::vs,xs,h,r=>by
  obtain⟨x,t,rfl,q1,q2⟩:=r.uncons;have ih:=zhy (k:=k) (ks:=ks) (vs:=vs) (xs:=t) (by simpa using h) q2;by_cases e:q=k
  .have hv:zcG ((q::ks).zip (x::t)) k=some x:=by rw[List.zip_cons_cons];exact zeJ (p:=(q,x)) e
   rw[hv];exact⟨fun v hl=>by rw[zc4,if_pos e] at hl;cases hl;exact⟨x,rfl,q1⟩,fun hl=>by rw[zc4,if_pos e] at hl;cases hl⟩
  .have hv:zcG ((q::ks).zip (x::t)) k=zcG (ks.zip t) k:=by rw[List.zip_cons_cons];exact zew (p:=(q,x)) e
   rw[hv,zc4,if_neg e];exact ih
theorem zkT{k:zbI}:∀{ks:List zbI} {vs:List D},ks.length=vs.length->(zc4 ks vs k).isSome=decide (k∈ks)
 | [],vs,_=>by simp[zc4]
 | q::ks,[],h=>by simp at h
 | q::ks,d::vs,h=>by
  have ih:=zkT (k:=k) (ks:=ks) (vs:=vs) (by simpa using h);by_cases e:q=k
  .simp[zc4,e]
  .have e':¬ k=q:=fun z=>e z.symm
   simp[zc4,e,e',ih]
theorem zu6{k:zbI}{ks:List zbI}{vs:List D}{xs:List V}(h:ks.length=xs.length)(r:zu K W vs xs):(zcG (ks.zip xs) k).isSome=decide (k∈ks):=by
 have hl:ks.length=vs.length:=by rw[h,r.length]
 rw[<- zkT hl];obtain⟨a,b⟩:=zhy (k:=k) h r;cases e:zc4 ks vs k with
 | none=>rw[b e];rfl
 | some v=>obtain⟨y,ey,_⟩:=a v e;rw[ey];rfl
theorem zmR{k:zbI}:∀{ks:List zbI} {xs:List V},ks.length=xs.length->((ks.zip xs).any fun kv=>decide (kv.1=k))=decide (k∈ks)
 | [],_,_=>by simp
 | q::ks,[],h=>by simp at h
 | q::ks,x::xs,h=>by
  have ih:=zmR (k:=k) (ks:=ks) (xs:=xs) (by simpa using h);rw[List.zip_cons_cons,List.any_cons,ih];by_cases e:q=k
  .simp[e]
  .have e':¬ k=q:=fun z=>e z.symm
   simp[e,e']
theorem zrJ{k:zbI}{y:V}{v:D}{ks:List zbI}{vs:List D}{xs:List V}(h:ks.length=xs.length)(r:zu K W vs xs)(q:Rep K W v y):∃xs',putK (ks.zip xs) k y=(zj8 ks k).zip xs'/\(zj8 ks k).length=xs'.length/\zu K W (zkV ks vs k v) xs':=by
 unfold putK zj8 zkV;rw[zmR h];by_cases m:k∈ks
 .rw[if_pos (decide_eq_true m),if_pos m,if_pos m];clear m;induction ks generalizing vs xs with
  | nil=>exact⟨[],rfl,rfl,by simp[zu.nil]⟩
  | cons a ks ih =>
   cases xs with
   | nil=>simp at h
   | cons x xs =>
    cases vs with
    | nil=>rw[r.nil'] at h;simp at h
    | cons d vs =>
     obtain⟨x',t,e,q1,q2⟩:=r.uncons;cases e;obtain⟨xs',e1,e2,e3⟩:=ih (by simpa using h) q2;refine⟨(if a=k then y else x)::xs',?_,by simp[e2],?_⟩
     .rw[List.zip_cons_cons,List.map_cons,e1];by_cases e:a=k
      .simp[e]
      .simp[e]
     .rw[List.zipWith_cons_cons];refine .cons ?_ e3;by_cases e:a=k
      .simp only[if_pos e];exact q
      .simp only[if_neg e];exact q1
 .rw[if_neg (by simpa using m),if_neg m,if_neg m];refine⟨xs++[y],?_,by simp[h],r.append (.cons q .nil)⟩;rw[List.zip_append h];rfl
theorem zm7{μ:Mu}{H:Hp}{d:D}{x:V}{R:List zbI->List D->Prop}(r:Rel K fl W μ H)(q:Rep K W d x)(h:ztd μ d R):∃a ks vs xs,x= .ref a/\H a=some (.dT (ks.zip xs))/\ks.length=xs.length/\zu K W vs xs/\R ks vs:=by
 unfold ztd at h;split at h
 .rename_i k;obtain⟨a,rfl,hb⟩:=q.cell';unfold zoN at h;split at h
  .rename_i ks vs hk;obtain⟨a',e1,e2,xs,e3,l,z⟩:=r.cel k _ hk;rw[hb] at e1;cases e1;exact⟨a,ks,vs,xs,rfl,e3,l,z,h⟩
  .exact h.elim
 .unfold Rep at q;obtain⟨a,xs,rfl,e,l,z⟩:=q;exact⟨a,_,_,xs,rfl,r.sub _ _ e,l,z,h⟩
 .exact h.elim
theorem zuB{μ:Mu}{H:Hp}{p:Addr}{xs:List V}{ds:List D}{k:zbI}(r:Rel K fl W μ H)(q:zu K W ds xs)(hp:H p=none)(hk:zes ds=some k):∃W',W.le W'/\Rel K fl W' μ (upd H p (.tup xs))/\(upd H p (.tup xs)) p=some (.tup (k.map kV)):=by
 obtain⟨r2,le2⟩:=r.newF (o:= .tup xs) hp;exact⟨_,le2,r2,by rw[zz,zjS q hk]⟩
instance{ta:TE}{t:TA}{wa:DE}{w:DA}[a:zQ K fl ta wa][b:zbK K fl t w]:zQ K fl (zpD ta (zow t)) (zsE wa w):=⟨fun{W ρ μ σ H Q Q'} r e h k=>a.run r e h fun W1 d μ1 x H1 le1 r1 q1 h1=>b.run r1 (e.mono le1) h1 fun W2 ds μ2 ys H2 le2 r2 q2 h2=>by
 obtain⟨hz,h3⟩:=h2;refine⟨by rw[q2.length];exact Nat.le_trans hz (by decide),fun p hp=>?_⟩;obtain⟨c,ks,vs,xs,rfl,ea,l,z,h3⟩:=zm7 r2 (q1.mono le2) h3;obtain⟨kk,ek,h3⟩:=zaY h3;obtain⟨v,ev,h3⟩:=zaY h3;obtain⟨y',ey,qy⟩:=(zhy (k:=kk) l z).1 v ev;obtain⟨W3,le3,r3,ep⟩:=zuB r2 q2 hp ek;refine⟨c,y',rfl,?_,k W3 v μ2 y' _ (le1.trans (le2.trans le3)) r3 (qy.mono le3) h3⟩;rw[<- ey];exact zeY.t (by rw[zE (zan ea hp)];exact ea) ep⟩
theorem zvc{neg:Bool}{ta:TE}{t:TA}{wa:DE}{w:DA}(a:zQ K fl ta wa)(b:zbK K fl t w){W ρ μ σ H Q}{Q':VK}(r:Rel K fl W μ H)(e:zbh K W ρ σ)(h:zvt neg w wa ρ μ Q)(k:KV' K fl W Q Q') :
  zow t σ H fun y H1=>ta σ H1 fun x H2=>∃a o,x= .ref a/\zeY H2 a y o/\Q' (.bl (neg ^^ o.isSome)) H2:=b.run r e h fun W1 ds μ1 ys H1 le1 r1 q1 h1=>by
 obtain⟨hz,h2⟩:=h1;refine⟨by rw[q1.length];exact Nat.le_trans hz (by decide),fun p hp=>?_⟩;obtain⟨r1',le1'⟩:=r1.newF (o:= .tup ys) hp;refine a.run r1' (e.mono (le1.trans le1')) h2 fun W2 d μ2 x H2 le2 r2 q2 h3=>?_
 obtain⟨c,ks,vs,xs,rfl,ea,l,z,h3⟩:=zm7 r2 q2 h3;obtain⟨kk,ek,h3⟩:=zaY h3;have ep:H2 p=some (.tup (kk.map kV)):=by
  rw[r2.sub _ _ (le2.F _ _ (show upd W1.F p (.tup ys) p=some (.tup ys) from zz)),zjS q1 ek]
 refine⟨c,_,rfl,zeY.t ea ep,?_⟩;rw[zu6 l z];exact k W2 _ μ2 _ H2 (le1.trans (le1'.trans le2)) r2 .b h3
instance{ta:TE}{t:TA}{wa:DE}{w:DA}[a:zQ K fl ta wa][b:zbK K fl t w]:zQ K fl (tOp zlL (zow t) ta) (zvt true w wa):=⟨fun{W ρ μ σ H Q Q'} r e h k=>by
 have g:=zvc a b r e h k;simp only[Bool.true_xor] at g;exact g⟩
end
def zf2(c:Nat)(g:DG)(wc:DT)(w:DA)(wv:DE)(ρb:zad)(Pm:Mu->Prop)(Fin:Mu->Prop):List D->Mu->Prop
 | [],μ=>Pm μ/\Fin μ
 | d::r,μ=>Pm μ/\g d ρb μ fun ρ2 μ2=>wc ρ2 μ2 fun b μ3=>if b=true then w ρ2 μ3 fun es μ4=>es.length<=1000/\wv ρ2 μ4 fun v μ5=>zoN (μ5 c) fun ks vs=>zaO (zes es) fun kk=>ks.length<=1000/\zf2 c g wc w wv ρb Pm Fin r (zF μ5 c (.dtt (zj8 ks kk) (zkV ks vs kk v))) else zf2 c g wc w wv ρb Pm Fin r μ3
def zoI(own:List Str)(fr:List Nat)(S:List Nat)(wi:DI)(g:DG)(wc:DT)(w:DA)(wv:DE):DE:=fun ρ μ Q=>(S.all fun i=>decide (i < own.length))=true/\wi ρ μ fun ds Pm μ1=>∀c,μ1 c=none ->
 zf2 c g wc w wv (List.replicate own.length none++zea ρ fr) Pm (fun μ2=>Q (.cell c) μ2) ds (zF μ1 c (.dtt [] []))
section
variable{K:Frag}{fl:Wd}{t:TA}{tv:TE}{w:DA}{wv:DE}{tc:TT}{wc:DT}{wi:TI}{di:DI}{g:TG}{dg:DG}{S:List Nat}
instance{own:List Str}{fr:List Nat}[a:zn6 K fl wi di][b:zj7 K fl g dg S][c:zfi K fl tc wc][v1:zbK K fl t w][v2:zQ K fl tv wv]:zQ K fl (zoC (.dT []) own fr wi g tc (zow t) tv) (zoI own fr S di dg wc w wv):=⟨fun{W ρ μ σ H Q Q'} r e h k =>
 a.run r e h.2 fun W0 J ds Pm μ1 H1 le0 r0 it0 h1 D hD=>by
  have hz:(1001:Nat)<=sizeLine:=by decide
  obtain⟨cc,W1,hcc,le01,r1,eb⟩:=r0.newC (o:= .dT []) (c:= .dtt [] []) hD ⟨[],rfl,rfl, .nil⟩;have le1:=le0.trans le01;have e1:zbh K W1 ρ σ:=e.mono le1;have hS:=h.1;refine⟨fun i m H=>∃W2 μ2,W1.le W2/\Rel K fl W2 μ2 H/\m=ds.length - i/\zf2 cc dg wc w wv (List.replicate own.length none++zea ρ fr) Pm (fun μ2=>Q (.cell cc) μ2) (ds.drop i) μ2,⟨_,W1,_, .refl _,r1,rfl,h1 cc hcc⟩,?_⟩;rintro i m H2 ⟨W2,μ2,le2,r2,rfl,h2⟩;have hPm:Pm μ2:=by
   cases hdr:ds.drop i with
   | nil=>rw[hdr] at h2;exact h2.1
   | cons _ _=>rw[hdr] at h2;exact h2.1
  obtain⟨go,stop⟩:=it0 W2 μ2 H2 (le01.trans le2) r2 hPm i;by_cases hi:i < ds.length
  .refine .inr ?_;have hd:ds[i]? = some ds[i]:=List.getElem?_eq_getElem hi;obtain⟨g1,g2⟩:=go _ hd;rw[List.drop_eq_getElem_cons hi] at h2;obtain⟨_,h2⟩:=h2;refine⟨g1,fun H'=>∃W3 μ3,W1.le W3/\Rel K fl W3 μ3 H'/\zf2 cc dg wc w wv (List.replicate own.length none++zea ρ fr) Pm (fun μ2=>Q (.cell cc) μ2) (ds.drop (i+1)) μ3,fun H' ⟨W3,μ3,l3,r3,h3⟩=>⟨ds.length - (i+1),by omega,W3,μ3,l3,r3,rfl,h3⟩,fun x H' y=>?_⟩;obtain⟨W3,le3,r3,q3⟩:=g2 x H' y;refine b.run r3 (((e1.comp own fr).mono le2).mono le3) q3 h2 fun W4 ρ4 μ4 σ4 H4 le4 r4 e4 l4 s4 h4=>⟨⟨l4.symm,fun j v hj=>?_⟩,?_⟩
   .by_cases hjS:j∈S
    .have:j < own.length:=of_decide_eq_true (List.all_eq_true.mp hS j hjS);rw[List.getElem?_append_left (by simp;exact this),List.getElem?_map,List.getElem?_eq_getElem this] at hj;cases hj
    .rw[s4 j hjS];exact hj
   .refine c.run r4 e4 h4 fun W5 bb μ5 H5 le5 r5 h5=>?_
    cases bb with
    | true =>
     refine v1.run r5 (e4.mono le5) h5 fun W6 es μ6 ys H6 le6 r6 q6 h6=>?_
     obtain⟨hzs,h6⟩:=h6;refine⟨by rw[q6.length];exact Nat.le_trans hzs (by decide),fun p hp=>?_⟩;obtain⟨r6',le6'⟩:=r6.newF (o:= .tup ys) hp;refine v2.run r6' (e4.mono (le5.trans (le6.trans le6'))) h6 fun W7 d7 μ7 x7 H7 le7 r7 q7 h7=>?_
     have leAll:=le2.trans (le3.trans (le4.trans (le5.trans (le6.trans (le6'.trans le7)))));have hb7:W7.b cc=some D:=leAll.b _ _ eb;unfold zoN at h7;split at h7
     .rename_i ks vs hk;obtain⟨a',f1,f2,xs,f3,l,z⟩:=r7.cel cc _ hk;rw[hb7] at f1;cases f1;obtain⟨kk,ek,hl,h8⟩:=zaY h7;have ep:H7 p=some (.tup (kk.map kV)):=by
       rw[r7.sub _ _ (le7.F _ _ (show upd W6.F p (.tup ys) p=some (.tup ys) from zz)),zjS q6 ek]
      obtain⟨xs',p1,p2,p3⟩:=zrJ (k:=kk) l z q7;refine⟨_,zkG.t f3 ep (by rw[List.length_zip,<- l,Nat.min_self];omega),?_⟩;rw[p1];exact⟨W7,_,leAll,r7.setC (c':= .dtt (zj8 ks kk) (zkV ks vs kk d7)) hk hb7 ⟨xs',rfl,p2,p3⟩,h8⟩
     .exact h7.elim
    | false=>exact⟨W5,μ5,le2.trans (le3.trans (le4.trans le5)),r5,h5⟩
  .rw[List.drop_eq_nil_of_le (by omega)] at h2;exact .inl ⟨stop (by omega),k W2 (.cell cc) μ2 _ H2 (le1.trans le2) r2 (by unfold Rep;exact⟨D,rfl,le2.b _ _ eb⟩) h2.2⟩⟩
end
def zxr(prog:Program)(w:World)(A:Around)(h0:Heap)(op:CmpOp)(P:Nat->Value->Prop)(bt:Nat->Nat->Bool):Prop :=
 ∀i j vi vj (s:Shared) (Q:Value->Shared->Prop) (E:Value->Shared->Prop),Kept h0 s.heap->P i vi->P j vj->Q (.bool (bt i j)) s->wpAny (model prog w) A (richCompare op vi vj) Q E s
section
variable{prog:Program}{w:World}{A:Around}{R:Result->Shared->Prop}{I:Addr}{fp wr:List Addr}{n:Nat}{P:Nat->Value->Prop}{St:Nat->Heap->Prop}{h0:Heap}
theorem zqt(W:Walks prog w A.in1 I fp wr n P St)(bt:Nat->Nat->Bool)(hcmp:zxr prog w A.in1 h0 .Lt P bt)(S:Addr)(hSf:S∉fp)(h0S:h0.get? S=none)(h0w:∀b o,h0.get? b=some o->b∉wr) :
  ∀(k j:Nat) (s:Shared) (vb:Value) (c:Nat),Kept h0 s.heap->n - (j+1)=k->j+1<=n->St (j+1) s.heap->P (argBest bt j) vb ->
  s.heap.get? S=some { cls:= .type "list",dict:=none,data:= .seq #[vb,vb] c,slots:= #[] } ->
  (∀v h' tk,P (argBest bt (n - 1)) v->(∀b o,b∉wr->b≠S->s.heap.get? b=some o->h'.get? b=some o)->R (.ok (.ret v)) { s with heap:=h',toks:=tk }) ->
  codeAny (model prog w) A (.builtin "min.loop" ⟨[.ref I, .none, .ref S],[]⟩) R s:=by
 have hSw:S∉wr:=fun h=>hSf (W.sub _ h)
 have hname:(toString "min"++toString ".loop":String)="min.loop":=by decide
 have neS:∀b o,h0.get? b=some o->b≠S:=fun b o e z=>by rw[z,h0S] at e;cases e
 intro k;induction k with
 | zero =>
  intro j s vb c hk0 hk hj hst hPb hS hR;have hin:j+1=n:=by omega
  refine codeAny_builtin F.entry_min_loop ?_;rw[Around.under_plainId F.plain_min_loop _];show wpAny _ A.in1 (seqItems? (.ref S) >>= _) _ _ s;refine wpAny_bind (wpAny_seqItems hS rfl ?_);show wpAny _ A.in1 (tryCatch (pyNext (.ref I)) _ >>= _) _ _ s;refine wpAny_bind (wpAny_tryCatch (W.done s _ _ (hin▸hst) fun h' tk hk'=>?_));have hS':=hk' S _ hSw hS;show wpAny _ A.in1 (updateSeq S (fun _=> #[]) >>= _) _ _ _;refine wpAny_bind ?_;refine wpAny_updateSeq hS' rfl (wpAny_bind (wpAny_letGo (wpAny_pure ?_)));refine hR vb _ tk (by rw[<- hin];exact hPb) fun b o hbw hbS e=>(Heap.get?_update_other _ _ (Ne.symm hbS)).trans (hk' b o hbw e)
 | succ k ih =>
  intro j s vb c hk0 hk hj hst hPb hS hR;have hlt:j+1 < n:=by omega
  refine codeAny_builtin F.entry_min_loop ?_;rw[Around.under_plainId F.plain_min_loop _];show wpAny _ A.in1 (seqItems? (.ref S) >>= _) _ _ s;refine wpAny_bind (wpAny_seqItems hS rfl ?_);show wpAny _ A.in1 (tryCatch (pyNext (.ref I)) _ >>= _) _ _ s;refine wpAny_bind (wpAny_tryCatch (W.item (j+1) s _ _ hlt hst fun v h' tk hP hst' hk'=>?_));have hS':=hk' S _ hSw hS;have hk1:Kept h0 h':=fun b o e=>hk' b o (h0w b o e) (hk0 b o e)
  show wpAny _ A.in1 (tryCatch (holding [v,v] (richCompare .Lt v vb >>= _)) _ >>= _) _ _ _;refine wpAny_bind (wpAny_tryCatch (wpAny_holding (wpAny_bind (hcmp (j+1) (argBest bt j) v vb _ _ _ hk1 hP hPb ?_))));refine wpAny_bind (wpAny_holding (wpAny_truthy_bool ?_));refine wpAny_bind (wpAny_letGo (wpAny_pure ?_));cases hb:bt (j+1) (argBest bt j) with
  | true =>
   simp only[if_true];refine wpAny_bind ?_;refine wpAny_updateSeq hS' rfl (wpAny_bind (wpAny_letGo ?_));rw[hname];refine wpAny_pure ⟨plainId_quiet F.plain_min_loop _,ih (j+1) _ v _ (fun b o e=>(Heap.get?_update_other _ _ (Ne.symm (neS b o e))).trans (hk1 b o e)) (by omega) hlt (W.frame _ _ _ hst' fun b hbf o e=>?_) (by simp only[argBest,hb,if_true];exact hP) (Heap.get?_update_self _ hS' rfl)
    fun v' h'' tk'' hP' hk''=>?_⟩
   .exact(Heap.get?_update_other _ _ (fun h:S=b=>hSf (by rw[h];exact hbf))).trans e
   .exact hR v' h'' tk'' hP' fun b o hbw hbS e=>hk'' b o hbw hbS ((Heap.get?_update_other _ _ (Ne.symm hbS)).trans (hk' b o hbw e))
  | false =>
   simp only[Bool.false_eq_true,if_false];refine wpAny_bind (wpAny_letGo ?_);rw[hname];refine wpAny_pure ⟨plainId_quiet F.plain_min_loop _,ih (j+1) _ vb c hk1 (by omega) hlt hst' (by simp only[argBest,hb,Bool.false_eq_true,if_false];exact hPb) hS' fun v' h'' tk'' hP' hk''=>?_⟩;exact hR v' h'' tk'' hP' fun b o hbw hbS e=>hk'' b o hbw hbS (hk' b o hbw e)
theorem zoS(W:Walks prog w A.in1 I fp wr n P St)(bt:Nat->Nat->Bool)(hcmp:zxr prog w A.in1 h0 .Lt P bt)(S:Addr)(hSf:S∉fp)(h0S:h0.get? S=none)(h0w:∀b o,h0.get? b=some o->b∉wr)(hn:0 < n){s:Shared}{c:Nat}(hk0:Kept h0 s.heap)(hst:St 0 s.heap)
  (hS:s.heap.get? S=some { cls:= .type "list",dict:=none,data:= .seq #[] c,slots:= #[] })
  (hR:∀v h' tk,P (argBest bt (n - 1)) v->(∀b o,b∉wr->b≠S->s.heap.get? b=some o->h'.get? b=some o)->R (.ok (.ret v)) { s with heap:=h',toks:=tk }) :
  codeAny (model prog w) A (.builtin "min.loop" ⟨[.ref I, .none, .ref S],[]⟩) R s:=by
 have hSw:S∉wr:=fun h=>hSf (W.sub _ h)
 have hname:(toString "min"++toString ".loop":String)="min.loop":=by decide
 have neS:∀b o,h0.get? b=some o->b≠S:=fun b o e z=>by rw[z,h0S] at e;cases e
 refine codeAny_builtin F.entry_min_loop ?_;rw[Around.under_plainId F.plain_min_loop _];show wpAny _ A.in1 (seqItems? (.ref S) >>= _) _ _ s;refine wpAny_bind (wpAny_seqItems hS rfl ?_);show wpAny _ A.in1 (tryCatch (pyNext (.ref I)) _ >>= _) _ _ s;refine wpAny_bind (wpAny_tryCatch (W.item 0 s _ _ hn hst fun v h' tk hP hst' hk'=>?_));have hS':=hk' S _ hSw hS;show wpAny _ A.in1 (updateSeq S (fun _=> #[v,v]) >>= _) _ _ _;refine wpAny_bind ?_;refine wpAny_updateSeq hS' rfl ?_;rw[hname];refine wpAny_pure ⟨plainId_quiet F.plain_min_loop _,zqt W bt hcmp S hSf h0S h0w _ 0 _ v _ (fun b o e=>(Heap.get?_update_other _ _ (Ne.symm (neS b o e))).trans (hk' b o (h0w b o e) (hk0 b o e))) rfl hn (W.frame _ _ _ hst' fun b hbf o e=>?_) hP (Heap.get?_update_self _ hS' rfl) fun v' h'' tk'' hP' hk''=>?_⟩
 .exact(Heap.get?_update_other _ _ (fun h:S=b=>hSf (by rw[h];exact hbf))).trans e
 .exact hR v' h'' tk'' hP' fun b o hbw hbS e=>hk'' b o hbw hbS ((Heap.get?_update_other _ _ (Ne.symm hbS)).trans (hk' b o hbw e))
end
section
variable{prog:Program}{w:World}{A:Around}{E:Value->Shared->Prop}{s:Shared}
theorem zrz{l:Addr}{items:Array Value}{bt:Nat->Nat->Bool}{Q:Value->Shared->Prop}(hh:A.handled=none)(hl:s.heap.IsList l items)(hne:0 < items.size)
  (hcmp:zxr prog w A.in1 s.heap .Lt (fun i v=>items[i]? = some v) bt)
  (h:∀v h' tk,items[argBest bt (items.size - 1)]? = some v->(∀b o,s.heap.get? b=some o->h'.get? b=some o)->Q v { s with heap:=h',toks:=tk }) :
  wpAny (model prog w) A (call (.builtin "min") [.ref l]) Q E s:=by
 have hname:(toString "min"++toString ".loop":String)="min.loop":=by decide
 have hlt:l < s.heap.objs.size:=by obtain⟨_,e,_⟩:=hl;exact Heap.lt_size e
 refine call_function_tree F.kind_min F.plain_min F.entry_min (F.args_min1 _) ?_;show wpAny _ A.in1 (Builtin.Builtins.bindParams "min" ["key","default"] 0 ⟨[],[]⟩ >>= _) _ _ s;refine wpAny_bind (wpAny_of_eq (show Builtin.Builtins.bindParams "min" ["key","default"] 0 ⟨[],[]⟩=pure [none,none] from rfl) ?_);refine wpAny_bind (wpAny_pure ?_);refine wpAny_bind (wpAny_pyIter_list hl ?_);refine wpAny_bind (wpAny_newObj_type ?_);have hsz:(s.heap.push { cls:= .type "list_iterator",data:= .fields #[.ref l, .int 0 0] }).objs.size=s.heap.objs.size+1:=Heap.size_push ..;rw[hname];have n0:∀b o,s.heap.get? b=some o->b∉[s.heap.objs.size]:=fun b o e hb=>by
  rcases List.mem_cons.mp hb with z | z
  .rw[z] at e;exact absurd (Heap.lt_size e) (Nat.lt_irrefl _)
  .cases z
 refine wpAny_pure ⟨plainId_quiet F.plain_min_loop _,zoS (h0:=s.heap) (c:=0) (Walks.list (A:=A.in1) hh s.heap.objs.size l (Nat.ne_of_lt hlt) items) bt hcmp (s.heap.push { cls:= .type "list_iterator",data:= .fields #[.ref l, .int 0 0] }).objs.size ?_ ?_ n0 hne (fun b o e=>?_) ?_ ?_ fun v h' tk hP hk=>?_⟩
 .rw[hsz];intro hm;rcases List.mem_cons.mp hm with z | z
  .exact absurd z (Nat.succ_ne_self _)
  .rcases List.mem_cons.mp z with z | z
   .rw[<- z] at hlt;exact absurd (Nat.lt_trans (Nat.lt_succ_self _) hlt) (Nat.lt_irrefl _)
   .cases z
 .rw[hsz];exact Heap.get?_none_of_le (Nat.le_succ _)
 .exact Heap.get?_push_of_some _ (Heap.get?_push_of_some _ e)
 .exact⟨⟨_,Heap.get?_push_of_some _ (Heap.get?_push_size _ rfl),rfl,rfl⟩,(hl.push _).push _⟩
 .exact Heap.get?_push_size _ rfl
 .exact h v h' tk hP fun b o e=>hk b o (n0 b o e) (by rw[hsz];exact Nat.ne_of_lt (Nat.lt_succ_of_lt (Heap.lt_size e))) (Heap.get?_push_of_some _ (Heap.get?_push_of_some _ e))
end
theorem zih{lt:Nat->Nat->Bool}(O:Ord lt):∀k,argBest lt k<=k/\∀j,j<=k->lt j (argBest lt k)=false
 | 0=>⟨Nat.le_refl _,fun j hj=>by
  have:j=0:=by omega
  subst this;by_cases h:lt 0 0=true
  .have:=O.as _ _ h;rw[this] at h;cases h
  .simpa [argBest] using h⟩
 | k+1=>by
  obtain⟨h1,h2⟩:=zih O k;by_cases hb:lt (k+1) (argBest lt k)=true
  .simp only[argBest,hb,if_true];refine⟨Nat.le_refl _,fun j hj=>?_⟩;by_cases e:j=k+1
   .subst e;by_cases h:lt (k+1) (k+1)=true
    .have:=O.as _ _ h;rw[this] at h;cases h
    .simpa using h
   .exact O.tr _ _ _ (O.as _ _ hb) (h2 j (by omega))
  .have hb':lt (k+1) (argBest lt k)=false:=by simpa using hb
   simp only[argBest,hb',Bool.false_eq_true,if_false];refine⟨by omega,fun j hj=>?_⟩;by_cases e:j=k+1
   .subst e;exact hb'
   .exact h2 j (by omega)
section
variable{X:Cx}(K:Frag)
theorem zmn:∀ns ms:List Int,vLt (ns.map V.int) (ms.map V.int)=some (HT.lexLt ns ms)
 | [],[]=>rfl
 | [],_::_=>rfl
 | _::_,[]=>rfl
 | a::ns,b::ms=>by
  rw[List.map_cons,List.map_cons,HT.zdQ];unfold vLt;by_cases e:a=b
  .rw[if_pos e,if_pos e,zmn ns ms]
  .rw[if_neg e,if_neg e]
def zwx:List V->Hp->VK->Prop:=fun xs H Q=>∃(p:Addr) (as:List Addr) (nss:List (List Int)),xs=[.ref p]/\SqL K H p (as.map V.ref)/\ziq K H as (nss.map fun ns=>ns.map V.int)/\as≠[] /\
 ∀i,i < as.length->(∀j,j < as.length->HT.lexLt (nss.getD j []) (nss.getD i [])=false)->Q (.ref (as.getD i 0)) H
theorem zq3(hc:X.calm=true)(hu:X.A.units+1 < cLine)(h:X.K=K:=by rfl):zN X (.builtin "min") (zwx K):=by
 subst h;intro pins s σ H xs us Q I r h;obtain⟨p,as,nss,rfl,hl,hr,hne,q⟩:=h;obtain⟨u,rfl,rx⟩:=vals1 r;cases rx;obtain⟨its,r',pl,_⟩:=I.list hl;rw[ze5 r'] at pl;have la:(as.map Value.ref).toArray.size=as.length:=by simp
 have g:∀i,(nss.map fun ns=>ns.map V.int).getD i []=(nss.getD i []).map V.int:=fun i=>by
  by_cases hi:i < nss.length
  .simp[hi]
  .simp[hi,Nat.le_of_not_lt hi]
 have pos:0 < as.length:=by
  cases as with
  | nil=>exact absurd rfl hne
  | cons _ _=>exact Nat.succ_pos _
 have O:Ord (fun i j=>HT.lexLt (nss.getD i []) (nss.getD j [])):=by
  have:=zpA (rs:=nss.map fun ns=>ns.map V.int) fun i j _=>by rw[g,g,zmn];rfl
  have e:vAt (nss.map fun ns=>ns.map V.int)=fun i j=>HT.lexLt (nss.getD i []) (nss.getD j []):=by
   funext i j;unfold vAt;rw[g,g,zmn];cases HT.lexLt (nss.getD i []) (nss.getD j [])<;>rfl
  rw[<- e];exact this
 refine zrz (bt:=fun i j=>HT.lexLt (nss.getD i []) (nss.getD j [])) (I.ok.hd hc) pl.isList (by rw[la];exact pos) (fun i j vi vj s' Q' E' hk hi hj hQ=>?_) fun v h' tk hv hk=>?_
 .have at':∀{i v},(as.map Value.ref).toArray[i]? = some v->∃a its,v= .ref a/\IsTup s.heap a its/\IntsAre its.toList (nss.getD i []):=fun{i v} e=>by
   have hi:i < as.length:=by
    by_cases z:i < as.length
    .exact z
    .simp[Nat.le_of_not_lt z] at e
   obtain⟨a,ys,e1,e2,e3⟩:=zjA hr hi;obtain⟨its,v',tp,_⟩:=I.tuple e3;rw[g] at e2;rw[<- e2] at v';refine⟨a,its.toArray,?_,tp,intsAre_of v'⟩;simp[e1] at e;exact e.symm
  obtain⟨a,ia,rfl,ta,na⟩:=at' hi;obtain⟨b,ib,rfl,tb,nb⟩:=at' hj;exact HT.zoF (ta.keeps hk) (tb.keeps hk) na nb (by show X.A.units+1 < cLine;exact hu) hQ
 .obtain⟨h1,h2⟩:=zih O ((as.map Value.ref).toArray.size - 1);rw[la] at h1 h2;have hi:argBest (fun i j=>HT.lexLt (nss.getD i []) (nss.getD j [])) (as.length - 1) < as.length:=by omega
  rw[la] at hv;generalize argBest (fun i j=>HT.lexLt (nss.getD i []) (nss.getD j [])) (as.length - 1)=i at *
  refine⟨.ref (as.getD i 0),H,I.kept hk,?_,q _ hi fun j hj=>h2 j (by omega)⟩;simp[hi] at hv;rw[<- hv];simp[hi,RelV]
end
def zwg(K:Frag):List V->Hp->VK->Prop:=fun xs H Q=>zpq K xs H Q\/zwx K xs H Q
theorem zrq{X:Cx}(K:Frag)(hu:X.A.units+1 < cLine)(hc:X.calm=true:=by rfl)(h:X.K=K:=by rfl):zN X (.builtin "min") (zwg K):=(zhv K hc h).or (zq3 K hc hu h)
def zwv:DRs:=fun ds μ Q=>zl7 ds μ Q\/match ds with
 | [d]=>∃nss:List (List Int),zX μ d=some (nss.map fun ns=>D.tup (ns.map D.int))/\nss≠[]/\∀m∈nss,(∀n∈nss,HT.lexLt n m=false)->Q (.tup (m.map D.int)) μ
 | _=>False
theorem znY{K:Frag}{W:Wd}:∀{nss:List (List Int)} {xs:List V},zu K W (nss.map fun ns=>D.tup (ns.map D.int)) xs->∃as,xs=as.map V.ref/\ziq K W.F as (nss.map fun ns=>ns.map V.int)
 | [],_,h=>⟨[],by rw[h.nil'];rfl, .nil⟩
 | ns::_,_,h=>by
  obtain⟨x,r,rfl,q,z⟩:=h.uncons;obtain⟨a,ys,rfl,e,q⟩:=q.tup';obtain⟨as,rfl,h1⟩:=znY z;rw[q.ints] at e;exact⟨a::as,rfl, .cons e h1⟩
theorem zpN{K:Frag}{H:Hp}:∀{nss:List (List Int)} {as:List Addr} {i:Nat},ziq K H as (nss.map fun ns=>ns.map V.int)->i < as.length->SqT K H (as.getD i 0) ((nss.getD i []).map V.int)
 | [],_,_,g,hi=>by cases g;simp at hi
 | ns::nss,_,i,g,hi=>by
  cases g with
  | cons g1 g2 =>
   cases i with
   | zero=>exact g1
   | succ i=>simpa using zpN (i:=i) g2 (by simpa using hi)
instance{K:Frag}{fl:Wd}:zbm K fl (zwg K) zwv:=⟨fun{W μ H ds xs Q Q'} r z h k=>by
 rcases h with h | h
 .exact .inl (zbm.run (K:=K) (r:=zpq K) (q:=zl7) r z h k)
 .split at h
  .obtain⟨x,rfl,q⟩:=z.one;obtain⟨nss,hl,hne,h⟩:=h;obtain⟨a,xs,rfl,e1,z1⟩:=zax r q hl;obtain⟨as,rfl,g1⟩:=znY z1;have la:as.length=nss.length:=by have:=Paired.length g1;simpa using this
   refine .inr ⟨a,as,nss,rfl,SqL.of e1,Paired.mapP g1 fun a ys e=>e.sm r.sub,?_,fun i hi hm=>?_⟩
   .intro e;rw[e] at la;exact hne (List.length_eq_zero_iff.mp la.symm)
   .have hin:i < nss.length:=by omega
    have e2:=zpN g1 hi;refine k W _ μ _ H (.refl _) r (.tup e2 (zu.of_ints _)) (h (nss.getD i []) ?_ fun n hn=>?_)
    .simp[hin]
    .obtain⟨j,hj,rfl⟩:=List.getElem_of_mem hn;have:=hm j (by omega);simpa [hj] using this
  .exact h.elim⟩
end L2
set_option maxHeartbeats 4000000
namespace L2
open PySem PySem.Spec PyProof.Rows
theorem zaf{N Q:List Str}{sc:Scope}(a:sc.kind= .function:=by rfl)(b:sc.isCoroutine=false:=by rfl)(c:sc.isGenerator=false:=by rfl)(d:N.Nodup:=by decide+kernel)(e:N.take Q.length=Q:=by rfl)
  (f:∀x∈Q,sc.names.lookup x=some .local\/sc.names.lookup x=some .cell:=by decide+kernel)(g:∀y∈sc.names,y.2≠ .free:=by decide+kernel):zG N Q sc:=⟨a,b,c,d,e,f,g⟩
section
variable{p:List Value->Prop}
theorem al0(h:p []):∀us,us.length=0->p us:=fun us e=>match us,e with | [],_=>h
theorem alS{n:Nat}(h:∀a us,us.length=n->p (a::us)):∀us,us.length=n+1->p us:=fun us e=>match us,e with | a::us,e=>h a us (Nat.succ.inj e)
theorem al1(h:∀a,p [a]):∀us,us.length=1->p us:=alS fun a=>al0 (h a)
theorem al2(h:∀a b,p [a,b]):∀us,us.length=2->p us:=alS fun a=>al1 (p:=fun us=>p (a::us)) (h a)
theorem al3(h:∀a b c,p [a,b,c]):∀us,us.length=3->p us:=alS fun a=>al2 (p:=fun us=>p (a::us)) (h a)
theorem al4(h:∀a b c d,p [a,b,c,d]):∀us,us.length=4->p us:=alS fun a=>al3 (p:=fun us=>p (a::us)) (h a)
theorem al5(h:∀a b c d e,p [a,b,c,d,e]):∀us,us.length=5->p us:=alS fun a=>al4 (p:=fun us=>p (a::us)) (h a)
theorem al6(h:∀a b c d e f,p [a,b,c,d,e,f]):∀us,us.length=6->p us:=alS fun a=>al5 (p:=fun us=>p (a::us)) (h a)
theorem al7(h:∀a b c d e f g,p [a,b,c,d,e,f,g]):∀us,us.length=7->p us:=alS fun a=>al6 (p:=fun us=>p (a::us)) (h a)
theorem al8(h:∀a b c d e f g i,p [a,b,c,d,e,f,g,i]):∀us,us.length=8->p us:=alS fun a=>al7 (p:=fun us=>p (a::us)) (h a)
end
section
variable{K:Frag}{x q m c:Str}{C f:Addr}{fd:FuncData}{st:Stmt}{fs:List Str}
structure zrZ(K:Frag)(x:Str)(st:Stmt)(f:Addr)(fd:FuncData):Prop where
 at_:nsIn K mainGlobals x=some (some (.ref f))
 F:Fun K x x st f fd
structure zbH(K:Frag)(x:Str)(st:Stmt)(f:Addr)(fd:FuncData):Prop extends zrZ K x st f fd where
 df:fd.defaults= .none
structure zga(K:Frag)(C:Addr)(x q:Str)(st:Stmt)(f:Addr)(fd:FuncData):Prop where
 at_:findIn K (.ref C) x=some (some (.ref f))
 fn:isFn K (.ref f)=true
 F:Fun K x q st f fd
structure zto(K:Frag)(c:Str)(C:Addr)(fs:List Str):Prop where
 at_:nsIn K mainGlobals c=some (some (.ref C))
 cl:Cls K C
 ms:makesIn K C=true
 kp:keepIn K (.ref C)=true
 na:∀f∈fs,zcQ K C f
theorem zcD{f:Str}(h:findIn K (.ref C) f=some none)(t:∀x∈fs,zcQ K C x):∀x∈f::fs,zcQ K C x:=List.forall_mem_cons.mpr ⟨h,t⟩
abbrev zdl(K:Frag)(fd:FuncData)(ps ks:List Str)(n m:Nat)(pat:List Src)(cs:List Value):Prop:=∀(S:Setting) (us:List Value),us.length=n->∀ws:List Value,ws.length=m->PySem.W.peek K S (bindArgs fd ⟨us,ks.zip ws⟩)=some (ps.zip (sel n m pat .none cs us ws))
theorem kbk{ps ks:List Str}{n j:Nat}{pat:List Src}{csV:List V}{csU:List Value}(h:zdl K fd ps ks n j pat csU)(hc:Vals csV csU)(hp:ps.length≠0:=by decide):zcX K fd ps ks (sel n j pat .none csU) (sel n j pat .non csV):=zys hc hp fun S us ws a b=>h S us a ws b
variable{P:Program}{w:World}{mg:Str->Option Value}{base h:Heap}{CX:CXT}{k:Nat}{ps ks:List Str}{sp:Sp}{g:List Value->List Value->List Value}{gV:List V->List V->List V}
theorem zbH.bd(A:zbH K x st f fd)(b:∀(kV doc pm:Value) (an:Option Addr) (cdv ct:Value) (us:List Value),us.length=ps.length->bindArgs (fnOf x x (zgm st) (zdg st) (zx st) .none kV doc pm an cdv ct) ⟨us,[]⟩=pure (ps.zip us):=by intro _ _ _ _ _ _;first | exact al1 fun _=>rfl | exact al2 fun _ _=>rfl | exact al3 fun _ _ _=>rfl | exact al4 fun _ _ _ _=>rfl | exact al5 fun _ _ _ _ _=>rfl | exact al6 fun _ _ _ _ _ _=>rfl | exact al7 fun _ _ _ _ _ _ _=>rfl | exact al8 fun _ _ _ _ _ _ _ _=>rfl):Binds K fd ps []:=A.F.binds b A.df
theorem zrZ.has(A:zrZ K x st f fd)(b:Binds K fd ps [])(X:K.In h)(G:h.Ns mainGlobals mg)(ok:zV P w K mg base CX k f fd ps sp):Has P w K mg base CX x k ps sp:=⟨_,_,ok,b,A.F.kp,mg_of X G A.at_⟩
theorem zrZ.hasK(A:zrZ K x st f fd)(X:K.In h)(G:h.Ns mainGlobals mg)(ok:zV P w K mg base CX k f fd ps sp)(kb:zcX K fd ps ks g gV):zu2 P w K mg base CX x k ps sp ks gV:=⟨⟨_,_,_,ok,kb,A.F.kp,mg_of X G A.at_⟩⟩
theorem zga.hasT(A:zga K C m q st f fd)(a:zto K c C fs)(ok:zV P w K mg base CX k f fd ps sp)(kb:zcX K fd ps ks g gV):zft P w K mg base CX c m k ps sp ks gV:=⟨⟨C,_,_,_,zcg a.at_,a.cl,⟨A.at_,A.fn,A.F.kp⟩,ok,kb⟩⟩
theorem zga.hasM(A:zga K C "__init__" q st f fd)(a:zto K c C fs)(X:K.In h)(G:h.Ns mainGlobals mg)(ok:zV P w K mg base CX k f fd ps sp)(kb:zcX K fd ps ks g gV):zll P w K mg base CX c k ps sp ks gV:=⟨⟨C,_,_,_,zcg a.at_,⟨a.ms,A.at_,A.fn,a.kp⟩,ok,kb,mg_of X G a.at_⟩⟩
end
section
variable{X:Cx}{a b e:Expr}{x:Str}{pos pos':Pos}{ta tb te:TE}
theorem qS(i:Nat)(hN:X.N.Nodup)(he:WE X e te)(hi:X.N[i]? = some x:=by rfl)(hx:Loc X.env.scope x:=by first | exact Or.inl rfl | exact Or.inr rfl)(hs:swapsWith e (some (.Name x pos')) pos.line X.env=pure false:=by rfl)
  (hf:X.fn x=true\/X.env.scope.names.lookup x=some .local:=by first | exact .inl rfl | exact .inr rfl | assumption):WS X (.Assign [.Name x pos'] e pos) (zdO te (zd8 i)):=zmL hN hi hx he hs hf
theorem qG(i:Nat)(hN:X.N.Nodup)(hi:X.N[i]? = some x:=by rfl)(hx:Loc X.env.scope x:=by first | exact Or.inl rfl | exact Or.inr rfl)(hf:X.fn x=true\/X.env.scope.names.lookup x=some .local:=by first | exact .inl rfl | exact .inr rfl | assumption):WG X (.Name x pos) (zd8 i):=zaH hN hi hx hf
theorem qx(K:Frag)(ha:WE X a ta)(hb:WE X b tb)(h:X.K=K:=by rfl)(hs:zlX b:=by exact fun _ _=>rfl):WE X (.Subscript a b pos) (tOp (rIx K) ta tb):=zee (zvC K h) ha hb hs
theorem qa1(ha:WE X a ta)(h1:starEach [a] X.env=(false,eval a X.env)::starEach [] X.env:=by rfl):WA X [a] (zej ta zhr):=zy ha zcv h1
theorem qa2(ha:WE X a ta)(hb:WE X b tb)(h1:starEach [a,b] X.env=(false,eval a X.env)::starEach [b] X.env:=by rfl)(h2:starEach [b] X.env=(false,eval b X.env)::starEach [] X.env:=by rfl):WA X [a,b] (zej ta (zej tb zhr)):=zy ha (zy hb zcv h2) h1
end
end L2
set_option synthInstance.maxHeartbeats 4000000
set_option synthInstance.maxSize 100000
namespace M
open PySem L2
def top(i:Nat):Stmt:=PySem.Challenge.pw_slotwright_k31_worst_coming.main.body.getD i (.Pass ⟨0,0,0,0⟩)
abbrev zdV:Stmt:=top 13
abbrev zgE:List Str:=["text","signs","most"]
theorem zfq:zG zgE ["text","signs","most"] (zx zdV):=zaf
abbrev zhw:Stmt:=top 14
abbrev zlI:List Str:=["text"]
theorem zjG:zG zlI ["text"] (zx zhw):=zaf
abbrev zd4:Stmt:=top 15
abbrev zgZ:List Str:=["text"]
theorem zfv:zG zgZ ["text"] (zx zd4):=zaf
abbrev zet:Stmt:=top 16
abbrev zif:List Str:=["thing"]
theorem zgl:zG zif ["thing"] (zx zet):=zaf
abbrev zdv:Stmt:=top 17
abbrev zfR:List Str:=["thing"]
theorem zeA:zG zfR ["thing"] (zx zdv):=zaf
abbrev zcV:Stmt:=top 18
abbrev zeE:List Str:=["number","least","most"]
theorem zd7:zG zeE ["number","least","most"] (zx zcV):=zaf
abbrev zdS:Stmt:=inClass (top 24) 0
abbrev zgD:List Str:=["self"]
theorem zfQ:zG zgD ["self"] (zx zdS):=zaf
abbrev zeU:Stmt:=inClass (top 24) 1
abbrev zib:List Str:=["self","name"]
theorem zgj:zG zib ["self","name"] (zx zeU):=zaf
abbrev zf8:Stmt:=inClass (top 24) 2
abbrev ziZ:List Str:=["self","name"]
theorem zhQ:zG ziZ ["self","name"] (zx zf8):=zaf
abbrev zfZ:Stmt:=inClass (top 24) 3
abbrev zjI:List Str:=["self","name","senders","ears","wire"]
theorem zit:zG zjI ["self","name","senders","ears","wire"] (zx zfZ):=zaf
abbrev zfY:Stmt:=inClass (top 24) 7
abbrev zjy:List Str:=["self","name"]
theorem zh9:zG zjy ["self","name"] (zx zfY):=zaf
abbrev zcR:Stmt:=inClass (top 24) 11
abbrev zeP:List Str:=["self","name","kind"]
theorem zd9:zG zeP ["self","name","kind"] (zx zcR):=zaf
abbrev zcp:Stmt:=inClass (top 24) 12
abbrev zei:List Str:=["self","name"]
theorem zdI:zG zei ["self","name"] (zx zcp):=zaf
abbrev zbR:Stmt:=inClass (top 24) 13
abbrev zda:List Str:=["self","ends","text"]
theorem zc2:zG zda ["self","ends"] (zx zbR):=zaf
abbrev zdN:Stmt:=top 25
abbrev zgV:List Str:=["ends"]
theorem zfy:zG zgV ["ends"] (zx zdN):=zaf
abbrev zcS:Stmt:=inClass (top 32) 0
abbrev zeH:List Str:=["self","name","ways","every","long","release","last"]
theorem zeh:zG zeH ["self","name","ways","every","long","release","last"] (zx zcS):=zaf
abbrev zd3:Stmt:=top 33
abbrev zgq:List Str:=["ways","way"]
theorem zfz:zG zgq ["ways"] (zx zd3):=zaf
abbrev zeO:Stmt:=top 34
abbrev zim:List Str:=["way"]
theorem zgy:zG zim ["way"] (zx zeO):=zaf
abbrev zbL:Stmt:=top 35
abbrev zdf:List Str:=["one","two"]
theorem zc3:zG zdf ["one","two"] (zx zbL):=zaf
abbrev zct:Stmt:=top 38
abbrev zel:List Str:=["rows"]
theorem zdB:zG zel ["rows"] (zx zct):=zaf
abbrev zcW:Stmt:=inClass (top 40) 0
abbrev zeu:List Str:=["self","rows"]
theorem zek:zG zeu ["self","rows"] (zx zcW):=zaf
abbrev zfX:Stmt:=inClass (top 40) 2
abbrev zji:List Str:=["self","name","way","held"]
theorem zhN:zG zji ["self","name","way"] (zx zfX):=zaf
abbrev zl3:Stmt:=top 41
abbrev zqa:List Str:=["net","frame","table","slack","comings","at","way","last","wire"]
theorem zn3:zG zqa ["net","frame","table","slack"] (zx zl3):=zaf
abbrev zeG:Stmt:=top 43
theorem zmp:zG ["_law_script"] ["_law_script"] (zx zeG):=zaf
abbrev zf4:Stmt:=top 44
theorem zc8:zG ["_law_s","_law_many","_law_cell","_law_found"] ["_law_s","_law_many"] (zx zf4):=zaf
abbrev zgg:Stmt:=top 45
abbrev zjb:List Str:=["_law_s","_law_row_here"]
theorem zhW:zG zjb ["_law_s","_law_row_here"] (zx zgg):=zaf
abbrev zgh:Stmt:=top 46
abbrev zkn:List Str:=["_law_s","_law_names","_law_letters","_law_turn","_law_size","_law_word","_law_k"]
theorem zie:zG zkn ["_law_s","_law_names"] (zx zgh):=zaf
abbrev zhz:Stmt:=top 47
abbrev zlb:List Str:=["_law_s","_law_names","_law_lines","_law_one","_law_two","_law_barred","_law_fit","_law_line"]
theorem zi2:zG zlb ["_law_s","_law_names","_law_lines","_law_one","_law_two","_law_barred"] (zx zhz):=zaf
abbrev zha:Stmt:=top 48
abbrev zk9:List Str:=["_law_s","_law_names","_law_lines","_law_gates","_law_first","_law_the_last","_law_barred","_law_free","_law_way_here","_law_k","_law_gate"]
theorem zjq:zG zk9 ["_law_s","_law_names","_law_lines","_law_gates","_law_first","_law_the_last","_law_barred"] (zx zha):=zaf
abbrev zf7:Stmt:=top 49
abbrev zjg:List Str:=["_law_row_here","_law_lines","_law_the_slack","_law_the_most","_law_way_here","_law_sums","_law_line"]
theorem zhP:zG zjg ["_law_row_here","_law_lines","_law_the_slack"] (zx zf7):=zaf
abbrev zhn:Stmt:=top 50
abbrev zlH:List Str:=["_law_s","_law_names","_law_lines","_law_houses","_law_gates","_law_the_slack","_law_at","_law_first","_law_the_last","_law_ways","_law_the_every","_law_the_long","_law_row_here","_law_spare"]
theorem zkg:zG zlH ["_law_s","_law_names","_law_lines","_law_houses","_law_gates","_law_the_slack"] (zx zhn):=zaf
abbrev zez:Stmt:=top 51
abbrev zhI:List Str:=["_law_s","_law_the_most","_law_names","_law_houses","_law_gates","_law_the_slack","_law_lines","_law_rows"]
theorem zg5:zG zhI ["_law_s","_law_the_most"] (zx zez):=zaf
abbrev zhC:Stmt:=top 52
abbrev zlv:List Str:=["_law_world_here","_law_net_here","_law_name_here","_law_senders","_law_ears","_law_the_wire"]
theorem zjX:zG zlv ["_law_world_here"] (zx zhC):=zaf
abbrev zeX:Stmt:=top 53
abbrev zic:List Str:=["_law_row_here"]
theorem zgt:zG zic ["_law_row_here"] (zx zeX):=zaf
abbrev zf3:Stmt:=top 54
abbrev zjd:List Str:=["_law_lines","_law_name_here","_law_line"]
theorem zhH:zG zjd ["_law_lines","_law_name_here"] (zx zf3):=zaf
abbrev zeZ:Stmt:=top 55
abbrev zhZ:List Str:=["_law_rows","_law_found","_law_row_here","_law_k","_law_way_here","_law_h","_law_line"]
theorem zgF:zG zhZ ["_law_rows"] (zx zeZ):=zaf
abbrev zdp:Stmt:=top 56
abbrev zfs:List Str:=["_law_rows","_law_starts","_law_found","_law_at","_law_row_here","_law_k","_law_h","_law_line"]
theorem zeN:zG zfs ["_law_rows","_law_starts"] (zx zdp):=zaf
abbrev ze2:Stmt:=top 57
abbrev zis:List Str:=["_law_x"]
theorem zgI:zG zis ["_law_x"] (zx ze2):=zaf
abbrev zs3:Stmt:=top 58
abbrev zrW:List Str:=["_law_script","_law_s","_law_world_here","_law_net_here","_law_the_spots","_law_starts","_law_even","_law_due","_law_at","_law_row_here","_law_k","_law_h","_law_line","_law_sums","_law_table","_law_found"]
theorem zsD:zG zrW ["_law_script"] (zx zs3):=zaf
section
variable{P:Program}{w:World}{K:Frag}{mg:Str->Option Value}{base:Heap}
theorem zv3{f:Addr}{fd:FuncData}(F:Fun K "_law_draw" "_law_draw" zf4 f fd)(B:Blt mg):zV P w K mg base CX0 1 f fd ["_law_s","_law_many"] zmF:=by
 refine F.okq zc8 (fun vs H Q E h=>?_) (fun cdv A outer s H vs Q E hr h=>?_)
 .obtain⟨a,l,m,rfl,_⟩:=h;rfl
 obtain⟨a,l,many,rfl,⟨ns,i,b,c,ha,hl,hi,hb,hal⟩,hm,hm2,q⟩:=h;refine⟨_,(zf (zak (zH zwq (zee (za8 K) (qv 0) zc (fun _ _=>rfl)) zc (zap _))
  (zf (zmL (i:=2) zc8.nd rfl (Or.inl rfl) zc)
  (zf (zak (zH zki (zee (za8 K) (qv 0) zc (fun _ _=>rfl)) (zA (zqg K) rfl B.len zaA (zy (zee (za8 K) (qv 0) zc (fun _ _=>rfl)) zcv)) (zap _))
  (zf (zmL (i:=2) zc8.nd rfl (Or.inl rfl) (zee (za8 K) (zee (za8 K) (qv 0) zc (fun _ _=>rfl)) (zee (za8 K) (qv 0) zc (fun _ _=>rfl)) (fun _ _=>rfl)))
  (zj (zg7 (zO zmA (zee (za8 K) (qv 0) zc (fun _ _=>rfl)) zc) (zhh (qv 0) zc set_list))))
  zK)
  (zj (zak (WW.qt (zgx (zH ztj (qv 2) (zO zsl zc zc) (zap _)) (zeV (zH zkf (qv 2) (zdy zb0 (zO zsl zc zc)) (zap _)))))
  (zj (zg7 (zA zrS rfl B.abs zw5 (zy (qv 2) zcv)) (zhh (qv 0) zc set_list)))
  (zf (zg7 (zO zhb (zO zmA (zO zmA (zO zsa (zee (za8 K) (qv 0) zc (fun _ _=>rfl)) zc) (zO zhb (qv 2) zc)) zc) zc) (zhh (qv 0) zc set_list))
  (zj (zac (zO zhb (zO zeC (zee (za8 K) (qv 0) zc (fun _ _=>rfl)) zc) (qv 1)))))))))
  zK)
  (zf (zmL (i:=3) zc8.nd rfl (Or.inl rfl) (zO zhb (zee (za8 K) (qv 0) zc (fun _ _=>rfl)) (qv 1)))
  (zf (zg7 (zO zeC (zee (za8 K) (qv 0) zc (fun _ _=>rfl)) (qv 1)) (zhh (qv 0) zc set_list))
  (zj (zac (qv 3)))))),?_⟩
 have fin:∀(H1:Hp) (i1 b1 c1:Int) (x:Option V),H1 a=some (.lst [.ref l, .int i1, .int b1, .int c1])->0<=i1->0<=b1->zlO a H H1 ->
   (zkx (zdO (tOp (rI (fun _ j=>0 < j) fun i j=> .int (i % j)) (tOp (zjD K) (zbg 0) (tC (.int 2))) (zbg 1)) (zd8 3))
    (zkx (zdO (tOp (rI zio fun i j=> .int (i / j)) (tOp (zjD K) (zbg 0) (tC (.int 2))) (zbg 1)) (zlN (zbg 0) (tC (.int 2)) ziw)) (zoR (zbg 3)))) { nx:=fun _ H'=>Q .non H',rt:=Q } [some (.ref a),some (.int many),x,none] H1:=by
  intro H1 i1 b1 c1 x h1 hi1 hb1 o1;refine⟨_,rfl,_,_,_,_,rfl,rfl,SqL.of h1,rfl,_,rfl,_,_,rfl,rfl,hm,?_⟩;refine⟨_,rfl,_,_,_,_,rfl,rfl,SqL.of h1,rfl,_,rfl,_,_,rfl,rfl,⟨hm,hm2⟩,?_⟩;refine⟨_,rfl,_,_,_,_,rfl,rfl,h1,rfl,?_⟩;refine⟨_,rfl,?_⟩;refine q _ _ (Int.emod_nonneg _ (by omega)) (Int.emod_lt_of_pos _ hm) ⟨ns,i1,b1 / many,c1,zz,?_,hi1,Int.ediv_nonneg hb1 (by omega),hal⟩ fun z hz=>?_
  .rw[zE hal.symm,o1 _ hal.symm];exact hl
  .rw[zE hz];exact o1 z hz
 refine⟨_,rfl,_,_,_,_,rfl,rfl,SqL.of ha,rfl,rfl,_,rfl,?_⟩;refine zvZ (fun c0=>?_) (fun c0=>?_)
 .refine⟨_,rfl,_,_,_,_,rfl,rfl,SqL.of ha,rfl,_,rfl,_,_,_,_,rfl,rfl,SqL.of ha,rfl,_,_,rfl, .inl (SqL.of hl),_,_,rfl,rfl,_,rfl,?_⟩;have cellEnd:∀(H1:Hp) (i1 cell:Int),H1 a=some (.lst [.ref l, .int i1, .int b, .int c])->0<=i1->zlO a H H1 ->
   (zvN (tOr (zjx (tOp (rI0 fun i j=> .bl (decide (j<=i))) (zbg 2) (tOp (rI zvH fun i j=> .int (i^j.toNat)) (tC (.int 10)) (tC (.int 18)))))
     (zjx (tOp (rI0 fun i j=> .bl (decide (i<=j))) (zbg 2) (tUn (rU fun i=> .int (-i)) (tOp (rI zvH fun i j=> .int (i^j.toNat)) (tC (.int 10)) (tC (.int 18)))))))
    (zdO (tCB (fun xs H Q=>∃i,xs=[.int i]/\Q (.int (if i < 0 then -i else i)) H) (zej (zbg 2) zhr)) (zlN (zbg 0) (tC (.int 2)) ziw))
    (zkx (zdO (tOp (rI (fun _ j=>0 < j) fun i j=> .int (i % j)) (tOp (rI0 fun i j=> .int (i+j)) (tOp (rI0 fun i j=> .int (i+j)) (tOp (rI zmK fun i j=> .int (i*j)) (tOp (zjD K) (zbg 0) (tC (.int 3))) (tC (.int 48271))) (tOp (rI (fun _ j=>0 < j) fun i j=> .int (i % j)) (zbg 2) (tC (.int 2147483647)))) (tC (.int 11))) (tC (.int 2147483647))) (zlN (zbg 0) (tC (.int 3)) ziw))
     (zoR (tOp (rI (fun _ j=>0 < j) fun i j=> .int (i % j)) (tOp (rI zio fun i j=> .int (i / j)) (tOp (zjD K) (zbg 0) (tC (.int 3))) (tC (.int 64))) (zbg 1)))))
    {nx:=(zkx (zdO (tOp (rI (fun _ j=>0 < j) fun i j=> .int (i % j)) (tOp (zjD K) (zbg 0) (tC (.int 2))) (zbg 1)) (zd8 3))
    (zkx (zdO (tOp (rI zio fun i j=> .int (i / j)) (tOp (zjD K) (zbg 0) (tC (.int 2))) (zbg 1)) (zlN (zbg 0) (tC (.int 2)) ziw)) (zoR (zbg 3)))) { nx:=fun _ H'=>Q .non H',rt:=Q },rt:=Q } [some (.ref a),some (.int many),some (.int cell),none] H1:=by
   intro H1 i1 cell h1 hi1 o1;have big:(zdO (tCB (fun xs H Q=>∃i,xs=[.int i]/\Q (.int (if i < 0 then -i else i)) H) (zej (zbg 2) zhr)) (zlN (zbg 0) (tC (.int 2)) ziw))
     {nx:=(zkx (zdO (tOp (rI (fun _ j=>0 < j) fun i j=> .int (i % j)) (tOp (zjD K) (zbg 0) (tC (.int 2))) (zbg 1)) (zd8 3))
    (zkx (zdO (tOp (rI zio fun i j=> .int (i / j)) (tOp (zjD K) (zbg 0) (tC (.int 2))) (zbg 1)) (zlN (zbg 0) (tC (.int 2)) ziw)) (zoR (zbg 3)))) { nx:=fun _ H'=>Q .non H',rt:=Q },rt:=Q } [some (.ref a),some (.int many),some (.int cell),none] H1:=by
    refine⟨_,rfl,_,rfl,_,rfl,_,_,_,_,rfl,rfl,h1,rfl,?_⟩;exact fin _ i1 (if cell < 0 then -cell else cell) c _ zz hi1 (by split<;>omega) fun z hz=>by rw[zE hz];exact o1 z hz
   refine⟨_,rfl,_,_,rfl,rfl,⟨by decide,by decide,by decide⟩,_,_,rfl,rfl,_,rfl,?_⟩;refine zvZ (fun c1=>?_) (fun c1=>?_)
   .exact zz6 big
   .refine⟨_,rfl,_,_,rfl,rfl,⟨by decide,by decide,by decide⟩,_,rfl,_,_,rfl,rfl,_,rfl,?_⟩;refine zvZ (fun c2=>big) (fun c2=>?_);refine⟨_,rfl,_,_,_,_,rfl,rfl,SqL.of h1,rfl,_,_,rfl,rfl, .inr ⟨by decide,by decide⟩,_,rfl,_,_,rfl,rfl,(show(0:Int) < 2147483647 by decide),_,_,rfl,rfl,_,_,rfl,rfl,_,_,rfl,rfl,(show(0:Int) < 2147483647 by decide),?_⟩;refine⟨_,rfl,_,_,_,_,rfl,rfl,h1,rfl,?_⟩;refine⟨_,rfl,_,_,_,_,rfl,rfl,SqL.of zz,rfl,_,_,rfl,rfl,⟨by decide,by decide⟩,_,rfl,_,_,rfl,rfl,hm,?_⟩;refine q _ _ (Int.emod_nonneg _ (by omega)) (Int.emod_lt_of_pos _ hm) ⟨ns,i1,b,_,zz,?_,hi1,hb,hal⟩ fun z hz=>?_
    .rw[zE hal.symm,o1 _ hal.symm];exact hl
    .rw[zE hz];exact o1 z hz
  refine zvZ (fun c1=>?_) (fun c1=>?_)
  .have c1':i < ((ns.map V.int).length:Int):=of_decide_eq_true c1;rw[List.length_map] at c1';have hget:(ns.map V.int)[i.toNat]? = some (.int (ns[i.toNat]'(by omega))):=by rw[List.getElem?_map,List.getElem?_eq_getElem (by omega)];rfl
   have hat:=zbb hget;rw[show((i.toNat:Nat):Int)=i by omega] at hat;refine⟨_,rfl,_,_,_,_,rfl,rfl,SqL.of ha,rfl,_,rfl,_,_,_,_,rfl,rfl,SqL.of ha,rfl,_,_,_,_,rfl,rfl,SqL.of hl,hat,?_⟩;refine⟨_,rfl,_,_,_,_,rfl,rfl,SqL.of ha,rfl,_,_,rfl,rfl,_,rfl,_,_,_,_,rfl,rfl,ha,rfl,?_⟩;exact cellEnd _ (i+1) _ zz (by omega) fun z hz=>by rw[zE hz]
  .exact cellEnd H i 0 ha hi fun z hz=>rfl
 .exact fin H i b c none ha hi hb fun z hz=>rfl
theorem zsd{f:Addr}{fd:FuncData}(F:Fun K "_law_start" "_law_start" zeG f fd)(B:Blt mg):zV P w K mg base CX0 1 f fd ["_law_script"] (zjj K):=by
 refine F.okq zmp (fun vs H Q E h=>?_) (fun cdv A outer s H vs Q E hr h=>?_)
 .obtain⟨a,m,rfl,_⟩:=h;rfl
 obtain⟨a,ns,rfl,hS,q⟩:=h;refine⟨_,(zj (zac (zbA (zy (za1 (zj3 K) rfl B.list zpF (zy (zex (zsT K) (qv 0) ziX (zcB zc)) zcv)) (zy zc (zy zc (zy zc zcv))))))),?_⟩;refine⟨_,rfl,_,rfl,_,_,rfl,hS,fun p1 h1=>?_⟩;refine⟨_,_,rfl, .inl (SqL.of zz),fun p2 h2=>⟨by show 4<=sizeLine;decide,fun p3 h3=>?_⟩⟩;have n21:p2≠p1:=fun z=>by rw[z,zz] at h2;cases h2
 have n32:p3≠p2:=fun z=>by rw[z,zz] at h3;cases h3
 rw[zE n32] at h3;have n31:p3≠p1:=fun z=>by rw[z,zz] at h3;cases h3
 rw[zE n31] at h3;rw[zE n21] at h2;have cut:ziB (ns.map V.int) none (some 63)=((ns.drop (HT.sIx (ns.map V.int).length 0 none)).take (HT.sIx (ns.map V.int).length (ns.map V.int).length (some 63) - HT.sIx (ns.map V.int).length 0 none)).map V.int:=by
  unfold ziB;rw[List.map_take,List.map_drop]
 refine q p3 p2 _ h3 h2 ⟨((ns.drop (HT.sIx (ns.map V.int).length 0 none)).take (HT.sIx (ns.map V.int).length (ns.map V.int).length (some 63) - HT.sIx (ns.map V.int).length 0 none)),0,0,90210,zz,?_,by decide,by decide,n32⟩ fun b o e=>?_
 .rw[zE n32.symm,zz,cut]
 .rw[zE (zan e h3),zE (zan e h2),zE (zan e h1)];exact e
end
abbrev tab:Tab:=[("Net",["kinds","lines"]),("Frame",["name","ways","every","long","release","last"]),("Table",["rows"])]
abbrev zcq:List Str:=["kinds","lines"]
theorem zg6:zdb tab "Net" "kinds"=true:=by decide+kernel
theorem zl2{v0 v1:D}{R:D->Prop}:zf0 tab "kinds" "Net" zcq [v0,v1] R=R v0:=by
 simp only[zf0,zg6,true_and,List.zip_cons_cons,List.lookup_cons,beq_self_eq_true,zaD]
theorem zl6{w:D}{R:List Str->List D->Prop}:zds tab "kinds" w "Net" [] [] R=R ["kinds"] [w]:=by
 rw[zds,zg6,show putN "kinds" []=(["kinds"]:List Str) from by simp only[putN,if_false],show putD "kinds" w [] []=[w] from by simp only[putD,if_false]];exact propext ⟨fun h=>h.2.2,fun h=>⟨rfl,by show 0 < 1000;decide,h⟩⟩
theorem zgR:zdb tab "Net" "lines"=true:=by decide+kernel
theorem zmj{v0 v1:D}{R:D->Prop}:zf0 tab "lines" "Net" zcq [v0,v1] R=R v1:=by
 simp only[zf0,zgR,true_and,List.zip_cons_cons,List.lookup_cons,show(("lines":Str)=="kinds")=false from by decide+kernel,beq_self_eq_true,zaD]
theorem zlP{w v0:D}{R:List Str->List D->Prop}:zds tab "lines" w "Net" ["kinds"] [v0] R=R ["kinds","lines"] [v0,w]:=by
 rw[zds,zgR,show putN "lines" ["kinds"]=(["kinds","lines"]:List Str) from by simp only[putN,show(("kinds":Str)="lines")=False from eq_false (by decide+kernel),if_false],show putD "lines" w ["kinds"] [v0]=[v0,w] from by simp only[putD,show(("kinds":Str)="lines")=False from eq_false (by decide+kernel),if_false]];exact propext ⟨fun h=>h.2.2,fun h=>⟨rfl,by show 1 < 1000;decide,h⟩⟩
theorem zhp{v0 v1:D}:List.lookup ("check_new":Str) (zcq.zip [v0,v1])=none:=by
 simp only[List.zip_cons_cons,List.zip_nil_left,List.lookup_cons,List.lookup_nil,show(("check_new":Str)=="kinds")=false from by decide+kernel,show(("check_new":Str)=="lines")=false from by decide+kernel]
theorem zf9{v0 v1:D}:List.lookup ("check_nodes":Str) (zcq.zip [v0,v1])=none:=by
 simp only[List.zip_cons_cons,List.zip_nil_left,List.lookup_cons,List.lookup_nil,show(("check_nodes":Str)=="kinds")=false from by decide+kernel,show(("check_nodes":Str)=="lines")=false from by decide+kernel]
theorem zix{v0 v1:D}:List.lookup ("ends":Str) (zcq.zip [v0,v1])=none:=by
 simp only[List.zip_cons_cons,List.zip_nil_left,List.lookup_cons,List.lookup_nil,show(("ends":Str)=="kinds")=false from by decide+kernel,show(("ends":Str)=="lines")=false from by decide+kernel]
theorem znN{v0 v1:D}:List.lookup ("gate":Str) (zcq.zip [v0,v1])=none:=by
 simp only[List.zip_cons_cons,List.zip_nil_left,List.lookup_cons,List.lookup_nil,show(("gate":Str)=="kinds")=false from by decide+kernel,show(("gate":Str)=="lines")=false from by decide+kernel]
theorem zmQ{v0 v1:D}:List.lookup ("house":Str) (zcq.zip [v0,v1])=none:=by
 simp only[List.zip_cons_cons,List.zip_nil_left,List.lookup_cons,List.lookup_nil,show(("house":Str)=="kinds")=false from by decide+kernel,show(("house":Str)=="lines")=false from by decide+kernel]
theorem znV{v0 v1:D}:List.lookup ("line":Str) (zcq.zip [v0,v1])=none:=by
 simp only[List.zip_cons_cons,List.zip_nil_left,List.lookup_cons,List.lookup_nil,show(("line":Str)=="kinds")=false from by decide+kernel,show(("line":Str)=="lines")=false from by decide+kernel]
theorem ziy{v0 v1:D}:List.lookup ("put_node":Str) (zcq.zip [v0,v1])=none:=by
 simp only[List.zip_cons_cons,List.zip_nil_left,List.lookup_cons,List.lookup_nil,show(("put_node":Str)=="kinds")=false from by decide+kernel,show(("put_node":Str)=="lines")=false from by decide+kernel]
abbrev zcl:List Str:=["name","ways","every","long","release","last"]
theorem zfo:zdb tab "Frame" "name"=true:=by decide+kernel
theorem zkz{v0 v1 v2 v3 v4 v5:D}{R:D->Prop}:zf0 tab "name" "Frame" zcl [v0,v1,v2,v3,v4,v5] R=R v0:=by
 simp only[zf0,zfo,true_and,List.zip_cons_cons,List.lookup_cons,beq_self_eq_true,zaD]
theorem zkN{w:D}{R:List Str->List D->Prop}:zds tab "name" w "Frame" [] [] R=R ["name"] [w]:=by
 rw[zds,zfo,show putN "name" []=(["name"]:List Str) from by simp only[putN,if_false],show putD "name" w [] []=[w] from by simp only[putD,if_false]];exact propext ⟨fun h=>h.2.2,fun h=>⟨rfl,by show 0 < 1000;decide,h⟩⟩
theorem zfG:zdb tab "Frame" "ways"=true:=by decide+kernel
theorem zfP{v0 v1 v2 v3 v4 v5:D}{R:D->Prop}:zf0 tab "ways" "Frame" zcl [v0,v1,v2,v3,v4,v5] R=R v1:=by
 simp only[zf0,zfG,true_and,List.zip_cons_cons,List.lookup_cons,show(("ways":Str)=="name")=false from by decide+kernel,beq_self_eq_true,zaD]
theorem zkC{w v0:D}{R:List Str->List D->Prop}:zds tab "ways" w "Frame" ["name"] [v0] R=R ["name","ways"] [v0,w]:=by
 rw[zds,zfG,show putN "ways" ["name"]=(["name","ways"]:List Str) from by simp only[putN,show(("name":Str)="ways")=False from eq_false (by decide+kernel),if_false],show putD "ways" w ["name"] [v0]=[v0,w] from by simp only[putD,show(("name":Str)="ways")=False from eq_false (by decide+kernel),if_false]];exact propext ⟨fun h=>h.2.2,fun h=>⟨rfl,by show 1 < 1000;decide,h⟩⟩
theorem zj2:zdb tab "Frame" "every"=true:=by decide+kernel
theorem zkb{w v0 v1:D}{R:List Str->List D->Prop}:zds tab "every" w "Frame" ["name","ways"] [v0,v1] R=R ["name","ways","every"] [v0,v1,w]:=by
 rw[zds,zj2,show putN "every" ["name","ways"]=(["name","ways","every"]:List Str) from by simp only[putN,show(("name":Str)="every")=False from eq_false (by decide+kernel),show(("ways":Str)="every")=False from eq_false (by decide+kernel),if_false],show putD "every" w ["name","ways"] [v0,v1]=[v0,v1,w] from by simp only[putD,show(("name":Str)="every")=False from eq_false (by decide+kernel),show(("ways":Str)="every")=False from eq_false (by decide+kernel),if_false]];exact propext ⟨fun h=>h.2.2,fun h=>⟨rfl,by show 2 < 1000;decide,h⟩⟩
theorem zfr:zdb tab "Frame" "long"=true:=by decide+kernel
theorem zkJ{v0 v1 v2 v3 v4 v5:D}{R:D->Prop}:zf0 tab "long" "Frame" zcl [v0,v1,v2,v3,v4,v5] R=R v3:=by
 simp only[zf0,zfr,true_and,List.zip_cons_cons,List.lookup_cons,show(("long":Str)=="name")=false from by decide+kernel,show(("long":Str)=="ways")=false from by decide+kernel,show(("long":Str)=="every")=false from by decide+kernel,beq_self_eq_true,zaD]
theorem zkO{w v0 v1 v2:D}{R:List Str->List D->Prop}:zds tab "long" w "Frame" ["name","ways","every"] [v0,v1,v2] R=R ["name","ways","every","long"] [v0,v1,v2,w]:=by
 rw[zds,zfr,show putN "long" ["name","ways","every"]=(["name","ways","every","long"]:List Str) from by simp only[putN,show(("name":Str)="long")=False from eq_false (by decide+kernel),show(("ways":Str)="long")=False from eq_false (by decide+kernel),show(("every":Str)="long")=False from eq_false (by decide+kernel),if_false],show putD "long" w ["name","ways","every"] [v0,v1,v2]=[v0,v1,v2,w] from by simp only[putD,show(("name":Str)="long")=False from eq_false (by decide+kernel),show(("ways":Str)="long")=False from eq_false (by decide+kernel),show(("every":Str)="long")=False from eq_false (by decide+kernel),if_false]];exact propext ⟨fun h=>h.2.2,fun h=>⟨rfl,by show 3 < 1000;decide,h⟩⟩
theorem zdz:zdb tab "Frame" "release"=true:=by decide+kernel
theorem zg8{v0 v1 v2 v3 v4 v5:D}{R:D->Prop}:zf0 tab "release" "Frame" zcl [v0,v1,v2,v3,v4,v5] R=R v4:=by
 simp only[zf0,zdz,true_and,List.zip_cons_cons,List.lookup_cons,show(("release":Str)=="name")=false from by decide+kernel,show(("release":Str)=="ways")=false from by decide+kernel,show(("release":Str)=="every")=false from by decide+kernel,show(("release":Str)=="long")=false from by decide+kernel,beq_self_eq_true,zaD]
theorem zg9{w v0 v1 v2 v3:D}{R:List Str->List D->Prop}:zds tab "release" w "Frame" ["name","ways","every","long"] [v0,v1,v2,v3] R=R ["name","ways","every","long","release"] [v0,v1,v2,v3,w]:=by
 rw[zds,zdz,show putN "release" ["name","ways","every","long"]=(["name","ways","every","long","release"]:List Str) from by simp only[putN,show(("name":Str)="release")=False from eq_false (by decide+kernel),show(("ways":Str)="release")=False from eq_false (by decide+kernel),show(("every":Str)="release")=False from eq_false (by decide+kernel),show(("long":Str)="release")=False from eq_false (by decide+kernel),if_false],show putD "release" w ["name","ways","every","long"] [v0,v1,v2,v3]=[v0,v1,v2,v3,w] from by simp only[putD,show(("name":Str)="release")=False from eq_false (by decide+kernel),show(("ways":Str)="release")=False from eq_false (by decide+kernel),show(("every":Str)="release")=False from eq_false (by decide+kernel),show(("long":Str)="release")=False from eq_false (by decide+kernel),if_false]];exact propext ⟨fun h=>h.2.2,fun h=>⟨rfl,by show 4 < 1000;decide,h⟩⟩
theorem zku:zdb tab "Frame" "last"=true:=by decide+kernel
theorem zkE{w v0 v1 v2 v3 v4:D}{R:List Str->List D->Prop}:zds tab "last" w "Frame" ["name","ways","every","long","release"] [v0,v1,v2,v3,v4] R=R ["name","ways","every","long","release","last"] [v0,v1,v2,v3,v4,w]:=by
 rw[zds,zku,show putN "last" ["name","ways","every","long","release"]=(["name","ways","every","long","release","last"]:List Str) from by simp only[putN,show(("name":Str)="last")=False from eq_false (by decide+kernel),show(("ways":Str)="last")=False from eq_false (by decide+kernel),show(("every":Str)="last")=False from eq_false (by decide+kernel),show(("long":Str)="last")=False from eq_false (by decide+kernel),show(("release":Str)="last")=False from eq_false (by decide+kernel),if_false],show putD "last" w ["name","ways","every","long","release"] [v0,v1,v2,v3,v4]=[v0,v1,v2,v3,v4,w] from by simp only[putD,show(("name":Str)="last")=False from eq_false (by decide+kernel),show(("ways":Str)="last")=False from eq_false (by decide+kernel),show(("every":Str)="last")=False from eq_false (by decide+kernel),show(("long":Str)="last")=False from eq_false (by decide+kernel),show(("release":Str)="last")=False from eq_false (by decide+kernel),if_false]];exact propext ⟨fun h=>h.2.2,fun h=>⟨rfl,by show 5 < 1000;decide,h⟩⟩
abbrev zdE:List Str:=["rows"]
theorem zfp:zdb tab "Table" "rows"=true:=by decide+kernel
theorem zfE{v0:D}{R:D->Prop}:zf0 tab "rows" "Table" zdE [v0] R=R v0:=by
 simp only[zf0,zfp,true_and,List.zip_cons_cons,List.lookup_cons,beq_self_eq_true,zaD]
theorem zkL{w:D}{R:List Str->List D->Prop}:zds tab "rows" w "Table" [] [] R=R ["rows"] [w]:=by
 rw[zds,zfp,show putN "rows" []=(["rows"]:List Str) from by simp only[putN,if_false],show putD "rows" w [] []=[w] from by simp only[putD,if_false]];exact propext ⟨fun h=>h.2.2,fun h=>⟨rfl,by show 0 < 1000;decide,h⟩⟩
theorem zh3{v0:D}:List.lookup ("of":Str) (zdE.zip [v0])=none:=by
 simp only[List.zip_cons_cons,List.zip_nil_left,List.lookup_cons,List.lookup_nil,show(("of":Str)=="rows")=false from by decide+kernel]
@[reducible] def zgn:DS:=(zbk (zod (zjp dLe dLe (dC (.int 1)) (dCB zcH (za (zb 0) zm)) (zb 2)) (dCB zpd (za (zc6 ["sign"] [1] [0] (zbf (zb 0)) (zp 0) zeS (dOp zuM (zb 0) (zb 1))) zm))))
def zcU:DSp:=zP zgn zgE 3
@[reducible] def zh8:DS:=(zbk (zod (dCB zgf (za (zb 0) (za (dC (.ty "int")) zm))) (zpt (dCB zgf (za (zb 0) (za (dC (.ty "bool")) zm))))))
def zcc:DSp:=zP zh8 zif 1
@[reducible] def zgM:DS:=(zJ (zdC tab (zb 0) zkj "kinds")
  (zdC tab (zb 0) zkj "lines"))
def zbT:DSp:=zP zgM zgD 1
@[reducible] def zkp:DS:=(zJ (zaX (zM (dOp (zir true) (zb 1) (zen tab (zb 0) "lines")))
  zaL
  zaq)
  (zbk (zi6 (zen tab (zb 0) "lines") (zb 1))))
def zcF:DSp:=zP zkp zjy 2
@[reducible] def zdj:DS:=(zdw (zbf (zb 1)) (zp 2)
  (zaX (dOr (zM (dOp (zir true) (zb 2) (zen tab (zb 0) "kinds"))) (zM (dOp (zir false) (zb 2) (zen tab (zb 0) "lines"))))
  zaL
  zaq))
def zat:DSp:=zP zdj zda 2
@[reducible] def zgN:DS:=(zJ (zaX (zmO (zM (zjp dLe dLe (dC (.int 1)) (dCB zcH (za (zb 0) zm)) (dC (.int 6)))))
  zaL
  zaq)
  (zaX (zM (dOp dLt (ziY (zb 0)) (dCB zcH (za (zb 0) zm))))
  zaL
  zaq))
def za9:DSp:=zP zgN zgV 1
@[reducible] def zdc:DS:=(zJ (zaX (dOr (zM (dOp dNe (dOp dIx (zb 0) (dC (.int 0))) (dOp dIx (zb 1) (dC (.int 0))))) (zM (dOp dNe (dOp dIx (zb 0) (dUn zfj (dC (.int 1)))) (dOp dIx (zb 1) (dUn zfj (dC (.int 1)))))))
  zaL
  zaq)
  (zaX (zM (dCB ztw (za (zc6 ["name"] [1] [0] (zbf (dSl zbJ (zb 0) (zbe (dC (.int 1))) (zbe (dUn zfj (dC (.int 1)))))) (zp 0) zeS (dOp (zbW false) (zb 0) (zb 1))) zm)))
  zaL
  zaq))
def zaJ:DSp:=zP zdc zdf 2
@[reducible] def zed:DS:=(zbk (zoI ["name","at","starts"] [] ([0]++([1]++([2]++[]))) (zbf (zb 0)) (zeL 3 (zao (zp 0) (zao (zp 1) (zao (zp 2) zef)))) zeS (za (zb 0) (za (zb 1) zm)) (zb 2)))
def za3:DSp:=zP zed zel 1
@[reducible] def ze0:DS:=(zdC tab (zb 0) (dCB zjL (za (zb 1) zm)) "rows")
def zaN:DSp:=zP ze0 zeu 2
@[reducible] def zju:DS:=(zJ (zas (dC (.int 0)) (zp 3))
  (zJ (zdw (zbf (dOp dIx (zb 0) (dC (.int 1)))) (zp 4)
  (zJ (zas (dC (.int 0)) (zp 5))
  (zJ (zdw (zbf (zb 1)) (zp 6)
  (zaX (zM (dOp (zbW false) (dOp dIx (zb 6) (dC (.int 0))) (zb 4)))
  (zas (dOp zbi (dOp zbi (dOp zbi (zb 5) (dOp dIx (zb 0) (dC (.int 3)))) (dOp dIx (zb 6) (dC (.int 3)))) (zb 2)) (zp 5))
  zaq))
  (zas (dCB zqH (za (zb 3) (za (zb 5) zm))) (zp 3)))))
  (zbk (zb 3))))
def zcy:DSp:=zP zju zjg 3
@[reducible] def zkc:DS:=(zJ (zdw (zbf (zb 0)) (zp 2)
  (zaX (zM (dOp dEq (dOp dIx (zb 2) (dC (.int 0))) (zb 1)))
  (zbk (dOp dIx (zb 2) (dC (.int 3))))
  zaq))
  (zbk (dC (.int 0))))
def zbc:DSp:=zP zkc zjd 2
@[reducible] def zh4:DS:=(zJ (zas (zdM zm) (zp 1))
  (zJ (zdw (zbf (dCB zjL (za (zb 0) zm))) (zp 2)
  (zdw (zdX (za (dOp dIx (zb 2) (dC (.int 1))) zm)) (zeL 2 (zao (zp 3) (zao (zp 4) zef)))
  (zdw (zdX (za (zxh (zb 4) (zbe (dC (.int 1))) zaG (zbe (dC (.int 2)))) zm)) (zeL 2 (zao (zp 5) (zao (zp 6) zef)))
  (zal (dBM "list" zaE (zb 1) (za (dTup (za (zb 2) (za (zb 3) (za (zb 5) (za (zb 6) zm))))) zm))))))
  (zgY 1 (zbk (zb 1)))))
def zbo:DSp:=zP zh4 zhZ 1
@[reducible] def zhR:DS:=(zbk (zod (dCB zgf (za (zb 0) (za (dC (.ty "int")) zm))) (zpt (dCB zgf (za (zb 0) (za (dC (.ty "bool")) zm))))))
def zca:DSp:=zP zhR zis 1
@[reducible] def zkZ:DS:=(zbk (dCall zcU (za (zb 0) (za (dC (.str "abcdefghijklmnopqrstuvwxyz")) (za (dC (.int 8)) zm)))))
def zcm:DSp:=zP zkZ zlI 1
@[reducible] def zfD:DS:=(zaX (zmO (zM (dCall zcc (za (zb 0) zm))))
  zaL
  zaq)
def zbv:DSp:=zP zfD zfR 1
@[reducible] def zj6:DS:=(zJ (zas (dCall za3 (za (zen tab (zb 0) "rows") zm)) (zp 3))
  (zJ (zaX (zM (zvt true (za (zb 1) (za (zb 2) zm)) (zb 3)))
  zaL
  zaq)
  (zbk (zsE (zb 3) (za (zb 1) (za (zb 2) zm))))))
def zcJ:DSp:=zP zj6 zji 3
@[reducible] def zjY:DS:=(zbk (dOp dIx (zb 1) (dCall zab (za (zb 0) (za (dCB zcH (za (zb 1) zm)) zm)))))
def zbU:DSp:=zP zjY zjb 2
@[reducible] def zjC:DS:=(zJ (zas (dC (.str "abcdefghijklmnopqrstuvwxyz")) (zp 2))
  (zJ (zdw (zdY (za (dC (.int 4)) zm)) (zp 3)
  (zJ (zas (dOp zbi (dC (.int 1)) (dCall zab (za (zb 0) (za (dC (.int 3)) zm)))) (zp 4))
  (zJ (zaX (zM (dOp dEq (zb 4) (dC (.int 3))))
  (zas (dOp zbi (dC (.int 1)) (dCall zab (za (zb 0) (za (dC (.int 8)) zm)))) (zp 4))
  zaq)
  (zJ (zas (dBM "str" zsg (dC (.str "")) (za (zc6 ["_law_k"] [2,0] [0] (zdY (za (zb 4) zm)) (zp 0) zeS (dOp dIx (zb 1) (dCall zab (za (zb 2) (za (dC (.int 26)) zm))))) zm)) (zp 5))
  (zaX (zM (dOp (zbW true) (zb 5) (zb 1)))
  (zJ (zal (dBM "list" zaE (zb 1) (za (zb 5) zm)))
  (zbk (zb 5)))
  zaq)))))
  (zJ (zdw (zdY (za (dC (.int 104)) zm)) (zp 6)
  (zJ (zas (dOp zk4 (dOp dIx (zb 2) (dOp zuT (zb 6) (dC (.int 26)))) (dOp zbi (dC (.int 1)) (dOp zmY (zb 6) (dC (.int 26))))) (zp 5))
  (zaX (zM (dOp (zbW true) (zb 5) (zb 1)))
  (zJ (zal (dBM "list" zaE (zb 1) (za (zb 5) zm)))
  (zbk (zb 5)))
  zaq)))
  (zbk (dC (.str "zzzzzzzz"))))))
def zau:DSp:=zP zjC zkn 2
@[reducible] def zfC:DS:=(zJ (zas (zdM zm) (zp 2))
  (zJ (zdw (zmI (za (dCall zbo (za (zb 0) zm)) zm)) (zeL 2 (zao (zp 3) (zao (zeL 4 (zao (zp 4) (zao (zp 5) (zao (zp 6) (zao (zp 7) zef))))) zef)))
  (zaX (zM (dOp dEq (zb 6) (dC (.int 0))))
  (zal (dBM "list" zaE (zb 2) (za (dTup (za (dOp dIx (zb 4) (dC (.int 0))) (za (zb 5) (za (dTup (za (dOp dIx (zb 1) (zb 3)) zm)) zm)))) zm)))
  (zas (dOp zbi (dSl zbJ (dOp dIx (zb 2) (dUn zfj (dC (.int 1)))) zaG (zbe (dC (.int 2)))) (dTup (za (dOp zbi (dOp dIx (dOp dIx (zb 2) (dUn zfj (dC (.int 1)))) (dC (.int 2))) (dTup (za (dOp dIx (zb 1) (zb 3)) zm))) zm))) (zpB (zb 2) (dUn zfj (dC (.int 1))) zkl))))
  (zgY 2 (zbk (zb 2)))))
def zbw:DSp:=zP zfC zfs 2
@[reducible] def zgA:DS:=(zaX (zmO (zM (dCall zcm (za (zb 0) zm))))
  zaL
  zaq)
def za7:DSp:=zP zgA zgZ 1
@[reducible] def zeT:DS:=(zJ (zal (dCall zbv (za (zb 0) zm)))
  (zaX (zmO (zM (zjp dLe dLe (zb 1) (zb 0) (zb 2))))
  zaL
  zaq))
def zam:DSp:=zP zeT zeE 3
@[reducible] def zij:DS:=(zJ (zaX (zM (dOp (zbW true) (dCB zcH (za (zb 0) zm)) (dC (.tup (List.map D.int [3,5,7])))))
  zaL
  zaq)
  (zJ (zaX (zmO (zM (dCB zpd (za (zc6 ["text"] [] [0] (zbf (zb 0)) (zp 0) zeS (dCall zcm (za (zb 0) zm))) zm))))
  zaL
  zaq)
  (zaX (zM (dOp dLt (ziY (zb 0)) (dCB zcH (za (zb 0) zm))))
  zaL
  zaq)))
def zcf:DSp:=zP zij zim 1
@[reducible] def zp9:DS:=(zJ (zas (zdM zm) (zp 4))
  (zJ (zdw (zdX (za (zen tab (zb 1) "ways") zm)) (zeL 2 (zao (zp 5) (zao (zp 6) zef)))
  (zJ (zas (dOp dIx (zdJ "Table" "of" zcJ 3 0 [.p 0, .p 1, .p 2] [] (zb 2) (za (zen tab (zb 1) "name") (za (zb 5) zm)) zm) (dUn zfj (dC (.int 1)))) (zp 7))
  (zJ (zas (dOp dIx (zdJ "Net" "ends" zcF 2 0 [.p 0, .p 1] [] (zb 0) (za (dOp dIx (zb 6) (dUn zfj (dC (.int 2)))) zm) zm) (dC (.int 2))) (zp 8))
  (zal (dBM "list" zaE (zb 4) (za (dTup (za (dOp zbi (dOp zbi (dOp zbi (dOp zj1 (zb 7) (zen tab (zb 1) "release")) (zen tab (zb 1) "long")) (zb 8)) (zb 3)) (za (zb 5) zm))) zm))))))
  (zbk (dCB zwv (za (zb 4) zm)))))
def zcL:DSp:=zP zp9 zqa 4
@[reducible] def zlm:DS:=(zJ (zas (zc6 ["_law_line"] [5,3] [0] (zbf (zb 2)) (zp 0) (zuO (zM (dOp (zbW true) (dOp dIx (zb 0) (dC (.int 0))) (zb 1))) (dOr (zM (dOp (zbW false) (zb 2) (dOp dIx (zb 0) (dC (.int 1))))) (zM (dOp dLt (dCB zcH (za (dOp dIx (zb 0) (dC (.int 1))) zm)) (dC (.int 6)))))) (zb 0)) (zp 6))
  (zJ (zas (zc6 ["_law_line"] [4] [0] (zbf (zb 6)) (zp 0) (dOr (zM (dOp (zbW false) (zb 1) (dOp dIx (zb 0) (dC (.int 2))))) (zM (dOp dLt (dCB zcH (za (dOp dIx (zb 0) (dC (.int 2))) zm)) (dC (.int 6))))) (zb 0)) (zp 6))
  (zJ (zaX (zuO (zM (dOp dLt (dCB zcH (za (zb 2) zm)) (dC (.int 14)))) (dOr (zM (dOp dEq (dCB zcH (za (zb 6) zm)) (dC (.int 0)))) (zM (dOp dEq (dCall zab (za (zb 0) (za (dC (.int 3)) zm))) (dC (.int 0))))))
  (zJ (zal (dBM "list" zaE (zb 2) (za (zlY (za (dCall zau (za (zb 0) (za (zb 1) zm))) (za (zdM (za (zb 3) zm)) (za (zdM (za (zb 4) zm)) (za (dCall zab (za (zb 0) (za (dC (.int 4)) zm))) zm))))) zm)))
  (zbk (dOp dIx (dOp dIx (zb 2) (dUn zfj (dC (.int 1)))) (dC (.int 0)))))
  zaq)
  (zJ (zas (dCall zbU (za (zb 0) (za (zb 6) zm))) (zp 7))
  (zJ (zaX (zM (dOp (zbW true) (zb 3) (dOp dIx (zb 7) (dC (.int 1)))))
  (zal (dBM "list" zaE (dOp dIx (zb 7) (dC (.int 1))) (za (zb 3) zm)))
  zaq)
  (zJ (zaX (zM (dOp (zbW true) (zb 4) (dOp dIx (zb 7) (dC (.int 2)))))
  (zal (dBM "list" zaE (dOp dIx (zb 7) (dC (.int 2))) (za (zb 4) zm)))
  zaq)
  (zbk (dOp dIx (zb 7) (dC (.int 0))))))))))
def zci:DSp:=zP zlm zlb 6
@[reducible] def zeg:DS:=(zJ (zal (dCall za7 (za (zb 1) zm)))
  (zaX (zM (dOp (zir false) (zb 1) (zen tab (zb 0) "kinds")))
  zaL
  zaq))
def zaI:DSp:=zP zeg zei 2
@[reducible] def zgQ:DS:=(zJ (zaX (zM (dOp (zbW true) (dCB zcH (za (zb 0) zm)) (dTup (za (dC (.int 1)) (za (dC (.int 2)) zm)))))
  zaL
  zaq)
  (zJ (zdw (zbf (zb 0)) (zp 1)
  (zal (dCall zcf (za (zb 1) zm))))
  (zaX (zM (dOp dEq (dCB zcH (za (zb 0) zm)) (dC (.int 2))))
  (zal (dCall zaJ (za (dOp dIx (zb 0) (dC (.int 0))) (za (dOp dIx (zb 0) (dC (.int 1))) zm))))
  zaq)))
def zbM:DSp:=zP zgQ zgq 1
@[reducible] def zla:DS:=(zJ (zas (zc6 ["_law_gate"] [6] [0] (zbf (zb 3)) (zp 0) (zM (dOp (zbW true) (zb 0) (zb 1))) (zb 0)) (zp 7))
  (zJ (zas (zdM (za (zb 4) zm)) (zp 8))
  (zJ (zdw (zdY (za (dCB zl7 (za (dCall zab (za (zb 0) (za (dC (.int 3)) zm))) (za (dCB zcH (za (zb 7) zm)) zm))) zm)) (zp 9)
  (zJ (zas (dCall zbU (za (zb 0) (za (zb 7) zm))) (zp 10))
  (zJ (zas (zc6 ["_law_other"] [10] [0] (zbf (zb 7)) (zp 0) (zM (dOp dNe (zb 0) (zb 1))) (zb 0)) (zp 7))
  (zJ (zal (dBM "list" zaE (zb 8) (za (dCall zci (za (zb 0) (za (zb 1) (za (zb 2) (za (dOp dIx (zb 8) (dUn zfj (dC (.int 1)))) (za (zb 10) (za (dOp zbi (zb 6) (zb 8)) zm))))))) zm)))
  (zal (dBM "list" zaE (zb 8) (za (zb 10) zm)))))))
  (zJ (zal (dBM "list" zaE (zb 8) (za (dCall zci (za (zb 0) (za (zb 1) (za (zb 2) (za (dOp dIx (zb 8) (dUn zfj (dC (.int 1)))) (za (zb 5) (za (dOp zbi (zb 6) (zb 8)) zm))))))) zm)))
  (zJ (zal (dBM "list" zaE (zb 8) (za (zb 5) zm)))
  (zbk (dCB zcr (za (zb 8) zm))))))))
def zcj:DSp:=zP zla zk9 7
@[reducible] def zjB:DS:=(zJ (zal (zdJ "Net" "check_new" zaI 2 0 [.p 0, .p 1] [] (zb 0) (za (zb 1) zm) zm))
  (zJ (zaX (zM (dOp dGe (dCB zlf (za (zen tab (zb 0) "lines") zm)) (dC (.int 16))))
  zaL
  zaq)
  (zJ (zal (dCall za9 (za (zb 2) zm)))
  (zJ (zal (dCall za9 (za (zb 3) zm)))
  (zJ (zal (zdJ "Net" "check_nodes" zat 2 0 [.p 0, .p 1] [] (zb 0) (za (zb 2) zm) zm))
  (zJ (zal (zdJ "Net" "check_nodes" zat 2 0 [.p 0, .p 1] [] (zb 0) (za (zb 3) zm) zm))
  (zJ (zal (dCall zam (za (zb 4) (za (dC (.int 0)) (za (dC (.int 30)) zm)))))
  (zJ (zkA (zen tab (zb 0) "kinds") (zb 1) (dC (.str "line")))
  (zkA (zen tab (zb 0) "lines") (zb 1) (dTup (za (dCB zcr (za (dCB zhq (za (zb 2) zm)) zm)) (za (dCB zcr (za (dCB zhq (za (zb 3) zm)) zm)) (za (zb 4) zm)))))))))))))
def zcI:DSp:=zP zjB zjI 5
@[reducible] def zey:DS:=(zJ (zal (zdJ "Net" "check_new" zaI 2 0 [.p 0, .p 1] [] (zb 0) (za (zb 1) zm) zm))
  (zJ (zaX (zM (dOp dGe (dOp zj1 (dCB zlf (za (zen tab (zb 0) "kinds") zm)) (dCB zlf (za (zen tab (zb 0) "lines") zm))) (dC (.int 16))))
  zaL
  zaq)
  (zkA (zen tab (zb 0) "kinds") (zb 1) (zb 2))))
def zaM:DSp:=zP zey zeP 3
@[reducible] def zeI:DS:=(zJ (zal (dCall za7 (za (zb 1) zm)))
  (zJ (zal (dCall zbM (za (zb 2) zm)))
  (zJ (zaX (zM (dOp (zbW true) (zb 3) (dC (.tup (List.map D.int [4,5,6,8,10,12,15,20,24,30,40,60,120])))))
  zaL
  zaq)
  (zJ (zal (dCall zam (za (zb 4) (za (dC (.int 1)) (za (dC (.int 30)) zm)))))
  (zJ (zal (dCall zam (za (zb 5) (za (dC (.int 0)) (za (dOp zj1 (zb 3) (dC (.int 1))) zm)))))
  (zJ (zal (dCall zam (za (zb 6) (za (dC (.int 1)) (za (dC (.int 480)) zm)))))
  (zJ (zdC tab (zb 0) (zb 1) "name")
  (zJ (zdC tab (zb 0) (zb 2) "ways")
  (zJ (zdC tab (zb 0) (zb 3) "every")
  (zJ (zdC tab (zb 0) (zb 4) "long")
  (zJ (zdC tab (zb 0) (zb 5) "release")
  (zdC tab (zb 0) (zb 6) "last"))))))))))))
def zaw:DSp:=zP zeI zeH 7
@[reducible] def zkS:DS:=(zJ (zas (dCall zab (za (zb 0) (za (dCB zcH (za (zb 3) zm)) zm))) (zp 6))
  (zJ (zas (dOp dIx (zb 3) (zb 6)) (zp 7))
  (zJ (zas (dOp dIx (zb 3) (dOp zuT (dOp zbi (dOp zbi (zb 6) (dC (.int 1))) (dCall zab (za (zb 0) (za (dOp zj1 (dCB zcH (za (zb 3) zm)) (dC (.int 1))) zm)))) (dCB zcH (za (zb 3) zm)))) (zp 8))
  (zJ (zas (zdM (za (dCall zcj (za (zb 0) (za (zb 1) (za (zb 2) (za (zb 4) (za (zb 7) (za (zb 8) (za (zlY zm) zm)))))))) zm)) (zp 9))
  (zJ (zaX (zM (dOp dEq (dCall zab (za (zb 0) (za (dC (.int 4)) zm))) (dC (.int 1))))
  (zal (dBM "list" zaE (zb 9) (za (dCall zcj (za (zb 0) (za (zb 1) (za (zb 2) (za (zb 4) (za (zb 7) (za (zb 8) (za (dCB znM (za (dSl zbJ (dOp dIx (zb 9) (dC (.int 0))) (zbe (dC (.int 1))) (zbe (dUn zfj (dC (.int 1))))) zm)) zm)))))))) zm)))
  zaq)
  (zJ (zas (dOp dIx (zlY (zpx [12,8,20,24,10,30,15,40,60,12,120])) (dCall zab (za (zb 0) (za (dC (.int 11)) zm)))) (zp 10))
  (zJ (zas (dOp zbi (dC (.int 1)) (dCall zab (za (zb 0) (za (dCB zl7 (za (dC (.int 4)) (za (dOp zj1 (zb 10) (zb 5)) zm))) zm)))) (zp 11))
  (zJ (zas (dTup (za (dCall zau (za (zb 0) (za (zb 1) zm))) (za (dCB zcr (za (zb 9) zm)) (za (zb 10) (za (zb 11) (za (dCall zab (za (zb 0) (za (zb 10) zm))) (za (dC (.int 0)) zm))))))) (zp 12))
  (zJ (zas (dOp dIx (zlY (za (dC (.int 0)) (za (dC (.int 1)) (za (dC (.int 2)) (za (dOp zmY (zb 10) (dC (.int 2))) (za (dC (.int 3)) (za (dOp zj1 (zb 10) (dC (.int 1))) (za (dC (.int 6)) zm)))))))) (dCall zab (za (zb 0) (za (dC (.int 7)) zm)))) (zp 13))
  (zbk (dOp zbi (dSl zbJ (zb 12) zaG (zbe (dC (.int 5)))) (dTup (za (dOp zbi (dCall zcy (za (zb 12) (za (zb 2) (za (zb 5) zm)))) (zb 13)) zm)))))))))))))
def zdd:DSp:=zP zkS zlH 6
@[reducible] def zh2:DS:=(zal (zdJ "Net" "put_node" zaM 3 0 [.p 0, .p 1, .p 2] [] (zb 0) (za (zb 1) (za (dC (.str "house")) zm)) zm))
def zb8:DSp:=zP zh2 zib 2
@[reducible] def zj0:DS:=(zal (zdJ "Net" "put_node" zaM 3 0 [.p 0, .p 1, .p 2] [] (zb 0) (za (zb 1) (za (dC (.str "gate")) zm)) zm))
def zcC:DSp:=zP zj0 ziZ 2
@[reducible] def zhY:DS:=(zJ (zas (zdM zm) (zp 2))
  (zJ (zas (zc6 ["_law_k"] [2,0] [0] (zdY (za (dOp zbi (dC (.int 2)) (dCall zab (za (zb 0) (za (dC (.int 3)) zm)))) zm)) (zp 0) zeS (dCall zau (za (zb 2) (za (zb 1) zm)))) (zp 3))
  (zJ (zas (zc6 ["_law_k"] [2,0] [0] (zdY (za (dCall zab (za (zb 0) (za (dC (.int 4)) zm))) zm)) (zp 0) zeS (dCall zau (za (zb 2) (za (zb 1) zm)))) (zp 4))
  (zJ (zas (dOp dIx (zlY (zpx [0,1,2,0,3,1,5,7])) (dCall zab (za (zb 0) (za (dC (.int 8)) zm)))) (zp 5))
  (zJ (zas (zdM zm) (zp 6))
  (zJ (zas (zc6 ["_law_k"] [4,3,6,2,0,5] [0] (zdY (za (dOp zbi (dC (.int 1)) (dCall zab (za (zb 0) (za (zb 1) zm)))) zm)) (zp 0) zeS (dCall zdd (za (zb 5) (za (zb 4) (za (zb 3) (za (zb 2) (za (zb 1) (za (zb 6) zm)))))))) (zp 7))
  (zbk (dTup (za (zb 3) (za (zb 4) (za (zb 6) (za (zb 7) (za (zb 5) (za (zb 2) zm))))))))))))))
def zce:DSp:=zP zhY zhI 2
@[reducible] def zkY:DS:=(zJ (zas (zte "Net" zbT 1 0 [.p 0] [] zm zm) (zp 1))
  (zJ (zdw (zbf (dOp dIx (zb 0) (dC (.int 0)))) (zp 2)
  (zal (zdJ "Net" "house" zb8 2 0 [.p 0, .p 1] [] (zb 1) (za (zb 2) zm) zm)))
  (zJ (zdw (zbf (dOp dIx (zb 0) (dC (.int 1)))) (zp 2)
  (zal (zdJ "Net" "gate" zcC 2 0 [.p 0, .p 1] [] (zb 1) (za (zb 2) zm) zm)))
  (zJ (zdw (zbf (dOp dIx (zb 0) (dC (.int 2)))) (zwP 4 (zao (zp 2) (zao (zp 3) (zao (zp 4) (zao (zp 5) zef)))))
  (zal (zdJ "Net" "line" zcI 4 1 [.p 0, .p 1, .p 2, .p 3, .k 0] [] (zb 1) (za (zb 2) (za (dCB zcr (za (zb 3) zm)) (za (dCB zcr (za (zb 4) zm)) zm))) (za (zb 5) zm))))
  (zbk (zb 1))))))
def zdk:DSp:=zP zkY zlv 1
@[reducible] def zhK:DS:=(zbk (zhs "Frame" zaw 3 4 [.p 0, .p 1, .p 2, .k 0, .k 1, .k 2, .k 3] [] (za (dOp dIx (zb 0) (dC (.int 0))) (za (dOp dIx (zb 0) (dC (.int 1))) zm)) (za (dOp dIx (zb 0) (dC (.int 2))) (za (dOp dIx (zb 0) (dC (.int 3))) (za (dOp dIx (zb 0) (dC (.int 4))) (za (dOp dIx (zb 0) (dC (.int 5))) zm))))))
def zbp:DSp:=zP zhK zic 1
@[reducible] def zsV:DS:=(zJ (zas (dCall zgz (za (zb 0) zm)) (zp 1))
  (zJ (zas (dCall zce (za (zb 1) (za (dC (.int 4)) zm))) (zp 2))
  (zJ (zas (dCall zdk (za (zb 2) zm)) (zp 3))
  (zJ (zas (dCall zbo (za (dOp dIx (zb 2) (dC (.int 3))) zm)) (zp 4))
  (zJ (zas (zo7 ["_law_spot"] [1] [0] (zbf (zb 4)) (zp 0) zeS (dOp zbi (dCall zab (za (zb 1) (za (dC (.int 100)) zm))) (dOp zk4 (dC (.int 10)) (dOp dIx (zb 0) (dC (.int 2)))))) (zp 5))
  (zJ (zas (dOp dEq (dCall zab (za (zb 1) (za (dC (.int 3)) zm))) (dC (.int 0))) (zp 6))
  (zJ (zas zkj (zp 7))
  (zJ (zdw (zmI (za (zb 4) zm)) (zeL 2 (zao (zp 8) (zao (zeL 4 (zao (zp 9) (zao (zp 10) (zao (zp 11) (zao (zp 12) zef))))) zef)))
  (zaX (zM (dOp dEq (dOp zbi (zb 11) (dC (.int 1))) (dOp zmY (dCB zcH (za (dOp dIx (dOp dIx (zb 9) (dC (.int 1))) (zb 10)) zm)) (dC (.int 2)))))
  (zJ (zaX (zM (zb 6))
  (zas (dOp zj1 (dC (.int 200)) (dCall zbc (za (dOp dIx (zb 2) (dC (.int 2))) (za (zb 12) zm)))) (zpB (zb 5) (zb 8) zkl))
  zaq)
  (zJ (zas (dOp zbi (dOp zbi (dOp zbi (dOp zj1 (dOp dIx (zb 5) (zb 8)) (dOp dIx (zb 9) (dC (.int 4)))) (dOp dIx (zb 9) (dC (.int 3)))) (dCall zbc (za (dOp dIx (zb 2) (dC (.int 2))) (za (zb 12) zm)))) (dOp dIx (zb 2) (dC (.int 4)))) (zp 13))
  (zaX (dOr (zM (dOp (zir true) (dOp dIx (zb 9) (dC (.int 0))) (zb 7))) (zM (dOp dLt (zb 13) (dOp dIx (zi6 (zb 7) (dOp dIx (zb 9) (dC (.int 0)))) (dC (.int 0))))))
  (zkA (zb 7) (dOp dIx (zb 9) (dC (.int 0))) (dTup (za (zb 13) (za (zb 10) zm))))
  zaq)))
  zaq))
  (zJ (zas (zhs "Table" zaN 2 0 [.p 0, .p 1] [] (za (dCall zbw (za (dOp dIx (zb 2) (dC (.int 3))) (za (zb 5) zm))) zm) zm) (zp 14))
  (zJ (zdw (zbf (dOp dIx (zb 2) (dC (.int 3)))) (zp 9)
  (zJ (zas (zmD zcL 3 1 [.p 0, .p 1, .p 2, .k 0] [] (za (zb 3) (za (dCall zbp (za (zb 9) zm)) (za (zb 14) zm))) (za (dOp dIx (zb 2) (dC (.int 4))) zm)) (zp 15))
  (zJ (zaX (dOr (zmO (zM (dCB zgf (za (zb 15) (za (dC (.ty "tuple")) zm))))) (dOr (zM (dOp dNe (zb 15) (zi6 (zb 7) (dOp dIx (zb 9) (dC (.int 0)))))) (zmO (zM (dCB zpd (za (zc6 ["_law_x"] [] [0] (zbf (zb 15)) (zp 0) zeS (dCall zca (za (zb 0) zm))) zm))))))
  (zbk (dC (.bl false)))
  zaq)
  (zaX (zM (dOp dNe (zmD zcL 3 0 [.p 0, .p 1, .p 2, .c 0] [.int 0] (za (zb 3) (za (dCall zbp (za (zb 9) zm)) (za (zb 14) zm))) zm) (dTup (za (dOp zj1 (dOp dIx (zi6 (zb 7) (dOp dIx (zb 9) (dC (.int 0)))) (dC (.int 0))) (dOp dIx (zb 2) (dC (.int 4)))) (za (dOp dIx (zi6 (zb 7) (dOp dIx (zb 9) (dC (.int 0)))) (dC (.int 1))) zm)))))
  (zbk (dC (.bl false)))
  zaq))))
  (zbk (dC (.bl true)))))))))))))
local macro_rules | `(tactic| rw_mod_cast [$rs,*])=>do
 let ts:Array (Lean.TSyntax `term):=rs.getElems.map fun r=>⟨r.raw[1]⟩
 let ids:Array (Lean.TSyntax `term):=(("zJ zas zb dC dOp dUn zwQ zuO dOr zmO zod zz9 zpt dIf zv5 zyv zlS zsn zm za zpx dTup zlY zdM zaq zyo zzN zal zbk zzm zaX zaL zp zef zp8 zoG zzy zt1 zAb zgY ztz ztV ztW zso zjF zdw dCall dCB zc6 zo7 zxM zvB zyh zv2 zzz zx6 zbf zxE zxO zwX zy8 zqB zaD zqP dSl zaG zxC zer zzj zeS zpB zuz zu8 dBM zz5 zrY zwJ zya zzp zvG zzt zzE zwD zxL zsN zuu zj1 zmY zuT zz8 dLt dGt dLe dGe zyY zzD zz2 e_i zyM zzT zxF zhU zwp zyU zzO zyE zyp zsY zxi zvU zuJ zr7 zsv znJ ztY ztI zyK zyD zxc zwL zxo zxk zxu zyq zoA znI zqp zoZ zlc zz0 zus zqW zrD zqM zuh zrt zqD zoB Nat.reduceAdd Int.cast_ofNat_Int Int.reduceEq decide_true decide_false List.all_cons List.all_nil List.any_cons List.any_nil id_eq Bool.and_true Bool.true_and Bool.or_false znH zlQ znP zmB zm9 zmi zfM zmE zmI zuD zmD ziY zzG zwV zuG zen zzc zsz zq8 zsw zxR zqY zdJ zte zvj zwl zl2 zl6 zmj zlP zhp zf9 zix znN zmQ znV ziy zkz zkN zfP zkC zkb zkJ zkO zg8 zg9 zkE zfE zkL zh3 sel pick List.getD_cons_zero List.getD_cons_succ beq_self_eq_true Bool.and_self cond_true zpy zuW zuH zwM zvi zkh ends zea zr zr9 zsR zwt zwi zwA zwT zw1 zx4 zxy zxn zrK List.length_cons List.length_nil List.map_cons List.map_nil List.set_cons_zero List.set_cons_succ List.getElem?_cons_zero List.getElem?_cons_succ List.cons_append List.nil_append List.replicate Option.join_some Option.join_none true_and and_true if_true Bool.true_eq_false Bool.false_eq_true if_false Bool.not_true Bool.not_false".splitOn " ").map fun s=>(⟨Lean.mkIdent s.toName⟩:Lean.TSyntax `term)).toArray
 let all:=ids++ts
 `(tactic| simp only[↓zu9, ↓zvd, ↓zuI, ↓zuP, ↓zqR, ↓zrk, ↓zqn, ↓zrv, $[$all:term],*])
local macro_rules | `(tactic| walk_at "e")=> `(tactic| rw_mod_cast [])
local macro_rules | `(tactic| walk_at "x")=> `(tactic| repeat' first | exact zzV | exact zv1 | exact zue rfl | with_reducible apply zsQ | with_reducible apply zzs | exact zht zr9 | exact zht zsR | exact zht zwt | exact zht zwi | exact zht zwA | exact zht zwl | exact zt9 zr9 | exact zt9 zsR | exact zw7 | exact zyF | apply zu1 | with_reducible apply zw0 | with_reducible apply zxw | with_reducible apply zy1 | exact zrC | with_reducible apply zwK | with_reducible apply zx5 | with_reducible apply zyc | with_reducible apply zwH | with_reducible apply zwF | with_reducible apply zs5 | with_reducible apply zr3 | with_reducible apply zr5 | with_reducible apply ztp | with_reducible apply zt2 | (show _≠[];simp;done) | (show _ < List.length _;simp;done) | (show List.length _<=1000;simp;done) | (show List.length _+List.length _<=1000;simp;done))
def letters:Str:="abcdefghijklmnopqrstuvwxyz"
theorem zn7:∀i:_root_.Fin 26,letters.cps.toList[i.val]? = some (97+i.val):=by decide+kernel
theorem zjl{v:Int}(h0:0<=v)(h1:v < 26):atI letters.cps.toList v=some (97+v.toNat):=by
 have h:=zbb (zn7 ⟨v.toNat,by omega⟩);rw[show((v.toNat:Nat):Int)=v by omega] at h;exact h
def zbt(k:Nat):Str:=⟨(List.replicate (1+k / 26) (97+k % 26)).toArray⟩
def zhG:List Str:=(List.range 104).map zbt
theorem ziH:zhG.Nodup:=by decide+kernel
theorem zng:∀k:_root_.Fin 104,((zbt k.val).cps.toList.length<=8/\1<=(zbt k.val).cps.toList.length)/\(zbt k.val).cps.toList.all (fun c=>decide (97<=c/\c<=122))=true:=by decide+kernel
theorem zru{ns:List Str}(h:ns.length < 104)(all:∀k,k < 104->zbt k∈ns):False:=by
 have hs:zhG ⊆ ns:=fun x hx=>by
  obtain⟨k,hk,rfl⟩:=List.mem_map.mp hx;exact all k (List.mem_range.mp hk)
 have:=List.Nodup.length_le_of_subset ziH hs;have e:zhG.length=104:=by decide+kernel
 omega
theorem zpE{s:Nat}{ds:List D}{μ:Mu}{Q:DK}(hs:μ s=some .draw)(h0:ds≠[])(hl:ds.length<=1000)(q:∀(i:Nat) d,ds[i]? = some d->Q d μ):zbU [.cell s, .lst ds] μ Q:=by
 have hp:0 < ds.length:=List.length_pos_iff.mpr h0;refine⟨rfl,?_⟩;walk_at "e"
 refine⟨hs,by omega,by omega,fun v v0 v1=>?_⟩;obtain⟨d,e1,e2⟩:=zot v0 v1;rw_mod_cast [e1];exact⟨_, .refl _,q _ d e2⟩
theorem zhk(cs:List Nat):(Str.join (Str.ofString "") (cs.map fun c=>(⟨#[c]⟩:Str))).cps.toList=cs:=by
 show(Str.join Str.empty (cs.map fun c=>(⟨#[c]⟩:Str))).cps.toList=cs;rw[zeK,List.map_map];induction cs with
 | nil=>rfl
 | cons c r ih=>rw[List.map_cons,List.flatten_cons,ih];rfl
theorem zmN(cs:List Nat):zg2 (cs.map fun c=>(⟨#[c]⟩:Str))=cs.length+cs.length:=by
 unfold zg2;rw[List.map_map,List.length_map];congr 1
 induction cs with
 | nil=>rfl
 | cons c r ih=>rw[List.map_cons,List.sum_cons,ih,List.length_cons];show 1+r.length=_;omega
theorem zmy{s na:Nat}{ns:List Str}{μ:Mu}{Q:DK}(hs:μ s=some .draw)(hn:μ na=some (.lst (ns.map D.str)))(hl:ns.length < 100)(q:∀x,Nm x->x∉ns->Q (.str x) (zF μ na (.lst ((ns++[x]).map D.str)))):zau [.cell s, .cell na] μ Q:=by
 have hz:(200:Nat)<=sizeLine:=by decide
 have el:(Str.ofString "abcdefghijklmnopqrstuvwxyz")=letters:=rfl;have ll:letters.length<=sizeLine:=by decide
 refine⟨rfl,stp fun N1 h1=>?_⟩;walk_at "e"
 refine h1 _ _ (zkD (fun ρ μ'=>∃x3 x4 x5,ρ=[some (.cell s),some (.cell na),some (.str letters),x3,x4,x5,none]/\μ'=μ) (fun N hN=>?_) ?_)
 .walk_at "e"
  refine⟨by decide,by decide,?_⟩;refine zaj (fun i ρ μ'=>∃x3 x4 x5,ρ=[some (.cell s),some (.cell na),some (.str letters),x3,x4,x5,none]/\μ'=μ) ⟨_,_,_,rfl,rfl⟩ ?_ (fun ρ μ' h=>hN _ _ h);rintro i d ρ μ' hd ⟨x3,x4,x5,rfl,rfl⟩ M hM;refine stp fun M1 g1=>?_
  walk_at "e"
  refine⟨hs,by decide,by decide,fun v v0 v1=>g1 _ _ (zkD (fun ρ μ2=>∃x3 x5 size,ρ=[some (.cell s),some (.cell na),some (.str letters),x3,some (.int size),x5,none]/\μ2=μ'/\1<=size/\size<=8) (fun N hN=>?_) ?_)⟩
  .walk_at "e"
   split
   .exact⟨hs,by decide,by decide,fun v v0 v1=>hN _ _ ⟨_,_,_,rfl,rfl,by omega,by omega⟩⟩
   .exact hN _ _ ⟨_,_,_,rfl,rfl,by omega,by omega⟩
  rintro ρ μ2 ⟨y3,y5,size,rfl,rfl,z1,z8⟩;refine stp fun M2 g2=>?_
  walk_at "e"
  refine⟨by decide,by omega,by omega,?_⟩;refine zb1 (fun i ys μ3=>μ3=μ2/\∃cs:List Nat,ys=(cs.map fun c=>(⟨#[c]⟩:Str)).map D.str/\cs.length=i/\∀c∈cs,97<=c/\c<=122) ⟨rfl,[],rfl,rfl,fun c hc=>by cases hc⟩ ?_ ?_
  .rintro i d ys μ3 hd ⟨rfl,cs,rfl,hc,hcs⟩;obtain⟨hi,rfl⟩:=zcn hd;refine⟨by rw[List.length_map,List.length_map];omega,fun N hN=>?_⟩;walk_at "e"
   refine⟨hs,by decide,by decide,fun v v0 v1=>?_⟩;rw_mod_cast [zjl v0 v1];refine⟨ll,hN _ _ ⟨rfl,cs++[97+v.toNat],by rw[List.map_append,List.map_append];rfl,by rw[List.length_append,hc];rfl,fun c h=>?_⟩⟩;rcases List.mem_append.mp h with h | h
   .exact hcs c h
   .rw[List.mem_singleton.mp h];omega
  rintro ys μ3 ⟨rfl,cs,rfl,hc,hcs⟩;rw[zbl] at hc;refine⟨cs.map fun c=>(⟨#[c]⟩:Str),rfl,by decide,by rw[zmN];omega,g2 _ _ ?_⟩;have nm:Nm (Str.join (Str.ofString "") (cs.map fun c=>(⟨#[c]⟩:Str))):=⟨by rw[zhk];omega,by rw[zhk];omega,by rw[zhk];exact hcs⟩;generalize Str.join (Str.ofString "") (cs.map fun c=>(⟨#[c]⟩:Str))=x at nm
  rw_mod_cast [zcM hn,Bool.true_xor];split
  .rename_i c;have c':x∉ns:=by simpa using c
   rw_mod_cast [hn];refine⟨by rw[List.length_map];omega,_, .refl _,?_⟩;have:=q x nm c';rw[List.map_append] at this;exact this
  .exact hM _ _ ⟨_,_,_,rfl,rfl⟩
 rintro ρ μ' ⟨x3,x4,x5,rfl,rfl⟩;refine stp fun M1 g1=>?_
 walk_at "e"
 refine⟨by decide,by decide,?_⟩;refine zaj (fun i ρ μ2=>∃x5 x6,ρ=[some (.cell s),some (.cell na),some (.str letters),x3,x4,x5,x6]/\μ2=μ'/\∀k,k < i->zbt k∈ns) ⟨_,_,rfl,rfl,fun k hk=>absurd hk (Nat.not_lt_zero k)⟩ ?_ ?_
 .rintro j d ρ μ2 hd ⟨x5,x6,rfl,rfl,hb⟩ M hM;obtain⟨hj,rfl⟩:=zcn hd;have hj':j < 104:=hj;refine stp fun M2 g2=>?_
  have e0:(0:Int)+(j:Int)=j:=by omega
  rw[e0];rw_mod_cast [zjl (v:=(j:Int) % 26) (by omega) (by omega)];refine⟨by decide,ll,⟨by decide,by decide⟩,by omega,by omega,fun y hy=>g2 _ _ ?_⟩;have ex:y=zbt j:=zvo (by
   rw[hy];show List.replicate (1+(j:Int) / 26).toNat (97+((j:Int) % 26).toNat)=List.replicate (1+j / 26) (97+j % 26);congr 1<;>omega)
  subst ex;have nm:Nm (zbt j):=by
   obtain⟨⟨h8,h1⟩,ha⟩:=zng ⟨j,hj'⟩;exact⟨h1,h8,fun c hc=>of_decide_eq_true (List.all_eq_true.mp ha c hc)⟩
  rw_mod_cast [zcM hn,Bool.true_xor];split
  .rename_i c;have c':zbt j∉ns:=by simpa using c
   rw_mod_cast [hn];refine⟨by rw[List.length_map];omega,_, .refl _,?_⟩;have:=q _ nm c';rw[List.map_append] at this;exact this
  .rename_i c;have c':zbt j∈ns:=by simpa using c
   refine hM _ _ ⟨_,_,rfl,rfl,fun k hk=>?_⟩;by_cases e:k=j
   .rw[e];exact c'
   .exact hb k (by omega)
 .rintro ρ μ2 ⟨x5,x6,rfl,rfl,hb⟩;rw[zbl] at hb;exact(zru (by omega) hb).elim
set_option synthInstance.maxHeartbeats 4000000
set_option synthInstance.maxSize 100000
set_option maxHeartbeats 4000000
def zaW(r:LR):D:= .lst [.str r.nm, .cell r.sa, .cell r.ea, .int r.w]
structure WD(μ:Mu)(s na la:Nat)(ns:List Str)(ls:List LR):Prop where
 ds:μ s=some .draw
 dn:μ na=some (.lst (ns.map D.str))
 dl:μ la=some (.lst (ls.map zaW))
 nl:na≠la
 rs:∀r∈ls,μ r.sa=some (.lst (r.S.map D.str))/\μ r.ea=some (.lst (r.E.map D.str))
 ap:∀r∈ls,r.sa≠na/\r.sa≠la/\r.ea≠na/\r.ea≠la
 nd:∀(i j:Nat) (r r':LR),ls[i]? = some r->ls[j]? = some r'->(r.sa=r'.sa->i=j)/\(r.ea=r'.ea->i=j)/\r.sa≠r'.ea
def zbn(na la:Nat)(μ:Mu)(ls:List LR)(μ':Mu)(ls':List LR):Prop:=∀k c,μ k=some c->k≠na->k≠la->(∀r∈ls,k≠r.sa/\k≠r.ea)->μ' k=some c/\∀r∈ls',k≠r.sa/\k≠r.ea
theorem zbn.refl{na la:Nat}{μ:Mu}{ls:List LR}:zbn na la μ ls μ ls:=fun _ _ e _ _ h=>⟨e,h⟩
theorem zbn.trans{na la:Nat}{μ μ1 μ2:Mu}{ls ls1 ls2:List LR}(a:zbn na la μ ls μ1 ls1)(b:zbn na la μ1 ls1 μ2 ls2):zbn na la μ ls μ2 ls2:=fun k c e h1 h2 h3=>by
 obtain⟨e1,n1⟩:=a k c e h1 h2 h3;exact b k c e1 h1 h2 n1
theorem WD.sna{μ:Mu}{s na la:Nat}{ns:List Str}{ls:List LR}(W:WD μ s na la ns ls):s≠na:=fun z=>by have:=W.ds;rw[z,W.dn] at this;cases this
theorem WD.sla{μ:Mu}{s na la:Nat}{ns:List Str}{ls:List LR}(W:WD μ s na la ns ls):s≠la:=fun z=>by have:=W.ds;rw[z,W.dl] at this;cases this
theorem WD.names{μ:Mu}{s na la:Nat}{ns ns':List Str}{ls:List LR}(W:WD μ s na la ns ls):WD (zF μ na (.lst (ns'.map D.str))) s na la ns' ls where
 ds:=by rw[zg W.sna];exact W.ds
 dn:=zr
 dl:=by rw[zg (Ne.symm W.nl)];exact W.dl
 nl:=W.nl
 rs:=fun r hr=>by
  obtain⟨a1,a2,a3,a4⟩:=W.ap r hr;rw[zg a1,zg a3];exact W.rs r hr
 ap:=W.ap
 nd:=W.nd
theorem zbn.names{na la:Nat}{μ:Mu}{ls:List LR}{c:Ct}:zbn na la μ ls (zF μ na c) ls:=fun k c e h1 h2 h3=>⟨by rw[zg h1];exact e,h3⟩
theorem WD.cell{μ:Mu}{s na la k:Nat}{ns:List Str}{ls:List LR}{c:Ct}(W:WD μ s na la ns ls)(hk:μ k=none):WD (zF μ k c) s na la ns ls where
 ds:=by rw[zg (fun z=>by have:=W.ds;rw[z,hk] at this;cases this)];exact W.ds
 dn:=by rw[zg (fun z=>by have:=W.dn;rw[z,hk] at this;cases this)];exact W.dn
 dl:=by rw[zg (fun z=>by have:=W.dl;rw[z,hk] at this;cases this)];exact W.dl
 nl:=W.nl
 rs:=fun r hr=>by
  obtain⟨a1,a2⟩:=W.rs r hr;rw[zg (fun z=>by rw[z,hk] at a1;cases a1),zg (fun z=>by rw[z,hk] at a2;cases a2)];exact⟨a1,a2⟩
 ap:=W.ap
 nd:=W.nd
theorem zl4{ls:List LR}{r:LR}(h:r∈ls):∃i:Nat,ls[i]? = some r:=List.getElem?_of_mem h
theorem WD.line{μ:Mu}{s na la k1 k2:Nat}{ns:List Str}{ls:List LR}{x:Str}{S E:List Str}{w:Int}{a0:Addr}(W:WD μ s na la ns ls)(h1:μ k1=some (.lst (S.map D.str)))(h2:μ k2=some (.lst (E.map D.str)))(n12:k1≠k2)
  (f1:k1≠na/\k1≠la/\∀r∈ls,k1≠r.sa/\k1≠r.ea)(f2:k2≠na/\k2≠la/\∀r∈ls,k2≠r.sa/\k2≠r.ea):WD (zF μ la (.lst ((ls++[(⟨a0,k1,k2,x,S,E,w⟩:LR)]).map zaW))) s na la ns (ls++[(⟨a0,k1,k2,x,S,E,w⟩:LR)]) where
 ds:=by rw[zg W.sla];exact W.ds
 dn:=by rw[zg W.nl];exact W.dn
 dl:=zr
 nl:=W.nl
 rs:=fun r hr=>by
  rcases List.mem_append.mp hr with hr | hr
  .obtain⟨a1,a2,a3,a4⟩:=W.ap r hr;rw[zg a2,zg a4];exact W.rs r hr
  .rw[List.mem_singleton.mp hr];exact⟨by rw[zg f1.2.1];exact h1,by rw[zg f2.2.1];exact h2⟩
 ap:=fun r hr=>by
  rcases List.mem_append.mp hr with hr | hr
  .exact W.ap r hr
  .rw[List.mem_singleton.mp hr];exact⟨f1.1,f1.2.1,f2.1,f2.2.1⟩
 nd:=fun i j r r' hi hj=>by
  have key:∀{i:Nat} {r:LR},(ls++[(⟨a0,k1,k2,x,S,E,w⟩:LR)])[i]? = some r->ls[i]? = some r\/(i=ls.length/\r=⟨a0,k1,k2,x,S,E,w⟩):=fun{i r} h=>by
   by_cases hl:i < ls.length
   .rw[List.getElem?_append_left hl] at h;exact .inl h
   .rw[List.getElem?_append_right (by omega)] at h;by_cases e:i - ls.length=0
    .rw[e] at h;cases h;exact .inr ⟨by omega,rfl⟩
    .rw[List.getElem?_eq_none (by simp;omega)] at h;cases h
  rcases key hi with a | ⟨a,rfl⟩<;>rcases key hj with b | ⟨b,rfl⟩
  .exact W.nd i j r r' a b
  .obtain⟨p1,p2⟩:=f1.2.2 r (List.mem_of_getElem? a);obtain⟨p3,p4⟩:=f2.2.2 r (List.mem_of_getElem? a);exact⟨fun z=>absurd z.symm p1,fun z=>absurd z.symm p4,fun z=>p3 z.symm⟩
  .obtain⟨p1,p2⟩:=f1.2.2 r' (List.mem_of_getElem? b);obtain⟨p3,p4⟩:=f2.2.2 r' (List.mem_of_getElem? b);exact⟨fun z=>absurd z p1,fun z=>absurd z p4,fun z=>p2 z⟩
  .exact⟨fun _=>by omega,fun _=>by omega,n12⟩
theorem zmH{ls:List LR}{i:Nat}{r r':LR}(hr:ls[i]? = some r)(h:zaW r'=zaW r):(ls.set i r').map zaW=ls.map zaW:=by
 rw[List.map_set,h];apply List.ext_getElem?;intro j;by_cases e:i=j
 .subst e;rw[List.getElem?_set_self (by rw[List.length_map];exact(List.getElem?_eq_some_iff.mp hr).1),List.getElem?_map,hr];rfl
 .rw[List.getElem?_set_ne e]
theorem WD.ends{μ μ':Mu}{s na la i:Nat}{ns:List Str}{ls:List LR}{r:LR}{S E:List Str}(W:WD μ s na la ns ls)(hr:ls[i]? = some r)(h1:μ' r.sa=some (.lst (S.map D.str)))(h2:μ' r.ea=some (.lst (E.map D.str)))(ho:∀k,k≠r.sa->k≠r.ea->μ' k=μ k):WD μ' s na la ns (ls.set i { r with S:=S,E:=E }):=by
 have hm:=List.mem_of_getElem? hr;obtain⟨a1,a2,a3,a4⟩:=W.ap r hm;obtain⟨b1,b2⟩:=W.rs r hm;have key:∀{j:Nat} {q:LR},(ls.set i { r with S:=S,E:=E })[j]? = some q->(j=i/\q={ r with S:=S,E:=E })\/(j≠i/\ls[j]? = some q):=fun{j q} h=>by
  by_cases e:i=j
  .subst e;rw[List.getElem?_set_self (List.getElem?_eq_some_iff.mp hr).1] at h;cases h;exact .inl ⟨rfl,rfl⟩
  .rw[List.getElem?_set_ne e] at h;exact .inr ⟨fun z=>e z.symm,h⟩
 refine⟨?_,?_,?_,W.nl,?_,?_,?_⟩
 .rw[ho s (fun z=>by have:=W.ds;rw[z,b1] at this;cases this) (fun z=>by have:=W.ds;rw[z,b2] at this;cases this)];exact W.ds
 .rw[ho na (Ne.symm a1) (Ne.symm a3)];exact W.dn
 .rw[ho la (Ne.symm a2) (Ne.symm a4),zmH (r':={ r with S:=S,E:=E }) hr rfl];exact W.dl
 .intro q hq;obtain⟨j,hj⟩:=zl4 hq;rcases key hj with⟨rfl,rfl⟩ | ⟨hne,hj'⟩
  .exact⟨h1,h2⟩
  .obtain⟨c1,c2,c3⟩:=W.nd j i q r hj' hr;obtain⟨d1,d2,d3⟩:=W.nd i j r q hr hj';rw[ho q.sa (fun z=>hne (c1 z)) c3,ho q.ea (Ne.symm d3) (fun z=>hne (c2 z))];exact W.rs q (List.mem_of_getElem? hj')
 .intro q hq;obtain⟨j,hj⟩:=zl4 hq;rcases key hj with⟨rfl,rfl⟩ | ⟨hne,hj'⟩
  .exact⟨a1,a2,a3,a4⟩
  .exact W.ap q (List.mem_of_getElem? hj')
 .intro j j' q q' hj hj';rcases key hj with⟨rfl,rfl⟩ | ⟨hne,hj1⟩<;>rcases key hj' with⟨rfl,rfl⟩ | ⟨hne',hj2⟩
  .exact⟨fun _=>rfl,fun _=>rfl,(W.nd _ _ r r hr hr).2.2⟩
  .exact W.nd _ j' r q' hr hj2
  .exact W.nd j _ q r hj1 hr
  .exact W.nd j j' q q' hj1 hj2
set_option synthInstance.maxHeartbeats 4000000
set_option synthInstance.maxSize 100000
set_option maxHeartbeats 4000000
theorem zv7{c:DT}{t u:DS}{D0:zcw}{ρ:zad}{μ:Mu}(P:Bool->Mu->Prop)(hc:∀R:Bool->Mu->Prop,(∀b μ1,P b μ1->R b μ1)->c ρ μ R)(h:∀b μ1,P b μ1->if b=true then t D0 ρ μ1 else u D0 ρ μ1):zaX c t u D0 ρ μ:=hc _ h
theorem zrT{s na la:Nat}{ns bd:List Str}{ls:List LR}{one two:Str}{μ:Mu}{Q:DK}(W:WD μ s na la ns ls)(hn:ns.length < 100)(h14:ls.length<=14)(hfit:ls.length=14->∃r∈ls,zeb one bd r=true/\zfK two r=true)(h6:∀r∈ls,r.S.length<=6/\r.E.length<=6)
  (q:∀x μ' ns' ls',WD μ' s na la ns' ls'->zbn na la μ ls μ' ls'->ztm one two bd ns ls x ns' ls'->Q (.str x) μ'):zci [.cell s, .cell na, .cell la, .str one, .str two, .lst (bd.map D.str)] μ Q:=by
 have hz:(200:Nat)<=sizeLine:=by decide
 refine⟨rfl,stp fun N1 h1=>?_⟩;rw_mod_cast [W.dl];refine⟨by decide,zcz ls zaW (zeb one bd) zaW (by omega) (fun r hr Y Z hY hZ=>?_) (h1 _ _ (stp fun N2 h2=>?_)) W.dl⟩
 .obtain⟨r1,r2⟩:=W.rs r hr;unfold zaW at hY ⊢;rw_mod_cast [zlt,zcM r1,r1,List.length_map,Bool.true_xor,Bool.false_xor];unfold zeb at hY hZ;by_cases c1:r.nm∈bd
  .rw_mod_cast [decide_eq_true c1];exact hZ (by simp[c1])
  .rw_mod_cast [decide_eq_false c1];by_cases c2:one∈r.S
   .rw_mod_cast [decide_eq_true c2];exact hY (by simp[c1,c2])
   .rw_mod_cast [decide_eq_false c2];by_cases c3:r.S.length < 6
    .rw_mod_cast [show decide ((r.S.length:Int) < 6)=true from decide_eq_true (by omega)];exact hY (by simp[c1,c3])
    .rw_mod_cast [show decide ((r.S.length:Int) < 6)=false from decide_eq_false (by omega)];exact hZ (by simp[c2,c3])
 walk_at "e"
 have hl1:(ls.filter (zeb one bd)).length<=ls.length:=List.length_filter_le _ _;refine⟨by decide,zcz (ls.filter (zeb one bd)) zaW (zfK two) zaW (by omega) (fun r hr Y Z hY hZ=>?_) (h2 _ _ (stp fun N3 h3=>?_)) trivial⟩
 .obtain⟨r1,r2⟩:=W.rs r (List.mem_filter.mp hr).1;unfold zaW at hY ⊢;rw_mod_cast [zcM r2,r2,List.length_map,Bool.false_xor];unfold zfK at hY hZ;by_cases c2:two∈r.E
  .rw_mod_cast [decide_eq_true c2];exact hY (by simp[c2])
  .rw_mod_cast [decide_eq_false c2];by_cases c3:r.E.length < 6
   .rw_mod_cast [show decide ((r.E.length:Int) < 6)=true from decide_eq_true (by omega)];exact hY (by simp[c3])
   .rw_mod_cast [show decide ((r.E.length:Int) < 6)=false from decide_eq_false (by omega)];exact hZ (by simp[c2,c3])
 generalize hfl:(ls.filter (zeb one bd)).filter (zfK two)=fl
 have hfm:∀r∈fl,r∈ls/\zeb one bd r=true/\zfK two r=true:=fun r hr=>by
  rw[<- hfl] at hr;obtain⟨a,b⟩:=List.mem_filter.mp hr;obtain⟨c,d⟩:=List.mem_filter.mp a;exact⟨c,d,b⟩
 have hfn:ls.length=14->fl≠[]:=fun e z=>by
  obtain⟨r,hr,f1,f2⟩:=hfit e;have:r∈fl:=by rw[<- hfl];exact List.mem_filter.mpr ⟨List.mem_filter.mpr ⟨hr,f1⟩,f2⟩
  rw[z] at this;cases this
 have hfl14:fl.length<=14:=by rw[<- hfl];exact Nat.le_trans (List.length_filter_le _ _) (Nat.le_trans hl1 h14)
 have new:ls.length < 14->zJ (zal (dBM "list" zaE (zb 2) (za (zlY (za (dCall zau (za (zb 0) (za (zb 1) zm))) (za (zdM (za (zb 3) zm)) (za (zdM (za (zb 4) zm)) (za (dCall zab (za (zb 0) (za (dC (.int 4)) zm))) zm))))) zm)))
  (zbk (dOp dIx (dOp dIx (zb 2) (dUn zfj (dC (.int 1)))) (dC (.int 0)))) { (ends Q) with nx:=N3 } [some (.cell s),some (.cell na),some (.cell la),some (.str one),some (.str two),some (.lst (bd.map D.str)),some (.lst (fl.map zaW)),none] μ:=by
  intro hlt;refine stp fun M1 g1=>?_
  rw_mod_cast [W.dl];refine zmy W.ds W.dn hn fun x nm hx=>?_
  refine⟨by decide,fun k1 hk1=>⟨by decide,fun k2 hk2=>?_⟩⟩;have W1:WD _ s na la (ns++[x]) ls:=W.names (ns':=ns++[x]);have W2:WD _ s na la (ns++[x]) ls:=W1.cell (c:= .lst [.str one]) hk1;have W3:WD _ s na la (ns++[x]) ls:=W2.cell (c:= .lst [.str two]) hk2;refine⟨W3.ds,by decide,by decide,fun w w0 w1=>⟨by decide,?_⟩⟩;rw[W3.dl];walk_at "e"
  refine⟨by rw[List.length_map];omega,g1 _ _ ?_⟩;have n1:∀k c,μ k=some c->k1≠k:=fun k c e z=>by
   subst z;by_cases e2:k1=na
   .subst e2;rw[zr] at hk1;cases hk1
   .rw[zg e2,e] at hk1;cases hk1
  have n12:k1≠k2:=fun z=>by subst z;rw[zr] at hk2;cases hk2
  have n2:∀k c,μ k=some c->k2≠k:=fun k c e z=>by
   subst z;rw[zg (Ne.symm n12)] at hk2;by_cases e2:k2=na
   .subst e2;rw[zr] at hk2;cases hk2
   .rw[zg e2,e] at hk2;cases hk2
  have WL:=W3.line (x:=x) (S:=[one]) (E:=[two]) (w:=w) (a0:=0) (k1:=k1) (k2:=k2) (by rw[zg n12,zr];rfl) (by rw[zr];rfl) n12 ⟨n1 _ _ W.dn,n1 _ _ W.dl,fun r hr=>⟨n1 _ _ (W.rs r hr).1,n1 _ _ (W.rs r hr).2⟩⟩ ⟨n2 _ _ W.dn,n2 _ _ W.dl,fun r hr=>⟨n2 _ _ (W.rs r hr).1,n2 _ _ (W.rs r hr).2⟩⟩;have eL:List.map zaW (ls++[({ a:=0,sa:=k1,ea:=k2,nm:=x,S:=[one],E:=[two],w:=w }:LR)])=ls.map zaW++[.lst [.str x, .cell k1, .cell k2, .int w]]:=by rw[List.map_append];rfl
  rw[eL] at WL;rw_mod_cast [zm5];refine⟨_, .refl _,q x _ _ _ WL ?_ (.new 0 k1 k2 w hx nm hlt w0 w1)⟩;intro k c e hna hla hr;refine⟨?_,fun r hr'=>?_⟩
  .rw[zg hla,zg (fun z=>n2 k c e z.symm),zg (fun z=>n1 k c e z.symm),zg hna];exact e
  .rcases List.mem_append.mp hr' with hr' | hr'
   .exact hr r hr'
   .rw[List.mem_singleton.mp hr'];exact⟨fun z=>n1 k c e z.symm,fun z=>n2 k c e z.symm⟩
 have old:fl≠[]->N3 [some (.cell s),some (.cell na),some (.cell la),some (.str one),some (.str two),some (.lst (bd.map D.str)),some (.lst (fl.map zaW)),none] μ:=by
  intro hne;refine h3 _ _ (stp fun M1 g1=>?_);walk_at "e"
  refine zpE W.ds (by simpa using hne) (by rw[List.length_map];omega) fun i d hd=>?_
  rw[List.getElem?_map] at hd;cases hr:fl[i]? with
  | none=>rw[hr] at hd;cases hd
  | some r =>
   rw[hr] at hd;cases hd;obtain⟨hm,f1,f2⟩:=hfm r (List.mem_of_getElem? hr);obtain⟨j,hj⟩:=zl4 hm;obtain⟨r1,r2⟩:=W.rs r hm;obtain⟨c1,c2,c3⟩:=W.nd j j r r hj hj;obtain⟨l1,l2⟩:=h6 r hm;unfold zaW;refine g1 _ _ (zkD (fun ρ μ'=>ρ=[some (.cell s),some (.cell na),some (.cell la),some (.str one),some (.str two),some (.lst (bd.map D.str)),some (.lst (fl.map zaW)),some (.lst [.str r.nm, .cell r.sa, .cell r.ea, .int r.w])]/\μ' r.sa=some (.lst ((zaP one r.S).map D.str))/\∀k,k≠r.sa->μ' k=μ k) (fun N hN=>?_) ?_)
   .rw_mod_cast [zcM r1,Bool.true_xor];by_cases c:one∈r.S
    .rw_mod_cast [decide_eq_true c];exact hN _ _ ⟨rfl,by rw[zaP,if_pos c];exact r1,fun _ _=>rfl⟩
    .rw_mod_cast [decide_eq_false c,r1];refine⟨by rw[List.length_map];omega,hN _ _ ⟨rfl,?_,fun k hk=>zg hk⟩⟩;rw[zr,zaP,if_neg c,List.map_append];rfl
   rintro ρ μ1 ⟨rfl,e1,e2⟩;have r2':μ1 r.ea=some (.lst (r.E.map D.str)):=by rw[e2 _ (Ne.symm c3)];exact r2
   refine zkD (fun ρ μ'=>ρ=[some (.cell s),some (.cell na),some (.cell la),some (.str one),some (.str two),some (.lst (bd.map D.str)),some (.lst (fl.map zaW)),some (.lst [.str r.nm, .cell r.sa, .cell r.ea, .int r.w])]/\μ' r.ea=some (.lst ((zaP two r.E).map D.str))/\∀k,k≠r.ea->μ' k=μ1 k) (fun N hN=>?_) ?_
   .rw_mod_cast [zcM r2',Bool.true_xor];by_cases c:two∈r.E
    .rw_mod_cast [decide_eq_true c];exact hN _ _ ⟨rfl,by rw[zaP,if_pos c];exact r2',fun _ _=>rfl⟩
    .rw_mod_cast [decide_eq_false c,r2'];refine⟨by rw[List.length_map];omega,hN _ _ ⟨rfl,?_,fun k hk=>zg hk⟩⟩;rw[zr,zaP,if_neg c,List.map_append];rfl
   rintro ρ μ2 ⟨rfl,e3,e4⟩;walk_at "e"
   refine⟨_, .refl _,q r.nm μ2 ns _ (W.ends hj (by rw[e4 _ c3];exact e1) e3 fun k hk1 hk2=>by rw[e4 k hk2,e2 k hk1]) ?_ (.old j r hj rfl f1 f2)⟩;intro k c e hna hla hrr;obtain⟨p1,p2⟩:=hrr r hm;refine⟨by rw[e4 k p2,e2 k p1];exact e,fun q' hq'=>?_⟩;rcases zjV hq' with h | h
   .exact hrr q' h
   .rw[h];exact⟨p1,p2⟩
 refine zv7 (fun b μ1=>μ1=μ/\(b=true->ls.length < 14)/\(b=false->fl≠[])) (fun R hR=>?_) (fun b μ1 h=>?_)
 .rw_mod_cast [W.dl,List.length_map];by_cases c14:ls.length < 14
  .rw_mod_cast [show decide ((ls.length:Int) < 14)=true from decide_eq_true (by omega)];by_cases c0:fl=[]
   .rw_mod_cast [show decide ((fl.length:Int)=0)=true from decide_eq_true (by rw[c0];rfl)];exact hR _ _ ⟨rfl,fun _=>c14,fun z=>(by cases z)⟩
   .rw_mod_cast [show decide ((fl.length:Int)=0)=false from decide_eq_false (fun z=>c0 (List.length_eq_zero_iff.mp (by omega)))];exact⟨W.ds,by decide,by decide,fun v v0 v1=>hR _ _ ⟨rfl,fun _=>c14,fun _=>c0⟩⟩
  .rw_mod_cast [show decide ((ls.length:Int) < 14)=false from decide_eq_false (by omega)];exact hR _ _ ⟨rfl,fun z=>(by cases z),fun _=>hfn (by omega)⟩
 .obtain⟨rfl,hb1,hb2⟩:=h;cases b with
  | true=>exact new (hb1 rfl)
  | false=>exact old (hb2 rfl)
set_option synthInstance.maxHeartbeats 4000000
set_option synthInstance.maxSize 100000
set_option maxHeartbeats 4000000
theorem WD.other{μ:Mu}{s na la k:Nat}{ns:List Str}{ls:List LR}{c c':Ct}(W:WD μ s na la ns ls)(hk:μ k=some c')(hd:c'≠ .draw)(h:k≠na/\k≠la/\∀r∈ls,k≠r.sa/\k≠r.ea):WD (zF μ k c) s na la ns ls where
 ds:=by rw[zg (fun z=>by have:=W.ds;rw[z,hk] at this;cases this;exact hd rfl)];exact W.ds
 dn:=by rw[zg (Ne.symm h.1)];exact W.dn
 dl:=by rw[zg (Ne.symm h.2.1)];exact W.dl
 nl:=W.nl
 rs:=fun r hr=>by
  obtain⟨a1,a2⟩:=h.2.2 r hr;rw[zg (Ne.symm a1),zg (Ne.symm a2)];exact W.rs r hr
 ap:=W.ap
 nd:=W.nd
theorem zbn.put{na la k:Nat}{μ μ':Mu}{ls ls':List LR}{c:Ct}(T:zbn na la μ ls μ' ls')(hk:μ k=none):zbn na la μ ls (zF μ' k c) ls':=fun j d e h1 h2 h3=>by
 obtain⟨a,b⟩:=T j d e h1 h2 h3;exact⟨by rw[zg (fun z=>by rw[z,hk] at e;cases e)];exact a,b⟩
theorem WD.free{μ:Mu}{s na la k:Nat}{ns:List Str}{ls:List LR}(W:WD μ s na la ns ls)(hk:μ k=none):k≠na/\k≠la/\∀r∈ls,k≠r.sa/\k≠r.ea :=
 ⟨fun z=>(by have:=W.dn;rw[<- z,hk] at this;cases this),fun z=>(by have:=W.dl;rw[<- z,hk] at this;cases this),fun r hr=>⟨fun z=>(by have:=(W.rs r hr).1;rw[<- z,hk] at this;cases this),fun z=>(by have:=(W.rs r hr).2;rw[<- z,hk] at this;cases this)⟩⟩
theorem zua{s na la:Nat}{ho ga ns bd:List Str}{ls:List LR}{first last:Str}{h c:Nat}{μ:Mu}{Q:DK}(W:WD μ s na la ns ls)(N:zch ho ga ns ls h c)(hh:h+3<=48)(hc:c<=60)(hfi:first∈ho)(hla:last∈ho)(hfl:first≠last)(hbs:beside ho ga bd<=3)(hbn:∀y∈bd,y∈ns)(hgl:ga.length<=3)(hbl:bd.length<=10)
  (q:∀way k μ' ns' ls',WD μ' s na la ns' ls'->zbn na la μ ls μ' ls'->zch ho ga ns' ls' (h+3) c->zdt ns ls ls'->(∀y∈ns,y∈ns')->1<=k->k<=3->Way ho ga ns' ls' bd first k (2*k) way->way[2*k]? = some last->Q (.tup (way.map D.str)) μ') :
  zcj [.cell s, .cell na, .cell la, .lst (ga.map D.str), .str first, .str last, .lst (bd.map D.str)] μ Q:=by
 have hz:(200:Nat)<=sizeLine:=by decide
 refine⟨rfl,stp fun N1 h1=>?_⟩;walk_at "e"
 refine⟨by decide,zcz ga D.str (fun x=> !decide (x∈bd)) D.str (by omega) (fun x hx Y Z hY hZ=>?_) (h1 _ _ (stp fun N2 h2=>?_)) trivial⟩
 .rw_mod_cast [zlt,Bool.true_xor];by_cases c1:x∈bd
  .rw_mod_cast [decide_eq_true c1];exact hZ (by simp[c1])
  .rw_mod_cast [decide_eq_false c1];exact hY (by simp[c1])
 walk_at "e"
 refine⟨by decide,fun kw hkw=>h2 _ _ ?_⟩;have gnd:ga.Nodup:=(List.nodup_append.mp (List.nodup_append.mp N.nd).1).2.1;have fr0:∀x∈ga.filter (fun x=> !decide (x∈bd)),x∈ga/\x∉bd:=fun x hx=>by
  obtain⟨m1,m2⟩:=List.mem_filter.mp hx;exact⟨m1,by simpa using m2⟩
 have frd:(ga.filter fun x=> !decide (x∈bd)).Nodup:=gnd.sublist List.filter_sublist;have frl:(ga.filter fun x=> !decide (x∈bd)).length<=3:=Nat.le_trans (List.length_filter_le _ _) hgl;generalize ga.filter (fun x=> !decide (x∈bd))=fr at fr0 frd frl
 have hop:∀(ns':List Str) (ls':List LR) (k:Nat) (wh:List Str) (one two:Str),zch ho ga ns' ls' (h+k) c->(∀y∈ns,y∈ns')->k<=2->Way ho ga ns' ls' bd first k (2*k+1) wh->wh[2*k]? = some one->two∈ho++ga->two∉wh ->
   (ns'.length < 100/\(ls'.length=14->∃r∈ls',zeb one (bd++wh) r=true/\zfK two r=true)/\∀r∈ls',r.S.length<=6/\r.E.length<=6) /\
   ∀x ns2 ls2,ztm one two (bd++wh) ns' ls' x ns2 ls2->zch ho ga ns2 ls2 (h+(k+1)) c/\zdt ns' ls' ls2/\(∀y∈ns,y∈ns2)/\Way ho ga ns2 ls2 bd first (k+1) (2*k+2) (wh++[x,two])/\(two∈ga->two∉bd->Way ho ga ns2 ls2 bd first (k+1) (2*k+3) (wh++[x,two])):=by
  intro ns' ls' k wh one two N' sub' hk Y h1 ht htw;refine⟨⟨?_,fun h14=>zxT N' (by omega) one two ?_ h14,fun r hr=>⟨(N'.ends r hr).s6,(N'.ends r hr).e6⟩⟩,fun x ns2 ls2 R=>?_⟩
  .have:=N'.cnt;have:=N'.len;omega
  .rw[zfw];have:=Y.bs;omega
  .have bsub:∀y∈bd++wh,y∈ns':=fun y hy=>(List.mem_append.mp hy).elim (fun z=>sub' y (hbn y z)) (Y.sub y)
   obtain⟨N2,G2,J2,xb,sub2,xg,xn⟩:=zvu N' (Y.nn k one h1) ht bsub R;have xb1:x∉bd:=fun z=>xb (List.mem_append_left _ z)
   have xb2:x∉wh:=fun z=>xb (List.mem_append_right _ z)
   obtain⟨Y1,Y2⟩:=(Y.grow G2 sub2).step h1 J2 xg xb1 xb2 xn htw ht (N2.sub two (List.mem_append_left _ ht));exact⟨N2,G2,fun y hy=>sub2 y (sub' y hy),Y1,Y2⟩
 have lastOf:∀(k:Nat) (wh:List Str),wh.length=2*k+1->∃one,wh[2*k]? = some one/\atI (wh.map D.str) (-1)=some (.str one):=fun k wh e=>by
  have hlt:2*k < wh.length:=by omega
  refine⟨wh[2*k],List.getElem?_eq_getElem hlt,?_⟩;rw[zgX,List.getLast?_eq_getElem?,List.length_map,List.getElem?_map,show wh.length - 1=2*k by omega,List.getElem?_eq_getElem hlt];rfl
 refine zkD (fun ρ μ'=>∃(k:Nat) (ns' wh:List Str) (ls':List LR) (x7 x9 x10:Option D),ρ=[some (.cell s),some (.cell na),some (.cell la),some (.lst (ga.map D.str)),some (.str first),some (.str last),some (.lst (bd.map D.str)),x7,some (.cell kw),x9,x10]/\k<=2 /\
  WD μ' s na la ns' ls'/\zbn na la μ ls μ' ls'/\zch ho ga ns' ls' (h+k) c/\zdt ns ls ls'/\(∀y∈ns,y∈ns')/\Way ho ga ns' ls' bd first k (2*k+1) wh/\μ' kw=some (.lst (wh.map D.str))/\(kw≠na/\kw≠la/\∀r∈ls',kw≠r.sa/\kw≠r.ea)) (fun NX hNX=>?_) ?_
 .have W1:WD (zF μ kw (.lst [.str first])) s na la ns ls:=W.cell hkw;walk_at "e"
  refine⟨W1.ds,by decide,by decide,fun v v0 v1=>?_⟩;rw[List.length_map];have bn:(if (fr.length:Int) < v then(fr.length:Int) else v)<=2/\0<=(if (fr.length:Int) < v then(fr.length:Int) else v)/\(if (fr.length:Int) < v then(fr.length:Int) else v)<=fr.length:=by split<;>omega
  generalize (if (fr.length:Int) < v then(fr.length:Int) else v)=n at bn
  obtain⟨n2,n0,nl⟩:=bn;refine⟨by omega,by omega,?_⟩;refine zaj (fun j ρ μ'=>∃(ns' wh fr':List Str) (ls':List LR) (x9 x10:Option D),ρ=[some (.cell s),some (.cell na),some (.cell la),some (.lst (ga.map D.str)),some (.str first),some (.str last),some (.lst (bd.map D.str)),some (.lst (fr'.map D.str)),some (.cell kw),x9,x10] /\
   WD μ' s na la ns' ls'/\zbn na la μ ls μ' ls'/\zch ho ga ns' ls' (h+j) c/\zdt ns ls ls'/\(∀y∈ns,y∈ns')/\Way ho ga ns' ls' bd first j (2*j+1) wh/\μ' kw=some (.lst (wh.map D.str))/\(kw≠na/\kw≠la/\∀r∈ls',kw≠r.sa/\kw≠r.ea)/\fr'.Nodup/\(∀x∈fr',x∈ga/\x∉bd/\x∉wh)/\n<=fr'.length+j/\fr'.length<=3)
   ⟨ns,[first],fr,ls,_,_,rfl,W1,zbn.refl.put hkw,N,zdt.refl _ _,fun _ h=>h, .one (List.mem_append_left _ hfi) (N.sub _ (List.mem_append_left _ (List.mem_append_left _ hfi))),zr,W.free hkw,frd,fun x hx=>⟨(fr0 x hx).1,(fr0 x hx).2,fun z=>?_⟩,by omega,frl⟩ ?_ ?_
  .rw[List.mem_singleton.mp z] at hx;exact N.nd2 hfi (fr0 _ hx).1
  .rintro j d ρ μ1 hd ⟨ns',wh,fr',ls',x9,x10,rfl,W5,T5,N5,G5,sub5,Y,hw5,f5,fnd,fin,fn,fl⟩ M hM;obtain⟨hj,rfl⟩:=zcn hd;refine stp fun M1 g1=>?_
   walk_at "e"
   refine zpE W5.ds ?_ (by rw[List.length_map];omega) fun i d hd=>?_
   .intro z;have:=congrArg List.length z;rw[List.length_map] at this;simp at this;subst this;simp at fn;omega
   rw[List.getElem?_map] at hd;cases hgt:fr'[i]? with
   | none=>rw[hgt] at hd;cases hd
   | some gt =>
    rw[hgt] at hd;cases hd;obtain⟨g1',g2',g3'⟩:=fin gt (List.mem_of_getElem? hgt);refine g1 _ _ (stp fun M2 g2=>?_);walk_at "e"
    refine⟨by decide,zcz fr' D.str (fun y=> !decide (y=gt)) D.str (by omega) (fun x hx Y Z hY hZ=>?_) (g2 _ _ (stp fun M3 g3=>?_)) trivial⟩
    .walk_at "e"
     by_cases c1:x=gt
     .rw_mod_cast [decide_eq_true c1];exact hZ (by simp[c1])
     .rw_mod_cast [decide_eq_false c1];exact hY (by simp[c1])
    have fnd':(fr'.filter fun y=> !decide (y=gt)).Nodup:=fnd.sublist List.filter_sublist;have fin':∀x∈fr'.filter (fun y=> !decide (y=gt)),x∈fr'/\x≠gt:=fun x hx=>by
     obtain⟨m1,m2⟩:=List.mem_filter.mp hx;exact⟨m1,by simpa using m2⟩
    have fl':fr'.length<=(fr'.filter fun y=> !decide (y=gt)).length+1:=zfN fnd;have fl3:(fr'.filter fun y=> !decide (y=gt)).length<=3:=Nat.le_trans (List.length_filter_le _ _) fl;generalize fr'.filter (fun y=> !decide (y=gt))=fr2 at fnd' fin' fl' fl3
    obtain⟨one,h1',hlast⟩:=lastOf j wh Y.len;obtain⟨⟨c1,c2,c3⟩,post⟩:=hop ns' ls' j wh one gt N5 sub5 (by omega) Y h1' (List.mem_append_right _ g1') g3';rw_mod_cast [hw5,hlast];refine⟨by rw[List.length_map,List.length_map,Y.len];omega,?_⟩;rw[<- List.map_append];refine zrT W5 c1 N5.len c2 c3 fun x μ2 ns2 ls2 W9 T9 R=>?_
    obtain⟨N9,G9,sub9,Y1,Y2⟩:=post x ns2 ls2 R;obtain⟨hw9,f9⟩:=T9 kw _ hw5 f5.1 f5.2.1 f5.2.2;rw_mod_cast [hw9];refine⟨by rw[List.length_map,Y.len];omega,g3 _ _ ?_⟩;rw_mod_cast [zr];refine⟨by rw[List.length_append,List.length_map,Y.len];show 2*j+1+1 < sizeLine;omega,hM _ _ ?_⟩;have em:wh.map D.str++[.str x]++[.str gt]=(wh++[x,gt]).map D.str:=by rw[List.map_append (l₂:=[x,gt]),List.append_assoc];rfl
    rw[zaa,em];refine⟨ns2,wh++[x,gt],fr2,ls2,_,_,rfl,W9.other hw9 (by simp) ⟨f5.1,f5.2.1,f9⟩,(T5.trans T9).put hkw,N9,G5.trans sub5 G9,sub9,Y2 g1' g2',zr,⟨f5.1,f5.2.1,f9⟩,fnd',fun y hy=>⟨(fin y (fin' y hy).1).1,(fin y (fin' y hy).1).2.1,fun z=>?_⟩,by omega,fl3⟩;rcases List.mem_append.mp z with z | z
    .exact(fin y (fin' y hy).1).2.2 z
    .rcases List.mem_cons.mp z with e | z
     .have:=(Y1.ln j x (by rw[List.getElem?_append_right (by rw[Y.len];omega),Y.len,Nat.sub_self];rfl)).1;exact this (List.mem_append_right _ (e▸(fin y (fin' y hy).1).1))
     .exact(fin' y hy).2 (List.mem_singleton.mp z)
  .rintro ρ μ1 ⟨ns',wh,fr',ls',x9,x10,rfl,W5,T5,N5,G5,sub5,Y,hw5,f5,fnd,fin,fn,fl⟩;rw[zbl] at *;exact hNX _ _ ⟨n.toNat,ns',wh,ls',_,_,_,rfl,by omega,W5,T5,N5,G5,sub5,Y,hw5,f5⟩
 .rintro ρ μ1 ⟨k,ns',wh,ls',x7,x9,x10,rfl,hk,W7,T7,N7,G7,sub7,Y,hw7,f7⟩;have lw:last∉wh:=fun z=>by
   rcases Y.mem z (Nat.le_refl _) with e | e | e
   .exact hfl e.symm
   .exact e (List.mem_append_left _ hla)
   .exact N.nd2 hla e
  obtain⟨one,h1',hlast⟩:=lastOf k wh Y.len;obtain⟨⟨c1,c2,c3⟩,post⟩:=hop ns' ls' k wh one last N7 sub7 (by omega) Y h1' (List.mem_append_left _ hla) lw;refine stp fun M1 g1=>?_
  rw_mod_cast [hw7,hlast];refine⟨by rw[List.length_map,List.length_map,Y.len];omega,?_⟩;rw[<- List.map_append];refine zrT W7 c1 N7.len c2 c3 fun x μ2 ns2 ls2 W9 T9 R=>?_
  obtain⟨N9,G9,sub9,Y1,Y2⟩:=post x ns2 ls2 R;obtain⟨hw9,f9⟩:=T9 kw _ hw7 f7.1 f7.2.1 f7.2.2;rw_mod_cast [hw9];refine⟨by rw[List.length_map,Y.len];omega,g1 _ _ (stp fun M2 g2=>?_)⟩;rw_mod_cast [zr];refine⟨by rw[List.length_append,List.length_map,Y.len];show 2*k+1+1 < sizeLine;omega,g2 _ _ ?_⟩;have em:wh.map D.str++[.str x]++[.str last]=(wh++[x,last]).map D.str:=by rw[List.map_append (l₂:=[x,last]),List.append_assoc];rfl
  rw[zaa,em];rw_mod_cast [zr];refine⟨_, .refl _,q (wh++[x,last]) (k+1) _ ns2 ls2 (W9.other hw9 (by simp) ⟨f7.1,f7.2.1,f9⟩) ((T7.trans T9).put hkw) (N9.more (by omega)) (G7.trans sub7 G9) sub9 (by omega) (by omega) Y1 ?_⟩;rw[List.getElem?_append_right (by rw[Y.len];omega),Y.len,show 2*(k+1) - (2*k+1)=1 by omega];rfl
set_option synthInstance.maxHeartbeats 4000000
set_option synthInstance.maxSize 100000
set_option maxHeartbeats 4000000
def zbX(w:List Str):D:= .tup (w.map D.str)
def zcu(r:RW):D:= .tup [.str r.nm, .tup (r.ways.map zbX), .int r.e, .int r.lo, .int r.re, .int r.lst]
theorem foldl_take_succ{α β:Type}(f:β->α->β)(b:β){xs:List α}{i:Nat}{x:α}(h:xs[i]? = some x):(xs.take (i+1)).foldl f b=f ((xs.take i).foldl f b) x:=by
 rw[List.take_add_one,h,List.foldl_append];rfl
theorem zu7{s na la:Nat}{ns:List Str}{ls:List LR}{ways:List (List Str)}{nm:Str}{e lo re x5 sl:Int}{μ:Mu}{Q:DK}(W:WD μ s na la ns ls)(q:Q (.int (zfF ls ways lo sl)) μ):zcy [.tup [.str nm, .tup (ways.map zbX), .int e, .int lo, .int re, .int x5], .cell la, .int sl] μ Q:=by
 refine⟨rfl,stp fun N1 h1=>?_⟩;walk_at "e"
 refine h1 _ _ (stp fun N2 h2=>?_);walk_at "e"
 refine zaj (fun i ρ μ'=>∃x4 x5' x6,ρ=[some (.tup [.str nm, .tup (ways.map zbX), .int e, .int lo, .int re, .int x5]),some (.cell la),some (.int sl),some (.int ((ways.take i).foldl (fun m way=>if zaT ls way lo sl > m then zaT ls way lo sl else m) 0)),x4,x5',x6]/\μ'=μ) ⟨_,_,_,rfl,rfl⟩ ?_ ?_
 .rintro i d ρ μ' hd ⟨x4,x5',x6,rfl,rfl⟩ N hN;rw[List.getElem?_map] at hd;cases hw:ways[i]? with
  | none=>rw[hw] at hd;cases hd
  | some way =>
   rw[hw] at hd;cases hd;unfold zbX;refine stp fun M1 g1=>?_
   walk_at "e"
   refine g1 _ _ (stp fun M2 g2=>?_);rw_mod_cast [W.dl];refine zaj (fun j ρ μ2=>∃x6,ρ=[some (.tup [.str nm, .tup (ways.map zbX), .int e, .int lo, .int re, .int x5]),some (.cell la),some (.int sl),some (.int ((ways.take i).foldl (fun m way=>if zaT ls way lo sl > m then zaT ls way lo sl else m) 0)),some (.tup (way.map D.str)),some (.int ((ls.take j).foldl (fun m r=>if r.nm∈way then m+lo+r.w+sl else m) 0)),x6]/\μ2=μ') ⟨_,rfl,rfl⟩ ?_ ?_ (fun _ _ _ h=>by obtain⟨_,_,rfl⟩:=h;exact W.dl)
   .rintro j d ρ μ2 hd ⟨x6,rfl,rfl⟩ M hM;rw[List.getElem?_map] at hd;cases hr:ls[j]? with
    | none=>rw[hr] at hd;cases hd
    | some r =>
     rw[hr] at hd;cases hd;unfold zaW;rw_mod_cast [zlB,Bool.false_xor];have fs:=foldl_take_succ (fun m (r:LR)=>if r.nm∈way then m+lo+r.w+sl else m) (0:Int) hr;by_cases c:r.nm∈way
     .rw_mod_cast [decide_eq_true c];rw[fs,if_pos c] at hM;exact hM _ _ ⟨_,rfl,rfl⟩
     .rw_mod_cast [decide_eq_false c];rw[fs,if_neg c] at hM;exact hM _ _ ⟨_,rfl,rfl⟩
   .rintro ρ μ2 ⟨x6,rfl,rfl⟩;refine g2 _ _ ?_;walk_at "e"
    rw[foldl_take_succ _ _ hw] at hN;rw[List.length_map,List.take_length];exact hN _ _ ⟨_,_,_,rfl,rfl⟩
 .rintro ρ μ' ⟨x4,x5',x6,rfl,rfl⟩;refine h2 _ _ ?_;walk_at "e"
  rw[List.length_map,List.take_length];exact⟨_, .refl _,q⟩
set_option synthInstance.maxHeartbeats 4000000
set_option synthInstance.maxSize 100000
set_option maxHeartbeats 4000000
theorem zko(w:List Str)(h:2<=w.length):cutD (w.map D.str) (some 1) (some (-1))=(inner w).map D.str:=by
 unfold cutD inner;have e1:HT.sIx (w.map D.str).length 0 (some 1)=1:=by
  have:=HT.zaS (w.map D.str).length 0 1;rw[List.length_map,Nat.min_eq_left (by omega)] at this;rw[List.length_map];exact this
 have e2:HT.sIx (w.map D.str).length (w.map D.str).length (some (-1))=w.length - 1:=by
  rw[List.length_map];unfold HT.sIx;simp;omega
 rw[e1,e2,List.map_take,List.map_drop];congr 1
theorem zme{xs:List Int}{v:Int}(h0:0<=v)(h1:v < xs.length):∃e,atI (xs.map D.int) v=some (.int e)/\e∈xs:=by
 obtain⟨e,a,b⟩:=zot h0 h1;exact⟨e,by rw[zdh,a];rfl,List.mem_of_getElem? b⟩
theorem ziS{xs:List Str}{v:Int}(h0:0<=v)(h1:v < xs.length):∃e,atI (xs.map D.str) v=some (.str e)/\xs[v.toNat]? = some e:=by
 obtain⟨e,a,b⟩:=zot h0 h1;exact⟨e,by rw[zdh,a];rfl,b⟩
theorem zxx{s na la:Nat}{ho ga ns:List Str}{ls:List LR}{h c:Nat}{sl:Int}{μ:Mu}{Q:DK}(W:WD μ s na la ns ls)(N:zch ho ga ns ls h c)(hh:h+6<=48)(hc:c<=50)(ho2:2<=ho.length)(ho4:ho.length<=4)(ga3:ga.length<=3)(sl0:0<=sl)(sl7:sl<=7)
  (q:∀r μ' ns' ls',WD μ' s na la ns' ls'->zbn na la μ ls μ' ls'->zch ho ga ns' ls' (h+6) (c+1)->zdt ns ls ls'->(∀y∈ns,y∈ns')->zfB ho ga ns' ls' sl r->r.nm∉ns->Q (zcu r) μ') :
  zdd [.cell s, .cell na, .cell la, .lst (ho.map D.str), .lst (ga.map D.str), .int sl] μ Q:=by
 have hz:(200:Nat)<=sizeLine:=by decide
 have hnd:ho.Nodup:=(List.nodup_append.mp (List.nodup_append.mp N.nd).1).1;refine⟨rfl,stp fun N1 h1=>?_⟩;rw_mod_cast [List.length_map];refine⟨W.ds,by omega,by omega,fun v v0 v1=>h1 _ _ (stp fun N2 h2=>?_)⟩;obtain⟨first,e1,f1⟩:=ziS v0 v1;rw_mod_cast [e1];refine h2 _ _ (stp fun N3 h3=>?_);rw_mod_cast [List.length_map];refine⟨W.ds,by omega,by omega,fun u u0 u1=>⟨by omega,?_⟩⟩;have m0:0<=(v+1+u) % (ho.length:Int):=Int.emod_nonneg _ (by omega);have m1:(v+1+u) % (ho.length:Int) < ho.length:=Int.emod_lt_of_pos _ (by omega);obtain⟨last,e2,f2⟩:=ziS m0 m1;have hfl:first≠last:=fun z=>by
  subst z;have:=zt0 hnd f1 f2;have e3:v=(v+1+u) % (ho.length:Int):=by omega
  by_cases hlt:v+1+u < ho.length
  .rw[Int.emod_eq_of_lt (by omega) hlt] at e3;omega
  .have e4:(v+1+u) % (ho.length:Int)=v+1+u - ho.length:=by
    rw[<- Int.sub_emod_right,Int.emod_eq_of_lt (by omega) (by omega)]
   omega
 have hfi:=List.mem_of_getElem? f1;have hla:=List.mem_of_getElem? f2;rw_mod_cast [e2];refine h3 _ _ (stp fun N4 h4=>?_);walk_at "e"
 refine⟨by decide,zua (bd:=[]) W N (by omega) (by omega) hfi hla hfl (by simp[beside]) (fun y hy=>by cases hy) ga3 (by decide) fun w1 k1 μ4 ns4 ls4 W4 T4 N4 G4 sub4 k1a k1b Y1 hl1=>?_⟩;refine⟨by decide,fun kw hkw=>h4 _ _ ?_⟩;have W5:WD (zF μ4 kw (.lst [.tup (w1.map D.str)])) s na la ns4 ls4:=W4.cell hkw;have f5:=W4.free hkw;have hkw0:∀k c,μ k=some c->k≠na->k≠la->(∀r∈ls,k≠r.sa/\k≠r.ea)->k≠kw:=fun k c e a1 a2 a3 z=>by
  have:=(T4 k c e a1 a2 a3).1;rw[z,hkw] at this;cases this
 refine zkD (fun ρ μ'=>∃(ns6:List Str) (ls6:List LR) (ways:List (List Str)),ρ=[some (.cell s),some (.cell na),some (.cell la),some (.lst (ho.map D.str)),some (.lst (ga.map D.str)),some (.int sl),some (.int v),some (.str first),some (.str last),some (.cell kw),none,none,none,none] /\
  WD μ' s na la ns6 ls6/\zbn na la μ ls μ' ls6/\zch ho ga ns6 ls6 (h+6) c/\zdt ns ls ls6/\(∀y∈ns,y∈ns6)/\μ' kw=some (.lst (ways.map zbX))/\(kw≠na/\kw≠la/\∀r∈ls6,kw≠r.sa/\kw≠r.ea)/\ways.length<=2 /\
  ∃first last w1 k1,first∈ho/\last∈ho/\first≠last/\1<=k1/\k1<=3/\Way ho ga ns6 ls6 [] first k1 (2*k1) w1/\w1[2*k1]? = some last/\(ways=[w1]\/∃w2 k2,ways=[w1,w2]/\1<=k2/\k2<=3/\Way ho ga ns6 ls6 (inner w1) first k2 (2*k2) w2/\w2[2*k2]? = some last)) (fun NX hNX=>?_) ?_
 .have T5:zbn na la μ ls (zF μ4 kw (.lst [.tup (w1.map D.str)])) ls4:=fun k c e a1 a2 a3=>by
   obtain⟨b1,b2⟩:=T4 k c e a1 a2 a3;exact⟨by rw[zg (hkw0 k c e a1 a2 a3)];exact b1,b2⟩
  walk_at "e"
  refine⟨W5.ds,by decide,by decide,fun x x0 x1=>?_⟩;split
  .have wl1:w1.length=2*k1+1:=Y1.len;have ns1:¬ (HT.sIx (w1.map D.str).length 0 (some 1)=0/\HT.sIx (w1.map D.str).length (w1.map D.str).length (some (-1))=(w1.map D.str).length):=by
    rintro⟨z,_⟩;have:=HT.zaS (w1.map D.str).length 0 1;rw[List.length_map,Nat.min_eq_left (by omega)] at this;rw[List.length_map] at z;have e:HT.sIx w1.length 0 (some 1)=1:=this;omega
   refine⟨ns1,?_⟩;rw[zko w1 (by omega)];refine zua (bd:=inner w1) W5 N4 (by omega) (by omega) hfi hla hfl (Nat.le_trans (zmM _ _ _) (Nat.le_trans Y1.bs k1b)) (fun y hy=>Y1.sub y (zqS hy)) ga3 (Nat.le_trans (zlk _) (by omega)) fun w2 k2 μ9 ns9 ls9 W9 T9 N9 G9 sub9 k2a k2b Y2 hl2=>?_
   obtain⟨hw9,f9⟩:=T9 kw _ zr f5.1 f5.2.1 f5.2.2;rw_mod_cast [hw9];refine⟨by decide,hNX _ _ ⟨ns9,ls9,[w1,w2],rfl,W9.other hw9 (by simp) ⟨f5.1,f5.2.1,f9⟩,fun k c e a1 a2 a3=>?_,N9.more (by omega),G4.trans sub4 G9,fun y hy=>sub9 y (sub4 y hy),zr,⟨f5.1,f5.2.1,f9⟩,show 2<=2 by decide,first,last,w1,k1,hfi,hla,hfl,k1a,k1b,Y1.grow G9 sub9,hl1, .inr ⟨w2,k2,rfl,k2a,k2b,Y2,hl2⟩⟩⟩;obtain⟨b1,b2⟩:=(T5.trans T9) k c e a1 a2 a3;exact⟨by rw[zg (hkw0 k c e a1 a2 a3)];exact b1,b2⟩
  .exact hNX _ _ ⟨ns4,ls4,[w1],rfl,W5,T5,N4.more (by omega),G4,sub4,zr,f5,show 1<=2 by decide,first,last,w1,k1,hfi,hla,hfl,k1a,k1b,Y1,hl1, .inl rfl⟩
 rintro ρ μ6 ⟨ns6,ls6,ways,rfl,W6,T6,N6,G6,sub6,hw6,f6,wl,shape⟩;refine stp fun N6' h6=>?_
 walk_at "e"
 refine⟨by decide,W6.ds,by decide,by decide,fun a a0 a1=>?_⟩;obtain⟨e,ge,he⟩:=zme (xs:=ziR) a0 (show a < 11 from a1);have eb:8<=e/\e<=120:=by
  have:∀e∈ziR,8<=e/\e<=120:=by decide
  exact this e he
 have ge':atI [D.int 12,D.int 8,D.int 20,D.int 24,D.int 10,D.int 30,D.int 15,D.int 40,D.int 60,D.int 12,D.int 120] a=some (.int e):=ge;rw_mod_cast [ge'];refine h6 _ _ (stp fun N7 h7=>?_);walk_at "e"
 have mb:0 < (if e - sl < 4 then e - sl else 4)/\(if e - sl < 4 then e - sl else 4)<=4:=by split<;>omega
 refine⟨W6.ds,mb.1,by omega,fun b b0 b1=>h7 _ _ (stp fun N8 h8=>?_)⟩;have u9:1+b<=4/\1+b+sl<=e:=by split at b1<;>omega
 walk_at "e"
 refine zmy W6.ds W6.dn (by have:=N6.cnt;have:=N6.len;omega) fun x nm hx=>?_
 have W7:WD _ s na la (ns6++[x]) ls6:=W6.names (ns':=ns6++[x]);have hw7:zF μ6 na (.lst ((ns6++[x]).map D.str)) kw=some (.lst (ways.map zbX)):=by rw[zg f6.1];exact hw6
 rw_mod_cast [hw7];refine⟨W7.ds,by omega,by omega,fun d d0 d1=>⟨by decide,h8 _ _ (stp fun N9 h9=>?_)⟩⟩;walk_at "e"
 refine⟨⟨by decide,by decide⟩,by decide,W7.ds,by decide,by decide,fun t t0 t1=>?_⟩;obtain⟨spare,gs,hs⟩:=zme (xs:=[0,1,2,e / 2,3,e - 1,6]) t0 (show t < 7 from t1);have gs':atI [D.int 0,D.int 1,D.int 2,D.int (e / 2),D.int 3,D.int (e - 1),D.int 6] t=some (.int spare):=gs;rw_mod_cast [gs'];refine h9 _ _ ?_;walk_at "e"
 refine⟨by decide,zu7 W7 ?_⟩;walk_at "e"
 rw[show cutD [D.str x,D.tup (List.map zbX ways),D.int e,D.int (1+b),D.int d,D.int 0] none (some 5)=[D.str x,D.tup (List.map zbX ways),D.int e,D.int (1+b),D.int d] from rfl];refine⟨by decide,by simp,show 6<=sizeLine by decide,_, .refl _,?_⟩;have N10:=N6.named hx nm;have hxn:x∉ns:=fun z=>hx (sub6 x z)
 have G18:zdt ns6 ls6 ls6:=zdt.refl _ _;refine q ⟨x,ways,e,1+b,d,zfF ls6 ways (1+b) sl+spare⟩ _ (ns6++[x]) ls6 W7 (T6.trans zbn.names) N10 G6 (fun y hy=>List.mem_append_left _ (sub6 y hy)) ⟨by simp,fun z=>hx (N6.sub x z),?_,he,by show 1<=1+b;omega,u9.1,u9.2,d0,d1,spare,rfl,hs⟩ hxn;obtain⟨f',l',w1',k1',a1,a2,a3,a4,a5,Y,a6,hh'⟩:=shape;refine⟨f',l',w1',k1',a1,a2,a3,a4,a5,Y.grow G18 (fun y hy=>List.mem_append_left _ hy),a6,?_⟩;rcases hh' with z | ⟨w2,k2,z,b1,b2,Y2,b3⟩
 .exact .inl z
 .exact .inr ⟨w2,k2,z,b1,b2,Y2.grow G18 (fun y hy=>List.mem_append_left _ hy),b3⟩
set_option synthInstance.maxHeartbeats 4000000
set_option synthInstance.maxSize 100000
set_option maxHeartbeats 4000000
def ztQ:List Int:=[0,1,2,0,3,1,5,7]
structure WorldD(μ:Mu)(s na la:Nat)(ho ga ns:List Str)(ls:List LR)(rows:List RW)(sl:Int)(most:Nat):Prop where
 W:WD μ s na la ns ls
 N:zch ho ga ns ls 48 (ho.length+ga.length+rows.length)
 ho2:2<=ho.length
 ho4:ho.length<=4
 ga3:ga.length<=3
 r1:1<=rows.length
 rm:rows.length<=most
 ok:∀r∈rows,zfB ho ga ns ls sl r
 nd:(rows.map RW.nm).Nodup
 sl0:0<=sl
 sl7:sl<=7
theorem zjs{s na:Nat}{pre:List Str}{n:Nat}{μ:Mu}{Fin:List D->Mu->Prop}(hs:μ s=some .draw)(hn:μ na=some (.lst (pre.map D.str)))(hp:pre.Nodup)(hpn:∀x∈pre,Nm x)(hl:pre.length+n < 100)
  (q:∀xs:List Str,xs.length=n->(pre++xs).Nodup->(∀x∈pre++xs,Nm x)->Fin (xs.map D.str) (zF μ na (.lst ((pre++xs).map D.str)))) :
  zbQ (zp 0) zeS (dCall zau (za (zb 2) (za (zb 1) zm))) [none,some (.cell na),some (.cell s)] (fun _=>True) Fin ((zbP 0 n).map D.int) [] μ:=by
 have hz:(200:Nat)<=sizeLine:=by decide
 have sna:s≠na:=fun z=>by rw[z,hn] at hs;cases hs
 refine zb1 (fun i ys μ'=>∃xs:List Str,ys=xs.map D.str/\xs.length=i/\(pre++xs).Nodup/\(∀x∈pre++xs,Nm x)/\μ'=zF μ na (.lst ((pre++xs).map D.str))) ⟨[],rfl,rfl,by rw[List.append_nil];exact hp,by rw[List.append_nil];exact hpn,?_⟩ ?_ ?_
 .funext k;unfold zF;split
  .rename_i e;rw[e,List.append_nil];exact hn
  .rfl
 .rintro i d ys μ' hd ⟨xs,rfl,hx,nd,nm,rfl⟩;obtain⟨hi,rfl⟩:=zcn hd;refine⟨by rw[List.length_map];omega,fun N hN=>?_⟩;walk_at "e"
  refine zmy (by rw[zg sna];exact hs) zr (by rw[List.length_append];omega) fun x hnm hxn=>hN _ _ ⟨xs++[x],by rw[List.map_append];rfl,by rw[List.length_append,hx];rfl,?_,?_,?_⟩
  .rw[<- List.append_assoc];exact List.nodup_append.mpr ⟨nd,by simp,fun a ha b hb e=>by rw[List.mem_singleton.mp hb] at e;exact hxn (e▸ha)⟩
  .intro y hy;rw[<- List.append_assoc] at hy;rcases List.mem_append.mp hy with h | h
   .exact nm y h
   .rw[List.mem_singleton.mp h];exact hnm
  .rw[zaa,List.append_assoc]
 .rintro ys μ' ⟨xs,rfl,hx,nd,nm,rfl⟩;rw[zbl] at hx;exact q xs hx nd nm
theorem zrQ{s most:Nat}{μ:Mu}{Q:DK}(hs:μ s=some .draw)(m1:1<=most)(m8:most<=8)
  (q:∀ μ' na la ho ga ns ls rows sl,WorldD μ' s na la ho ga ns ls rows sl most->(∀k c,μ k=some c->μ' k=some c/\k≠na/\k≠la/\∀r∈ls,k≠r.sa/\k≠r.ea) ->
   Q (.tup [.lst (ho.map D.str), .lst (ga.map D.str), .cell la, .lst (rows.map zcu), .int sl, .cell na]) μ'):zce [.cell s, .int (most:Int)] μ Q:=by
 have hz:(200:Nat)<=sizeLine:=by decide
 refine⟨rfl,stp fun N1 h1=>?_⟩;walk_at "e"
 refine⟨by decide,fun na hna=>h1 _ _ (stp fun N2 h2=>?_)⟩;have sna:s≠na:=fun z=>by rw[z,hna] at hs;cases hs
 have hs1:∀c,zF μ na c s=some .draw:=fun c=>by rw[zg sna];exact hs
 walk_at "e"
 refine⟨by decide,hs1 _,by decide,by decide,fun a a0 a1=>⟨by omega,by omega,?_⟩⟩;refine zjs (pre:=[]) (hs1 _) zr List.nodup_nil (fun x hx=>by cases hx) (by simp;omega) fun ho hol hod hon=>h2 _ _ (stp fun N3 h3=>?_)
 rw[zaa,List.nil_append];rw[List.nil_append] at hod hon;walk_at "e"
 refine⟨by decide,hs1 _,by decide,by decide,fun b b0 b1=>⟨by omega,by omega,?_⟩⟩;refine zjs (pre:=ho) (hs1 _) zr hod hon (by omega) fun ga gal gad gan=>h3 _ _ (stp fun N4 h4=>?_)
 rw[zaa];walk_at "e"
 refine⟨by decide,hs1 _,by decide,by decide,fun t t0 t1=>?_⟩;obtain⟨sl,gs,hsl⟩:=zme (xs:=ztQ) t0 (show t < 8 from t1);have gs':atI [D.int 0,D.int 1,D.int 2,D.int 0,D.int 3,D.int 1,D.int 5,D.int 7] t=some (.int sl):=gs;have slb:0<=sl/\sl<=7:=by
  have:∀e∈ztQ,0<=e/\e<=7:=by decide
  exact this sl hsl
 rw_mod_cast [gs'];refine h4 _ _ (stp fun N5 h5=>?_);walk_at "e"
 refine⟨by decide,fun la hla=>h5 _ _ (stp fun N6 h6=>?_)⟩;have nal:na≠la:=fun z=>by rw[<- z,zr] at hla;cases hla
 have W0:WD (zF (zF μ na (.lst ((ho++ga).map D.str))) la (.lst [])) s na la (ho++ga) []:=⟨by
   rw[zg (fun z=>by rw[<- z,hs1] at hla;cases hla)];exact hs1 _,by rw[zg nal,zr],zr,nal,fun r hr=>(by cases hr),fun r hr=>(by cases hr),fun i j r r' hi=>(by simp at hi)⟩
 have NT0:zch ho ga (ho++ga) [] (6*0) (ho.length+ga.length+0):=⟨by simpa using gad,by simp,gan,gad,fun r hr=>(by cases hr),by decide,by decide,by rw[List.length_append];exact Nat.le_refl _⟩;have keep0:∀k c,μ k=some c->(zF (zF μ na (.lst ((ho++ga).map D.str))) la (.lst [])) k=some c/\k≠na/\k≠la:=fun k c e=>by
  have k1:k≠na:=fun z=>by rw[z,hna] at e;cases e
  have k2:k≠la:=fun z=>by rw[<- z,zg k1,e] at hla;cases hla
  exact⟨by rw[zg k2,zg k1];exact e,k1,k2⟩
 generalize zF (zF μ na (.lst ((ho++ga).map D.str))) la (.lst [])=μ0 at W0 keep0
 walk_at "e"
 refine⟨by decide,W0.ds,by omega,by omega,fun v v0 v1=>⟨by omega,by omega,?_⟩⟩;refine zb1 (fun i ys μ'=>∃(rows:List RW) (ns:List Str) (ls:List LR),ys=rows.map zcu/\rows.length=i/\WD μ' s na la ns ls/\zbn na la μ0 [] μ' ls/\zch ho ga ns ls (6*i) (ho.length+ga.length+i)/\(∀r∈rows,zfB ho ga ns ls sl r)/\(rows.map RW.nm).Nodup) ⟨[],ho++ga,[],rfl,rfl,W0, .refl,NT0,fun r hr=>(by cases hr),List.nodup_nil⟩ ?_ ?_
 .rintro i d ys μ' hd ⟨rows,ns,ls,rfl,hr,W,T,NT,ok,nd⟩;obtain⟨hi,rfl⟩:=zcn hd;refine⟨by rw[List.length_map];omega,fun N hN=>?_⟩;walk_at "e"
  refine zxx W NT (by omega) (by omega) (by omega) (by omega) (by omega) slb.1 slb.2 fun r μ2 ns2 ls2 W2 T2 NT2 G2 sub2 R2 hn2=>hN _ _ ⟨rows++[r],ns2,ls2,by rw[List.map_append];rfl,by rw[List.length_append,hr];rfl,W2,T.trans T2,?_,?_,?_⟩
  .have:6*(i+1)=6*i+6:=by omega
   rw[this];exact NT2
  .intro r' hr';rcases List.mem_append.mp hr' with h | h
   .exact(ok r' h).grow G2 sub2
   .rw[List.mem_singleton.mp h];exact R2
  .rw[List.map_append];refine List.nodup_append.mpr ⟨nd,by simp,fun a ha b hb e=>?_⟩;obtain⟨r',hr',rfl⟩:=List.mem_map.mp ha;have:b=r.nm:=by simpa using hb
   rw[this] at e;exact hn2 (e▸(ok r' hr').nmn)
 .rintro ys μ' ⟨rows,ns,ls,rfl,hr,W,T,NT,ok,nd⟩;rw[zbl] at hr NT;refine h6 _ _ ?_;walk_at "e"
  refine⟨by decide,_, .refl _,q μ' na la ho ga ns ls rows sl ⟨W,?_,by omega,by omega,by omega,by omega,by omega,ok,nd,slb.1,slb.2⟩ fun k c e=>?_⟩
  .rw[hr];exact NT.more (by omega)
  .obtain⟨b1,b2,b3⟩:=keep0 k c e;obtain⟨c1,c2⟩:=T k c b1 b2 b3 (fun r hr=>by cases hr);exact⟨c1,b2,b3,c2⟩
set_option synthInstance.maxHeartbeats 4000000
set_option synthInstance.maxSize 100000
set_option maxHeartbeats 4000000
theorem zxH{i:Int}{μ:Mu}{Q:DK}(q:Q (.bl true) μ):zcc [.int i] μ Q:=by
 refine⟨rfl,?_⟩;walk_at "e"
 exact⟨_, .refl _,q⟩
theorem zvA{i:Int}{μ:Mu}{Q:DK}(q:Q .non μ):zbv [.int i] μ Q:=by
 refine⟨rfl,?_⟩;walk_at "e"
 refine zxH ?_;walk_at "e"
 exact⟨_, .refl _,q⟩
theorem ztx{i:Int}{μ:Mu}{Q:DK}(q:Q (.bl true) μ):zca [.int i] μ Q:=by
 refine⟨rfl,?_⟩;walk_at "e"
 exact⟨_, .refl _,q⟩
set_option synthInstance.maxHeartbeats 4000000
set_option synthInstance.maxSize 100000
set_option maxHeartbeats 4000000
theorem zuc{y:Str}{μ:Mu}{R:List D->(Mu->Prop)->Prop}(h:y.cps.all (· < 128)=true):zoa μ (.str y) R=R (y.cps.toList.map fun c=> .str ⟨#[c]⟩) fun _=>True:=by
 unfold zoa zvm;simp only[h,if_true]
theorem zlM:∀c:_root_.Fin 128,zm6 letters ⟨#[c.val]⟩=decide (97<=c.val/\c.val<=122):=by decide+kernel
theorem zsq{x:Str}(h:Nm x):x.cps.all (· < 128)=true:=by
 rw[<- Array.all_toList];exact List.all_eq_true.mpr fun c hc=>decide_eq_true (by have:=h.az c hc;omega)
theorem zw6{x:Str}(h:Nm x):1<=x.length/\x.length<=8:=by
 have h1:=h.l1;have h2:=h.l8;rw[Array.length_toList] at h1 h2;exact⟨h1,h2⟩
theorem zk7{x:Str}{μ:Mu}{Q:DK}(h:Nm x)(q:Q (.bl true) μ):zcm [.str x] μ Q:=by
 obtain⟨l1,l8⟩:=zw6 h;have hz:(1000:Nat)<=sizeLine:=by decide
 refine⟨rfl,?_⟩;walk_at "e"
 refine⟨rfl,?_⟩;walk_at "e"
 refine⟨by omega,?_⟩;rw_mod_cast [show decide ((1:Int)<=x.length)=true from decide_eq_true (by omega),show decide ((x.length:Int)<=8)=true from decide_eq_true (by omega),zuc (zsq h)];refine⟨by decide,zjv x.cps.toList _ (by have:=h.l8;omega) (fun c hc Q' q'=>?_) (fun bs hb=>?_) trivial⟩
 .have:=h.az c hc;have e:=zlM ⟨c,by omega⟩;walk_at "e"
  rw[show zm6 (Str.ofString "abcdefghijklmnopqrstuvwxyz") ⟨#[c]⟩=true from by
   show zm6 letters ⟨#[c]⟩=true;rw[e];exact decide_eq_true this]
  exact q'
 .rw_mod_cast [hb];exact⟨_, .refl _,_, .refl _,q⟩
theorem zjt{x:Str}{μ:Mu}{Q:DK}(h:Nm x)(q:Q .non μ):za7 [.str x] μ Q:=by
 refine⟨rfl,?_⟩;walk_at "e"
 refine zk7 h ?_;walk_at "e"
 exact⟨_, .refl _,q⟩
theorem ziJ{i lo hi:Int}{μ:Mu}{Q:DK}(h1:lo<=i)(h2:i<=hi)(q:Q .non μ):zam [.int i, .int lo, .int hi] μ Q:=by
 refine⟨rfl,?_⟩;walk_at "e"
 refine zvA ?_;rw_mod_cast [decide_eq_true h1,decide_eq_true h2];exact⟨_, .refl _,q⟩
set_option synthInstance.maxHeartbeats 4000000
set_option synthInstance.maxSize 100000
set_option maxHeartbeats 4000000
def sLe(a b:Str):Prop:=a.cps.toList<=b.cps.toList
theorem zmh{a b:Str}(h:sLe a b)(h':sLe b a):a=b:=by
 have e:a.cps.toList=b.cps.toList:=List.le_antisymm h h';cases a;cases b;simp only[Str.mk.injEq];exact Array.toList_inj.mp e
set_option synthInstance.maxHeartbeats 4000000
set_option synthInstance.maxSize 100000
set_option maxHeartbeats 4000000
abbrev SL(β:Type):=List (Str×β)
def zU{β:Type}:SL β->Str->Option β
 | [],_=>none
 | p::r,j=>if p.1=j then some p.2 else zU r j
def ksS{β:Type}(l:SL β):List Key:=l.map fun p=>(Sum.inr p.1:Key)
def vsS{β:Type}(f:β->D)(l:SL β):List D:=l.map fun p=>f p.2
section
variable{β:Type}
theorem zb3{l:SL β}{j:Str}:(zU l j).isSome=true↔j∈l.map (·.1):=by
 induction l with
 | nil=>simp[zU]
 | cons p r ih =>
  rw[zU,List.map_cons,List.mem_cons];by_cases h:p.1=j
  .simp[h]
  .rw[if_neg h,ih];exact⟨fun z=> .inr z,fun z=>z.resolve_left fun e=>h e.symm⟩
theorem zbx{l:SL β}{j:Str}:(Sum.inr j:Key)∈ksS l↔j∈l.map (·.1):=by
 unfold ksS;rw[List.mem_map,List.mem_map];constructor
 .rintro⟨p,hp,e⟩;exact⟨p,hp,Sum.inr.inj e⟩
 .rintro⟨p,hp,e⟩;exact⟨p,hp,by rw[e]⟩
theorem zeD{f:β->D}{l:SL β}{j:Str}:zcx (ksS l) (vsS f l) (.inr j)=(zU l j).map f:=by
 induction l with
 | nil=>rfl
 | cons p r ih =>
  show(if (Sum.inr p.1:Key)= .inr j then some (f p.2) else zcx (ksS r) (vsS f r) (.inr j))=_;rw[zU];by_cases h:p.1=j
  .rw[if_pos (by rw[h]),if_pos h];rfl
  .rw[if_neg (fun z=>h (Sum.inr.inj z)),if_neg h];exact ih
theorem zjQ{f:β->D}{l:SL β}{j:Str}{b:β}(h:j∉l.map (·.1)):Ct.dct (zeB (ksS l) (.inr j)) (zfI (ksS l) (vsS f l) (.inr j) (f b))= .dct (ksS (l++[(j,b)])) (vsS f (l++[(j,b)])):=by
 unfold zeB zfI;rw[if_neg (fun z=>h (zbx.mp z)),if_neg (fun z=>h (zbx.mp z))];unfold ksS vsS;rw[List.map_append,List.map_append];rfl
theorem zt7{l:SL β}{j:Str}{b:β}(hn:(l.map (·.1)).Nodup)(h:(j,b)∈l):zU l j=some b:=by
 induction l with
 | nil=>cases h
 | cons p r ih =>
  rw[List.map_cons] at hn;obtain⟨h1,h2⟩:=List.nodup_cons.mp hn;rw[zU];rcases List.mem_cons.mp h with rfl | h
  .simp
  .have hne:¬ p.1=j:=fun e=>h1 (by rw[e];exact List.mem_map_of_mem (f:=fun q:Str×β=>q.1) h)
   rw[if_neg hne,ih h2 h]
theorem ze9{l:SL β}:(ksS l).length=l.length:=by unfold ksS;rw[List.length_map]
end
set_option synthInstance.maxHeartbeats 4000000
set_option synthInstance.maxSize 100000
set_option maxHeartbeats 4000000
abbrev EN:=List Str×List Str×Int
def enD(e:EN):D:= .tup [.tup (e.1.map D.str), .tup (e.2.1.map D.str), .int e.2.2]
structure za0(μ:Mu)(k ck cl:Nat)(kn:SL Str)(ln:SL EN):Prop where
 o:μ k=some (.ins "Net" zcq [.cell ck, .cell cl])
 a:μ ck=some (.dct (ksS kn) (vsS D.str kn))
 b:μ cl=some (.dct (ksS ln) (vsS enD ln))
 ne:ck≠cl
 nd:(kn.map (·.1)).Nodup
theorem za0.k1{μ:Mu}{k ck cl:Nat}{kn:SL Str}{ln:SL EN}(h:za0 μ k ck cl kn ln):k≠ck:=fun z=>by have:=h.o;rw[z,h.a] at this;cases this
theorem za0.k2{μ:Mu}{k ck cl:Nat}{kn:SL Str}{ln:SL EN}(h:za0 μ k ck cl kn ln):k≠cl:=fun z=>by have:=h.o;rw[z,h.b] at this;cases this
section
variable{μ:Mu}{k ck cl:Nat}{kn:SL Str}{ln:SL EN}{Q:DK}{x:Str}
theorem zlx(N:za0 μ k ck cl kn ln)(hx:Nm x)(h:x∉kn.map (·.1))(q:Q .non μ):zaI [.cell k, .str x] μ Q:=by
 refine⟨rfl,?_⟩;rw_mod_cast [];refine zjt hx ?_;rw_mod_cast [zob,N.o,zfV,N.a,zdR,zdn,decide_eq_false (fun z=>h (zbx.mp z)),Bool.false_xor];exact⟨_, .refl _,q⟩
theorem zhS{es:List Str}(N:za0 μ k ck cl kn ln)(h:∀y∈es,y∈kn.map (·.1)/\y∉ln.map (·.1))(q:Q .non μ):zat [.cell k, .tup (es.map D.str)] μ Q:=by
 refine⟨rfl,?_⟩;rw_mod_cast [];refine zaj (fun i ρ μ'=>∃x2,ρ=[some (.cell k),some (.tup (es.map D.str)),x2]/\μ'=μ) ⟨_,rfl,rfl⟩ ?_ ?_
 .rintro i d ρ μ' hd ⟨x2,rfl,rfl⟩ N' hN;rw[List.getElem?_map] at hd;obtain⟨y,hy,rfl⟩:=Option.map_eq_some_iff.mp hd;obtain⟨h1,h2⟩:=h y (List.mem_of_getElem? hy);rw_mod_cast [zob,N.o,zfV,N.a,N.b,zdR,zdn,decide_eq_true (zbx.mpr h1),decide_eq_false (fun z=>h2 (zbx.mp z)),Bool.false_xor,Bool.true_xor];exact hN _ _ ⟨_,rfl,rfl⟩
 .rintro ρ μ' ⟨x2,rfl,rfl⟩;exact⟨_, .refl _,q⟩
theorem zka{kd:Str}(N:za0 μ k ck cl kn ln)(hx:Nm x)(h:x∉kn.map (·.1))(hl:kn.length < 16+ln.length)(hz:kn.length<=900)(q:∀ μ',za0 μ' k ck cl (kn++[(x,kd)]) ln->(∀j,j≠ck->μ' j=μ j)->Q .non μ'):zaM [.cell k, .str x, .str kd] μ Q:=by
 refine⟨rfl,stp fun N1 h1=>?_⟩;rw_mod_cast [N.o];refine zlx N hx h ?_;rw_mod_cast [];refine h1 _ _ ?_;rw_mod_cast [N.o,zt8,zrR,N.a,N.b,zi0,ze9,decide_eq_false (show ¬ (16:Int)<=(kn.length:Int) - (ln.length:Int) by omega)];unfold zkA;rw_mod_cast [N.o,N.a,zi0,zdn,ze9];rw[zjQ (f:=D.str) h];refine⟨by omega,_, .refl _,q _ ⟨?_,zr,?_,N.ne,?_⟩ fun j hj=>zg hj⟩
 .rw[zg N.k1];exact N.o
 .rw[zg N.ne.symm];exact N.b
 .rw[List.map_append];refine List.nodup_append.mpr ⟨N.nd,by simp,fun a ha b hb=>?_⟩;simp at hb;subst hb;exact fun z=>h (z▸ha)
theorem ztc(N:za0 μ k ck cl kn ln)(hx:Nm x)(h:x∉kn.map (·.1))(hl:kn.length < 16+ln.length)(hz:kn.length<=900)(q:∀ μ',za0 μ' k ck cl (kn++[(x,("house":Str))]) ln->(∀j,j≠ck->μ' j=μ j)->Q .non μ'):zb8 [.cell k, .str x] μ Q:=by
 refine⟨rfl,?_⟩;rw_mod_cast [N.o];refine zka N hx h hl hz fun μ' N' e=>?_
 exact⟨_, .refl _,q μ' N' e⟩
theorem zvv(N:za0 μ k ck cl kn ln)(hx:Nm x)(h:x∉kn.map (·.1))(hl:kn.length < 16+ln.length)(hz:kn.length<=900)(q:∀ μ',za0 μ' k ck cl (kn++[(x,("gate":Str))]) ln->(∀j,j≠ck->μ' j=μ j)->Q .non μ'):zcC [.cell k, .str x] μ Q:=by
 refine⟨rfl,?_⟩;rw_mod_cast [N.o];refine zka N hx h hl hz fun μ' N' e=>?_
 exact⟨_, .refl _,q μ' N' e⟩
theorem zjE{es:List Str}(h1:es≠[])(h6:es.length<=6)(hn:es.Nodup)(q:Q .non μ):za9 [.tup (es.map D.str)] μ Q:=by
 have hz:(1000:Nat)<=sizeLine:=by decide
 have hp:0 < es.length:=List.length_pos_iff.mpr h1;refine⟨rfl,stp fun N1 h1=>?_⟩;rw_mod_cast [List.length_map,decide_eq_true (show(1:Int)<=(es.length:Int) by omega),decide_eq_true (show(es.length:Int)<=6 by omega)];refine h1 _ _ ?_;rw_mod_cast [];refine⟨es,rfl,by omega,?_⟩;rw[zhM hn,List.length_map];rw_mod_cast [show decide ((es.length:Int) < es.length)=false from decide_eq_false (by omega)];exact⟨_, .refl _,q⟩
def Srt(xs ys:List Str):Prop:=List.Perm ys xs/\PyProof.Rows.sortedS ys=true
theorem zv8{S E:List Str}{wr:Int}(N:za0 μ k ck cl kn ln)(hx:Nm x)(h:x∉kn.map (·.1))(hl:ln.length < 16)(hz:kn.length<=900)
  (s1:S≠[])(s6:S.length<=6)(sn:S.Nodup)(e1:E≠[])(e6:E.length<=6)(en:E.Nodup)(hs:∀y∈S,y∈kn.map (·.1)/\y∉ln.map (·.1))(he:∀y∈E,y∈kn.map (·.1)/\y∉ln.map (·.1))(w0:0<=wr)(w1:wr<=30)(hxl:x∉ln.map (·.1))
  (q:∀ μ' S' E',Srt S S'->Srt E E'->za0 μ' k ck cl (kn++[(x,("line":Str))]) (ln++[(x,S',E',wr)])->(∀j,j≠ck->j≠cl->μ' j=μ j)->Q .non μ'):zcI [.cell k, .str x, .tup (S.map D.str), .tup (E.map D.str), .int wr] μ Q:=by
 have hzz:(1000:Nat)<=sizeLine:=by decide
 refine⟨rfl,stp fun N1 h1=>?_⟩;rw_mod_cast [N.o];refine zlx N hx h (h1 _ _ (stp fun N2 h2=>?_));rw_mod_cast [N.o,zt8,zrR,N.b,zi0,ze9,decide_eq_false (show ¬ (16:Int)<=(ln.length:Int) by omega)];refine h2 _ _ (stp fun N3 h3=>?_);rw_mod_cast [];refine zjE s1 s6 sn (h3 _ _ (stp fun N4 h4=>?_));rw_mod_cast [];refine zjE e1 e6 en (h4 _ _ (stp fun N5 h5=>?_));rw_mod_cast [N.o];refine zhS N hs (h5 _ _ (stp fun N6 h6=>?_));rw_mod_cast [N.o];refine zhS N he (h6 _ _ (stp fun N7 h7=>?_));rw_mod_cast [];refine ziJ w0 w1 (h7 _ _ (stp fun N8 h8=>?_));unfold zkA;rw_mod_cast [N.o,N.a,zi0,zdn,ze9];rw[zjQ (f:=D.str) h];refine⟨by omega,h8 _ _ ?_⟩;have o':zF μ ck (.dct (ksS (kn++[(x,("line":Str))])) (vsS D.str (kn++[(x,("line":Str))]))) k=some (.ins "Net" zcq [.cell ck, .cell cl]):=by rw[zg N.k1];exact N.o
 have b':zF μ ck (.dct (ksS (kn++[(x,("line":Str))])) (vsS D.str (kn++[(x,("line":Str))]))) cl=some (.dct (ksS ln) (vsS enD ln)):=by rw[zg N.ne.symm];exact N.b
 unfold zkA;rw_mod_cast [];refine zn8 (by omega) fun S' p1 p2=>?_
 rw_mod_cast [];refine zn8 (by omega) fun E' p3 p4=>?_
 rw_mod_cast [o',b',zi0,zdn,ze9];have e:D.tup [.tup (S'.map D.str), .tup (E'.map D.str), .int wr]=enD (S',E',wr):=rfl;rw[e,zjQ (f:=enD) hxl];refine⟨by omega,by omega,_, .refl _,q _ S' E' ⟨p1,p2⟩ ⟨p3,p4⟩ ⟨?_,?_,zr,N.ne,?_⟩ fun j a b=>?_⟩
 .rw[zg N.k2];exact o'
 .rw[zg N.ne,zr]
 .rw[List.map_append];refine List.nodup_append.mpr ⟨N.nd,by simp,fun a ha b hb=>?_⟩;simp at hb;subst hb;exact fun z=>h (z▸ha)
 .rw[zg b,zg a]
theorem zpf(h:∀ck cl μ',μ ck=none->μ cl=none->za0 μ' k ck cl [] []->(∀j c,μ j=some c->j≠k->μ' j=some c)->Q .non μ')(hk:μ k=some (.ins "Net" [] [])):zbT [.cell k] μ Q:=by
 refine⟨rfl,stp fun N1 h1=>?_⟩;rw_mod_cast [zkj];intro ck hck;have kne:k≠ck:=fun z=>by rw[z,hck] at hk;cases hk
 rw_mod_cast [zg kne,hk];refine h1 _ _ ?_;rw_mod_cast [zkj];intro cl hcl;have n1:cl≠ck:=fun z=>by
  rw[z,zg (fun y=>kne y.symm),zr] at hcl;cases hcl
 have n2:cl≠k:=fun z=>by rw[z,zr] at hcl;cases hcl
 have hcl':μ cl=none:=by rw[zg n2,zg n1] at hcl;exact hcl
 rw_mod_cast [zg (fun y:k=cl=>n2 y.symm)];refine⟨_, .refl _,h ck cl _ hck hcl' ⟨zr,?_,?_,fun z=>n1 z.symm,by simp⟩ fun j c e hj=>?_⟩
 .rw[zg (fun y=>kne y.symm),zg (fun y=>n1 y.symm),zg (fun y=>kne y.symm),zr];rfl
 .rw[zg n2,zr];rfl
 .rw[zg hj,zg (fun y=>by rw[y,hcl'] at e;cases e),zg hj,zg (fun y=>by rw[y,hck] at e;cases e)];exact e
end
set_option synthInstance.maxHeartbeats 4000000
set_option synthInstance.maxSize 100000
set_option maxHeartbeats 4000000
theorem zvK{μ:Mu}{k ck cl:Nat}{kn:SL Str}{ln:SL EN}{Q:DK}{x:Str}{v:EN}(N:za0 μ k ck cl kn ln)(h:zU ln x=some v)(q:Q (enD v) μ):zcF [.cell k, .str x] μ Q:=by
 refine⟨rfl,?_⟩;have hm:x∈ln.map (·.1):=zb3.mp (by rw[h];rfl);rw_mod_cast [zob,zjT,N.o,zfV,N.b,zdR,zdn,decide_eq_true (zbx.mpr hm),zeD,h,Option.map_some,Bool.true_xor];exact⟨_, .refl _,q⟩
set_option synthInstance.maxHeartbeats 4000000
set_option synthInstance.maxSize 100000
set_option maxHeartbeats 4000000
def kindsOf(ho ga:List Str)(ls:List LR):SL Str:=ho.map (fun x=>(x,("house":Str)))++ga.map (fun x=>(x,("gate":Str)))++ls.map (fun r=>(r.nm,("line":Str)))
def zoU(ls:List LR)(ln:SL EN):Prop:=ln.length=ls.length/\∀(i:Nat) r,ls[i]? = some r->∃S' E',ln[i]? = some (r.nm,S',E',r.w)/\Srt r.S S'/\Srt r.E E'
theorem zfb{ho ga:List Str}{ls:List LR}:(kindsOf ho ga ls).map (·.1)=ho++ga++ls.map LR.nm:=by
 unfold kindsOf;rw[List.map_append,List.map_append,List.map_map,List.map_map,List.map_map];have e1:∀l:List Str,l.map ((fun p:Str×Str=>p.1)∘fun x=>(x,("house":Str)))=l:=fun l=>by
  rw[show((fun p:Str×Str=>p.1)∘fun x=>(x,("house":Str)))=id from rfl,List.map_id]
 have e2:∀l:List Str,l.map ((fun p:Str×Str=>p.1)∘fun x=>(x,("gate":Str)))=l:=fun l=>by
  rw[show((fun p:Str×Str=>p.1)∘fun x=>(x,("gate":Str)))=id from rfl,List.map_id]
 rw[e1,e2];rfl
theorem zoU.fst{ls:List LR}{ln:SL EN}(h:zoU ls ln):ln.map (·.1)=ls.map LR.nm:=by
 apply List.ext_getElem?;intro i;rw[List.getElem?_map,List.getElem?_map];by_cases hi:i < ls.length
 .obtain⟨S',E',e,_⟩:=h.2 i ls[i] (List.getElem?_eq_getElem hi);rw[e,List.getElem?_eq_getElem hi];rfl
 .rw[List.getElem?_eq_none (show ln.length<=i by rw[h.1];omega),List.getElem?_eq_none (show ls.length<=i by omega)];rfl
theorem zoU.snoc{ls:List LR}{ln:SL EN}{r:LR}{S' E':List Str}(h:zoU ls ln)(h1:Srt r.S S')(h2:Srt r.E E'):zoU (ls++[r]) (ln++[(r.nm,S',E',r.w)]):=by
 refine⟨by simp[h.1],fun i q e=>?_⟩;rw[List.getElem?_append] at e ⊢;rw[h.1];split at e
 .rename_i hi;rw[if_pos hi];exact h.2 i q e
 .rename_i hi;rw[if_neg hi];have:i - ls.length=0:=by
   have:=(List.getElem?_eq_some_iff.mp e).1;simpa using this
  rw[this] at e ⊢;simp at e;subst e;exact⟨S',E',rfl,h1,h2⟩
theorem zyn{s na la:Nat}{ho ga ns:List Str}{ls:List LR}{h c:Nat}{μ:Mu}{Q:DK}{rowsD slD:D}(W:WD μ s na la ns ls)(N:zch ho ga ns ls h c)(h4:ho.length<=4)(g3:ga.length<=3)
  (q:∀ μ' k ck cl ln,μ k=none->μ ck=none->μ cl=none->za0 μ' k ck cl (kindsOf ho ga ls) ln->zoU ls ln->(∀j c,μ j=some c->μ' j=some c)->Q (.cell k) μ') :
  zdk [.tup [.lst (ho.map D.str), .lst (ga.map D.str), .cell la,rowsD,slD, .cell na]] μ Q:=by
 have hz:(1000:Nat)<=sizeLine:=by decide
 have l14:=N.len;have nd:=N.nd;have nmx:∀x∈ho++ga++ls.map LR.nm,Nm x:=fun x hx=>N.nms x (N.sub x hx)
 refine⟨rfl,stp fun N1 h1=>?_⟩;rw_mod_cast [];intro k hk;refine zpf (fun ck cl μ1 hck hcl A keep=>?_) zr;have kck:k≠ck:=A.k1;have kcl:k≠cl:=A.k2;have hck':μ ck=none:=by rw[zg (fun z=>kck z.symm)] at hck;exact hck
 have hcl':μ cl=none:=by rw[zg (fun z=>kcl z.symm)] at hcl;exact hcl
 have keep1:∀j c,μ j=some c->μ1 j=some c/\j≠k/\j≠ck/\j≠cl:=fun j c e=>by
  have n1:j≠k:=fun z=>by rw[z,hk] at e;cases e
  exact⟨keep j c (by rw[zg n1];exact e) n1,n1,fun z=>(by rw[z,hck'] at e;cases e),fun z=>(by rw[z,hcl'] at e;cases e)⟩
 clear keep hck hcl;refine⟨rfl,h1 _ _ ?_⟩;refine zkD (fun ρ μ'=>∃x2,ρ=[some (.tup [.lst (ho.map D.str), .lst (ga.map D.str), .cell la,rowsD,slD, .cell na]),some (.cell k),x2,none,none,none]/\za0 μ' k ck cl (kindsOf ho [] []) []/\∀j c,μ j=some c->μ' j=some c) (fun N2 k2=>?_) ?_
 .rw_mod_cast [];refine zaj (fun i ρ μ'=>∃x2,ρ=[some (.tup [.lst (ho.map D.str), .lst (ga.map D.str), .cell la,rowsD,slD, .cell na]),some (.cell k),x2,none,none,none]/\za0 μ' k ck cl (kindsOf (ho.take i) [] []) []/\∀j c,μ j=some c->μ' j=some c) ⟨_,rfl,A,fun j c e=>(keep1 j c e).1⟩ ?_ ?_
  .rintro i d ρ μ' hd ⟨x2,rfl,A',ke⟩ N3 hN;rw[List.getElem?_map] at hd;obtain⟨x,hx,rfl⟩:=Option.map_eq_some_iff.mp hd;have hi:=(List.getElem?_eq_some_iff.mp hx).1;rw_mod_cast [A'.o];refine ztc A' (nmx x (by simp[List.mem_of_getElem? hx])) ?_ ?_ ?_ fun μ2 A2 ke2=>?_
   .rw[zfb];simp only[List.append_nil,List.map_nil];intro hm;have hd2:(ho.take i++[x]).Nodup:=by
     have:ho.take (i+1)=ho.take i++[x]:=by rw[List.take_add_one,hx];rfl
     rw[<- this];exact(List.take_sublist _ _).nodup ((List.nodup_append.mp (List.nodup_append.mp nd).1).1)
    exact(List.nodup_append.mp hd2).2.2 x hm x (by simp) rfl
   .simp[kindsOf];omega
   .simp[kindsOf];omega
   .refine hN _ _ ⟨_,rfl,?_,fun j c e=>?_⟩
    .have e:kindsOf (ho.take (i+1)) [] []=kindsOf (ho.take i) [] []++[(x,("house":Str))]:=by
      unfold kindsOf;rw[List.take_add_one,hx];simp
     rw[e];exact A2
    .rw[ke2 j (keep1 j c e).2.2.1];exact ke j c e
  .rintro ρ μ' ⟨x2,rfl,A',ke⟩;rw[List.length_map,List.take_length] at A';exact k2 _ _ ⟨_,rfl,A',ke⟩
 rintro ρ μ2 ⟨x2,rfl,A2,ke2⟩;refine zkD (fun ρ μ'=>∃x2,ρ=[some (.tup [.lst (ho.map D.str), .lst (ga.map D.str), .cell la,rowsD,slD, .cell na]),some (.cell k),x2,none,none,none]/\za0 μ' k ck cl (kindsOf ho ga []) []/\∀j c,μ j=some c->μ' j=some c) (fun N2 k2=>?_) ?_
 .rw_mod_cast [];refine zaj (fun i ρ μ'=>∃x2,ρ=[some (.tup [.lst (ho.map D.str), .lst (ga.map D.str), .cell la,rowsD,slD, .cell na]),some (.cell k),x2,none,none,none]/\za0 μ' k ck cl (kindsOf ho (ga.take i) []) []/\∀j c,μ j=some c->μ' j=some c) ⟨_,rfl,A2,ke2⟩ ?_ ?_
  .rintro i d ρ μ' hd ⟨x2,rfl,A',ke⟩ N3 hN;rw[List.getElem?_map] at hd;obtain⟨x,hx,rfl⟩:=Option.map_eq_some_iff.mp hd;have hi:=(List.getElem?_eq_some_iff.mp hx).1;rw_mod_cast [A'.o];refine zvv A' (nmx x (by simp[List.mem_of_getElem? hx])) ?_ ?_ ?_ fun μ2 A2 ke2=>?_
   .rw[zfb];simp only[List.append_nil,List.map_nil];intro hm;have hd2:(ho++(ga.take i++[x])).Nodup:=by
     have:ga.take (i+1)=ga.take i++[x]:=by rw[List.take_add_one,hx];rfl
     rw[<- this];exact((List.Sublist.refl ho).append (List.take_sublist _ _)).nodup (List.nodup_append.mp nd).1
    rw[<- List.append_assoc] at hd2;exact(List.nodup_append.mp hd2).2.2 x hm x (by simp) rfl
   .simp[kindsOf];omega
   .simp[kindsOf];omega
   .refine hN _ _ ⟨_,rfl,?_,fun j c e=>?_⟩
    .have e:kindsOf ho (ga.take (i+1)) []=kindsOf ho (ga.take i) []++[(x,("gate":Str))]:=by
      unfold kindsOf;rw[List.take_add_one,hx];simp
     rw[e];exact A2
    .rw[ke2 j (keep1 j c e).2.2.1];exact ke j c e
  .rintro ρ μ' ⟨x2,rfl,A',ke⟩;rw[List.length_map,List.take_length] at A';exact k2 _ _ ⟨_,rfl,A',ke⟩
 clear A2 ke2 x2 A;rintro ρ μ2 ⟨x2,rfl,A2,ke2⟩;refine stp fun N4 k4=>?_
 rw_mod_cast [ke2 la _ W.dl];refine zaj (fun i ρ μ'=>∃x2 x3 x4 x5 ln,ρ=[some (.tup [.lst (ho.map D.str), .lst (ga.map D.str), .cell la,rowsD,slD, .cell na]),some (.cell k),x2,x3,x4,x5]/\za0 μ' k ck cl (kindsOf ho ga (ls.take i)) ln/\zoU (ls.take i) ln/\∀j c,μ j=some c->μ' j=some c) ⟨_,_,_,_,[],rfl,A2,⟨rfl,fun i r e=>by simp at e⟩,ke2⟩ ?_ ?_ ?_
 .rintro i d ρ μ' hd ⟨x2,x3,x4,x5,ln,rfl,A',L',ke⟩ N3 hN;rw[List.getElem?_map] at hd;obtain⟨r,hr,rfl⟩:=Option.map_eq_some_iff.mp hd;have hm:=List.mem_of_getElem? hr;have hi:=(List.getElem?_eq_some_iff.mp hr).1;have E:=N.ends r hm;obtain⟨c1,c2⟩:=W.rs r hm;have tk:ls.take (i+1)=ls.take i++[r]:=by rw[List.take_add_one,hr];rfl
  have hsub:(ho++ga++((ls.take i).map LR.nm++[r.nm])).Nodup:=by
   have:ho++ga++(ls.take (i+1)).map LR.nm=ho++ga++((ls.take i).map LR.nm++[r.nm]):=by rw[tk,List.map_append];rfl
   rw[<- this];exact((List.Sublist.refl _).append ((List.take_sublist _ _).map _)).nodup nd
  have hnew:r.nm∉ho++ga++(ls.take i).map LR.nm:=fun hh=>by
   rw[<- List.append_assoc] at hsub;exact(List.nodup_append.mp hsub).2.2 _ hh _ (by simp) rfl
  have fs:=L'.fst;have nodes:∀y∈ho++ga,y∈(kindsOf ho ga (ls.take i)).map (·.1)/\y∉ln.map (·.1):=fun y hy=>by
   rw[zfb,fs];refine⟨List.mem_append_left _ hy,fun hh=>?_⟩;have:=List.nodup_append.mp nd;exact this.2.2 y hy y (((List.take_sublist i ls).map LR.nm).subset hh) rfl
  unfold zaW;rw_mod_cast [zvh,ke _ _ c1,ke _ _ c2,A'.o];refine zv8 A' (nmx _ (by simp[List.mem_map_of_mem (f:=LR.nm) hm])) (by rw[zfb];exact hnew) ?_ ?_ E.s0 E.s6 E.sn E.e0 E.e6 E.en (fun y hy=>nodes y (E.ss y hy)) (fun y hy=>nodes y (E.es y hy)) E.w0 (by have:=E.w3;omega) ?_ fun μ3 S' E' p1 p2 A3 ke3=>?_
  .rw[L'.1,List.length_take];omega
  .simp[kindsOf];omega
  .rw[fs];exact fun hh=>hnew (List.mem_append_right _ hh)
  .refine hN _ _ ⟨_,_,_,_,ln++[(r.nm,S',E',r.w)],rfl,?_,?_,fun j c e=>?_⟩
   .have e:kindsOf ho ga (ls.take (i+1))=kindsOf ho ga (ls.take i)++[(r.nm,("line":Str))]:=by
     unfold kindsOf;rw[tk];simp
    rw[e];exact A3
   .rw[tk];exact L'.snoc p1 p2
   .rw[ke3 j (keep1 j c e).2.2.1 (keep1 j c e).2.2.2];exact ke j c e
 .rintro ρ μ' ⟨x2,x3,x4,x5,ln,rfl,A',L',ke⟩;rw[List.length_map,List.take_length] at A' L';refine k4 _ _ ?_;rw_mod_cast [];exact⟨_, .refl _,q μ' k ck cl ln hk hck' hcl' A' L' ke⟩
 .rintro i ρ μ' ⟨x2,x3,x4,x5,ln,rfl,A',L',ke⟩;exact ke la _ W.dl
set_option synthInstance.maxHeartbeats 4000000
set_option synthInstance.maxSize 100000
set_option maxHeartbeats 4000000
structure zkW(way:List Str):Prop where
 len:way.length=3\/way.length=5\/way.length=7
 nms:∀x∈way,Nm x
 nd:way.Nodup
theorem zro{way:List Str}{μ:Mu}{Q:DK}(h:zkW way)(q:Q .non μ):zcf [.tup (way.map D.str)] μ Q:=by
 have l7:way.length<=7:=by rcases h.len with e | e | e<;>omega
 have hm:((way.length:Int))∈([3,5,7]:List Int):=by rcases h.len with e | e | e<;>rw[e]<;>decide
 have e3:zbW true (.int (way.length:Int)) (.tup [D.int 3,D.int 5,D.int 7]) μ=zbW true (.int (way.length:Int)) (.tup (List.map D.int [3,5,7])) μ:=rfl;refine⟨rfl,stp fun N1 h1=>?_⟩;walk_at "e"
 rw[List.length_map,e3];simp only[zmk,zlS,Bool.true_xor,decide_eq_true hm,Bool.not_true,Bool.false_eq_true,if_false];refine h1 _ _ (stp fun N2 h2=>?_);walk_at "e"
 refine⟨by decide,zjv way D.str (by omega) (fun x hx Q' q'=>?_) (fun bs hb=>?_) trivial⟩
 .walk_at "e"
  exact zk7 (h.nms x hx) q'
 .rw_mod_cast [hb];refine h2 _ _ ?_;walk_at "e"
  refine⟨way,rfl,by omega,?_⟩;rw[zhM h.nd,List.length_map];rw_mod_cast [show decide ((way.length:Int) < way.length)=false from decide_eq_false (by omega)];exact⟨_, .refl _,q⟩
structure zo6(w1 w2:List Str):Prop where
 l1:3<=w1.length
 l1':w1.length<=7
 l2:3<=w2.length
 fst:w1[0]? = w2[0]?
 lst:w1[w1.length - 1]? = w2[w2.length - 1]?
 dj:∀x∈inner w1,x∉w2
theorem zp6{w:List Str}(h:3<=w.length):∃a b,w[0]? = some a/\w[w.length - 1]? = some b/\atI (w.map D.str) 0=some (.str a)/\atI (w.map D.str) (-1)=some (.str b):=by
 have h0:0 < w.length:=by omega
 have h1:w.length - 1 < w.length:=by omega
 refine⟨w[0],w[w.length - 1],List.getElem?_eq_getElem h0,List.getElem?_eq_getElem h1,zs7 (j:=0) rfl (by rw[List.getElem?_map,List.getElem?_eq_getElem h0];rfl),?_⟩;rw[zgX,List.getLast?_eq_getElem?,List.length_map,List.getElem?_map,List.getElem?_eq_getElem h1];rfl
theorem zoq{w1 w2:List Str}{μ:Mu}{Q:DK}(h:zo6 w1 w2)(q:Q .non μ):zaJ [.tup (w1.map D.str), .tup (w2.map D.str)] μ Q:=by
 have l1:=h.l1;have l1':=h.l1';obtain⟨a,b,e1,e2,e3,e4⟩:=zp6 h.l1;obtain⟨a',b',f1,f2,f3,f4⟩:=zp6 h.l2;have ea:a=a':=by have:=h.fst;rw[e1,f1] at this;cases this;rfl
 have eb:b=b':=by have:=h.lst;rw[e2,f2] at this;cases this;rfl
 subst ea eb;refine⟨rfl,stp fun N1 h1=>?_⟩;rw_mod_cast [e3,e4,f3,f4];refine h1 _ _ ?_;walk_at "e"
 have ns1:¬ (HT.sIx (w1.map D.str).length 0 (some 1)=0/\HT.sIx (w1.map D.str).length (w1.map D.str).length (some (-1))=(w1.map D.str).length):=by
  rintro⟨z,_⟩;have:=HT.zaS (w1.map D.str).length 0 1;rw[List.length_map,Nat.min_eq_left (by omega)] at this;rw[List.length_map] at z;have e:HT.sIx w1.length 0 (some 1)=1:=this;omega
 refine⟨by decide,ns1,?_⟩;rw[zko w1 (by omega)];have hil:(inner w1).length<=7:=Nat.le_trans (zlk _) l1';have hz:(1000:Nat)<=sizeLine:=by decide
 refine zb1 (fun i ys μ'=>μ'=μ/\ys=(List.replicate i false).map D.bl) ⟨rfl,rfl⟩ ?_ ?_
 .rintro i d ys μ' hd ⟨rfl,rfl⟩;rw[List.getElem?_map] at hd;cases hx:(inner w1)[i]? with
  | none=>rw[hx] at hd;cases hd
  | some x =>
   rw[hx] at hd;cases hd;have hi:=(List.getElem?_eq_some_iff.mp hx).1;refine⟨by rw[List.length_map,List.length_replicate];omega,fun N hN=>?_⟩;rw_mod_cast [zlB,Bool.false_xor,decide_eq_false (h.dj x (List.mem_of_getElem? hx))];refine hN _ _ ⟨rfl,?_⟩;rw[List.replicate_succ',List.map_append];rfl
 .rintro ys μ' ⟨rfl,rfl⟩;rw_mod_cast [show ∀n,(List.replicate n false).any id=false from fun n=>by simp];exact⟨_, .refl _,q⟩
def ztg(ways:List (List Str)):Prop:=(∃w1,ways=[w1]/\zkW w1)\/∃w1 w2,ways=[w1,w2]/\zkW w1/\zkW w2/\zo6 w1 w2
theorem zpc{ways:List (List Str)}{μ:Mu}{Q:DK}(h:ztg ways)(q:Q .non μ):zbM [.tup (ways.map zbX)] μ Q:=by
 have l12:ways.length=1\/ways.length=2:=by rcases h with⟨w1,rfl,_⟩ | ⟨w1,w2,rfl,_⟩<;>simp
 have hm:((ways.length:Int))∈([1,2]:List Int):=by rcases l12 with e | e<;>rw[e]<;>decide
 have wok:∀w∈ways,zkW w:=by
  rcases h with⟨w1,rfl,a⟩ | ⟨w1,w2,rfl,a,b,_⟩
  .intro w hw;rw[List.mem_singleton.mp hw];exact a
  .intro w hw;rcases List.mem_cons.mp hw with e | e
   .rw[e];exact a
   .rw[List.mem_singleton.mp e];exact b
 refine⟨rfl,stp fun N1 h1=>?_⟩;walk_at "e"
 refine⟨by decide,?_⟩;have e12:zbW true (.int (ways.length:Int)) (.tup [D.int 1,D.int 2]) μ=zbW true (.int (ways.length:Int)) (.tup (List.map D.int [1,2])) μ:=rfl;rw[List.length_map,e12];simp only[zmk,zlS,Bool.true_xor,decide_eq_true hm,Bool.not_true,Bool.false_eq_true,if_false];refine h1 _ _ (stp fun N2 h2=>?_);walk_at "e"
 refine zaj (fun i ρ μ'=>∃x,ρ=[some (.tup (ways.map zbX)),x]/\μ'=μ) ⟨_,rfl,rfl⟩ ?_ ?_
 .rintro i d ρ μ' hd ⟨x,rfl,rfl⟩ N hN;rw[List.getElem?_map] at hd;cases hx:ways[i]? with
  | none=>rw[hx] at hd;cases hd
  | some w =>
   rw[hx] at hd;cases hd;unfold zbX;walk_at "e"
   exact zro (wok w (List.mem_of_getElem? hx)) (hN _ _ ⟨_,rfl,rfl⟩)
 rintro ρ μ' ⟨x,rfl,rfl⟩;refine h2 _ _ ?_;rcases h with⟨w1,rfl,a⟩ | ⟨w1,w2,rfl,a,b,c⟩
 .walk_at "e"
  exact⟨_, .refl _,q⟩
 .rw_mod_cast [zbX];exact zoq c ⟨_, .refl _,q⟩
set_option synthInstance.maxHeartbeats 4000000
set_option synthInstance.maxSize 100000
set_option maxHeartbeats 4000000
set_option maxHeartbeats 400000
def ziK:List Int:=[4,5,6,8,10,12,15,20,24,30,40,60,120]
structure zsM(r:RW):Prop where
 nm:Nm r.nm
 ways:ztg r.ways
 ev:r.e∈ziK
 l1:1<=r.lo
 l2:r.lo<=30
 r0:0<=r.re
 r1:r.re<=r.e - 1
 t1:1<=r.lst
 t2:r.lst<=480
def zyg(r:RW):List D:=[.str r.nm, .tup (r.ways.map zbX), .int r.e, .int r.lo, .int r.re, .int r.lst]
def frO(r:RW):D:= .obj "Frame" zcl (zyg r)
theorem ztM{r:RW}{k:Nat}{μ:Mu}{Q:DK}(h:zsM r)(q:Q .non (zF μ k (.ins "Frame" zcl (zyg r)))):zaw [.cell k, .str r.nm, .tup (r.ways.map zbX), .int r.e, .int r.lo, .int r.re, .int r.lst] (zF μ k (.ins "Frame" [] [])) Q:=by
 refine⟨rfl,stp fun N1 h1=>?_⟩;walk_at "e"
 refine zjt h.nm (h1 _ _ (stp fun N2 h2=>?_));walk_at "e"
 refine zpc h.ways (h2 _ _ (stp fun N3 h3=>?_));walk_at "e"
 have e1:∀(μ:Mu) (Q:DK),zbW true (.int r.e) (.tup [D.int 4,D.int 5,D.int 6,D.int 8,D.int 10,D.int 12,D.int 15,D.int 20,D.int 24,D.int 30,D.int 40,D.int 60,D.int 120]) μ Q=zbW true (.int r.e) (.tup (List.map D.int ziK)) μ Q:=fun _ _=>rfl
 rw[e1];simp only[zmk,zlS,Bool.true_xor,decide_eq_true h.ev,Bool.not_true,Bool.false_eq_true,if_false];refine h3 _ _ (stp fun N4 h4=>?_);walk_at "e"
 refine ziJ h.l1 h.l2 (h4 _ _ (stp fun N5 h5=>?_));walk_at "e"
 refine ziJ h.r0 h.r1 (h5 _ _ (stp fun N6 h6=>?_));walk_at "e"
 refine ziJ h.t1 h.t2 (h6 _ _ (stp fun N7 h7=>?_));walk_at "e"
 refine h7 _ _ (stp fun N8 h8=>?_);rw_mod_cast [zaa];refine h8 _ _ (stp fun N9 h9=>?_);rw_mod_cast [zaa];refine h9 _ _ (stp fun N10 h10=>?_);rw_mod_cast [zaa];refine h10 _ _ (stp fun N11 h11=>?_);rw_mod_cast [zaa];refine h11 _ _ ?_;rw_mod_cast [zaa];exact⟨_, .refl _,q⟩
theorem zzl{r:RW}{k:Nat}{μ:Mu}{Q:DK}(h:zsM r)(hk:μ k=none)(q:Q (frO r) μ):zaw [.cell k, .str r.nm, .tup (r.ways.map zbX), .int r.e, .int r.lo, .int r.re, .int r.lst] (zF μ k (.ins "Frame" [] [])) fun d μ3=>d= .non/\zn0 μ3 (.cell k) Q:=by
 refine ztM h ⟨rfl,?_⟩;rw[ztz,zr,zjF,ze3 hk];exact q
theorem fmk{n j:Nat}{pat:List Src}{cs ds es:List D}{r:RW}{μ:Mu}{Q:DK}(h:zsM r)(hs:∀k,sel n j pat .non cs (.cell k::ds) es=[.cell k, .str r.nm, .tup (r.ways.map zbX), .int r.e, .int r.lo, .int r.re, .int r.lst])(q:Q (frO r) μ):zx1 "Frame" zaw n j pat cs ds es μ Q:=fun k hk=>by
 rw[hs k];exact zzl h hk q
theorem zlK{r:RW}{μ:Mu}{Q:DK}(h:zsM r)(q:Q (frO r) μ):zbp [zcu r] μ Q:=by
 refine⟨rfl,?_⟩;unfold zcu;refine zqV (ds:=[.str r.nm, .tup (r.ways.map zbX)]) (es:=[.int r.e, .int r.lo, .int r.re, .int r.lst]) ?_ ?_ (fmk h (fun k=>rfl) ⟨_, .refl _,q⟩)
 .walk_at "x"
 .walk_at "x"
set_option synthInstance.maxHeartbeats 4000000
set_option synthInstance.maxSize 100000
set_option maxHeartbeats 4000000
theorem ztD{w:List Str}{x:Str}(h:x∈inner w):∃j,1<=j/\j+1 < w.length/\w[j]? = some x:=by
 unfold inner at h;obtain⟨j,hj⟩:=List.mem_iff_getElem?.mp h;rw[List.getElem?_take] at hj;split at hj
 .rename_i hlt;rw[List.getElem?_drop] at hj;exact⟨1+j,by omega,by omega,hj⟩
 .cases hj
theorem ztb{w:List Str}(h:w.Nodup){i j:Nat}{x:Str}(h1:w[i]? = some x)(h2:w[j]? = some x):i=j:=by
 obtain⟨a,ea⟩:=List.getElem?_eq_some_iff.mp h1;obtain⟨b,eb⟩:=List.getElem?_eq_some_iff.mp h2;exact(List.getElem_inj h).mp (ea.trans eb.symm)
theorem zop{ho ga ns:List Str}{ls:List LR}{h c:Nat}{bd:List Str}{first:Str}{k:Nat}{w:List Str}(N:zch ho ga ns ls h c)(k1:1<=k)(k3:k<=3)(W:Way ho ga ns ls bd first k (2*k) w):zkW w:=⟨by rw[W.len];omega,fun x hx=>N.nms x (W.sub x hx),W.nd⟩
theorem zux{ho ga ns:List Str}{ls:List LR}{first last:Str}{k1 k2:Nat}{w1 w2:List Str}(a1:1<=k1)(a3:k1<=3)(b1:1<=k2)(b3:k2<=3)(W1:Way ho ga ns ls [] first k1 (2*k1) w1)(e1:w1[2*k1]? = some last)(W2:Way ho ga ns ls (inner w1) first k2 (2*k2) w2)(e2:w2[2*k2]? = some last):zo6 w1 w2:=by
 have l1:=W1.len;have l2:=W2.len;refine⟨by omega,by omega,by omega,by rw[W1.hd,W2.hd],?_,fun x hx hx2=>?_⟩
 .rw[show w1.length - 1=2*k1 from by omega,show w2.length - 1=2*k2 from by omega,e1,e2]
 .obtain⟨i,i1,i2,hi⟩:=ztD hx;obtain⟨j,hj⟩:=List.mem_iff_getElem?.mp hx2;have hlt:j < 2*k2+1:=by have:=(List.getElem?_eq_some_iff.mp hj).1;omega
  by_cases z:j=0
  .subst z;rw[W2.hd] at hj;cases hj;have:=ztb W1.nd hi W1.hd;omega
  .by_cases z2:j=2*k2
   .subst z2;rw[e2] at hj;cases hj;have:=ztb W1.nd hi e1;omega
   .rcases Nat.mod_two_eq_zero_or_one j with e | e
    .obtain⟨m,rfl⟩:∃m,j=2*m+2:=⟨j / 2 - 1,by omega⟩;exact(W2.gt m x (by omega) hj).2 hx
    .obtain⟨m,rfl⟩:∃m,j=2*m+1:=⟨j / 2,by omega⟩;exact(W2.ln m x hj).2 hx
theorem zdW{way:List Str}{lo sl:Int}(h0:1<=lo)(h4:lo<=4)(s0:0<=sl)(s7:sl<=7):∀(ls:List LR) (m:Int),(∀r∈ls,0<=r.w/\r.w<=3)->m<=ls.foldl (fun m r=>if r.nm∈way then m+lo+r.w+sl else m) m/\ls.foldl (fun m r=>if r.nm∈way then m+lo+r.w+sl else m) m<=m+14*ls.length/\((∃r∈ls,r.nm∈way)->m+1<=ls.foldl (fun m r=>if r.nm∈way then m+lo+r.w+sl else m) m)
 | [],m,_=>⟨by simp,by simp,fun⟨r,hr,_⟩=>by cases hr⟩
 | r::t,m,h=>by
  obtain⟨w0,w3⟩:=h r List.mem_cons_self;have h':∀r∈t,0<=r.w/\r.w<=3:=fun x hx=>h x (List.mem_cons_of_mem _ hx)
  rw[List.foldl_cons,List.length_cons];by_cases hm:r.nm∈way
  .rw[if_pos hm];obtain⟨a,b,c⟩:=zdW (way:=way) h0 h4 s0 s7 t (m+lo+r.w+sl) h';exact⟨by omega,by omega,fun _=>by omega⟩
  .rw[if_neg hm];obtain⟨a,b,c⟩:=zdW (way:=way) h0 h4 s0 s7 t m h';refine⟨a,by omega,fun⟨x,hx,hxw⟩=>?_⟩;rcases List.mem_cons.mp hx with rfl | hx
   .exact absurd hxw hm
   .exact c ⟨x,hx,hxw⟩
theorem zyB{ho ga ns:List Str}{ls:List LR}{h c:Nat}{sl:Int}{r:RW}(N:zch ho ga ns ls h c)(s0:0<=sl)(s7:sl<=7)(R:zfB ho ga ns ls sl r):zsM r:=by
 have ev:8<=r.e/\r.e<=120/\r.e∈ziK:=by
  have:∀e∈ziR,8<=e/\e<=120/\e∈ziK:=by decide
  exact this _ R.ev
 have wl:∀q∈ls,0<=q.w/\q.w<=3:=fun q hq=>⟨(N.ends q hq).w0,(N.ends q hq).w3⟩
 have l14:=N.len;obtain⟨first,last,w1,k1,hf,hl,hfl,k11,k13,W1,e1,hw⟩:=R.way;have ls1:1<=zaT ls w1 r.lo sl:=by
  have le:=W1.len;have i0:2*0 < w1.length:=by omega
  have i1:2*0+1 < w1.length:=by omega
  have i2:2*0+2 < w1.length:=by omega
  obtain⟨q,hq,en,_,_⟩:=W1.jn 0 _ _ _ (List.getElem?_eq_getElem i0) (List.getElem?_eq_getElem i1) (List.getElem?_eq_getElem i2);have:=(zdW (way:=w1) R.l1 R.l4 s0 s7 ls 0 wl).2.2 ⟨q,hq,by rw[en];exact List.getElem_mem _⟩;unfold zaT;omega
 have lsb:∀w,0<=zaT ls w r.lo sl/\zaT ls w r.lo sl<=196:=fun w=>by
  obtain⟨a,b,_⟩:=zdW (way:=w) R.l1 R.l4 s0 s7 ls 0 wl;unfold zaT;exact⟨a,by omega⟩
 have nb:1<=zfF ls r.ways r.lo sl/\zfF ls r.ways r.lo sl<=196:=by
  have b1:=lsb w1;rcases hw with e | ⟨w2,k2,e,_⟩
  .rw[e];unfold zfF;simp only[List.foldl_cons,List.foldl_nil];split<;>omega
  .have b2:=lsb w2;rw[e];unfold zfF;simp only[List.foldl_cons,List.foldl_nil];split<;>split<;>omega
 obtain⟨sp,es,hs⟩:=R.lst;have sb:0<=sp/\sp<=119:=by
  simp only[List.mem_cons,List.not_mem_nil,or_false] at hs;rcases hs with e | e | e | e | e | e | e<;>omega
 refine⟨N.nms _ R.nmn,?_,ev.2.2,R.l1,by have:=R.l4;omega,R.r0,by have:=R.re;omega,by omega,by omega⟩;rcases hw with e | ⟨w2,k2,e,b1,b3,W2,e2⟩
 .exact .inl ⟨w1,e,zop N k11 k13 W1⟩
 .exact .inr ⟨w1,w2,e,zop N k11 k13 W1,zop N b1 b3 W2,zux k11 k13 b1 b3 W1 e1 W2 e2⟩
set_option synthInstance.maxHeartbeats 4000000
set_option synthInstance.maxSize 100000
set_option maxHeartbeats 4000000
abbrev TR:=Str×Int×List Int
def trD(t:TR):D:= .tup [.str t.1, .int t.2.1, .tup (t.2.2.map D.int)]
def trL(t:TR):List D:=[.str t.1, .int t.2.1, .tup (t.2.2.map D.int)]
def trK(t:TR):zbI:=[.inr t.1, .inl t.2.1]
def trV(t:TR):D:= .tup (t.2.2.map D.int)
theorem zq6{c:Nat}{g:DG}{w:DA}{wv:DE}{ρb:zad}{Pm:Mu->Prop}{Fin:Mu->Prop}{ds:List D}{μ:Mu}(I:Nat->Mu->Prop)(h0:I 0 μ)
  (step:∀i d μ,ds[i]? = some d->I i μ->∀N:Mu->Prop,(∀ μ',I (i+1) μ'->N μ')->g d ρb μ fun ρ2 μ2=>w ρ2 μ2 fun es μ4=>es.length<=1000/\wv ρ2 μ4 fun v μ5=>zoN (μ5 c) fun ks vs=>zaO (zes es) fun kk=>ks.length<=1000/\N (zF μ5 c (.dtt (zj8 ks kk) (zkV ks vs kk v))))
  (fin:∀ μ,I ds.length μ->Fin μ)(hP:∀i μ,I i μ->Pm μ):zf2 c g zeS w wv ρb Pm Fin ds μ:=by
 have key:∀(n i:Nat) μ,i+n=ds.length->I i μ->zf2 c g zeS w wv ρb Pm Fin (ds.drop i) μ:=by
  intro n;induction n with
  | zero =>
   intro i μ hi h;rw[List.drop_eq_nil_of_le (by omega)];exact⟨hP i μ h,fin μ (by rw[<- hi];exact h)⟩
  | succ n ih =>
   intro i μ hi h;have hlt:i < ds.length:=by omega
   rw[List.drop_eq_getElem_cons hlt];exact⟨hP i μ h,step i _ μ (List.getElem?_eq_getElem hlt) h _ fun μ' h'=>ih (i+1) μ' (by omega) h'⟩
 exact key ds.length 0 μ (by omega) h0
theorem zmX{t:TR}:∀{ts:List TR},t∈ts->(ts.map trK).Nodup->zc4 (ts.map trK) (ts.map trV) (trK t)=some (trV t)
 | [],h,_=>by cases h
 | u::ts,h,nd=>by
  rw[List.map_cons,List.map_cons,zc4];obtain⟨n1,n2⟩:=List.nodup_cons.mp nd;rcases List.mem_cons.mp h with rfl | h
  .rw[if_pos rfl]
  .rw[if_neg (fun z:trK u=trK t=>n1 (by rw[z];exact List.mem_map.mpr ⟨t,h,rfl⟩))];exact zmX h n2
theorem zxW{ts:List TR}{μ:Mu}{Q:DK}(nd:(ts.map trK).Nodup)(hl:ts.length<=900)(q:∀c,μ c=none->Q (.cell c) (zF μ c (.dtt (ts.map trK) (ts.map trV)))):za3 [.lst (ts.map trD)] μ Q:=by
 refine⟨rfl,?_⟩;show zbk _ _ _ _;unfold zoI;rw_mod_cast [];refine⟨by decide,fun c hc=>?_⟩;refine zq6 (fun i μ'=>μ'=zF μ c (.dtt ((ts.take i).map trK) ((ts.take i).map trV))) rfl ?_ ?_ ?_
 .rintro i d μ' hd rfl N hN;rw[List.getElem?_map] at hd;obtain⟨t,ht,rfl⟩:=Option.map_eq_some_iff.mp hd;have hi:=(List.getElem?_eq_some_iff.mp ht).1;unfold trD;rw_mod_cast [zoL,zaa];have eu:ts.take (i+1)=ts.take i++[t]:=by rw[List.take_add_one,ht];rfl
  have hnew:trK t∉(ts.take i).map trK:=by
   intro hm;have hd2:((ts.take i).map trK++[trK t]).Nodup:=by
    have:(ts.take (i+1)).map trK=(ts.take i).map trK++[trK t]:=by rw[eu,List.map_append];rfl
    rw[<- this];exact((List.take_sublist _ _).map _).nodup nd
   exact(List.nodup_append.mp hd2).2.2 _ hm _ (by simp) rfl
  refine⟨by decide,?_⟩;have ek:zes [.str t.1, .int t.2.1]=some (trK t):=rfl;rw[ek,zaD];refine⟨by rw[List.length_map,List.length_take];omega,hN _ ?_⟩;rw[eu,List.map_append,List.map_append];unfold zj8 zkV;rw[if_neg hnew,if_neg hnew];rfl
 .rintro μ' rfl;rw[List.length_map,List.take_of_length_le (Nat.le_refl _)];exact⟨_, .refl _,q c hc⟩
 .intro _ _ _;trivial
theorem zx0{ts:List TR}{t:TR}{μ:Mu}{Q:DK}(nd:(ts.map trK).Nodup)(hl:ts.length<=900)(ht:t∈ts)(q:Q (trV t) μ):zcJ [.obj "Table" zdE [.lst (ts.map trD)], .str t.1, .int t.2.1] μ Q:=by
 refine⟨rfl,stp fun N1 h1=>?_⟩;rw_mod_cast [zfE];refine zxW nd hl fun c hc=>h1 _ _ ?_
 refine stp fun N2 h2=>?_
 unfold zvt;rw_mod_cast [ztk,zoL];have ek:zes [.str t.1, .int t.2.1]=some (trK t):=rfl;have hm:trK t∈ts.map trK:=List.mem_map.mpr ⟨t,ht,rfl⟩;rw[ek];refine⟨by decide,?_⟩;rw[zaD,decide_eq_true hm];show(if (true ^^ true)=true then _ else _);rw[if_neg (by decide)];refine h2 _ _ ?_;show zbk _ _ _ _;unfold zsE;rw_mod_cast [ztk,zoL];refine⟨by decide,?_⟩;rw[ek,zaD,zmX ht nd,zaD];exact⟨_,MLe.zF hc,q⟩
def tbO(ts:List TR):D:= .obj "Table" zdE [.lst (ts.map trD)]
theorem zqO{ts:List TR}(nd:(ts.map trK).Nodup):∀i j,i≠j->(zeo ((ts.map trL).getD i []) ((ts.map trL).getD j [])).isSome:=by
 intro i j hij;have out:∀{n},¬ n < ts.length->(ts.map trL).getD n []=[]:=fun{n} h=>by simp[Nat.le_of_not_lt h]
 have inn:∀{n} (h:n < ts.length),(ts.map trL).getD n []=trL ts[n]:=fun{n} h=>by simp[h]
 by_cases hi:i < ts.length
 .by_cases hj:j < ts.length
  .rw[inn hi,inn hj];unfold trL;by_cases e1:ts[i].1=ts[j].1
   .by_cases e2:ts[i].2.1=ts[j].2.1
    .exfalso;have hk:(ts.map trK)[i]'(by simpa using hi)=(ts.map trK)[j]'(by simpa using hj):=by
      rw[List.getElem_map,List.getElem_map];unfold trK;rw[e1,e2]
     rcases Nat.lt_or_gt_of_ne hij with z | z
     .exact(List.pairwise_iff_getElem.mp nd) i j _ _ z hk
     .exact(List.pairwise_iff_getElem.mp nd) j i _ _ z hk.symm
    .simp[zeo,e1,e2]
   .simp[zeo,e1]
  .rw[out hj,inn hi];rfl
 .rw[out hi];by_cases hj:j < ts.length
  .rw[inn hj];rfl
  .rw[out hj];rfl
theorem zwE(ts:List TR):ts.map trD=(ts.map trL).map D.tup:=by rw[List.map_map];rfl
theorem zgO{α β:Type}{f:α->β}:∀{l:List α} {l':List β},List.Perm l' (l.map f)->∃l2,List.Perm l2 l/\l'=l2.map f:=fun{l l'} h=>by
 generalize hm:l.map f=m at h
 induction h generalizing l with
 | nil=>cases l with
  | nil=>exact⟨[], .refl _,rfl⟩
  | cons _ _=>cases hm
 | cons x _ ih =>
  cases l with
  | nil=>cases hm
  | cons a l =>
   cases hm;obtain⟨l2,p,rfl⟩:=ih rfl;exact⟨a::l2,p.cons a,rfl⟩
 | swap x y _ =>
  match l,hm with
  | a::b::l,hm =>
   cases hm;exact⟨b::a::l, .swap _ _ _,rfl⟩
 | trans _ _ ih1 ih2 =>
  obtain⟨l2,p,rfl⟩:=ih2 hm;obtain⟨l3,p3,rfl⟩:=ih1 rfl;exact⟨l3,p3.trans p,rfl⟩
theorem ztU{ts:List TR}{d:D}{k:Nat}{μ:Mu}{Q:DK}(hl:zX μ d=some (ts.map trD))(nd:(ts.map trK).Nodup)(hz:ts.length < 64)(hd:∀c,zX (zF μ k c) d=zX μ d)
  (q:∀ts',List.Perm ts' ts->Q .non (zF μ k (.ins "Table" zdE [.lst (ts'.map trD)]))):zaN [.cell k,d] (zF μ k (.ins "Table" [] [])) Q:=by
 refine⟨rfl,?_⟩;show zdC _ _ _ _ _ _ _;unfold zdC;rw_mod_cast [];refine zi1 (rows:=ts.map trL) (.inl (by rw[hd,hl,zwE])) (by rw[List.length_map];exact hz) (.inl fun r hr=>?_) (zqO nd) fun rows' p _=>?_
 .obtain⟨t,_,rfl⟩:=List.mem_map.mp hr;exact⟨_,_,rfl⟩
 .obtain⟨ts',p',rfl⟩:=zgO p;rw_mod_cast [zaa];rw[<- zwE];exact⟨_, .refl _,q ts' p'⟩
set_option synthInstance.maxHeartbeats 4000000
set_option synthInstance.maxSize 100000
set_option maxHeartbeats 4000000
def zhd(vs:List Int):List (List Int):=vs.zipIdx.map fun p=>[p.1,(p.2:Int)]
theorem zoe(vs:List Int):(zhd vs).length=vs.length:=by simp[zhd]
theorem zqG{vs:List Int}{i:Nat}{v:Int}(h:vs[i]? = some v):zhd (vs.take (i+1))=zhd (vs.take i)++[[v,(i:Int)]]:=by
 have hi:i < vs.length:=(List.getElem?_eq_some_iff.mp h).1;unfold zhd;rw[List.take_add_one,h,List.zipIdx_append,List.map_append];have e:(vs.take i).length=i:=by rw[List.length_take];omega
 rw[e];simp
theorem znT{μ:Mu}{k ck cl:Nat}{kn:SL Str}{ln:SL EN}{r:RW}{ts:List TR}{sl:Int}{vs:List Int}{Q:DK}(A:za0 μ k ck cl kn ln)(nd:(ts.map trK).Nodup)(hl:ts.length<=900)(hlen:vs.length=r.ways.length)(h1:1<=r.ways.length)(h2:r.ways.length<=2)
  (hv:∀(i:Nat) w,r.ways[i]? = some w->∃st l x e,(r.nm,(i:Int),st)∈ts/\atI (st.map D.int) (-1)=some (.int l)/\atI (w.map D.str) (-2)=some (.str x)/\zU ln x=some e/\vs[i]? = some (l - r.re+r.lo+e.2.2+sl))
  (q:∀m∈zhd vs,(∀n∈zhd vs,HT.lexLt n m=false)->Q (.tup (m.map D.int)) μ):zcL [.cell k,frO r,tbO ts, .int sl] μ Q:=by
 refine⟨rfl,stp fun N1 k1=>?_⟩;rw_mod_cast [];refine⟨by decide,fun c hc=>k1 _ _ ?_⟩;refine stp fun N2 k2=>?_
 unfold frO zyg;rw_mod_cast [zdX,zjN,zfP,ztE];have ck0:∀{j ct},μ j=some ct->c≠j:=fun{j ct} e z=>by rw[<- z,hc] at e;cases e
 have A':∀ct,za0 (zF μ c ct) k ck cl kn ln:=fun ct=>⟨by rw[zg (ck0 A.o).symm];exact A.o,by rw[zg (ck0 A.a).symm];exact A.a,by rw[zg (ck0 A.b).symm];exact A.b,A.ne,A.nd⟩
 refine zaj (fun i ρ μ'=>∃x5 x6 x7 x8:Option D,ρ=[some (.cell k),some (.obj "Frame" zcl [.str r.nm, .tup (r.ways.map zbX), .int r.e, .int r.lo, .int r.re, .int r.lst]),some (tbO ts),some (.int sl),some (.cell c),x5,x6,x7,x8]/\μ'=zF μ c (.lst ((zhd (vs.take i)).map fun m=>D.tup (m.map D.int)))) ⟨none,none,none,none,rfl,rfl⟩ ?_ ?_
 .rintro i d ρ μ' hd ⟨x5,x6,x7,x8,rfl,rfl⟩ N hN;obtain⟨e,he,rfl⟩:=zb4 hd;rw[List.getElem?_map] at he;obtain⟨w,hw,rfl⟩:=Option.map_eq_some_iff.mp he;obtain⟨st,l,x,en,t1,t2,t3,t4,t5⟩:=hv i w hw;rw_mod_cast [];have hi:i < vs.length:=(List.getElem?_eq_some_iff.mp t5).1;have ew:∀ μ' R,dIx (zbX w) (.int (-2)) μ' R=R (.str x) μ':=fun μ' R=>by unfold zbX;rw[zhU,t3];rfl
  have et:∀ μ' R,dIx (trV (r.nm,(i:Int),st)) (.int (-1)) μ' R=R (.int l) μ':=fun μ' R=>by unfold trV;rw[zhU];show zaO (atI (st.map D.int) (-1)) _=_;rw[t2];rfl
  have ee:∀ μ' R,dIx (enD en) (.int 2) μ' R=R (.int en.2.2) μ':=fun μ' R=>by unfold enD;rfl
  unfold tbO;refine⟨⟨rfl,zh3⟩,zx0 (t:=(r.nm,(i:Int),st)) nd hl t1 ?_⟩;rw[et];refine⟨by rw[(A' _).o];exact⟨rfl,zix⟩,?_⟩;rw[ew];refine zvK (A' _) t4 ?_;rw[ee];rw_mod_cast [zaa];have hz:(1001:Nat)<=sizeLine:=by decide
  refine⟨by omega,by rw[List.length_map,zoe,List.length_take];omega,hN _ _ ⟨_,_,_,_,rfl,?_⟩⟩;rw[zqG t5,List.map_append];rfl
 .rintro ρ μ' ⟨x5,x6,x7,x8,rfl,rfl⟩;refine k2 _ _ ?_;rw[zaQ,List.length_map,<- hlen,List.take_of_length_le (Nat.le_refl _)];rw_mod_cast [];refine .inr ⟨zhd vs,?_,?_,fun m hm hmin=>⟨_,MLe.zF hc,q m hm hmin⟩⟩
  .show zX _ (.cell c)=_;unfold zX;show(match zF μ c _ c with
    | some (.lst ds)=>some ds
    | _=>none)=_
   rw[zr]
  .intro z;have:=zoe vs;rw[z] at this;simp at this;omega
set_option synthInstance.maxHeartbeats 4000000
set_option synthInstance.maxSize 100000
set_option maxHeartbeats 4000000
theorem znn{α:Type}{r:α->α->Prop}:∀{l1 l2:List α},List.Perm l1 l2->List.Pairwise r l1->List.Pairwise r l2->(∀a∈l1,∀b∈l1,r a b->r b a->a=b)->l1=l2
 | [],l2,h,_,_,_=>h.nil_eq
 | a::r1,[],h,_,_,_=>absurd h.length_eq (by simp)
 | a::r1,b::r2,h,h1,h2,anti=>by
  obtain⟨a1,p1⟩:=List.pairwise_cons.mp h1;obtain⟨b1,p2⟩:=List.pairwise_cons.mp h2;have e:a=b:=by
   rcases List.mem_cons.mp (h.mem_iff.mp List.mem_cons_self) with z | z
   .exact z
   .rcases List.mem_cons.mp (h.mem_iff.mpr (List.mem_cons_self (a:=b))) with y | y
    .exact y.symm
    .exact anti a (.head _) b (.tail _ y) (a1 b y) (b1 a z)
  subst e;rw[znn (List.perm_cons a |>.mp h) p1 p2 fun x hx y hy=>anti x (.tail _ hx) y (.tail _ hy)]
def zjM(r:RW):List D:=[.str r.nm, .tup (r.ways.map zbX), .int r.e, .int r.lo, .int r.re, .int r.lst]
theorem zsy(rows:List RW):rows.map zcu=(rows.map zjM).map D.tup:=by rw[List.map_map];rfl
structure znD(rows l:List RW):Prop where
 p:List.Perm l rows
 s:l.Pairwise fun a b=>sLe a.nm b.nm
theorem zsS{rows:List RW}(nd:(rows.map RW.nm).Nodup){a b:RW}(ha:a∈rows)(hb:b∈rows)(e:a.nm=b.nm):a=b:=by
 obtain⟨i,hi,rfl⟩:=List.getElem_of_mem ha;obtain⟨j,hj,rfl⟩:=List.getElem_of_mem hb;by_cases h:i=j
 .subst h;rfl
 .exfalso;have hk:(rows.map RW.nm)[i]'(by simpa using hi)=(rows.map RW.nm)[j]'(by simpa using hj):=by rw[List.getElem_map,List.getElem_map];exact e
  rcases Nat.lt_or_gt_of_ne h with z | z
  .exact(List.pairwise_iff_getElem.mp nd) i j _ _ z hk
  .exact(List.pairwise_iff_getElem.mp nd) j i _ _ z hk.symm
theorem znD.uniq{rows l1 l2:List RW}(nd:(rows.map RW.nm).Nodup)(h1:znD rows l1)(h2:znD rows l2):l1=l2 :=
 znn (h1.p.trans h2.p.symm) h1.s h2.s fun a ha b hb x y=>zsS nd (h1.p.mem_iff.mp ha) (h1.p.mem_iff.mp hb) (zmh x y)
theorem zrm{rows:List RW}(nd:(rows.map RW.nm).Nodup):∀i j,i≠j->(zeo ((rows.map zjM).getD i []) ((rows.map zjM).getD j [])).isSome:=by
 intro i j hij;have out:∀{n},¬ n < rows.length->(rows.map zjM).getD n []=[]:=fun{n} h=>by simp[Nat.le_of_not_lt h]
 have inn:∀{n} (h:n < rows.length),(rows.map zjM).getD n []=zjM rows[n]:=fun{n} h=>by simp[h]
 by_cases hi:i < rows.length
 .by_cases hj:j < rows.length
  .rw[inn hi,inn hj];unfold zjM;by_cases e1:rows[i].nm=rows[j].nm
   .exfalso;have hk:(rows.map RW.nm)[i]'(by simpa using hi)=(rows.map RW.nm)[j]'(by simpa using hj):=by rw[List.getElem_map,List.getElem_map];exact e1
    rcases Nat.lt_or_gt_of_ne hij with z | z
    .exact(List.pairwise_iff_getElem.mp nd) i j _ _ z hk
    .exact(List.pairwise_iff_getElem.mp nd) j i _ _ z hk.symm
   .simp[zeo,e1]
  .rw[out hj,inn hi];rfl
 .rw[out hi];by_cases hj:j < rows.length
  .rw[inn hj];rfl
  .rw[out hj];rfl
theorem zyb{a b:RW}(h:rLe (zjM a) (zjM b)):sLe a.nm b.nm:=by
 unfold rLe zjM at h;unfold zeo at h;by_cases e:b.nm=a.nm
 .rw[e];exact List.le_refl _
 .rw[if_neg e] at h;have h':sLt b.nm a.nm=false:=by
   cases z:sLt b.nm a.nm with
   | false=>rfl
   | true=>exact absurd (by rw[z]) h
  unfold sLt at h';rw[decide_eq_false_iff_not] at h';exact h'
theorem ztF{rows:List RW}{d:D}{μ:Mu}{Q:DK}(hl:zX μ d=some (rows.map zcu))(nd:(rows.map RW.nm).Nodup)(hz:rows.length < 64)(q:∀l,znD rows l->Q (.lst (l.map zcu)) μ):zjL [d] μ Q:=by
 refine zi1 (rows:=rows.map zjM) (.inl (by rw[hl,zsy])) (by rw[List.length_map];exact hz) (.inl fun r hr=>?_) (zrm nd) fun rows' p s=>?_
 .obtain⟨t,_,rfl⟩:=List.mem_map.mp hr;exact⟨_,_,rfl⟩
 .obtain⟨l,p',rfl⟩:=zgO p;rw[<- zsy];refine q l ⟨p',?_⟩;rw[List.pairwise_map] at s;exact s.imp fun h=>zyb h
set_option synthInstance.maxHeartbeats 4000000
set_option synthInstance.maxSize 100000
set_option maxHeartbeats 4000000
abbrev SP:=RW×Nat×Nat×Str
def spD(p:SP):D:= .tup [zcu p.1, .int p.2.1, .int p.2.2.1, .str p.2.2.2]
def zby{α:Type}:List α->List α
 | _::x::r=>x::zby r
 | _=>[]
def blk(r:RW)(k:Nat)(w:List Str):List SP:=(zby w).zipIdx.map fun p=>(r,k,p.2,p.1)
def spR(r:RW):List SP:=(r.ways.zipIdx.map fun p=>blk r p.2 p.1).flatten
def zae(l:List RW):List SP:=(l.map spR).flatten
theorem zc5{α:Type}:∀(n:Nat) (l:List α),l.length=2*n+1->(zby l).length=n
 | 0,[_],_=>rfl
 | 0,[],h=>by simp at h
 | 0,_::_::_,h=>by simp at h
 | n+1,[],h=>by simp at h
 | n+1,[_],h=>by simp at h
 | n+1,_::x::r,h=>by
  show(x::zby r).length=n+1;rw[List.length_cons,zc5 n r (by simp at h;omega)]
theorem zgp{α:Type}{m:Nat}:∀{L:List (List α)},(∀x∈L,x.length<=m)->L.flatten.length<=m*L.length
 | [],_=>by simp
 | x::L,h=>by
  have a:=h x (.head _);have b:=zgp (L:=L) fun y hy=>h y (.tail _ hy)
  rw[List.flatten_cons,List.length_append,List.length_cons,Nat.mul_succ];omega
theorem zpo{r:RW}{k:Nat}{w:List Str}(h:∃n,w.length=2*n+1/\1<=n/\n<=3):(blk r k w).length<=3:=by
 obtain⟨n,h1,_,h3⟩:=h;unfold blk;rw[List.length_map,List.length_zipIdx,zc5 n w h1];exact h3
def wys(r:RW)(j:Nat):List SP:=((r.ways.zipIdx.take j).map fun p=>blk r p.2 p.1).flatten
theorem zpK{α:Type}{l:List α}{p:α×Nat}(h:p∈l.zipIdx):p.1∈l:=by
 have:=List.mem_zipIdx h;rw[this.2.2];exact List.getElem_mem _
theorem zp5{r:RW}{j:Nat}(h2:r.ways.length<=2)(hw:∀w∈r.ways,∃n,w.length=2*n+1/\1<=n/\n<=3):(wys r j).length<=6:=by
 have:=zgp (m:=3) (L:=(r.ways.zipIdx.take j).map fun p=>blk r p.2 p.1) fun x hx=>by
  obtain⟨p,hp,rfl⟩:=List.mem_map.mp hx;exact zpo (hw _ (zpK (List.mem_of_mem_take hp)))
 rw[List.length_map,List.length_take,List.length_zipIdx] at this;unfold wys;omega
theorem zpS(r:RW):wys r r.ways.length=spR r:=by
 unfold wys spR;rw[List.take_of_length_le (by rw[List.length_zipIdx];exact Nat.le_refl _)]
theorem zt4{r:RW}{j:Nat}{w:List Str}(h:r.ways[j]? = some w):wys r (j+1)=wys r j++blk r j w:=by
 unfold wys;rw[List.take_add_one,List.getElem?_zipIdx,h];simp
theorem zhF{l:List RW}(hw:∀r∈l,r.ways.length<=2/\∀w∈r.ways,∃n,w.length=2*n+1/\1<=n/\n<=3):(zae l).length<=6*l.length:=by
 have:=zgp (m:=6) (L:=l.map spR) fun x hx=>by
  obtain⟨r,hr,rfl⟩:=List.mem_map.mp hx;rw[<- zpS];exact zp5 (hw r hr).1 (hw r hr).2
 rw[List.length_map] at this;exact this
theorem zpi{l:List RW}{i:Nat}{r:RW}(h:l[i]? = some r):zae (l.take (i+1))=zae (l.take i)++spR r:=by
 unfold zae;rw[List.take_add_one,h];simp
theorem zpg{w:List Str}(h:∃n,w.length=2*n+1/\1<=n/\n<=3):stepT (w.map D.str) (some 1) none 2=(zby w).map D.str:=by
 obtain⟨n,h1,h2,h3⟩:=h;rcases(show n=1\/n=2\/n=3 by omega) with rfl | rfl | rfl
 .match w,h1 with
  | [a,b,c],_ =>
   unfold stepT;rw[show(List.map D.str [a,b,c]).length=3 from rfl,show Builtin.Slice.sliceAdjust (some 1) none 2 ((3:Nat):Int)=(1,3) from by decide+kernel];dsimp only;rw[show Builtin.Slice.slicePlaces 1 3 2=1 from by decide+kernel];rfl
 .match w,h1 with
  | [a,b,c,d,e],_ =>
   unfold stepT;rw[show(List.map D.str [a,b,c,d,e]).length=5 from rfl,show Builtin.Slice.sliceAdjust (some 1) none 2 ((5:Nat):Int)=(1,5) from by decide+kernel];dsimp only;rw[show Builtin.Slice.slicePlaces 1 5 2=2 from by decide+kernel];rfl
 .match w,h1 with
  | [a,b,c,d,e,f,g],_ =>
   unfold stepT;rw[show(List.map D.str [a,b,c,d,e,f,g]).length=7 from rfl,show Builtin.Slice.sliceAdjust (some 1) none 2 ((7:Nat):Int)=(1,7) from by decide+kernel];dsimp only;rw[show Builtin.Slice.slicePlaces 1 7 2=3 from by decide+kernel];rfl
theorem ztH{r:RW}{k h:Nat}{w:List Str}{x:Str}(e:(zby w)[h]? = some x):(blk r k w).take (h+1)=(blk r k w).take h++[(r,k,h,x)]:=by
 unfold blk;rw[List.take_add_one,List.getElem?_map,List.getElem?_zipIdx,e];simp
theorem zny{rows:List RW}{d:D}{μ:Mu}{Q:DK}(hl:zX μ d=some (rows.map zcu))(hd:∀c k,μ k=none->zX (zF μ k c) d=zX μ d)(nd:(rows.map RW.nm).Nodup)(hz:rows.length<=60)(hw:∀r∈rows,r.ways.length<=2/\∀w∈r.ways,∃n,w.length=2*n+1/\1<=n/\n<=3)
  (q:∀l,znD rows l->Q (.lst ((zae l).map spD)) μ):zbo [d] μ Q:=by
 refine⟨rfl,stp fun N1 k1=>?_⟩;rw_mod_cast [];refine⟨by decide,fun c hc=>k1 _ _ ?_⟩;refine stp fun N2 k2=>?_
 rw_mod_cast [];refine ztF (by rw[hd _ _ hc];exact hl) nd (by omega) fun l S=>?_
 rw_mod_cast [];refine zaj (fun i ρ μ'=>∃x2 x3 x4 x5 x6:Option D,ρ=[some d,some (.cell c),x2,x3,x4,x5,x6]/\μ'=zF μ c (.lst ((zae (l.take i)).map spD))) ⟨none,none,none,none,none,rfl,rfl⟩ ?_ ?_
 .rintro i e ρ μ' he ⟨x2,x3,x4,x5,x6,rfl,rfl⟩ N hN;rw[List.getElem?_map] at he;obtain⟨r,hr,rfl⟩:=Option.map_eq_some_iff.mp he;unfold zcu;rw_mod_cast [zdX,zjN,ztE];have hm:r∈rows:=S.p.mem_iff.mp (List.mem_of_getElem? hr);have il:i < l.length:=(List.getElem?_eq_some_iff.mp hr).1;have ll:l.length=rows.length:=S.p.length_eq;have bi:(zae (l.take i)).length<=6*i:=by
   have:=zhF (l:=l.take i) fun r hr=>hw r (S.p.mem_iff.mp (List.mem_of_mem_take hr))
   rw[List.length_take] at this;omega
  refine zaj (fun j ρ μ'=>∃x3 x4 x5 x6:Option D,ρ=[some d,some (.cell c),some (.tup [.str r.nm, .tup (r.ways.map zbX), .int r.e, .int r.lo, .int r.re, .int r.lst]),x3,x4,x5,x6]/\μ'=zF μ c (.lst ((zae (l.take i)++wys r j).map spD))) ⟨x3,x4,x5,x6,rfl,by unfold wys;simp⟩ ?_ ?_
  .rintro j e ρ μ' he ⟨x3,x4,x5,x6,rfl,rfl⟩ N3 hN3;obtain⟨e2,he2,rfl⟩:=zb4 he;rw[List.getElem?_map] at he2;obtain⟨w,hwj,rfl⟩:=Option.map_eq_some_iff.mp he2;unfold zbX zxh;rw_mod_cast [zdX,zjN,dSt];have hww:=(hw r hm).2 w (List.mem_of_getElem? hwj);have bw:(wys r j).length<=6:=zp5 (hw r hm).1 (hw r hm).2;have bb:=zpo (r:=r) (k:=j) hww;have bo:(zby w).length<=3:=by
    have:(blk r j w).length=(zby w).length:=by unfold blk;rw[List.length_map,List.length_zipIdx]
    omega
   have hz1:(1001:Nat)<=sizeLine:=by decide
   rw[zpg hww];refine⟨⟨by decide,by decide,by rw[List.length_map];omega⟩,?_⟩;rw[ztE];refine zaj (fun h ρ μ'=>∃x5 x6:Option D,ρ=[some d,some (.cell c),some (.tup [.str r.nm, .tup (r.ways.map zbX), .int r.e, .int r.lo, .int r.re, .int r.lst]),some (.int j),some (.tup (w.map D.str)),x5,x6]/\μ'=zF μ c (.lst ((zae (l.take i)++wys r j++(blk r j w).take h).map spD))) ⟨x5,x6,rfl,by simp⟩ ?_ ?_
   .rintro h e ρ μ' he3 ⟨x5,x6,rfl,rfl⟩ N4 hN4;obtain⟨e3,he4,rfl⟩:=zb4 he3;rw[List.getElem?_map] at he4;obtain⟨x,hx,rfl⟩:=Option.map_eq_some_iff.mp he4;have b4:(List.take h (blk r j w)).length<=3:=by rw[List.length_take];omega
    rw_mod_cast [zaa];refine⟨by omega,by simp only[List.length_map,List.length_append];omega,hN4 _ _ ⟨_,_,rfl,?_⟩⟩;rw[ztH hx,<- List.append_assoc,List.map_append (l₂:=[_])];rfl
   .rintro ρ μ' ⟨x5,x6,rfl,rfl⟩;refine hN3 _ _ ⟨_,_,_,_,rfl,?_⟩;have eb:(zgS ((zby w).map D.str)).length=(blk r j w).length:=by
     rw[zaQ,List.length_map];unfold blk;rw[List.length_map,List.length_zipIdx]
    rw[eb,List.take_of_length_le (Nat.le_refl _),zt4 hwj,List.append_assoc]
  .rintro ρ μ' ⟨x3,x4,x5,x6,rfl,rfl⟩;rw[zaQ,List.length_map,zpS];refine hN _ _ ⟨_,_,_,_,_,rfl,?_⟩;rw[zpi hr]
 .rintro ρ μ' ⟨x2,x3,x4,x5,x6,rfl,rfl⟩;rw[List.length_map,List.take_of_length_le (Nat.le_refl _)];refine k2 _ _ ?_;rw_mod_cast [ze3 hc];exact⟨_, .refl _,q l S⟩
set_option synthInstance.maxHeartbeats 4000000
set_option synthInstance.maxSize 100000
set_option maxHeartbeats 4000000
theorem ztA{μ:Mu}{la:Nat}{ls:List LR}{r:LR}{Q:DK}(hl:μ la=some (.lst (ls.map zaW)))(nd:(ls.map LR.nm).Nodup)(hr:r∈ls)(q:Q (.int r.w) μ):zbc [.cell la, .str r.nm] μ Q:=by
 refine⟨rfl,stp fun N1 k1=>?_⟩;rw_mod_cast [hl];refine zaj (fun i ρ μ'=>∃x:Option D,ρ=[some (.cell la),some (.str r.nm),x]/\μ'=μ/\∀j,j < i->∀y,ls[j]? = some y->y.nm≠r.nm) ⟨none,rfl,rfl,fun j hj=>absurd hj (Nat.not_lt_zero _)⟩ ?_ ?_ ?_
 .rintro i d ρ μ' hd ⟨x,rfl,rfl,hb⟩ N hN;rw[List.getElem?_map] at hd;obtain⟨y,hy,rfl⟩:=Option.map_eq_some_iff.mp hd;unfold zaW;rw_mod_cast [];by_cases e:y.nm=r.nm
  .rw[if_pos (decide_eq_true e)];have:y=r:=by
    obtain⟨i2,hi2,rfl⟩:=List.getElem_of_mem hr;obtain⟨hi,rfl⟩:=List.getElem?_eq_some_iff.mp hy;by_cases z:i=i2
    .subst z;rfl
    .exfalso;have hk:(ls.map LR.nm)[i]'(by simpa using hi)=(ls.map LR.nm)[i2]'(by simpa using hi2):=by rw[List.getElem_map,List.getElem_map];exact e
     rcases Nat.lt_or_gt_of_ne z with z | z
     .exact(List.pairwise_iff_getElem.mp nd) i i2 _ _ z hk
     .exact(List.pairwise_iff_getElem.mp nd) i2 i _ _ z hk.symm
   rw[this];exact⟨_, .refl _,q⟩
  .rw[if_neg (by simpa using e)];refine hN _ _ ⟨_,rfl,rfl,fun j hj u hu=>?_⟩;by_cases z:j=i
   .subst z;rw[hy] at hu;cases hu;exact e
   .exact hb j (by omega) u hu
 .rintro ρ μ' ⟨x,rfl,rfl,hb⟩;obtain⟨j,hj⟩:=List.getElem?_of_mem hr;exact absurd rfl (hb j (by rw[List.length_map];exact(List.getElem?_eq_some_iff.mp hj).1) r hj)
 .rintro i ρ μ' ⟨x,rfl,rfl,hb⟩;exact hl
set_option synthInstance.maxHeartbeats 4000000
set_option synthInstance.maxSize 100000
set_option maxHeartbeats 4000000
abbrev TW:=RW×Nat×List Str
def twB(t:TW):List SP:=blk t.1 t.2.1 t.2.2
def twR(r:RW):List TW:=r.ways.zipIdx.map fun p=>(r,p.2,p.1)
def tws(l:List RW):List TW:=(l.map twR).flatten
theorem zfa(l:List RW):zae l=((tws l).map twB).flatten:=by
 unfold zae tws;induction l with
 | nil=>rfl
 | cons r l ih =>
  rw[List.map_cons,List.flatten_cons,List.map_cons,List.flatten_cons,List.map_append,List.flatten_append,<- ih];congr 1
  unfold spR twR;rw[List.map_map];rfl
abbrev BW:=TW×List Int
theorem zzK:∀(ts:List TW) (vs:List Int),vs.length=((ts.map twB).flatten).length->∃B:List BW,B.map Prod.fst=ts/\(∀b∈B,b.2.length=(twB b.1).length)/\((ts.map twB).flatten).zip vs=(B.map fun b=>(twB b.1).zip b.2).flatten
 | [],vs,_=>⟨[],rfl,(fun b hb=>by cases hb),by simp⟩
 | t::ts,vs,h=>by
  rw[List.map_cons,List.flatten_cons,List.length_append] at h;obtain⟨B,e1,e2,e3⟩:=zzK ts (vs.drop (twB t).length) (by rw[List.length_drop];omega);have el:(vs.take (twB t).length).length=(twB t).length:=by rw[List.length_take];omega
  refine⟨(t,vs.take (twB t).length)::B,by rw[List.map_cons,e1],fun b hb=>?_,?_⟩
  .rcases List.mem_cons.mp hb with rfl | hb
   .exact el
   .exact e2 b hb
  .rw[List.map_cons,List.flatten_cons,List.map_cons,List.flatten_cons,<- e3];conv=>lhs;rw[<- List.take_append_drop (twB t).length vs]
   exact List.zip_append el.symm
def grp(ts:List TR)(p:SP×Int):List TR:=if p.1.2.2.1=0 then ts++[(p.1.1.nm,(p.1.2.1:Int),[p.2])] else match ts.getLast? with
 | some t=>ts.dropLast++[(t.1,t.2.1,t.2.2++[p.2])]
 | none=>ts
theorem znA{r:RW}{k:Nat}{ts:List TR}:∀(o:List Str) (j:Nat) (us vs:List Int),1<=j->vs.length=o.length->(((o.zipIdx j).map fun p=>((r,k,p.2,p.1):SP)).zip vs).foldl grp (ts++[(r.nm,(k:Int),us)])=ts++[(r.nm,(k:Int),us++vs)]
 | [],j,us,vs,_,h=>by
  have:vs=[]:=List.length_eq_zero_iff.mp h;subst this;simp
 | x::o,j,us,[],_,h=>by simp at h
 | x::o,j,us,v::vs,hj,h=>by
  rw[List.zipIdx_cons,List.map_cons,List.zip_cons_cons,List.foldl_cons];have e:grp (ts++[(r.nm,(k:Int),us)]) (((r,k,j,x):SP),v)=ts++[(r.nm,(k:Int),us++[v])]:=by
   unfold grp;rw[if_neg (show ¬ j=0 by omega)];simp
  rw[e,znA o (j+1) (us++[v]) vs (by omega) (by simpa using h)];simp
theorem zvb{t:TW}{vs:List Int}{ts:List TR}(h:vs.length=(twB t).length)(h1:1<=(zby t.2.2).length):((twB t).zip vs).foldl grp ts=ts++[(t.1.nm,(t.2.1:Int),vs)]:=by
 unfold twB blk at *;cases ho:zby t.2.2 with
 | nil=>rw[ho] at h1;simp at h1
 | cons x o =>
  rw[ho] at h;cases vs with
  | nil=>simp at h
  | cons v vs =>
   rw[List.zipIdx_cons,List.map_cons,List.zip_cons_cons,List.foldl_cons];have e:grp ts (((t.1,t.2.1,0,x):SP),v)=ts++[(t.1.nm,(t.2.1:Int),[v])]:=by unfold grp;rw[if_pos rfl]
   rw[e,znA o 1 [v] vs (Nat.le_refl _) (by simpa using h)];rfl
theorem zqb:∀{B:List BW} {ts:List TR},(∀b∈B,b.2.length=(twB b.1).length/\1<=(zby b.1.2.2).length)->((B.map fun b=>(twB b.1).zip b.2).flatten).foldl grp ts=ts++B.map fun b=>(b.1.1.nm,(b.1.2.1:Int),b.2)
 | [],ts,_=>by simp
 | b::B,ts,h=>by
  rw[List.map_cons,List.flatten_cons,List.foldl_append,zvb (h b (.head _)).1 (h b (.head _)).2,zqb fun b hb=>h b (.tail _ hb)];simp
def zfn{β:Type}(l:SL β)(j:Str)(b:β):SL β:=if (zU l j).isSome=true then l.map (fun p=>if p.1=j then(j,b) else p) else l++[(j,b)]
section
variable{β:Type}
theorem zuv{l:SL β}{j:Str}{b:β}:zeB (ksS l) (.inr j)=ksS (zfn l j b):=by
 unfold zeB zfn;by_cases h:(zU l j).isSome=true
 .rw[if_pos (zbx.mpr (zb3.mp h)),if_pos h];unfold ksS;rw[List.map_map];apply List.map_congr_left;intro p _;show(Sum.inr p.1:Key)=Sum.inr (if p.1=j then(j,b) else p).1;by_cases e:p.1=j
  .rw[if_pos e,e]
  .rw[if_neg e]
 .rw[if_neg (fun z=>h (zb3.mpr (zbx.mp z))),if_neg h];unfold ksS;rw[List.map_append];rfl
theorem zvR{f:β->D}{l:SL β}{j:Str}{b:β}:zfI (ksS l) (vsS f l) (.inr j) (f b)=vsS f (zfn l j b):=by
 unfold zfI zfn;by_cases h:(zU l j).isSome=true
 .rw[if_pos (zbx.mpr (zb3.mp h)),if_pos h];clear h;induction l with
  | nil=>rfl
  | cons p r ih =>
   show(if (Sum.inr p.1:Key)= .inr j then f b else f p.2)::List.zipWith _ (ksS r) (vsS f r)=_;rw[ih];show _=f (if p.1=j then(j,b) else p).2::_;by_cases e:p.1=j
   .rw[if_pos (by rw[e]),if_pos e];rfl
   .rw[if_neg (fun z=>e (Sum.inr.inj z)),if_neg e];rfl
 .rw[if_neg (fun z=>h (zb3.mpr (zbx.mp z))),if_neg h];unfold vsS;rw[List.map_append];rfl
theorem zqh{l:SL β}{i j:Str}{b:β}:zU (l.map (fun p=>if p.1=j then(j,b) else p)) i=if i=j then(zU l j).map (fun _=>b) else zU l i:=by
 induction l with
 | nil=>simp[zU]
 | cons p r ih =>
  rw[List.map_cons,zU,zU,zU,ih];by_cases e:p.1=j
  .simp only[e,if_true];by_cases h:i=j
   .subst h;simp
   .have h':¬ j=i:=fun z=>h z.symm
    simp[h,h']
  .simp only[if_neg e];by_cases h:i=j
   .subst h;simp[e]
   .simp[h]
theorem zmG{l m:SL β}{j:Str}:zU (l++m) j=(zU l j).or (zU m j):=by
 induction l with
 | nil=>simp[zU]
 | cons p r ih =>
  rw[List.cons_append,zU,zU];by_cases h:p.1=j
  .rw[if_pos h,if_pos h];rfl
  .rw[if_neg h,if_neg h,ih]
theorem ze4{l:SL β}{i j:Str}{b:β}:zU (zfn l j b) i=if i=j then some b else zU l i:=by
 unfold zfn;by_cases h:(zU l j).isSome=true
 .rw[if_pos h,zqh];obtain⟨v,hv⟩:=Option.isSome_iff_exists.mp h;rw[hv];rfl
 .rw[if_neg h,zmG];have hn:zU l j=none:=by simpa using h
  by_cases e:i=j
  .subst e;rw[hn];simp[zU]
  .have e':¬ j=i:=fun z=>e z.symm
   simp[zU,e,e']
end
abbrev DU:=SL (Int×Int)
def zvS(wf:Str->Int)(sl:Int)(r:RW)(x:Str)(v:Int):Int:=v - r.re+r.lo+wf x+sl
def zm4(dl:DU)(nm:Str)(k s:Int):DU:=match zU dl nm with
 | none=>zfn dl nm (s,k)
 | some m=>if s < m.1 then zfn dl nm (s,k) else dl
def ziu(p:SP):Bool:=decide ((p.2.2.1:Int)+1=(((p.1.ways.getD p.2.1 []).length:Nat):Int) / 2)
def due(wf:Str->Int)(sl:Int)(dl:DU)(p:SP×Int):DU:=if ziu p.1=true then zm4 dl p.1.1.nm (p.1.2.1:Int) (zvS wf sl p.1.1 p.1.2.2.2 p.2) else dl
theorem zmW{wf:Str->Int}{sl:Int}{r:RW}{k n:Nat}(hn:(r.ways.getD k []).length=2*n+1){y:Str}{u:Int}:∀(o:List Str) (j:Nat) (vs:List Int) (dl:DU),1<=o.length->vs.length=o.length->j+o.length=n ->
  (((o.zipIdx j).map fun p=>((r,k,p.2,p.1):SP)).zip vs).foldl (due wf sl) dl=zm4 dl r.nm (k:Int) (zvS wf sl r (o.getLastD y) (vs.getLastD u))
 | [],_,_,_,h,_,_=>by simp at h
 | x::o,j,[],_,_,h,_=>by simp at h
 | x::o,j,v::vs,dl,_,h,hj=>by
  rw[List.zipIdx_cons,List.map_cons,List.zip_cons_cons,List.foldl_cons];rw[List.length_cons] at hj;cases o with
  | nil =>
   have:vs=[]:=List.length_eq_zero_iff.mp (by simpa using h);subst this;have e:ziu (r,k,j,x)=true:=decide_eq_true (by
    show(j:Int)+1=(((r.ways.getD k []).length:Nat):Int) / 2;rw[hn];simp at hj;omega)
   unfold due;rw[if_pos e];rfl
  | cons x2 o =>
   have e:ziu (r,k,j,x)=false:=decide_eq_false (by
    show ¬ (j:Int)+1=(((r.ways.getD k []).length:Nat):Int) / 2;rw[hn];simp at hj;omega)
   have e2:due wf sl dl (((r,k,j,x):SP),v)=dl:=by
    unfold due;rw[if_neg (by rw[e];decide)]
   rw[e2];cases vs with
   | nil=>simp at h
   | cons v2 vs =>
    rw[zmW (y:=y) (u:=u) hn (x2::o) (j+1) (v2::vs) dl (by simp) (by simpa using h) (by simp at hj ⊢; omega)];rfl
def zhL(t:TW):Str:=(zby t.2.2).getLastD ""
def zu3(b:BW):Int:=b.2.getLastD 0
def zeQ(wf:Str->Int)(sl:Int)(b:BW):Int:=zvS wf sl b.1.1 (zhL b.1) (zu3 b)
structure BOk(b:BW):Prop where
 l:b.2.length=(twB b.1).length
 w:b.1.1.ways[b.1.2.1]? = some b.1.2.2
 n:∃n,b.1.2.2.length=2*n+1/\1<=n/\n<=3
theorem BOk.o{b:BW}(h:BOk b):1<=(zby b.1.2.2).length/\(zby b.1.2.2).length<=3:=by
 obtain⟨n,h1,h2,h3⟩:=h.n;rw[zc5 n _ h1];exact⟨h2,h3⟩
theorem BOk.v{b:BW}(h:BOk b):b.2.length=(zby b.1.2.2).length:=by
 have:=h.l;unfold twB blk at this;rw[List.length_map,List.length_zipIdx] at this;exact this
theorem zvJ{wf:Str->Int}{sl:Int}{b:BW}{dl:DU}(h:BOk b):((twB b.1).zip b.2).foldl (due wf sl) dl=zm4 dl b.1.1.nm (b.1.2.1:Int) (zeQ wf sl b):=by
 obtain⟨n,h1,h2,h3⟩:=h.n;have hn:(b.1.1.ways.getD b.1.2.1 []).length=2*n+1:=by
  rw[List.getD_eq_getElem?_getD,h.w];exact h1
 unfold twB blk zeQ zhL zu3;have:=zc5 n _ h1;exact zmW (wf:=wf) (sl:=sl) hn _ 0 _ _ h.o.1 h.v (by omega)
def zlq(wf:Str->Int)(sl:Int)(B:List BW)(dl:DU):Prop:=∀nm,match zU dl nm with
 | none=>∀b∈B,b.1.1.nm≠nm
 | some m=>∃b∈B,b.1.1.nm=nm/\m=(zeQ wf sl b,(b.1.2.1:Int))/\∀c∈B,c.1.1.nm=nm->HT.lexLt [zeQ wf sl c,(c.1.2.1:Int)] [m.1,m.2]=false
theorem zz4{a b c d:Int}:HT.lexLt [a,b] [c,d]=if a=c then decide (b < d) else decide (a < c):=by
 rw[HT.zdQ,HT.zdQ];by_cases e:a=c
 .rw[if_pos e,if_pos e];by_cases e2:b=d
  .rw[if_pos e2];subst e2;simp[HT.lexLt]
  .rw[if_neg e2]
 .rw[if_neg e,if_neg e]
theorem zbz{a b c d:Int}:HT.lexLt [a,b] [c,d]=false↔c < a\/(a=c/\d<=b):=by
 rw[zz4];by_cases e:a=c
 .rw[if_pos e,decide_eq_false_iff_not];omega
 .rw[if_neg e,decide_eq_false_iff_not];omega
theorem zsI{wf:Str->Int}{sl:Int}{B:List BW}{dl:DU}{b:BW}(h:zlq wf sl B dl)(hk:∀c∈B,c.1.1.nm=b.1.1.nm->c.1.2.1 < b.1.2.1):zlq wf sl (B++[b]) (zm4 dl b.1.1.nm (b.1.2.1:Int) (zeQ wf sl b)):=by
 intro nm;have hn:=h nm;have inB:∀{c},c∈B++[b]->c∈B\/c=b:=fun hc=>by simpa using hc
 unfold zm4;by_cases e:nm=b.1.1.nm
 .subst e;cases hs:zU dl b.1.1.nm with
  | none =>
   rw[hs] at hn;dsimp only at hn ⊢;rw[ze4,if_pos rfl];refine⟨b,by simp,rfl,rfl,fun c hc ec=>?_⟩;rcases inB hc with hc | rfl
   .exact absurd ec (hn c hc)
   .exact zbz.mpr (.inr ⟨rfl,Int.le_refl _⟩)
  | some m =>
   rw[hs] at hn;dsimp only at hn ⊢;obtain⟨b0,h1,h2,h3,h4⟩:=hn;by_cases z:zeQ wf sl b < m.1
   .rw[if_pos z,ze4,if_pos rfl];refine⟨b,by simp,rfl,rfl,fun c hc ec=>?_⟩;rcases inB hc with hc | rfl
    .have:=zbz.mp (h4 c hc ec);exact zbz.mpr (.inl (by dsimp only;omega))
    .exact zbz.mpr (.inr ⟨rfl,Int.le_refl _⟩)
   .rw[if_neg z,hs];refine⟨b0,by simp[h1],h2,h3,fun c hc ec=>?_⟩;rcases inB hc with hc | rfl
    .exact h4 c hc ec
    .have:=hk b0 h1 h2;rw[h3] at z ⊢;exact zbz.mpr (by dsimp only at z ⊢; omega)
 .have hl:zU (match zU dl b.1.1.nm with
   | none=>zfn dl b.1.1.nm (zeQ wf sl b,(b.1.2.1:Int))
   | some m=>if zeQ wf sl b < m.1 then zfn dl b.1.1.nm (zeQ wf sl b,(b.1.2.1:Int)) else dl) nm=zU dl nm:=by
   cases zU dl b.1.1.nm with
   | none=>dsimp only;rw[ze4,if_neg e]
   | some m =>
    dsimp only;by_cases z:zeQ wf sl b < m.1
    .rw[if_pos z,ze4,if_neg e]
    .rw[if_neg z]
  rw[hl];cases hs:zU dl nm with
  | none =>
   rw[hs] at hn;dsimp only at hn ⊢;intro c hc;rcases inB hc with hc | rfl
   .exact hn c hc
   .exact fun z=>e z.symm
  | some m =>
   rw[hs] at hn;dsimp only at hn ⊢;obtain⟨b0,h1,h2,h3,h4⟩:=hn;refine⟨b0,by simp[h1],h2,h3,fun c hc ec=>?_⟩;rcases inB hc with hc | rfl
   .exact h4 c hc ec
   .exact absurd ec.symm e
theorem zqd{wf:Str->Int}{sl:Int}:∀{B P:List BW} {dl:DU},(∀b∈B,BOk b)->(P++B).Pairwise (fun a b=>a.1.1.nm=b.1.1.nm->a.1.2.1 < b.1.2.1)->zlq wf sl P dl->zlq wf sl (P++B) (((B.map fun b=>(twB b.1).zip b.2).flatten).foldl (due wf sl) dl)
 | [],P,dl,_,_,h=>by simpa using h
 | b::B,P,dl,hb,pw,h=>by
  rw[List.map_cons,List.flatten_cons,List.foldl_append,zvJ (hb b (.head _))];have pw':((P++[b])++B).Pairwise (fun a b=>a.1.1.nm=b.1.1.nm->a.1.2.1 < b.1.2.1):=by simpa using pw
  have:=zqd (P:=P++[b]) (fun c hc=>hb c (.tail _ hc)) pw' (zsI h fun c hc e=>(List.pairwise_append.mp (List.pairwise_append.mp pw').1).2.2 c hc b (by simp) e);simpa using this
theorem ziQ{r:RW}{t:TW}:t∈twR r↔t.1=r/\r.ways[t.2.1]? = some t.2.2:=by
 unfold twR;rw[List.mem_map];constructor
 .rintro⟨p,hp,rfl⟩;exact⟨rfl,(List.mem_zipIdx_iff_getElem?.mp hp)⟩
 .rintro⟨rfl,h⟩;exact⟨(t.2.2,t.2.1),List.mem_zipIdx_iff_getElem?.mpr h,rfl⟩
theorem zg1{l:List RW}{t:TW}:t∈tws l↔t.1∈l/\t.1.ways[t.2.1]? = some t.2.2:=by
 unfold tws;rw[List.mem_flatten];constructor
 .rintro⟨x,hx,ht⟩;obtain⟨r,hr,rfl⟩:=List.mem_map.mp hx;obtain⟨rfl,h⟩:=ziQ.mp ht;exact⟨hr,h⟩
 .rintro⟨hr,h⟩;exact⟨_,List.mem_map_of_mem hr,ziQ.mpr ⟨rfl,h⟩⟩
theorem ztX{l:List RW}(nd:(l.map RW.nm).Nodup):(tws l).Pairwise fun a b=>a.1.nm=b.1.nm->a.2.1 < b.2.1:=by
 unfold tws;rw[List.pairwise_flatten];refine⟨fun x hx=>?_,?_⟩
 .obtain⟨r,hr,rfl⟩:=List.mem_map.mp hx;unfold twR;rw[List.pairwise_map,List.pairwise_iff_getElem];intro i j hi hj hij _;simpa using hij
 .rw[List.pairwise_map];have:l.Pairwise fun a b=>a.nm≠b.nm:=List.pairwise_map.mp nd
  refine this.imp fun hne x hx y hy e=>?_
  obtain⟨rfl,_⟩:=ziQ.mp hx;obtain⟨rfl,_⟩:=ziQ.mp hy;exact absurd e hne
theorem zhJ{α:Type}{P:Nat->α->Prop}:∀(n:Nat),(∀i,i < n->∃v,P i v)->∃vs:List α,vs.length=n/\∀(i:Nat) v,vs[i]? = some v->P i v
 | 0,_=>⟨[],rfl,fun i v h=>by simp at h⟩
 | n+1,h=>by
  obtain⟨vs,e,p⟩:=zhJ n fun i hi=>h i (by omega)
  obtain⟨v,pv⟩:=h n (by omega);refine⟨vs++[v],by simp[e],fun i u hu=>?_⟩;rw[List.getElem?_append] at hu;split at hu
  .exact p i u hu
  .have hi:=(List.getElem?_eq_some_iff.mp hu).1;have:i=n:=by simp at hi;omega
   subst this;simp[e] at hu;subst hu;exact pv
theorem znZ{vs:List Int}{m:List Int}:m∈zhd vs↔∃(i:Nat) (v:Int),vs[i]? = some v/\m=[v,(i:Int)]:=by
 unfold zhd;rw[List.mem_map];constructor
 .rintro⟨p,hp,rfl⟩;exact⟨p.2,p.1,List.mem_zipIdx_iff_getElem?.mp hp,rfl⟩
 .rintro⟨i,v,h,rfl⟩;exact⟨(v,i),List.mem_zipIdx_iff_getElem?.mpr h,rfl⟩
theorem zuq{wf:Str->Int}{sl:Int}{l:List RW}{B:List BW}{dl:DU}{r:RW}(nd:(l.map RW.nm).Nodup)(hB:B.map Prod.fst=tws l)(hr:r∈l)(h1:r.ways≠[])(D0:zlq wf sl B dl) :
  ∃(vs:List Int) (s0 k0:Int),zU dl r.nm=some (s0,k0)/\vs.length=r.ways.length/\(∀(i:Nat) w,r.ways[i]? = some w->∃b∈B,b.1=(r,i,w)/\vs[i]? = some (zeQ wf sl b)) /\
   ∀c:Int,∀m∈zhd (vs.map (·+ c)),(∀n∈zhd (vs.map (·+ c)),HT.lexLt n m=false)->m=[s0+c,k0]:=by
 have inB:∀(i:Nat) w,r.ways[i]? = some w->∃b∈B,b.1=(r,i,w):=fun i w hw=>by
  have:(r,i,w)∈B.map Prod.fst:=by rw[hB];exact zg1.mpr ⟨hr,hw⟩
  obtain⟨b,hb,e⟩:=List.mem_map.mp this;exact⟨b,hb,e⟩
 have pw:=ztX nd;rw[<- hB,List.pairwise_map] at pw;have uq:∀b∈B,∀c∈B,b.1=c.1->b=c:=fun b hb c hc e=>by
  obtain⟨i,hi,rfl⟩:=List.getElem_of_mem hb;obtain⟨j,hj,rfl⟩:=List.getElem_of_mem hc;by_cases z:i=j
  .subst z;rfl
  .exfalso;rcases Nat.lt_or_gt_of_ne z with z | z
   .have:=List.pairwise_iff_getElem.mp pw i j hi hj z (by rw[e]);rw[e] at this;omega
   .have:=List.pairwise_iff_getElem.mp pw j i hj hi z (by rw[e]);rw[e] at this;omega
 obtain⟨vs,hl,hv⟩:=zhJ (P:=fun i v=>∃w,r.ways[i]? = some w/\∃b∈B,b.1=(r,i,w)/\v=zeQ wf sl b) r.ways.length fun i hi=>by
  obtain⟨b,hb,e⟩:=inB i _ (List.getElem?_eq_getElem hi);exact⟨_,_,List.getElem?_eq_getElem hi,b,hb,e,rfl⟩
 have hvs:∀(i:Nat) w,r.ways[i]? = some w->∃b∈B,b.1=(r,i,w)/\vs[i]? = some (zeQ wf sl b):=fun i w hw=>by
  have hi:i < vs.length:=by rw[hl];exact(List.getElem?_eq_some_iff.mp hw).1
  obtain⟨w',hw',b,hb,e,ev⟩:=hv i vs[i] (List.getElem?_eq_getElem hi);rw[hw] at hw';cases hw';exact⟨b,hb,e,by rw[List.getElem?_eq_getElem hi,ev]⟩
 have hd:=D0 r.nm;cases hs:zU dl r.nm with
 | none =>
  rw[hs] at hd;dsimp only at hd;have h0:0 < r.ways.length:=List.length_pos_iff.mpr h1;obtain⟨b,hb,e⟩:=inB 0 _ (List.getElem?_eq_getElem h0);exact absurd (by rw[e]) (hd b hb)
 | some m0 =>
  obtain⟨s0,k0⟩:=m0;rw[hs] at hd;dsimp only at hd;obtain⟨b0,hb0,e0,em,hmin⟩:=hd;obtain⟨rfl,rfl⟩:=Prod.mk.inj em;refine⟨vs,_,_,rfl,hl,hvs,fun c m hm mn=>?_⟩;have t0:b0.1∈tws l:=by rw[<- hB];exact List.mem_map_of_mem hb0
  obtain⟨r0,w0⟩:=zg1.mp t0;have er:b0.1.1=r:=zsS nd r0 hr e0;rw[er] at w0;obtain⟨b1,hb1,e1,v1⟩:=hvs _ _ w0;have:b1=b0:=uq _ hb1 _ hb0 (by rw[e1,<- er]);subst this;obtain⟨i,v,hi,rfl⟩:=znZ.mp hm;rw[List.getElem?_map] at hi;obtain⟨u,hu,rfl⟩:=Option.map_eq_some_iff.mp hi;have hi2:i < r.ways.length:=by rw[<- hl];exact(List.getElem?_eq_some_iff.mp hu).1
  obtain⟨b2,hb2,e2,v2⟩:=hvs _ _ (List.getElem?_eq_getElem hi2);rw[hu] at v2;cases v2;have a1:=mn [zeQ wf sl b1+c,(b1.1.2.1:Int)] (znZ.mpr ⟨b1.1.2.1,_,by rw[List.getElem?_map,v1];rfl,rfl⟩);have a2:=hmin b2 hb2 (by rw[e2]);rw[e2] at a2;have a1:=zbz.mp a1;have a2:=zbz.mp a2;dsimp only at a1 a2;have q1:zeQ wf sl b2+c=zeQ wf sl b1+c:=by omega
  have q2:(i:Int)=(b1.1.2.1:Int):=by omega
  rw[q1,q2]
set_option synthInstance.maxHeartbeats 4000000
set_option synthInstance.maxSize 100000
set_option maxHeartbeats 4000000
def zaZ(ls:List LR)(x:Str):Int:=((ls.find? fun r=>decide (r.nm=x)).map LR.w).getD 0
theorem zyk{ls:List LR}(nd:(ls.map LR.nm).Nodup){a b:LR}(ha:a∈ls)(hb:b∈ls)(e:a.nm=b.nm):a=b:=by
 obtain⟨i,hi,rfl⟩:=List.getElem_of_mem ha;obtain⟨j,hj,rfl⟩:=List.getElem_of_mem hb;by_cases h:i=j
 .subst h;rfl
 .exfalso;have hk:(ls.map LR.nm)[i]'(by simpa using hi)=(ls.map LR.nm)[j]'(by simpa using hj):=by rw[List.getElem_map,List.getElem_map];exact e
  rcases Nat.lt_or_gt_of_ne h with z | z
  .exact(List.pairwise_iff_getElem.mp nd) i j _ _ z hk
  .exact(List.pairwise_iff_getElem.mp nd) j i _ _ z hk.symm
theorem znq{ls:List LR}{r:LR}(nd:(ls.map LR.nm).Nodup)(hr:r∈ls):zaZ ls r.nm=r.w:=by
 unfold zaZ;cases e:ls.find? fun y=>decide (y.nm=r.nm) with
 | none =>
  have:=List.find?_eq_none.mp e r hr;simp at this
 | some y =>
  have h1:=List.find?_some e;rw[zyk nd (List.mem_of_find?_eq_some e) hr (of_decide_eq_true h1)];rfl
theorem zpp{μ:Mu}{la:Nat}{ls:List LR}{x:Str}{Q:DK}(hl:μ la=some (.lst (ls.map zaW)))(nd:(ls.map LR.nm).Nodup)(hx:x∈ls.map LR.nm)(q:Q (.int (zaZ ls x)) μ):zbc [.cell la, .str x] μ Q:=by
 obtain⟨r,hr,rfl⟩:=List.mem_map.mp hx;rw[znq nd hr] at q;exact ztA hl nd hr q
theorem zjk:∀(i:Nat) (w:List Str),(zby w)[i]? = w[2*i+1]?
 | _,[]=>by simp[zby]
 | _,[_]=>by simp[zby]
 | 0,_::x::r=>rfl
 | i+1,_::x::r=>by
  show(zby r)[i]? = _;rw[zjk i r,show 2*(i+1)+1=(2*i+1)+1+1 from by omega,List.getElem?_cons_succ,List.getElem?_cons_succ]
theorem zqr{w:List Str}(h:∃n,w.length=2*n+1/\1<=n/\n<=3):atI (w.map D.str) (-2)=some (.str ((zby w).getLastD "")):=by
 obtain⟨n,h1,h2,h3⟩:=h;have e1:=zc5 n w h1;have e2:(zby w)[n - 1]? = w[2*(n - 1)+1]? := zjk _ _;have hlt:2*(n - 1)+1 < w.length:=by omega
 have hol:n - 1 < (zby w).length:=by omega
 have e3:(zby w).getLastD ""=w[2*(n - 1)+1]:=by
  rw[List.getLastD_eq_getLast?,List.getLast?_eq_getElem?,e1,e2,List.getElem?_eq_getElem hlt];rfl
 rw[e3];rw[zdh];unfold atI;rw[h1,show ixN (2*n+1) (-2)=some (2*(n - 1)+1) from by unfold ixN;rw[if_neg (by decide),if_pos (by omega)];congr 1;omega];show(w[2*(n - 1)+1]?).map D.str=_;rw[List.getElem?_eq_getElem hlt];rfl
theorem zgG{r:RW}{μ:Mu}{Q:DK}:dIx (zcu r) (.int 0) μ Q=Q (.str r.nm) μ:=by unfold zcu;rw[zhU];rfl
theorem zuy{r:RW}{μ:Mu}{Q:DK}:dIx (zcu r) (.int 1) μ Q=Q (.tup (r.ways.map zbX)) μ:=by unfold zcu;rw[zhU];rfl
theorem zv0{r:RW}{μ:Mu}{Q:DK}:dIx (zcu r) (.int 3) μ Q=Q (.int r.lo) μ:=by unfold zcu;rw[zhU];rfl
theorem zvq{r:RW}{μ:Mu}{Q:DK}:dIx (zcu r) (.int 4) μ Q=Q (.int r.re) μ:=by unfold zcu;rw[zhU];rfl
structure GI(i:Nat)(ts:List TR):Prop where
 l:ts.length<=i
 s:∀t∈ts,t.2.2≠[]/\t.2.2.length<=i
 n:1<=i->ts≠[]
theorem GI.step{i:Nat}{ts:List TR}{p:SP×Int}(h:GI i ts)(hp:p.1.2.2.1=0\/1<=i):GI (i+1) (grp ts p):=by
 unfold grp;by_cases e:p.1.2.2.1=0
 .rw[if_pos e];refine⟨by have:=h.l;simp;omega,fun t ht=>?_,fun _=>by simp⟩;rcases List.mem_append.mp ht with ht | ht
  .exact⟨(h.s t ht).1,by have:=(h.s t ht).2;omega⟩
  .rw[List.mem_singleton.mp ht];exact⟨by simp,by simp⟩
 .rw[if_neg e];have hi:=hp.resolve_left e;have hn:=h.n hi;rw[List.getLast?_eq_some_getLast hn];refine⟨?_,fun t ht=>?_,fun _=>by simp⟩
  .have:=h.l;have:=List.length_pos_iff.mpr hn;simp;omega
  .rcases List.mem_append.mp ht with ht | ht
   .have hm:=(List.dropLast_sublist ts).subset ht;exact⟨(h.s t hm).1,by have:=(h.s t hm).2;omega⟩
   .rw[List.mem_singleton.mp ht];have:=(h.s _ (List.getLast_mem hn)).2;exact⟨by simp,by simp;omega⟩
theorem zli{l:List RW}{p:SP}(hw:∀t∈tws l,1<=(zby t.2.2).length)(h:(zae l)[0]? = some p):p.2.2.1=0:=by
 rw[zfa] at h;cases hT:tws l with
 | nil=>rw[hT] at h;simp at h
 | cons t ts =>
  rw[hT,List.map_cons,List.flatten_cons] at h;have h1:=hw t (by rw[hT];exact .head _);unfold twB blk at h;cases ho:zby t.2.2 with
  | nil=>rw[ho] at h1;simp at h1
  | cons x o =>
   rw[ho] at h;simp at h;rw[<- h]
theorem zq5{rows:List RW}{μ:Mu}{Q:DK}{cs:Nat}{vs:List Int}(nd:(rows.map RW.nm).Nodup)(hz:rows.length<=60)(hw:∀r∈rows,r.ways.length<=2/\∀w∈r.ways,∃n,w.length=2*n+1/\1<=n/\n<=3)(hc:μ cs=some (.lst (vs.map D.int)))(hvl:∀l,znD rows l->vs.length=(zae l).length)
  (q:∀l,znD rows l->Q (.lst ((((zae l).zip vs).foldl grp []).map trD)) μ):zbw [.lst (rows.map zcu), .cell cs] μ Q:=by
 have hz1:(1001:Nat)<=sizeLine:=by decide
 refine⟨rfl,stp fun N1 k1=>?_⟩;rw_mod_cast [];refine⟨by decide,fun c hcn=>k1 _ _ ?_⟩;refine stp fun N2 k2=>?_
 rw_mod_cast [];have ccs:cs≠c:=fun z=>by rw[z,hcn] at hc;cases hc
 refine zny rfl (fun _ _ _=>rfl) nd hz hw fun l S=>?_
 have ll:l.length=rows.length:=S.p.length_eq;have sl6:(zae l).length<=360:=by
  have:=zhF (l:=l) fun r hr=>hw r (S.p.mem_iff.mp hr)
  omega
 have vl:=hvl l S;have h1:∀t∈tws l,1<=(zby t.2.2).length:=fun t ht=>by
  obtain⟨a,b⟩:=zg1.mp ht;obtain⟨n,e1,e2,e3⟩:=(hw t.1 (S.p.mem_iff.mp a)).2 _ (List.mem_of_getElem? b);rw[zc5 n _ e1];exact e2
 rw_mod_cast [];refine zaj (fun i ρ μ'=>∃x3 x4 x5 x6 x7:Option D,ρ=[some (.lst (rows.map zcu)),some (.cell cs),some (.cell c),x3,x4,x5,x6,x7]/\μ'=zF μ c (.lst (((((zae l).zip vs).take i).foldl grp []).map trD))/\GI i ((((zae l).zip vs).take i).foldl grp [])) ⟨none,none,none,none,none,rfl,rfl,⟨Nat.le_refl _,fun t ht=>(by cases ht),fun h=>absurd h (by decide)⟩⟩ ?_ ?_
 .rintro i d ρ μ' hd ⟨x3,x4,x5,x6,x7,rfl,rfl,G⟩ N hN;obtain⟨e,he,rfl⟩:=zb4 hd;rw[List.getElem?_map] at he;obtain⟨p,hp,rfl⟩:=Option.map_eq_some_iff.mp he;have il:i < (zae l).length:=(List.getElem?_eq_some_iff.mp hp).1;obtain⟨v,hv⟩:∃v,vs[i]? = some v:=⟨vs[i]'(by omega),List.getElem?_eq_getElem (by omega)⟩;have hpv:((zae l).zip vs)[i]? = some (p,v):=by rw[List.getElem?_zip_eq_some];exact⟨hp,hv⟩
  have G':=G.step (p:=(p,v)) (by
   by_cases z:i=0
   .subst z;exact .inl (zli h1 hp)
   .exact .inr (by omega))
  have ek:=foldl_take_succ grp [] hpv;rw[ek] at hN;clear hd;generalize (((zae l).zip vs).take i).foldl grp []=ts at G G' ek hN ⊢
  have gl:=G.l;unfold spD;by_cases e:p.2.2.1=0
  .rw_mod_cast [decide_eq_true (show((p.2.2.1:Nat):Int)=0 by omega),zgG,zg ccs,hc,zdh,zbb hv,Option.map_some,zaa];refine⟨by decide,by decide,by rw[List.length_map];omega,hN _ _ ⟨_,_,_,_,_,rfl,?_,G'⟩⟩;unfold grp;rw[if_pos e,List.map_append];rfl
  .have i1:1<=i:=by
    by_cases z:i=0
    .subst z;exact absurd (zli h1 hp) e
    .omega
   have hn:=G.n i1;obtain⟨us,t,rfl⟩:∃us t,ts=us++[t]:=⟨_,_,(List.dropLast_concat_getLast hn).symm⟩;obtain⟨s1,s2⟩:=G.s t (by simp);obtain⟨a,b,st⟩:=t;dsimp only at s1 s2;have s1':(st.map D.int)≠[]:=fun z=>s1 (List.map_eq_nil_iff.mp z)
   have hlast:∀x:D,((us.map trD)++[x]).getLast? = some x:=fun x=>by simp
   have hset:∀x y:D,((us.map trD)++[x]).set us.length y=us.map trD++[y]:=fun x y=>by
    rw[List.set_append_right _ _ (by rw[List.length_map];exact Nat.le_refl _)];simp
   have hix:∀n:Nat,ixN (n+1) (-1)=some n:=fun n=>by unfold ixN;rw[if_neg (by decide),if_pos (by omega)];congr 1;omega
   have em:(us++[(a,b,st)]).map trD=us.map trD++[.tup [.str a, .int b, .tup (st.map D.int)]]:=by rw[List.map_append];rfl
   rw[em];have nsl:¬ (HT.sIx (3:Nat) 0 none=0/\HT.sIx (3:Nat) 3 (some 2)=3):=by decide
   rw_mod_cast [decide_eq_false (show ¬ ((p.2.2.1:Nat):Int)=0 by omega),zg ccs,hc,zgX,hlast,zdh,zbb hv,Option.map_some,List.length_append,List.length_map,hix,hset,zaa];refine⟨nsl,by decide,s1',by show st.length+1<=sizeLine;omega,by decide,by simp,(by show 2+1<=sizeLine;decide),hN _ _ ⟨_,_,_,_,_,rfl,?_,G'⟩⟩;unfold grp;rw[if_neg e,List.getLast?_concat];simp[trD]
 .rintro ρ μ' ⟨x3,x4,x5,x6,x7,rfl,rfl,G⟩;rw[zaQ,List.length_map,List.take_of_length_le (by rw[List.length_zip];omega)];refine k2 _ _ ?_;rw_mod_cast [ze3 hcn];exact⟨_, .refl _,q l S⟩
set_option synthInstance.maxHeartbeats 4000000
set_option synthInstance.maxSize 100000
set_option maxHeartbeats 4000000
theorem zsO{ho ga ns:List Str}{ls:List LR}{sl:Int}{r:RW}(R:zfB ho ga ns ls sl r):r.ways≠[]/\r.ways.length<=2/\∀w∈r.ways,(∃k,w.length=2*k+1/\1<=k/\k<=3)/\∀x∈zby w,x∈ls.map LR.nm:=by
 have one:∀{bd first k w},Way ho ga ns ls bd first k (2*k) w->1<=k->k<=3->(∃k,w.length=2*k+1/\1<=k/\k<=3)/\∀x∈zby w,x∈ls.map LR.nm:=fun{bd first k w} W a b=>by
  refine⟨⟨k,W.len,a,b⟩,fun x hx=>?_⟩;obtain⟨i,hi⟩:=List.mem_iff_getElem?.mp hx;have hlt:=(List.getElem?_eq_some_iff.mp hi).1;rw[zc5 k w W.len] at hlt;rw[zjk] at hi;have wl:=W.len;have j0:2*i < w.length:=by omega
  have j2:2*i+2 < w.length:=by omega
  obtain⟨q,hq,en,_⟩:=W.jn i _ x _ (List.getElem?_eq_getElem j0) hi (List.getElem?_eq_getElem j2);rw[<- en];exact List.mem_map_of_mem hq
 obtain⟨first,last,w1,k1,hf,hl,hfl,k11,k13,W1,e1,hw⟩:=R.way;rcases hw with e | ⟨w2,k2,e,b1,b3,W2,e2⟩
 .rw[e];refine⟨by simp,by simp,fun w hw=>?_⟩;rw[List.mem_singleton.mp hw];exact one W1 k11 k13
 .rw[e];refine⟨by simp,by simp,fun w hw=>?_⟩;rcases List.mem_cons.mp hw with rfl | hw
  .exact one W1 k11 k13
  .rw[List.mem_singleton.mp hw];exact one W2 b1 b3
theorem zry{l:List RW}{p:SP}(h:p∈zae l):p.1∈l/\∃w,p.1.ways[p.2.1]? = some w/\p.2.2.2∈zby w:=by
 rw[zfa,List.mem_flatten] at h;obtain⟨x,hx,hp⟩:=h;obtain⟨t,ht,rfl⟩:=List.mem_map.mp hx;obtain⟨a,b⟩:=zg1.mp ht;unfold twB blk at hp;obtain⟨z,hz,rfl⟩:=List.mem_map.mp hp;exact⟨a,_,b,zpK hz⟩
theorem zuU{fs vs:List Int}{i:Nat}{u:Int}(hl:fs.length=vs.length)(hu:fs[i]? = some u):(fs.take i++vs.drop i).set i u=fs.take (i+1)++vs.drop (i+1):=by
 have hi:=(List.getElem?_eq_some_iff.mp hu).1;have e:(fs.take i).length=i:=by rw[List.length_take];omega
 rw[List.set_append_right _ _ (by omega),e,Nat.sub_self,List.take_add_one,hu,List.drop_eq_getElem_cons (by omega:i < vs.length),List.set_cons_zero,List.append_assoc];rfl
theorem ztv{fs vs:List Int}{i:Nat}{u:Int}(hu:fs[i]? = some u)(hv:vs[i]? = some u):fs.take i++vs.drop i=fs.take (i+1)++vs.drop (i+1):=by
 obtain⟨hi,rfl⟩:=List.getElem?_eq_some_iff.mp hv;rw[List.take_add_one,hu,List.drop_eq_getElem_cons hi,List.append_assoc];rfl
theorem zwW{fs vs:List Int}{i:Nat}{u:Int}(hu:fs[i]? = some u):(fs.take (i+1)++vs.drop (i+1))[i]? = some u:=by
 have hi:=(List.getElem?_eq_some_iff.mp hu).1;rw[List.getElem?_append_left (by rw[List.length_take];omega),List.getElem?_take,if_pos (by omega),hu]
theorem zuZ{fs vs:List Int}{i:Nat}(hl:fs.length=vs.length):(fs.take i++vs.drop i).length=vs.length:=by
 rw[List.length_append,List.length_take,List.length_drop];omega
def nv(wf:Str->Int)(ev:Bool)(q:SP×Int):Int:=if ev=true/\ziu q.1=true then 200 - wf q.1.2.2.2 else q.2
def duD(m:Int×Int):D:= .tup [.int m.1, .int m.2]
theorem zpX{wf:Str->Int}{sl:Int}:∀{ps:List (SP×Int)} {dl:DU},(ps.foldl (due wf sl) dl).length<=dl.length+ps.length
 | [],dl=>by simp
 | p::ps,dl=>by
  rw[List.foldl_cons,List.length_cons];have a:=zpX (wf:=wf) (sl:=sl) (ps:=ps) (dl:=due wf sl dl p);have b:(due wf sl dl p).length<=dl.length+1:=by
   have c:∀(j:Str) (b:Int×Int),(zfn dl j b).length<=dl.length+1:=fun j b=>by
    unfold zfn;split<;>simp
   unfold due zm4;split
   .split
    .exact c _ _
    .split
     .exact c _ _
     .omega
   .omega
  omega
theorem zy4{p:SP}{gs:DGs}{ρ:zad}{μ:Mu}{R:zad->Mu->Prop}:zeL 4 gs (spD p) ρ μ R=gs [zcu p.1, .int p.2.1, .int p.2.2.1, .str p.2.2.2] ρ μ R:=by
 unfold spD;rw[zoG];simp
theorem zrB{μ:Mu}{a b:Nat}{x y z:Ct}(h:a≠b):zF (zF (zF μ a x) b y) a z=zF (zF μ a z) b y:=by
 funext j;by_cases ja:j=a
 .subst ja;rw[zr,zg h,zr]
 .by_cases jb:j=b
  .subst jb;rw[zg ja,zr,zr]
  .rw[zg ja,zg jb,zg ja,zg jb,zg ja]
theorem zve{f:Int×Int->D}{l:DU}{j:Str}{b:Int×Int}:Ct.dct (zeB (ksS l) (.inr j)) (zfI (ksS l) (vsS f l) (.inr j) (f b))= .dct (ksS (zfn l j b)) (vsS f (zfn l j b)):=by rw[zuv,zvR]
set_option synthInstance.maxHeartbeats 4000000
set_option synthInstance.maxSize 100000
set_option maxHeartbeats 4000000
theorem zw3:∀ds μ Q,ztt ds μ Q->zP zsV zrW 1 ds μ Q:=by
 rintro ds μ Q ⟨ns0,rfl,hl0,q⟩;have hz:(1000:Nat)<=sizeLine:=by decide
 refine⟨rfl,stp fun N1 h1=>?_⟩;walk_at "e"
 intro s hs0;refine h1 _ _ (stp fun N2 h2=>?_);have hs:zF μ s .draw s=some .draw:=zr;generalize zF μ s .draw=μ1 at hs ⊢
 walk_at "e"
 refine zrQ (most:=4) hs (by decide) (by decide) fun μ2 na la ho ga ns ls rows sl W keep=>h2 _ _ (stp fun N3 h3=>?_)
 have hl1:=W.N.len;have hc:=W.N.cnt;have g1:=W.ho4;have g2:=W.ga3;have g0:=W.ho2;have rm:=W.rm;have r1:=W.r1;have nd:=W.N.nd;have ndl:(ls.map LR.nm).Nodup:=(List.nodup_append.mp nd).2.1;have hwr:=fun r hr=>zsO (W.ok r hr)
 have hw2:∀r∈rows,r.ways.length<=2/\∀w∈r.ways,∃n,w.length=2*n+1/\1<=n/\n<=3:=fun r hr=>⟨(hwr r hr).2.1,fun w hw=>((hwr r hr).2.2 w hw).1⟩
 rw_mod_cast [];refine zyn W.W W.N g1 g2 fun μ3 k ck cl ln hk hck hcl A L ke=>h3 _ _ (stp fun N4 h4=>?_)
 rw_mod_cast [];refine zny rfl (fun _ _ _=>rfl) W.nd (by omega) hw2 fun l S=>h4 _ _ (stp fun N5 h5=>?_)
 have ll:l.length=rows.length:=S.p.length_eq;have sl6:(zae l).length<=24:=by
  have:=zhF (l:=l) fun r hr=>hw2 r (S.p.mem_iff.mp hr)
  omega
 have hs3:μ3 s=some .draw:=ke _ _ W.W.ds;have hla3:μ3 la=some (.lst (ls.map zaW)):=ke _ _ W.W.dl;rw_mod_cast [];refine⟨by decide,?_⟩;refine zb1 (fun i ys μ'=>μ'=μ3/\∃vs:List Int,ys=vs.map D.int/\vs.length=i) ⟨rfl,[],rfl,rfl⟩ ?_ ?_
 .rintro i d ys μ' hd ⟨rfl,vs,rfl,hvl⟩;rw[List.getElem?_map] at hd;obtain⟨p,hp,rfl⟩:=Option.map_eq_some_iff.mp hd;have il:=(List.getElem?_eq_some_iff.mp hp).1;refine⟨by rw[List.length_map];omega,fun N hN=>?_⟩;unfold spD;rw_mod_cast [];refine⟨hs3,by decide,by decide,fun v v0 v1=>⟨.inl (by decide),?_⟩⟩;refine hN _ _ ⟨rfl,vs++[v+10*p.2.2.1],by rw[List.map_append];rfl,by simp[hvl]⟩
 rintro ys μ' ⟨rfl,vs,rfl,hvl⟩;rw[List.length_map] at hvl;intro cs hcs;refine h5 _ _ (stp fun N6 h6=>?_);have kc:∀{μ:Mu} {c:Nat},μ c=none->∀(x:Ct) j ct,μ j=some ct->zF μ c x j=some ct:=fun{μ c} hc x j ct e=>by rw[zg (fun z=>by rw[z,hc] at e;cases e)];exact e
 have hs4:=kc hcs (.lst (vs.map D.int)) _ _ hs3;walk_at "e"
 refine⟨hs4,by decide,by decide,fun v v0 v1=>h6 _ _ (stp fun N7 h7=>?_)⟩;generalize decide (v=0)=ev
 walk_at "e"
 intro cd hcd;refine h7 _ _ ?_;have csd:cs≠cd:=fun z=>by rw[<- z,zr] at hcd;cases hcd
 have hla4:=kc hcs (.lst (vs.map D.int)) _ _ hla3;have lad:la≠cd:=fun z=>by rw[<- z,hla4] at hcd;cases hcd
 have lac:la≠cs:=fun z=>by rw[<- z,hla3] at hcs;cases hcs
 have hcd3:μ' cd=none:=by rw[zg csd.symm] at hcd;exact hcd
 generalize hwd:(D.tup [D.lst (List.map D.str ho),D.lst (List.map D.str ga),D.cell la,D.lst (List.map zcu rows),D.int sl,D.cell na])=wd
 have wd2:∀ μ Q,dIx wd (.int 2) μ Q=Q (.cell la) μ:=fun μ Q=>by rw[<- hwd];rfl
 have wd3:∀ μ Q,dIx wd (.int 3) μ Q=Q (.lst (rows.map zcu)) μ:=fun μ Q=>by rw[<- hwd];rfl
 have wd4:∀ μ Q,dIx wd (.int 4) μ Q=Q (.int sl) μ:=fun μ Q=>by rw[<- hwd];rfl
 obtain⟨fs,hfs⟩:∃fs:List Int,fs=((zae l).zip vs).map (nv (zaZ ls) ev):=⟨_,rfl⟩;have fl:fs.length=vs.length:=by rw[hfs,List.length_map,List.length_zip];omega
 refine zkD (fun ρ μ2=>∃x8 x9 x10 x11 x12 x13:Option D,ρ=[some (.scr ns0),some (.cell s),some wd,some (.cell k),some (.lst ((zae l).map spD)),some (.cell cs),some (.bl ev),some (.cell cd),x8,x9,x10,x11,x12,x13,none,none]/\μ2=zF (zF μ' cs (.lst (fs.map D.int))) cd (.dct (ksS (((zae l).zip fs).foldl (due (zaZ ls) sl) [])) (vsS duD (((zae l).zip fs).foldl (due (zaZ ls) sl) [])))) (fun N8 h8=>?_) ?_
 .rw_mod_cast [];refine zaj (fun i ρ μ2=>∃x8 x9 x10 x11 x12 x13:Option D,ρ=[some (.scr ns0),some (.cell s),some wd,some (.cell k),some (.lst ((zae l).map spD)),some (.cell cs),some (.bl ev),some (.cell cd),x8,x9,x10,x11,x12,x13,none,none]/\μ2=zF (zF μ' cs (.lst ((fs.take i++vs.drop i).map D.int))) cd (.dct (ksS ((((zae l).zip fs).take i).foldl (due (zaZ ls) sl) [])) (vsS duD ((((zae l).zip fs).take i).foldl (due (zaZ ls) sl) [])))) ⟨none,none,none,none,none,none,rfl,rfl⟩ ?_ ?_
  .rintro i d ρ μ2 hd ⟨x8,x9,x10,x11,x12,x13,rfl,rfl⟩ N hN;obtain⟨e,he,rfl⟩:=zb4 hd;rw[List.getElem?_map] at he;obtain⟨p,hp,rfl⟩:=Option.map_eq_some_iff.mp he;clear hd;have il:i < (zae l).length:=(List.getElem?_eq_some_iff.mp hp).1;obtain⟨v,hv⟩:∃v,vs[i]? = some v:=⟨vs[i]'(by omega),List.getElem?_eq_getElem (by omega)⟩;have hu:fs[i]? = some (nv (zaZ ls) ev (p,v)):=by
    rw[hfs,List.getElem?_map,(List.getElem?_zip_eq_some (z:=(p,v))).mpr ⟨hp,hv⟩];rfl
   have hpu:((zae l).zip fs)[i]? = some (p,nv (zaZ ls) ev (p,v)):=List.getElem?_zip_eq_some.mpr ⟨hp,hu⟩;obtain⟨pl,w,hw,hx⟩:=zry (List.mem_of_getElem? hp);have pr:=S.p.mem_iff.mp pl;have xl:=((hwr _ pr).2.2 w (List.mem_of_getElem? hw)).2 _ hx;have dlen:=zpX (wf:=zaZ ls) (sl:=sl) (ps:=((zae l).zip fs).take i) (dl:=[]);rw[List.length_take,List.length_nil] at dlen;have ek:=foldl_take_succ (due (zaZ ls) sl) [] hpu;generalize (((zae l).zip fs).take i).foldl (due (zaZ ls) sl) []=dl at dlen ek ⊢
   rw[ek] at hN;have fln:=zuZ (fs:=fs) (vs:=vs) (i:=i) fl;have fse:=zuU fl hu;have fat:=zwW (vs:=vs) hu;have fke:nv (zaZ ls) ev (p,v)=v->fs.take i++vs.drop i=fs.take (i+1)++vs.drop (i+1):=fun z=>ztv (by rw[hu,z]) hv
   generalize hu0:nv (zaZ ls) ev (p,v)=u at hu hpu ek hN fse fat fke
   have hu0:=hu0.symm;generalize fs.take i++vs.drop i=fi at fln fse fke ⊢
   generalize fs.take (i+1)++vs.drop (i+1)=fi1 at hN fse fat fke
   have hlp:ziu p=decide ((p.2.2.1:Int)+1=((w.length:Nat):Int) / 2):=by
    unfold ziu;rw[List.getD_eq_getElem?_getD,hw];rfl
   have elw:∀ μ Q,zcH [zbX w] μ Q=Q (.int w.length) μ:=fun μ Q=>by unfold zbX;rw[zsY,List.length_map]
   simp only[zp,zef,zp8,zoG,zy4,List.length_cons,List.length_nil,true_and,List.set_cons_zero,List.set_cons_succ,Nat.reduceAdd];refine zww (b:=ziu p) (fun Q z=>?_) ?_
   .rw_mod_cast [zuy,zdh,zbb hw,Option.map_some,elw];rw[<- hlp];exact⟨by unfold zio;omega,z⟩
   by_cases hL:ziu p=true
   .rw[if_pos hL];refine zkD (fun ρ μ2=>ρ=[some (.scr ns0),some (.cell s),some wd,some (.cell k),some (.lst ((zae l).map spD)),some (.cell cs),some (.bl ev),some (.cell cd),some (.int i),some (zcu p.1),some (.int p.2.1),some (.int p.2.2.1),some (.str p.2.2.2),x13,none,none]/\μ2=zF (zF μ' cs (.lst (fi1.map D.int))) cd (.dct (ksS dl) (vsS duD dl))) (fun NA kA=>?_) ?_
    .refine zww (b:=ev) (zts (zue rfl)) ?_;by_cases hE:ev=true
     .rw[if_pos hE];rw_mod_cast [wd2];refine zpp (by rw[zg lad,zg lac];exact hla3) ndl xl ?_;rw_mod_cast [zg csd,List.length_map,zxa (show(0:Int)<=i by omega) (show(i:Int) < fi.length by omega),Int.toNat_natCast];have e3:u=200 - zaZ ls p.2.2.2:=by rw[hu0];unfold nv;rw[if_pos ⟨hE,hL⟩]
      rw[<- List.map_set,<- e3,fse,zrB csd];exact kA _ _ ⟨rfl,rfl⟩
     .rw[if_neg hE];have e3:u=v:=by rw[hu0];unfold nv;rw[if_neg fun z=>hE z.1]
      rw[fke e3];exact kA _ _ ⟨rfl,rfl⟩
    rintro ρ μ2 ⟨rfl,rfl⟩;refine stp fun NB kB=>?_
    rw_mod_cast [zg csd,zdh,zbb fat,Option.map_some,zvq,zv0,wd2];refine zpp (by rw[zg lad,zg lac];exact hla3) ndl xl ?_;rw_mod_cast [wd4];refine kB _ _ ?_;have e4:due (zaZ ls) sl dl (p,u)=zm4 dl p.1.nm (p.2.1:Int) (u - p.1.re+p.1.lo+zaZ ls p.2.2.2+sl):=by unfold due;rw[if_pos hL];rfl
    rw[e4] at hN;unfold zm4 at hN;have ksl:(ksS dl).length<=1000:=by rw[ze9];omega
    generalize u - p.1.re+p.1.lo+zaZ ls p.2.2.2+sl=su at hN ⊢
    have put:∀ ρ2,(∃x8 x9 x10 x11 x12 x13:Option D,ρ2=[some (.scr ns0),some (.cell s),some wd,some (.cell k),some (.lst ((zae l).map spD)),some (.cell cs),some (.bl ev),some (.cell cd),x8,x9,x10,x11,x12,x13,none,none])->(∀ ρ2,(∃x8 x9 x10 x11 x12 x13:Option D,ρ2=[some (.scr ns0),some (.cell s),some wd,some (.cell k),some (.lst ((zae l).map spD)),some (.cell cs),some (.bl ev),some (.cell cd),x8,x9,x10,x11,x12,x13,none,none])->N ρ2 (zF (zF μ' cs (.lst (fi1.map D.int))) cd (.dct (ksS (zfn dl p.1.nm (su,(p.2.1:Int)))) (vsS duD (zfn dl p.1.nm (su,(p.2.1:Int)))))))->N ρ2 (zF (zF (zF μ' cs (.lst (fi1.map D.int))) cd (.dct (ksS dl) (vsS duD dl))) cd (.dct (zeB (ksS dl) (.inr p.1.nm)) (zfI (ksS dl) (vsS duD dl) (.inr p.1.nm) (.tup [.int su, .int p.2.1])))):=fun ρ2 hρ h=>by
     rw[zaa,show(D.tup [.int su, .int p.2.1])=duD (su,(p.2.1:Int)) from rfl,zve];exact h ρ2 hρ
    cases hsl:zU dl p.1.nm with
    | none =>
     rw[hsl] at hN;dsimp only at hN;have hnm:(Sum.inr p.1.nm:Key)∉ksS dl:=fun z=>by
      have:=zb3.mpr (zbx.mp z);rw[hsl] at this;cases this
     unfold zkA;rw_mod_cast [zgG,zob,zjT,zfV,zdR,zdn,zeD,decide_eq_false hnm,Bool.true_xor];exact⟨by decide,ksl,put _ ⟨_,_,_,_,_,_,rfl⟩ fun ρ2 ⟨_,_,_,_,_,_,h⟩=>hN _ _ ⟨_,_,_,_,_,_,h,rfl⟩⟩
    | some m =>
     rw[hsl] at hN;dsimp only at hN;have hnm:(Sum.inr p.1.nm:Key)∈ksS dl:=zbx.mpr (zb3.mp (by rw[hsl];rfl));have ed:∀ μ Q,dIx (duD m) (.int 0) μ Q=Q (.int m.1) μ:=fun μ Q=>rfl
     unfold zkA;rw_mod_cast [zgG,zob,zjT,zfV,zdR,zdn,zeD,hsl,Option.map_some,ed,decide_eq_true hnm,Bool.true_xor];by_cases hlt:su < m.1
     .rw[if_pos hlt] at hN;rw[if_pos (decide_eq_true hlt)];exact⟨by decide,ksl,put _ ⟨_,_,_,_,_,_,rfl⟩ fun ρ2 ⟨_,_,_,_,_,_,h⟩=>hN _ _ ⟨_,_,_,_,_,_,h,rfl⟩⟩
     .rw[if_neg hlt] at hN;rw[if_neg (by simpa using hlt)];exact hN _ _ ⟨_,_,_,_,_,_,rfl,rfl⟩
   .rw[if_neg hL];have e3:u=v:=by rw[hu0];unfold nv;rw[if_neg fun z=>hL z.2]
    have e4:due (zaZ ls) sl dl (p,u)=dl:=by unfold due;rw[if_neg hL]
    rw[e4,<- fke e3] at hN;exact hN _ _ ⟨_,_,_,_,_,_,rfl,rfl⟩
  .rintro ρ μ2 ⟨x8,x9,x10,x11,x12,x13,rfl,rfl⟩;rw[zaQ,List.length_map,List.take_of_length_le (by omega),List.drop_eq_nil_of_le (by omega),List.append_nil,List.take_of_length_le (by rw[List.length_zip];omega)];exact h8 _ _ ⟨_,_,_,_,_,_,rfl,rfl⟩
 rintro ρ μ2 ⟨x8,x9,x10,x11,x12,x13,rfl,rfl⟩;refine stp fun N9 h9=>?_
 have fvl:∀l',znD rows l'->fs.length=(zae l').length:=fun l' S'=>by rw[S'.uniq W.nd S];omega
 rw_mod_cast [wd3];refine zq5 (vs:=fs) W.nd (by omega) hw2 (by rw[zg csd,zr]) fvl fun l' S'=>?_
 obtain rfl:=S'.uniq W.nd S;clear S';have ndl':(l'.map RW.nm).Nodup:=(S.p.map RW.nm).nodup_iff.mpr W.nd;obtain⟨B,hB,hBl,hzip⟩:=zzK (tws l') fs (by rw[<- zfa];omega);rw[<- zfa] at hzip;have bok:∀b∈B,BOk b:=fun b hb=>by
  have hm:b.1∈tws l':=by rw[<- hB];exact List.mem_map_of_mem hb
  obtain⟨m1,m2⟩:=zg1.mp hm;exact⟨hBl b hb,m2,(hw2 _ (S.p.mem_iff.mp m1)).2 _ (List.mem_of_getElem? m2)⟩
 have pw:=ztX ndl';rw[<- hB,List.pairwise_map] at pw;have D0:zlq (zaZ ls) sl B ((B.map fun b=>(twB b.1).zip b.2).flatten.foldl (due (zaZ ls) sl) []):=by
  have:=zqd (wf:=zaZ ls) (sl:=sl) (B:=B) (P:=[]) (dl:=[]) bok (by simpa using pw) (fun nm=>by
   show ∀b∈([]:List BW),_;intro b hb;cases hb)
  simpa using this
 have eT:=zqb (B:=B) (ts:=[]) fun b hb=>⟨hBl b hb,(bok b hb).o.1⟩
 rw[hzip,eT,List.nil_append];generalize (B.map fun b=>(twB b.1).zip b.2).flatten.foldl (due (zaZ ls) sl) []=dl at D0 ⊢
 have Bl:B.length<=24:=by
  have e1:B.length=(tws l').length:=by rw[<- hB,List.length_map]
  have e2:=zgp (m:=2) (L:=l'.map twR) fun x hx=>by
   obtain⟨r,hr,rfl⟩:=List.mem_map.mp hx;unfold twR;rw[List.length_map,List.length_zipIdx];exact(hw2 r (S.p.mem_iff.mp hr)).1
  rw[List.length_map] at e2;unfold tws at e1;omega
 have ndT:((B.map fun b=>((b.1.1.nm,(b.1.2.1:Int),b.2):TR)).map trK).Nodup:=by
  rw[List.map_map];refine List.pairwise_map.mpr (pw.imp fun h e=>?_);unfold trK at e;simp at e;have:=h e.1;omega
 intro kt hkt;show zaN [.cell kt, .lst ((B.map fun b=>((b.1.1.nm,(b.1.2.1:Int),b.2):TR)).map trD)] _ _;refine ztU (d:= .lst ((B.map fun b=>((b.1.1.nm,(b.1.2.1:Int),b.2):TR)).map trD)) (k:=kt) rfl ndT (by rw[List.length_map];omega) (fun _=>rfl) ?_;intro ts' P;refine⟨rfl,?_⟩;rw[ztz,zr,zjF,ze3 hkt];refine h9 _ _ (stp fun N10 h10=>?_);have tl:ts'.length<=900:=by rw[P.length_eq,List.length_map];omega
 have tnd:(ts'.map trK).Nodup:=(P.map trK).nodup_iff.mpr ndT;have hcd5:zF μ' cs (.lst (fs.map D.int)) cd=none:=by rw[zg csd.symm];exact hcd3
 have kp:∀(x y:Ct) j ct,μ' j=some ct->zF (zF μ' cs x) cd y j=some ct:=fun x y j ct e=>kc (by rw[zg csd.symm];exact hcd3) y _ _ (kc hcs x _ _ e)
 have A5:za0 (zF (zF μ' cs (.lst (fs.map D.int))) cd (.dct (ksS dl) (vsS duD dl))) k ck cl (kindsOf ho ga ls) ln:=⟨kp _ _ _ _ A.o,kp _ _ _ _ A.a,kp _ _ _ _ A.b,A.ne,A.nd⟩;have hcd6:zF (zF μ' cs (.lst (fs.map D.int))) cd (.dct (ksS dl) (vsS duD dl)) cd=some (.dct (ksS dl) (vsS duD dl)):=zr;generalize zF (zF μ' cs (.lst (fs.map D.int))) cd (.dct (ksS dl) (vsS duD dl))=μ5 at A5 hcd6
 generalize hspl:D.lst (List.map spD (zae l'))=spl
 show zdw _ _ _ _ _ _;rw_mod_cast [wd3];refine zaj (fun i ρ μ2=>∃x8 x9 x10 x11 x12 x13 x15:Option D,ρ=[some (.scr ns0),some (.cell s),some wd,some (.cell k),some spl,some (.cell cs),some (.bl ev),some (.cell cd),x8,x9,x10,x11,x12,x13,some (tbO ts'),x15]/\μ2=μ5) ⟨_,_,_,_,_,_,_,rfl,rfl⟩ ?_ ?_
 .rintro i d ρ μ2 hd ⟨x8,x9,x10,x11,x12,x13,x15,rfl,rfl⟩ N hN;rw[List.getElem?_map] at hd;obtain⟨r,hr,rfl⟩:=Option.map_eq_some_iff.mp hd;have hrm:=List.mem_of_getElem? hr;have F:=zyB W.N W.sl0 W.sl7 (W.ok r hrm);obtain⟨wn,w2,wk⟩:=hwr r hrm;obtain⟨vs',s0,k0,e1,e2,e3,e4⟩:=zuq ndl' hB (S.p.mem_iff.mpr hrm) wn D0;have hvc:∀c slk:Int,slk=sl+c->∀(i:Nat) w,r.ways[i]? = some w->∃st l x e,(r.nm,(i:Int),st)∈ts'/\atI (st.map D.int) (-1)=some (.int l)/\atI (w.map D.str) (-2)=some (.str x)/\zU ln x=some e/\(vs'.map (·+ c))[i]? = some (l - r.re+r.lo+e.2.2+slk):=fun c slk hslk i w hw=>by
   obtain⟨b,hb,eb,ev'⟩:=e3 i w hw;have bo:=(bok b hb).o;have bv:=(bok b hb).v;have hst:b.2≠[]:=fun z=>by rw[z] at bv;simp at bv;omega
   have hxm:zhL b.1∈ls.map LR.nm:=by
    refine(wk w (List.mem_of_getElem? hw)).2 _ ?_;unfold zhL;rw[eb] at bo ⊢;have:zby w≠[]:=fun z=>by rw[z] at bo;simp at bo
    rw[List.getLastD_eq_getLast?,List.getLast?_eq_some_getLast this];exact List.getLast_mem this
   obtain⟨q0,hq0,enq⟩:=List.mem_map.mp hxm;obtain⟨j,hj⟩:=List.mem_iff_getElem?.mp hq0;obtain⟨S',E',f1,_,_⟩:=L.2 j q0 hj;have hsl:zU ln (zhL b.1)=some (S',E',zaZ ls (zhL b.1)):=by
    rw[<- enq,znq ndl hq0];exact zt7 (by rw[L.fst];exact ndl) (List.mem_of_getElem? f1)
   refine⟨b.2,zu3 b,zhL b.1,_,P.mem_iff.mpr (List.mem_map.mpr ⟨b,hb,by rw[eb]⟩),?_,?_,hsl,?_⟩
   .rw[zdh,zgX];unfold zu3;rw[List.getLastD_eq_getLast?,List.getLast?_eq_some_getLast hst];rfl
   .unfold zhL;rw[eb];exact zqr (wk w (List.mem_of_getElem? hw)).1
   .rw[List.getElem?_map,ev',Option.map_some];unfold zeQ zvS;rw[eb];dsimp only;congr 1;omega
  have w1:1<=r.ways.length:=List.length_pos_iff.mpr wn;rw_mod_cast [];refine zlK F ?_;rw_mod_cast [wd4];refine znT (vs:=vs'.map (·+ 0)) A5 tnd tl (by rw[List.length_map];exact e2) w1 w2 (hvc 0 sl (by omega)) fun m hm mn=>?_
  have em:=e4 0 m hm mn;subst em;have sT:∀a b:Int,SI 1 (D.tup [.int a, .int b]):=fun a b d hd=>by
   simp only[List.mem_cons,List.not_mem_nil,or_false] at hd;rcases hd with rfl | rfl<;>trivial
  have ed0:∀ μ Q,dIx (duD (s0,k0)) (.int 0) μ Q=Q (.int s0) μ:=fun μ Q=>rfl
  have ed1:∀ μ Q,dIx (duD (s0,k0)) (.int 1) μ Q=Q (.int k0) μ:=fun μ Q=>rfl
  rw[show s0+0=s0 from by omega];rw_mod_cast [zfM,zjT,zgG,zfV,hcd6,zdR,zdn,zeD,e1,Option.map_some];refine znt (sT s0 k0) (by decide) ?_;rw_mod_cast [];refine⟨by decide,zjv [s0,k0] D.int (by simp) (fun i hi Q' q'=>?_) (fun bs hb=>?_) trivial⟩
  .walk_at "e"
   exact ztx q'
  rw_mod_cast [hb];refine zlK F ?_;refine znT (vs:=vs'.map (·+ -sl)) A5 tnd tl (by rw[List.length_map];exact e2) w1 w2 (hvc (-sl) 0 (by omega)) fun m hm mn=>?_
  have em:=e4 (-sl) m hm mn;subst em;rw_mod_cast [zjT,zgG,zfV,hcd6,zdR,zdn,zeD,e1,Option.map_some,ed0,ed1];rw[show s0+ -sl=s0 - sl from by omega];refine⟨by decide,znt (sT _ k0) (by decide) ?_⟩;rw_mod_cast [];exact hN _ _ ⟨_,_,_,_,_,_,_,rfl,rfl⟩
 .rintro ρ μ2 ⟨x8,x9,x10,x11,x12,x13,x15,rfl,rfl⟩;refine h10 _ _ ?_;rw_mod_cast [];exact⟨_, .refl _,q _⟩
end M
namespace M
open PySem L2
section
variable(P:Program)(w:World)(K:Frag)(mg:Str->Option Value)(base:Heap)
abbrev zgu:Prop:=Has P w K mg base CX0 "is_made_of" 1 ["text","signs","most"] (lift K zcU)
abbrev zhX:Prop:=Has P w K mg base CX0 "is_number" 1 ["thing"] (lift K zcc)
abbrev zec:Prop:=Has P w K mg base CX0 "starts_by_way" 1 ["rows"] (lift K za3)
abbrev za4:Prop:=Has P w K mg base CX0 "_law_draw" 1 ["_law_s","_law_many"] zmF
abbrev zeF:Prop:=Has P w K mg base CX0 "_law_spots" 1 ["_law_rows"] (lift K zbo)
abbrev zhf:Prop:=Has P w K mg base CX0 "is_name" 2 ["text"] (lift K zcm)
abbrev zfJ:Prop:=Has P w K mg base CX0 "check_whole" 2 ["thing"] (lift K zbv)
abbrev zfA:Prop:=zft P w K mg base CX0 "Table" "of" 2 ["self","name","way"] (lift K zcJ) [] (sel 3 0 [.p 0, .p 1, .p 2] .non [])
abbrev zfx:Prop:=zft P w K mg base CX0 "Net" "ends" 1 ["self","name"] (lift K zcF) [] (sel 2 0 [.p 0, .p 1] .non [])
abbrev zfT:Prop:=Has P w K mg base CX0 "_law_pick" 2 ["_law_s","_law_row_here"] (lift K zbU)
abbrev zd2:Prop:=Has P w K mg base CX0 "_law_name" 2 ["_law_s","_law_names"] (lift K zau)
abbrev zdT:Prop:=Has P w K mg base CX0 "check_name" 3 ["text"] (lift K za7)
abbrev zdi:Prop:=Has P w K mg base CX0 "check_both_ways" 1 ["one","two"] (lift K zaJ)
abbrev zii:Prop:=Has P w K mg base CX0 "check_way" 3 ["way"] (lift K zcf)
abbrev zkP:Prop:=Has P w K mg base CX0 "_law_hop" 3 ["_law_s","_law_names","_law_lines","_law_one","_law_two","_law_barred"] (lift K zci)
abbrev zgW:Prop:=Has P w K mg base CX0 "check_ends" 1 ["ends"] (lift K za9)
abbrev zc1:Prop:=Has P w K mg base CX0 "check_number" 3 ["number","least","most"] (lift K zam)
abbrev zbB:Prop:=zft P w K mg base CX0 "Net" "check_new" 4 ["self","name"] (lift K zaI) [] (sel 2 0 [.p 0, .p 1] .non [])
abbrev zck:Prop:=zft P w K mg base CX0 "Net" "check_nodes" 1 ["self","ends"] (lift K zat) [] (sel 2 0 [.p 0, .p 1] .non [])
abbrev zgT:Prop:=Has P w K mg base CX0 "check_ways" 4 ["ways"] (lift K zbM)
abbrev zjW:Prop:=Has P w K mg base CX0 "_law_need" 1 ["_law_row_here","_law_lines","_law_the_slack"] (lift K zcy)
abbrev zk0:Prop:=Has P w K mg base CX0 "_law_way" 4 ["_law_s","_law_names","_law_lines","_law_gates","_law_first","_law_the_last","_law_barred"] (lift K zcj)
abbrev zbV:Prop:=zft P w K mg base CX0 "Net" "put_node" 5 ["self","name","kind"] (lift K zaM) [] (sel 3 0 [.p 0, .p 1, .p 2] .non [])
abbrev zlD:Prop:=Has P w K mg base CX0 "_law_row" 5 ["_law_s","_law_names","_law_lines","_law_houses","_law_gates","_law_the_slack"] (lift K zdd)
abbrev zd6:Prop:=zll P w K mg base CX0 "Net" 1 ["self"] (lift K zbT) [] (sel 1 0 [.p 0] .non [])
abbrev zep:Prop:=zft P w K mg base CX0 "Net" "house" 6 ["self","name"] (lift K zb8) [] (sel 2 0 [.p 0, .p 1] .non [])
abbrev zfO:Prop:=zft P w K mg base CX0 "Net" "gate" 6 ["self","name"] (lift K zcC) [] (sel 2 0 [.p 0, .p 1] .non [])
abbrev zcP:Prop:=zft P w K mg base CX0 "Net" "line" 5 ["self","name","senders","ears","wire"] (lift K zcI) ["wire"] (sel 4 1 [.p 0, .p 1, .p 2, .p 3, .k 0] .non [])
abbrev zag:Prop:=zll P w K mg base CX0 "Frame" 5 ["self","name","ways","every","long","release","last"] (lift K zaw) ["every","long","release","last"] (sel 3 4 [.p 0, .p 1, .p 2, .k 0, .k 1, .k 2, .k 3] .non [])
abbrev zig:Prop:=Has P w K mg base CX0 "_law_start" 1 ["_law_script"] (zjj K)
abbrev zi7:Prop:=Has P w K mg base CX0 "_law_wire" 1 ["_law_lines","_law_name_here"] (lift K zbc)
abbrev zhV:Prop:=Has P w K mg base CX0 "_law_whole" 1 ["_law_x"] (lift K zca)
abbrev zfu:Prop:=Has P w K mg base CX0 "_law_rows_of" 2 ["_law_rows","_law_starts"] (lift K zbw)
abbrev zh7:Prop:=Has P w K mg base CX0 "_law_world" 6 ["_law_s","_law_the_most"] (lift K zce)
abbrev zlG:Prop:=Has P w K mg base CX0 "_law_net" 7 ["_law_world_here"] (lift K zdk)
abbrev zh0:Prop:=Has P w K mg base CX0 "_law_frame" 7 ["_law_row_here"] (lift K zbp)
abbrev zc7:Prop:=zll P w K mg base CX0 "Table" 1 ["self","rows"] (lift K zaN) [] (sel 2 0 [.p 0, .p 1] .non [])
abbrev zdL:Prop:=zu2 P w K mg base CX0 "worst" 3 ["net","frame","table","slack"] (lift K zcL) ["slack"] (sel 3 1 [.p 0, .p 1, .p 2, .k 0] .non [])
abbrev zjU:Prop:=zu2 P w K mg base CX0 "worst" 3 ["net","frame","table","slack"] (lift K zcL) [] (sel 3 0 [.p 0, .p 1, .p 2, .c 0] .non [.int 0])
end
section
variable{P:Program}{w:World}{K:Frag}{mg:Str->Option Value}{base:Heap}{f:Addr}{fd:FuncData}[TabOk K tab]
theorem zkt(F:Fun K "is_made_of" "is_made_of" zdV f fd)(B:Blt mg):zV P w K mg base CX0 1 f fd ["text","signs","most"] (lift K zcU) :=
 F.okB zgn zfq rfl fun _ _ _ _ _ _ hr=>have nd:=zfq.nd;⟨_,(zj (zac (zph (zr4 zkf zkf zc (zA (zZ K) rfl B.len zaA (qa1 (qv 0))) (qv 2)) (zoi (zA (zhg K) rfl B.all zov (qa1 (zdU ["sign"] ["signs"] [1] (.of rfl (by decide+kernel) rfl) rfl rfl (by decide+kernel) (zar K (qv 0)) (fun _ _ _ _=>(zaH (i:=0) (show List.Nodup (["sign","signs"]:List Str) by decide+kernel) rfl (Or.inl rfl))) (fun _ _ _ _=>zb9) (fun _ _ _ _=>(zmr zvk (qv 0) (qv 1) (by with_unfolding_all rfl)))))))))),fun _=>by infer_instance⟩
theorem zlU(F:Fun K "is_number" "is_number" zet f fd)(B:Blt mg):zV P w K mg base CX0 1 f fd ["thing"] (lift K zcc) :=
 F.okB zh8 zgl rfl fun _ _ _ _ _ _ hr=>have nd:=zgl.nd;⟨_,(zj (zac (zph (zA (zcZ K) rfl B.isinstance zbu (qa2 (qv 0) (zgw (v:= .ty "int") rfl B.int zui rfl))) (zoi (zsu (zA (zcZ K) rfl B.isinstance zbu (qa2 (qv 0) (zgw (v:= .ty "bool") rfl B.bool zp1 rfl)))))))),fun _=>by infer_instance⟩
theorem zkw(F:Fun K "__init__" "Net.__init__" zdS f fd)(B:Blt mg):zV P w K mg base CX0 1 f fd ["self"] (lift K zbT) :=
 F.okB zgM zfQ rfl fun _ _ _ _ _ _ hr=>have nd:=zfQ.nd;⟨_,(zf (zcE K (qv 0) zmg)
  (zj (zcE K (qv 0) zmg))),fun _=>by infer_instance⟩
theorem zn5(F:Fun K "ends" "Net.ends" zfY f fd)(B:Blt mg):zV P w K mg base CX0 1 f fd ["self","name"] (lift K zcF) :=
 F.okB zkp zh9 rfl fun _ _ _ _ _ _ hr=>have nd:=zh9.nd;⟨_,(zf (zak (zH (zff (zbZ hr)) (qv 1) (zaK K (qv 0)) (by with_unfolding_all rfl))
  (zj zai)
  zK)
  (zj (zac (zdG (zbZ hr) (zaK K (qv 0)) (qv 1))))),fun _=>by infer_instance⟩
theorem zgb(F:Fun K "check_nodes" "Net.check_nodes" zbR f fd)(B:Blt mg):zV P w K mg base CX0 1 f fd ["self","ends"] (lift K zat) :=
 F.okB zdj zc2 rfl fun _ _ _ _ _ _ hr=>have nd:=zc2.nd;⟨_,(zj (za2 PassesOwn.never rfl (zar K (qv 1)) (qG 2 nd)
  (zj (zak (WW.qt (zgx (zH (zff (zbZ hr)) (qv 2) (zaK K (qv 0)) (by with_unfolding_all rfl)) (zeV (zH (zsW (zbZ hr)) (qv 2) (zaK K (qv 0)) (by with_unfolding_all rfl)))))
  (zj zai)
  zK)))),fun _=>by infer_instance⟩
theorem zkr(F:Fun K "check_ends" "check_ends" zdN f fd)(B:Blt mg){u_MOST_ENDS:Value}(c_MOST_ENDS:mg "MOST_ENDS"=some u_MOST_ENDS)(c_MOST_ENDS_r:RelV (.int 6) u_MOST_ENDS):zV P w K mg base CX0 1 f fd ["ends"] (lift K za9) :=
 F.okB zgN zfy rfl fun _ _ _ _ _ _ hr=>have nd:=zfy.nd;⟨_,(zf (zak (zgd (znU zkf zkf zc (zA (zZ K) rfl B.len zaA (qa1 (qv 0))) (zcd rfl c_MOST_ENDS c_MOST_ENDS_r)))
  (zj zai)
  zK)
  (zj (zak (zH zki (zA (zgH) rfl B.len zaA (qa1 (za1 (zlg K) rfl B.set zub (qa1 (qv 0))))) (zA (zZ K) rfl B.len zaA (qa1 (qv 0))) (zap _))
  (zj zai)
  zK))),fun _=>by infer_instance⟩
theorem zf1(F:Fun K "check_both_ways" "check_both_ways" zbL f fd)(B:Blt mg):zV P w K mg base CX0 1 f fd ["one","two"] (lift K zaJ) :=
 F.okB zdc zc3 rfl fun _ _ _ _ _ _ hr=>have nd:=zc3.nd;⟨_,(zf (zak (WW.qt (zgx (zH (zjP K hr) (qx K (qv 0) zc) (qx K (qv 1) zc) (zap _)) (zeV (zH (zjP K hr) (qx K (qv 0) (zdy zb0 zc)) (qx K (qv 1) (zdy zb0 zc)) (zap _)))))
  (zj zai)
  zK)
  (zj (zak (zf6 (zA (zrE K) rfl B.any zx9 (qa1 (zdU ["name"] ["two"] [1] (.of rfl (by decide+kernel) rfl) rfl rfl (by decide+kernel) (zar K (zex (ziP K) (qv 0) (zcB zc) (zcB (zdy zb0 zc)))) (fun _ _ _ _=>(zaH (i:=0) (show List.Nodup (["name","two"]:List Str) by decide+kernel) rfl (Or.inl rfl))) (fun _ _ _ _=>zb9) (fun _ _ _ _=>(zmr (zlW K hr) (qv 0) (qv 1) (by with_unfolding_all rfl)))))))
  (zj zai)
  zK))),fun _=>by infer_instance⟩
theorem zhB(F:Fun K "starts_by_way" "starts_by_way" zct f fd)(B:Blt mg):zV P w K mg base CX0 1 f fd ["rows"] (lift K za3) :=
 F.okB zed zdB rfl fun _ _ _ _ _ _ hr=>have nd:=zdB.nd;⟨_,(zj (zac (zr0 (o0:= .dT []) ["name","at","starts"] [] [] (.inr rfl) (zbZ hr) (.of rfl (by decide+kernel) rfl) rfl rfl (by decide+kernel) (zar K (qv 0)) (fun _ _ _ _=>(zc9 (n:=3) K rfl (zT (zaH (i:=0) (show List.Nodup (["name","at","starts"]:List Str) by decide+kernel) rfl (Or.inl rfl)) (zT (zaH (i:=1) (show List.Nodup (["name","at","starts"]:List Str) by decide+kernel) rfl (Or.inl rfl)) (zT (zaH (i:=2) (show List.Nodup (["name","at","starts"]:List Str) by decide+kernel) rfl (Or.inl rfl)) zcA))))) (fun _ _ _ _=>zb9) (fun _ _ _ _=>(zbj (qa2 (qv 0) (qv 1)))) (fun _ _ _ _=>(qv 2))))),fun _=>by infer_instance⟩
theorem ziA(F:Fun K "__init__" "Table.__init__" zcW f fd)(B:Blt mg):zV P w K mg base CX0 1 f fd ["self","rows"] (lift K zaN) :=
 F.okB ze0 zek rfl fun _ _ _ _ _ _ hr=>have nd:=zek.nd;⟨_,(zj (zcE K (qv 0) (zA (zjw K) rfl B.sorted ze8 (qa1 (qv 1))))),fun _=>by infer_instance⟩
theorem znF(F:Fun K "_law_need" "_law_need" zf7 f fd)(B:Blt mg):zV P w K mg base CX0 1 f fd ["_law_row_here","_law_lines","_law_the_slack"] (lift K zcy) :=
 F.okB zju zhP rfl fun _ _ _ _ _ _ hr=>have nd:=zhP.nd;⟨_,(zf (qS 3 nd zc)
  (zf (za2 PassesOwn.never rfl (zar K (qx K (qv 0) zc)) (qG 4 nd)
  (zf (qS 5 nd zc)
  (zf (za2 PassesOwn.never rfl (zar K (qv 1)) (qG 6 nd)
  (zj (zak (zH (zlW K hr) (qx K (qv 6) zc) (qv 4) (by with_unfolding_all rfl))
  (zj (qS 5 nd (zO (zW K) (zO (zW K) (zO (zW K) (qv 5) (qx K (qv 0) zc)) (qx K (qv 6) zc)) (qv 2))))
  zK)))
  (zj (qS 3 nd (zA (zqJ K) rfl B.max zxf (qa2 (qv 3) (qv 5))))))))
  (zj (zac (qv 3))))),fun _=>by infer_instance⟩
theorem zm0(F:Fun K "_law_wire" "_law_wire" zf3 f fd)(B:Blt mg):zV P w K mg base CX0 1 f fd ["_law_lines","_law_name_here"] (lift K zbc) :=
 F.okB zkc zhH rfl fun _ _ _ _ _ _ hr=>have nd:=zhH.nd;⟨_,(zf (za2 PassesOwn.never rfl (zar K (qv 0)) (qG 2 nd)
  (zj (zak (zH (zd5 K hr) (qx K (qv 2) zc) (qv 1) (zap _))
  (zj (zac (qx K (qv 2) zc)))
  zK)))
  (zj (zac zc))),fun _=>by infer_instance⟩
theorem zl5(F:Fun K "_law_spots" "_law_spots" zeZ f fd)(B:Blt mg):zV P w K mg base CX0 1 f fd ["_law_rows"] (lift K zbo) :=
 F.okB zh4 zgF rfl fun _ _ _ _ _ _ hr=>have nd:=zgF.nd;⟨_,(zf (zaR (qS 1 nd (zbA zcv)))
  (zf (za2 PassesOwn.never rfl (zar K (zA (zjw K) rfl B.sorted ze8 (qa1 (qv 0)))) (qG 2 nd)
  (zj (za2 PassesOwn.never rfl (zjm K rfl B.enumerate (qa1 (qx K (qv 2) zc))) (zc9 (n:=2) K rfl (zT (qG 3 nd) (zT (qG 4 nd) zcA)))
  (zj (za2 PassesOwn.never rfl (zjm K rfl B.enumerate (qa1 (zqX (zv6 K) (qv 4) (zcB zc) ziX (zcB zc)))) (zc9 (n:=2) K rfl (zT (qG 5 nd) (zT (qG 6 nd) zcA)))
  (zj (zL (zbS K PySem.F.plainAttrs_list PySem.F.slot_list_append PySem.F.type_list_append zay (qv 1) (qa1 (zbj (zy (qv 2) (zy (qv 3) (qa2 (qv 5) (qv 6))))))))))))))
  (zjO 1 (zj (zac (qv 1)))))),fun _=>by infer_instance⟩
theorem zmd(F:Fun K "_law_whole" "_law_whole" ze2 f fd)(B:Blt mg):zV P w K mg base CX0 1 f fd ["_law_x"] (lift K zca) :=
 F.okB zhR zgI rfl fun _ _ _ _ _ _ hr=>have nd:=zgI.nd;⟨_,(zj (zac (zph (zA (zcZ K) rfl B.isinstance zbu (qa2 (qv 0) (zgw (v:= .ty "int") rfl B.int zui rfl))) (zoi (zsu (zA (zcZ K) rfl B.isinstance zbu (qa2 (qv 0) (zgw (v:= .ty "bool") rfl B.bool zp1 rfl)))))))),fun _=>by infer_instance⟩
theorem zpa(F:Fun K "is_name" "is_name" zhw f fd)(B:Blt mg)(h_is_made_of:zgu P w K mg base){u_LETTERS:Value}(c_LETTERS:mg "LETTERS"=some u_LETTERS)(c_LETTERS_r:RelV (.str "abcdefghijklmnopqrstuvwxyz") u_LETTERS){u_MOST_LETTERS:Value}(c_MOST_LETTERS:mg "MOST_LETTERS"=some u_MOST_LETTERS)(c_MOST_LETTERS_r:RelV (.int 8) u_MOST_LETTERS):zV P w K mg base CX0 2 f fd ["text"] (lift K zcm) :=
 F.okB zkZ zjG rfl fun _ _ _ _ _ _ hr=>have nd:=zjG.nd;⟨_,(zj (zac (zq h_is_made_of hr (zy (qv 0) (qa2 (zcd rfl c_LETTERS c_LETTERS_r) (zcd rfl c_MOST_LETTERS c_MOST_LETTERS_r)))))),fun _=>by infer_instance⟩
theorem zj4(F:Fun K "check_whole" "check_whole" zdv f fd)(B:Blt mg)(h_is_number:zhX P w K mg base):zV P w K mg base CX0 2 f fd ["thing"] (lift K zbv) :=
 F.okB zfD zeA rfl fun _ _ _ _ _ _ hr=>have nd:=zeA.nd;⟨_,(zj (zak (zgd (zf6 (zq h_is_number hr (qa1 (qv 0)))))
  (zj zai)
  zK)),fun _=>by infer_instance⟩
theorem znW(F:Fun K "of" "Table.of" zfX f fd)(B:Blt mg)(h_starts_by_way:zec P w K mg base):zV P w K mg base CX0 2 f fd ["self","name","way"] (lift K zcJ) :=
 F.okB zj6 zhN rfl fun _ _ _ _ _ _ hr=>have nd:=zhN.nd;⟨_,(zf (qS 3 nd (zq h_starts_by_way hr (qa1 (zaK K (qv 0)))))
  (zf (zak (zH (zff (zbZ hr)) (zbj (qa2 (qv 1) (qv 2))) (qv 3) (by with_unfolding_all rfl))
  (zj zai)
  zK)
  (zj (zac (zdG (zbZ hr) (qv 3) (zbj (qa2 (qv 1) (qv 2)))))))),fun _=>by infer_instance⟩
theorem znG(F:Fun K "_law_pick" "_law_pick" zgg f fd)(B:Blt mg)(h_law_draw:za4 P w K mg base):zV P w K mg base CX0 2 f fd ["_law_s","_law_row_here"] (lift K zbU) :=
 F.okB zjY zhW rfl fun _ _ _ _ _ _ hr=>have nd:=zhW.nd;⟨_,(zj (zac (qx K (qv 1) (zq h_law_draw hr (qa2 (qv 0) (zA (zZ K) rfl B.len zaA (qa1 (qv 1)))))))),fun _=>by infer_instance⟩
theorem zm8(F:Fun K "_law_name" "_law_name" zgh f fd)(B:Blt mg)(h_law_draw:za4 P w K mg base):zV P w K mg base CX0 2 f fd ["_law_s","_law_names"] (lift K zau) :=
 F.okB zjC zie rfl fun _ _ _ _ _ _ hr=>have nd:=zie.nd;⟨_,(zf (qS 2 nd zhA)
  (zf (za2 PassesOwn.never rfl (zb2 rfl B.range (qa1 zc)) (qG 3 nd)
  (zf (qS 4 nd (zO (zW K) zc (zq h_law_draw hr (qa2 (qv 0) zc))))
  (zf (zak (zH (zd5 K hr) (qv 4) zc (zap _))
  (zj (qS 4 nd (zO (zW K) zc (zq h_law_draw hr (qa2 (qv 0) zc)))))
  zK)
  (zf (qS 5 nd (zbS K PySem.F.plainAttrs_str PySem.F.slot_str_join PySem.F.type_str_join (zsL K) zhA (qa1 (zdU ["_law_k"] ["_law_letters","_law_s"] [2,0] (.of rfl (by decide+kernel) rfl) rfl rfl (by decide+kernel) (zb2 rfl B.range (qa1 (qv 4))) (fun _ _ _ _=>(zaH (i:=0) (show List.Nodup (["_law_k","_law_letters","_law_s"]:List Str) by decide+kernel) rfl (Or.inl rfl))) (fun _ _ _ _=>zb9) (fun _ _ _ _=>(qx K (qv 1) (zq h_law_draw hr (qa2 (qv 2) zc))))))))
  (zj (zak (zH (zba K hr) (qv 5) (qv 1) (by with_unfolding_all rfl))
  (zf (zL (zbS K PySem.F.plainAttrs_list PySem.F.slot_list_append PySem.F.type_list_append zay (qv 1) (qa1 (qv 5))))
  (zj (zac (qv 5))))
  zK))))))
  (zf (za2 PassesOwn.never rfl (zb2 rfl B.range (qa1 zc)) (qG 6 nd)
  (zf (qS 5 nd (zO zna (qx K (qv 2) (zO zhb (qv 6) zc)) (zO (zW K) zc (zO zeC (qv 6) zc))))
  (zj (zak (zH (zba K hr) (qv 5) (qv 1) (by with_unfolding_all rfl))
  (zf (zL (zbS K PySem.F.plainAttrs_list PySem.F.slot_list_append PySem.F.type_list_append zay (qv 1) (qa1 (qv 5))))
  (zj (zac (qv 5))))
  zK))))
  (zj (zac zhA))))),fun _=>by infer_instance⟩
theorem zjz(F:Fun K "_law_rows_of" "_law_rows_of" zdp f fd)(B:Blt mg)(h_law_spots:zeF P w K mg base):zV P w K mg base CX0 2 f fd ["_law_rows","_law_starts"] (lift K zbw) :=
 F.okB zfC zeN rfl fun _ _ _ _ _ _ hr=>have nd:=zeN.nd;⟨_,(zf (zaR (qS 2 nd (zbA zcv)))
  (zf (za2 PassesOwn.never rfl (zmV K rfl B.enumerate (qa1 (zq h_law_spots hr (qa1 (qv 0))))) (zc9 (n:=2) K rfl (zT (qG 3 nd) (zT (zc9 (n:=4) K rfl (zT (qG 4 nd) (zT (qG 5 nd) (zT (qG 6 nd) (zT (qG 7 nd) zcA))))) zcA)))
  (zj (zak (zH (zd5 K hr) (qv 6) zc (zap _))
  (zj (zL (zbS K PySem.F.plainAttrs_list PySem.F.slot_list_append PySem.F.type_list_append zay (qv 2) (qa1 (zbj (zy (qx K (qv 4) zc) (qa2 (qv 5) (zbj (qa1 (qx K (qv 1) (qv 3)))))))))))
  (zj (zg7 (zO (zW K) (zex (ziP K) (qx K (qv 2) (zdy zb0 zc)) ziX (zcB zc)) (zbj (qa1 (zO (zW K) (qx K (qx K (qv 2) (zdy zb0 zc)) zc) (zbj (qa1 (qx K (qv 1) (qv 3)))))))) (zhh (qv 2) (zdy zb0 zc) set_list))))))
  (zjO 2 (zj (zac (qv 2)))))),fun _=>by infer_instance⟩
theorem zks(F:Fun K "check_name" "check_name" zd4 f fd)(B:Blt mg)(h_is_name:zhf P w K mg base):zV P w K mg base CX0 3 f fd ["text"] (lift K za7) :=
 F.okB zgA zfv rfl fun _ _ _ _ _ _ hr=>have nd:=zfv.nd;⟨_,(zj (zak (zgd (zf6 (zq h_is_name hr (qa1 (qv 0)))))
  (zj zai)
  zK)),fun _=>by infer_instance⟩
theorem ziG(F:Fun K "check_number" "check_number" zcV f fd)(B:Blt mg)(h_check_whole:zfJ P w K mg base):zV P w K mg base CX0 3 f fd ["number","least","most"] (lift K zam) :=
 F.okB zeT zd7 rfl fun _ _ _ _ _ _ hr=>have nd:=zd7.nd;⟨_,(zf (zL (zq h_check_whole hr (qa1 (qv 0))))
  (zj (zak (zgd (znU zkf zkf (qv 1) (qv 0) (qv 2)))
  (zj zai)
  zK))),fun _=>by infer_instance⟩
theorem zl1(F:Fun K "check_way" "check_way" zeO f fd)(B:Blt mg)(h_is_name:zhf P w K mg base){a_WAY_LENGTHS:Addr}(c_WAY_LENGTHS:mg "WAY_LENGTHS"=some (.ref a_WAY_LENGTHS))[KTup K a_WAY_LENGTHS [3,5,7]]:zV P w K mg base CX0 3 f fd ["way"] (lift K zcf) :=
 F.okB zij zgy rfl fun _ _ _ _ _ _ hr=>have nd:=zgy.nd;⟨_,(zf (zak (zH (zba K hr) (zA (zZ K) rfl B.len zaA (qa1 (qv 0))) (zcd (v:= .ref a_WAY_LENGTHS) rfl c_WAY_LENGTHS rfl) (by with_unfolding_all rfl))
  (zj zai)
  zK)
  (zf (zak (zgd (zf6 (zA (zhg K) rfl B.all zov (qa1 (zdU ["text"] [] [] (.of rfl (by decide+kernel) rfl) rfl rfl (by decide+kernel) (zar K (qv 0)) (fun _ _ _ _=>(zaH (i:=0) (show List.Nodup (["text"]:List Str) by decide+kernel) rfl (Or.inl rfl))) (fun _ _ _ _=>zb9) (fun _ _ _ _=>(zq h_is_name hr (qa1 (qv 0)))))))))
  (zj zai)
  zK)
  (zj (zak (zH zki (zA (zgH) rfl B.len zaA (qa1 (za1 (zlg K) rfl B.set zub (qa1 (qv 0))))) (zA (zZ K) rfl B.len zaA (qa1 (qv 0))) (zap _))
  (zj zai)
  zK)))),fun _=>by infer_instance⟩
theorem znS(F:Fun K "worst" "worst" zl3 f fd)(B:Blt mg)(hT_Table_of_3:zfA P w K mg base)(hT_Net_ends_2:zfx P w K mg base):zV P w K mg base CX0 3 f fd ["net","frame","table","slack"] (lift K zcL) :=
 F.okB zp9 zn3 rfl fun _ _ _ _ _ _ hr=>have nd:=zn3.nd;⟨_,(zf (zaR (qS 4 nd (zbA zcv)))
  (zf (za2 PassesOwn.never rfl (zjm K rfl B.enumerate (qa1 (zaK K (qv 1)))) (zc9 (n:=2) K rfl (zT (qG 5 nd) (zT (qG 6 nd) zcA)))
  (zf (qS 7 nd (qx K (za6 (pl:=_) K hT_Table_of_3 hr (qv 2) (qa2 (zaK K (qv 1)) (qv 5)) zbC) (zdy zb0 zc)))
  (zf (qS 8 nd (qx K (za6 (pl:=_) K hT_Net_ends_2 hr (qv 0) (qa1 (qx K (qv 6) (zdy zb0 zc))) zbC) zc))
  (zj (zL (zbS K PySem.F.plainAttrs_list PySem.F.slot_list_append PySem.F.type_list_append zay (qv 4) (qa1 (zbj (qa2 (zO (zW K) (zO (zW K) (zO (zW K) (zO zd0 (qv 7) (zaK K (qv 1))) (zaK K (qv 1))) (qv 8)) (qv 3)) (qv 5))))))))))
  (zj (zac (zA (zrq K (zbZ hr)) rfl B.min zoH (qa1 (qv 4))))))),fun _=>by infer_instance⟩
theorem zpj(F:Fun K "_law_hop" "_law_hop" zhz f fd)(B:Blt mg)(h_law_draw:za4 P w K mg base)(h_law_pick:zfT P w K mg base)(h_law_name:zd2 P w K mg base):zV P w K mg base CX0 3 f fd ["_law_s","_law_names","_law_lines","_law_one","_law_two","_law_barred"] (lift K zci) :=
 F.okB zlm zi2 rfl fun _ _ _ _ _ _ hr=>have nd:=zi2.nd;⟨_,(zf (ze6 ["_law_line"] ["_law_barred","_law_one"] [5,3] (i:=6) nd rfl rfl (.of rfl (by decide+kernel) rfl) rfl rfl (by decide+kernel) (zar K (qv 2)) (fun _ _ _ _=>(zaH (i:=0) (show List.Nodup (["_law_line","_law_barred","_law_one"]:List Str) by decide+kernel) rfl (Or.inl rfl))) (fun _ _ _ _=>(ziN (WW.qt (zta (zH (zba K hr) (qx K (qv 0) zc) (qv 1) (by with_unfolding_all rfl)) (zp3 (WW.qt (zgx (zH (zlW K hr) (qv 2) (qx K (qv 0) zc) (by with_unfolding_all rfl)) (zeV (zH zki (zA (zZ K) rfl B.len zaA (qa1 (qx K (qv 0) zc))) zc (zap _)))))))))) (fun _ _ _ _=>(qv 0)))
  (zf (ze6 ["_law_line"] ["_law_two"] [4] (i:=6) nd rfl rfl (.of rfl (by decide+kernel) rfl) rfl rfl (by decide+kernel) (zar K (qv 6)) (fun _ _ _ _=>(zaH (i:=0) (show List.Nodup (["_law_line","_law_two"]:List Str) by decide+kernel) rfl (Or.inl rfl))) (fun _ _ _ _=>(ziN (WW.qt (zgx (zH (zlW K hr) (qv 1) (qx K (qv 0) zc) (by with_unfolding_all rfl)) (zeV (zH zki (zA (zZ K) rfl B.len zaA (qa1 (qx K (qv 0) zc))) zc (zap _))))))) (fun _ _ _ _=>(qv 0)))
  (zf (zak (WW.qt (zta (zH zki (zA (zZ K) rfl B.len zaA (qa1 (qv 2))) zc (zap _)) (zp3 (WW.qt (zgx (zH (zd5 K hr) (zA (zZ K) rfl B.len zaA (qa1 (qv 6))) zc (zap _)) (zeV (zH (zd5 K hr) (zq h_law_draw hr (qa2 (qv 0) zc)) zc (zap _))))))))
  (zf (zL (zbS K PySem.F.plainAttrs_list PySem.F.slot_list_append PySem.F.type_list_append zay (qv 2) (qa1 (zbA (zy (zq h_law_name hr (qa2 (qv 0) (qv 1))) (zy (zpr (zbA (qa1 (qv 3)))) (qa2 (zpr (zbA (qa1 (qv 4)))) (zq h_law_draw hr (qa2 (qv 0) zc)))))))))
  (zj (zac (qx K (qx K (qv 2) (zdy zb0 zc)) zc))))
  zK)
  (zf (qS 7 nd (zq h_law_pick hr (qa2 (qv 0) (qv 6))))
  (zf (zak (zH (zba K hr) (qv 3) (qx K (qv 7) zc) (by with_unfolding_all rfl))
  (zj (zL (zbS K PySem.F.plainAttrs_list PySem.F.slot_list_append PySem.F.type_list_append zay (qx K (qv 7) zc) (qa1 (qv 3)))))
  zK)
  (zf (zak (zH (zba K hr) (qv 4) (qx K (qv 7) zc) (by with_unfolding_all rfl))
  (zj (zL (zbS K PySem.F.plainAttrs_list PySem.F.slot_list_append PySem.F.type_list_append zay (qx K (qv 7) zc) (qa1 (qv 4)))))
  zK)
  (zj (zac (qx K (qv 7) zc))))))))),fun _=>by infer_instance⟩
theorem zhe(F:Fun K "check_new" "Net.check_new" zcp f fd)(B:Blt mg)(h_check_name:zdT P w K mg base):zV P w K mg base CX0 4 f fd ["self","name"] (lift K zaI) :=
 F.okB zeg zdI rfl fun _ _ _ _ _ _ hr=>have nd:=zdI.nd;⟨_,(zf (zL (zq h_check_name hr (qa1 (qv 1))))
  (zj (zak (zH (zsW (zbZ hr)) (qv 1) (zaK K (qv 0)) (by with_unfolding_all rfl))
  (zj zai)
  zK))),fun _=>by infer_instance⟩
theorem zkB(F:Fun K "check_ways" "check_ways" zd3 f fd)(B:Blt mg)(h_check_both_ways:zdi P w K mg base)(h_check_way:zii P w K mg base):zV P w K mg base CX0 4 f fd ["ways"] (lift K zbM) :=
 F.okB zgQ zfz rfl fun _ _ _ _ _ _ hr=>have nd:=zfz.nd;⟨_,(zf (zak (zH (zba K hr) (zA (zZ K) rfl B.len zaA (qa1 (qv 0))) (zbj (qa2 zc zc)) (by with_unfolding_all rfl))
  (zj zai)
  zK)
  (zf (za2 PassesOwn.never rfl (zar K (qv 0)) (qG 1 nd)
  (zj (zL (zq h_check_way hr (qa1 (qv 1))))))
  (zj (zak (zH (zd5 K hr) (zA (zZ K) rfl B.len zaA (qa1 (qv 0))) zc (zap _))
  (zj (zL (zq h_check_both_ways hr (qa2 (qx K (qv 0) zc) (qx K (qv 0) zc)))))
  zK)))),fun _=>by infer_instance⟩
theorem zog(F:Fun K "_law_way" "_law_way" zha f fd)(B:Blt mg)(h_law_draw:za4 P w K mg base)(h_law_pick:zfT P w K mg base)(h_law_hop:zkP P w K mg base):zV P w K mg base CX0 4 f fd ["_law_s","_law_names","_law_lines","_law_gates","_law_first","_law_the_last","_law_barred"] (lift K zcj) :=
 F.okB zla zjq rfl fun _ _ _ _ _ _ hr=>have nd:=zjq.nd;⟨_,(zf (ze6 ["_law_gate"] ["_law_barred"] [6] (i:=7) nd rfl rfl (.of rfl (by decide+kernel) rfl) rfl rfl (by decide+kernel) (zar K (qv 3)) (fun _ _ _ _=>(zaH (i:=0) (show List.Nodup (["_law_gate","_law_barred"]:List Str) by decide+kernel) rfl (Or.inl rfl))) (fun _ _ _ _=>(ziN (zH (zba K hr) (qv 0) (qv 1) (by with_unfolding_all rfl)))) (fun _ _ _ _=>(qv 0)))
  (zf (zaR (qS 8 nd (zbA (qa1 (qv 4)))))
  (zf (za2 PassesOwn.never rfl (zb2 rfl B.range (qa1 (zA (zhv K) rfl B.min zoH (qa2 (zq h_law_draw hr (qa2 (qv 0) zc)) (zA (zZ K) rfl B.len zaA (qa1 (qv 7))))))) (qG 9 nd)
  (zf (qS 10 nd (zq h_law_pick hr (qa2 (qv 0) (qv 7))))
  (zf (ze6 ["_law_other"] ["_law_gate"] [10] (i:=7) nd rfl rfl (.of rfl (by decide+kernel) rfl) rfl rfl (by decide+kernel) (zar K (qv 7)) (fun _ _ _ _=>(zaH (i:=0) (show List.Nodup (["_law_other","_law_gate"]:List Str) by decide+kernel) rfl (Or.inl rfl))) (fun _ _ _ _=>(ziN (zH (zjP K hr) (qv 0) (qv 1) (zap _)))) (fun _ _ _ _=>(qv 0)))
  (zf (zL (zbS K PySem.F.plainAttrs_list PySem.F.slot_list_append PySem.F.type_list_append zay (qv 8) (qa1 (zq h_law_hop hr (zy (qv 0) (zy (qv 1) (zy (qv 2) (zy (qx K (qv 8) (zdy zb0 zc)) (qa2 (qv 10) (zO (zW K) (qv 6) (qv 8)))))))))))
  (zj (zL (zbS K PySem.F.plainAttrs_list PySem.F.slot_list_append PySem.F.type_list_append zay (qv 8) (qa1 (qv 10)))))))))
  (zf (zL (zbS K PySem.F.plainAttrs_list PySem.F.slot_list_append PySem.F.type_list_append zay (qv 8) (qa1 (zq h_law_hop hr (zy (qv 0) (zy (qv 1) (zy (qv 2) (zy (qx K (qv 8) (zdy zb0 zc)) (qa2 (qv 5) (zO (zW K) (qv 6) (qv 8)))))))))))
  (zf (zL (zbS K PySem.F.plainAttrs_list PySem.F.slot_list_append PySem.F.type_list_append zay (qv 8) (qa1 (qv 5))))
  (zj (zac (za1 (zbE K) rfl B.tuple zcT (qa1 (qv 8)))))))))),fun _=>by infer_instance⟩
theorem znK(F:Fun K "line" "Net.line" zfZ f fd)(B:Blt mg)(h_check_ends:zgW P w K mg base)(h_check_number:zc1 P w K mg base)(hT_Net_check_new_2:zbB P w K mg base)(hT_Net_check_nodes_2:zck P w K mg base){u_MOST_LINES:Value}(c_MOST_LINES:mg "MOST_LINES"=some u_MOST_LINES)(c_MOST_LINES_r:RelV (.int 16) u_MOST_LINES){u_MOST_WIRE:Value}(c_MOST_WIRE:mg "MOST_WIRE"=some u_MOST_WIRE)(c_MOST_WIRE_r:RelV (.int 30) u_MOST_WIRE):zV P w K mg base CX0 5 f fd ["self","name","senders","ears","wire"] (lift K zcI) :=
 F.okB zjB zit rfl fun _ _ _ _ _ _ hr=>have nd:=zit.nd;⟨_,(zf (zL (za6 (pl:=_) K hT_Net_check_new_2 hr (qv 0) (qa1 (qv 1)) zbC))
  (zf (zak (zH ztj (zA zgc rfl B.len zaA (qa1 (zaK K (qv 0)))) (zcd rfl c_MOST_LINES c_MOST_LINES_r) (zap _))
  (zj zai)
  zK)
  (zf (zL (zq h_check_ends hr (qa1 (qv 2))))
  (zf (zL (zq h_check_ends hr (qa1 (qv 3))))
  (zf (zL (za6 (pl:=_) K hT_Net_check_nodes_2 hr (qv 0) (qa1 (qv 2)) zbC))
  (zf (zL (za6 (pl:=_) K hT_Net_check_nodes_2 hr (qv 0) (qa1 (qv 3)) zbC))
  (zf (zL (zq h_check_number hr (zy (qv 4) (qa2 zc (zcd rfl c_MOST_WIRE c_MOST_WIRE_r)))))
  (zf (zgB (zbZ hr) (zaK K (qv 0)) (qv 1) zhA)
  (zj (zgB (zbZ hr) (zaK K (qv 0)) (qv 1) (zbj (zy (za1 (zbE K) rfl B.tuple zcT (qa1 (zA (zfS K) rfl B.sorted ze8 (qa1 (qv 2))))) (qa2 (za1 (zbE K) rfl B.tuple zcT (qa1 (zA (zfS K) rfl B.sorted ze8 (qa1 (qv 3))))) (qv 4)))))))))))))),fun _=>by infer_instance⟩
theorem ziC(F:Fun K "put_node" "Net.put_node" zcR f fd)(B:Blt mg)(hT_Net_check_new_2:zbB P w K mg base){u_MOST_NODES:Value}(c_MOST_NODES:mg "MOST_NODES"=some u_MOST_NODES)(c_MOST_NODES_r:RelV (.int 16) u_MOST_NODES):zV P w K mg base CX0 5 f fd ["self","name","kind"] (lift K zaM) :=
 F.okB zey zd9 rfl fun _ _ _ _ _ _ hr=>have nd:=zd9.nd;⟨_,(zf (zL (za6 (pl:=_) K hT_Net_check_new_2 hr (qv 0) (qa1 (qv 1)) zbC))
  (zf (zak (zH ztj (zO zd0 (zA zgc rfl B.len zaA (qa1 (zaK K (qv 0)))) (zA zgc rfl B.len zaA (qa1 (zaK K (qv 0))))) (zcd rfl c_MOST_NODES c_MOST_NODES_r) (zap _))
  (zj zai)
  zK)
  (zj (zgB (zbZ hr) (zaK K (qv 0)) (qv 1) (qv 2))))),fun _=>by infer_instance⟩
theorem ziD(F:Fun K "__init__" "Frame.__init__" zcS f fd)(B:Blt mg)(h_check_name:zdT P w K mg base)(h_check_number:zc1 P w K mg base)(h_check_ways:zgT P w K mg base){u_MOST_LONG:Value}(c_MOST_LONG:mg "MOST_LONG"=some u_MOST_LONG)(c_MOST_LONG_r:RelV (.int 30) u_MOST_LONG){u_LAST:Value}(c_LAST:mg "LAST"=some u_LAST)(c_LAST_r:RelV (.int 480) u_LAST){a_ROUNDS:Addr}(c_ROUNDS:mg "ROUNDS"=some (.ref a_ROUNDS))[KTup K a_ROUNDS [4,5,6,8,10,12,15,20,24,30,40,60,120]]:zV P w K mg base CX0 5 f fd ["self","name","ways","every","long","release","last"] (lift K zaw) :=
 F.okB zeI zeh rfl fun _ _ _ _ _ _ hr=>have nd:=zeh.nd;⟨_,(zf (zL (zq h_check_name hr (qa1 (qv 1))))
  (zf (zL (zq h_check_ways hr (qa1 (qv 2))))
  (zf (zak (zH (zba K hr) (qv 3) (zcd (v:= .ref a_ROUNDS) rfl c_ROUNDS rfl) (by with_unfolding_all rfl))
  (zj zai)
  zK)
  (zf (zL (zq h_check_number hr (zy (qv 4) (qa2 zc (zcd rfl c_MOST_LONG c_MOST_LONG_r)))))
  (zf (zL (zq h_check_number hr (zy (qv 5) (qa2 zc (zO zd0 (qv 3) zc)))))
  (zf (zL (zq h_check_number hr (zy (qv 6) (qa2 zc (zcd rfl c_LAST c_LAST_r)))))
  (zf (zcE K (qv 0) (qv 1))
  (zf (zcE K (qv 0) (qv 2))
  (zf (zcE K (qv 0) (qv 3))
  (zf (zcE K (qv 0) (qv 4))
  (zf (zcE K (qv 0) (qv 5))
  (zj (zcE K (qv 0) (qv 6)))))))))))))),fun _=>by infer_instance⟩
theorem zok(F:Fun K "_law_row" "_law_row" zhn f fd)(B:Blt mg)(h_law_draw:za4 P w K mg base)(h_law_need:zjW P w K mg base)(h_law_name:zd2 P w K mg base)(h_law_way:zk0 P w K mg base):zV P w K mg base CX0 5 f fd ["_law_s","_law_names","_law_lines","_law_houses","_law_gates","_law_the_slack"] (lift K zdd) :=
 F.okB zkS zkg rfl fun _ _ _ _ _ _ hr=>have nd:=zkg.nd;⟨_,(zf (qS 6 nd (zq h_law_draw hr (qa2 (qv 0) (zA (zZ K) rfl B.len zaA (qa1 (qv 3))))))
  (zf (qS 7 nd (qx K (qv 3) (qv 6)))
  (zf (qS 8 nd (qx K (qv 3) (zO zhb (zO (zW K) (zO (zW K) (qv 6) zc) (zq h_law_draw hr (qa2 (qv 0) (zO zd0 (zA (zZ K) rfl B.len zaA (qa1 (qv 3))) zc)))) (zA (zZ K) rfl B.len zaA (qa1 (qv 3))))))
  (zf (zaR (qS 9 nd (zbA (qa1 (zq h_law_way hr (zy (qv 0) (zy (qv 1) (zy (qv 2) (zy (qv 4) (zy (qv 7) (qa2 (qv 8) (zbA zcv))))))))))))
  (zf (zak (zH (zd5 K hr) (zq h_law_draw hr (qa2 (qv 0) zc)) zc (zap _))
  (zj (zL (zbS K PySem.F.plainAttrs_list PySem.F.slot_list_append PySem.F.type_list_append zay (qv 9) (qa1 (zq h_law_way hr (zy (qv 0) (zy (qv 1) (zy (qv 2) (zy (qv 4) (zy (qv 7) (qa2 (qv 8) (za1 (zoQ K) rfl B.list zpF (qa1 (zex (ziP K) (qx K (qv 9) zc) (zcB zc) (zcB (zdy zb0 zc))))))))))))))))
  zK)
  (zf (qS 10 nd (qx K (zbA (zpI [12,8,20,24,10,30,15,40,60,12,120] rfl)) (zq h_law_draw hr (qa2 (qv 0) zc))))
  (zf (qS 11 nd (zO (zW K) zc (zq h_law_draw hr (qa2 (qv 0) (zA (zhv K) rfl B.min zoH (qa2 zc (zO zd0 (qv 10) (qv 5))))))))
  (zf (qS 12 nd (zbj (zy (zq h_law_name hr (qa2 (qv 0) (qv 1))) (zy (za1 (zbE K) rfl B.tuple zcT (qa1 (qv 9))) (zy (qv 10) (zy (qv 11) (qa2 (zq h_law_draw hr (qa2 (qv 0) (qv 10))) zc)))))))
  (zf (qS 13 nd (qx K (zbA (zy zc (zy zc (zy zc (zy (zO zeC (qv 10) zc) (zy zc (qa2 (zO zd0 (qv 10) zc) zc))))))) (zq h_law_draw hr (qa2 (qv 0) zc))))
  (zj (zac (zO (zW K) (zex (ziP K) (qv 12) ziX (zcB zc)) (zbj (qa1 (zO (zW K) (zq h_law_need hr (zy (qv 12) (qa2 (qv 2) (qv 5)))) (qv 13)))))))))))))))),fun _=>by infer_instance⟩
theorem zl9(F:Fun K "house" "Net.house" zeU f fd)(B:Blt mg)(hT_Net_put_node_3:zbV P w K mg base):zV P w K mg base CX0 6 f fd ["self","name"] (lift K zb8) :=
 F.okB zh2 zgj rfl fun _ _ _ _ _ _ hr=>have nd:=zgj.nd;⟨_,(zj (zL (za6 (pl:=_) K hT_Net_put_node_3 hr (qv 0) (qa2 (qv 1) zhA) zbC))),fun _=>by infer_instance⟩
theorem zm1(F:Fun K "gate" "Net.gate" zf8 f fd)(B:Blt mg)(hT_Net_put_node_3:zbV P w K mg base):zV P w K mg base CX0 6 f fd ["self","name"] (lift K zcC) :=
 F.okB zj0 zhQ rfl fun _ _ _ _ _ _ hr=>have nd:=zhQ.nd;⟨_,(zj (zL (za6 (pl:=_) K hT_Net_put_node_3 hr (qv 0) (qa2 (qv 1) zhA) zbC))),fun _=>by infer_instance⟩
theorem zmq(F:Fun K "_law_world" "_law_world" zez f fd)(B:Blt mg)(h_law_draw:za4 P w K mg base)(h_law_name:zd2 P w K mg base)(h_law_row:zlD P w K mg base):zV P w K mg base CX0 6 f fd ["_law_s","_law_the_most"] (lift K zce) :=
 F.okB zhY zg5 rfl fun _ _ _ _ _ _ hr=>have nd:=zg5.nd;⟨_,(zf (zaR (qS 2 nd (zbA zcv)))
  (zf (qS 3 nd (zdU ["_law_k"] ["_law_names","_law_s"] [2,0] (.of rfl (by decide+kernel) rfl) rfl rfl (by decide+kernel) (zb2 rfl B.range (qa1 (zO (zW K) zc (zq h_law_draw hr (qa2 (qv 0) zc))))) (fun _ _ _ _=>(zaH (i:=0) (show List.Nodup (["_law_k","_law_names","_law_s"]:List Str) by decide+kernel) rfl (Or.inl rfl))) (fun _ _ _ _=>zb9) (fun _ _ _ _=>(zq h_law_name hr (qa2 (qv 2) (qv 1))))))
  (zf (qS 4 nd (zdU ["_law_k"] ["_law_names","_law_s"] [2,0] (.of rfl (by decide+kernel) rfl) rfl rfl (by decide+kernel) (zb2 rfl B.range (qa1 (zq h_law_draw hr (qa2 (qv 0) zc)))) (fun _ _ _ _=>(zaH (i:=0) (show List.Nodup (["_law_k","_law_names","_law_s"]:List Str) by decide+kernel) rfl (Or.inl rfl))) (fun _ _ _ _=>zb9) (fun _ _ _ _=>(zq h_law_name hr (qa2 (qv 2) (qv 1))))))
  (zf (qS 5 nd (qx K (zbA (zpI [0,1,2,0,3,1,5,7] rfl)) (zq h_law_draw hr (qa2 (qv 0) zc))))
  (zf (zaR (qS 6 nd (zbA zcv)))
  (zf (ze6 ["_law_k"] ["_law_gates","_law_houses","_law_lines","_law_names","_law_s","_law_the_slack"] [4,3,6,2,0,5] (i:=7) nd rfl rfl (.of rfl (by decide+kernel) rfl) rfl rfl (by decide+kernel) (zb2 rfl B.range (qa1 (zO (zW K) zc (zq h_law_draw hr (qa2 (qv 0) (qv 1)))))) (fun _ _ _ _=>(zaH (i:=0) (show List.Nodup (["_law_k","_law_gates","_law_houses","_law_lines","_law_names","_law_s","_law_the_slack"]:List Str) by decide+kernel) rfl (Or.inl rfl))) (fun _ _ _ _=>zb9) (fun _ _ _ _=>(zq h_law_row hr (zy (qv 5) (zy (qv 4) (zy (qv 3) (zy (qv 2) (qa2 (qv 1) (qv 6)))))))))
  (zj (zac (zbj (zy (qv 3) (zy (qv 4) (zy (qv 6) (zy (qv 7) (qa2 (qv 5) (qv 2))))))))))))))),fun _=>by infer_instance⟩
theorem zon(F:Fun K "_law_net" "_law_net" zhC f fd)(B:Blt mg)(hM_NetD_initD_1:zd6 P w K mg base)(hT_Net_house_2:zep P w K mg base)(hT_Net_gate_2:zfO P w K mg base)(hT_Net_line_4_wire:zcP P w K mg base):zV P w K mg base CX0 7 f fd ["_law_world_here"] (lift K zdk) :=
 F.okB zkY zjX rfl fun _ _ _ _ _ _ hr=>have nd:=zjX.nd;⟨_,(zf (qS 1 nd (zrj K hM_NetD_initD_1 hr))
  (zf (za2 PassesOwn.never rfl (zar K (qx K (qv 0) zc)) (qG 2 nd)
  (zj (zL (za6 (pl:=_) K hT_Net_house_2 hr (qv 1) (qa1 (qv 2)) zbC))))
  (zf (za2 PassesOwn.never rfl (zar K (qx K (qv 0) zc)) (qG 2 nd)
  (zj (zL (za6 (pl:=_) K hT_Net_gate_2 hr (qv 1) (qa1 (qv 2)) zbC))))
  (zf (za2 PassesOwn.never rfl (zar K (qx K (qv 0) zc)) (zw9 (n:=4) (K:=K) rfl (zT (qG 2 nd) (zT (qG 3 nd) (zT (qG 4 nd) (zT (qG 5 nd) zcA)))))
  (zj (zL (za6 (pl:=_) K hT_Net_line_4_wire hr (qv 1) (zy (qv 2) (qa2 (za1 (zbE K) rfl B.tuple zcT (qa1 (qv 3))) (za1 (zbE K) rfl B.tuple zcT (qa1 (qv 4))))) (zfc (qv 5) zbC)))))
  (zj (zac (qv 1))))))),fun _=>by infer_instance⟩
theorem zmu(F:Fun K "_law_frame" "_law_frame" zeX f fd)(B:Blt mg)(hM_FrameD_initD_3_every_long_release_last:zag P w K mg base):zV P w K mg base CX0 7 f fd ["_law_row_here"] (lift K zbp) :=
 F.okB zhK zgt rfl fun _ _ _ _ _ _ hr=>have nd:=zgt.nd;⟨_,(zj (zac (znj K hM_FrameD_initD_3_every_long_release_last hr (qa2 (qx K (qv 0) zc) (qx K (qv 0) zc)) (zfc (qx K (qv 0) zc) (zfc (qx K (qv 0) zc) (zfc (qx K (qv 0) zc) (zfc (qx K (qv 0) zc) zbC))))))),fun _=>by infer_instance⟩
def zrU:DSp:=zP zsV zrW 1
theorem zxP(F:Fun K "law" "law" zs3 f fd)(B:Blt mg)(h_law_start:zig P w K mg base)(h_law_draw:za4 P w K mg base)(h_law_wire:zi7 P w K mg base)(h_law_spots:zeF P w K mg base)(h_law_whole:zhV P w K mg base)(h_law_rows_of:zfu P w K mg base)(h_law_world:zh7 P w K mg base)(h_law_net:zlG P w K mg base)(h_law_frame:zh0 P w K mg base)(hM_TableD_initD_2:zc7 P w K mg base)(hK_worst_3_slack:zdL P w K mg base)(hK_worst_3:zjU P w K mg base):zV P w K mg base CX0 8 f fd ["_law_script"] (lift K zrU) :=
 F.okB zsV zsD rfl fun _ _ _ _ _ _ hr=>have nd:=zsD.nd;⟨_,(zf (qS 1 nd (zq h_law_start hr (qa1 (qv 0))))
  (zf (qS 2 nd (zq h_law_world hr (qa2 (qv 1) zc)))
  (zf (qS 3 nd (zq h_law_net hr (qa1 (qv 2))))
  (zf (qS 4 nd (zq h_law_spots hr (qa1 (qx K (qv 2) zc))))
  (zf (zaR (ze6 ["_law_spot"] ["_law_s"] [1] (i:=5) nd rfl rfl (.of rfl (by decide+kernel) rfl) rfl rfl (by decide+kernel) (zar K (qv 4)) (fun _ _ _ _=>(zaH (i:=0) (show List.Nodup (["_law_spot","_law_s"]:List Str) by decide+kernel) rfl (Or.inl rfl))) (fun _ _ _ _=>zb9) (fun _ _ _ _=>(zO (zW K) (zq h_law_draw hr (qa2 (qv 1) zc)) (zO zna zc (qx K (qv 0) zc))))))
  (zf (qS 6 nd (zmr (zd5 K hr) (zq h_law_draw hr (qa2 (qv 1) zc)) zc (zap _)))
  (zf (zaR (qS 7 nd zmg))
  (zf (za2 PassesOwn.never rfl (zmV K rfl B.enumerate (qa1 (qv 4))) (zc9 (n:=2) K rfl (zT (qG 8 nd) (zT (zc9 (n:=4) K rfl (zT (qG 9 nd) (zT (qG 10 nd) (zT (qG 11 nd) (zT (qG 12 nd) zcA))))) zcA)))
  (zj (zak (zH (zd5 K hr) (zO (zW K) (qv 11) zc) (zO zeC (zA (zZ K) rfl B.len zaA (qa1 (qx K (qx K (qv 9) zc) (qv 10)))) zc) (zap _))
  (zf (zak (zf6 (qv 6))
  (zj (zg7 (zO zd0 zc (zq h_law_wire hr (qa2 (qx K (qv 2) zc) (qv 12)))) (zhh (qv 5) (qv 8) set_list)))
  zK)
  (zf (qS 13 nd (zO (zW K) (zO (zW K) (zO (zW K) (zO zd0 (qx K (qv 5) (qv 8)) (qx K (qv 9) zc)) (qx K (qv 9) zc)) (zq h_law_wire hr (qa2 (qx K (qv 2) zc) (qv 12)))) (qx K (qv 2) zc)))
  (zj (zak (WW.qt (zgx (zH (zff (zbZ hr)) (qx K (qv 9) zc) (qv 7) (by with_unfolding_all rfl)) (zeV (zH zki (qv 13) (qx K (zdG (zbZ hr) (qv 7) (qx K (qv 9) zc)) zc) (zap _)))))
  (zj (zgB (zbZ hr) (qv 7) (qx K (qv 9) zc) (zbj (qa2 (qv 13) (qv 10)))))
  zK))))
  zK)))
  (zf (qS 14 nd (znj K hM_TableD_initD_2 hr (qa1 (zq h_law_rows_of hr (qa2 (qx K (qv 2) zc) (qv 5)))) zbC))
  (zf (za2 PassesOwn.never rfl (zar K (qx K (qv 2) zc)) (qG 9 nd)
  (zf (qS 15 nd (zkU hK_worst_3_slack hr (zy (qv 3) (qa2 (zq h_law_frame hr (qa1 (qv 9))) (qv 14))) (zfc (qx K (qv 2) zc) zbC)))
  (zf (zak (WW.qt (zgx (zgd (zf6 (zA (zcZ K) rfl B.isinstance zbu (qa2 (qv 15) (zgw (v:= .ty "tuple") rfl B.tuple zcT rfl))))) (zgx (zH (zjP K hr) (qv 15) (zdG (zbZ hr) (qv 7) (qx K (qv 9) zc)) (zap _)) (zeV (zgd (zf6 (zA (zhg K) rfl B.all zov (qa1 (zdU ["_law_x"] [] [] (.of rfl (by decide+kernel) rfl) rfl rfl (by decide+kernel) (zar K (qv 15)) (fun _ _ _ _=>(zaH (i:=0) (show List.Nodup (["_law_x"]:List Str) by decide+kernel) rfl (Or.inl rfl))) (fun _ _ _ _=>zb9) (fun _ _ _ _=>(zq h_law_whole hr (qa1 (qv 0)))))))))))))
  (zj (zac ztL))
  zK)
  (zj (zak (zH (zjP K hr) (zkU hK_worst_3 hr (zy (qv 3) (qa2 (zq h_law_frame hr (qa1 (qv 9))) (qv 14))) zbC) (zbj (qa2 (zO zd0 (qx K (zdG (zbZ hr) (qv 7) (qx K (qv 9) zc)) zc) (qx K (qv 2) zc)) (qx K (zdG (zbZ hr) (qv 7) (qx K (qv 9) zc)) zc))) (zap _))
  (zj (zac ztL))
  zK)))))
  (zj (zac ztL)))))))))))),fun _=>by infer_instance⟩
end
theorem zw2{l:PySem.W.OpenLaw}{w:World}{K:Frag}{h:Heap}{mg:Str->Option Value}{fa:Addr}(X:K.In h)(G:h.Ns mainGlobals mg)(hfa:mg "law"=some (.ref fa))
  {C_Net:Addr}(q_Net:zto K "Net" C_Net zcq)
  {C_Frame:Addr}(q_Frame:zto K "Frame" C_Frame zcl)
  {C_Table:Addr}(q_Table:zto K "Table" C_Table zdE)
  {f0:Addr}{d0:FuncData}(p0:zbH K "is_made_of" zdV f0 d0)
  {f1:Addr}{d1:FuncData}(p1:zbH K "is_name" zhw f1 d1)
  {f2:Addr}{d2:FuncData}(p2:zbH K "check_name" zd4 f2 d2)
  {f3:Addr}{d3:FuncData}(p3:zbH K "is_number" zet f3 d3)
  {f4:Addr}{d4:FuncData}(p4:zbH K "check_whole" zdv f4 d4)
  {f5:Addr}{d5:FuncData}(p5:zbH K "check_number" zcV f5 d5)
  {f6:Addr}{d6:FuncData}(p6:zga K C_Net "__init__" "Net.__init__" zdS f6 d6)
  {f7:Addr}{d7:FuncData}(p7:zga K C_Net "house" "Net.house" zeU f7 d7)
  {f8:Addr}{d8:FuncData}(p8:zga K C_Net "gate" "Net.gate" zf8 f8 d8)
  {f9:Addr}{d9:FuncData}(p9:zga K C_Net "line" "Net.line" zfZ f9 d9)
  {f10:Addr}{d10:FuncData}(p10:zga K C_Net "ends" "Net.ends" zfY f10 d10)
  {f11:Addr}{d11:FuncData}(p11:zga K C_Net "put_node" "Net.put_node" zcR f11 d11)
  {f12:Addr}{d12:FuncData}(p12:zga K C_Net "check_new" "Net.check_new" zcp f12 d12)
  {f13:Addr}{d13:FuncData}(p13:zga K C_Net "check_nodes" "Net.check_nodes" zbR f13 d13)
  {f14:Addr}{d14:FuncData}(p14:zbH K "check_ends" zdN f14 d14)
  {f15:Addr}{d15:FuncData}(p15:zga K C_Frame "__init__" "Frame.__init__" zcS f15 d15)
  {f16:Addr}{d16:FuncData}(p16:zbH K "check_ways" zd3 f16 d16)
  {f17:Addr}{d17:FuncData}(p17:zbH K "check_way" zeO f17 d17)
  {f18:Addr}{d18:FuncData}(p18:zbH K "check_both_ways" zbL f18 d18)
  {f19:Addr}{d19:FuncData}(p19:zbH K "starts_by_way" zct f19 d19)
  {f20:Addr}{d20:FuncData}(p20:zga K C_Table "__init__" "Table.__init__" zcW f20 d20)
  {f21:Addr}{d21:FuncData}(p21:zga K C_Table "of" "Table.of" zfX f21 d21)
  {f22:Addr}{d22:FuncData}(p22:zbH K "worst" zl3 f22 d22)
  {f23:Addr}{d23:FuncData}(p23:zbH K "_law_start" zeG f23 d23)
  {f24:Addr}{d24:FuncData}(p24:zbH K "_law_draw" zf4 f24 d24)
  {f25:Addr}{d25:FuncData}(p25:zbH K "_law_pick" zgg f25 d25)
  {f26:Addr}{d26:FuncData}(p26:zbH K "_law_name" zgh f26 d26)
  {f27:Addr}{d27:FuncData}(p27:zbH K "_law_hop" zhz f27 d27)
  {f28:Addr}{d28:FuncData}(p28:zbH K "_law_way" zha f28 d28)
  {f29:Addr}{d29:FuncData}(p29:zbH K "_law_need" zf7 f29 d29)
  {f30:Addr}{d30:FuncData}(p30:zbH K "_law_row" zhn f30 d30)
  {f31:Addr}{d31:FuncData}(p31:zbH K "_law_world" zez f31 d31)
  {f32:Addr}{d32:FuncData}(p32:zbH K "_law_net" zhC f32 d32)
  {f33:Addr}{d33:FuncData}(p33:zbH K "_law_frame" zeX f33 d33)
  {f34:Addr}{d34:FuncData}(p34:zbH K "_law_wire" zf3 f34 d34)
  {f35:Addr}{d35:FuncData}(p35:zbH K "_law_spots" zeZ f35 d35)
  {f36:Addr}{d36:FuncData}(p36:zbH K "_law_rows_of" zdp f36 d36)
  {f37:Addr}{d37:FuncData}(p37:zbH K "_law_whole" ze2 f37 d37)
  {f38:Addr}{d38:FuncData}(p38:zbH K "law" zs3 f38 d38)
  (z_len:nsIn K mainGlobals "len"=some none)
  (z_abs:nsIn K mainGlobals "abs"=some none)
  (z_max:nsIn K mainGlobals "max"=some none)
  (z_min:nsIn K mainGlobals "min"=some none)
  (z_all:nsIn K mainGlobals "all"=some none)
  (z_any:nsIn K mainGlobals "any"=some none)
  (z_sum:nsIn K mainGlobals "sum"=some none)
  (z_sorted:nsIn K mainGlobals "sorted"=some none)
  (z_isinstance:nsIn K mainGlobals "isinstance"=some none)
  (z_list:nsIn K mainGlobals "list"=some none)
  (z_tuple:nsIn K mainGlobals "tuple"=some none)
  (z_int:nsIn K mainGlobals "int"=some none)
  (z_bool:nsIn K mainGlobals "bool"=some none)
  (z_str:nsIn K mainGlobals "str"=some none)
  (z_set:nsIn K mainGlobals "set"=some none)
  (z_dict:nsIn K mainGlobals "dict"=some none)
  (z_zip:nsIn K mainGlobals "zip"=some none)
  (z_range:nsIn K mainGlobals "range"=some none)
  (z_enumerate:nsIn K mainGlobals "enumerate"=some none)
  (z_reversed:nsIn K mainGlobals "reversed"=some none)
  (z_repr:nsIn K mainGlobals "repr"=some none)
  {u_MOST_LONG:Value}(g_MOST_LONG:nsIn K mainGlobals "MOST_LONG"=some (some u_MOST_LONG))
  (v_MOST_LONG:zc0 u_MOST_LONG=some 30)
  {u_LAST:Value}(g_LAST:nsIn K mainGlobals "LAST"=some (some u_LAST))
  (v_LAST:zc0 u_LAST=some 480)
  {u_LETTERS:Value}(g_LETTERS:nsIn K mainGlobals "LETTERS"=some (some u_LETTERS))
  (v_LETTERS:zo3 u_LETTERS=some "abcdefghijklmnopqrstuvwxyz")
  {u_MOST_LETTERS:Value}(g_MOST_LETTERS:nsIn K mainGlobals "MOST_LETTERS"=some (some u_MOST_LETTERS))
  (v_MOST_LETTERS:zc0 u_MOST_LETTERS=some 8)
  {u_MOST_LINES:Value}(g_MOST_LINES:nsIn K mainGlobals "MOST_LINES"=some (some u_MOST_LINES))
  (v_MOST_LINES:zc0 u_MOST_LINES=some 16)
  {u_MOST_WIRE:Value}(g_MOST_WIRE:nsIn K mainGlobals "MOST_WIRE"=some (some u_MOST_WIRE))
  (v_MOST_WIRE:zc0 u_MOST_WIRE=some 30)
  {u_MOST_ENDS:Value}(g_MOST_ENDS:nsIn K mainGlobals "MOST_ENDS"=some (some u_MOST_ENDS))
  (v_MOST_ENDS:zc0 u_MOST_ENDS=some 6)
  {u_MOST_NODES:Value}(g_MOST_NODES:nsIn K mainGlobals "MOST_NODES"=some (some u_MOST_NODES))
  (v_MOST_NODES:zc0 u_MOST_NODES=some 16)
  {aT_ROUNDS:Addr}(g_ROUNDS:nsIn K mainGlobals "ROUNDS"=some (some (.ref aT_ROUNDS)))
  {oT_ROUNDS:Obj}(lo_ROUNDS:K.lookup aT_ROUNDS=some oT_ROUNDS)
  (ti_ROUNDS:ziL oT_ROUNDS=some ([4,5,6,8,10,12,15,20,24,30,40,60,120]:List Int))
  {aT_WAY_LENGTHS:Addr}(g_WAY_LENGTHS:nsIn K mainGlobals "WAY_LENGTHS"=some (some (.ref aT_WAY_LENGTHS)))
  {oT_WAY_LENGTHS:Obj}(lo_WAY_LENGTHS:K.lookup aT_WAY_LENGTHS=some oT_WAY_LENGTHS)
  (ti_WAY_LENGTHS : ziL oT_WAY_LENGTHS = some ([3, 5, 7] : List Int))
   (d_TableD_initD_2:zdl K d20 ["self","rows"] [] 2 0 [.p 0, .p 1] [])
   (d_worst_3_slack:zdl K d22 ["net","frame","table","slack"] ["slack"] 3 1 [.p 0, .p 1, .p 2, .k 0] [])
  {tk_worst_3_0 : Tok}(d_worst_3 : zdl K d22 ["net", "frame", "table", "slack"] [] 3 0 [.p 0, .p 1, .p 2, .c 0] [Value.int 0 tk_worst_3_0])
   (d_Table_of_3:zdl K d21 ["self","name","way"] [] 3 0 [.p 0, .p 1, .p 2] [])
   (d_Net_ends_2:zdl K d10 ["self","name"] [] 2 0 [.p 0, .p 1] [])
   (d_FrameD_initD_3_every_long_release_last:zdl K d15 ["self","name","ways","every","long","release","last"] ["every","long","release","last"] 3 4 [.p 0, .p 1, .p 2, .k 0, .k 1, .k 2, .k 3] [])
   (d_NetD_initD_1:zdl K d6 ["self"] [] 1 0 [.p 0] [])
   (d_Net_house_2:zdl K d7 ["self","name"] [] 2 0 [.p 0, .p 1] [])
   (d_Net_gate_2:zdl K d8 ["self","name"] [] 2 0 [.p 0, .p 1] [])
   (d_Net_line_4_wire:zdl K d9 ["self","name","senders","ears","wire"] ["wire"] 4 1 [.p 0, .p 1, .p 2, .p 3, .k 0] [])
   (d_Net_check_new_2:zdl K d12 ["self","name"] [] 2 0 [.p 0, .p 1] [])
   (d_Net_check_nodes_2:zdl K d13 ["self","ends"] [] 2 0 [.p 0, .p 1] [])
   (d_Net_put_node_3:zdl K d11 ["self","name","kind"] [] 3 0 [.p 0, .p 1, .p 2] [])
  : ∃fd:FuncData,(∀(s:Shared) (v:Value),BindsTo s fd ⟨[v],[]⟩ [("_law_script",v)])/\∀base:Heap,K.In base->base.Ns mainGlobals mg->zV l.prog w K mg base CX0 8 fa fd ["_law_script"] (zpM K):=by
 have e:=hfa.symm.trans (mg_of X G p38.at_);cases e;have B:Blt mg:=⟨mg_none_of X G z_len,mg_none_of X G z_abs,mg_none_of X G z_max,mg_none_of X G z_min,mg_none_of X G z_all,mg_none_of X G z_any,mg_none_of X G z_sum,mg_none_of X G z_sorted,mg_none_of X G z_isinstance,mg_none_of X G z_list,mg_none_of X G z_tuple,mg_none_of X G z_int,mg_none_of X G z_bool,mg_none_of X G z_str,mg_none_of X G z_set,mg_none_of X G z_dict,mg_none_of X G z_zip,mg_none_of X G z_range,mg_none_of X G z_enumerate,mg_none_of X G z_reversed,mg_none_of X G z_repr⟩;haveI tk:TabOk K tab:=zgi (zcg q_Net.at_) q_Net.cl q_Net.na (zgi (zcg q_Frame.at_) q_Frame.cl q_Frame.na (zgi (zcg q_Table.at_) q_Table.cl q_Table.na (zq0)))
 haveI kt_ROUNDS:KTup K aT_ROUNDS [4,5,6,8,10,12,15,20,24,30,40,60,120]:=⟨fun H=>zsb lo_ROUNDS ti_ROUNDS H⟩
 haveI kt_WAY_LENGTHS:KTup K aT_WAY_LENGTHS [3,5,7]:=⟨fun H=>zsb lo_WAY_LENGTHS ti_WAY_LENGTHS H⟩
 haveI ic_Net:ztS K "Net" C_Net:=⟨zcg q_Net.at_⟩
 haveI ic_Frame:ztS K "Frame" C_Frame:=⟨zcg q_Frame.at_⟩
 haveI ic_Table:ztS K "Table" C_Table:=⟨zcg q_Table.at_⟩
 refine⟨d38,fun s v=>by obtain⟨e,y⟩:=p38;obtain⟨_,_,kV,_,_,_,_,_,_,rfl,_,_⟩:=e.F.ex;have y1:kV.1= .none:=y;exact .of_eq (by rw[y1];rfl),fun base _ _=>?_⟩;have h_is_made_of:zgu l.prog w K mg base:=p0.has p0.bd X G (zkt p0.F B );have h_is_number:zhX l.prog w K mg base:=p3.has p3.bd X G (zlU p3.F B );have hM_NetD_initD_1:zd6 l.prog w K mg base:=p6.hasM q_Net X G (zkw p6.F B ) (kbk d_NetD_initD_1 .nil);have hT_Net_ends_2:zfx l.prog w K mg base:=p10.hasT q_Net (zn5 p10.F B ) (kbk d_Net_ends_2 .nil);have hT_Net_check_nodes_2:zck l.prog w K mg base:=p13.hasT q_Net (zgb p13.F B ) (kbk d_Net_check_nodes_2 .nil);have h_check_ends:zgW l.prog w K mg base:=p14.has p14.bd X G (zkr p14.F B (mg_of X G g_MOST_ENDS) (za5 v_MOST_ENDS));have h_check_both_ways:zdi l.prog w K mg base:=p18.has p18.bd X G (zf1 p18.F B );have h_starts_by_way:zec l.prog w K mg base:=p19.has p19.bd X G (zhB p19.F B );have hM_TableD_initD_2:zc7 l.prog w K mg base:=p20.hasM q_Table X G (ziA p20.F B ) (kbk d_TableD_initD_2 .nil);have h_law_start:zig l.prog w K mg base:=p23.has p23.bd X G (zsd p23.F B);have h_law_draw:za4 l.prog w K mg base:=p24.has p24.bd X G (zv3 p24.F B);have h_law_need:zjW l.prog w K mg base:=p29.has p29.bd X G (znF p29.F B );have h_law_wire:zi7 l.prog w K mg base:=p34.has p34.bd X G (zm0 p34.F B );have h_law_spots:zeF l.prog w K mg base:=p35.has p35.bd X G (zl5 p35.F B );have h_law_whole:zhV l.prog w K mg base:=p37.has p37.bd X G (zmd p37.F B );have h_is_name:zhf l.prog w K mg base:=p1.has p1.bd X G (zpa p1.F B h_is_made_of (mg_of X G g_LETTERS) (zos v_LETTERS) (mg_of X G g_MOST_LETTERS) (za5 v_MOST_LETTERS));have h_check_whole:zfJ l.prog w K mg base:=p4.has p4.bd X G (zj4 p4.F B h_is_number);have hT_Table_of_3:zfA l.prog w K mg base:=p21.hasT q_Table (znW p21.F B h_starts_by_way) (kbk d_Table_of_3 .nil);have h_law_pick:zfT l.prog w K mg base:=p25.has p25.bd X G (znG p25.F B h_law_draw);have h_law_name:zd2 l.prog w K mg base:=p26.has p26.bd X G (zm8 p26.F B h_law_draw);have h_law_rows_of:zfu l.prog w K mg base:=p36.has p36.bd X G (zjz p36.F B h_law_spots);have h_check_name:zdT l.prog w K mg base:=p2.has p2.bd X G (zks p2.F B h_is_name);have h_check_number:zc1 l.prog w K mg base:=p5.has p5.bd X G (ziG p5.F B h_check_whole);have h_check_way:zii l.prog w K mg base:=p17.has p17.bd X G (zl1 p17.F B h_is_name (mg_of X G g_WAY_LENGTHS));have hK_worst_3_slack:zdL l.prog w K mg base:=p22.hasK X G (znS p22.F B hT_Table_of_3 hT_Net_ends_2) (kbk d_worst_3_slack .nil);have hK_worst_3:zjU l.prog w K mg base:=p22.hasK X G (znS p22.F B hT_Table_of_3 hT_Net_ends_2) (kbk d_worst_3 (.cons ⟨_,rfl⟩ .nil));have h_law_hop:zkP l.prog w K mg base:=p27.has p27.bd X G (zpj p27.F B h_law_draw h_law_pick h_law_name);have hT_Net_check_new_2:zbB l.prog w K mg base:=p12.hasT q_Net (zhe p12.F B h_check_name) (kbk d_Net_check_new_2 .nil);have h_check_ways:zgT l.prog w K mg base:=p16.has p16.bd X G (zkB p16.F B h_check_both_ways h_check_way);have h_law_way:zk0 l.prog w K mg base:=p28.has p28.bd X G (zog p28.F B h_law_draw h_law_pick h_law_hop);have hT_Net_line_4_wire:zcP l.prog w K mg base:=p9.hasT q_Net (znK p9.F B h_check_ends h_check_number hT_Net_check_new_2 hT_Net_check_nodes_2 (mg_of X G g_MOST_LINES) (za5 v_MOST_LINES) (mg_of X G g_MOST_WIRE) (za5 v_MOST_WIRE)) (kbk d_Net_line_4_wire .nil);have hT_Net_put_node_3:zbV l.prog w K mg base:=p11.hasT q_Net (ziC p11.F B hT_Net_check_new_2 (mg_of X G g_MOST_NODES) (za5 v_MOST_NODES)) (kbk d_Net_put_node_3 .nil);have hM_FrameD_initD_3_every_long_release_last:zag l.prog w K mg base:=p15.hasM q_Frame X G (ziD p15.F B h_check_name h_check_number h_check_ways (mg_of X G g_MOST_LONG) (za5 v_MOST_LONG) (mg_of X G g_LAST) (za5 v_LAST) (mg_of X G g_ROUNDS)) (kbk d_FrameD_initD_3_every_long_release_last .nil);have h_law_row:zlD l.prog w K mg base:=p30.has p30.bd X G (zok p30.F B h_law_draw h_law_need h_law_name h_law_way);have hT_Net_house_2:zep l.prog w K mg base:=p7.hasT q_Net (zl9 p7.F B hT_Net_put_node_3) (kbk d_Net_house_2 .nil);have hT_Net_gate_2:zfO l.prog w K mg base:=p8.hasT q_Net (zm1 p8.F B hT_Net_put_node_3) (kbk d_Net_gate_2 .nil);have h_law_world:zh7 l.prog w K mg base:=p31.has p31.bd X G (zmq p31.F B h_law_draw h_law_name h_law_row);have h_law_net:zlG l.prog w K mg base:=p32.has p32.bd X G (zon p32.F B hM_NetD_initD_1 hT_Net_house_2 hT_Net_gate_2 hT_Net_line_4_wire);have h_law_frame:zh0 l.prog w K mg base:=p33.has p33.bd X G (zmu p33.F B hM_FrameD_initD_3_every_long_release_last);exact(zxP p38.F B h_law_start h_law_draw h_law_wire h_law_spots h_law_whole h_law_rows_of h_law_world h_law_net h_law_frame hM_TableD_initD_2 hK_worst_3_slack hK_worst_3).imp fun vs H Q E h=>zty zw3 (zsk vs H Q E h)
theorem walk{l:PySem.W.OpenLaw}{q:Program}{loose:List Str}{XP:(Str->Option Value)->Heap->Prop}{YP:World->Heap->Prop}{d:DefRec}{K:Params->Frag}(hn:l.most=some 63)(hdf:d.params.defaults=[])
  (hY:∀(w:World) (h:Heap),YP w h->(K w.params).In h)
  (F:∀(w:World) (mg:Str->Option Value) (fa:Addr) (h:Heap),(K w.params).In h->h.Ns mainGlobals mg->mg d.name=some (.ref fa) ->
   ∃fd:FuncData,(∀(s:Shared) (u:Value),BindsTo s fd ⟨[u],[]⟩ [("_law_script",u)])/\∀base:Heap,(K w.params).In base->base.Ns mainGlobals mg->zV l.prog w (K w.params) mg base CX0 8 fa fd ["_law_script"] (zpM (K w.params))) :
  PySem.W.WalkO q loose XP YP l.row.toRowW d [] (fun f vs=>PySem.call f vs) :=
 L2.zvr (n:=63) (k:=8) (x:="_law_script") (CX:=fun _=>CX0) (sp:=fun w=>zpM (K w.params)) hn (by decide) hdf ⟨fun _=>rfl,by decide,by decide,rfl⟩ hY F (fun _ _ a ns hl _ hS=>⟨a,ns,rfl,hS,hl,fun _=>rfl⟩) fun _ _ _ _ _ z=>z
end M
open PySem PySem.W PyProof.Rows L2
set_option maxRecDepth 100000 in
set_option maxHeartbeats 0 in
theorem PySem.Challenge.cw_slotwright_k31_worst_coming_holds : PySem.Challenge.rw_slotwright_k31_worst_coming.Holds := by
 refine H0.hd0 ?_;k_fill
 refine M.walk (l:=PySem.Challenge.rw_slotwright_k31_worst_coming) rfl rfl (fun w h Y=>PySem.W.kIn_of Y) ?F
 case F =>
  intro w mg fa h KX G hmg;refine' M.zw2 KX G hmg ⟨?z0,⟨?z1,?z2,?z3,?z4⟩,?z5,?z6,(L2.zcD ?z7 (L2.zcD ?z8 (List.forall_mem_nil _)))⟩ ⟨?z9,⟨?z10,?z11,?z12,?z13⟩,?z14,?z15,(L2.zcD ?z16 (L2.zcD ?z17 (L2.zcD ?z18 (L2.zcD ?z19 (L2.zcD ?z20 (L2.zcD ?z21 (List.forall_mem_nil _)))))))⟩ ⟨?z22,⟨?z23,?z24,?z25,?z26⟩,?z27,?z28,(L2.zcD ?z29 (List.forall_mem_nil _))⟩ ⟨⟨?z30,zR ?z31 ?z32 ?z33⟩,?z34⟩ ⟨⟨?z35,zR ?z36 ?z37 ?z38⟩,?z39⟩ ⟨⟨?z40,zR ?z41 ?z42 ?z43⟩,?z44⟩ ⟨⟨?z45,zR ?z46 ?z47 ?z48⟩,?z49⟩ ⟨⟨?z50,zR ?z51 ?z52 ?z53⟩,?z54⟩ ⟨⟨?z55,zR ?z56 ?z57 ?z58⟩,?z59⟩ ⟨?z60,?z61,zR ?z62 ?z63 ?z64⟩ ⟨?z65,?z66,zR ?z67 ?z68 ?z69⟩ ⟨?z70,?z71,zR ?z72 ?z73 ?z74⟩ ⟨?z75,?z76,zR ?z77 ?z78 ?z79⟩ ⟨?z80,?z81,zR ?z82 ?z83 ?z84⟩ ⟨?z85,?z86,zR ?z87 ?z88 ?z89⟩ ⟨?z90,?z91,zR ?z92 ?z93 ?z94⟩ ⟨?z95,?z96,zR ?z97 ?z98 ?z99⟩ ⟨⟨?z100,zR ?z101 ?z102 ?z103⟩,?z104⟩ ⟨?z105,?z106,zR ?z107 ?z108 ?z109⟩ ⟨⟨?z110,zR ?z111 ?z112 ?z113⟩,?z114⟩ ⟨⟨?z115,zR ?z116 ?z117 ?z118⟩,?z119⟩ ⟨⟨?z120,zR ?z121 ?z122 ?z123⟩,?z124⟩ ⟨⟨?z125,zR ?z126 ?z127 ?z128⟩,?z129⟩ ⟨?z130,?z131,zR ?z132 ?z133 ?z134⟩ ⟨?z135,?z136,zR ?z137 ?z138 ?z139⟩ ⟨⟨?z140,zR ?z141 ?z142 ?z143⟩,?z144⟩ ⟨⟨?z145,zR ?z146 ?z147 ?z148⟩,?z149⟩ ⟨⟨?z150,zR ?z151 ?z152 ?z153⟩,?z154⟩ ⟨⟨?z155,zR ?z156 ?z157 ?z158⟩,?z159⟩ ⟨⟨?z160,zR ?z161 ?z162 ?z163⟩,?z164⟩ ⟨⟨?z165,zR ?z166 ?z167 ?z168⟩,?z169⟩ ⟨⟨?z170,zR ?z171 ?z172 ?z173⟩,?z174⟩ ⟨⟨?z175,zR ?z176 ?z177 ?z178⟩,?z179⟩ ⟨⟨?z180,zR ?z181 ?z182 ?z183⟩,?z184⟩ ⟨⟨?z185,zR ?z186 ?z187 ?z188⟩,?z189⟩ ⟨⟨?z190,zR ?z191 ?z192 ?z193⟩,?z194⟩ ⟨⟨?z195,zR ?z196 ?z197 ?z198⟩,?z199⟩ ⟨⟨?z200,zR ?z201 ?z202 ?z203⟩,?z204⟩ ⟨⟨?z205,zR ?z206 ?z207 ?z208⟩,?z209⟩ ⟨⟨?z210,zR ?z211 ?z212 ?z213⟩,?z214⟩ ⟨⟨?z215,zR ?z216 ?z217 ?z218⟩,?z219⟩ ⟨⟨?z220,zR ?z221 ?z222 ?z223⟩,?z224⟩ ?z225 ?z226 ?z227 ?z228 ?z229 ?z230 ?z231 ?z232 ?z233 ?z234 ?z235 ?z236 ?z237 ?z238 ?z239 ?z240 ?z241 ?z242 ?z243 ?z244 ?z245 ?z246 ?z247 ?z248 ?z249 ?z250 ?z251 ?z252 ?z253 ?z254 ?z255 ?z256 ?z257 ?z258 ?z259 ?z260 ?z261 ?z262 ?z263 ?z264 ?z265 ?z266 ?z267 ?z268 ?z269 ?z270 ?z271 ?z272 ?z273 ?z274 ?z275 ?z276 ?z277 ?z278 ?z279 ?z280
  case z0 | z1 | z2 | z3 | z4 | z5 | z6 | z7 | z8 | z9 | z10 | z11 | z12 | z13 | z14 | z15 | z16 | z17 | z18 | z19 | z20 | z21 | z22 | z23 | z24 | z25 | z26 | z27 | z28 | z29 | z30 | z31 | z32 | z33=>k_is
  case z34=>rfl
  case z35 | z36 | z37 | z38=>k_is
  case z39=>rfl
  case z40 | z41 | z42 | z43=>k_is
  case z44=>rfl
  case z45 | z46 | z47 | z48=>k_is
  case z49=>rfl
  case z50 | z51 | z52 | z53=>k_is
  case z54=>rfl
  case z55 | z56 | z57 | z58=>k_is
  case z59=>rfl
  case z60 | z61 | z62 | z63 | z64 | z65 | z66 | z67 | z68 | z69 | z70 | z71 | z72 | z73 | z74 | z75 | z76 | z77 | z78 | z79 | z80 | z81 | z82 | z83 | z84 | z85 | z86 | z87 | z88 | z89 | z90 | z91 | z92 | z93 | z94 | z95 | z96 | z97 | z98 | z99 | z100 | z101 | z102 | z103=>k_is
  case z104=>rfl
  case z105 | z106 | z107 | z108 | z109 | z110 | z111 | z112 | z113=>k_is
  case z114=>rfl
  case z115 | z116 | z117 | z118=>k_is
  case z119=>rfl
  case z120 | z121 | z122 | z123=>k_is
  case z124=>rfl
  case z125 | z126 | z127 | z128=>k_is
  case z129=>rfl
  case z130 | z131 | z132 | z133 | z134 | z135 | z136 | z137 | z138 | z139 | z140 | z141 | z142 | z143=>k_is
  case z144=>rfl
  case z145 | z146 | z147 | z148=>k_is
  case z149=>rfl
  case z150 | z151 | z152 | z153=>k_is
  case z154=>rfl
  case z155 | z156 | z157 | z158=>k_is
  case z159=>rfl
  case z160 | z161 | z162 | z163=>k_is
  case z164=>rfl
  case z165 | z166 | z167 | z168=>k_is
  case z169=>rfl
  case z170 | z171 | z172 | z173=>k_is
  case z174=>rfl
  case z175 | z176 | z177 | z178=>k_is
  case z179=>rfl
  case z180 | z181 | z182 | z183=>k_is
  case z184=>rfl
  case z185 | z186 | z187 | z188=>k_is
  case z189=>rfl
  case z190 | z191 | z192 | z193=>k_is
  case z194=>rfl
  case z195 | z196 | z197 | z198=>k_is
  case z199=>rfl
  case z200 | z201 | z202 | z203=>k_is
  case z204=>rfl
  case z205 | z206 | z207 | z208=>k_is
  case z209=>rfl
  case z210 | z211 | z212 | z213=>k_is
  case z214=>rfl
  case z215 | z216 | z217 | z218=>k_is
  case z219=>rfl
  case z220 | z221 | z222 | z223=>k_is
  case z224=>rfl
  case z225 | z226 | z227 | z228 | z229 | z230 | z231 | z232 | z233 | z234 | z235 | z236 | z237 | z238 | z239 | z240 | z241 | z242 | z243 | z244 | z245 | z246=>k_is
  case z247=>rfl
  case z248=>k_is
  case z249=>rfl
  case z250=>k_is
  case z251=>rfl
  case z252=>k_is
  case z253=>rfl
  case z254=>k_is
  case z255=>rfl
  case z256=>k_is
  case z257=>rfl
  case z258=>k_is
  case z259=>rfl
  case z260=>k_is
  case z261=>rfl
  case z262 | z263=>k_is
  case z264=>rfl
  case z265 | z266=>k_is
  case z267=>rfl
  case z268=>exact fun S=>al2 fun _ _=>al0 <| by with_unfolding_all rfl
  case z269=>exact fun S=>al3 fun _ _ _=>al1 fun _=>by with_unfolding_all rfl
  case z270 | z271=>exact fun S=>al3 fun _ _ _=>al0 <| by with_unfolding_all rfl
  case z272=>exact fun S=>al2 fun _ _=>al0 <| by with_unfolding_all rfl
  case z273=>exact fun S=>al3 fun _ _ _=>al4 fun _ _ _ _=>by with_unfolding_all rfl
  case z274=>exact fun S=>al1 fun _=>al0 <| by with_unfolding_all rfl
  case z275 | z276=>exact fun S=>al2 fun _ _=>al0 <| by with_unfolding_all rfl
  case z277=>exact fun S=>al4 fun _ _ _ _=>al1 fun _=>by with_unfolding_all rfl
  case z278 | z279=>exact fun S=>al2 fun _ _=>al0 <| by with_unfolding_all rfl
  case z280=>exact fun S=>al3 fun _ _ _=>al0 <| by with_unfolding_all rfl
