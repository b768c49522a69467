import PyProof.Rows.All
import Wide.All
import OpenK.AllK
import Wide.FinOn
import PyProof.EqAt
import PyProof.EqKinds
import PyProof.TupleCall
import KE.BitLaws
import PyProof.Rows.SetFrom
import Open.SpecLaws
import KE.OsHead
import KE.OsGo
import PySem.Challenge.RW_saidrow_s01_answers
set_option Elab.async false
set_option linter.all false
set_option maxRecDepth 100000
set_option maxHeartbeats 2000000
section
open Array renaming length_toList→XQ,getElem?_eq_none→UB,toList→UQ
open Bool renaming false_ne_true→Xc,noConfusion→Xp,and_eq_true→XZ,eq_iff_iff→X2,and_eq_true_iff→UL,or_eq_true→U3
open List renaming size_toArray→Xd,mem_cons_of_mem→Xh,mem_cons→Xj,mem_cons_self→Xn,length_cons→Xq,map_cons→Xr,replicate→Xs,length_append→Xt,mem_append_right→Xv,getElem?_eq_some_iff→Xx,length_map→XA,drop_zero→XB,lookup_cons→XF,replicate_succ→XH,any_cons→XI,find?_cons→XJ,lookup→XL,append_assoc→XN,length_drop→XO,mem_append→XR,nil_append→XS,flatten_cons→XU,getElem?_set_self→XW,take_of_length_le→XX,drop_length→X0,length_take→X1,append_nil→X3,getElem?_set_ne→X4,length_nil→X5,map_nil→X6,mem_of_getElem?→X7,nodup_cons→X8,filterMap_cons→Ub,take_succ_cons→Uc,drop_left→Ud,all_cons→Ug,drop_eq_getElem_cons→Uk,range→Ul,all_eq_true→Up,getElem?_cons_zero→Uv,of_mem_zip→Uz,range_succ_eq_map→UD,getElem?_eq_none→UG,take_left→UH,mem_append_left→UM,length_pos_iff→UN,toList_toArray→UO,mem_filterMap→UR,mem_map→US,getElem?_map→UW,getElem_inj→UZ,foldl→U5,length_set→U6,mem_filter→U7,drop_drop→U9,forIn_nil→Xaa,take_zero→Xab
open Nat renaming le_refl→Xe,lt_of_lt_of_le→Xi,ne_of_lt→Xl,le_trans→Xo,lt_irrefl→Xy,zero_add→XD,le_of_succ_le→XV,zero_le→XY,le_of_eq→X9,lt_succ_of_lt→Uh,lt_succ_self→Uq,lt_trans→Ur,ne_of_gt→Us,le_of_lt→UT
open Option renaming map_some→Ua,isSome_iff_exists→Ut,map_eq_some_iff→UE,isSome_some→UU,isSome_map→UX,getD_none→U0
open Option.some renaming inj→Xm
open PySem renaming mem_of_lookup→Xk,evalArgs_none→UP
open PySem.Builtin.Str renaming strKind→Um
open PySem.F renaming slot_dict_get→XC,entry_dict_get→XM,args_dict_get_2→Uw,args_dict_get_3→Ux,plainAttrs_dict→Uy,type_dict_get→UI
open PySem.StrLaws renaming sliceText→Xz
open PySem.W renaming Frag→Xa,emptyDict→Xw,instObj→XE,findIn→XG,fnOf→XT,keepIn→Ue,length_le_weightAllW→Uf,hasDictIn→Ui,methodObj→Uj,plainGet→Uu,takerIn→UA,cellsFrom_some→UF,codeIn→UJ,lookIn→UK,callWith_K→UV,plainOver→UY,WRecords→U1,handedIn→U2,makesIn→U8,WalkOS→Xac
open PySem.Heap renaming get?_push_of_some→Xb,lt_size→Xf,get?_push_size→Xg,size_push→Xu,SameBut→Uo,get?_update_other→UC
open PySem.Heap.DictOf renaming new→U4
inductive QA{t0 t1:Type}(p:t0->t1->Prop):Prop
 | mk (a:t0) (b:t1) (h:p a b):QA p
inductive JP{t0 t1 t2:Type}(p:t0->t1->t2->Prop):Prop
 | mk (a:t0) (b:t1) (c:t2) (h:p a b c):JP p
inductive YS{t0 t1 t2 t3:Type}(p:t0->t1->t2->t3->Prop):Prop
 | mk (a:t0) (b:t1) (c:t2) (d:t3) (h:p a b c d):YS p
inductive QbT{t0 t1 t2 t3 t4:Type}(p:t0->t1->t2->t3->t4->Prop):Prop
 | mk (a:t0) (b:t1) (c:t2) (d:t3) (e:t4) (h:p a b c d e):QbT p
inductive Qj0{t0 t1 t2 t3 t4 t5:Type}(p:t0->t1->t2->t3->t4->t5->Prop):Prop
 | mk (a:t0) (b:t1) (c:t2) (d:t3) (e:t4) (f:t5) (h:p a b c d e f):Qj0 p
inductive Qqt{t0 t1 t2 t3 t4 t5 t6:Type}(p:t0->t1->t2->t3->t4->t5->t6->Prop):Prop
 | mk (a:t0) (b:t1) (c:t2) (d:t3) (e:t4) (f:t5) (g:t6) (h:p a b c d e f g):Qqt p
inductive QrJ{t0 t1 t2 t3 t4 t5 t6 t7 t8:Type}(p:t0->t1->t2->t3->t4->t5->t6->t7->t8->Prop):Prop
 | mk (a:t0) (b:t1) (c:t2) (d:t3) (e:t4) (f:t5) (g:t6) (i:t7) (j:t8) (h:p a b c d e f g i j):QrJ p
inductive Qqa{t0 t1 t2 t3 t4 t5 t6 t7 t8 t9:Type}(p:t0->t1->t2->t3->t4->t5->t6->t7->t8->t9->Prop):Prop
 | mk (a:t0) (b:t1) (c:t2) (d:t3) (e:t4) (f:t5) (g:t6) (i:t7) (j:t8) (k:t9) (h:p a b c d e f g i j k):Qqa p
inductive Qqb{t0 t1 t2 t3 t4 t5 t6 t7 t8 t9 t10 t11:Type}(p:t0->t1->t2->t3->t4->t5->t6->t7->t8->t9->t10->t11->Prop):Prop
 | mk (a:t0) (b:t1) (c:t2) (d:t3) (e:t4) (f:t5) (g:t6) (i:t7) (j:t8) (k:t9) (l:t10) (m:t11) (h:p a b c d e f g i j k l m):Qqb p
namespace L2
open PySem PySem.Spec PyProof.Rows
abbrev Key:=Sum Int Str
def QcG:Key->Value->Bool
 | .inl k,v=>Value.isInt k v
 | .inr x,v=>Value.isStrOf x v
def QsQ(w:World):Key->Int
 | .inl k=>hashInt k
 | .inr x=>hashStr w x
theorem JT:∀{k:Key} {v:Value},QcG k v=true->(QA λi t=>k=Sum.inl i/\v=Value.int i t)\/(QA λx t=>k=Sum.inr x/\v=Value.str x t)
 | .inl i,v,h=>by
  obtain⟨t,e⟩:=Value.isInt_shape (k:=i) (v:=v) h;exact .inl ⟨i,t,rfl,e⟩
 | .inr x,v,h=>by
  obtain⟨t,e⟩:=Value.isStrOf_shape (x:=x) (v:=v) h;exact .inr ⟨x,t,rfl,e⟩
theorem Qml(i:Int)(t:Tok):QcG (.inl i) (.int i t)=true:=by simp[QcG,Value.isInt]
theorem Qmm(x:Str)(t:Tok):QcG (.inr x) (.str x t)=true:=by simp[QcG,Value.isStrOf]
theorem QqQ(a b:Int):decide ((Sum.inl a:Key)=Sum.inl b)=(a==b):=by
 by_cases e:a=b
 ·subst e;simp
 ·have h:¬(Sum.inl a:Key)=Sum.inl b:=λq=>e (Sum.inl.inj q)
  rw[decide_eq_false h];exact (beq_eq_false_iff_ne.mpr e).symm
theorem QqT(a b:Str):decide ((Sum.inr a:Key)=Sum.inr b)=decide (a=b):=by
 by_cases e:a=b
 ·subst e;simp
 ·have h:¬(Sum.inr a:Key)=Sum.inr b:=λq=>e (Sum.inr.inj q)
  rw[decide_eq_false h,decide_eq_false e]
theorem QqR(a:Int)(b:Str):decide ((Sum.inl a:Key)=Sum.inr b)=false:=decide_eq_false (λq=>nomatch q)
theorem QqS(a:Str)(b:Int):decide ((Sum.inr a:Key)=Sum.inl b)=false:=decide_eq_false (λq=>nomatch q)
def QT(prog:Program)(w:World):PySem.KeyKind prog w Key where
 is:=QcG
 hash:=QsQ w
 inj:=λv a b ha hb=>by
  rcases JT ha with ⟨i,t,rfl,rfl⟩ | ⟨x,t,rfl,rfl⟩
  ·rcases JT hb with ⟨j,u,rfl,e⟩ | ⟨y,u,rfl,e⟩
   ·injection e with e1 _;rw[e1]
   ·exact nomatch e
  ·rcases JT hb with ⟨j,u,rfl,e⟩ | ⟨y,u,rfl,e⟩
   ·exact nomatch e
   ·injection e with e1 _;rw[e1]
 byValue:=λk v h=>by
  rcases JT h with ⟨i,t,rfl,rfl⟩ | ⟨x,t,rfl,rfl⟩<;>rfl
 pyHash:=λhv h=>by
  rcases JT hv with ⟨i,t,rfl,rfl⟩ | ⟨x,t,rfl,rfl⟩
  ·exact wpAny_pyHash_int h
  ·exact wpAny_pyHash_str h
 eqBool:=λhu hv h=>by
  rcases JT hu with ⟨i,t,rfl,rfl⟩ | ⟨x,t,rfl,rfl⟩
  ·rcases JT hv with ⟨j,u,rfl,rfl⟩ | ⟨y,u,rfl,rfl⟩
   ·rw[QqQ] at h;exact wpAny_eqBool_int h
   ·rw[QqR] at h;exact SeqAt.EqAt.int_str i t y u _ _ _ _ h
  ·rcases JT hv with ⟨j,u,rfl,rfl⟩ | ⟨y,u,rfl,rfl⟩
   ·rw[QqS] at h;exact SeqAt.EqAt.str_int x t j u _ _ _ _ h
   ·rw[QqT] at h;exact wpAny_eqBool_str h
 «strs»:=λk x t v h=>by
  rcases JT h with ⟨i,u,rfl,e⟩ | ⟨y,u,rfl,e⟩
  ·exact nomatch e
  ·injection e with e1 _;subst e1;cases v<;>rfl
theorem Qi8(prog:Program)(w:World)(i:Int)(t:Tok):(QT prog w).is (.inl i) (.int i t)=true:=Qml i t
theorem Qi9(prog:Program)(w:World)(x:Str)(t:Tok):(QT prog w).is (.inr x) (.str x t)=true:=Qmm x t
inductive V where
 | non | bl (b:Bool) | int (i:Int) | str (x:Str) | byt (b:Array UInt8) | flt (b:UInt64) | ref (a:Addr) | ty (n:String)
 deriving DecidableEq
def QZ:V->Value->Prop
 | .non,u=>u=Value.none
 | .bl b,u=>u=Value.bool b
 | .int i,u=>∃t,u=Value.int i t
 | .str x,u=>∃t,u=Value.str x t
 | .byt b,u=>∃t,u=Value.bytes b t
 | .flt b,u=>∃t,u=Value.float b t
 | .ref a,u=>u=Value.ref a
 | .ty n,u=>u=Value.type n
abbrev QP:List V->List Value->Prop:=Paired QZ
theorem QP.length{xs:List V}{us:List Value}(r:QP xs us):xs.length=us.length:=Paired.length r
theorem QP.get:∀{xs:List V} {us:List Value} {i:Nat} {x:V},QP xs us->xs[i]?=some x->∃u,us[i]?=some u/\QZ x u
 | _,_,_,_,.nil,e=>by simp at e
 | _,_,0,_,.cons r _,e=>by simp at e;subst e;exact⟨_,rfl,r⟩
 | _,_,i+1,x,.cons _ t,e=>by
  obtain⟨u,h1,h2⟩:=QP.get (i:=i) (x:=x) t (by simpa using e);exact⟨u,by simpa using h1,h2⟩
theorem QP.set{x:V}{u:Value}(r:QZ x u):∀{xs:List V} {us:List Value} (i:Nat),QP xs us->QP (xs.set i x) (us.set i u)
 | _,_,_,.nil=>.nil
 | _,_,0,.cons _ t=>.cons r t
 | _,_,i+1,.cons q t=>.cons q (QP.set r i t)
theorem QP.append:∀{xs ys:List V} {us ws:List Value},QP xs us->QP ys ws->QP (xs++ys) (us++ws)
 | _,_,_,_,.nil,s=>s
 | _,_,_,_,.cons r t,s=>.cons r (QP.append t s)
theorem QP.take:∀{xs:List V} {us:List Value} (n:Nat),QP xs us->QP (xs.take n) (us.take n)
 | _,_,0,_=>.nil
 | _,_,_+1,.nil=>.nil
 | _,_,n+1,.cons r t=>.cons r (QP.take n t)
theorem QP.drop:∀{xs:List V} {us:List Value} (n:Nat),QP xs us->QP (xs.drop n) (us.drop n)
 | _,_,0,r=>r
 | _,_,_+1,.nil=>.nil
 | _,_,n+1,.cons _ t=>QP.drop n t
def QbU:Option V->Option Value->Prop
 | some v,some u=>QZ v u
 | none,none=>True
 | _,_=>False
def KV{κ:Type}:List (κ × V)->List (κ × Value)->Prop:=Paired λ(p:κ × V) (q:κ × Value)=>p.1=q.1/\QZ p.2 q.2
def kV:Key->V
 | .inl i=>.int i
 | .inr x=>.str x
inductive HO where
 | lst (xs:List V)
 | tup (xs:List V)
 | dK (kvs:List (Key × V)) | dT (kvs:List (List Key × V))
 | set (S:Int->Bool) (n:Nat)
 | ins (C dx:Addr) (fs:List (Str × V))
 | own (x:Addr)
 | xd (fs:List (Str × V))
 | met (f x:Addr)
 | rng (lo hi:Int)
 | frz (o:Obj) (u:HO)
 | tbl (ps:Array Value)
 | ext (φ:Heap->Prop)
abbrev Hp:=Addr->Option HO
def upd(H:Hp)(a:Addr)(o:HO):Hp:=λb=>if b=a then some o else H b
theorem Qh{H:Hp}{a:Addr}{o:HO}:upd H a o a=some o:=by unfold upd;rw[if_pos rfl]
theorem Qq{H:Hp}{a b:Addr}{o:HO}(h:b≠a):upd H a o b=H b:=by unfold upd;rw[if_neg h]
theorem Q8{H:Hp}{a b:Addr}{o u:HO}(h:H a=some o)(h':H b=some u)(d:o≠u):a≠b:=by
 intro e;subst e;rw[h] at h';exact d (Xm h')
theorem Q3{H:Hp}{a b:Addr}{o:HO}(h:H a=some o)(h':H b=none):a≠b:=by
 intro e;subst e;rw[h] at h';cases h'
section
variable (P:Program) (w:World)
def J1(H:Hp)(h:Heap)(a:Addr):HO->Prop
 | .lst xs=>xs.length<=sizeLine/\QA λ(its:List Value) (n:Nat)=>QP xs its/\h.get? a=some { cls:=.type "list",data:=.seq its.toArray n }
 | .tup xs=>xs.length<=sizeLine/\∃its:List Value,QP xs its/\IsTup h a its.toArray
 | .dK kvs=>kvs.length<=sizeLine/\(a==sysModules)=false/\∃vs,KV kvs vs/\h.DictOf (QT P w) a vs
 | .dT kvs=>kvs.length<=sizeLine/\(a==sysModules)=false/\∃xs:List (List Key × Addr × Value),
   Paired (λ(p:List Key × V) (q:List Key × Addr × Value)=>p.1=q.1/\H q.2.1=some (.tup (p.1.map kV))/\QZ p.2 q.2.2) kvs xs/\
   JP λo es ep=>h.get? a=some o/\o.ExactDict/\o.data=.dict es ep/\es.toList=xs.map (entryOfKey (tupleKind (QT P w)))/\(xs.map (·.1)).Nodup
 | .set S n=>h.SetOf (intKind P w) a S n
 | .ins C dx fs=>H dx=some (.own a)/\fs.length<=1000/\dx≠a/\h.get? a=some (XE C dx)/\
   ∃mA,h.Ns1 dx mA/\(∀f,QbU (fs.lookup f) (mA f))/\PySem.Within mA (fs.map (·.1))
 | .own _=>∃o,h.get? a=some o
 | .xd fs=>∃mA,h.Ns1 a mA/\∀f,QbU (fs.lookup f) (mA f)
 | .rng lo hi=>JP λt u v=>h.get? a=some { cls:=.type "range",data:=.fields #[.int lo t,.int hi u,.int 1 v] }
 | .frz o u=>h.get? a=some o/\J1 H h a u
 | .tbl ps=>h.get? a=some { cls:=.none,data:=.fields ps }
 | .met f x=>h.get? a=some (Uj (.ref f) (.ref x))
 | .ext φ=>φ h/\(∃o,h.get? a=some o)/\∀h1 h2:Heap,φ h1->(∀o,h1.get? a=some o->h2.get? a=some o)->φ h2
def HOk(H:Hp)(h:Heap):Prop:=∀a o,H a=some o->J1 P w H h a o
end
section
variable {P:Program} {w:World} {H H':Hp} {h h':Heap} {a:Addr} {o:HO}
theorem J1.lt(x:J1 P w H h a o):a<h.objs.size:=by
 cases o with
 | lst xs=>obtain⟨_,_,_,_,e⟩:=x;exact Xf e
 | tup xs=>obtain⟨_,_,_,p⟩:=x;exact p.lt
 | dK kvs=>obtain⟨_,_,_,_,o,_,_,e,_⟩:=x;exact Xf e
 | dT kvs=>obtain⟨_,_,_,_,o,_,_,e,_⟩:=x;exact Xf e
 | set S n=>obtain⟨o,_,_,_,e,_⟩:=x;exact Xf e
 | ins C dx fs=>obtain⟨_,_,_,e,_⟩:=x;exact Xf e
 | own y=>obtain⟨_,e⟩:=x;exact Xf e
 | xd fs=>obtain⟨_,⟨_,_,_,e,_⟩,_⟩:=x;exact Xf e
 | rng lo hi=>obtain⟨_,_,_,e⟩:=x;exact Xf e
 | frz ob u=>obtain⟨e,_⟩:=x;exact Xf e
 | tbl ps=>exact Xf (show h.get? a=some _ from x)
 | met f y=>exact Xf (show h.get? a=some _ from x)
 | ext φ=>obtain⟨_,⟨_,e⟩,_⟩:=x;exact Xf e
theorem Paired.mapP{α β:Type}{F G:α->β->Prop}:∀{l₁:List α} {l₂:List β},Paired F l₁ l₂->(∀a b,F a b->G a b)->Paired G l₁ l₂
 | _,_,.nil,_=>.nil
 | _,_,.cons r t,f=>.cons (f _ _ r) (Paired.mapP t f)
theorem J1.stay(x:J1 P w H h a o)(k:∀b u,(b=a\/H b=some (.own a))->h.get? b=some u->h'.get? b=some u)
  (ho:∀b,H b=some (.own a)->H' b=some (.own a)) (ht:∀b xs,H b=some (.tup xs)->H' b=some (.tup xs)):J1 P w H' h' a o:=by
 induction o with
 | lst xs=>obtain⟨z,its,n,r,e⟩:=x;exact⟨z,its,n,r,k _ _ (.inl rfl) e⟩
 | tup xs=>obtain⟨z,its,r,ob,e,c⟩:=x;exact⟨z,its,r,ob,k _ _ (.inl rfl) e,c⟩
 | dK kvs=>obtain⟨z,y,vs,r,ob,es,ep,e,c⟩:=x;exact⟨z,y,vs,r,ob,es,ep,k _ _ (.inl rfl) e,c⟩
 | dT kvs=>
  obtain⟨z,y,xs,r,ob,es,ep,e,c⟩:=x;exact⟨z,y,xs,Paired.mapP r λp q z=>⟨z.1,ht _ _ z.2.1,z.2.2⟩,ob,es,ep,k _ _ (.inl rfl) e,c⟩
 | set S n=>obtain⟨ob,es,ep,t,e,c⟩:=x;exact⟨ob,es,ep,t,k _ _ (.inl rfl) e,c⟩
 | ins C dx fs=>
  obtain⟨d,z,ne,e,mA,⟨od,es,ep,e2,c⟩,r⟩:=x;exact⟨ho _ d,z,ne,k _ _ (.inl rfl) e,mA,⟨od,es,ep,k _ _ (.inr d) e2,c⟩,r⟩
 | own y=>obtain⟨ob,e⟩:=x;exact⟨ob,k _ _ (.inl rfl) e⟩
 | xd fs=>obtain⟨mA,⟨od,es,ep,e,c⟩,r⟩:=x;exact⟨mA,⟨od,es,ep,k _ _ (.inl rfl) e,c⟩,r⟩
 | rng lo hi=>obtain⟨t,u,v,e⟩:=x;exact⟨t,u,v,k _ _ (.inl rfl) e⟩
 | frz ob u ih=>obtain⟨e,q⟩:=x;exact⟨k _ _ (.inl rfl) e,ih q⟩
 | tbl ps=>
  have e:h.get? a=some { cls:=.none,data:=.fields ps }:=x;show h'.get? a=some { cls:=.none,data:=.fields ps };exact k a _ (.inl rfl) e
 | met f y=>
  have e:h.get? a=some (Uj (.ref f) (.ref y)):=x;show h'.get? a=some (Uj (.ref f) (.ref y));exact k a _ (.inl rfl) e
 | ext φ=>obtain⟨p,⟨o,e⟩,st⟩:=x;exact⟨st _ _ p λo q=>k _ _ (.inl rfl) q,⟨o,k _ _ (.inl rfl) e⟩,st⟩
theorem HOk.lt(x:HOk P w H h)(e:H a=some o):a<h.objs.size:=(x a o e).lt
theorem HOk.fresh(x:HOk P w H h)(e:h.objs.size<=a):H a=none:=by
 cases q:H a with
 | none=>rfl
 | some u=>exact absurd (Xi (x.lt q) e) (Xy _)
theorem HOk.kept(x:HOk P w H h)(k:∀b u,h.get? b=some u->h'.get? b=some u):HOk P w H h':=λa o e=>
 (x a o e).stay (λb u _ q=>k b u q) (λ_ q=>q) λ_ _ q=>q
theorem HOk.laid(x:HOk P w H h)(k:∀b u,h.get? b=some u->h'.get? b=some u)(hp:h.objs.size<=a)(new:J1 P w (upd H a o) h' a o):HOk P w (upd H a o) h':=λb u e=>by
 have hn:=x.fresh hp
 by_cases hb:b=a
 ·subst hb;rw[Qh] at e;cases e;exact new
 ·rw[Qq hb] at e;exact (x b u e).stay (λc v _ q=>k c v q) (λc q=>by rw[Qq (Q3 q hn)];exact q) λc xs q=>by rw[Qq (Q3 q hn)];exact q
end
def Rd(H:Hp)(a:Addr)(u:HO):Prop:=H a=some u\/∃o,H a=some (.frz o u)
theorem Rd.of{H:Hp}{a:Addr}{u:HO}(h:H a=some u):Rd H a u:=.inl h
theorem Rd.ok{P:Program}{w:World}{H:Hp}{h:Heap}{a:Addr}{u:HO}(r:Rd H a u)(x:HOk P w H h):J1 P w H h a u:=by
 rcases r with r | ⟨o,r⟩
 ·exact x a u r
 ·obtain⟨_,q⟩:=x a _ r;exact q
def Mut:Option HO->Prop
 | some (.lst _)=>True
 | some (.dK _)=>True
 | some (.dT _)=>True
 | some (.set _ _)=>True
 | some (.ins _ _ _)=>True
 | some (.ext _)=>True
 | _=>False
section
variable {P:Program} {w:World} {H:Hp} {h h':Heap} {x e:Addr} {o':HO}
theorem HOk.write(ok:HOk P w H h)(mu:Mut (H x))(he:e=x\/H e=some (.own x))(k:∀b u,b≠e->h.get? b=some u->h'.get? b=some u)(heo:∃u,h'.get? e=some u)
  (new:J1 P w (upd H x o') h' x o'):HOk P w (upd H x o') h':=λb u q=>by
 have nown:∀c y,H c=some (.own y)->c≠x:=λc y r z=>by subst z;rw[r] at mu;exact mu
 have ntup:∀c xs,H c=some (.tup xs)->c≠x:=λc xs r z=>by subst z;rw[r] at mu;exact mu
 by_cases hb:b=x
 ·subst hb;rw[Qh] at q;cases q;exact new
 ·rw[Qq hb] at q
  by_cases hbe:b=e
  ·have q':H b=some (.own x):=by
    rcases he with z | z
    ·exact absurd (hbe.trans z) hb
    ·rw[hbe];exact z
   rw[q] at q';cases q';obtain⟨v,hv⟩:=heo;exact⟨v,by rw[hbe];exact hv⟩
  ·refine (ok b u q).stay (λc v hc r=>k c v ?_ r) (λc r=>by rw[Qq (nown c b r)];exact r) λc xs r=>by rw[Qq (ntup c xs r)];exact r
   rcases hc with rfl | hc
   ·exact hbe
   ·rintro rfl;rcases he with z | z
    ·exact nown c b hc z
    ·rw[hc] at z;cases z;exact hb rfl
end
structure Un(fs ex:List Addr)(H H':Hp)(h h':Heap):Prop where
 keep:∀b o,h.get? b=some o->H b=none->b ∉ fs->b ∉ ex->h'.get? b=some o
 slot:∀b o,h.get? b=some o->H b=none->b ∈ fs->b ∉ ex->∃sl,h'.get? b=some { o with slots:=sl }
 free:∀b o,h.get? b=some o->H b=none->b ∉ ex->H' b=none
 there:∀b o,h.get? b=some o->b ∉ ex->∃o',h'.get? b=some o'
 tups:∀b xs,H b=some (.tup xs)->H' b=some (.tup xs)
 frzs:∀b o u,H b=some (.frz o u)->H' b=some (.frz o u)
 tbls:∀b ps,H b=some (.tbl ps)->∃more,H' b=some (.tbl (ps++more))
section
variable {fs fs' ex ex':List Addr} {H H1 H2:Hp} {h h1 h2 h':Heap} {a x e:Addr} {o:HO}
theorem Un.any(u:Un fs ex H H1 h h1){b:Addr}{ob:Obj}(q:h.get? b=some ob)(n:H b=none)(hx:b ∉ ex):∃sl,h1.get? b=some { ob with slots:=sl }:=by
 by_cases hb:b ∈ fs
 ·exact u.slot b ob q n hb hx
 ·exact⟨ob.slots,u.keep b ob q n hb hx⟩
theorem Un.kept(k:∀b u,h.get? b=some u->h'.get? b=some u):Un fs ex H H h h':=
 ⟨λb ob q _ _ _=>k b ob q,λb ob q _ _ _=>⟨ob.slots,k b ob q⟩,λ_ _ _ n _=>n,λb ob q _=>⟨ob,k b ob q⟩,λ_ _ q=>q,λ_ _ _ q=>q,λ_ ps q=>⟨#[],by rw[q];simp⟩⟩
theorem Un.refl:Un fs ex H H h h:=Un.kept λ_ _ q=>q
theorem Un.laid(k:∀b u,h.get? b=some u->h'.get? b=some u)(hp:h.objs.size<=a)(hn:H a=none):Un fs ex H (upd H a o) h h' where
 keep:=λb u q _ _ _=>k b u q
 slot:=λb u q _ _ _=>⟨u.slots,k b u q⟩
 free:=λb u q n _=>by rw[Qq (Xl (Xi (Xf q) hp))];exact n
 there:=λb u q _=>⟨u,k b u q⟩
 tups:=λb xs q=>by rw[Qq (Q3 q hn)];exact q
 frzs:=λb u xs q=>by rw[Qq (Q3 q hn)];exact q
 tbls:=λb ps q=>⟨#[],by rw[Qq (Q3 q hn),q];simp⟩
theorem Un.write(mu:Mut (H x))(he:e=x\/H e=some (.own x))(k:∀b u,b≠e->h.get? b=some u->h'.get? b=some u)(heo:∃u,h'.get? e=some u):Un fs ex H (upd H x o) h h':=by
 have hx:∀b,H b=none->b≠x:=λb n z=>by subst z;rw[n] at mu;exact mu
 have hb:∀b,H b=none->b≠e:=λb n z=>by
  subst z;rcases he with r | r
  ·exact hx b n r
  ·rw[n] at r;cases r
 have hm:∀b u,H b=some u->¬Mut (some u)->b≠x:=λb u q nm z=>by subst z;rw[q] at mu;exact nm mu
 refine⟨λb u q n _ _=>k b u (hb b n) q,λb u q n _ _=>⟨u.slots,k b u (hb b n) q⟩,λb u q n _=>by rw[Qq (hx b n)];exact n,λb u q _=>?_,
  λb xs q=>by rw[Qq (hm b _ q λz=>z)];exact q,λb u xs q=>by rw[Qq (hm b _ q λz=>z)];exact q,λb ps q=>⟨#[],by rw[Qq (hm b _ q λz=>z),q];simp⟩⟩
 by_cases hbe:b=e
 ·subst hbe;exact heo
 ·exact⟨u,k b u hbe q⟩
end
def trk(h:Heap)(H:Hp):List Addr:=(Ul h.objs.size).filter λa=>(H a).isSome
def QhI(h:Heap)(H:Hp):Heap:=PySem.W.hideAll h (trk h H)
theorem Qmf(h:Heap)(H:Hp):(QhI h H).objs.size=h.objs.size:=PySem.W.hideAll_size _ _
theorem Qny{h:Heap}{H:Hp}{b:Addr}{o:Obj}(e:h.get? b=some o)(n:H b=none):(QhI h H).get? b=some o:=
 PySem.W.hideAll_get _ e λhm=>by
  have q:(H b).isSome=true:=(U7.mp hm).2;rw[n] at q;simp at q
theorem Qpp{h:Heap}{H:Hp}{b:Addr}{o:Obj}(e:(QhI h H).get? b=some o):h.get? b=some o/\H b=none:=by
 have e':h.get? b=some o:=PySem.W.of_hideAll (trk h H) e;refine⟨e',?_⟩;cases q:H b with
 | none=>rfl
 | some x=>
  have hm:b ∈ trk h H:=U7.mpr ⟨List.mem_range.mpr (Xf e'),by simp[q]⟩;have z:(QhI h H).get? b=none:=PySem.W.hideAll_none (trk h H) hm;rw[z] at e;cases e
def QoT(g h:Heap)(L:Addr):List (Addr × Obj):=(Ul h.objs.size).filterMap λa=>if a=L\/(g.get? a).isSome=true then none else (h.get? a).map λo=>(a,o)
def JC(g h:Heap)(L d:Addr):List (Addr × Obj):=(QoT g h L).filter λp=>decide (p.1≠d)
structure Mod(K:Xa)(mg:Str->Option Value)(base:Heap):Prop where
 kin:K.In base
 glob:base.Ns mainGlobals mg
 blt:∃mb,base.Ns builtinsNs mb/\∀x:Str,x≠"__name__"->mb x=bootBuiltins x
 nolimit:base.NoLimit
structure Cx where
 prog:Program
 w:World
 K:Xa
 mg:Str->Option Value
 base:Heap
 A:Around
 N:List Str
 s_0:Shared
 H_0:Hp
 env:Env
 outer:List Env
 stack:List Env
 ex:List Addr
 fn:Str->Bool
 calm:Bool
 pn:List (Addr × Obj)
 xe:Value->Shared->Prop
def frs(l:List Env):List Addr:=l.filterMap (·.frame)
abbrev Cx.fs(X:Cx):List Addr:=frs X.outer
def Vis(sc:Scope)(x:Str):Prop:=sc.names.lookup x=some .local\/sc.names.lookup x=some .cell\/sc.names.lookup x=some .free
def Loc(sc:Scope)(x:Str):Prop:=sc.names.lookup x=some .local\/sc.names.lookup x=some .cell
def QsB(env:Env)(h:Heap)(m:Str->Option Value)(x:Str)(u:Value):Prop:=
 (env.kindOf x=some .local/\m x=some u)\/((env.kindOf x=some .cell\/env.kindOf x=some .free)/\∃c,env.cells.lookup x=some c/\h.IsCell c (some u))
structure Cx.Ok(X:Cx):Prop where
 mod:Mod X.K X.mg X.base
 kind:X.env.scope.kind=.function
 glob:X.env.globals=mainGlobals
 blt:X.env.builtins=builtinsNs
 above:X.s_0.heap.objs.size<=X.env.locals
 inj:∀x y c,X.env.cells.lookup x=some c->X.env.cells.lookup y=some c->x=y
 has:∀x,(X.env.kindOf x=some .cell\/X.env.kindOf x=some .free)->∃c,X.env.cells.lookup x=some c
 cab:∀x c,X.fn x=true->X.env.cells.lookup x=some c->X.s_0.heap.objs.size<=c
 hd:X.calm=true->X.A.handled=none
 frames:X.A.frames=some X.stack
 stk:X.stack=X.outer\/(X.stack=X.env::X.outer/\X.env.frame=some X.env.locals)
 exf:∀b ∈ X.ex,b≠X.env.locals/\∀x c,X.env.cells.lookup x=some c->c≠b
 bs:∀b o,X.base.get? b=some o->X.s_0.heap.get? b=some o/\X.H_0 b=none
 bsz:X.base.objs.size<=X.s_0.heap.objs.size
 noex:∀b o,X.base.get? b=some o->b ∉ X.ex
 exfs:∀b ∈ X.ex,b ∉ X.fs
 funs:X.s_0.heap.FunFrames X.base X.outer
 frf:∀b ∈ X.fs,X.H_0 b=none
structure Inv(X:Cx)(pins:List (Addr × Obj))(σ:List (Option V))(H:Hp)(s:Shared):Prop where
 ok:X.Ok
 os:s.os=X.s_0.os
 bare:AllBare s.gens
 base:Un X.fs X.ex X.H_0 H X.s_0.heap s.heap
 loc:∃m,s.heap.Ns X.env.locals m/\∀(i:Nat) (x:Str) (v:V),X.N[i]?=some x->σ[i]?=some (some v)->Vis X.env.scope x->∃u,QZ v u/\QsB X.env s.heap m x u
 cell:∀x c,X.env.cells.lookup x=some c->∃v,s.heap.IsCell c v
 free:H X.env.locals=none
 freeC:∀x c,X.env.cells.lookup x=some c->H c=none
 pin:∀p ∈ X.pn++pins,s.heap.get? p.1=some p.2/\H p.1=none/\p.1≠X.env.locals/\p.1 ∉ X.fs/\∀v,p.2.data≠.cell v
 hok:HOk X.prog X.w H s.heap
 len:σ.length=X.N.length
section
variable {X:Cx} {pins:List (Addr × Obj)} {σ:List (Option V)} {H H':Hp} {s:Shared} {h':Heap}
theorem Cx.Ok.nofr(ok:X.Ok){b:Addr}{o:Obj}(e:X.base.get? b=some o):b ∉ X.fs:=λhb=>by
 have:=(ok.funs.mem hb).1;rw[e] at this;cases this
theorem Inv.bs(I:Inv X pins σ H s):∀b o,X.base.get? b=some o->s.heap.get? b=some o/\H b=none:=λb o e=>
 ⟨I.base.keep b o (I.ok.bs b o e).1 (I.ok.bs b o e).2 (I.ok.nofr e) (I.ok.noex b o e),I.base.free b o (I.ok.bs b o e).1 (I.ok.bs b o e).2 (I.ok.noex b o e)⟩
theorem Inv.bk(I:Inv X pins σ H s):∀b o,X.base.get? b=some o->s.heap.get? b=some o:=λb o e=>(I.bs b o e).1
theorem Inv.mod(I:Inv X pins σ H s):Mod X.K X.mg X.base:=I.ok.mod
theorem Inv.kIn(I:Inv X pins σ H s):X.K.In s.heap:=I.ok.mod.kin.keeps I.bk
theorem Inv.fr(I:Inv X pins σ H s):∃m,Fr X.base X.env.locals s.heap m:=
 let ⟨m,hn,_⟩:=I.loc
 ⟨m,hn,I.bk,Xo I.ok.bsz I.ok.above⟩
theorem Inv.lt(I:Inv X pins σ H s):X.env.locals<s.heap.objs.size:=let ⟨_,hn,_⟩:=I.loc;hn.lt
theorem Inv.sz(I:Inv X pins σ H s):X.s_0.heap.objs.size<=s.heap.objs.size:=Xo I.ok.above (UT I.lt)
theorem Inv.nofs(I:Inv X pins σ H s){a:Addr}(h:s.heap.objs.size<=a):a ∉ X.fs:=λhb=>by
 obtain⟨_,o,ho,_⟩:=I.ok.funs.mem hb;exact absurd (Xi (Xf ho) (Xo I.sz h)) (Xy _)
theorem Inv.cne(I:Inv X pins σ H s):∀x c,X.env.cells.lookup x=some c->c≠X.env.locals:=λx c e z=>by
 obtain⟨v,o,ho,hd⟩:=I.cell x c e;obtain⟨m,⟨o',es,ep,ho',hd',_⟩,_⟩:=I.loc;rw[z,ho'] at ho;cases ho;rw[hd'] at hd;cases hd
theorem Inv.funs(I:Inv X pins σ H s):s.heap.FunFrames X.base X.outer:=by
 have all:∀(l:List Env),(∀b ∈ frs l,b ∈ X.fs)->X.s_0.heap.FunFrames X.base l->s.heap.FunFrames X.base l:=by
  intro l
  induction l with
  | nil=>intro _ _;trivial
  | cons env r ih=>
   intro hs hl;obtain⟨hk,⟨L,o,hf,hn,ho,hd⟩,hr⟩:=hl;have hL:L ∈ X.fs:=hs L (by unfold frs;rw[Ub,hf];exact Xn);obtain⟨sl,e⟩:=I.base.slot L o ho (I.ok.frf L hL) hL λz=>I.ok.exfs L z hL
   exact⟨hk,⟨L,_,hf,hn,e,hd⟩,ih (λb hb=>hs b (by unfold frs;rw[Ub,hf];exact Xh _ hb)) hr⟩
 exact all X.outer (λ_ hb=>hb) I.ok.funs
theorem Inv.stack(I:Inv X pins σ H s):s.heap.FunFrames X.base X.stack:=by
 rcases I.ok.stk with e | ⟨e,hf⟩
 ·rw[e];exact I.funs
 ·rw[e];obtain⟨m,hn,_⟩:=I.loc;refine .cons (by rw[I.ok.kind];decide) hf hn ?_ I.funs;exact Heap.get?_none_of_le (Xo I.ok.bsz I.ok.above)
theorem Inv.stkSub(I:Inv X pins σ H s):∀b ∈ frs X.stack,b ∈ X.env.locals::X.fs:=λb hb=>by
 rcases I.ok.stk with e | ⟨e,hf⟩
 ·rw[e] at hb;exact Xh _ hb
 ·rw[e] at hb;unfold frs at hb;rw[Ub,hf] at hb;exact hb
theorem Inv.stkFree(I:Inv X pins σ H s):∀b ∈ frs X.stack,H b=none:=λb hb=>by
 rcases Xj.mp (I.stkSub b hb) with e | hb
 ·rw[e];exact I.free
 ·obtain⟨_,o,ho,_⟩:=I.ok.funs.mem hb;exact I.base.free b o ho (I.ok.frf b hb) λz=>I.ok.exfs b z hb
theorem Inv.step{g':Array GenState}{t':Nat}{d':Drawn}{ch:List Addr}(I:Inv X pins σ H s)
  (hch:∀b ∈ ch,(b ∈ X.ex\/X.s_0.heap.objs.size<=b)/\b≠X.env.locals/\(∀x c,X.env.cells.lookup x=some c->c≠b)/\∀p ∈ X.pn++pins,p.1≠b)
  (keep:∀b o,b≠X.env.locals->b ∉ X.fs->b ∉ ch->s.heap.get? b=some o->H b=none->h'.get? b=some o)
  (slot:∀b o,b≠X.env.locals->b ∈ X.fs->b ∉ ch->s.heap.get? b=some o->H b=none->∃sl,h'.get? b=some { o with slots:=sl }) (free:∀b o,b ∉ ch->s.heap.get? b=some o->H b=none->H' b=none)
  (there:∀b o,b ∉ ch->s.heap.get? b=some o->∃o',h'.get? b=some o')
  (tups:∀b xs,H b=some (.tup xs)->H' b=some (.tup xs)) (frzs:∀b o u,H b=some (.frz o u)->H' b=some (.frz o u)) (tbls:∀b ps,H b=some (.tbl ps)->∃more,H' b=some (.tbl (ps++more)))
  (ns:∀m,s.heap.Ns X.env.locals m->h'.Ns X.env.locals m) (hok:HOk X.prog X.w H' h') (hg:AllBare g') :
  Inv X pins σ H' { s with heap:=h',gens:=g',drawn:=d',toks:=t' }:=by
 have neL:∀b o,X.s_0.heap.get? b=some o->b≠X.env.locals:=λb o e=>Xl (Xi (Xf e) I.ok.above)
 have neC:∀b o,X.s_0.heap.get? b=some o->b ∉ X.ex->b ∉ ch:=λb o e hx hb=>by
  rcases (hch b hb).1 with z | z
  ·exact hx z
  ·exact absurd (Xi (Xf e) z) (Xy _)
 have cellK:∀x c,X.env.cells.lookup x=some c->∀v,s.heap.IsCell c v->h'.IsCell c v:=λx c e v ⟨o,ho,hd⟩=>by
  have nch:c ∉ ch:=λz=>(hch c z).2.2.1 x c e rfl
  by_cases hc:c ∈ X.fs
  ·obtain⟨sl,q⟩:=slot c o (I.cne x c e) hc nch ho (I.freeC x c e);exact⟨_,q,hd⟩
  ·exact⟨o,keep c o (I.cne x c e) hc nch ho (I.freeC x c e),hd⟩
 refine⟨I.ok,I.os,hg,⟨λb o e n hb hx=>?_,λb o e n hb hx=>?_,λb o e n hx=>?_,λb o e hx=>?_,λb xs e=>tups b xs (I.base.tups b xs e),λb o xs e=>frzs b o xs (I.base.frzs b o xs e),λb ps e=>?_⟩,?_,λx c e=>?_,?_,λx c e=>?_,λp hp=>?_,hok,I.len⟩
 ·exact keep b o (neL b o e) hb (neC b o e hx) (I.base.keep b o e n hb hx) (I.base.free b o e n hx)
 ·obtain⟨sl,e1⟩:=I.base.slot b o e n hb hx;obtain⟨sl',e2⟩:=slot b _ (neL b o e) hb (neC b o e hx) e1 (I.base.free b o e n hx);exact⟨sl',e2⟩
 ·obtain⟨o',e1⟩:=I.base.there b o e hx;exact free b o' (neC b o e hx) e1 (I.base.free b o e n hx)
 ·obtain⟨o',e1⟩:=I.base.there b o e hx;exact there b o' (neC b o e hx) e1
 ·obtain⟨m1,e1⟩:=I.base.tbls b ps e;obtain⟨m2,e2⟩:=tbls b _ e1;exact⟨m1++m2,by rw[e2,Array.append_assoc]⟩
 ·obtain⟨m,hn,hl⟩:=I.loc;refine⟨m,ns m hn,λi x v e1 e2 e3=>?_⟩;obtain⟨u,r,l⟩:=hl i x v e1 e2 e3;refine⟨u,r,?_⟩;rcases l with l | ⟨k,c,e,z⟩
  ·exact .inl l
  ·exact .inr ⟨k,c,e,cellK x c e _ z⟩
 ·obtain⟨v,z⟩:=I.cell x c e;exact⟨v,cellK x c e v z⟩
 ·obtain⟨m,⟨o,_,_,ho,_⟩,_⟩:=I.loc;exact free _ o (λz=>(hch _ z).2.1 rfl) ho I.free
 ·obtain⟨v,o,ho,hd⟩:=I.cell x c e;exact free c o (λz=>(hch c z).2.2.1 x c e rfl) ho (I.freeC x c e)
 ·obtain⟨e,n,ne,nf,d⟩:=I.pin p hp;have nch:p.1 ∉ ch:=λz=>(hch p.1 z).2.2.2 p hp rfl
  exact⟨keep p.1 p.2 ne nf nch e n,free p.1 p.2 nch e n,ne,nf,d⟩
theorem Inv.un{t':Nat}(I:Inv X pins σ H s)(u:Un X.fs [] H H' s.heap h')(hok:HOk X.prog X.w H' h'):Inv X pins σ H' { s with heap:=h',toks:=t' }:=by
 obtain⟨m,⟨o,es,ep,ho,r⟩,_⟩:=id I.loc;obtain⟨sl,hL⟩:=u.any ho I.free (by simp);exact I.step (g':=s.gens) (d':=s.drawn) (ch:=[]) (λ_ z=>nomatch z) (λb o _ hb _ e n=>u.keep b o e n hb (by simp)) (λb o _ hb _ e n=>u.slot b o e n hb (by simp)) (λb o _ e n=>u.free b o e n (by simp)) (λb o _ e=>u.there b o e (by simp)) u.tups u.frzs u.tbls (λm' hm=>by
  obtain⟨o',es',ep',ho',r'⟩:=hm;rw[ho] at ho';cases ho';exact⟨_,es',ep',hL,r'⟩) hok I.bare
theorem Inv.call{g':Array GenState}{t':Nat}{d':Drawn}{ch:List Addr}(I:Inv X pins σ H s)(u:Un (frs X.stack) ch H H' s.heap h')(hok:HOk X.prog X.w H' h')(hg:AllBare g')
  (hch:∀b ∈ ch,(b ∈ X.ex\/X.s_0.heap.objs.size<=b)/\b≠X.env.locals/\(∀x c,X.env.cells.lookup x=some c->c≠b)/\∀p ∈ X.pn++pins,p.1≠b) :
  Inv X pins σ H' { s with heap:=h',gens:=g',drawn:=d',toks:=t' }:=by
 obtain⟨m,⟨o,es,ep,ho,r⟩,_⟩:=id I.loc;obtain⟨sl,hL⟩:=u.any ho I.free λz=>(hch _ z).2.1 rfl
 exact I.step (ch:=ch) hch (λb o hL hb hc e n=>u.keep b o e n (λz=>(Xj.mp (I.stkSub b z)).elim hL hb) hc) (λb o _ _ hc e n=>u.any e n hc) (λb o hc e n=>u.free b o e n hc) (λb o hc e=>u.there b o e hc) u.tups u.frzs u.tbls (λm' hm=>by
  obtain⟨o',es',ep',ho',r'⟩:=hm;rw[ho] at ho';cases ho';exact⟨_,es',ep',hL,r'⟩) hok hg
theorem Inv.turned{t':Nat}{it:Addr}(I:Inv X pins σ H s)(k:∀b o,b≠it->s.heap.get? b=some o->h'.get? b=some o)(hn:H it=none)(hL:it≠X.env.locals)
  (h1:it ∈ X.ex\/X.s_0.heap.objs.size<=it) (h2:∀x c,X.env.cells.lookup x=some c->c≠it) (h3:∀p ∈ X.pn++pins,p.1≠it):Inv X pins σ H { s with heap:=h',toks:=t' }:=by
 have nit:∀b u,H b=some u->b≠it:=λb u e z=>by rw[z,hn] at e;cases e
 refine I.step (g':=s.gens) (d':=s.drawn) (ch:=[it]) (λb hb=>?_) (λb o _ _ hc e _=>k b o (λz=>hc (by simp[z])) e) (λb o _ _ hc e _=>⟨o.slots,k b o (λz=>hc (by simp[z])) e⟩) (λ_ _ _ _ n=>n)
  (λb o hc e=>⟨o,k b o (λz=>hc (by simp[z])) e⟩) (λ_ _ e=>e) (λ_ _ _ e=>e) (λb ps e=>⟨#[],by rw[e];simp⟩) (λm hm=>?_) (λb u e=>?_) I.bare
 ·have e:b=it:=by simpa using hb
  subst e;exact⟨h1,hL,h2,h3⟩
 ·obtain⟨o,es,ep,ho,r⟩:=hm;exact⟨o,es,ep,k _ o (Ne.symm hL) ho,r⟩
 ·refine (I.hok b u e).stay (λc v hc q=>k c v ?_ q) (λ_ q=>q) λ_ _ q=>q
  rcases hc with z | z
  ·rw[z];exact nit b u e
  ·exact nit c _ z
theorem Inv.tok(I:Inv X pins σ H s)(t:Nat):Inv X pins σ H { s with toks:=t }:=I.un (h':=s.heap) (t':=t) Un.refl I.hok
theorem Inv.kept{t':Nat}(I:Inv X pins σ H s)(k:∀b u,s.heap.get? b=some u->h'.get? b=some u):Inv X pins σ H { s with heap:=h',toks:=t' }:=I.un (Un.kept k) (I.hok.kept k)
theorem Inv.laid{a:Addr}{o:HO}{t':Nat}(I:Inv X pins σ H s)(k:∀b u,s.heap.get? b=some u->h'.get? b=some u)(hp:s.heap.objs.size<=a)(new:J1 X.prog X.w (upd H a o) h' a o) :
  Inv X pins σ (upd H a o) { s with heap:=h',toks:=t' }:=I.un (Un.laid k hp (I.hok.fresh hp)) (I.hok.laid k hp new)
theorem Inv.write{x e:Addr}{o:HO}{t':Nat}(I:Inv X pins σ H s)(mu:Mut (H x))(he:e=x\/H e=some (.own x))(k:∀b u,b≠e->s.heap.get? b=some u->h'.get? b=some u)(heo:∃u,h'.get? e=some u)
  (new:J1 X.prog X.w (upd H x o) h' x o):Inv X pins σ (upd H x o) { s with heap:=h',toks:=t' }:=I.un (Un.write mu he k heo) (I.hok.write mu he k heo new)
theorem Inv.weak{σ':List (Option V)}(I:Inv X pins σ H s)(hl:σ'.length=σ.length)(w:∀(i:Nat) v,σ'[i]?=some (some v)->σ[i]?=some (some v)):Inv X pins σ' H s:=
 ⟨I.ok,I.os,I.bare,I.base,let ⟨m,hn,hl'⟩:=I.loc;⟨m,hn,λi x v e1 e2 e3=>hl' i x v e1 (w i v e2) e3⟩,I.cell,I.free,I.freeC,I.pin,I.hok,hl.trans I.len⟩
theorem Inv.pins_of{pins':List (Addr × Obj)}(I:Inv X pins σ H s)(h:∀p ∈ pins',s.heap.get? p.1=some p.2/\H p.1=none/\p.1≠X.env.locals/\p.1 ∉ X.fs/\∀v,p.2.data≠.cell v):Inv X pins' σ H s:=
 ⟨I.ok,I.os,I.bare,I.base,I.loc,I.cell,I.free,I.freeC,λp hp=>(XR.mp hp).elim (λz=>I.pin p (UM _ z)) (h p),I.hok,I.len⟩
theorem Qfq{N:List Str}(hN:N.Nodup){i j:Nat}{x:Str}(a:N[i]?=some x)(b:N[j]?=some x):i=j:=by
 obtain⟨h1,e1⟩:=Xx.mp a;obtain⟨h2,e2⟩:=Xx.mp b;exact (UZ hN).mp (e1.trans e2.symm)
theorem Qhk{M:Model}{A:Around}{E:Value->Shared->Prop}{i:Nat}{x:Str}{v:V}{u:Value}{Q:Unit->Shared->Prop}(I:Inv X pins σ H s)(hN:X.N.Nodup)(hi:X.N[i]?=some x)(hx:Loc X.env.scope x)(r:QZ v u)
  (h:∀s',Inv X pins (σ.set i (some v)) H s'->(∃a,Uo a s.heap s'.heap/\(a=X.env.locals\/X.env.cells.lookup x=some a))->Q () s') (hf:X.fn x=true\/X.env.scope.names.lookup x=some .local:=by first | exact .inl rfl | exact .inr rfl | assumption):wpAny M A (storeName X.env x u) Q E s:=by
 obtain⟨m,hn,hl⟩:=id I.loc;have hcls:(X.env.scope.kind==.class||(X.env.scope.kind==.module&&X.env.locals != X.env.globals))=false:=by rw[I.ok.kind];rfl
 have hiσ:i < σ.length:=by rw[I.len];exact (Xx.mp hi).1
 have cne:=I.cne;have tracked:∀{a:Addr} {h':Heap},(∃o,s.heap.get? a=some o/\H a=none)->Uo a s.heap h'->HOk X.prog X.w H h':=λ{a h'} ha hs b ob e=>by
  obtain⟨_,_,hfree⟩:=ha;refine (I.hok b ob e).stay (λc w' hc q=>(hs.2 c ?_).trans q) (λ_ q=>q) λ_ _ q=>q
  rintro rfl;rcases hc with rfl | hc
  ·rw[hfree] at e;cases e
  ·rw[hfree] at hc;cases hc
 rcases hx with hk | hk
 ·refine wpAny_storeName_local hk hn (λh' hn' hs=>?_) hcls;obtain⟨oL,_,_,hoL,_⟩:=id hn;refine h _ ⟨I.ok,I.os,I.bare,⟨λb o e n hb hx=>?_,λb o e n hb hx=>?_,I.base.free,λb o e hx=>?_,I.base.tups,I.base.frzs,I.base.tbls⟩,⟨_,hn',λj y v' e1 e2 e3=>?_⟩,λy c e=>?_,I.free,I.freeC,λp hp=>?_,tracked ⟨oL,hoL,I.free⟩ hs,by simpa using I.len⟩ ⟨_,hs,.inl rfl⟩
  ·exact (hs.2 b (Xl (Xi (Xf e) I.ok.above))).trans (I.base.keep b o e n hb hx)
  ·obtain⟨sl,e1⟩:=I.base.slot b o e n hb hx;exact⟨sl,(hs.2 b (Xl (Xi (Xf e) I.ok.above))).trans e1⟩
  ·obtain⟨o',e1⟩:=I.base.there b o e hx;exact⟨o',(hs.2 b (Xl (Xi (Xf e) I.ok.above))).trans e1⟩
  ·by_cases hj:j=i
   ·subst hj;rw[hi] at e1;cases e1;rw[XW hiσ] at e2;cases e2;exact⟨u,r,.inl ⟨hk,by simp⟩⟩
   ·rw[X4 (Ne.symm hj)] at e2;obtain⟨u',r',q⟩:=hl j y v' e1 e2 e3;refine⟨u',r',?_⟩;rcases q with ⟨k,e⟩ | ⟨k,c,e,z⟩
    ·refine .inl ⟨k,?_⟩;have:y≠x:=λe=>hj (Qfq hN e1 (e ▸ hi))
     simp[this,e]
    ·exact .inr ⟨k,c,e,z.sameBut hs (cne y c e)⟩
  ·obtain⟨w',z⟩:=I.cell y c e;exact⟨w',z.sameBut hs (cne y c e)⟩
  ·obtain⟨e,n,ne,nf,d⟩:=I.pin p hp;exact⟨(hs.2 p.1 ne).trans e,n,ne,nf,d⟩
 ·have hfn:X.fn x=true:=by
   rcases hf with z | z
   ·exact z
   ·rw[z] at hk;cases hk
  obtain⟨c,hc⟩:=I.ok.has x (.inl hk);obtain⟨w',z⟩:=I.cell x c hc;refine wpAny_storeName_cell I.ok.kind hk hc z (λh' hc' hs=>?_);obtain⟨oc,hoc,hocd⟩:=id z;refine h { s with heap:=h' } ⟨I.ok,I.os,I.bare,⟨λb o e n hb hx=>?_,λb o e n hb hx=>?_,I.base.free,λb o e hx=>?_,I.base.tups,I.base.frzs,I.base.tbls⟩,⟨m,hn.sameBut hs (Ne.symm (cne x c hc)),λj y v' e1 e2 e3=>?_⟩,λy c' e=>?_,I.free,I.freeC,λp hp=>?_,tracked ⟨oc,hoc,I.freeC x c hc⟩ hs,by simpa using I.len⟩ ⟨c,hs,.inr hc⟩
  ·exact (hs.2 b (Xl (Xi (Xf e) (I.ok.cab x c hfn hc)))).trans (I.base.keep b o e n hb hx)
  ·obtain⟨sl,e1⟩:=I.base.slot b o e n hb hx;exact⟨sl,(hs.2 b (Xl (Xi (Xf e) (I.ok.cab x c hfn hc)))).trans e1⟩
  ·obtain⟨o',e1⟩:=I.base.there b o e hx;exact⟨o',(hs.2 b (Xl (Xi (Xf e) (I.ok.cab x c hfn hc)))).trans e1⟩
  ·by_cases hj:j=i
   ·subst hj;rw[hi] at e1;cases e1;rw[XW hiσ] at e2;cases e2;exact⟨u,r,.inr ⟨.inl hk,c,hc,hc'⟩⟩
   ·rw[X4 (Ne.symm hj)] at e2;obtain⟨u',r',q⟩:=hl j y v' e1 e2 e3;refine⟨u',r',?_⟩;rcases q with q | ⟨k,c',e,z'⟩
    ·exact .inl q
    ·refine .inr ⟨k,c',e,z'.sameBut hs ?_⟩;rintro rfl;exact hj (Qfq hN e1 (I.ok.inj _ _ _ e hc ▸ hi))
  ·by_cases hcc:c'=c
   ·subst hcc;exact⟨_,hc'⟩
   ·obtain⟨w2,z2⟩:=I.cell y c' e;exact⟨w2,z2.sameBut hs hcc⟩
  ·obtain⟨e,n,ne,nf,d⟩:=I.pin p hp;refine⟨(hs.2 p.1 ?_).trans e,n,ne,nf,d⟩;intro q;rw[q,hoc] at e;have q':oc=p.2:=Xm e;exact d w' (by rw[<-q'];exact hocd)
theorem Qf5{M:Model}{A:Around}{E:Value->Shared->Prop}{i:Nat}{x:Str}{v:V}{u:Value}{Q:Unit->Shared->Prop}(I:Inv X pins σ H s)(hN:X.N.Nodup)(hi:X.N[i]?=some x)(hx:Loc X.env.scope x)(r:QZ v u)
  (h:∀s',Inv X pins (σ.set i (some v)) H s'->Q () s') (hf:X.fn x=true\/X.env.scope.names.lookup x=some .local:=by first | exact .inl rfl | exact .inr rfl | assumption):wpAny M A (storeName X.env x u) Q E s:=
 Qhk I hN hi hx r (λs' I' _=>h s' I') hf
theorem Inv.call'{s':Shared}{ch:List Addr}(I:Inv X pins σ H s)(ho:s'.os=s.os)(u:Un (frs X.stack) ch H H' s.heap s'.heap)(hok:HOk X.prog X.w H' s'.heap)(hg:AllBare s'.gens)
  (hch:∀b ∈ ch,(b ∈ X.ex\/X.s_0.heap.objs.size<=b)/\b≠X.env.locals/\(∀x c,X.env.cells.lookup x=some c->c≠b)/\∀p ∈ X.pn++pins,p.1≠b):Inv X pins σ H' s':=by
 obtain⟨h',g',d',t',o'⟩:=s';have e:o'=s.os:=ho;subst e;exact I.call (g':=g') (t':=t') (d':=d') u hok hg hch
end
abbrev XK:=Value->Option Addr->Hp->Prop
abbrev St:=List (Option V)
abbrev VK:=V->Hp->Prop
abbrev TE:=St->Hp->VK->Prop
abbrev TT:=St->Hp->(Bool->Hp->Prop)->Prop
abbrev TA:=St->Hp->(List V->Hp->Prop)->Prop
structure QeH where
 nx:St->Hp->Prop
 rt:VK
 bk:St->Hp->Prop:=λ_ _=>False
 ct:St->Hp->Prop:=λ_ _=>False
abbrev TS:=QeH->St->Hp->Prop
def EP(X:Cx)(pins:List (Addr × Obj))(σ:St)(Q:VK)(u:Value)(s':Shared):Prop:=QA λv H'=>Inv X pins σ H' s'/\QZ v u/\Q v H'
def TP(X:Cx)(pins:List (Addr × Obj))(σ:St)(Q:Bool->Hp->Prop)(b:Bool)(s':Shared):Prop:=∃H',Inv X pins σ H' s'/\Q b H'
def AP(X:Cx)(pins:List (Addr × Obj))(σ:St)(Q:List V->Hp->Prop)(us:List Value)(s':Shared):Prop:=QA λvs H'=>Inv X pins σ H' s'/\QP vs us/\Q vs H'
def SP(X:Cx)(pins:List (Addr × Obj))(D:QeH)(f:Flow)(s':Shared):Prop:=
 match f with
 | .next=>QA fun σ' H'=>Inv X pins σ' H' s'/\D.nx σ' H'
 | .brk=>QA fun σ' H'=>Inv X pins σ' H' s'/\D.bk σ' H'
 | .cont=>QA fun σ' H'=>Inv X pins σ' H' s'/\D.ct σ' H'
 | .ret u=>JP λv σ' H'=>Inv X pins σ' H' s'/\QZ v u/\D.rt v H'
def PE(X:Cx)(e:Expr)(t:TE):Prop:=
 ∀(pins:List (Addr × Obj)) (s:Shared) (σ:St) (H:Hp) (Q:VK),Inv X pins σ H s->t σ H Q->wpAny (model X.prog X.w) X.A (eval e X.env) (EP X pins σ Q) X.xe s
def PT(X:Cx)(e:Expr)(t:TT):Prop:=
 ∀(pins:List (Addr × Obj)) (s:Shared) (σ:St) (H:Hp) (Q:Bool->Hp->Prop),Inv X pins σ H s->t σ H Q->wpAny (model X.prog X.w) X.A (isTrue e X.env (eval e X.env)) (TP X pins σ Q) X.xe s
def PW(X:Cx)(e:Expr)(t:TT):Prop:=
 ∀(whole:Sem Value) (pins:List (Addr × Obj)) (s:Shared) (σ:St) (H:Hp) (Q:Bool->Hp->Prop),Inv X pins σ H s->t σ H Q->wpAny (model X.prog X.w) X.A (isTrue e X.env whole) (TP X pins σ Q) X.xe s
theorem PW.pt{X:Cx}{e:Expr}{t:TT}(h:PW X e t):PT X e t:=h _
def PA(X:Cx)(es:List Expr)(t:TA):Prop:=
 ∀(pos:Pos) (pins:List (Addr × Obj)) (s:Shared) (σ:St) (H:Hp) (Q:List V->Hp->Prop),Inv X pins σ H s->t σ H Q->wpAny (model X.prog X.w) X.A (spliced (backTo pos (starEach es X.env))) (AP X pins σ Q) X.xe s
def PS(X:Cx)(st:Stmt)(t:TS):Prop:=
 ∀(pins:List (Addr × Obj)) (s:Shared) (σ:St) (H:Hp) (D:QeH),Inv X pins σ H s->t D σ H->wpAny (model X.prog X.w) X.A (exec st X.env) (SP X pins D) X.xe s
def PSs(X:Cx)(st:List Stmt)(t:TS):Prop:=
 ∀(pins:List (Addr × Obj)) (s:Shared) (σ:St) (H:Hp) (D:QeH),Inv X pins σ H s->t D σ H->wpAny (model X.prog X.w) X.A (execs st X.env) (SP X pins D) X.xe s
theorem thn{α:Type}{t:Sem α}{Q Q':α->Shared->Prop}{M:Model}{A:Around}{E:Value->Shared->Prop}{s:Shared}(h:wpAny M A t Q E s)(hQ:∀a s,Q a s->Q' a s):wpAny M A t Q' E s:=wpAny_mono h hQ λ_ _ x=>x
section
variable {X:Cx}
theorem bin{a b:Expr}{ta tb:TE}(ha:PE X a ta)(hb:PE X b tb){pins:List (Addr × Obj)}{s:Shared}{σ:St}{H:Hp}{R:V->V->Hp->Prop}(I:Inv X pins σ H s)(h:ta σ H λx H1=>tb σ H1 λy H2=>R x y H2)
  {α:Type} {Q:α->Shared->Prop} {f:Value->Value->Sem α}
  (hf:∀v u s2 x y H2,Inv X pins σ H2 s2->QZ x v->QZ y u->R x y H2->wpAny (model X.prog X.w) X.A (f v u) Q X.xe s2) :
  wpAny (model X.prog X.w) X.A (eval a X.env) (λv s₁=>wpAny (model X.prog X.w) X.A (eval b X.env) (λu s₂=>wpAny (model X.prog X.w) X.A (f v u) Q X.xe s₂) X.xe s₁) X.xe s:=by
 refine thn (ha pins s σ H _ I h) λv s1 ⟨x,H1,I1,r1,q1⟩=>?_
 refine thn (hb pins s1 σ H1 _ I1 q1) λu s2 ⟨y,H2,I2,r2,q2⟩=>?_
 exact hf v u s2 x y H2 I2 r1 r2 q2
abbrev Wx(i:Nat):TE:=fun σ H Q=>∃v,σ[i]?=some (some v)/\Q v H
abbrev tC(v:V):TE:=λ_ H Q=>Q v H
theorem Qq4{i:Nat}{x:Str}{pos:Pos}(hN:X.N[i]?=some x)(hv:Vis X.env.scope x)(hd:(x==("__debug__":Str))=false:=by decide)(hcd:(x==("__classdict__":Str))=false:=by decide):PE X (.Name x pos) (Wx i):=by
 intro pins s σ H Q I h;obtain⟨v,e,h⟩:=h;obtain⟨m,hn,hl⟩:=I.loc;obtain⟨u,r,l⟩:=hl i x v hN e hv;have fin:EP X pins σ Q u s:=⟨v,H,I,r,h⟩;rcases l with ⟨hk,hm⟩ | ⟨hk,c,hc,hcell⟩
 ·exact wpAny_Name (wpAny_loadName_local I.ok.kind hk hn hm fin) hd
 ·rcases hk with hk | hk
  ·exact wpAny_Name (wpAny_loadName_cell I.ok.kind hk hc hcell fin) hd
  ·exact wpAny_Name (wpAny_loadName_free I.ok.kind hk hc hcell fin hcd) hd
theorem Qt{i j pos}:PE X (.Constant (.int i) j pos) (tC (.int i)):=λ_ _ _ H _ I h=>wpAny_Constant_int ⟨.int i,H,I.tok _,⟨_,rfl⟩,h⟩
theorem Qd2{b j pos}:PE X (.Constant (.bool b) j pos) (tC (.bl b)):=λ_ _ _ H _ I h=>Constant_bool ⟨.bl b,H,I,rfl,h⟩
theorem YE{j pos}:PE X (.Constant .none j pos) (tC .non):=λ_ _ _ H _ I h=>Constant_none ⟨.non,H,I,rfl,h⟩
theorem QB{x j pos}:PE X (.Constant (.str x) j pos) (tC (.str x)):=λ_ _ _ H _ I h=>Calls.Constant_str ⟨.str x,H,I.tok _,⟨_,rfl⟩,h⟩
def Gl(X:Cx)(x:Str):Prop:=X.env.kindOf x=some .globalImplicit
theorem QeB{E:Value->Shared->Prop}{pins:List (Addr × Obj)}{s:Shared}{σ:St}{H:Hp}{x:Str}{u:Value}{pos:Pos}{Q:Value->Shared->Prop}(I:Inv X pins σ H s)(hg:Gl X x)(hm:X.mg x=some u)(h:Q u s)
  (hd:(x==("__debug__":Str))=false:=by decide):wpAny (model X.prog X.w) X.A (eval (.Name x pos) X.env) Q E s:=
 Calls.Name_function_global I.ok.kind hg (Calls.loadGlobal_global (by rw[I.ok.glob];exact I.mod.glob.keeps I.bk) hm h) hd
theorem Qcb{E:Value->Shared->Prop}{pins:List (Addr × Obj)}{s:Shared}{σ:St}{H:Hp}{x:Str}{u:Value}{pos:Pos}{Q:Value->Shared->Prop}(I:Inv X pins σ H s)(hg:Gl X x)(hm:X.mg x=none)(hv:bootBuiltins x=some u)(h:Q u s)
  (hn:x≠"__name__":=by decide) (hd:(x==("__debug__":Str))=false:=by decide):wpAny (model X.prog X.w) X.A (eval (.Name x pos) X.env) Q E s:=by
 obtain⟨mb,h1,h2⟩:=I.mod.blt;exact Calls.Name_function_global I.ok.kind hg (Calls.loadGlobal_builtin (by rw[I.ok.glob];exact I.mod.glob.keeps I.bk) hm (by rw[I.ok.blt];exact h1.keeps I.bk) ((h2 x hn).trans hv) h) hd
theorem Qpx{x:Str}{v:V}{u:Value}{pos:Pos}(hg:Gl X x)(hm:X.mg x=some u)(r:QZ v u)(hd:(x==("__debug__":Str))=false:=by decide):PE X (.Name x pos) (tC v):=
 λ_ _ _ H _ I h=>QeB I hg hm ⟨v,H,I,r,h⟩ hd
variable {a b:Expr} {ta tb:TE} {pos:Pos}
def PC(X:Cx)(op:CmpOp)(a b:Expr)(t:TE):Prop:=
 ∀(pins:List (Addr × Obj)) (s:Shared) (σ:St) (H:Hp) (Q:VK),Inv X pins σ H s->t σ H Q->
  wpAny (model X.prog X.w) X.A (eval a X.env) (λv s₁=>wpAny (model X.prog X.w) X.A (eval b X.env) (λu s₂=>wpAny (model X.prog X.w) X.A (compareOp op v u) (EP X pins σ Q) X.xe s₂) X.xe s₁) X.xe s
theorem Qjf(b:Expr){op:CmpOp}(h:op≠.In)(h2:op≠.NotIn):behindInMarks op b=false:=by
 have e1:(op==CmpOp.In)=false:=by cases op<;>first | rfl | exact absurd rfl h
 have e2:(op==CmpOp.NotIn)=false:=by cases op<;>first | rfl | exact absurd rfl h2
 cases b<;>simp[behindInMarks,e1,e2]
abbrev Qs5(ta:TE):TE:=fun σ H Q=>ta σ H λx H1=>Q (.bl (decide (x=.non))) H1
theorem QZ.none_iff{x:V}{v:Value}(r:QZ x v):(v==Value.none)=decide (x=.non):=by
 cases x with
 | non=>cases r;rfl
 | bl _=>cases r;rfl
 | int _=>obtain⟨t,rfl⟩:=r;rfl
 | str _=>obtain⟨t,rfl⟩:=r;rfl
 | byt _=>obtain⟨t,rfl⟩:=r;rfl
 | flt _=>obtain⟨t,rfl⟩:=r;rfl
 | ref _=>cases r;rfl
 | ty _=>cases r;rfl
theorem QaJ{j pos'}(ha:PE X a ta):PC X .Is a (.Constant .none j pos') (Qs5 ta):=by
 intro pins s σ H Q I h;refine thn (ha pins s σ H _ I h) λv s1 ⟨x,H1,I1,r1,q1⟩=>?_
 exact Constant_none (is_none_gen ⟨.bl _,H1,I1,by rw[r1.none_iff];rfl,q1⟩)
abbrev tB(t:TE):TT:=fun σ H Q=>t σ H λx H1=>∃c,x=.bl c/\Q c H1
theorem QfJ{op:CmpOp}{t:TE}(h:PC X op a b t)(h1:behindInMarks op b=false:=by first | exact Qjf _ (by decide) (by decide) | rfl):PE X (.Compare a [op] [b] pos) t:=λpins s σ H Q I hw=>wpAny_Compare1 (h pins s σ H Q I hw) h1
theorem Z7{op:CmpOp}{t:TE}(h:PC X op a b t)(h1:behindInMarks op b=false:=by first | exact Qjf _ (by decide) (by decide) | rfl):PT X (.Compare a [op] [b] pos) (tB t):=by
 intro pins s σ H Q I hw;refine wpAny_isTrue_Compare1 (thn (h pins s σ H _ I hw) λv s1 h1=>thn h1 λu s2 h2=>thn h2 λc s3 ⟨x,H1,I1,r1,q1⟩=>?_) h1;obtain⟨d,rfl,q⟩:=q1;cases r1;exact wpAny_truthy_bool ⟨H1,I1,q⟩
theorem Js{e:Expr}{t:TE}(h:PE X e t)(he:∀whole,isTrue e X.env whole=(do let v <-whole;standAt e.pos;holding [v] (truthy v)):=by intro _;rfl):PT X e (tB t):=by
 intro pins s σ H Q I hw;refine isTrue_plain (thn (h pins s σ H _ I hw) λv s1 ⟨x,H1,I1,r1,q1⟩=>?_) (he _);obtain⟨d,rfl,q⟩:=q1;cases r1;exact wpAny_truthy_bool ⟨H1,I1,q⟩
variable {tA tB':TT} {JC:List Expr}
abbrev Qs1(t u:TT):TT:=fun σ H Q=>t σ H λc H1=>if c=true then u σ H1 Q else Q false H1
abbrev tOr(t u:TT):TT:=fun σ H Q=>t σ H λc H1=>if c=true then Q true H1 else u σ H1 Q
abbrev Qs7(t:TT):TT:=fun σ H Q=>t σ H λc H1=>Q (!c) H1
theorem QcW(ha:PT X a tA):PW X (.BoolOp .And [a] pos) tA:=by
 intro wh pins s σ H Q I h;refine isTrue_and (thn (ha pins s σ H Q I h) λc s1 e=>?_);cases c with
 | true=>exact isTrue_and_nil e
 | false=>exact e
theorem WX(ha:PT X a tA):PW X (.BoolOp .Or [a] pos) tA:=by
 intro wh pins s σ H Q I h;refine isTrue_or (thn (ha pins s σ H Q I h) λc s1 e=>?_);cases c with
 | false=>exact isTrue_or_nil e
 | true=>exact e
theorem QfQ(ha:PT X a tA)(hb:PW X (.BoolOp .And (b::JC) pos) tB'):PW X (.BoolOp .And (a::b::JC) pos) (Qs1 tA tB'):=by
 intro wh pins s σ H Q I h;refine isTrue_and (thn (ha pins s σ H _ I h) λc s1 ⟨H1,I1,q1⟩=>?_);cases c with
 | true=>exact hb wh pins s1 σ H1 Q I1 q1
 | false=>exact⟨H1,I1,q1⟩
theorem Qa5(ha:PT X a tA)(hb:PW X (.BoolOp .Or (b::JC) pos) tB'):PW X (.BoolOp .Or (a::b::JC) pos) (tOr tA tB'):=by
 intro wh pins s σ H Q I h;refine isTrue_or (thn (ha pins s σ H _ I h) λc s1 ⟨H1,I1,q1⟩=>?_);cases c with
 | true=>exact⟨H1,I1,q1⟩
 | false=>exact hb wh pins s1 σ H1 Q I1 q1
theorem Zg(ha:PT X a tA):PT X (.UnaryOp .Not a pos) (Qs7 tA):=by
 intro pins s σ H Q I h;exact isTrue_not (ha pins s σ H (λc H1=>Q (!c) H1) I h)
abbrev Qsl(ta tb:TE):TE:=fun σ H Q=>ta σ H λx H1=>∃c,x=.bl c/\if c=true then tb σ H1 Q else Q (.bl false) H1
abbrev Qs8(ta tb:TE):TE:=fun σ H Q=>ta σ H λx H1=>∃c,x=.bl c/\if c=true then Q (.bl true) H1 else tb σ H1 Q
abbrev Qsq(ta:TE):TE:=fun σ H Q=>ta σ H λx H1=>∃c,x=.bl c/\Q (.bl (!c)) H1
theorem Zf{op}{t:TE}(h:PE X a t):PE X (.BoolOp op [a] pos) t:=λpins s σ H Q I hw=>BoolOp_one (h pins s σ H Q I hw)
theorem JL(ha:PE X a ta)(hb:PE X (.BoolOp .And (b::JC) pos) tb):PE X (.BoolOp .And (a::b::JC) pos) (Qsl ta tb):=by
 intro pins s σ H Q I h;refine BoolOp_and (thn (ha pins s σ H _ I h) λv s1 ⟨x,H1,I1,r1,q1⟩=>?_);obtain⟨c,rfl,q1⟩:=q1;cases r1;refine wpAny_truthy_bool ?_;cases c with
 | true=>exact hb pins s1 σ H1 Q I1 q1
 | false=>exact⟨.bl false,H1,I1,rfl,q1⟩
theorem Qn2(ha:PE X a ta)(hb:PE X (.BoolOp .Or (b::JC) pos) tb):PE X (.BoolOp .Or (a::b::JC) pos) (Qs8 ta tb):=by
 intro pins s σ H Q I h;refine BoolOp_or (thn (ha pins s σ H _ I h) λv s1 ⟨x,H1,I1,r1,q1⟩=>?_);obtain⟨c,rfl,q1⟩:=q1;cases r1;refine wpAny_truthy_bool ?_;cases c with
 | false=>exact hb pins s1 σ H1 Q I1 q1
 | true=>exact⟨.bl true,H1,I1,rfl,q1⟩
theorem QfM(ha:PE X a ta):PE X (.UnaryOp .Not a pos) (Qsq ta):=by
 intro pins s σ H Q I h;refine UnaryOp_ (thn (ha pins s σ H _ I h) λv s1 ⟨x,H1,I1,r1,q1⟩=>?_);obtain⟨c,rfl,q1⟩:=q1;cases r1;exact not_of (wpAny_truthy_bool ⟨.bl (!c),H1,I1,rfl,q1⟩)
abbrev tIf(t:TT)(ta tb:TE):TE:=fun σ H Q=>t σ H λc H1=>if c=true then ta σ H1 Q else tb σ H1 Q
theorem J5{c:Expr}(hc:PT X c tA)(ha:PE X a ta)(hb:PE X b tb):PE X (.IfExp c a b pos) (tIf tA ta tb):=by
 intro pins s σ H Q I h;refine wpAny_IfExp (thn (hc pins s σ H _ I h) λd s1 ⟨H1,I1,q1⟩=>?_);cases d with
 | true=>exact ha pins s1 σ H1 Q I1 q1
 | false=>exact hb pins s1 σ H1 Q I1 q1
end
def SqL(K:Xa)(H:Hp)(a:Addr)(xs:List V):Prop:=
 Rd H a (.lst xs)\/
  JP λ(o:Obj) (its:Array Value) (n:Nat)=>K.lookup a=some o/\o.cls=.type "list"/\o.dict=none/\o.data=.seq its n/\its.size<=sizeLine/\QP xs its.toList
def SqT(K:Xa)(H:Hp)(a:Addr)(xs:List V):Prop:=
 Rd H a (.tup xs)\/
  JP λ(o:Obj) (its:Array Value) (n:Nat)=>K.lookup a=some o/\o.cls=.type "tuple"/\o.data=.seq its n/\its.size<=sizeLine/\QP xs its.toList
def QsC:Value->Option V
 | .none=>some .non
 | .bool b=>some (.bl b)
 | .int i _=>some (.int i)
 | .str x _=>some (.str x)
 | .bytes b _=>some (.byt b)
 | .float b _=>some (.flt b)
 | .ref a=>some (.ref a)
 | .type n=>some (.ty n)
 | _=>none
theorem QZ.abs{x:V}{u:Value}(r:QZ x u):QsC u=some x:=by
 cases x with
 | non=>cases r;rfl
 | bl _=>cases r;rfl
 | int _=>obtain⟨t,rfl⟩:=r;rfl
 | str _=>obtain⟨t,rfl⟩:=r;rfl
 | byt _=>obtain⟨t,rfl⟩:=r;rfl
 | flt _=>obtain⟨t,rfl⟩:=r;rfl
 | ref _=>cases r;rfl
 | ty _=>cases r;rfl
theorem QZ.inj{x y:V}{u:Value}(r:QZ x u)(q:QZ y u):x=y:=Xm (r.abs.symm.trans q.abs)
theorem QP.inj:∀{xs ys:List V} {us:List Value},QP xs us->QP ys us->xs=ys
 | _,_,_,.nil,.nil=>rfl
 | _,_,_,.cons r t,.cons r' t'=>by rw[r.inj r',QP.inj t t']
section
variable {X:Cx} {pins:List (Addr × Obj)} {σ:St} {H:Hp} {s:Shared} {a:Addr} {xs ys:List V}
theorem SqL.of{K:Xa}(h:H a=some (.lst xs)):SqL K H a xs:=.inl (.inl h)
theorem SqT.of{K:Xa}(h:H a=some (.tup xs)):SqT K H a xs:=.inl (.inl h)
theorem Inv.list(I:Inv X pins σ H s)(h:SqL X.K H a xs):∃its:List Value,QP xs its/\PlainL s.heap a its.toArray/\xs.length<=sizeLine:=by
 rcases h with h | ⟨o,its,n,hk,hc,hd,hs,hz,r⟩
 ·obtain⟨z,its,n,r,e⟩:=h.ok I.hok;exact⟨its,r,⟨_,n,e,rfl,rfl,rfl⟩,z⟩
 ·refine⟨its.toList,r,⟨o,n,I.kIn a o hk,hc,hd,by simpa using hs⟩,?_⟩;have e:=r.length;simp only[XQ] at e;omega
theorem Inv.tuple(I:Inv X pins σ H s)(h:SqT X.K H a xs):∃its:List Value,QP xs its/\IsTup s.heap a its.toArray/\xs.length<=sizeLine:=by
 rcases h with h | ⟨o,its,n,hk,hc,hs,hz,r⟩
 ·obtain⟨z,its,r,p⟩:=h.ok I.hok;exact⟨its,r,p,z⟩
 ·refine⟨its.toList,r,⟨o,I.kIn a o hk,hc,n,by simpa using hs⟩,?_⟩;have e:=r.length;simp only[XQ] at e;omega
theorem Inv.list_inj(I:Inv X pins σ H s)(h:SqL X.K H a xs)(h':SqL X.K H a ys):xs=ys:=by
 obtain⟨its,r,⟨o,n,e,_,_,d⟩,_⟩:=I.list h;obtain⟨its',r',⟨o',n',e',_,_,d'⟩,_⟩:=I.list h';rw[e] at e';cases e';rw[d] at d';injection d' with d1 _;have:its=its':=by simpa using congrArg UQ d1
 subst this;exact r.inj r'
theorem Inv.tuple_inj(I:Inv X pins σ H s)(h:SqT X.K H a xs)(h':SqT X.K H a ys):xs=ys:=by
 obtain⟨its,r,⟨o,e,_,n,d⟩,_⟩:=I.tuple h;obtain⟨its',r',⟨o',e',_,n',d'⟩,_⟩:=I.tuple h';rw[e] at e';cases e';rw[d] at d';injection d' with d1 _;have:its=its':=by simpa using congrArg UQ d1
 subst this;exact r.inj r'
end
abbrev Cx.wish(X:Cx)(E:Value->Shared->Prop):Cx:={ X with xe:=E }
abbrev Cx.nox(X:Cx):Cx:=X.wish λ_ _=>False
theorem Cx.Ok.wish{X:Cx}(ok:X.Ok)(E:Value->Shared->Prop):(X.wish E).Ok:=
 ⟨ok.mod,ok.kind,ok.glob,ok.blt,ok.above,ok.inj,ok.has,ok.cab,ok.hd,ok.frames,ok.stk,ok.exf,ok.bs,ok.bsz,ok.noex,ok.exfs,ok.funs,ok.frf⟩
theorem Cx.Ok.unwish{X:Cx}{E:Value->Shared->Prop}(ok:(X.wish E).Ok):X.Ok:=
 ⟨ok.mod,ok.kind,ok.glob,ok.blt,ok.above,ok.inj,ok.has,ok.cab,ok.hd,ok.frames,ok.stk,ok.exf,ok.bs,ok.bsz,ok.noex,ok.exfs,ok.funs,ok.frf⟩
section
variable {X:Cx} {pins:List (Addr × Obj)} {σ:St} {H:Hp} {s:Shared} {E:Value->Shared->Prop}
theorem Inv.wish(I:Inv X pins σ H s)(E:Value->Shared->Prop):Inv (X.wish E) pins σ H s:=⟨I.ok.wish E,I.os,I.bare,I.base,I.loc,I.cell,I.free,I.freeC,I.pin,I.hok,I.len⟩
theorem Inv.unwish(I:Inv (X.wish E) pins σ H s):Inv X pins σ H s:=⟨I.ok.unwish,I.os,I.bare,I.base,I.loc,I.cell,I.free,I.freeC,I.pin,I.hok,I.len⟩
theorem SP.unwish{D:QeH}{f:Flow}{s':Shared}(h:SP (X.wish E) pins D f s'):SP X pins D f s':=by
 cases f with
 | next=>obtain⟨σ',H',I,q⟩:=h;exact⟨σ',H',I.unwish,q⟩
 | brk=>obtain⟨σ',H',I,q⟩:=h;exact⟨σ',H',I.unwish,q⟩
 | cont=>obtain⟨σ',H',I,q⟩:=h;exact⟨σ',H',I.unwish,q⟩
 | ret u=>obtain⟨v,σ',H',I,r,q⟩:=h;exact⟨v,σ',H',I.unwish,r,q⟩
theorem PSs.nox{st:List Stmt}{t:TS}(h:PSs X.nox st t):PSs X st t:=λpins s σ H D I hw=>
 wpAny_mono (h pins s σ H D (I.wish _) hw) (λ_ _ q=>q.unwish) λ_ _ z=>False.elim z
end
section
variable {X:Cx} {st:Stmt} {JC:List Stmt} {t u:TS} {e:Expr} {te:TE} {pos:Pos}
abbrev Qqp:TS:=λD σ H=>D.nx σ H
abbrev Qsr(t u:TS):TS:=λD σ H=>t { D with nx:=u D } σ H
theorem QC:PSs X [] Qqp:=λ_ _ σ H _ I h=>wpAny_execs_nil ⟨σ,H,I,h⟩
theorem Qd(h1:PS X st t)(h2:PSs X JC u):PSs X (st::JC) (Qsr t u):=by
 intro pins s σ H D I h;refine wpAny_execs_cons (thn (h1 pins s σ H { D with nx:=u D } I h) λf s1 q=>?_);cases f with
 | next=>
  obtain⟨σ',H',I',q⟩:=q;exact h2 pins s1 σ' H' D I' q
 | ret v=>exact q
 | brk=>exact q
 | cont=>exact q
theorem Qi(h1:PS X st t):PSs X [st] t:=by
 intro pins s σ H D I h;refine wpAny_execs_cons (thn (h1 pins s σ H D I h) λf s1 q=>?_);cases f with
 | next=>exact wpAny_execs_nil q
 | ret v=>exact q
 | brk=>exact q
 | cont=>exact q
theorem Inv.quiet{pins:List (Addr × Obj)}{σ:St}{H:Hp}{s:Shared}(I:Inv X pins σ H s):interactive X.env=false:=by simp[interactive,I.ok.kind]
abbrev Qsn(te:TE):TS:=λD σ H=>te σ H λ_ H1=>D.nx σ H1
theorem JF(he:PE X e te)(hs:swapsWith e none pos.line X.env=pure false:=by rfl):PS X (.Expr e pos) (Qsn te):=by
 intro pins s σ H D I h;exact wpAny_Expr_any (thn (he pins s σ H _ I h) λv s1 ⟨x,H1,I1,r1,q1⟩=>⟨σ,H1,I1,q1⟩) I.quiet hs
abbrev Qp5(te:TE):TS:=λD σ H=>te σ H D.rt
theorem Ql(he:PE X e te):PS X (.Return (some e) pos) (Qp5 te):=by
 intro pins s σ H D I h;exact wpAny_Return_some (thn (he pins s σ H _ I h) λv s1 ⟨x,H1,I1,r1,q1⟩=>⟨x,σ,H1,I1,r1,q1⟩)
abbrev Qrz(c:TT)(t u:TS):TS:=λD σ H=>c σ H λb H1=>if b=true then t D σ H1 else u D σ H1
theorem Q1{c:Expr}{a b:List Stmt}{tc:TT}(hc:PT X c tc)(ha:PSs X a t)(hb:PSs X b u):PS X (.If c a b pos) (Qrz tc t u):=by
 intro pins s σ H D I h;refine wpAny_If (thn (hc pins s σ H _ I h) λd s1 ⟨H1,I1,q1⟩=>?_);cases d with
 | true=>exact ha pins s1 σ H1 D I1 q1
 | false=>exact hb pins s1 σ H1 D I1 q1
end
abbrev TG:=V->St->Hp->(St->Hp->Prop)->Prop
abbrev TGs:=List V->St->Hp->(St->Hp->Prop)->Prop
def PG(X:Cx)(target:Expr)(t:TG):Prop:=
 ∀(pins:List (Addr × Obj)) (s:Shared) (σ:St) (H:Hp) (v:V) (u:Value) (Q:St->Hp->Prop),Inv X pins σ H s->QZ v u->t v σ H Q->
  wpAny (model X.prog X.w) X.A (assign target X.env u) (λ_ s'=>QA fun σ' H'=>Inv X pins σ' H' s'/\Q σ' H') X.xe s
def PGs(X:Cx)(ts:List Expr)(t:TGs):Prop:=
 ∀(pins:List (Addr × Obj)) (s:Shared) (σ:St) (H:Hp) (vs:List V) (us:List Value) (Q:St->Hp->Prop),Inv X pins σ H s->QP vs us->t vs σ H Q->
  wpAny (model X.prog X.w) X.A (assignInOrder ((assignEach ts X.env).map (·.2)) us) (λ_ s'=>QA fun σ' H'=>Inv X pins σ' H' s'/\Q σ' H') X.xe s
abbrev Qqx:=V->V->V->Hp->(Hp->Prop)->Prop
def QrL(X:Cx)(t:Qqx):Prop:=
 ∀(pins:List (Addr × Obj)) (s:Shared) (σ:St) (H:Hp) (o i v:V) (ov iv u:Value) (Q:Hp->Prop),Inv X pins σ H s->QZ o ov->QZ i iv->QZ v u->t o i v H Q->
  wpAny (model X.prog X.w) X.A (setItem ov iv u) (λ_ s'=>∃H',Inv X pins σ H' s'/\Q H') X.xe s
abbrev TIp:=V->V->Hp->VK->Prop
def PIp(X:Cx)(op:Operator)(t:TIp):Prop:=
 ∀(pins:List (Addr × Obj)) (s:Shared) (σ:St) (H:Hp) (x y:V) (v u:Value) (Q:VK),Inv X pins σ H s->QZ x v->QZ y u->t x y H Q->
  wpAny (model X.prog X.w) X.A (inplaceOp op v u) (EP X pins σ Q) X.xe s
section
variable {X:Cx} {pos:Pos}
abbrev Qe2(i:Nat):TG:=λv σ H Q=>Q (σ.set i (some v)) H
theorem QH{i:Nat}{x:Str}(hN:X.N.Nodup)(hi:X.N[i]?=some x)(hx:Loc X.env.scope x)(hf:X.fn x=true\/X.env.scope.names.lookup x=some .local:=by first | exact .inl rfl | exact .inr rfl | assumption):PG X (.Name x pos) (Qe2 i):=by
 intro pins s σ H v u Q I r h;exact wpAny_assign_Name (Qf5 I hN hi hx r (λs' I'=>⟨_,H,I',h⟩) hf)
abbrev QsI:TGs:=λvs σ H Q=>vs=[]/\Q σ H
abbrev QrV(t:TG)(u:TGs):TGs:=λvs σ H Q=>QA λv r=>vs=v::r/\t v σ H fun σ' H'=>u r σ' H' Q
theorem Qia:PGs X [] QsI:=by
 intro pins s σ H vs us Q I r h;obtain⟨e,h⟩:=h;subst e;cases r;exact assignInOrder_nil ⟨σ,H,I,h⟩
theorem Qak{e:Expr}{es:List Expr}{t:TG}{u:TGs}(h1:PG X e t)(h2:PGs X es u)
  (hs:(assignEach (e::es) X.env).map (·.2)=assign e X.env::(assignEach es X.env).map (·.2):=by rfl):PGs X (e::es) (QrV t u):=by
 intro pins s σ H vs us Q I r h;obtain⟨v,vr,e1,h⟩:=h;subst e1;cases r with
 | cons r rr=>
  rw[hs];refine assignInOrder_cons (thn (h1 pins s σ H _ _ _ I r h) λ_ s1 ⟨σ1,H1,I1,q1⟩=>?_);exact h2 pins s1 σ1 H1 _ _ Q I1 rr q1
abbrev QrW(K:Xa)(n:Nat)(t:TGs):TG:=λv σ H Q=>QA λa xs=>v=.ref a/\SqT K H a xs/\xs.length=n/\t xs σ H Q
theorem Qq5{es:List Expr}{k:Nat}{t:TGs}{n:Nat}(hc:X.calm=true)(h:PGs X es t)
  (hn:(assignEach es X.env).length=n:=by rfl) (hst:(assignEach es X.env).findIdx? (·.1)=none:=by rfl):PG X (.Tuple es k pos) (QrW X.K n t):=by
 intro pins s σ H v u Q I r hw;obtain⟨a,xs,e1,hq,hl,hw⟩:=hw;subst e1;cases r;obtain⟨its,rv,ht,hz⟩:=I.tuple hq;refine assign_Tuple_tuple (I.ok.hd hc) ht (by simp[hn,<-hl,rv.length]) hst λh' hx=>?_
 have I1:Inv X pins σ H { s with heap:=h' }:=I.kept (t':=s.toks) λb o e=>hx b o (Xl (Xf e)) e
 exact h pins _ σ H xs _ Q I1 (by simpa using rv) hw
abbrev QsJ(to ti:TE)(t:Qqx):TG:=λv σ H Q=>to σ H λo H1=>ti σ H1 λi H2=>t o i v H2 λH3=>Q σ H3
theorem Qh8{o i:Expr}{to ti:TE}{t:Qqx}(ho:PE X o to)(hi:PE X i ti)(hs:QrL X t)
  (ha:∀v,assign (.Subscript o i pos) X.env v=(do
    let ov <-holding [v] (eval o X.env)
    let iv <-holding [v,ov] (eval i X.env)
    standAt pos
    holding [v,ov,iv] (setItem ov iv v)
    release [v,ov,iv] []):=by intro _;rfl):PG X (.Subscript o i pos) (QsJ to ti t):=by
 intro pins s σ H v u Q I r h;rw[ha];refine wpAny_bind (wpAny_holding (thn (ho pins s σ H _ I h) λov s1 ⟨x,H1,I1,r1,q1⟩=>?_));refine wpAny_bind (wpAny_holding (thn (hi pins s1 σ H1 _ I1 q1) λiv s2 ⟨y,H2,I2,r2,q2⟩=>?_));refine wpAny_bind (wpAny_standAt (wpAny_bind (wpAny_holding (thn (hs pins s2 σ H2 x y v ov iv u _ I2 r1 r2 r q2) λ_ s3 ⟨H3,I3,q3⟩=>?_))));exact wpAny_release ⟨σ,H3,I3,q3⟩
abbrev Qp3(te:TE)(g:TG):TS:=λD σ H=>te σ H λx H1=>g x σ H1 D.nx
theorem Qic{tg e:Expr}{te:TE}{g:TG}(he:PE X e te)(hg:PG X tg g)(hs:swapsWithSole [tg] e pos.line X.env=pure false:=by rfl)(hw:swappedStores [tg] e X.env=pure none:=by rfl)
  (h1:(assignEach [tg] X.env).map (·.2)=[assign tg X.env]:=by rfl):PS X (.Assign [tg] e pos) (Qp3 te g):=by
 intro pins s σ H D I h;refine wpAny_Assign_stores (thn (he pins s σ H _ I h) λv s1 ⟨x,H1,I1,r1,q1⟩=>?_) hs hw;rw[h1];exact thn (hg pins s1 σ H1 x v _ I1 r1 q1) λ_ s2 q=>q
theorem Qx{i:Nat}{x:Str}{e:Expr}{te:TE}{pos':Pos}(hN:X.N.Nodup)(hi:X.N[i]?=some x)(hx:Loc X.env.scope x)(he:PE X e te)(hs:swapsWith e (some (.Name x pos')) pos.line X.env=pure false:=by rfl)(hf:X.fn x=true\/X.env.scope.names.lookup x=some .local:=by first | exact .inl rfl | exact .inr rfl | assumption) :
  PS X (.Assign [.Name x pos'] e pos) (Qp3 te (Qe2 i)):=by
 intro pins s σ H D I h;refine wpAny_Assign_Name (thn (he pins s σ H _ I h) λv s1 ⟨y,H1,I1,r1,q1⟩=>?_) hs;exact Qf5 I1 hN hi hx r1 (λs2 I2=>⟨_,H1,I2,q1⟩) hf
abbrev Qs2(i:Nat)(te:TE)(ti:TIp):TS:=λD σ H=>∃x,σ[i]?=some (some x)/\te σ H λy H1=>ti x y H1 λz H2=>D.nx (σ.set i (some z)) H2
theorem Qq7{i:Nat}{x:Str}{e:Expr}{te:TE}{op:Operator}{ti:TIp}{pos':Pos}(hN:X.N.Nodup)(hi:X.N[i]?=some x)(hx:Loc X.env.scope x)(he:PE X e te)(ho:PIp X op ti)(hf:X.fn x=true\/X.env.scope.names.lookup x=some .local:=by first | exact .inl rfl | exact .inr rfl | assumption) :
  PS X (.AugAssign (.Name x pos') op e pos) (Qs2 i te ti):=by
 intro pins s σ H D I h;obtain⟨v,e1,h⟩:=h;obtain⟨m,hn,hl⟩:=I.loc;have vis:Vis X.env.scope x:=by rcases hx with k | k;exact .inl k;exact .inr (.inl k)
 obtain⟨u,r,l⟩:=hl i x v hi e1 vis;refine wpAny_AugAssign_Name ?_;have go:wpAny (model X.prog X.w) X.A (eval e X.env) (λw s₂=>wpAny (model X.prog X.w) X.A (inplaceOp op u w) (λr s₃=>wpAny (model X.prog X.w) X.A (storeName X.env x r) (λ_=>SP X pins D .next) X.xe s₃) X.xe s₂) X.xe s:=by
  refine thn (he pins s σ H _ I h) λw s1 ⟨y,H1,I1,r1,q1⟩=>?_
  refine thn (ho pins s1 σ H1 v y u w _ I1 r r1 q1) λz s2 ⟨zv,H2,I2,r2,q2⟩=>?_
  exact Qf5 I2 hN hi hx r2 (λs3 I3=>⟨_,H2,I3,q2⟩) hf
 rcases l with ⟨hk,hm⟩ | ⟨hk,c,hc,hcell⟩
 ·exact wpAny_loadName_local I.ok.kind hk hn hm go
 ·rcases hk with hk | hk
  ·exact wpAny_loadName_cell I.ok.kind hk hc hcell go
  ·rcases hx with k | k
   ·have:X.env.scope.names.lookup x=some .free:=hk;rw[k] at this;cases this
   ·have:X.env.scope.names.lookup x=some .free:=hk;rw[k] at this;cases this
def ipI(f:Int->Int->Int):TIp:=λx y H Q=>QA λi j=>x=.int i/\y=.int j/\Q (.int (f i j)) H
theorem QqP:PIp X .Sub (ipI λi j=>i-j):=by
 intro pins s σ H x y v u Q I r1 r2 h;obtain⟨i,j,e1,e2,q⟩:=h;subst e1;subst e2;obtain⟨t,rfl⟩:=r1;obtain⟨t',rfl⟩:=r2;exact isub_int ⟨.int _,H,I.tok _,⟨_,rfl⟩,q⟩
end
section
variable {X:Cx} {pos:Pos}
def QrD(c:TT)(tb:TS):TS:=λD σ H=>∃W:Nat->St->Hp->Prop,(∃m,W m σ H)/\∀m σ H,W m σ H->
 c σ H λb H1=>if b=true then ∃N:St->Hp->Prop,(∀σ' H',N σ' H'->∃m',m'<m/\W m' σ' H')/\tb { D with nx:=N,ct:=N,bk:=D.nx } σ H1 else D.nx σ H1
theorem QcS{c:Expr}{body:List Stmt}{tc:TT}{tb:TS}(hp:PassesOwn (model X.prog X.w) X.A X.env X.xe)(hc:PT X c tc)(hb:PSs X body tb):PS X (.While c body [] pos) (QrD tc tb):=by
 intro pins s σ H D I h;obtain⟨W,⟨m0,w0⟩,turn⟩:=h;refine wpAny_While (codeAny_whileLoop (λn s'=>QA fun σ' H'=>Inv X pins σ' H' s'/\W n σ' H') ?_ m0 ⟨σ,H,I,w0⟩);rintro n s1 ⟨σ1,H1,I1,w1⟩;refine wpAny_passesOwn hp (thn (hc pins s1 σ1 H1 _ I1 (turn n σ1 H1 w1)) λb s2 ⟨H2,I2,q2⟩=>?_);cases b with
 | true=>
  obtain⟨N,hN,q2⟩:=q2;rw[if_pos rfl];refine wpAny_passesOwn hp (thn (hb pins s2 σ1 H2 _ I2 q2) λf s3 q3=>?_);cases f with
  | next=>
   obtain⟨σ3,H3,I3,n3⟩:=q3;obtain⟨m',hm,w3⟩:=hN σ3 H3 n3;exact⟨m',hm,σ3,H3,I3,w3⟩
  | cont=>
   obtain⟨σ3,H3,I3,n3⟩:=q3;obtain⟨m',hm,w3⟩:=hN σ3 H3 n3;exact⟨m',hm,σ3,H3,I3,w3⟩
  | brk=>exact q3
  | ret v=>exact q3
 | false=>
  rw[if_neg Xc];exact wpAny_execs_nil ⟨σ1,H2,I2,q2⟩
end
structure It where
 go:Nat->Hp->Prop
 yld:Nat->Hp->V->Hp->Prop
 stop:Nat->Hp->Prop
def Qef(X:Cx)(pins:List (Addr × Obj))(H:Hp)(b:Addr):Prop:=
 H b=none/\b≠X.env.locals/\b ∉ X.fs/\(b ∈ X.ex\/X.s_0.heap.objs.size<=b)/\(∀x c,X.env.cells.lookup x=some c->c≠b)/\∀p ∈ X.pn++pins,p.1≠b
theorem Inv.fpOk{X:Cx}{pins:List (Addr × Obj)}{σ:St}{H H':Hp}{s:Shared}{b:Addr}(I:Inv X pins σ H s)(hb:s.heap.objs.size<=b)(hn:H' b=none):Qef X pins H' b:=by
 refine⟨hn,Us (Xi I.lt hb),I.nofs hb,.inr (Xo I.sz hb),λx c e z=>?_,λp hp z=>?_⟩
 ·obtain⟨v,q⟩:=I.cell x c e;exact absurd (Xi q.lt (by rw[z];exact hb)) (Xy _)
 ·exact absurd (Xi (Xf (I.pin p hp).1) (by rw[z];exact hb)) (Xy _)
structure Qgi(P:Program)(w:World)(K:Xa)(tg:Expr)(J:It)(fp:List Addr)(it:Addr)(tn:Nat->Heap->Prop):Prop where
 mem:it ∈ fp
 obj:∀i h,tn i h->∀b ∈ fp,∃o,h.get? b=some o/\∀v,o.data≠.cell v
 keep:∀i h h',tn i h->(∀b ∈ fp,∀o,h.get? b=some o->h'.get? b=some o)->tn i h'
 item:∀(X:Cx),X.prog=P->X.w=w->X.K=K->X.calm=true->∀(i:Nat) (pins:List (Addr × Obj)) (s:Shared) (σ:St) (H:Hp) (E:Value->Shared->Prop),Inv X pins σ H s->(∀b ∈ fp,Qef X pins H b)->tn i s.heap->J.go i H->
  wpAny (model P w) X.A (pyNext (.ref it)) (λr s1=>∃u,r=some u/\
   wpAny (model P w) X.A (letOwnedTupleGo tg (.ref it) u) (λ_ s2=>QA λx H'=>Inv X pins σ H' s2/\QZ x u/\J.yld i H x H'/\tn (i+1) s2.heap/\∀b ∈ fp,H' b=none) E s1) E s
 done:∀(X:Cx),X.prog=P->X.w=w->X.K=K->X.calm=true->∀(i:Nat) (pins:List (Addr × Obj)) (s:Shared) (σ:St) (H:Hp) (E:Value->Shared->Prop),Inv X pins σ H s->(∀b ∈ fp,Qef X pins H b)->tn i s.heap->J.stop i H->
  wpAny (model P w) X.A (pyNext (.ref it)) (λr s1=>r=none/\Inv X pins σ H s1) E s
 self:∀(A:Around) (i:Nat) (s:Shared) (Q:Value->Shared->Prop) (E:Value->Shared->Prop),tn i s.heap->Q (.ref it) s->wpAny (model P w) A (pyIter (.ref it)) Q E s
abbrev TI:=St->Hp->(It->Hp->Prop)->Prop
def PIE(X:Cx)(pins:List (Addr × Obj))(σ:St)(tg:Expr)(R:It->Hp->Prop)(itv:Value)(s2:Shared):Prop:=
 QbT λ(it:Addr) (fp:List Addr) (tn:Nat->Heap->Prop) (J:It) (H':Hp)=>itv=.ref it/\Inv X pins σ H' s2/\Qgi X.prog X.w X.K tg J fp it tn/\tn 0 s2.heap/\(∀b ∈ fp,Qef X pins H' b)/\R J H'
def PI(X:Cx)(tg iter:Expr)(wi:TI):Prop:=
 ∀(pins:List (Addr × Obj)) (s:Shared) (σ:St) (H:Hp) (R:It->Hp->Prop),Inv X pins σ H s->wi σ H R->
  wpAny (model X.prog X.w) X.A (eval iter X.env) (λv s1=>wpAny (model X.prog X.w) X.A (pyIter v) (PIE X pins σ tg R) X.xe s1) X.xe s
theorem QgU{M:Model}{A:Around}{E:Value->Shared->Prop}{s:Shared}{tg:Expr}{it:Addr}{u:Value}{o:Obj}{n:String}{vs:Array Value}{Q:Unit->Shared->Prop}(ho:s.heap.get? it=some o)(hc:o.cls=.type n)(hd:o.data=.fields vs)
  (hn:["enumerate","zip","dict_itemiterator","dict_reverseitemiterator","odict_iterator","itertools.zip_longest","itertools.pairwise"].contains n=false) (hQ:Q () s):wpAny M A (letOwnedTupleGo tg (.ref it) u) Q E s:=by
 unfold letOwnedTupleGo;cases tg<;>first
  | exact wpAny_pure hQ
  | (cases u<;>first
      | exact wpAny_pure hQ
      | (refine wpAny_bind (wpAny_load ho ?_)
         rw[hc,hd];show wpAny M A (if (["enumerate","zip","dict_itemiterator","dict_reverseitemiterator","odict_iterator","itertools.zip_longest","itertools.pairwise"].contains n&&vs[0]?==some (rawInt _))=true then _ else _) Q E s;rw[if_neg (by intro h;rw[hn,Bool.false_and] at h;cases h)];exact wpAny_pure hQ))
def Itl(K:Xa)(a:Addr):It:=
 ⟨λi H=>QA λxs x=>SqL K H a xs/\xs[i]?=some x,λi H x H'=>H'=H/\∀xs,SqL K H a xs->xs[i]?=some x,λi H=>∃xs,SqL K H a xs/\xs.length<=i⟩
def Itt(K:Xa)(a:Addr):It:=
 ⟨λi H=>QA λxs x=>SqT K H a xs/\xs[i]?=some x,λi H x H'=>H'=H/\∀xs,SqT K H a xs->xs[i]?=some x,λi H=>∃xs,SqT K H a xs/\xs.length<=i⟩
def Itr(lo:Int)(n:Nat):It:=⟨λi _=>i<n,λi H x H'=>H'=H/\x=.int (lo+i),λi _=>n<=i⟩
theorem Qm4{P:Program}{w:World}{K:Xa}{tg:Expr}(a it:Addr):Qgi P w K tg (Itl K a) [it] it (λi h=>h.IsListIter it a i) where
 mem:=by simp
 obj:=λi h st b hb=>by
  have e:b=it:=by simpa using hb
  subst e;obtain⟨o,e,c,d⟩:=st;exact⟨o,e,λv z=>by rw[d] at z;cases z⟩
 keep:=λi h h' st k=>st.at λo e=>k it (by simp) o e
 item:=by
  intro X hP hw hK hc i pins s σ H E I hf st hg;subst hP hw hK;obtain⟨xs,x,hq,hx⟩:=hg;obtain⟨its,rv,p,hz⟩:=I.list hq;obtain⟨u,hu,ru⟩:=rv.get hx;obtain⟨f0,f1,f2,f3,f4,f5⟩:=hf it (by simp);refine wpAny_pyNext_list_item st p.isList (x:=u) (by simpa using hu) λh' st' sb=>?_
  have I1:Inv X pins σ H { s with heap:=h' }:=I.turned (t':=s.toks) (λb o hb e=>(sb.2 b hb).trans e) f0 f1 f3 f4 f5;obtain⟨o,e,c,d⟩:=id st';exact⟨u,rfl,QgU (s:={ s with heap:=h' }) e c d (by decide) ⟨x,H,I1,ru,⟨rfl,λys hy=>by rw[I.list_inj hy hq];exact hx⟩,st',λb hb=>(hf b hb).1⟩⟩
 done:=by
  intro X hP hw hK hc i pins s σ H E I hf st hg;subst hP hw hK;obtain⟨xs,hq,hx⟩:=hg;obtain⟨its,rv,p,hz⟩:=I.list hq;obtain⟨f0,f1,f2,f3,f4,f5⟩:=hf it (by simp);have hl:=rv.length;exact wpAny_pyNext_list_end (I.ok.hd hc) st p.isList (by simp;omega) λh' eb=>⟨rfl,I.turned (t':=s.toks) (λb o hb e=>eb b o hb e) f0 f1 f3 f4 f5⟩
 self:=λ_ _ _ _ _ st h=>wpAny_pyIter_listiter st h
theorem Qk1{P:Program}{w:World}{K:Xa}{tg:Expr}(a it:Addr):Qgi P w K tg (Itt K a) [it] it (λi h=>h.IsTupleIter it a i) where
 mem:=by simp
 obj:=λi h st b hb=>by
  have e:b=it:=by simpa using hb
  subst e;obtain⟨o,e,c,d⟩:=st;exact⟨o,e,λv z=>by rw[d] at z;cases z⟩
 keep:=λi h h' st k=>st.at λo e=>k it (by simp) o e
 item:=by
  intro X hP hw hK hc i pins s σ H E I hf st hg;subst hP hw hK;obtain⟨xs,x,hq,hx⟩:=hg;obtain⟨its,rv,p,hz⟩:=I.tuple hq;obtain⟨u,hu,ru⟩:=rv.get hx;obtain⟨f0,f1,f2,f3,f4,f5⟩:=hf it (by simp);refine wpAny_pyNext_tuple_item st (show s.heap.IsTuple a its.toArray from p) (x:=u) (by simpa using hu) λh' st' sb=>?_
  have I1:Inv X pins σ H { s with heap:=h' }:=I.turned (t':=s.toks) (λb o hb e=>(sb.2 b hb).trans e) f0 f1 f3 f4 f5;obtain⟨o,e,c,d⟩:=id st';exact⟨u,rfl,QgU (s:={ s with heap:=h' }) e c d (by decide) ⟨x,H,I1,ru,⟨rfl,λys hy=>by rw[I.tuple_inj hy hq];exact hx⟩,st',λb hb=>(hf b hb).1⟩⟩
 done:=by
  intro X hP hw hK hc i pins s σ H E I hf st hg;subst hP hw hK;obtain⟨xs,hq,hx⟩:=hg;obtain⟨its,rv,p,hz⟩:=I.tuple hq;obtain⟨f0,f1,f2,f3,f4,f5⟩:=hf it (by simp);have hl:=rv.length;exact wpAny_pyNext_tuple_end (I.ok.hd hc) st (show s.heap.IsTuple a its.toArray from p) (by simp;omega) λh' eb=>⟨rfl,I.turned (t':=s.toks) (λb o hb e=>eb b o hb e) f0 f1 f3 f4 f5⟩
 self:=λ_ _ _ _ _ st h=>wpAny_pyIter_tupleiter st h
theorem Qk0{P:Program}{w:World}{K:Xa}{tg:Expr}(it:Addr)(lo:Int)(n:Nat):Qgi P w K tg (Itr lo n) [it] it (λi h=>IsRangeIter h it (lo+(i:Nat) * 1) ((n:Int)-(i:Nat)) 1) where
 mem:=by simp
 obj:=λi h st b hb=>by
  have e:b=it:=by simpa using hb
  subst e;exact⟨_,st,λv z=>by
   have z':Data.fields _=Data.cell v:=z;cases z'⟩
 keep:=λi h h' st k=>k it (by simp) _ st
 item:=by
  intro X hP hw hK hc i pins s σ H E I hf st hg;subst hP hw hK;obtain⟨f0,f1,f2,f3,f4,f5⟩:=hf it (by simp);have W:=Walks.range (prog:=X.prog) (w:=X.w) (I.ok.hd hc) it lo 1 n;refine W.item i s _ _ hg st λv h' tk hv st' kk=>?_
  obtain⟨t,rfl⟩:=hv;have I1:Inv X pins σ H { s with heap:=h',toks:=tk }:=I.turned (λb o hb e=>kk b o (by simpa using hb) e) f0 f1 f3 f4 f5;refine⟨_,rfl,QgU (s:={ s with heap:=h',toks:=tk }) (n:="range_iterator") st' rfl rfl (by decide) ⟨.int (lo+i),H,I1,⟨t,?_⟩,⟨rfl,rfl⟩,st',λb hb=>(hf b hb).1⟩⟩;rw[Int.mul_one]
 done:=by
  intro X hP hw hK hc i pins s σ H E I hf st hg;subst hP hw hK;obtain⟨f0,f1,f2,f3,f4,f5⟩:=hf it (by simp);exact wpAny_pyNext_range_end (I.ok.hd hc) st (by have:n<=i:=hg;omega) λh' eb=>⟨rfl,I.turned (t':=s.toks) (λb o hb e=>eb b o hb e) f0 f1 f3 f4 f5⟩
 self:=λ_ _ _ _ _ st h=>wpAny_pyIter_rangeiter st h
section
variable {X:Cx} {tg:Expr}
abbrev Qqi(K:Xa)(tl:TE):TI:=fun σ H R=>tl σ H λx H1=>∃a,x=.ref a/\(∃xs,SqL K H1 a xs)/\R (Itl K a) H1
abbrev QsP(K:Xa)(tl:TE):TI:=fun σ H R=>tl σ H λx H1=>∃a,x=.ref a/\(∃xs,SqT K H1 a xs)/\R (Itt K a) H1
theorem Q4{l:Expr}{tl:TE}(hl:PE X l tl):PI X tg l (Qqi X.K tl):=by
 intro pins s σ H R I h;refine thn (hl pins s σ H _ I h) λv s1 ⟨x,H1,I1,r1,q1⟩=>?_
 obtain⟨a,e,⟨xs,hq⟩,q⟩:=q1;subst e;cases r1;obtain⟨its,rv,p,hz⟩:=I1.list hq;refine wpAny_pyIter_list p.isList ?_;refine⟨s1.heap.objs.size,[s1.heap.objs.size],_,_,H1,rfl,I1.kept (t':=s1.toks) λb o e=>Xb _ e,Qm4 a _,⟨_,Xg _ rfl,rfl,rfl⟩,λb hb=>?_,q⟩;have e:b=s1.heap.objs.size:=by simpa using hb
 subst e;exact I1.fpOk (Xe _) (I1.hok.fresh (Xe _))
theorem Qq6{l:Expr}{tl:TE}(hl:PE X l tl):PI X tg l (QsP X.K tl):=by
 intro pins s σ H R I h;refine thn (hl pins s σ H _ I h) λv s1 ⟨x,H1,I1,r1,q1⟩=>?_
 obtain⟨a,e,⟨xs,hq⟩,q⟩:=q1;subst e;cases r1;obtain⟨its,rv,p,hz⟩:=I1.tuple hq;refine wpAny_pyIter_tuple (show s1.heap.IsTuple a its.toArray from p) ?_;refine⟨s1.heap.objs.size,[s1.heap.objs.size],_,_,H1,rfl,I1.kept (t':=s1.toks) λb o e=>Xb _ e,Qk1 a _,⟨_,Xg _ rfl,rfl,rfl⟩,λb hb=>?_,q⟩;have e:b=s1.heap.objs.size:=by simpa using hb
 subst e;exact I1.fpOk (Xe _) (I1.hok.fresh (Xe _))
theorem Qju{pins:List (Addr × Obj)}{σ:St}{H:Hp}{s:Shared}{R:It->Hp->Prop}{E:Value->Shared->Prop}{lo hi:Int}{t u v:Tok}{tk:Nat}(I:Inv X pins σ H s)(h1:-(2 ^ 62)<=lo)(h2:lo<2 ^ 62)(h3:-(2 ^ 62)<=hi)(h4:hi<2 ^ 62)
  (q:R (Itr lo (hi-lo).toNat) H):wpAny (model X.prog X.w) X.A (pyIter (.ref s.heap.objs.size)) (PIE X pins σ tg R) E { s with heap:=s.heap.push { cls:=.type "range",data:=.fields #[.int lo t,.int hi u,.int 1 v] },toks:=tk }:=by
 refine wpAny_pyIter_range (IsRange.new ..) (small_one h1 h2 h3 h4) ?_;have I1:Inv X pins σ H { s with heap:=s.heap.push { cls:=.type "range",data:=.fields #[.int lo t,.int hi u,.int 1 v] },toks:=tk }:=I.kept λb o e=>Xb _ e
 refine⟨(s.heap.push { cls:=.type "range",data:=.fields #[.int lo t,.int hi u,.int 1 v] }).objs.size,[(s.heap.push { cls:=.type "range",data:=.fields #[.int lo t,.int hi u,.int 1 v] }).objs.size],_,_,H,rfl,
  I1.kept (t':=tk) λb o e=>Xb _ e,Qk0 _ lo (hi-lo).toNat,?_,λb hb=>?_,q⟩
 ·have e1:lo+((0:Nat):Int) * 1=lo:=by simp
  have e2:(((hi-lo).toNat:Nat):Int)-((0:Nat):Int)=Builtin.Range.rangeSize lo hi 1:=by rw[rangeSize_one];split<;>omega
  show IsRangeIter _ _ (lo+((0:Nat):Int) * 1) ((((hi-lo).toNat:Nat):Int)-((0:Nat):Int)) 1;rw[e1,e2];exact Xg _ rfl
 ·have e:b=(s.heap.push { cls:=.type "range",data:=.fields #[.int lo t,.int hi u,.int 1 v] }).objs.size:=by simpa using hb
  subst e;exact I1.fpOk (Xe _) (I1.hok.fresh (Xe _))
abbrev QrZ(ta:TA):TI:=fun σ H R=>ta σ H λvs H1=>∃j:Int,vs=[.int j]/\-(2 ^ 62)<=j/\j<2 ^ 62/\R (Itr 0 j.toNat) H1
abbrev Qr0(ta:TA):TI:=fun σ H R=>ta σ H λvs H1=>QA λ(i j:Int)=>vs=[.int i,.int j]/\(-(2 ^ 62)<=i/\i<2 ^ 62/\-(2 ^ 62)<=j/\j<2 ^ 62)/\R (Itr i (j-i).toNat) H1
theorem QbO{a:Expr}{ta:TA}{p pos:Pos}(hg:Gl X "range")(hm:X.mg "range"=none)(ha:PA X [a] ta)(hs:starEach [a] X.env=[(false,eval a X.env)]:=by rfl):PI X tg (.Call (.Name "range" p) [a] [] pos) (QrZ ta):=by
 intro pins s σ H R I h;refine Call_ (Qcb I hg hm boot_range (PyProof.Rows.callWith_type1 (thn (ha pos pins s σ H _ I h) λus s1 ⟨vs,H1,I1,r1,q1⟩=>?_) hs rfl));obtain⟨j,e,q1,q2,q⟩:=q1;subst e;cases r1 with
 | cons r rr=>
  cases rr;obtain⟨t,rfl⟩:=r;exact call_range_1 (Qju I1 (by omega) (by omega) q1 q2 (by simpa using q))
theorem QmG{a b:Expr}{ta:TA}{p pos:Pos}(hg:Gl X "range")(hm:X.mg "range"=none)(ha:PA X [a,b] ta)(hs:starEach [a,b] X.env=[(false,eval a X.env),(false,eval b X.env)]:=by rfl)(hs2:starEach [b] X.env=[(false,eval b X.env)]:=by rfl) :
  PI X tg (.Call (.Name "range" p) [a,b] [] pos) (Qr0 ta):=by
 intro pins s σ H R I h;refine Call_ (Qcb I hg hm boot_range (PyProof.Rows.callWith_type1 (thn (ha pos pins s σ H _ I h) λus s1 ⟨vs,H1,I1,r1,q1⟩=>?_) (by rw[hs,hs2]) (by rw[hs2];rfl)));obtain⟨i,j,e,⟨q1,q2,q3,q4⟩,q⟩:=q1;subst e;cases r1 with
 | cons r rr=>
  cases rr with
  | cons r' rr=>
   cases rr;obtain⟨t,rfl⟩:=r;obtain⟨t',rfl⟩:=r';exact call_range_2 (Qju I1 q1 q2 q3 q4 q)
def Qs4(wi:TI)(g:TG)(tb:TS):TS:=λD σ H=>wi σ H λJ H1=>∃W:Nat->Nat->St->Hp->Prop,(∃m,W 0 m σ H1)/\∀i m σ H,W i m σ H->
 (J.stop i H/\D.nx σ H)\/(J.go i H/\∃N:St->Hp->Prop,(∀σ' H',N σ' H'->∃m',m'<m/\W (i+1) m' σ' H')/\∀x H',J.yld i H x H'->g x σ H' fun σ2 H2=>tb { D with nx:=N,ct:=N,bk:=D.nx } σ2 H2)
def QfO(fp:List Addr)(h:Heap):List (Addr × Obj):=fp.filterMap λb=>(h.get? b).map λo=>(b,o)
theorem Qcd{fp:List Addr}{h:Heap}{b:Addr}{o:Obj}(hb:b ∈ fp)(e:h.get? b=some o):(b,o) ∈ QfO fp h:=UR.mpr ⟨b,hb,by rw[e];rfl⟩
theorem Qmz{fp:List Addr}{h:Heap}{p:Addr × Obj}(hp:p ∈ QfO fp h):p.1 ∈ fp/\h.get? p.1=some p.2:=by
 obtain⟨b,hb,e⟩:=UR.mp hp;cases q:h.get? b with
 | none=>rw[q] at e;cases e
 | some o=>
  rw[q] at e;have e':(b,o)=p:=Xm e;subst e';exact⟨hb,q⟩
theorem Inv.pinned{pins:List (Addr × Obj)}{σ:St}{H:Hp}{s:Shared}{fp:List Addr}(I:Inv X pins σ H s)(hf:∀b ∈ fp,Qef X pins H b)(ho:∀b ∈ fp,∃o,s.heap.get? b=some o/\∀v,o.data≠.cell v):Inv X (pins++QfO fp s.heap) σ H s:=
 I.pins_of λp hp=>(XR.mp hp).elim (λz=>I.pin p (Xv _ z)) λz=>by
  obtain⟨hb,e⟩:=Qmz z;obtain⟨f0,f1,f2,_⟩:=hf p.1 hb;obtain⟨o,e',d⟩:=ho p.1 hb;rw[e] at e';cases e';exact⟨e,f0,f1,f2,d⟩
theorem Inv.unpinned{pins pl:List (Addr × Obj)}{σ:St}{H:Hp}{s:Shared}(I:Inv X (pins++pl) σ H s):Inv X pins σ H s:=I.pins_of λp hp=>I.pin p (Xv _ (UM _ hp))
theorem QaK{iter:Expr}{body:List Stmt}{wi:TI}{g:TG}{tb:TS}{pos:Pos}(hp:PassesOwn (model X.prog X.w) X.A X.env X.xe)(hc:X.calm=true)(hi:PI X tg iter wi)(hg:PG X tg g)(hb:PSs X body tb)
  (hs:∀x,foldedSetIterable iter X.env x=pure x:=by intro _;rfl):PS X (.For tg iter body [] pos) (Qs4 wi g tb):=by
 intro pins s σ H D I h;refine wpAny_For (thn (hi pins s σ H _ I h) λv s1 h1=>thn h1 λitv s2 h2=>?_) hs;obtain⟨it,fp,tn,J,H2,e,I2,T,st2,f2,W,⟨m0,w0⟩,turn⟩:=h2;subst e;have stat:∀{H':Hp},(∀b ∈ fp,H' b=none)->∀b ∈ fp,Qef X pins H' b:=λhn b hb=>⟨hn b hb,(f2 b hb).2⟩
 refine codeAny_forLoop_any (λn s'=>JP λi σ' H'=>Inv X pins σ' H' s'/\tn i s'.heap/\(∀b ∈ fp,H' b=none)/\W i n σ' H') ?_ m0 ⟨0,σ,H2,I2,st2,λb hb=>(f2 b hb).1,w0⟩;rintro n s3 ⟨i,σ3,H3,I3,st3,fr3,w3⟩;rcases turn i n σ3 H3 w3 with ⟨stop,qn⟩ | ⟨go,N,hN,step⟩
 ·refine wpAny_passesOwn hp (thn (T.done X rfl rfl rfl hc i pins s3 σ3 H3 X.xe I3 (stat fr3) st3 stop) λr s4 ⟨hr,I4⟩=>?_);subst hr;exact wpAny_execs_nil ⟨σ3,H3,I4,qn⟩
 ·refine wpAny_passesOwn hp (thn (T.item X rfl rfl rfl hc i pins s3 σ3 H3 X.xe I3 (stat fr3) st3 go) λr s4 ⟨u,hr,h4⟩=>?_);subst hr;refine wpAny_passesOwn hp (thn h4 λ_ s5 ⟨x,H5,I5,r5,y5,st5,fr5⟩=>?_);have I5':=I5.pinned (stat fr5) (T.obj _ _ st5);refine wpAny_passesOwn hp (thn (hg _ s5 σ3 H5 x u _ I5' r5 (step x H5 y5)) λ_ s6 ⟨σ6,H6,I6,q6⟩=>?_);refine wpAny_passesOwn hp (thn (hb _ s6 σ6 H6 _ I6 q6) λf s7 q7=>?_);have again:∀{σ7:St} {H7:Hp},Inv X (pins++QfO fp s5.heap) σ7 H7 s7->N σ7 H7->∃m,m<n/\JP λi σ' H'=>Inv X pins σ' H' s7/\tn i s7.heap/\(∀b ∈ fp,H' b=none)/\W i m σ' H':=λ{σ7 H7} I7 n7=>by
   obtain⟨m',hm,w7⟩:=hN σ7 H7 n7;refine⟨m',hm,i+1,σ7,H7,I7.unpinned,T.keep _ _ _ st5 λb hb o e=>(I7.pin (b,o) (Xv _ (Xv _ (Qcd hb e)))).1,λb hb=>?_,w7⟩;obtain⟨o,e,d⟩:=T.obj _ _ st5 b hb;exact (I7.pin (b,o) (Xv _ (Xv _ (Qcd hb e)))).2.1
  cases f with
  | next=>obtain⟨σ7,H7,I7,n7⟩:=q7;exact again I7 n7
  | cont=>obtain⟨σ7,H7,I7,n7⟩:=q7;exact again I7 n7
  | brk=>obtain⟨σ7,H7,I7,q7⟩:=q7;exact⟨σ7,H7,I7.unpinned,q7⟩
  | ret v=>obtain⟨x7,σ7,H7,I7,r7,q7⟩:=q7;exact⟨x7,σ7,H7,I7.unpinned,r7,q7⟩
end
theorem QiV{K:Xa}{a:Addr}{xs:List V}{g:TG}{tb:TS}{D:QeH}{σ:St}{H:Hp}(Pv:Nat->St->Hp->Prop)(h0:Pv 0 σ H)(hl:∀i σ H,i<=xs.length->Pv i σ H->SqL K H a xs)
  (hs:∀i x σ H,xs[i]?=some x->Pv i σ H->g x σ H fun σ2 H2=>tb { D with nx:=Pv (i+1),ct:=Pv (i+1),bk:=D.nx } σ2 H2) (hd:∀σ H,Pv xs.length σ H->D.nx σ H) :
  ∃W:Nat->Nat->St->Hp->Prop,(∃m,W 0 m σ H)/\∀i m σ H,W i m σ H->
   ((Itl K a).stop i H/\D.nx σ H)\/((Itl K a).go i H/\∃N:St->Hp->Prop,(∀σ' H',N σ' H'->∃m',m'<m/\W (i+1) m' σ' H')/\∀x H',(Itl K a).yld i H x H'->g x σ H' fun σ2 H2=>tb { D with nx:=N,ct:=N,bk:=D.nx } σ2 H2):=by
 refine⟨λi m σ H=>m=xs.length-i/\i<=xs.length/\Pv i σ H,⟨xs.length,by simp,XY _,h0⟩,?_⟩;rintro i m σ H ⟨rfl,hi,p⟩;have q:=hl i σ H hi p
 by_cases hlt:i<xs.length
 ·refine .inr ⟨⟨xs,xs[i],q,by simp[hlt]⟩,Pv (i+1),fun σ' H' p'=>⟨xs.length-(i+1),by omega,rfl,hlt,p'⟩,λx H' y=>?_⟩;obtain⟨e,y⟩:=y;subst e;exact hs i x σ _ (y xs q) p
 ·have e:i=xs.length:=by omega
  subst e;exact .inl ⟨⟨xs,q,Xe _⟩,hd σ H p⟩
abbrev R2:=V->V->Hp->VK->Prop
def OpR(X:Cx)(f:Value->Value->Sem Value)(r:R2):Prop:=
 ∀(pins:List (Addr × Obj)) (s:Shared) (σ:St) (H:Hp) (x y:V) (v u:Value) (Q:VK),Inv X pins σ H s->QZ x v->QZ y u->r x y H Q->
  wpAny (model X.prog X.w) X.A (f v u) (EP X pins σ Q) X.xe s
def UnR(X:Cx)(f:Value->Sem Value)(r:V->Hp->VK->Prop):Prop:=
 ∀(pins:List (Addr × Obj)) (s:Shared) (σ:St) (H:Hp) (x:V) (v:Value) (Q:VK),Inv X pins σ H s->QZ x v->r x H Q->
  wpAny (model X.prog X.w) X.A (f v) (EP X pins σ Q) X.xe s
def W7(X:Cx)(f:Value)(r:List V->Hp->VK->Prop):Prop:=
 ∀(pins:List (Addr × Obj)) (s:Shared) (σ:St) (H:Hp) (xs:List V) (us:List Value) (Q:VK),Inv X pins σ H s->QP xs us->r xs H Q->
  wpAny (model X.prog X.w) X.A (call f us) (EP X pins σ Q) X.xe s
abbrev tOp(r:R2)(ta tb:TE):TE:=fun σ H Q=>ta σ H λx H1=>tb σ H1 λy H2=>r x y H2 Q
abbrev tUn(r:V->Hp->VK->Prop)(ta:TE):TE:=fun σ H Q=>ta σ H λx H1=>r x H1 Q
def rI(C:Int->Int->Prop)(g:Int->Int->V):R2:=λx y H Q=>QA λi j=>x=.int i/\y=.int j/\C i j/\Q (g i j) H
def rI0(g:Int->Int->V):R2:=λx y H Q=>QA λi j=>x=.int i/\y=.int j/\Q (g i j) H
def rU(g:Int->V):V->Hp->VK->Prop:=λx H Q=>∃i,x=.int i/\Q (g i) H
section
variable {X:Cx} {a b c:Expr} {ta tb tc:TE} {pos:Pos}
theorem QqC(ha:PE X a ta)(hb:PE X b tb){pins:List (Addr × Obj)}{s:Shared}{σ:St}{H:Hp}{R:V->V->Hp->Prop}(I:Inv X pins σ H s)
  (h:ta σ H λx H1=>tb σ H1 λy H2=>R x y H2) {Q:Value->Shared->Prop} {f:Value->Value->Sem Value}
  (hf:∀v u s2 x y H2,Inv X pins σ H2 s2->QZ x v->QZ y u->R x y H2->wpAny (model X.prog X.w) X.A (f v u) Q X.xe s2) :
  wpAny (model X.prog X.w) X.A (eval a X.env) (λv s₁=>wpAny (model X.prog X.w) X.A (eval b X.env) (λu s₂=>wpAny (model X.prog X.w) X.A (f v u) Q X.xe s₂) X.xe s₁) X.xe s:=by
 refine thn (ha pins s σ H _ I h) λv s1 ⟨x,H1,I1,r1,q1⟩=>?_
 refine thn (hb pins s1 σ H1 _ I1 q1) λu s2 ⟨y,H2,I2,r2,q2⟩=>?_
 exact hf v u s2 x y H2 I2 r1 r2 q2
theorem J6{op:Operator}{r:R2}(ho:OpR X (binaryOp op) r)(ha:PE X a ta)(hb:PE X b tb):PE X (.BinOp a op b pos) (tOp r ta tb):=by
 intro pins s σ H Q I h;exact wpAny_BinOp (QqC ha hb I h λv u s2 x y H2 I2 rx ry q=>ho pins s2 σ H2 x y v u Q I2 rx ry q)
theorem Qhc{op:UnaryOp}{r:V->Hp->VK->Prop}(ho:UnR X (unaryOp op) r)(ha:PE X a ta):PE X (.UnaryOp op a pos) (tUn r ta):=by
 intro pins s σ H Q I h;exact UnaryOp_ (thn (ha pins s σ H _ I h) λv s1 ⟨x,H1,I1,r1,q1⟩=>ho pins s1 σ H1 x v Q I1 r1 q1)
theorem opI{f:Value->Value->Sem Value}{C:Int->Int->Prop}{g:Int->Int->Int}
  (rule:∀(i j:Int) (t u:Tok) (s:Shared) (Q:Value->Shared->Prop) (E:Value->Shared->Prop),C i j->Q (.int (g i j) s.toks) { s with toks:=s.toks+1 }->wpAny (model X.prog X.w) X.A (f (.int i t) (.int j u)) Q E s) :
  OpR X f (rI C λi j=>.int (g i j)):=by
 intro pins s σ H x y v u Q I rx ry h;obtain⟨i,j,rfl,rfl,hc,q⟩:=h;obtain⟨t,rfl⟩:=rx;obtain⟨t',rfl⟩:=ry;exact rule i j t t' s _ _ hc ⟨.int (g i j),H,I.tok _,⟨_,rfl⟩,q⟩
theorem Qr5{f:Value->Value->Sem Value}{g:Int->Int->Int}
  (rule:∀(i j:Int) (t u:Tok) (s:Shared) (Q:Value->Shared->Prop) (E:Value->Shared->Prop),Q (.int (g i j) s.toks) { s with toks:=s.toks+1 }->wpAny (model X.prog X.w) X.A (f (.int i t) (.int j u)) Q E s) :
  OpR X f (rI0 λi j=>.int (g i j)):=by
 intro pins s σ H x y v u Q I rx ry h;obtain⟨i,j,rfl,rfl,q⟩:=h;obtain⟨t,rfl⟩:=rx;obtain⟨t',rfl⟩:=ry;exact rule i j t t' s _ _ ⟨.int (g i j),H,I.tok _,⟨_,rfl⟩,q⟩
theorem Qpq{f:Value->Value->Sem Value}{g:Int->Int->Bool}
  (rule:∀(i j:Int) (t u:Tok) (s:Shared) (Q:Value->Shared->Prop) (E:Value->Shared->Prop),Q (.bool (g i j)) s->wpAny (model X.prog X.w) X.A (f (.int i t) (.int j u)) Q E s) :
  OpR X f (rI0 λi j=>.bl (g i j)):=by
 intro pins s σ H x y v u Q I rx ry h;obtain⟨i,j,rfl,rfl,q⟩:=h;obtain⟨t,rfl⟩:=rx;obtain⟨t',rfl⟩:=ry;exact rule i j t t' s _ _ ⟨.bl (g i j),H,I,rfl,q⟩
def QsA(i j:Int):Prop:=0<j/\j<1073741824
def Qqs(i j:Int):Prop:=(-(2 ^ 64)<i/\i<2 ^ 64)\/(-(2 ^ 64)<j/\j<2 ^ 64)
theorem Qqs.ok{i j:Int}(h:Qqs i j):IntMulOk i j:=by
 rcases h with ⟨h1,h2⟩ | ⟨h1,h2⟩
 ·exact .of_left (intBits_le_64 h1 h2)
 ·exact .of_right (intBits_le_64 h1 h2)
theorem Qbq:OpR X (binaryOp .Add) (rI0 λi j=>.int (i+j)):=Qr5 λ_ _ _ _ _ _ _ q=>add_int q
theorem QfG:OpR X (binaryOp .Sub) (rI0 λi j=>.int (i-j)):=Qr5 λ_ _ _ _ _ _ _ q=>sub_int q
theorem Qq0:OpR X (binaryOp .Mult) (rI Qqs λi j=>.int (i * j)):=opI λ_ _ _ _ _ _ _ hc q=>mul_int q hc.ok
theorem Qpr:OpR X (binaryOp .FloorDiv) (rI QsA λi j=>.int (i / j)):=opI λi j _ _ _ _ _ hc q=>by
 have h1:(0:Int)<j:=hc.1;have h2:j<1073741824:=hc.2;exact floordiv_int (by omega) (by rw[Int.fdiv_eq_ediv_of_nonneg i (by omega)];exact q) (.inl (PyProof.noPylong_small (by omega)))
theorem QqZ:OpR X (binaryOp .Mod) (rI (λ_ j=>0<j) λi j=>.int (i % j)):=opI λi j _ _ _ _ _ hc q=>by
 have h1:(0:Int)<j:=hc;exact mod_int' (by omega) (by rw[Int.fmod_eq_emod_of_nonneg i (by omega)];exact q)
theorem unI{f:Value->Sem Value}{g:Int->Int}
  (rule:∀(i:Int) (t:Tok) (s:Shared) (Q:Value->Shared->Prop) (E:Value->Shared->Prop),Q (.int (g i) s.toks) { s with toks:=s.toks+1 }->wpAny (model X.prog X.w) X.A (f (.int i t)) Q E s) :
  UnR X f (rU λi=>.int (g i)):=by
 intro pins s σ H x v Q I rx h;obtain⟨i,rfl,q⟩:=h;obtain⟨t,rfl⟩:=rx;exact rule i t s _ _ ⟨.int (g i),H,I.tok _,⟨_,rfl⟩,q⟩
theorem QdF:UnR X (unaryOp .USub) (rU λi=>.int (-i)):=unI λ_ _ _ _ _ q=>neg_int q
end
def Qse:V->V->Bool
 | .non,.non=>true | .non,.int _=>true | .int _,.non=>true | .non,.bl _=>true | .bl _,.non=>true | .non,.str _=>true | .str _,.non=>true
 | .int _,.int _=>true | .bl _,.bl _=>true | .str _,.str _=>true | .byt _,.byt _=>true
 | .int _,.str _=>true | .str _,.int _=>true | .bl _,.str _=>true | .str _,.bl _=>true
 | _,_=>false
def rEq:R2:=λx y H Q=>Qse x y=true/\Q (.bl (decide (x=y))) H
def rNe:R2:=λx y H Q=>Qse x y=true/\Q (.bl (!decide (x=y))) H
theorem Qey{i j:Int}:decide (V.int i=V.int j)=(i==j):=by
 rw[X2];simp
theorem Qno{i j:Bool}:decide (V.bl i=V.bl j)=(i==j):=by
 rw[X2];simp
theorem Qlh{i j:Str}:decide (V.str i=V.str j)=(i==j):=by
 rw[X2];simp
theorem Qlg{i j:Array UInt8}:decide (V.byt i=V.byt j)=(i.toList==j.toList):=by
 rw[X2];cases i;cases j;simp
section
variable {X:Cx} {a b c:Expr} {ta tb tc:TE} {pos:Pos}
theorem Jl{pins:List (Addr × Obj)}{σ:St}{H:Hp}{s:Shared}{Q:VK}{k k':Bool}(I:Inv X pins σ H s)(q:Q (.bl k) H)(e:k=k'):EP X pins σ Q (.bool k') s:=by
 subst e;exact⟨.bl k,H,I,rfl,q⟩
theorem Jt:OpR X (compareOp .Eq) rEq:=by
 intro pins s σ H x y v u Q I rx ry h;obtain⟨hs,q⟩:=h;cases x with
 | non=>
  cases rx;cases y with
  | non=>cases ry;exact PySem.EqNone.eq_none_none (Jl I q (by simp))
  | bl j=>cases ry;exact PySem.EqNone.eq_none_bool (Jl I q (by simp))
  | int j=>obtain⟨t',rfl⟩:=ry;exact PySem.EqNone.eq_none_int (Jl I q (by simp))
  | str j=>obtain⟨t',rfl⟩:=ry;exact PySem.EqNone.eq_none_str (Jl I q (by simp))
  | _=>exact absurd (show false=true from hs) Xc
 | bl i=>
  cases rx;cases y with
  | non=>cases ry;exact PySem.EqNone.eq_bool_none (Jl I q (by simp))
  | bl j=>cases ry;exact eq_bool (Jl I q Qno)
  | str j=>obtain⟨t',rfl⟩:=ry;exact PySem.EqMixed.eq_bool_str (Jl I q (by simp))
  | _=>exact absurd (show false=true from hs) Xc
 | int i=>
  obtain⟨t,rfl⟩:=rx;cases y with
  | non=>cases ry;exact PySem.EqNone.eq_int_none (Jl I q (by simp))
  | int j=>obtain⟨t',rfl⟩:=ry;exact eq_int (Jl I q Qey)
  | str j=>obtain⟨t',rfl⟩:=ry;exact PySem.EqMixed.eq_int_str (Jl I q (by simp))
  | _=>exact absurd (show false=true from hs) Xc
 | str i=>
  obtain⟨t,rfl⟩:=rx;cases y with
  | non=>cases ry;exact PySem.EqNone.eq_str_none (Jl I q (by simp))
  | bl j=>cases ry;exact PySem.EqMixed.eq_str_bool (Jl I q (by simp))
  | int j=>obtain⟨t',rfl⟩:=ry;exact PySem.EqMixed.eq_str_int (Jl I q (by simp))
  | str j=>obtain⟨t',rfl⟩:=ry;exact eq_str (Jl I q Qlh)
  | _=>exact absurd (show false=true from hs) Xc
 | byt i=>
  obtain⟨t,rfl⟩:=rx;cases y with
  | byt j=>obtain⟨t',rfl⟩:=ry;exact PySem.W.eq_bytes (Jl I q Qlg)
  | _=>exact absurd (show false=true from hs) Xc
 | _=>cases y<;>exact absurd (show false=true from hs) Xc
theorem Qa4:OpR X (compareOp .NotEq) rNe:=by
 intro pins s σ H x y v u Q I rx ry h;obtain⟨hs,q⟩:=h;cases x with
 | non=>
  cases rx;cases y with
  | non=>cases ry;exact PySem.EqNone.ne_none_none (Jl I q (by simp))
  | bl j=>cases ry;exact PySem.EqNone.ne_none_bool (Jl I q (by simp))
  | int j=>obtain⟨t',rfl⟩:=ry;exact PySem.EqNone.ne_none_int (Jl I q (by simp))
  | str j=>obtain⟨t',rfl⟩:=ry;exact PySem.EqNone.ne_none_str (Jl I q (by simp))
  | _=>exact absurd (show false=true from hs) Xc
 | bl i=>
  cases rx;cases y with
  | non=>cases ry;exact PySem.EqNone.ne_bool_none (Jl I q (by simp))
  | bl j=>cases ry;exact ne_bool (Jl I q (congrArg not Qno))
  | str j=>obtain⟨t',rfl⟩:=ry;exact PySem.EqMixed.ne_bool_str (Jl I q (by simp))
  | _=>exact absurd (show false=true from hs) Xc
 | int i=>
  obtain⟨t,rfl⟩:=rx;cases y with
  | non=>cases ry;exact PySem.EqNone.ne_int_none (Jl I q (by simp))
  | int j=>obtain⟨t',rfl⟩:=ry;exact ne_int (Jl I q (congrArg not Qey))
  | str j=>obtain⟨t',rfl⟩:=ry;exact PySem.EqMixed.ne_int_str (Jl I q (by simp))
  | _=>exact absurd (show false=true from hs) Xc
 | str i=>
  obtain⟨t,rfl⟩:=rx;cases y with
  | non=>cases ry;exact PySem.EqNone.ne_str_none (Jl I q (by simp))
  | bl j=>cases ry;exact PySem.EqMixed.ne_str_bool (Jl I q (by simp))
  | int j=>obtain⟨t',rfl⟩:=ry;exact PySem.EqMixed.ne_str_int (Jl I q (by simp))
  | str j=>obtain⟨t',rfl⟩:=ry;exact ne_str (Jl I q (congrArg not Qlh))
  | _=>exact absurd (show false=true from hs) Xc
 | byt i=>
  obtain⟨t,rfl⟩:=rx;cases y with
  | byt j=>obtain⟨t',rfl⟩:=ry;exact PySem.W.ne_bytes (Jl I q (congrArg not Qlg))
  | _=>exact absurd (show false=true from hs) Xc
 | _=>cases y<;>exact absurd (show false=true from hs) Xc
theorem QnQ:OpR X (compareOp .Lt) (rI0 λi j=>.bl (decide (i<j))):=Qpq λ_ _ _ _ _ _ _ q=>lt_int q
theorem WI:OpR X (compareOp .LtE) (rI0 λi j=>.bl (decide (i<=j))):=Qpq λ_ _ _ _ _ _ _ q=>le_int q
theorem Qr6:OpR X (compareOp .Gt) (rI0 λi j=>.bl (decide (j<i))):=Qpq λ_ _ _ _ _ _ _ q=>gt_int q
theorem Qg7:OpR X (compareOp .GtE) (rI0 λi j=>.bl (decide (j<=i))):=Qpq λ_ _ _ _ _ _ _ q=>ge_int q
theorem Qz(b:Expr){op:CmpOp}(h:op≠.In:=by decide)(h2:op≠.NotIn:=by decide):behindInMarks op b=false:=by
 have e1:(op==CmpOp.In)=false:=by cases op<;>first | rfl | exact absurd rfl h
 have e2:(op==CmpOp.NotIn)=false:=by cases op<;>first | rfl | exact absurd rfl h2
 cases b<;>simp[behindInMarks,e1,e2]
theorem QR{op:CmpOp}{r:R2}(ho:OpR X (compareOp op) r)(ha:PE X a ta)(hb:PE X b tb)(hm:behindInMarks op b=false):PE X (.Compare a [op] [b] pos) (tOp r ta tb):=by
 intro pins s σ H Q I h;exact wpAny_Compare1 (QqC ha hb I h λv u s2 x y H2 I2 rx ry q=>ho pins s2 σ H2 x y v u Q I2 rx ry q) hm
abbrev QjQ(t:TE):TT:=fun σ H Q=>t σ H λx H'=>∃k,x=.bl k/\Q k H'
theorem QE{op:CmpOp}{r:R2}(ho:OpR X (compareOp op) r)(ha:PE X a ta)(hb:PE X b tb)(hm:behindInMarks op b=false):PT X (.Compare a [op] [b] pos) (QjQ (tOp r ta tb)):=by
 intro pins s σ H Q I h;refine wpAny_isTrue_Compare1 (thn (ha pins s σ H _ I h) λv s1 ⟨x,H1,I1,r1,q1⟩=>thn (hb pins s1 σ H1 _ I1 q1) λu s2 ⟨y,H2,I2,r2,q2⟩=>
  thn (ho pins s2 σ H2 x y v u _ I2 r1 r2 q2) λc s3 ⟨z,H3,I3,r3,k,e,q3⟩=>?_) hm
 subst e;cases r3;exact wpAny_truthy_bool ⟨H3,I3,q3⟩
abbrev Qrt(r r':R2)(ta tb tc:TE):TE:=fun σ H Q=>ta σ H λx H1=>tb σ H1 λy H2=>r x y H2 λz H3=>∃k,z=.bl k/\
 (if k=true then tc σ H3 λw' H4=>r' y w' H4 Q else Q (.bl false) H3)
theorem QcT{op op':CmpOp}{r r':R2}(ho:OpR X (compareOp op) r)(ho':OpR X (compareOp op') r')(ha:PE X a ta)(hb:PE X b tb)(hc:PE X c tc)
  (hm:lastMarks [op,op'] [b,c]=false:=by with_unfolding_all rfl):PT X (.Compare a [op,op'] [b,c] pos) (QjQ (Qrt r r' ta tb tc)):=by
 intro pins s σ H Q I h;refine isTrue_chain (thn (ha pins s σ H _ I h) λv s1 ⟨x,H1,I1,r1,q1⟩=>test_link (thn (hb pins s1 σ H1 _ I1 q1) λu s2 ⟨y,H2,I2,r2,q2⟩=>
  thn (ho pins s2 σ H2 x y v u _ I2 r1 r2 q2) λd s3 ⟨z,H3,I3,r3,k,e,q3⟩=>?_)) hm
 subst e;cases r3;refine wpAny_truthy_bool ?_;cases k with
 | false=>
  obtain⟨k',e',q'⟩:=q3;cases e';exact ite_ff ⟨H3,I3,q'⟩
 | true=>
  refine ite_tt (test_last (thn (hc pins s3 σ H3 _ I3 q3) λw' s4 ⟨z',H4,I4,r4,q4⟩=>thn (ho' pins s4 σ H4 y z' u w' _ I4 r2 r4 q4) λd' s5 ⟨z2,H5,I5,r5,k2,e2,q5⟩=>?_));subst e2;cases r5;exact wpAny_truthy_bool ⟨H5,I5,q5⟩
theorem Qfh:(sizeLine:Nat)<2 ^ 63:=by rw[sizeLine_eq];decide
theorem Qcg:OpR X (binaryOp .Add) (λx y H Q=>QA λi j=>x=.str i/\y=.str j/\i.length+j.length<=sizeLine/\Q (.str (i++j)) H):=by
 intro pins s σ H x y v u Q I rx ry h;obtain⟨i,j,rfl,rfl,hz,q⟩:=h;obtain⟨t,rfl⟩:=rx;obtain⟨t',rfl⟩:=ry;exact add_str (λt' tk=>⟨.str (i++j),H,I.tok _,⟨_,rfl⟩,q⟩) hz
theorem Qed{x:V}{us:List Value}(r:QP [x] us):∃u,us=[u]/\QZ x u:=by
 cases r with
 | cons r1 r2=>cases r2;exact⟨_,rfl,r1⟩
theorem Qst{x y:V}{us:List Value}(r:QP [x,y] us):QA λu w'=>us=[u,w']/\QZ x u/\QZ y w':=by
 cases r with
 | cons r1 r2=>
  cases r2 with
  | cons r3 r4=>cases r4;exact⟨_,_,rfl,r1,r3⟩
theorem QhB:W7 X (.type "str") (λxs H Q=>∃i,xs=[.int i]/\i.natAbs.log2<1920/\Q (.str (toString i)) H):=by
 intro pins s σ H xs us Q I r h;obtain⟨i,rfl,hz,q⟩:=h;obtain⟨u,rfl,t,rfl⟩:=Qed r;exact PySem.P.str_of_int hz ⟨.str _,H,I.tok _,⟨_,rfl⟩,q⟩
theorem QiB:W7 X (.builtin "ord") (λxs H Q=>∃x,xs=[.str x]/\x.length=1/\Q (.int (x.cps.getD 0 0:Nat)) H):=by
 intro pins s σ H xs us Q I r h;obtain⟨x,rfl,hz,q⟩:=h;obtain⟨u,rfl,t,rfl⟩:=Qed r;exact ord_of_one hz ⟨.int _,H,I.tok _,⟨_,rfl⟩,q⟩
end
structure QlW(h:Heap)(x dx C:Addr)(mA:Str->Option Value):Prop where
 obj:h.get? x=some (XE C dx)
 ns:h.Ns1 dx mA
 ne:dx≠x
theorem Qmu{h:Heap}{dx:Addr}{mA:Str->Option Value}(n:h.Ns1 dx mA):∃od,h.get? dx=some od/\∀name,UK name od=some (mA name):=by
 obtain⟨o,es,ep,ho,hd,hk,_,hm⟩:=n;refine⟨o,ho,λname=>?_⟩;have e:=hm name;unfold nsFind findBy at e;rw[<-Array.find?_toList] at e;unfold UK;rw[hd];dsimp only
 split
 ·rename_i y q
  rw[q] at e;exact congrArg some e
 ·rename_i q
  rw[q] at e;have a:es.toList.any (·.refKey)=false:=by
   rw[List.any_eq_false];intro y hy;obtain⟨z,t,hkey⟩:=hk y (Array.mem_toList_iff.mp hy);simp[DictEntry.refKey,hkey]
  have a':¬es.toList.any (·.refKey)=true:=by rw[a];exact Xc
  rw[if_neg a'];exact congrArg some e
theorem QlW.look{h:Heap}{x dx C:Addr}{mA:Str->Option Value}(I:QlW h x dx C mA):∃od,PySem.W.InstAt h x (XE C dx) C (some od)/\∀name,UK name od=some (mA name):=
 let ⟨od,ho,hl⟩:=Qmu I.ns
 ⟨od,⟨I.obj,rfl,rfl,ho⟩,hl⟩
section
variable {prog:Program} {w:World} {A:Around} {E:Value->Shared->Prop} {s:Shared} {K:Xa} {x dx C f:Addr} {mA:Str->Option Value} {name:Str} {v:Value}
theorem Qo4{expr:Bool}{Q:Value->Shared->Prop}(X:K.In s.heap)(I:QlW s.heap x dx C mA)(hg:Uu K C name=true)(hh:Ui K C=true)
  (ha:XG K (.ref C) name=some none) (hv:mA name=some v) (hv':U2 v=true) (h:Q v { s with toks:=s.toks+1 }) :
  wpAny (model prog w) A (getAttr (.ref x) name expr) Q E s:=by
 obtain⟨od,J,hl⟩:=I.look;exact PySem.W.get_value X J (PySem.W.plainGet_of hg).1 (PySem.W.findObj_own hh ha rfl (by rw[hl,hv])) hv' h
theorem QpL{ns:List Str}{Q:Unit->Shared->Prop}(X:K.In s.heap)(I:QlW s.heap x dx C mA)
  (hs:XG K (.ref C) "__setattr__"=some (some (.builtin "object.__setattr__"))) (hp:UY K C=true) (ht:UA K C name=some none) (hh:Ui K C=true)
  (hw:PySem.Within mA ns) (hsz:ns.length<=sizeLine)
  (h:∀h',QlW h' x dx C (λy=>if y=name then some v else mA y)->Uo dx s.heap h'->Q () { s with heap:=h',toks:=s.toks+2 }) :
  wpAny (model prog w) A (setAttr (.ref x) name v) Q E s:=by
 obtain⟨od,J,hl⟩:=I.look;refine PySem.W.set_plain X J hs (PySem.W.osa_open (s:={ s with toks:=s.toks+1 }) (r:=none) X J hp ht λb=>?_);obtain⟨cd,hc,hd'⟩:=PySem.W.any_some hh;have hx:s.heap.get? x=some ⟨.ref C,some dx,.plain,#[]⟩:=I.obj;refine wpAny_bind (wpAny_pure (wpAny_bind (wpAny_bind (wpAny_loadPart hx (wpAny_bind (PySem.W.Looks.here (s:={ s with toks:=s.toks+1 }) (PySem.W.looks_clsIn X hc) ?_))))));rw[hd'];refine wpAny_pure (a:=some dx) (wpAny_bind (wpAny_pure (wpAny_bind ?_)));refine wpAny_nsSet1 (s:={ s with toks:=s.toks+1 }) I.ns λh' hn2 hs2=>?_
 obtain⟨oD,esD,epD,hoD,hdD,hcD⟩:=hn2.count (PySem.Within.cons name v hw);refine wpAny_bind (wpAny_lookBehind hoD (by rw[hdD];exact pastItsLine_dict (Xo hcD (by rw[Xq];omega))) ?_);exact wpAny_pure (h _ ⟨(hs2.2 _ (Ne.symm I.ne)).trans I.obj,hn2,I.ne⟩ hs2)
theorem QnM{R:Result->Shared->Prop}{vs:List Value}{kw:List (Str × Value)}(X:K.In s.heap)(hm:U8 K C=true)
  (hi:XG K (.ref C) "__init__"=some (some (.ref f))) (hf:PySem.W.typeIn K (.ref f)=some (.type "function"))
  (h:codeAny (model prog w) (A.under (.builtin "type.__call__" ⟨.ref C::vs,kw⟩)) (.call (.ref f) ⟨.ref (s.heap.objs.size+1)::vs,kw⟩) (PySem.W.InitBack (s.heap.objs.size+1) R)
    { s with heap:=(s.heap.push Xw).push (XE C s.heap.objs.size) }) :
  codeAny (model prog w) A (.call (.ref C) ⟨vs,kw⟩) R s:=by
 obtain⟨hh,g,d,t,os⟩:=s;exact PySem.W.make_core (PySem.W.makes_of X hm) (PySem.W.looks_findIn X hi) (λself=>PySem.W.bind_fn X self hf) (.inl rfl) h
end
def Yr(f:Str)(v:V):List (Str × V)->List (Str × V)
 | []=>[(f,v)]
 | (g,x)::r=>if g=f then (g,v)::r else (g,x)::Yr f v r
theorem WG(f g:Str)(v:V):∀fs:List (Str × V),(Yr f v fs).lookup g=if g=f then some v else fs.lookup g
 | []=>by
  show XL g [(f,v)]=_
  by_cases h:g=f
  ·have hb:(g==f)=true:=beq_iff_eq.mpr h;simp only[XL,hb,if_pos h]
  ·have hb:(g==f)=false:=beq_eq_false_iff_ne.mpr h;simp only[XL,hb,if_neg h]
 | (k,x)::r=>by
  have ih:=WG f g v r;rw[show Yr f v ((k,x)::r)=(if k=f then (k,v)::r else (k,x)::Yr f v r) from rfl]
  by_cases hk:k=f
  ·rw[if_pos hk]
   by_cases h:g=k
   ·have hb:(g==k)=true:=beq_iff_eq.mpr h;simp only[XL,hb,if_pos (h.trans hk)]
   ·have hb:(g==k)=false:=beq_eq_false_iff_ne.mpr h;simp only[XL,hb,if_neg (λe:g=f=>h (e.trans hk.symm))]
  ·rw[if_neg hk]
   by_cases h:g=k
   ·have hb:(g==k)=true:=beq_iff_eq.mpr h;simp only[XL,hb,if_neg (λe:g=f=>hk (h.symm.trans e))]
   ·have hb:(g==k)=false:=beq_eq_false_iff_ne.mpr h;simp only[XL,hb];exact ih
theorem Qdo(f:Str)(v:V):∀fs:List (Str × V),f ∈ (Yr f v fs).map (·.1)/\∀g,g ∈ fs.map (·.1)->g ∈ (Yr f v fs).map (·.1)
 | []=>⟨by simp[Yr],λg h=>by simp at h⟩
 | (k,x)::r=>by
  obtain⟨i1,i2⟩:=Qdo f v r;rw[show Yr f v ((k,x)::r)=(if k=f then (k,v)::r else (k,x)::Yr f v r) from rfl]
  by_cases hk:k=f
  ·rw[if_pos hk];subst hk;exact⟨by simp,λg h=>by simpa using h⟩
  ·rw[if_neg hk];refine⟨?_,λg h=>?_⟩
   ·rw[Xr];exact Xh _ i1
   ·rw[Xr] at h ⊢;rcases Xj.mp h with e | e
    ·exact Xj.mpr (.inl e)
    ·exact Xh _ (i2 g e)
theorem Qbl(f:Str)(v:V):∀fs:List (Str × V),(Yr f v fs).length<=fs.length+1
 | []=>by simp[Yr]
 | (k,x)::r=>by
  have ih:=Qbl f v r;rw[show Yr f v ((k,x)::r)=(if k=f then (k,v)::r else (k,x)::Yr f v r) from rfl]
  by_cases hk:k=f
  ·rw[if_pos hk,Xq,Xq];omega
  ·rw[if_neg hk,Xq,Xq];omega
theorem QbU.some_of{v:V}{o:Option Value}(r:QbU (some v) o):∃u,o=some u/\QZ v u:=by
 cases o with
 | none=>exact (show False from r).elim
 | some u=>exact⟨u,rfl,r⟩
theorem Qmd{v:V}{u:Value}(r:QZ v u):U2 u=true:=by
 cases v with
 | non=>cases (show u=Value.none from r);rfl
 | bl b=>cases (show u=Value.bool b from r);rfl
 | int i=>obtain⟨t,e⟩:=(show ∃t,u=Value.int i t from r);cases e;rfl
 | str x=>obtain⟨t,e⟩:=(show ∃t,u=Value.str x t from r);cases e;rfl
 | byt b=>obtain⟨t,e⟩:=(show ∃t,u=Value.bytes b t from r);cases e;rfl
 | flt b=>obtain⟨t,e⟩:=(show ∃t,u=Value.float b t from r);cases e;rfl
 | ref a=>cases (show u=Value.ref a from r);rfl
 | ty n=>cases (show u=Value.type n from r);rfl
section
variable {P:Program} {w:World} {H H':Hp} {h h':Heap} {a C dx:Addr} {fs fs':List (Str × V)}
theorem Qlr(hok:HOk P w H h)(e:H a=some (.ins C dx fs)):∃mA,QlW h a dx C mA/\(∀f,QbU (fs.lookup f) (mA f))/\PySem.Within mA (fs.map (·.1))/\fs.length<=1000/\H dx=some (.own a):=by
 obtain⟨d,z,ne,ob,mA,n,r,q⟩:=(show J1 P w H h a (.ins C dx fs) from hok a _ e);exact⟨mA,⟨ob,n,ne⟩,r,q,z,d⟩
end
structure Cls(K:Xa)(C:Addr):Prop where
 pg:Uu K C Str.empty=true
 hd:Ui K C=true
 po:UY K C=true
 sa:XG K (.ref C) "__setattr__"=some (some (.builtin "object.__setattr__"))
theorem Cls.get{K:Xa}{C:Addr}(c:Cls K C)(f:Str):Uu K C f=true:=c.pg
def Jc(K:Xa)(C:Addr)(f:Str):Prop:=XG K (.ref C) f=some none
theorem Jc.taker{K:Xa}{C:Addr}{f:Str}(n:Jc K C f):UA K C f=some none:=by
 unfold UA;rw[show XG K (.ref C) f=some none from n];rfl
section
variable {X:Cx} {pins:List (Addr × Obj)} {σ:St} {H:Hp} {s:Shared} {a C dx:Addr} {fs:List (Str × V)} {f:Str} {v:V} {A:Around} {E:Value->Shared->Prop}
theorem Qe3{b:Bool}{Q:Value->Shared->Prop}(I:Inv X pins σ H s)(e:H a=some (.ins C dx fs))(c:Cls X.K C)(n:Jc X.K C f)(l:fs.lookup f=some v)
  (h:∀u s',Inv X pins σ H s'->QZ v u->Q u s'):wpAny (model X.prog X.w) A (getAttr (.ref a) f b) Q E s:=by
 obtain⟨mA,O,r,_,_,_⟩:=Qlr I.hok e;obtain⟨u,hu,ru⟩:=QbU.some_of (v:=v) (o:=mA f) (by rw[<-l];exact r f);exact Qo4 I.kIn O (c.get f) c.hd n hu (Qmd ru) (h u _ (I.tok _) ru)
theorem Qf1{y:V}{u:Value}{Q:Unit->Shared->Prop}(I:Inv X pins σ H s)(e:H a=some (.ins C dx fs))(c:Cls X.K C)(n:Jc X.K C f)(hl:fs.length<1000)(ry:QZ y u)
  (h:∀s',Inv X pins σ (upd H a (.ins C dx (Yr f y fs))) s'->Q () s'):wpAny (model X.prog X.w) A (setAttr (.ref a) f u) Q E s:=by
 obtain⟨mA,O,r,wi,_,ho⟩:=Qlr I.hok e;have hz:(fs.map (·.1)).length<=sizeLine:=by rw[XA,sizeLine_eq];omega
 refine QpL I.kIn O c.sa c.po n.taker c.hd wi hz λh' O' sb=>h _ ?_
 have hd:∃o,h'.get? dx=some o:=let ⟨o,_,_,e',_⟩:=O'.ns;⟨o,e'⟩
 refine I.write (x:=a) (e:=dx) (by rw[e];exact True.intro) (.inr ho) (λb q hb z=>(sb.2 b hb).trans z) hd ?_;refine⟨by rw[Qq O.ne];exact ho,?_,O.ne,O'.obj,_,O'.ns,λg=>?_,λg hg=>?_⟩
 ·have:=Qbl f y fs;omega
 ·show QbU ((Yr f y fs).lookup g) (if g=f then some u else mA g);rw[WG]
  by_cases q:g=f
  ·rw[if_pos q,if_pos q];exact ry
  ·rw[if_neg q,if_neg q];exact r g
 ·by_cases q:g=f
  ·rw[q];exact (Qdo f y fs).1
  ·refine (Qdo f y fs).2 g (wi g λz=>hg ?_);show (if g=f then some u else mA g)=none;rw[if_neg q];exact z
theorem Inv.made(I:Inv X pins σ H s):Inv X pins σ (upd (upd H s.heap.objs.size (.own (s.heap.objs.size+1))) (s.heap.objs.size+1) (.ins C s.heap.objs.size []))
  { s with heap:=(s.heap.push Xw).push (XE C s.heap.objs.size) }:=by
 have e1:(s.heap.push Xw).get? s.heap.objs.size=some Xw:=Xg s.heap rfl;have e2:((s.heap.push Xw).push (XE C s.heap.objs.size)).get? (s.heap.objs.size+1)=some (XE C s.heap.objs.size):=by
  have:=Xg (s.heap.push Xw) (o:=XE C s.heap.objs.size) rfl
  rwa [Xu] at this
 have e3:(s.heap.push Xw).Ns s.heap.objs.size (λ_=>none):=⟨Xw,#[],_,e1,rfl,(λe he=>absurd he (by simp)),λ_=>rfl⟩;have I1:=I.laid (a:=s.heap.objs.size) (o:=.own (s.heap.objs.size+1)) (h':=s.heap.push Xw) (t':=s.toks) (λb u q=>Xb _ q) (Xe _) ⟨_,e1⟩;refine I1.laid (a:=s.heap.objs.size+1) (o:=.ins C s.heap.objs.size []) (t':=s.toks) (λb u q=>Xb _ q) (X9 (Xu _ _)) ?_;have ne:s.heap.objs.size≠s.heap.objs.size+1:=Xl (Uq _);refine⟨by rw[Qq ne,Qh],XY _,ne,e2,λ_=>none,(Heap.Ns1.of_empty e3).at λo q=>Xb _ q,λ_=>True.intro,λy hy=>absurd rfl hy⟩
theorem QoW{prog:Program}{w:World}{env:Env}{e:Expr}{f:Str}{pos:Pos}{s:Shared}{Q:Value->Shared->Prop}(hb:attributeBase e f env (eval e env)=eval e env)
  (h:wpAny (model prog w) A (eval e env) (λo s₁=>wpAny (model prog w) A (getAttr o f true) Q E s₁) E s):wpAny (model prog w) A (eval (.Attribute e f pos) env) Q E s:=
 Attribute_any_ h (by rw[arm_eval_Attribute,hb])
end
abbrev Qry(K:Xa)(ta:TE)(f:Str):TE:=fun σ H Q=>ta σ H λx H1=>QbT λa C dx fs v=>x=.ref a/\H1 a=some (.ins C dx fs)/\Cls K C/\Jc K C f/\fs.lookup f=some v/\Q v H1
abbrev QsZ(K:Xa)(ta tv:TE)(f:Str):TS:=λD σ H=>tv σ H λy H1=>ta σ H1 λx H2=>YS λa C dx fs=>x=.ref a/\H2 a=some (.ins C dx fs)/\Cls K C/\Jc K C f/\fs.length<1000/\
 D.nx σ (upd H2 a (.ins C dx (Yr f y fs)))
def QrK(X:Cx)(op:Operator)(rd:V->V->Hp->VK->Prop):Prop:=
 ∀(pins:List (Addr × Obj)) (s:Shared) (σ:St) (H:Hp) (x y:V) (u v:Value) (Q:VK),Inv X pins σ H s->QZ x u->QZ y v->rd x y H Q->wpAny (model X.prog X.w) X.A (inplaceOp op u v) (EP X pins σ Q) X.xe s
abbrev QpJ(K:Xa)(ta tv:TE)(rd:V->V->Hp->VK->Prop)(f:Str):TS:=λD σ H=>ta σ H λx H1=>QbT λa C dx fs v=>x=.ref a/\H1 a=some (.ins C dx fs)/\Cls K C/\Jc K C f/\fs.lookup f=some v/\
 tv σ H1 λy H2=>rd v y H2 λz H3=>QA λdx' fs'=>H3 a=some (.ins C dx' fs')/\fs'.length<1000/\D.nx σ (upd H3 a (.ins C dx' (Yr f z fs')))
section
variable {X:Cx} {o e value:Expr} {f:Str} {pos pos' tpos:Pos} {ta tv:TE}
theorem Qj(he:PE X e ta)(hb:attributeBase e f X.env (eval e X.env)=eval e X.env):PE X (.Attribute e f pos) (Qry X.K ta f):=by
 intro pins s σ H Q I h;refine QoW hb (thn (he pins s σ H _ I h) λu s1 ⟨x,H1,I1,rx,a,C,dx,fs,v,ex,ea,c,n,l,q⟩=>?_);subst ex;obtain rfl:u=Value.ref a:=rx;exact Qe3 I1 ea c n l λu' s2 I2 ru=>⟨v,H1,I2,ru,q⟩
theorem Ju(ha:PE X o ta)(hv:PE X value tv)(hs:swapsWith value (some (.Attribute o f pos')) pos.line X.env=pure false):PS X (.Assign [.Attribute o f pos'] value pos) (QsZ X.K ta tv f):=by
 intro pins s σ H D I h;refine plainObj_wpAny_Assign_Attribute (thn (hv pins s σ H _ I h) λu s1 ⟨y,H1,I1,ry,q⟩=>thn (ha pins s1 σ H1 _ I1 q) λov s2 ⟨x,H2,I2,rx,a,C,dx,fs,ex,ea,c,n,l,q2⟩=>?_) hs;subst ex;obtain rfl:ov=Value.ref a:=rx;exact Qf1 I2 ea c n l ry λs3 I3=>⟨σ,_,I3,q2⟩
theorem QmJ{op:Operator}{rd:V->V->Hp->VK->Prop}(ha:PE X o ta)(hv:PE X value tv)(hop:QrK X op rd):PS X (.AugAssign (.Attribute o f tpos) op value pos) (QpJ X.K ta tv rd f):=by
 intro pins s σ H D I h;refine wpAny_AugAssign_AttributeAny (thn (ha pins s σ H _ I h) λov s1 ⟨x,H1,I1,rx,a,C,dx,fs,v,ex,ea,c,n,l,q⟩=>?_);subst ex;obtain rfl:ov=Value.ref a:=rx;refine Qe3 I1 ea c n l λu s2 I2 ru=>thn (hv pins s2 σ H1 _ I2 q) λw3 s3 ⟨y,H2,I3,ry,q3⟩=>thn (hop pins s3 σ H2 v y u w3 _ I3 ru ry q3) λw4 s4 ⟨z,H3,I4,rz,dx',fs',ea',l',q4⟩=>?_
 exact Qf1 I4 ea' c n l' rz λs5 I5=>⟨σ,_,I5,q4⟩
def QsR:V->V->Hp->VK->Prop:=λx y H Q=>QA λi j=>x=.int i/\y=.int j/\Q (.int (i+j)) H
theorem QqO:QrK X .Add QsR:=by
 rintro pins s σ H x y u v Q I rx ry ⟨i,j,rfl,rfl,q⟩;obtain⟨t,rfl⟩:=(show ∃t,u=Value.int i t from rx);obtain⟨t',rfl⟩:=(show ∃t',v=Value.int j t' from ry);exact PyProof.Rows.iadd_int ⟨.int (i+j),H,I.tok _,⟨_,rfl⟩,q⟩
end
structure ZM(k:Nat)(A:Around):Prop where
 hd:A.handled=none
 dp:A.depth+3 * k+5<recursionLimit
 un:A.units+16 * k+200<cLine
theorem ZM.mono{j k:Nat}{A:Around}(r:ZM k A)(h:j<=k):ZM j A:=⟨r.hd,by have:=r.dp;omega,by have:=r.un;omega⟩
theorem ZM.deeper{k:Nat}{A:Around}(r:ZM (k+1) A)(env:Env):ZM k (A.deeper env):=
 ⟨r.hd,by have:=r.dp;show A.depth+1+3 * k+5 < _;omega,by have:=r.un;show A.units+3+16 * k+200 < _;omega⟩
theorem Qkh{A:Around}{C:Addr}{us:List Value}{kw:List (Str × Value)}:(A.under (.builtin "type.__call__" ⟨.ref C::us,kw⟩)).depth=A.depth+1:=by
 first | rfl | simp[Around.under,Code.weight,Code.isCreation,Code.isGuard,Code.isCaller,Code.frames,Code.isFrame,guardIds]
theorem Qki{A:Around}{C:Addr}{us:List Value}{kw:List (Str × Value)}:(A.under (.builtin "type.__call__" ⟨.ref C::us,kw⟩)).units=A.units+1:=by
 first | rfl | simp[Around.under,Code.cUnits,Code.frames,Code.isFrame]
theorem ZM.make{k:Nat}{A:Around}(r:ZM (k+1) A)(C:Addr)(us:List Value)(kw:List (Str × Value)):ZM k (A.under (.builtin "type.__call__" ⟨.ref C::us,kw⟩)):=
 ⟨r.hd,by have:=r.dp;rw[Qkh];omega,by have:=r.un;rw[Qki];omega⟩
theorem ZM.depth{k:Nat}{A:Around}(r:ZM k A):A.depth<recursionLimit:=by have:=r.dp;omega
theorem ZM.units{k:Nat}{A:Around}(r:ZM k A):A.units+64<cLine:=by have:=r.un;omega
abbrev Qgv:TA:=λ_ H Q=>Q [] H
abbrev Qb4(ta:TE)(tr:TA):TA:=fun σ H Q=>ta σ H λx H1=>tr σ H1 λxs H2=>Q (x::xs) H2
section
variable {X:Cx} {e:Expr} {es:List Expr} {te:TE} {t:TA} {pos:Pos}
theorem Qc:PA X [] Qgv:=λ_ _ _ _ H Q I h=>Calls.spliced_nil ⟨[],H,I,.nil,h⟩
theorem Qa(ha:PE X e te)(hr:PA X es t)(hs:starEach (e::es) X.env=(false,eval e X.env)::starEach es X.env:=by rfl):PA X (e::es) (Qb4 te t):=by
 intro pos pins s σ H Q I h;rw[hs];show wpAny _ _ (spliced ((false,eval e X.env)::backTo pos (starEach es X.env))) _ _ s;refine Calls.spliced_cons (thn (ha pins s σ H _ I h) λu s1 ⟨x,H1,I1,r1,q1⟩=>?_);exact thn (hr pos pins s1 σ H1 _ I1 q1) λus s2 ⟨xs,H2,I2,r2,q2⟩=>⟨x::xs,H2,I2,.cons r1 r2,q2⟩
abbrev Qs9(t:TA):TE:=fun σ H Q=>t σ H λxs H1=>xs.length<=sizeLine/\∀p,H1 p=none->Q (.ref p) (upd H1 p (.tup xs))
abbrev QrB(t:TA):TE:=fun σ H Q=>t σ H λxs H1=>xs.length<=sizeLine/\∀p,H1 p=none->Q (.ref p) (upd H1 p (.lst xs))
theorem Qky{x1}(h:PA X es t):PE X (.Tuple es x1 pos) (Qs9 t):=by
 intro pins s σ H Q I hq;refine wpAny_Tuple_spliced (thn (h pos pins s σ H _ I hq) λus s1 ⟨xs,H1,I1,r,z,q⟩=>⟨by rw[<-r.length];exact z,?_⟩);have hf:H1 s1.heap.objs.size=none:=I1.hok.fresh (Xe _);refine⟨.ref s1.heap.objs.size,upd H1 s1.heap.objs.size (.tup xs),I1.laid (t':=s1.toks) (λb u e=>Xb _ e) (Xe _) ?_,rfl,q _ hf⟩;exact⟨z,us,r,⟨_,Xg _ rfl,rfl,_,rfl⟩⟩
theorem Q0(h:PA X es t):PE X (.List es pos) (QrB t):=by
 intro pins s σ H Q I hq;refine wpAny_List_spliced (thn (h pos pins s σ H _ I hq) λus s1 ⟨xs,H1,I1,r,z,q⟩=>⟨by rw[<-r.length];exact z,?_⟩);have hf:H1 s1.heap.objs.size=none:=I1.hok.fresh (Xe _);refine⟨.ref s1.heap.objs.size,upd H1 s1.heap.objs.size (.lst xs),I1.laid (t':=s1.toks) (λb u e=>Xb _ e) (Xe _) ?_,rfl,q _ hf⟩;exact⟨z,us,0,r,Xg _ rfl⟩
end
abbrev Sp:=List V->Hp->VK->XK->Prop
abbrev CXT:=List Env->Hp->Shared->XK->Value->Shared->Prop
structure QjZ(P:Program)(w:World)(K:Xa)(mg:Str->Option Value)(base:Heap)(A:Around)(outer:List Env)(s:Shared)(H:Hp):Prop where
 frames:A.frames=some outer
 mod:Mod K mg base
 bs:∀b o,base.get? b=some o->s.heap.get? b=some o/\H b=none
 bsz:base.objs.size<=s.heap.objs.size
 funs:s.heap.FunFrames base outer
 frf:∀b ∈ frs outer,H b=none
 hok:HOk P w H s.heap
 bare:AllBare s.gens
def CE(outer:List Env)(P:Program)(w:World)(H:Hp)(s:Shared)(Q:VK)(u:Value)(s':Shared):Prop:=
 QA λv H'=>s'.os=s.os/\AllBare s'.gens/\Un (frs outer) [] H H' s.heap s'.heap/\HOk P w H' s'.heap/\QZ v u/\Q v H'
def CR(CX:CXT)(outer:List Env)(P:Program)(w:World)(H:Hp)(s:Shared)(Q:VK)(E:XK)(r:Result)(s':Shared):Prop:=
 match r with
 | .ok (.ret u)=>CE outer P w H s Q u s'
 | .ok _=>False
 | .error e=>CX outer H s E e s'
structure Qcr(P:Program)(w:World)(K:Xa)(mg:Str->Option Value)(base:Heap)(CX:CXT)(k:Nat)(f:Addr)(fd:FuncData)(ps:List Str)(sp:Sp):Prop where
 len:∀vs H Q E,sp vs H Q E->vs.length=ps.length
 run:∀(A:Around) (outer:List Env) (s:Shared) (H:Hp) (args:Args) (us:List Value) (vs:List V) (Q:VK) (E:XK),ZM k A->QjZ P w K mg base A outer s H->BindsTo s fd args (ps.zip us)->QP vs us->sp vs H Q E->
  codeAny (model P w) A (.call (.ref f) args) (CR CX outer P w H s Q E) s
theorem QjZ.make{P:Program}{w:World}{K:Xa}{mg:Str->Option Value}{base:Heap}{A:Around}{outer:List Env}{s:Shared}{H:Hp}(e:QjZ P w K mg base A outer s H)(C:Addr)(us:List Value)(kw:List (Str × Value)) :
  QjZ P w K mg base (A.under (.builtin "type.__call__" ⟨.ref C::us,kw⟩)) outer s H:=⟨by first | exact e.frames | (simpa [Around.under,Code.envs,Code.isFrame,pushEnvs] using e.frames),e.mod,e.bs,e.bsz,e.funs,e.frf,e.hok,e.bare⟩
section
variable {X:Cx} {pins:List (Addr × Obj)} {σ:St} {H:Hp} {s s':Shared}
theorem Inv.env0(I:Inv X pins σ H s):QjZ X.prog X.w X.K X.mg X.base X.A X.stack s H:=
 ⟨I.ok.frames,I.ok.mod,I.bs,Xo I.ok.bsz I.sz,I.stack,I.stkFree,I.hok,I.bare⟩
theorem Inv.after{Q:VK}{u:Value}(I:Inv X pins σ H s)(h:CE X.stack X.prog X.w H s Q u s'):EP X pins σ Q u s':=by
 obtain⟨v,H',os,bare,un,hok,r,q⟩:=h;obtain⟨hh,g,d,t,os'⟩:=s';obtain rfl:os'=s.os:=os;exact⟨v,H',I.call (h':=hh) (g':=g) (d':=d) (t':=t) (ch:=[]) un hok bare (λb z=>absurd z (by simp)),r,q⟩
end
abbrev Qqo(sp:Sp)(dvs:List V)(E:XK)(t:TA):TE:=fun σ H Q=>t σ H λvs H1=>sp (vs++dvs) H1 Q E
abbrev QjP(C:Addr)(sp:Sp)(dvs:List V)(E:XK)(t:TA):TE:=fun σ H Q=>t σ H λvs H1=>∀x dx,H1 x=none->H1 dx=none->dx≠x->
 sp (.ref x::(vs++dvs)) (upd (upd H1 dx (.own x)) x (.ins C dx [])) (λv H2=>v=.non/\Q (.ref x) H2) E
def QaZ(K:Xa)(fd:FuncData)(ps:List Str)(ds:List Value):Prop:=
 ∀(s:Shared) (us:List Value),K.In s.heap->(us++ds).length=ps.length->BindsTo s fd ⟨us,[]⟩ (ps.zip (us++ds))
theorem QaZ.all{K:Xa}{fd:FuncData}{ps:List Str}(h:∀us:List Value,us.length=ps.length->bindArgs fd ⟨us,[]⟩=pure (ps.zip us)):QaZ K fd ps []:=λs us _ hl=>by
 rw[X3] at hl ⊢;exact .of_eq (h us hl)
def Qc9(CX:CXT)(X:Cx)(E:XK):Prop:=∀(pins:List (Addr × Obj)) (σ:St) (H:Hp) (s:Shared) (e:Value) (s':Shared),Inv X pins σ H s->CX X.stack H s E e s'->X.xe e s'
section
variable {X:Cx} {CX:CXT} {k:Nat} {f C:Addr} {fd:FuncData} {ps:List Str} {sp:Sp} {dvs:List V} {ds:List Value} {E:XK} {x m:Str} {p pos apos:Pos} {e o:Expr} {es:List Expr} {ta:TE} {t:TA}
theorem Qog{pins:List (Addr × Obj)}{σ:St}{H:Hp}{s:Shared}{Q:VK}{us:List Value}{vs:List V}(F:Qcr X.prog X.w X.K X.mg X.base CX k f fd ps sp)(hr:ZM k X.A)(hb:QaZ X.K fd ps ds)(hd:QP dvs ds)(hx:Qc9 CX X E)
  (I:Inv X pins σ H s) (r:QP vs us) (h:sp (vs++dvs) H Q E):wpAny (model X.prog X.w) X.A (call (.ref f) us) (EP X pins σ Q) X.xe s:=by
 have r2:QP (vs++dvs) (us++ds):=r.append hd;have hl:(us++ds).length=ps.length:=by rw[<-r2.length];exact F.len _ _ _ _ h
 refine wpAny_call (codeAny_mono (F.run X.A X.stack s H ⟨us,[]⟩ (us++ds) (vs++dvs) Q E hr I.env0 (hb s us I.kIn hl) r2 h) λr s' hq=>?_);cases r with
 | error e=>exact hx pins σ H s e s' I hq
 | ok fl=>
  cases fl with
  | ret u=>exact I.after hq
  | next=>exact False.elim hq
  | brk=>exact False.elim hq
  | cont=>exact False.elim hq
theorem Qpv(F:Qcr X.prog X.w X.K X.mg X.base CX k f fd ps sp)(hr:ZM k X.A)(hg:Gl X x)(hm:X.mg x=some (.ref f))(hk:Ue X.K (.ref f)=true)(hb:QaZ X.K fd ps ds)(hd:QP dvs ds)(hx:Qc9 CX X E)
  (ha:PA X (e::es) t) (hdb:(x==("__debug__":Str))=false:=by decide) (he:starEach (e::es) X.env=(false,eval e X.env)::starEach es X.env:=by rfl) (hpl:(backTo pos (starEach es X.env)).any (·.1)=false:=by rfl) :
  PE X (.Call (.Name x p) (e::es) [] pos) (Qqo sp dvs E t):=by
 intro pins s σ H Q I h;refine wpAny_Call_Name_kw (QeB I hg hm ?_ hdb);refine UV (h₀:=X.base) I.ok.mod.kin hk (thn (ha pos pins s σ H _ I h) λus s1 ⟨vs,H1,I1,r,q⟩=>⟨I1.kIn,?_⟩) he hpl;exact Qog F hr hb hd hx I1 r q
structure Mk(K:Xa)(C f:Addr):Prop where
 makes:U8 K C=true
 init:XG K (.ref C) "__init__"=some (some (.ref f))
 fn:PySem.W.isFn K (.ref f)=true
 kp:Ue K (.ref C)=true
theorem QjA{pins:List (Addr × Obj)}{σ:St}{H:Hp}{s:Shared}{Q:VK}{us:List Value}{vs:List V}(M:Mk X.K C f)(F:Qcr X.prog X.w X.K X.mg X.base CX k f fd ps sp)(hr:ZM (k+1) X.A)(hb:QaZ X.K fd ps ds)(hd:QP dvs ds)
  (hx:Qc9 CX X E) (I:Inv X pins σ H s) (r:QP vs us)
  (h:∀x dx,H x=none->H dx=none->dx≠x->sp (.ref x::(vs++dvs)) (upd (upd H dx (.own x)) x (.ins C dx [])) (λv H2=>v=.non/\Q (.ref x) H2) E) :
  wpAny (model X.prog X.w) X.A (call (.ref C) us) (EP X pins σ Q) X.xe s:=by
 have hq:=h (s.heap.objs.size+1) s.heap.objs.size (I.hok.fresh (Nat.le_succ _)) (I.hok.fresh (Xe _)) (Xl (Uq _));have I2:=Inv.made (C:=C) I;have r2:QP (V.ref (s.heap.objs.size+1)::(vs++dvs)) (Value.ref (s.heap.objs.size+1)::(us++ds)):=.cons rfl (r.append hd);have hl:(Value.ref (s.heap.objs.size+1)::us++ds).length=ps.length:=by
  have e:=r2.length;rw[F.len _ _ _ _ hq] at e;exact e.symm
 refine wpAny_call (QnM (f:=f) I.kIn M.makes M.init (beq_iff_eq.mp M.fn) (codeAny_mono (F.run _ X.stack _ _ ⟨Value.ref (s.heap.objs.size+1)::us,[]⟩ (Value.ref (s.heap.objs.size+1)::(us++ds)) _ _ E (hr.make C us [])
  (I2.env0.make C us []) (hb _ (Value.ref (s.heap.objs.size+1)::us) I2.kIn hl) r2 hq) λr s' hq'=>?_))
 cases r with
 | error e=>exact hx pins σ _ _ e s' I2 hq'
 | ok fl=>
  cases fl with
  | ret u=>
   obtain⟨v,H',I3,rv,ev,q3⟩:=I2.after hq';subst ev;exact⟨rv,⟨V.ref (s.heap.objs.size+1),H',I3,rfl,q3⟩⟩
  | next=>exact False.elim hq'
  | brk=>exact False.elim hq'
  | cont=>exact False.elim hq'
theorem Qpz(M:Mk X.K C f)(F:Qcr X.prog X.w X.K X.mg X.base CX k f fd ps sp)(hr:ZM (k+1) X.A)(hg:Gl X x)(hm:X.mg x=some (.ref C))(hb:QaZ X.K fd ps ds)(hd:QP dvs ds)(hx:Qc9 CX X E)
  (ha:PA X (e::es) t) (hdb:(x==("__debug__":Str))=false:=by decide) (he:starEach (e::es) X.env=(false,eval e X.env)::starEach es X.env:=by rfl) (hpl:(backTo pos (starEach es X.env)).any (·.1)=false:=by rfl) :
  PE X (.Call (.Name x p) (e::es) [] pos) (QjP C sp dvs E t):=by
 intro pins s σ H Q I h;refine wpAny_Call_Name_kw (QeB I hg hm ?_ hdb);refine UV (h₀:=X.base) I.ok.mod.kin M.kp (thn (ha pos pins s σ H _ I h) λus s1 ⟨vs,H1,I1,r,q⟩=>⟨I1.kIn,?_⟩) he hpl;exact QjA M F hr hb hd hx I1 r q
theorem Qn1(M:Mk X.K C f)(F:Qcr X.prog X.w X.K X.mg X.base CX k f fd ps sp)(hr:ZM (k+1) X.A)(hg:Gl X x)(hm:X.mg x=some (.ref C))(hb:QaZ X.K fd ps ds)(hd:QP dvs ds)(hx:Qc9 CX X E)
  (hdb:(x==("__debug__":Str))=false:=by decide):PE X (.Call (.Name x p) [] [] pos) (QjP C sp dvs E Qgv):=by
 intro pins s σ H Q I h;refine wpAny_Call_Name_kw (QeB I hg hm ?_ hdb);exact PySem.W.callWith_K0 I.kIn M.kp (QjA (us:=[]) M F hr hb hd hx I .nil h)
end
def PK(X:Cx)(kws:List Keyword)(t:TA):Prop:=
 ∀(pos:Pos) (pins:List (Addr × Obj)) (s:Shared) (σ:St) (H:Hp) (Q:List V->Hp->Prop),Inv X pins σ H s->t σ H Q->wpAny (model X.prog X.w) X.A (evalAll ((backToKw pos (keywordEach kws X.env)).map (·.2))) (AP X pins σ Q) X.xe s
structure Qm(N P:List Str)(sc:Scope):Prop where
 kind:sc.kind=.function
 co:sc.isCoroutine=false
 gen:sc.isGenerator=false
 nd:N.Nodup
 pre:N.take P.length=P
 par:∀x ∈ P,sc.names.lookup x=some .local\/sc.names.lookup x=some .cell
 nofree:∀y ∈ sc.names,y.2≠.free
theorem QgL{kindOf:Str->Option NameKind}{x:Str}:∀{binds:List (Str × Value)} {m:Str->Option Value},(∀v,(x,v) ∉ binds)->bindL kindOf binds m x=m x
 | [],_,_=>rfl
 | (n,v)::r,m,h=>by
  unfold bindL;rw[QgL λw hw=>h w (Xh _ hw)]
  split
  ·have:x≠n:=by rintro rfl;exact h v Xn
   simp[this]
  ·rfl
theorem QgJ{kindOf:Str->Option NameKind}{x:Str}:∀{binds:List (Str × Value)} {m:Str->Option Value},(∀v,(x,v) ∉ binds)->bindC kindOf binds m x=m x
 | [],_,_=>rfl
 | (n,v)::r,m,h=>by
  unfold bindC;rw[QgJ λw hw=>h w (Xh _ hw)]
  split
  ·rfl
  ·have:x≠n:=by rintro rfl;exact h v Xn
   simp[this]
theorem QgK{kindOf:Str->Option NameKind}{x:Str}{v:Value}:∀{P:List Str} {vs:List Value} {i:Nat} {m:Str->Option Value},P.Nodup->P[i]?=some x->vs[i]?=some v->kindOf x=some .local->
  bindL kindOf (P.zip vs) m x=some v
 | [],_,_,_,_,h,_,_=>by simp at h
 | _::_,[],_,_,_,_,h,_=>by simp at h
 | p::P,w::vs,0,m,nd,h1,h2,hk=>by
  simp at h1 h2;subst h1;subst h2;show bindL kindOf ((p,w)::P.zip vs) m p=_;unfold bindL;rw[QgL λv hv=>(X8.mp nd).1 (Uz hv).1,if_pos hk];simp
 | p::P,w::vs,i+1,m,nd,h1,h2,hk=>by
  show bindL kindOf ((p,w)::P.zip vs) m x=_;unfold bindL;exact QgK (i:=i) (X8.mp nd).2 (by simpa using h1) (by simpa using h2) hk
theorem QgI{kindOf:Str->Option NameKind}{x:Str}{v:Value}:∀{P:List Str} {vs:List Value} {i:Nat} {m:Str->Option Value},P.Nodup->P[i]?=some x->vs[i]?=some v->kindOf x≠some .local->
  bindC kindOf (P.zip vs) m x=some v
 | [],_,_,_,_,h,_,_=>by simp at h
 | _::_,[],_,_,_,_,h,_=>by simp at h
 | p::P,w::vs,0,m,nd,h1,h2,hk=>by
  simp at h1 h2;subst h1;subst h2;show bindC kindOf ((p,w)::P.zip vs) m p=_;unfold bindC;rw[QgJ λv hv=>(X8.mp nd).1 (Uz hv).1,if_neg hk];simp
 | p::P,w::vs,i+1,m,nd,h1,h2,hk=>by
  show bindC kindOf ((p,w)::P.zip vs) m x=_;unfold bindC;exact QgI (i:=i) (X8.mp nd).2 (by simpa using h1) (by simpa using h2) hk
def start(N:List Str)(vs:List V):St:=vs.map some++Xs (N.length-vs.length) none
def QiL(CX:CXT)(P:Program)(w:World)(K:Xa)(mg:Str->Option Value)(base:Heap)(N:List Str)(qual:Str)(scope:Scope)(f:Addr)(cd:Value)(A:Around)(outer:List Env)(s:Shared)(H:Hp)(E:XK):Cx where
 prog:=P
 w:=w
 K:=K
 mg:=mg
 base:=base
 A:=A.deeper (envOfC qual scope s.heap.objs.size f cd)
 N:=N
 s_0:=s
 H_0:=H
 env:=envOfC qual scope s.heap.objs.size f cd
 outer:=outer
 stack:=envOfC qual scope s.heap.objs.size f cd::outer
 ex:=[]
 calm:=true
 fn:=λ_=>true
 pn:=[]
 xe:=λe s'=>wpAny (model P w) (A.deeper (envOfC qual scope s.heap.objs.size f cd)) (leaving (envOfC qual scope s.heap.objs.size f cd) e) (λ_ s''=>CX outer H s E e s'') (λe' s''=>CX outer H s E e' s'') s'
theorem QiE{sc:Scope}{n:Nat}{x:Str}(h:sc.names.lookup x=some .cell):∃c,(cellsFrom n sc.names []).lookup x=some c:=by
 have q:=UF sc.names n [] (.inl h);exact Ut.mp q
theorem Qmi{CX:CXT}{P:Program}{w:World}{K:Xa}{mg:Str->Option Value}{base:Heap}{N ps:List Str}{qual:Str}{scope:Scope}{f:Addr}{cd:Value}{A:Around}{outer:List Env}{s s1:Shared}{H:Hp}{E:XK}{us:List Value}{vs:List V}
  (S:Qm N ps scope) (hd:A.handled=none) (e0:QjZ P w K mg base A outer s H) (hl:vs.length=ps.length) (r:QP vs us)
  (x:InCallC s s.heap.objs.size (bindL (envOfC qual scope s.heap.objs.size f cd).kindOf (ps.zip us) λ_=>none) (cellsFrom (s.heap.objs.size+1) scope.names []) (bindC (envOfC qual scope s.heap.objs.size f cd).kindOf (ps.zip us) λ_=>none) s1) :
  Inv (QiL CX P w K mg base N qual scope f cd A outer s H E) [] (start N vs) H s1:=by
 have hpl:ps.length<=N.length:=by have:=congrArg List.length S.pre;rw[X1] at this;omega
 obtain⟨h1,tk,rfl,hk⟩:=x.done;have noA:∀b:Addr,b ∉ (QiL CX P w K mg base N qual scope f cd A outer s H E).ex:=λb z=>absurd (show b ∈ ([]:List Addr) from z) (by simp)
 refine⟨⟨e0.mod,S.kind,rfl,rfl,Xe _,λy z c h1 h2=>?_,λy hy=>?_,λy c _ h=>?_,λ_=>hd,Around.frames_deeper e0.frames,.inr ⟨rfl,rfl⟩,λb z=>absurd z (noA b),e0.bs,e0.bsz,λb _ _=>noA b,λb z=>absurd z (noA b),e0.funs,e0.frf⟩,
  rfl,e0.bare,Un.kept hk,⟨_,x.toInCall.ns,λi y v h1 h2 h3=>?_⟩,λy c h=>⟨_,x.cell y c h⟩,e0.hok.fresh (Xe _),λy c h=>?_,λp hp=>absurd (show p ∈ ([]:List (Addr × Obj)) from hp) (by simp),e0.hok.kept hk,?_⟩
 ·exact name_of_addr x.apart (Xk h1) (Xk h2)
 ·have hy:scope.names.lookup y=some .cell\/scope.names.lookup y=some .free:=hy;rcases hy with hy | hy
  ·exact QiE hy
  ·exact absurd rfl (S.nofree _ (Xk hy))
 ·exact UT (x.above y c (Xk h))
 ·have hi:i<vs.length:=by
   unfold start at h2
   by_cases hi:i<vs.length
   ·exact hi
   ·rw[List.getElem?_append_right (by simpa using hi)] at h2;rw[List.getElem?_replicate] at h2
    split at h2<;>cases h2
  have ha:vs[i]?=some v:=by
   unfold start at h2;rw[List.getElem?_append_left (by simpa using hi),UW] at h2;cases e:vs[i]? with
   | none=>rw[e] at h2;cases h2
   | some a=>rw[e] at h2;cases h2;rfl
  obtain⟨u,hu,rv⟩:=r.get ha;have hp:ps[i]?=some y:=by
   rw[<-S.pre,List.getElem?_take_of_lt (by omega)];exact h1
  have ndP:ps.Nodup:=by rw[<-S.pre];exact S.nd.sublist (List.take_sublist _ _)
  refine⟨u,rv,?_⟩;rcases S.par y (X7 hp) with k | k
  ·exact .inl ⟨k,QgK ndP hp hu k⟩
  ·obtain⟨c,e⟩:=QiE (n:=s.heap.objs.size+1) k;refine .inr ⟨.inl k,c,e,?_⟩;have q:=x.cell y c e;rw[QgI ndP hp hu (by show scope.names.lookup y≠_;rw[k];decide)] at q;exact q
 ·exact e0.hok.fresh (UT (x.above y c (Xk h)))
 ·unfold start;show _=N.length;rw[Xt,XA,List.length_replicate];omega
theorem QrT{CX:CXT}{P:Program}{w:World}{K:Xa}{mg:Str->Option Value}{base:Heap}{k:Nat}{f:Addr}{name qual:Str}{params:Arguments}{body:List Stmt}{scope:Scope}{dV kV doc pm cdv ct oc:Value}{an od:Option Addr}
  {osl:Array (Option Value)} {N ps:List Str} {sp:Sp} (lk:K.lookup f=some ⟨oc,od,.func (XT name qual params body scope dV kV doc pm an cdv ct),osl⟩) (hcd:UJ K cdv qual=true) (S:Qm N ps scope)
  (len:∀vs H Q E,sp vs H Q E->vs.length=ps.length)
  (hbody:∀(A:Around) (outer:List Env) (s:Shared) (H:Hp) (vs:List V) (Q:VK) (E:XK),ZM k (A.deeper (envOfC qual scope s.heap.objs.size f cdv))->sp vs H Q E->
    ∃t,PSs (QiL CX P w K mg base N qual scope f cdv A outer s H E) body t/\t { nx:=λ_ H'=>Q .non H',rt:=Q } (start N vs) H) :
  Qcr P w K mg base CX (k+1) f (XT name qual params body scope dV kV doc pm an cdv ct) ps sp:=by
 refine⟨len,λA outer s H args us vs Q E hr e0 hb r hsp=>?_⟩;have hl:=len _ _ _ _ hsp;have KX:K.In s.heap:=e0.mod.kin.keeps λb o e=>(e0.bs b o e).1
 have lim:s.heap.NoLimit:=e0.mod.nolimit.keeps λb o e=>(e0.bs b o e).1
 have hkind:∀y ∈ ps.zip us,scope.names.lookup y.1=some .local\/(scope.names.lookup y.1=some .cell/\((cellsFrom (s.heap.objs.size+1) scope.names []).lookup y.1).isSome=true):=λ⟨n,v⟩ hy=>by
  rcases S.par n (Uz hy).1 with q | q
  ·exact .inl q
  ·exact .inr ⟨q,UF _ _ _ (.inl q)⟩
 refine codeAny_call_function hr.depth (KX _ _ lk) rfl S.co S.gen rfl (PySem.W.codeRec_of KX hcd) (hb _ _ _ _ ?_);refine wpAny_newFunctionEnv_cells S.kind hkind λenv he s1 x=>?_
 subst he;refine⟨lim.keeps x.toInCall.keep,codeAny_func ?_⟩;obtain⟨t,ht,hq⟩:=hbody A outer s H vs Q E (hr.deeper _) hsp;have I:Inv (QiL CX P w K mg base N qual scope f cdv A outer s H E) [] (start N vs) H s1:=Qmi S hr.hd e0 hl r x;refine wpAny_mono (ht [] s1 (start N vs) H _ I hq) (λfl s' hs=>?_) λe s' hs=>hs
 have fin:∀{σ':St} {H':Hp} {v:V} {u:Value},Inv (QiL CX P w K mg base N qual scope f cdv A outer s H E) [] σ' H' s'->QZ v u->Q v H'->CE outer P w H s Q u s':=
  λ{σ' H' v u} J rv q=>⟨v,H',J.os,J.bare,J.base,J.hok,rv,q⟩
 cases fl with
 | ret u=>
  obtain⟨v,σ',H',J,rv,q⟩:=hs;exact fin J rv q
 | next=>
  obtain⟨σ',H',J,q⟩:=hs;exact fin (v:=V.non) (u:=Value.none) J rfl q
 | brk=>
  obtain⟨_,_,_,q⟩:=hs;exact False.elim q
 | cont=>
  obtain⟨_,_,_,q⟩:=hs;exact False.elim q
section
variable {X:Cx} {x:Str} {p pos:Pos} {e:Expr} {es:List Expr} {t:TA} {id T:String} {r:List V->Hp->VK->Prop}
abbrev tCB(r:List V->Hp->VK->Prop)(t:TA):TE:=fun σ H Q=>t σ H λvs H1=>r vs H1 Q
theorem Qs(hc:W7 X (.builtin id) r)(hg:Gl X x)(hm:X.mg x=none)(hv:bootBuiltins x=some (.builtin id))(ha:PA X (e::es) t)(hn:x≠"__name__":=by decide)(hdb:(x==("__debug__":Str))=false:=by decide)
  (he:starEach (e::es) X.env=(false,eval e X.env)::starEach es X.env:=by rfl) (hpl:(backTo pos (starEach es X.env)).any (·.1)=false:=by rfl):PE X (.Call (.Name x p) (e::es) [] pos) (tCB r t):=by
 intro pins s σ H Q I h;refine wpAny_Call_Name_kw (Qcb I hg hm hv ?_ hn hdb);exact PyProof.Rows.callWith_builtin1 (thn (ha pos pins s σ H _ I h) λus s1 ⟨vs,H1,I1,r1,q1⟩=>hc pins s1 σ H1 vs us Q I1 r1 q1) he hpl
theorem Qaj(hc:W7 X (.type T) r)(hg:Gl X x)(hm:X.mg x=none)(hv:bootBuiltins x=some (.type T))(ha:PA X (e::es) t)(hn:x≠"__name__":=by decide)(hdb:(x==("__debug__":Str))=false:=by decide)
  (he:starEach (e::es) X.env=(false,eval e X.env)::starEach es X.env:=by rfl) (hpl:(backTo pos (starEach es X.env)).any (·.1)=false:=by rfl):PE X (.Call (.Name x p) (e::es) [] pos) (tCB r t):=by
 intro pins s σ H Q I h;refine wpAny_Call_Name_kw (Qcb I hg hm hv ?_ hn hdb);exact PyProof.Rows.callWith_type1 (thn (ha pos pins s σ H _ I h) λus s1 ⟨vs,H1,I1,r1,q1⟩=>hc pins s1 σ H1 vs us Q I1 r1 q1) he hpl
end
end L2
namespace HT
open PySem PyProof.Rows
section
variable {prog:Program} {w:World} {A:Around} {E:Value->Shared->Prop} {s:Shared}
def sIx(n d:Nat):Option Int->Nat
 | none=>d
 | some v=>if v<0 then (v+(n:Int)).toNat else min v.toNat n
theorem QfU(n d:Nat):sIx n d none=d:=rfl
theorem YN(n d k:Nat):sIx n d (some (k:Int))=min k n:=by
 show (if (k:Int)<0 then ((k:Int)+(n:Int)).toNat else min (k:Int).toNat n)=min k n;rw[if_neg (by omega),Int.toNat_natCast]
theorem Qoh(n d:Nat)(hd:d<=n)(o:Option Int):sIx n d o<=n:=by
 cases o with
 | none=>exact hd
 | some v=>
  show (if v<0 then (v+(n:Int)).toNat else min v.toNat n)<=n
  by_cases hv:v<0
  ·rw[if_pos hv];omega
  ·rw[if_neg hv];exact Nat.min_le_right _ _
end
end HT
namespace L2
open PySem PySem.Spec PyProof.Rows
abbrev TO:=St->Hp->(Option Int->Hp->Prop)->Prop
def PO(X:Cx)(e:Option Expr)(t:TO):Prop:=
 ∀(pins:List (Addr × Obj)) (s:Shared) (σ:St) (H:Hp) (Q:Option Int->Hp->Prop),Inv X pins σ H s->t σ H Q->
  wpAny (model X.prog X.w) X.A (evalPart e X.env) (λu s'=>QA λo H'=>Inv X pins σ H' s'/\IsPart u o/\Q o H') X.xe s
abbrev QeE:TO:=λ_ H Q=>Q none H
abbrev Qeb(t:TE):TO:=fun σ H Q=>t σ H λx H1=>∃i,x=.int i/\Q (some i) H1
section
variable {X:Cx} {e:Expr} {te:TE} {lo hi:Option Expr} {tl th:TO} {pos p2:Pos}
theorem WJ:PO X none QeE:=by
 intro pins s σ H Q I h;rw[evalPart_none];exact wpAny_pure ⟨none,H,I,.none,h⟩
theorem JE(h:PE X e te):PO X (some e) (Qeb te):=by
 intro pins s σ H Q I hw;rw[evalPart_some];refine thn (h pins s σ H _ I hw) λu s1 ⟨x,H1,I1,r1,q1⟩=>?_
 obtain⟨i,rfl,q⟩:=q1;obtain⟨t,rfl⟩:=r1;exact⟨some i,H1,I1,.int i t,q⟩
def SlR(X:Cx)(r:V->Option Int->Option Int->Hp->VK->Prop):Prop:=
 ∀(pins:List (Addr × Obj)) (s:Shared) (σ:St) (H:Hp) (x:V) (v vl vu:Value) (lo hi:Option Int) (sl:Addr) (Q:VK),Inv X pins σ H s->QZ x v->s.heap.IsSliceOf sl vl vu .none->IsPart vl lo->IsPart vu hi->r x lo hi H Q->
  QA λT id=>typeLookup (.type T) "__getitem__"=pure (some (.builtin id))/\s.TypeIs v T/\wpAny (model X.prog X.w) X.A (getItem v (.ref sl)) (EP X pins σ Q) X.xe s
abbrev tSl(r:V->Option Int->Option Int->Hp->VK->Prop)(te:TE)(tl th:TO):TE:=fun σ H Q=>te σ H λx H1=>tl σ H1 λl H2=>th σ H2 λu H3=>r x l u H3 Q
theorem JV{r:V->Option Int->Option Int->Hp->VK->Prop}(hr:SlR X r)(he:PE X e te)(hl:PO X lo tl)(hu:PO X hi th):PE X (.Subscript e (.Slice lo hi none p2) pos) (tSl r te tl th):=by
 intro pins s σ H Q I h;refine Subscript_ (thn (he pins s σ H _ I h) λv s1 ⟨x,H1,I1,r1,q1⟩=>?_);refine wpAny_Slice (thn (hl pins s1 σ H1 _ I1 q1) λvl s2 ⟨l,H2,I2,pl,q2⟩=>thn (hu pins s2 σ H2 _ I2 q2) λvu s3 ⟨u,H3,I3,pu,q3⟩=>?_);rw[evalPart_none];refine wpAny_pure ?_;have I4:Inv X pins σ H3 { s3 with heap:=s3.heap.push { cls:=.type "slice",data:=.fields #[vl,vu,.none] } }:=I3.kept (t':=s3.toks) λb ob q=>Xb _ q
 obtain⟨T,id,hT,ht,hg⟩:=hr pins { s3 with heap:=s3.heap.push { cls:=.type "slice",data:=.fields #[vl,vu,.none] } } σ H3 x v vl vu l u s3.heap.objs.size Q I4 r1 (Heap.IsSliceOf.new ..) pl pu q3;show wpAny (model X.prog X.w) X.A (subscriptTail e (.Slice lo hi none p2) v (.ref s3.heap.objs.size)) (EP X pins σ Q) X.xe { s3 with heap:=s3.heap.push { cls:=.type "slice",data:=.fields #[vl,vu,.none] } };exact tail_any (ops:=[.ref s3.heap.objs.size,v]) ht hT hg (by with_unfolding_all rfl)
def Qdg(xs:List V)(lo hi:Option Int):List V:=(xs.drop (HT.sIx xs.length 0 lo)).take (HT.sIx xs.length xs.length hi-HT.sIx xs.length 0 lo)
theorem QiJ(xs:List V)(lo hi:Option Int):(Qdg xs lo hi).length<=xs.length:=by
 unfold Qdg;rw[X1,XO];omega
end
def ixN(n:Nat)(i:Int):Option Nat:=if 0<=i then (if i<n then some i.toNat else none) else if -(n:Int)<=i then some (i+n).toNat else none
def atI{α:Type}(xs:List α)(i:Int):Option α:=(ixN xs.length i).bind λj=>xs[j]?
theorem Qls{n:Nat}{i:Int}{j:Nat}(h:ixN n i=some j):seqIndex? i n=some j/\j<n/\-(n:Int)<=i/\i<n:=by
 unfold ixN at h
 by_cases h0:0<=i
 ·rw[if_pos h0] at h
  by_cases h1:i<n
  ·rw[if_pos h1] at h;have e:i.toNat=j:=Xm h;exact⟨by rw[seqIndex_of h0 h1,e],by omega,by omega,h1⟩
  ·rw[if_neg h1] at h;cases h
 ·rw[if_neg h0] at h
  by_cases h1:-(n:Int)<=i
  ·rw[if_pos h1] at h;have e:(i+n).toNat=j:=Xm h;exact⟨by rw[seqIndex_neg (by omega) h1,e],by omega,h1,by omega⟩
  ·rw[if_neg h1] at h;cases h
theorem Qle{α:Type}{xs:List α}{i:Int}{v:α}(h:atI xs i=some v):∃j,seqIndex? i xs.length=some j/\xs[j]?=some v/\j<xs.length/\-(xs.length:Int)<=i/\i<xs.length:=by
 unfold atI at h;cases e:ixN xs.length i with
 | none=>rw[e] at h;cases h
 | some j=>
  rw[e] at h;obtain⟨h1,h2,h3,h4⟩:=Qls e;exact⟨j,h1,h,h2,h3,h4⟩
theorem QoV{α:Type}{xs:List α}{j:Nat}{v:α}(h:xs[j]?=some v):atI xs (j:Int)=some v:=by
 have hj:j<xs.length:=(Xx.mp h).1;have e:ixN xs.length (j:Int)=some j:=by
  unfold ixN;rw[if_pos (by omega),if_pos (by omega)];simp
 unfold atI;rw[e];exact h
def QoR(b:Expr):Prop:=∀o i,subscripted b false o i=operate [o,i] (getItem o i)
def IxR(X:Cx)(r:R2):Prop:=
 ∀(value slice:Expr) (pins:List (Addr × Obj)) (s:Shared) (σ:St) (H:Hp) (x y:V) (v u:Value) (Q:VK),Inv X pins σ H s->QZ x v->QZ y u->r x y H Q->
  subscripted slice false v u=operate [v,u] (getItem v u)->wpAny (model X.prog X.w) X.A (subscriptTail value slice v u) (EP X pins σ Q) X.xe s
def MtR(X:Cx)(id:String)(r:V->List V->Hp->VK->Prop):Prop:=
 ∀(pins:List (Addr × Obj)) (s:Shared) (σ:St) (H:Hp) (x:V) (xs:List V) (v:Value) (us:List Value) (Q:VK),Inv X pins σ H s->QZ x v->QP xs us->r x xs H Q->
  wpAny (model X.prog X.w) X.A (call (.builtin id) (v::us)) (EP X pins σ Q) X.xe s
section
variable {X:Cx} {a b:Expr} {ta tb:TE} {pos:Pos}
theorem QV{r:R2}(hr:IxR X r)(ha:PE X a ta)(hb:PE X b tb)(hs:QoR b):PE X (.Subscript a b pos) (tOp r ta tb):=by
 intro pins s σ H Q I h;exact Subscript_ (QqC ha hb I h λv u s2 x y H2 I2 rx ry q=>hr a b pins s2 σ H2 x y v u Q I2 rx ry q (hs _ _))
def QmK(K:Xa):R2:=λx y H Q=>YS λp xs i v=>x=.ref p/\y=.int i/\SqL K H p xs/\atI xs i=some v/\Q v H
def Qsa(K:Xa):R2:=λx y H Q=>YS λp xs i v=>x=.ref p/\y=.int i/\SqT K H p xs/\atI xs i=some v/\Q v H
theorem QJ:IxR X (QmK X.K):=by
 intro value slice pins s σ H x y v u Q I rx ry h hs;obtain⟨p,xs,i,z,rfl,rfl,hq,he,q⟩:=h;cases rx;obtain⟨t,rfl⟩:=ry;obtain⟨its,r,pl,hz⟩:=I.list hq;obtain⟨j,h1,h2,h3,h4,h5⟩:=Qle he;obtain⟨w,ew,rw'⟩:=r.get h2;have hl:=r.length;have hn:=Qfh;have fin:EP X pins σ Q w s:=⟨z,H,I,rw',q⟩
 by_cases h0:0<=i
 ·have hj:i.toNat=j:=by
   rw[seqIndex_of h0 h5] at h1;exact Xm h1
  exact item_listR pl.isList h0 (by omega) (by rw[hj];simpa using ew) fin hs
 ·have hj:(i+(its.toArray.size:Int)).toNat=j:=by
   rw[seqIndex_neg (by omega) h4] at h1;rw[Xd,<-hl];exact Xm h1
  exact subscriptTail_builtinR (x:=w) pl.isList.typeIs slot_list_getitem.lookup
   (wpAny_getItem_list_neg (Q:=λr s'=>r=w/\EP X pins σ Q r s') pl.isList (by omega) (by rw[Xd]<;>omega) (by omega) (by rw[hj];simpa using ew) ⟨rfl,fin⟩) hs
theorem Qdm:IxR X (Qsa X.K):=by
 intro value slice pins s σ H x y v u Q I rx ry h hs;obtain⟨p,xs,i,z,rfl,rfl,hq,he,q⟩:=h;cases rx;obtain⟨t,rfl⟩:=ry;obtain⟨its,r,pl,hz⟩:=I.tuple hq;obtain⟨j,h1,h2,h3,h4,h5⟩:=Qle he;obtain⟨w,ew,rw'⟩:=r.get h2;have hl:=r.length;have hn:=Qfh;have fin:EP X pins σ Q w s:=⟨z,H,I,rw',q⟩;exact subscriptTail_builtinR (x:=w) pl.typeIs slot_tuple_getitem.lookup
  (getItem_tuple (j:=j) (Q:=λr s'=>r=w/\EP X pins σ Q r s') pl (by omega) (by omega) (by rw[Xd,<-hl];exact h1) (by simpa using ew) ⟨rfl,fin⟩) hs
theorem Qkj(its:List Value)(n j:Nat)(u:Value):Obj.mapSeq (·.setIfInBounds j u) { cls:=.type "list",data:=.seq its.toArray n }={ cls:=.type "list",data:=.seq (its.set j u).toArray n }:=by
 simp[Obj.mapSeq]
theorem Inv.lst{pins:List (Addr × Obj)}{σ:St}{H:Hp}{s:Shared}{p:Addr}{xs:List V}(I:Inv X pins σ H s)(h:H p=some (.lst xs)) :
  QA λ(its:List Value) (n:Nat)=>QP xs its/\s.heap.get? p=some { cls:=.type "list",data:=.seq its.toArray n }/\xs.length<=sizeLine:=by
 obtain⟨z,its,n,r,e⟩:=I.hok p _ h;exact⟨its,n,r,e,z⟩
theorem Inv.lstUpd{pins:List (Addr × Obj)}{σ:St}{H:Hp}{s:Shared}{p:Addr}{xs ys:List V}{its its':List Value}{n n':Nat}{f:Obj->Obj}(I:Inv X pins σ H s)(h:H p=some (.lst xs))
  (ho:s.heap.get? p=some { cls:=.type "list",data:=.seq its.toArray n }) (hf:f { cls:=.type "list",data:=.seq its.toArray n }={ cls:=.type "list",data:=.seq its'.toArray n' }) (r:QP ys its') (hz:ys.length<=sizeLine) (t:Nat) :
  Inv X pins σ (upd H p (.lst ys)) { s with heap:=s.heap.update p f,toks:=t }:=by
 have e:(s.heap.update p f).get? p=some { cls:=.type "list",data:=.seq its'.toArray n' }:=by
  rw[Heap.get?_update_self f ho (by rw[hf]<;>rfl),hf]
 refine I.write (x:=p) (e:=p) (by rw[h];trivial) (.inl rfl) (λb u hb q=>(UC _ _ (Ne.symm hb)).trans q) ⟨_,e⟩ ?_;exact⟨hz,its',n',r,e⟩
def Qsb:V->V->V->Hp->(Hp->Prop)->Prop:=λo i v H Q=>YS λp xs k j=>o=.ref p/\i=.int k/\H p=some (.lst xs)/\ixN xs.length k=some j/\Q (upd H p (.lst (xs.set j v)))
theorem QcZ:QrL X Qsb:=by
 intro pins s σ H o i v ov iv u Q I ro ri rv h;obtain⟨p,xs,k,j,rfl,rfl,hp,hj,q⟩:=h;cases ro;obtain⟨t,rfl⟩:=ri;obtain⟨its,n,r,ho,hz⟩:=I.lst hp;obtain⟨h1,h2,h3,h4⟩:=Qls hj;have hl:=r.length;have hn:=Qfh;have I':Inv X pins σ (upd H p (.lst (xs.set j v))) { s with heap:=s.heap.update p (Obj.mapSeq (·.setIfInBounds j u)) }:=
  I.lstUpd hp ho (Qkj its n j u) (r.set rv j) (by rw[U6];exact hz) s.toks
 by_cases h0:0<=k
 ·have hk:k.toNat=j:=by
   rw[seqIndex_of h0 h4] at h1;exact Xm h1
  exact PySem.W.ki_setAt ho h0 (by omega) (by rw[Xd,<-hl];exact h4) (by rw[hk];exact⟨_,I',q⟩)
 ·have hk:(k+(its.toArray.size:Int)).toNat=j:=by
   rw[seqIndex_neg (by omega) h3] at h1;rw[Xd,<-hl];exact Xm h1
  exact PySem.W.ki_setBack ho (by omega) (by rw[Xd,<-hl];exact h3) (by omega) (by rw[hk];exact⟨_,I',q⟩)
theorem Qil(lo hi:Option Int)(n:Nat):(sliceBounds lo hi none n).1=((HT.sIx n 0 lo:Nat):Int)/\(sliceBounds lo hi none n).2.1=((HT.sIx n n hi:Nat):Int)/\(sliceBounds lo hi none n).2.2=1:=by
 refine⟨?_,?_,rfl⟩
 ·cases lo with
  | none=>simp[sliceBounds,HT.sIx]
  | some i=>
   simp only[sliceBounds,HT.sIx,U0,show (1:Int) > 0 by decide,if_true]
   by_cases h:i<0
   ·simp only[h,if_true]<;>omega
   ·simp only[h,if_false]<;>omega
 ·cases hi with
  | none=>simp[sliceBounds,HT.sIx]
  | some i=>
   simp only[sliceBounds,HT.sIx,U0,show (1:Int) > 0 by decide,if_true]
   by_cases h:i<0
   ·simp only[h,if_true]<;>omega
   ·simp only[h,if_false]<;>omega
theorem Qgu(its:List Value)(lo hi:Option Int):slicePick its.toArray lo hi none=((its.drop (HT.sIx its.length 0 lo)).take (HT.sIx its.length its.length hi-HT.sIx its.length 0 lo)).toArray:=by
 obtain⟨h1,h2,h3⟩:=Qil lo hi its.toArray.size;unfold slicePick;rw[h1,h2,h3];simp only[sliceRange_one,pick_run,Xd]<;>rfl
def QpG(K:Xa):V->Option Int->Option Int->Hp->VK->Prop:=λx lo hi H Q=>QA λa xs=>x=.ref a/\SqL K H a xs/\∀p,H p=none->Q (.ref p) (upd H p (.lst (Qdg xs lo hi)))
theorem WM:SlR X (QpG X.K):=by
 intro pins s σ H x v vl vu lo hi sl Q I rx hs pl pu h;obtain⟨a,xs,rfl,hx,q⟩:=h;cases rx;obtain⟨its,r,ht,hz⟩:=I.list hx;have hlen:=r.length;refine⟨"list",_,slot_list_getitem.lookup,ht.isList.typeIs,?_⟩;refine wpAny_getItem_list_slice ht.isList hs pl pu .none (by simp) ?_ (by rw[Xd]<;>omega);rw[Qgu,<-hlen];refine⟨.ref s.heap.objs.size,_,I.laid (t':=s.toks) (o:=.lst (Qdg xs lo hi)) (λb ob q=>Xb _ q) (Xe _) ?_,rfl,q _ (I.hok.fresh (Xe _))⟩;exact⟨Xo (QiJ xs lo hi) hz,_,0,(r.drop (HT.sIx xs.length 0 lo)).take (HT.sIx xs.length xs.length hi-HT.sIx xs.length 0 lo),Xg _ rfl⟩
def Yw:V->Bool
 | .non=>true
 | .bl _=>true
 | .int _=>true
 | .str _=>true
 | _=>false
def eqV:V->V->Bool
 | .non,.non=>true
 | .bl a,.bl b=>a==b
 | .bl a,.int b=>(if a then 1 else 0)==b
 | .int a,.bl b=>a==(if b then 1 else 0)
 | .int a,.int b=>a==b
 | .str a,.str b=>a==b
 | _,_=>false
theorem QqL{A:Around}{s:Shared}{y x:V}{u v:Value}(ry:QZ y u)(rx:QZ x v)(fy:Yw y=true)(fx:Yw x=true):SeqAt.EqAt A s u v (eqV y x):=by
 cases y with
 | non=>
  cases ry;cases x with
  | non=>cases rx;exact SeqAt.EqAt.same _
  | bl b=>cases rx;exact SeqAt.EqAt.none_bool b
  | int b=>obtain⟨t,rfl⟩:=rx;exact SeqAt.EqAt.none_int b t
  | str b=>obtain⟨t,rfl⟩:=rx;exact SeqAt.EqAt.none_str b t
  | _=>exact absurd (show false=true from fx) Xc
 | bl a=>
  cases ry;cases x with
  | non=>cases rx;exact SeqAt.EqAt.bool_none a
  | bl b=>cases rx;exact SeqAt.EqAt.bool_bool a b
  | int b=>obtain⟨t,rfl⟩:=rx;exact SeqAt.EqAt.bool_int a b t
  | str b=>obtain⟨t,rfl⟩:=rx;exact SeqAt.EqAt.bool_str a b t
  | _=>exact absurd (show false=true from fx) Xc
 | int a=>
  obtain⟨t',rfl⟩:=ry;cases x with
  | non=>cases rx;exact SeqAt.EqAt.int_none a t'
  | bl b=>cases rx;exact SeqAt.EqAt.int_bool a t' b
  | int b=>obtain⟨t,rfl⟩:=rx;exact SeqAt.EqAt.int_int a t' b t
  | str b=>obtain⟨t,rfl⟩:=rx;exact SeqAt.EqAt.int_str a t' b t
  | _=>exact absurd (show false=true from fx) Xc
 | str a=>
  obtain⟨t',rfl⟩:=ry;cases x with
  | non=>cases rx;exact SeqAt.EqAt.str_none a t'
  | bl b=>cases rx;exact SeqAt.EqAt.str_bool a t' b
  | int b=>obtain⟨t,rfl⟩:=rx;exact SeqAt.EqAt.str_int a t' b t
  | str b=>obtain⟨t,rfl⟩:=rx;exact SeqAt.EqAt.str_str a t' b t
  | _=>exact absurd (show false=true from fx) Xc
 | _=>exact absurd (show false=true from fy) Xc
def eqU(x:V)(u:Value):Bool:=match u with
 | .none=>eqV .non x
 | .bool b=>eqV (.bl b) x
 | .int i _=>eqV (.int i) x
 | .str z _=>eqV (.str z) x
 | _=>false
theorem QeX{x y:V}{u:Value}(r:QZ y u)(f:Yw y=true):eqU x u=eqV y x:=by
 cases y with
 | non=>cases r;rfl
 | bl b=>cases r;rfl
 | int i=>obtain⟨t,rfl⟩:=r;rfl
 | str z=>obtain⟨t,rfl⟩:=r;rfl
 | _=>exact absurd (show false=true from f) Xc
theorem Qcv{x:V}:∀{xs:List V} {us:List Value},QP xs us->xs.all Yw=true->us.any (eqU x)=xs.any λy=>eqV y x
 | _,_,.nil,_=>rfl
 | y::xs,u::us,.cons r t,f=>by
  rw[Ug,XZ] at f;rw[XI,XI,QeX r f.1,Qcv t f.2]
theorem Wg{A:Around}{s:Shared}{x:V}{v:Value}(rx:QZ x v)(fx:Yw x=true):∀{xs:List V} {us:List Value},QP xs us->xs.all Yw=true->∀u ∈ us,SeqAt.EqAt A s u v (eqU x u)
 | _,_,.nil,_=>λu hu=>by cases hu
 | y::xs,u::us,.cons r t,f=>λu' hu=>by
  rw[Ug,XZ] at f;rcases Xj.mp hu with rfl | hu
  ·rw[QeX r f.1];exact QqL r rx f.1 fx
  ·exact Wg rx fx t f.2 u' hu
def inV(x:V)(xs:List V):Bool:=xs.any λy=>eqV y x
def rIn(K:Xa)(neg:Bool):R2:=λx y H Q=>QA λp xs=>y=.ref p/\(SqL K H p xs\/SqT K H p xs)/\Yw x=true/\xs.all Yw=true/\Q (.bl (if neg then !inV x xs else inV x xs)) H
theorem Qai:OpR X (compareOp .In) (rIn X.K false):=by
 intro pins s σ H x y v u Q I rx ry h;obtain⟨p,xs,rfl,hq,fx,fs,q⟩:=h;cases ry;rcases hq with hq | hq
 ·obtain⟨its,r,pl,hz⟩:=I.list hq;refine SeqAt.in_listAt (eqU x) pl.isList (λw hw=>Wg rx fx r fs w (by simpa using hw)) ⟨.bl _,H,I,rfl,?_⟩;rw[show its.toArray.any (eqU x)=its.any (eqU x) by simp,Qcv r fs];exact q
 ·obtain⟨its,r,pl,hz⟩:=I.tuple hq;refine SeqAt.in_tupleAt (eqU x) pl (λw hw=>Wg rx fx r fs w (by simpa using hw)) ⟨.bl _,H,I,rfl,?_⟩;rw[show its.toArray.any (eqU x)=its.any (eqU x) by simp,Qcv r fs];exact q
theorem QaI:OpR X (compareOp .NotIn) (rIn X.K true):=by
 intro pins s σ H x y v u Q I rx ry h;obtain⟨p,xs,rfl,hq,fx,fs,q⟩:=h;cases ry;rcases hq with hq | hq
 ·obtain⟨its,r,pl,hz⟩:=I.list hq;refine SeqAt.notIn_listAt (eqU x) pl.isList (λw hw=>Wg rx fx r fs w (by simpa using hw)) ⟨.bl _,H,I,rfl,?_⟩;rw[show its.toArray.any (eqU x)=its.any (eqU x) by simp,Qcv r fs];exact q
 ·obtain⟨its,r,pl,hz⟩:=I.tuple hq;refine SeqAt.notIn_tupleAt (eqU x) pl (λw hw=>Wg rx fx r fs w (by simpa using hw)) ⟨.bl _,H,I,rfl,?_⟩;rw[show its.toArray.any (eqU x)=its.any (eqU x) by simp,Qcv r fs];exact q
theorem Qw:W7 X (.builtin "len") (λxs H Q=>QA λp ys=>xs=[.ref p]/\(SqL X.K H p ys\/SqT X.K H p ys)/\Q (.int ys.length) H):=by
 intro pins s σ H xs us Q I r h;obtain⟨p,ys,rfl,hq,q⟩:=h;obtain⟨u,rfl,rx⟩:=Qed r;cases rx;have hn:=Qfh;rcases hq with hq | hq
 ·obtain⟨its,r',pl,hz⟩:=I.list hq;have hlen:=r'.length;exact Calls.call_len_list pl.isList (by simp only[Xd]<;>omega) ⟨.int ys.length,H,I.tok _,⟨s.toks+1,by rw[Xd,hlen]⟩,q⟩
 ·obtain⟨its,r',pl,hz⟩:=I.tuple hq;have hlen:=r'.length;exact len_tuple pl (by simp only[Xd]<;>omega) ⟨.int ys.length,H,I.tok _,⟨s.toks+1,by rw[Xd,hlen]⟩,q⟩
theorem JJ:W7 X (.builtin "len") (λxs H Q=>∃z,xs=[.str z]/\z.length<=sizeLine/\Q (.int z.length) H):=by
 intro pins s σ H xs us Q I r h;obtain⟨z,rfl,hz,q⟩:=h;obtain⟨u,rfl,t,rfl⟩:=Qed r;have hn:=Qfh;exact len_str (by omega) ⟨.int z.length,H,I.tok _,⟨_,rfl⟩,q⟩
def tyV(K:Xa)(T:String)(x:V)(H:Hp):Prop:=match x with
 | .str _=>T = "str"
 | .int _=>T = "int"
 | .ref p=>(T = "list"/\∃xs,SqL K H p xs)\/(T = "tuple"/\∃o,K.lookup p=some o/\o.cls=.type "tuple"/\o.dict=none)\/
   (T = "dict"/\((∃kvs,H p=some (.dK kvs))\/∃kvs,H p=some (.dT kvs)))\/(T = "set"/\QA λS n=>H p=some (.set S n))
 | _=>False
theorem QoG{pins:List (Addr × Obj)}{σ:St}{H:Hp}{s:Shared}{T:String}{x:V}{v:Value}(I:Inv X pins σ H s)(r:QZ x v)(ty:tyV X.K T x H) :
  s.TypeIs v T/\∀a,v=.ref a->∃ob,s.heap.get? a=some ob/\ob.dict=none:=by
 cases x with
 | str z=>
  obtain⟨t,rfl⟩:=r;cases (show T = "str" from ty);exact⟨typeIs_str s z t,λ_ e=>nomatch e⟩
 | int i=>
  obtain⟨t,rfl⟩:=r;cases (show T = "int" from ty);exact⟨typeIs_int s i t,λ_ e=>nomatch e⟩
 | ref p=>
  cases r;rcases ty with ⟨rfl,xs,hq⟩ | ⟨rfl,o,hk,hc,hd⟩ | ⟨rfl,hk⟩ | ⟨rfl,S,n,hk⟩
  ·obtain⟨its,_,pl,_⟩:=I.list hq;refine⟨pl.isList.typeIs,λa e=>?_⟩;cases e;obtain⟨o,n,e,c,hd,_⟩:=pl;exact⟨o,e,hd⟩
  ·refine⟨⟨o,I.kIn p o hk,hc⟩,λa e=>?_⟩;cases e;exact⟨o,I.kIn _ o hk,hd⟩
  ·have z:∃o,s.heap.get? p=some o/\o.ExactDict:=by
    rcases hk with ⟨kvs,hk⟩ | ⟨kvs,hk⟩
    ·obtain⟨_,_,_,_,o,_,_,e,ex,_⟩:=I.hok p _ hk;exact⟨o,e,ex⟩
    ·obtain⟨_,_,_,_,o,_,_,e,ex,_⟩:=I.hok p _ hk;exact⟨o,e,ex⟩
   obtain⟨o,e,ex⟩:=z;refine⟨⟨o,e,ex.1⟩,λa e2=>?_⟩;cases e2;exact⟨o,e,ex.2.1⟩
  ·obtain⟨o,_,_,_,e,ex,_⟩:=I.hok p _ hk;refine⟨⟨o,e,ex.1⟩,λa e2=>?_⟩;cases e2;exact⟨o,e,ex.2.1⟩
 | _=>exact False.elim ty
abbrev Qs3(K:Xa)(T:String)(r:V->List V->Hp->VK->Prop)(to:TE):TE:=fun σ H Q=>to σ H λx H1=>tyV K T x H1/\r x [] H1 Q
abbrev tBM(K:Xa)(T:String)(r:V->List V->Hp->VK->Prop)(to:TE)(t:TA):TE:=fun σ H Q=>to σ H λx H1=>tyV K T x H1/\t σ H1 λxs H2=>r x xs H2 Q
variable {o e:Expr} {es:List Expr} {to:TE} {t:TA} {name:Str} {apos cpos:Pos} {T id:String} {r:V->List V->Hp->VK->Prop}
theorem Qq3(pa:PlainAttrs T)(slot:Slot T name id)(hty:typeOf (.builtin id)=pure (.type "method_descriptor"))(hm:MtR X id r)(ho:PE X o to)
  (hbase:attributeBase o name X.env (eval o X.env)=eval o X.env:=by rfl) (hline:(apos.endLine==cpos.line)=true:=by rfl):PE X (.Call (.Attribute o name apos) [] [] cpos) (Qs3 X.K T r to):=by
 intro pins s σ H Q I h;refine wpAny_Call_method0_late hbase hline (thn (ho pins s σ H _ I h) λv s1 ⟨x,H1,I1,r1,ty,q1⟩=>?_);obtain⟨h1,h2⟩:=QoG I1 r1 ty;exact⟨T,id,pa,slot,hty,h1,h2,Calls.callWith_builtin rfl (UP (hm pins s1 σ H1 x [] v [] Q I1 r1 .nil q1))⟩
theorem J4(pa:PlainAttrs T)(slot:Slot T name id)(hty:typeOf (.builtin id)=pure (.type "method_descriptor"))(hm:MtR X id r)(ho:PE X o to)(ha:PA X (e::es) t)
  (hbase:attributeBase o name X.env (eval o X.env)=eval o X.env:=by rfl)
  (hfew:((backTo cpos (starEach (e::es) X.env)).all (λx=>!x.1)&&(backToKw cpos (keywordEach [] X.env)).all (λx=>x.1.isSome)
    && decide ((e::es).length+([]:List Keyword).length+(if ([]:List Keyword).isEmpty then 0 else 1)<30))=true:=by rfl)
  (hline:(apos.endLine==cpos.line)=true:=by rfl) (hs:starEach (e::es) X.env=(false,eval e X.env)::starEach es X.env:=by rfl) (hplain:(backTo cpos (starEach es X.env)).any (·.1)=false:=by rfl) :
  PE X (.Call (.Attribute o name apos) (e::es) [] cpos) (tBM X.K T r to t):=by
 intro pins s σ H Q I h;refine wpAny_Call_method_late hbase hfew hline rfl (thn (ho pins s σ H _ I h) λv s1 ⟨x,H1,I1,r1,ty,q1⟩=>?_);obtain⟨h1,h2⟩:=QoG I1 r1 ty;refine⟨T,id,pa,slot,hty,h1,h2,?_⟩;have hA:=ha cpos pins s1 σ H1 _ I1 q1;rw[hs] at hA ⊢;refine Calls.callWith_builtin (by show (false||(backTo cpos (starEach es X.env)).any (·.1))=false;rw[hplain]<;>rfl) (Calls.evalArgs_plain ?_);exact thn hA λus s2 ⟨vs,H2,I2,r2,q2⟩=>hm pins s2 σ H2 x vs v us Q I2 r1 r2 q2
end
def MtM(X:Cx)(id:String)(r:V->List V->Hp->VK->Prop):Prop:=
 ∀(pins:List (Addr × Obj)) (s:Shared) (σ:St) (H:Hp) (x:V) (xs:List V) (v:Value) (us:List Value) (Q:VK),Inv X pins σ H s->QZ x v->QP xs us->r x xs H Q->
  wpAny (model X.prog X.w) X.A (call (.builtin id) (v::us)) (EP X pins σ Q) X.xe s
theorem QP.one:∀{x:V} {us:List Value},QP [x] us->∃u,us=[u]/\QZ x u
 | _,_,.cons r .nil=>⟨_,rfl,r⟩
theorem QP.zero:∀{us:List Value},QP [] us->us=[]
 | _,.nil=>rfl
theorem QP.dropLast{xs:List V}{us:List Value}(h:QP xs us):QP xs.dropLast us.dropLast:=by
 induction h with
 | nil=>exact .nil
 | cons r t ih=>
  cases t with
  | nil=>exact .nil
  | cons q t'=>exact .cons r ih
theorem QP.rep{xs:List V}{us:List Value}(h:QP xs us):∀k:Nat,QP (Xs k xs).flatten (Xs k us).flatten
 | 0=>.nil
 | k+1=>by
  rw[XH,XH,XU,XU];exact QP.append h (QP.rep h k)
theorem Qkb{α:Type}(l:List α):l.eraseIdx (l.length-1)=l.dropLast:=by
 induction l with
 | nil=>rfl
 | cons a r ih=>
  cases r with
  | nil=>rfl
  | cons b r=>
   have e:(a::b::r).length-1=((b::r).length-1)+1:=by
    have h1:(a::b::r).length=r.length+2:=rfl;have h2:(b::r).length=r.length+1:=rfl;omega
   rw[e,List.eraseIdx_cons_succ,ih]
   all_goals rfl
theorem QgT(its:List Value):∀(k:Nat) (acc:List Value),
  U5 (λx1 x2=>x1++x2) acc.toArray (Xs k its.toArray)=(acc++(Xs k its).flatten).toArray
 | 0,acc=>by simp
 | k+1,acc=>by
  have e:acc.toArray++its.toArray=(acc++its).toArray:=by simp
  have e2:(acc++its)++(Xs k its).flatten=acc++(Xs (k+1) its).flatten:=by
   rw[XH,XU,XN]
  rw[<-e2,<-QgT its k (acc++its),<-e,XH,List.foldl_cons]
section
variable {X:Cx} {pins:List (Addr × Obj)} {σ:St} {H:Hp} {s:Shared} {l b:Addr} {xs ys zs:List V}
theorem Inv.lset{its its':List Value}{n:Nat}{f:Array Value->Array Value}{t':Nat}(I:Inv X pins σ H s)(hH:H l=some (.lst xs))
  (e:s.heap.get? l=some { cls:=.type "list",data:=.seq its.toArray n }) (hf:f its.toArray=its'.toArray) (hv:QP ys its') (hz:ys.length<=sizeLine) :
  Inv X pins σ (upd H l (.lst ys)) { s with heap:=s.heap.update l (Obj.mapSeq f),toks:=t' }:=by
 have q:=PySem.IsL.update e f;rw[hf] at q;refine I.write (x:=l) (e:=l) (by rw[hH];exact trivial) (.inl rfl) (λb' u hb hu=>(UC s.heap (Obj.mapSeq f) (Ne.symm hb)).trans hu) ⟨_,q⟩ ?_;exact⟨hz,its',_,hv,q⟩
theorem Inv.lnew{its:List Value}{t':Nat}(I:Inv X pins σ H s)(hv:QP ys its)(hz:ys.length<=sizeLine) :
  Inv X pins σ (upd H s.heap.objs.size (.lst ys)) { s with heap:=s.heap.push { cls:=.type "list",data:=.seq its.toArray },toks:=t' }:=
 I.laid (λ_ _ q=>Xb _ q) (Xe _) ⟨hz,its,0,hv,Xg _ rfl⟩
theorem Inv.fresh(I:Inv X pins σ H s):H s.heap.objs.size=none:=I.hok.fresh (Xe _)
theorem Inv.lstM(I:Inv X pins σ H s)(hH:H l=some (.lst xs)):xs.length<=sizeLine/\QA λ(its:List Value) (n:Nat)=>QP xs its/\xs.length=its.length/\s.heap.get? l=some { cls:=.type "list",data:=.seq its.toArray n }:=by
 obtain⟨z,its,n,r,e⟩:=I.hok l _ hH;exact⟨z,its,n,r,r.length,e⟩
theorem Qjg{n:Nat}(h:n<=sizeLine):Builtin.List.listTooLong n=false:=by
 unfold Builtin.List.listTooLong;exact decide_eq_false (by omega)
end
section
variable {X:Cx}
def QpE:V->List V->Hp->VK->Prop:=λx vs H Q=>JP λl xs y=>x=.ref l/\vs=[y]/\H l=some (.lst xs)/\xs.length<sizeLine/\Q .non (upd H l (.lst (xs++[y])))
theorem ZD:MtM X "list.append" QpE:=by
 intro pins s σ H x vs v us Q I rx rv h;obtain⟨l,xs,y,rfl,rfl,hH,hz,q⟩:=h;cases rx;obtain⟨u,rfl,ru⟩:=rv.one;obtain⟨z,its,n,r,hl,e⟩:=I.lstM hH;refine call_meets F.slot_list_append ⟨_,e,rfl⟩ F.entry_list_append (F.args_list_append_2 _ _) (PySem.list_append l its.toArray n u (by rw[Xd];omega)) ⟨e,?_⟩;refine⟨.non,_,I.lset (its':=its++[u]) hH e (by simp) (r.append (.cons ru .nil)) ?_,rfl,q⟩;rw[Xt,List.length_singleton];omega
def QpF:V->List V->Hp->VK->Prop:=λx vs H Q=>YS λl b xs zs=>x=.ref l/\vs=[.ref b]/\H l=some (.lst xs)/\H b=some (.lst zs)/\xs.length+zs.length<=sizeLine/\Q .non (upd H l (.lst (xs++zs)))
theorem YA:MtM X "list.extend" QpF:=by
 intro pins s σ H x vs v us Q I rx rv h;obtain⟨l,b,xs,zs,rfl,rfl,hH,hB,hz,q⟩:=h;cases rx;obtain⟨u,rfl,ru⟩:=rv.one;cases ru;obtain⟨z,its,n,r,hl,e⟩:=I.lstM hH;obtain⟨z2,its2,n2,r2,hl2,e2⟩:=I.lstM hB;have hsz:its.toArray.size+its2.toArray.size<=sizeLine:=by rw[Xd,Xd];omega
 have hlong:¬(!its.toArray.isEmpty&&Builtin.List.listTooLong (its.toArray.size+its2.toArray.size))=true:=by
  rw[Qjg hsz,Bool.and_false];exact Xc
 refine call_meets F.slot_list_extend ⟨_,e,rfl⟩ F.entry_list_extend (F.args_list_extend_2 _ _)
  (AutoSeq1.list_extend_list_list_0 l its.toArray n b its2.toArray n2 hlong (by rw[Xd];omega) (by omega)) ⟨e,e2,?_⟩
 refine⟨.non,_,I.lset (its':=its++its2) hH e (by simp) (r.append r2) ?_,rfl,q⟩;rw[Xt];omega
def QsV:V->List V->Hp->VK->Prop:=λx vs H Q=>JP λl xs y=>x=.ref l/\vs=[]/\H l=some (.lst xs)/\xs[xs.length-1]?=some y/\Q y (upd H l (.lst xs.dropLast))
theorem QqX:MtM X "list.pop" QsV:=by
 intro pins s σ H x vs v us Q I rx rv h;obtain⟨l,xs,y,rfl,rfl,hH,hy,q⟩:=h;cases rx;have hus:=rv.zero;subst hus;obtain⟨z,its,n,r,hl,e⟩:=I.lstM hH;obtain⟨u,hu,ru⟩:=r.get hy;have hy':its.toArray[its.toArray.size-1]?=some u:=by
  show its.toArray[its.length-1]?=some u;rw[<-Array.getElem?_toList,<-hl];exact hu
 refine call_meets F.slot_list_pop ⟨_,e,rfl⟩ F.entry_list_pop (F.args_list_pop_1 _) (MeetsSeq.list_pop_last l its.toArray n u hy' (by rw[Xd];omega)) ⟨e,?_⟩;refine⟨y,_,I.lset (its':=its.dropLast) hH e ?_ r.dropLast ?_,ru,q⟩
 ·show its.toArray.eraseIdxIfInBounds (its.toArray.size-1)=its.dropLast.toArray;rw[Xd,List.eraseIdxIfInBounds_toArray,Qkb]
 ·rw[List.length_dropLast];omega
def QsT:R2:=λx y H Q=>YS λl b xs zs=>x=.ref l/\y=.ref b/\H l=some (.lst xs)/\H b=some (.lst zs)/\xs.length+zs.length<=sizeLine/\∀p,H p=none->Q (.ref p) (upd H p (.lst (xs++zs)))
theorem Qch:OpR X (binaryOp .Add) QsT:=by
 intro pins s σ H x y v u Q I rx ry h;obtain⟨l,b,xs,zs,rfl,rfl,hH,hB,hz,q⟩:=h;cases rx;cases ry;obtain⟨z,its,n,r,hl,e⟩:=I.lstM hH;obtain⟨z2,its2,n2,r2,hl2,e2⟩:=I.lstM hB;refine PySem.P.add_list e e2 ?_ (by rw[Xd,Xd];omega);have ea:its.toArray++its2.toArray=(its++its2).toArray:=by simp
 rw[ea];exact⟨.ref _,_,I.lnew (t':=s.toks) (r.append r2) (by rw[Xt];omega),rfl,q _ I.fresh⟩
def QsW:R2:=λx y H Q=>JP λl k xs=>x=.ref l/\y=.int k/\H l=some (.lst xs)/\-(2 ^ 63)<=k/\k<2 ^ 63/\xs.length * k.toNat<=sizeLine/\
 ∀p,H p=none->Q (.ref p) (upd H p (.lst (Xs k.toNat xs).flatten))
theorem Qpj{α:Type}(xs:List α)(k:Nat):(Xs k xs).flatten.length=k * xs.length:=by
 induction k with
 | zero=>simp
 | succ k ih=>rw[XH,XU,Xt,ih,Nat.succ_mul,Nat.add_comm]
theorem Qq1:OpR X (binaryOp .Mult) QsW:=by
 intro pins s σ H x y v u Q I rx ry h;obtain⟨l,k,xs,rfl,rfl,hH,h1,h2,hz,q⟩:=h;cases rx;obtain⟨t,rfl⟩:=ry;obtain⟨z,its,n,r,hl,e⟩:=I.lstM hH;have hlen:its.toArray.size * k.toNat<=sizeLine:=by rw[Xd,<-hl];exact hz
 have hcap:¬its.toArray.size * k.toNat > (2 ^ 63-1) / 8:=by
  have:(sizeLine:Nat)<=(2 ^ 63-1) / 8:=by decide
  omega
 have hfit:¬(!Builtin.List.listFitsIndex k)=true:=by
  rw[fitsIndex_both h1 h2];exact Xc
 have hlong:¬Builtin.List.listTooLong (its.toArray.size * k.toNat)=true:=by
  rw[Qjg hlen];exact Xc
 have hnew:U5 (λx1 x2=>x1++x2) #[] (Xs (if its.toArray.isEmpty=true then 0 else k.toNat) its.toArray)=(Xs k.toNat its).flatten.toArray:=by
  have f0:∀m:Nat,U5 (λx1 x2=>x1++x2) #[] (Xs m its.toArray)=(Xs m its).flatten.toArray:=λm=>by
   have:=QgT its m [];rw[XS] at this;exact this
  rw[f0];cases its with
  | nil=>simp
  | cons a r'=>rw[if_neg (by simp)]
 refine wpAny_binaryOp_repeat_ref (T:="list") (U:="int") (by decide) ⟨_,e,rfl⟩ (λs'=>typeIs_int s' k t) noFill_list_mul F.fills_int_mul F.slot_int_rmul repeat_list F.slot_int_index.lookup
  (call_meets F.slot_int_rmul (typeIs_int s k t) F.entry_int_rmul (F.args_int_rmul_2 _ _) (int___rmul___int_list k t l its.toArray n)
    ⟨e,rfl,⟨_,e,rfl⟩,call_meets F.slot_list_mul ⟨_,e,rfl⟩ F.entry_list_mul (F.args_list_mul_2 _ _) (AutoListH.list___mul___list_int_3 l its.toArray n k t hfit hcap hlong) ⟨e,?_⟩⟩)
 rw[hnew];exact⟨.ref _,_,I.lnew (t':=s.toks) (r.rep k.toNat) (by rw[Qpj,Nat.mul_comm];exact hz),rfl,q _ I.fresh⟩
end
theorem QP.ints:∀{ns:List Int} {us:List Value},QP (ns.map V.int) us->IntsAre us ns
 | [],us,h=>by
  rw[X6] at h;cases h;exact IntsAre.nil
 | n::ns,us,h=>by
  rw[Xr] at h;cases h with
  | cons r t=>
   obtain⟨k,rfl⟩:=r;exact IntsAre.cons n k (QP.ints t)
theorem QP.bls:∀{bs:List Bool} {us:List Value},QP (bs.map V.bl) us->us=bs.map Value.bool
 | [],us,h=>by
  rw[X6] at h;cases h;rfl
 | b::bs,us,h=>by
  rw[Xr] at h;cases h with
  | cons r t=>
   cases r;rw[QP.bls t,Xr]
theorem QP.ref1{a:Addr}{us:List Value}(r:QP [V.ref a] us):us=[Value.ref a]:=by
 cases r with
 | cons r t=>
  cases t;cases r;rfl
section
variable {prog:Program} {w:World} {A:Around} {E:Value->Shared->Prop} {s:Shared} {l:Addr} {its:List Value} {ns:List Int} {Q:Value->Shared->Prop}
theorem Qp2(hh:A.handled=none)(hl:s.heap.IsList l its.toArray)(hi:IntsAre its ns)
  (h:∀h' tk t',(∀b o,s.heap.get? b=some o->h'.get? b=some o)->Q (.int ns.sum t') { s with heap:=h',toks:=tk }):wpAny (model prog w) A (call (.builtin "sum") [.ref l]) Q E s:=by
 obtain⟨xs,e⟩:=hi.allInts.items;have hn:numsOf (intItems xs).toList=ns:=by rw[<-e];exact hi.numsOf
 rw[nums_intItems] at hn;rw[e] at hl;refine PySem.sum_intListG hh hl λh' tk t' hk=>?_
 have:=h h' tk t' hk;rw[preSum_eq,XX (by simp),hn];exact this
end
section
variable {X:Cx}
def QsX(K:Xa):List V->Hp->VK->Prop:=λvs H Q=>QA λ(a:Addr) (ns:List Int)=>vs=[V.ref a]/\SqL K H a (ns.map V.int)/\Q (.int ns.sum) H
theorem QqF(hc:X.calm=true):W7 X (.builtin "sum") (QsX X.K):=by
 intro pins s σ H vs us Q I r h;obtain⟨a,ns,rfl,hs,q⟩:=h;obtain⟨its,rv,hl,_⟩:=I.list hs;rw[QP.ref1 r];exact Qp2 (I.ok.hd hc) hl.isList rv.ints λh' tk t' hk=>⟨.int _,H,I.kept hk,⟨_,rfl⟩,q⟩
end
section
variable {X:Cx}
theorem QaD{ys:List V}(f:ys.all Yw=true){j:Nat}{z:V}(h:ys[j]?=some z):Yw z=true:=Up.mp f z (X7 h)
end
theorem Qi2{prog:Program}{w:World}{A:Around}{E:Value->Shared->Prop}{s:Shared}{l:Addr}{items:Array Value}{Q:Value->Shared->Prop}(hl:s.heap.IsList l items)
  (h:∀s₂:Shared,s₂={ s with heap:=s.heap.push { cls:=.type "list_iterator",data:=.fields #[.ref l,.int 0 0] } }->
    (s₂.heap.IsListIter s.heap.objs.size l 0/\s₂.heap.IsList l items)->l≠s.heap.objs.size->Q (.ref s.heap.objs.size) s₂):wpAny (model prog w) A (pyIter (.ref l)) Q E s:=by
 have hlt:l<s.heap.objs.size:=by obtain⟨_,e,_⟩:=hl;exact Xf e
 exact wpAny_pyIter_list hl (h _ rfl ⟨⟨_,Xg _ rfl,rfl,rfl⟩,hl.push _⟩ (Xl hlt))
theorem Qec{prog:Program}{w:World}{A:Around}{bs:List Bool}{its:List Value}(e:its=bs.map Value.bool) :
  TruthOf prog w A (λi v=>its.toArray[i]?=some v) (λi=>bs.getD i false):=λi v s Q E hv hq=>by
 have hv':its[i]?=some v:=by simpa using hv
 rw[e,UW] at hv';obtain⟨b,hb,rfl⟩:=UE.mp hv';have hg:bs.getD i false=b:=by rw[List.getD_eq_getElem?_getD,hb]<;>rfl
 have hq':Q (bs.getD i false) s:=hq;rw[hg] at hq';exact wpAny_truthy_bool hq'
theorem QgH:∀bs:List Bool,(Ul bs.length).any (λi=>bs.getD i false)=bs.any id
 | []=>rfl
 | b::bs=>by
  rw[Xq,UD,XI,List.any_map,XI,<-QgH bs]
  all_goals rfl
theorem QgF:∀bs:List Bool,(Ul bs.length).all (λi=>bs.getD i false)=bs.all id
 | []=>rfl
 | b::bs=>by
  rw[Xq,UD,Ug,List.all_map,Ug,<-QgF bs]
  all_goals rfl
section
variable {X:Cx}
def QsS(K:Xa):List V->Hp->VK->Prop:=λvs H Q=>QA λ(a:Addr) (bs:List Bool)=>vs=[V.ref a]/\SqL K H a (bs.map V.bl)/\Q (.bl (bs.any id)) H
def Qr9(K:Xa):List V->Hp->VK->Prop:=λvs H Q=>QA λ(a:Addr) (bs:List Bool)=>vs=[V.ref a]/\SqL K H a (bs.map V.bl)/\Q (.bl (bs.all id)) H
theorem Qnm(hc:X.calm=true):W7 X (.builtin "any") (QsS X.K):=by
 intro pins s σ H vs us Q I r h;obtain⟨a,bs,rfl,hs,q⟩:=h;obtain⟨its,rv,hl,_⟩:=I.list hs;rw[QP.ref1 r];have hb:=rv.bls;refine call_any_walk (Qi2 hl.isList λs₂ e2 st hne=>?_);subst e2;refine⟨_,_,_,_,_,_,_,rfl,Walks.list (A:=X.A.in1) (I.ok.hd hc) _ a hne its.toArray,st,Qec hb,λh' tk hk=>?_⟩;refine⟨.bl _,H,I.kept λb o eo=>hk b o (λhmem=>?_) (Xb _ eo),?_,q⟩
 ·rcases Xj.mp hmem with e1 | hmem
  ·exact absurd (e1 ▸ Xf eo) (Xy _)
  ·cases hmem
 ·show Value.bool _=Value.bool _;rw[<-QgH,hb,Xd,XA]
theorem QaB(hc:X.calm=true):W7 X (.builtin "all") (Qr9 X.K):=by
 intro pins s σ H vs us Q I r h;obtain⟨a,bs,rfl,hs,q⟩:=h;obtain⟨its,rv,hl,_⟩:=I.list hs;rw[QP.ref1 r];have hb:=rv.bls;refine call_all_walk (Qi2 hl.isList λs₂ e2 st hne=>?_);subst e2;refine⟨_,_,_,_,_,_,_,rfl,Walks.list (A:=X.A.in1) (I.ok.hd hc) _ a hne its.toArray,st,Qec hb,λh' tk hk=>?_⟩;refine⟨.bl _,H,I.kept λb o eo=>hk b o (λhmem=>?_) (Xb _ eo),?_,q⟩
 ·rcases Xj.mp hmem with e1 | hmem
  ·exact absurd (e1 ▸ Xf eo) (Xy _)
  ·cases hmem
 ·show Value.bool _=Value.bool _;rw[<-QgF,hb,Xd,XA]
end
mutual
inductive Dp(K:Xa)(H:Hp):V->PyData->Prop
 | non:Dp K H .non .none
 | bl (b:Bool):Dp K H (.bl b) (.bool b)
 | int (i:Int):Dp K H (.int i) (.int i)
 | str (x:Str):Dp K H (.str x) (.str x)
 | lst {a:Addr} {xs:List V} {ds:List PyData}:SqL K H a xs->QdK K H xs ds->Dp K H (.ref a) (.list ds)
 | tup {a:Addr} {xs:List V} {ds:List PyData}:SqT K H a xs->QdK K H xs ds->Dp K H (.ref a) (.tuple ds)
inductive QdK(K:Xa)(H:Hp):List V->List PyData->Prop
 | nil:QdK K H [] []
 | cons {v:V} {vs:List V} {d:PyData} {ds:List PyData}:Dp K H v d->QdK K H vs ds->QdK K H (v::vs) (d::ds)
end
section
variable {X:Cx} {pins:List (Addr × Obj)} {σ:St} {H:Hp} {s:Shared}
mutual
theorem Dp.reads(I:Inv X pins σ H s):∀(d:PyData) (v:V) (u:Value),Dp X.K H v d->QZ v u->∃as,Reads s.heap u d as
 | .none,_,_,h,r=>by
  cases h;cases r;exact⟨_,Reads.none⟩
 | .bool b,_,_,h,r=>by
  cases h;cases r;exact⟨_,Reads.bool b⟩
 | .int i,_,_,h,r=>by
  cases h;obtain⟨t,rfl⟩:=r;exact⟨_,Reads.int i t⟩
 | .str x,_,_,h,r=>by
  cases h;obtain⟨t,rfl⟩:=r;exact⟨_,Reads.str x t⟩
 | .list ds,_,_,h,r=>by
  cases h with
  | lst hs ha=>
   cases r;obtain⟨its,rv,⟨o,n,ho,hc,_,hd⟩,_⟩:=I.list hs;obtain⟨as,hr⟩:=Dp.readsAll I ds _ its ha rv;exact⟨_,Reads.list ho hc hd hr⟩
 | .tuple ds,_,_,h,r=>by
  cases h with
  | tup hs ha=>
   cases r;obtain⟨its,rv,⟨o,ho,hc,n,hd⟩,_⟩:=I.tuple hs;obtain⟨as,hr⟩:=Dp.readsAll I ds _ its ha rv;exact⟨_,Reads.tuple ho hc hd hr⟩
 | .dict _,_,_,h,_=>by cases h
theorem Dp.readsAll(I:Inv X pins σ H s):∀(ds:List PyData) (vs:List V) (us:List Value),QdK X.K H vs ds->QP vs us->∃as,ReadsAll s.heap us ds as
 | [],_,_,h,r=>by
  cases h;cases r;exact⟨_,ReadsAll.nil⟩
 | d::ds,_,_,h,r=>by
  cases h with
  | cons h1 h2=>
   cases r with
   | cons r1 r2=>
    obtain⟨as,q1⟩:=Dp.reads I d _ _ h1 r1;obtain⟨bs,q2⟩:=Dp.readsAll I ds _ _ h2 r2;exact⟨_,ReadsAll.cons q1 q2⟩
end
end
section
variable {X:Cx}
def Qq8(K:Xa):R2:=λx y H Q=>QA λd e=>Dp K H x d/\Dp K H y e/\SeqAt.shaped d=true/\SeqAt.shaped e=true/\Q (.bl (PyData.eqv d e)) H
def QsU(K:Xa):R2:=λx y H Q=>QA λd e=>Dp K H x d/\Dp K H y e/\SeqAt.shaped d=true/\SeqAt.shaped e=true/\Q (.bl (!PyData.eqv d e)) H
theorem Qh2(hu:X.A.units+64<cLine):OpR X (compareOp .Eq) (Qq8 X.K):=by
 intro pins s σ H x y v u Q I rx ry h;obtain⟨d,e,hd,he,sd,se,q⟩:=h;obtain⟨as,r1⟩:=Dp.reads I d x v hd rx;obtain⟨bs,r2⟩:=Dp.reads I e y u he ry;exact SeqAt.compareEq_shaped r1 r2 sd se hu ⟨.bl _,H,I,rfl,q⟩
theorem Qh3(hu:X.A.units+64<cLine):OpR X (compareOp .NotEq) (QsU X.K):=by
 intro pins s σ H x y v u Q I rx ry h;obtain⟨d,e,hd,he,sd,se,q⟩:=h;obtain⟨as,r1⟩:=Dp.reads I d x v hd rx;obtain⟨bs,r2⟩:=Dp.reads I e y u he ry;exact SeqAt.compareNe_shaped r1 r2 sd se hu ⟨.bl _,H,I,rfl,q⟩
end
abbrev Qng(h:Heap)(c:Addr)(v:Option Value):Prop:=h.IsCell c v
def QsY(scope sc:Scope):Scope:=
 { scope with names:=scope.names.map λ(n,k)=>if (k==.free&&sc.kind==.function&&sc.names.lookup n==some .cell) then (n,.cell) else (n,k) }
def Jz(cells:List (Str × Addr)):List (Str × NameKind)->List (Str × Addr)->List (Str × Addr)
 | [],acc=>acc
 | (n,k)::r,acc=>if k==.free then Jz cells r ((n,(cells.lookup n).getD 0)::acc) else Jz cells r acc
theorem Qcy(env:Env)(f:Str × NameKind->List (Str × Addr)->Sem (ForInStep (List (Str × Addr))))
  (hf:∀n k c,f (n,k) c=if k==.free then (do let a <-cellOf env n;pure (.yield ((n,a)::c))) else pure (.yield c)) :
  ∀(names:List (Str × NameKind)) (acc:List (Str × Addr)),(∀y ∈ names,y.2=.free->∃c,env.cells.lookup y.1=some c)->forIn names acc f=pure (Jz env.cells names acc)
 | [],acc,_=>by rw[Xaa];rfl
 | (n,k)::r,acc,h=>by
  rw[List.forIn_cons,hf];have ih:=λacc=>Qcy env f hf r acc λy hy=>h y (Xh _ hy)
  unfold Jz
  by_cases hk:(k==NameKind.free)=true
  ·rw[if_pos hk,if_pos hk];obtain⟨c,hc⟩:=h (n,k) Xn (by simpa using hk);have e:cellOf env n=pure c:=by unfold cellOf;rw[hc]
   rw[e];have e2:(env.cells.lookup n).getD 0=c:=by rw[hc];rfl
   rw[e2];exact ih _
  ·rw[if_neg hk,if_neg hk];exact ih _
theorem Qj7{scope:Scope}{env:Env}(h:∀y ∈ scope.names,y.2=.free->∃c,env.cells.lookup y.1=some c):closureFor scope env=pure (Jz env.cells scope.names []):=by
 simp only[closureFor];rw[Qcy env _ (λn k c=>rfl) scope.names [] h];rfl
theorem Qcc{α:Type}:∀{l:List (Str × α)} {n:Str} {c:α},(n,c) ∈ l->∃c',l.lookup n=some c'
 | (k,v)::r,n,c,h=>by
  rw[XF];cases hb:n==k with
  | true=>exact⟨_,rfl⟩
  | false=>
   rcases Xj.mp h with e | h
   ·cases e;simp at hb
   ·exact Qcc h
theorem WC{cells:List (Str × Addr)}:∀{names:List (Str × NameKind)} {acc:List (Str × Addr)} {n:Str} {c:Addr},(n,c) ∈ Jz cells names acc->(n,c) ∈ acc\/((n,.free) ∈ names/\c=(cells.lookup n).getD 0)
 | [],_,_,_,h=>.inl h
 | (m,k)::r,acc,n,c,h=>by
  unfold Jz at h
  split at h
  ·rename_i hk
   have hk:k=.free:=by simpa using hk
   rcases WC h with h | ⟨h1,h2⟩
   ·rcases Xj.mp h with e | h
    ·cases e;exact .inr ⟨hk ▸ Xn,rfl⟩
    ·exact .inl h
   ·exact .inr ⟨Xh _ h1,h2⟩
  ·rcases WC h with h | ⟨h1,h2⟩
   ·exact .inl h
   ·exact .inr ⟨Xh _ h1,h2⟩
theorem Qbf{cells:List (Str × Addr)}:∀{names:List (Str × NameKind)} {acc:List (Str × Addr)} {p:Str × Addr},p ∈ acc->p ∈ Jz cells names acc
 | [],_,_,h=>h
 | (m,k)::r,acc,p,h=>by
  unfold Jz
  split
  ·exact Qbf (Xh _ h)
  ·exact Qbf h
theorem Qbg{cells:List (Str × Addr)}:∀{names:List (Str × NameKind)} {acc:List (Str × Addr)} {n:Str},(n,.free) ∈ names->(n,(cells.lookup n).getD 0) ∈ Jz cells names acc
 | (m,k)::r,acc,n,h=>by
  unfold Jz;rcases Xj.mp h with e | h
  ·cases e;exact Qbf Xn
  ·split
   ·exact Qbg h
   ·exact Qbg h
theorem Qac:∀{names:List (Str × NameKind)} {h:Heap} {acc:List (Str × Addr)} {x:Str} {c:Addr},(x,c) ∈ cellsFrom h.objs.size names acc->
  (x,c) ∈ acc\/((x,.cell) ∈ names/\h.objs.size<=c/\Qng (pushCells h names) c none)
 | [],_,_,_,_,h=>.inl h
 | (n,k)::r,h,acc,x,c,hm=>by
  unfold cellsFrom at hm;unfold pushCells
  split at hm
  ·rename_i hk
   rw[if_pos hk];have hk:k=.cell:=by simpa using hk
   rw[<-Xu h { cls:=.type "cell",data:=.cell none }] at hm;rcases Qac hm with hm | ⟨h1,h2,h3⟩
   ·rcases Xj.mp hm with e | hm
    ·cases e;exact .inr ⟨hk ▸ Xn,Xe _,_,pushCells_keeps r _ _ _ (Xg _ rfl),rfl⟩
    ·exact .inl hm
   ·rw[Xu] at h2;exact .inr ⟨Xh _ h1,XV h2,h3⟩
  ·rename_i hk
   rw[if_neg hk];rcases Qac hm with hm | ⟨h1,h2,h3⟩
   ·exact .inl hm
   ·exact .inr ⟨Xh _ h1,h2,h3⟩
theorem QbF:∀{names:List (Str × NameKind)} {n:Nat} {acc:List (Str × Addr)} {p:Str × Addr},p ∈ acc->p ∈ cellsFrom n names acc
 | [],_,_,_,h=>h
 | (m,k)::r,n,acc,p,h=>by
  unfold cellsFrom
  split
  ·exact QbF (Xh _ h)
  ·exact QbF h
theorem Qde:∀{names:List (Str × NameKind)} {n:Nat} {acc:List (Str × Addr)} {x:Str},(x,.cell) ∈ names->∃c,(x,c) ∈ cellsFrom n names acc
 | (m,k)::r,n,acc,x,h=>by
  unfold cellsFrom;rcases Xj.mp h with e | h
  ·cases e;exact⟨n,QbF Xn⟩
  ·split
   ·exact Qde h
   ·exact Qde h
theorem Qdf:∀{names:List (Str × NameKind)} {h:Heap} {acc:List (Str × Addr)} {x y:Str} {c:Addr},(∀p ∈ acc,p.2<h.objs.size)->(∀x y c,(x,c) ∈ acc->(y,c) ∈ acc->x=y)->
  (x,c) ∈ cellsFrom h.objs.size names acc->(y,c) ∈ cellsFrom h.objs.size names acc->x=y
 | [],_,_,_,_,_,_,hi,h1,h2=>hi _ _ _ h1 h2
 | (n,k)::r,h,acc,x,y,c,hl,hi,h1,h2=>by
  unfold cellsFrom at h1 h2
  split at h1
  ·rename_i hk
   rw[if_pos hk] at h2;rw[<-Xu h { cls:=.type "cell",data:=.cell none }] at h1 h2;refine Qdf (h:=h.push _) (λp hp=>?_) (λx y c a b=>?_) h1 h2
   ·rw[Xu];rcases Xj.mp hp with rfl | hp
    ·exact Uq _
    ·exact Uh (hl p hp)
   ·rcases Xj.mp a with e | a<;>rcases Xj.mp b with e' | b
    ·cases e;cases e';rfl
    ·cases e;exact absurd (hl _ b) (Xy _)
    ·cases e';exact absurd (hl _ a) (Xy _)
    ·exact hi _ _ _ a b
  ·rename_i hk
   rw[if_neg hk] at h2;exact Qdf hl hi h1 h2
theorem Qje{M:Model}{A:Around}{E:Value->Shared->Prop}{s:Shared}{scope:Scope}{globals:Addr}{closure:List (Str × Addr)}{qual:Str}{func:Option Addr}{code:Value}{around:Env}{builtins:Addr}{Q:Env->Shared->Prop}
  (h:Q (newEnv scope s.heap.objs.size globals (cellsFrom (s.heap.objs.size+1) scope.names closure) qual func code (some around) builtins)
    { s with heap:=pushCells (s.heap.push { cls:=.type "dict",data:=.dict #[] }) scope.names }) :
  wpAny M A (newFunctionEnv scope globals closure [] qual func code (some around) builtins) Q E s:=by
 simp only[newFunctionEnv,UU,if_true];refine wpAny_bind (wpAny_alloc ?_);refine wpAny_bind (wpAny_layCells _ (λn k c=>rfl) scope.names closure _ _ ?_);rw[show ({ s with heap:=s.heap.push { cls:=.type "dict",data:=.dict #[] } }:Shared).heap.objs.size=s.heap.objs.size+1 from Xu ..];rw[Xaa];exact wpAny_bind (wpAny_pure (wpAny_pure h))
theorem Qbn{sc:Scope}:∀{names:List (Str × NameKind)} {x:Str} {k:NameKind},
  (names.map λ(n,k)=>if (k==NameKind.free&&sc.kind==.function&&sc.names.lookup n==some .cell) then (n,NameKind.cell) else (n,k)).lookup x=some k->
  ∃k',names.lookup x=some k'/\(k=k'\/(k'=.free/\k=.cell))
 | [],_,_,h=>by simp at h
 | (n,k₀)::r,x,k,h=>by
  have ih:=@Qbn sc r x k;have h':XL x ((if (k₀==NameKind.free&&sc.kind==.function&&sc.names.lookup n==some .cell)=true then (n,NameKind.cell) else (n,k₀))::(r.map _))=some k:=h;cases hx:x==n with
  | true=>
   simp only[XF,hx]
   by_cases hc:(k₀==NameKind.free&&sc.kind==.function&&sc.names.lookup n==some .cell)=true
   ·rw[if_pos hc] at h';simp only[XF,hx] at h';cases h';simp only[XZ,beq_iff_eq] at hc;exact⟨k₀,rfl,.inr ⟨hc.1.1,rfl⟩⟩
   ·rw[if_neg hc] at h';simp only[XF,hx] at h';cases h';exact⟨_,rfl,.inl rfl⟩
  | false=>
   simp only[XF,hx]
   by_cases hc:(k₀==NameKind.free&&sc.kind==.function&&sc.names.lookup n==some .cell)=true
   ·rw[if_pos hc] at h';simp only[XF,hx] at h';exact ih h'
   ·rw[if_neg hc] at h';simp only[XF,hx] at h';exact ih h'
structure Qiu(N:List Str)(sc scope:Scope)(own:List (Str × Nat)):Prop where
 kind:scope.kind=.function
 uniq:∀y ∈ scope.names,scope.names.lookup y.1=some y.2
 ix:∀p ∈ own,N[p.2]?=some p.1
 free:∀y ∈ scope.names,y.2=.free->sc.names.lookup y.1=some .cell\/sc.names.lookup y.1=some .free
 own:∀y ∈ scope.names,y.2=.local\/y.2=.cell->y.1 ∈ own.map (·.1)\/y.1 ∉ N
def Z8(σ:St):List Nat->St
 | []=>σ
 | v::vs=>(Z8 σ vs).set v none
theorem QbD(σ:St):∀vs:List Nat,(Z8 σ vs).length=σ.length
 | []=>rfl
 | v::vs=>by unfold Z8;rw[U6,QbD σ vs]
theorem QdH{σ:St}{i:Nat}{x:V}:∀{vs:List Nat},(Z8 σ vs)[i]?=some (some x)->σ[i]?=some (some x)/\i ∉ vs
 | [],h=>⟨h,by simp⟩
 | v::vs,h=>by
  unfold Z8 at h
  by_cases hi:v=i
  ·subst hi
   by_cases hv:v<(Z8 σ vs).length
   ·rw[XW hv] at h;cases h
   ·rw[UG (by simpa using hv)] at h;cases h
  ·rw[X4 hi] at h;obtain⟨h1,h2⟩:=QdH h;exact⟨h1,by simp only[Xj,not_or];exact⟨λe=>hi e.symm,h2⟩⟩
abbrev Cx.blk(X:Cx)(s:Shared)(H:Hp)(scope:Scope)(cenv:Env)(fp:List Addr):Cx:={ X with s_0:=s,H_0:=H,env:=cenv,outer:=X.stack,ex:=fp,fn:=λx=>scope.names.lookup x==some .cell,pn:=[],xe:=λ_ _=>False }
section
variable {X:Cx} {pins:List (Addr × Obj)} {σ:St} {H:Hp} {s:Shared}
theorem Qiz{scope:Scope}{own:List (Str × Nat)}{fp:List Addr}(I:Inv X pins σ H s)(ok:Qiu X.N X.env.scope scope own)(hN:X.N.Nodup)(hfp:∀b ∈ fp,Qef X pins H b/\b<s.heap.objs.size) :
  Inv (X.blk s H scope (compEnvC scope (cellsFrom (s.heap.objs.size+1) scope.names (Jz X.env.cells scope.names [])) s.heap.objs.size X.env) fp) [] (Z8 σ (own.map (·.2))) H { s with heap:=pushCells (s.heap.push { cls:=.type "dict",data:=.dict #[] }) scope.names }:=by
 have hfree:∀y ∈ scope.names,y.2=.free->∃c,X.env.cells.lookup y.1=some c:=λy hy e=>by
  rcases ok.free y hy e with k | k
  ·exact I.ok.has _ (.inl k)
  ·exact I.ok.has _ (.inr k)
 generalize hcenv:compEnvC scope (cellsFrom (s.heap.objs.size+1) scope.names (Jz X.env.cells scope.names [])) s.heap.objs.size X.env=cenv;have kp:∀b o,s.heap.get? b=some o->(pushCells (s.heap.push { cls:=.type "dict",data:=.dict #[] }) scope.names).get? b=some o:=λb o e=>pushCells_keeps _ _ _ _ (Xb _ e)
 have hL:cenv.locals=s.heap.objs.size:=by rw[<-hcenv];rfl
 have hcl:cenv.cells=cellsFrom (s.heap.objs.size+1) scope.names (Jz X.env.cells scope.names []):=by rw[<-hcenv];rfl
 have hsc:cenv.scope=QsY scope X.env.scope:=by rw[<-hcenv];rfl
 rw[<-Xu s.heap { cls:=.type "dict",data:=.dict #[] }] at hcl;have cm:∀{y c},(y,c) ∈ Jz X.env.cells scope.names []->X.env.cells.lookup y=some c/\c<s.heap.objs.size:=λ{y c} hm=>by
  rcases WC hm with hm | ⟨h1,rfl⟩
  ·cases hm
  ·obtain⟨c,hc⟩:=hfree _ h1 rfl;rw[hc];obtain⟨w,z⟩:=I.cell _ _ hc;exact⟨rfl,z.lt⟩
 have mem:∀{y c},cenv.cells.lookup y=some c->(X.env.cells.lookup y=some c/\c<s.heap.objs.size)\/(s.heap.objs.size+1<=c/\Qng (pushCells (s.heap.push { cls:=.type "dict",data:=.dict #[] }) scope.names) c none):=λ{y c} e=>by
  rw[hcl] at e;rcases Qac (Xk e) with hm | ⟨_,h2,h3⟩
  ·exact .inl (cm hm)
  ·rw[Xu] at h2;exact .inr ⟨h2,h3⟩
 have look:∀{y},scope.names.lookup y=some .free->∃c,cenv.cells.lookup y=some c/\X.env.cells.lookup y=some c:=λ{y} hl=>by
  have hy:(y,NameKind.free) ∈ scope.names:=Xk hl;obtain⟨c',e'⟩:=Qcc (QbF (names:=scope.names) (n:=(s.heap.push { cls:=.type "dict",data:=.dict #[] }).objs.size) (Qbg (cells:=X.env.cells) (acc:=[]) hy));rw[<-hcl] at e';refine⟨c',e',?_⟩;rw[hcl] at e';rcases Qac (Xk e') with hm | ⟨h1,_,_⟩
  ·exact (cm hm).1
  ·have:=ok.uniq _ h1;rw[hl] at this;cases this
 have okB:(X.blk s H scope cenv fp).Ok:=by
  refine⟨I.ok.mod,by show cenv.scope.kind=_;rw[hsc];exact ok.kind,by show cenv.globals=_;rw[<-hcenv];exact I.ok.glob,by show cenv.builtins=_;rw[<-hcenv];exact I.ok.blt,by show s.heap.objs.size<=cenv.locals;rw[hL];exact Xe _,
   λy z c e1 e2=>?_,λy hy=>?_,λy c z e=>?_,I.ok.hd,I.ok.frames,.inl rfl,λb hb=>⟨?_,λy c e z=>?_⟩,I.bs,Xo I.ok.bsz I.sz,λb o e hb=>?_,λb hb z=>?_,I.stack,I.stkFree⟩
  ·have e1:cenv.cells.lookup y=some c:=e1;have e2:cenv.cells.lookup z=some c:=e2;rw[hcl] at e1 e2;refine Qdf (λp hp=>?_) (λy z c a b=>I.ok.inj y z c (cm a).1 (cm b).1) (Xk e1) (Xk e2);rw[Xu];exact Uh (cm (y:=p.1) (c:=p.2) hp).2
  ·show ∃c,cenv.cells.lookup y=some c;have key:∀k,cenv.kindOf y=some k->(k=.cell\/k=.free)->∃c,cenv.cells.lookup y=some c:=λk hk hk'=>by
    unfold Env.kindOf at hk;rw[hsc] at hk;obtain⟨k',e,r⟩:=Qbn hk;have:k'=.cell\/k'=.free:=by
     rcases r with rfl | ⟨rfl,_⟩
     ·exact hk'
     ·exact .inr rfl
    rcases this with rfl | rfl
    ·obtain⟨c,hm⟩:=Qde (n:=(s.heap.push { cls:=.type "dict",data:=.dict #[] }).objs.size) (acc:=Jz X.env.cells scope.names []) (Xk e);obtain⟨c',e'⟩:=Qcc hm;exact⟨c',by rw[hcl];exact e'⟩
    ·obtain⟨c,h1,_⟩:=look e;exact⟨c,h1⟩
   rcases hy with hy | hy
   ·exact key _ hy (.inl rfl)
   ·exact key _ hy (.inr rfl)
  ·have z:(scope.names.lookup y==some NameKind.cell)=true:=z;have z:scope.names.lookup y=some .cell:=by simpa using z
   have e:cenv.cells.lookup y=some c:=e;rw[hcl] at e;rcases Qac (Xk e) with hm | ⟨_,h2,_⟩
   ·rcases WC hm with hm | ⟨h1,_⟩
    ·cases hm
    ·have q:=ok.uniq _ h1;rw[z] at q;cases q
   ·rw[Xu] at h2;exact XV h2
  ·show b≠cenv.locals;rw[hL];exact Xl (hfp b hb).2
  ·have e:cenv.cells.lookup y=some c:=e;rcases mem e with ⟨h1,_⟩ | ⟨h1,_⟩
   ·exact (hfp b hb).1.2.2.2.2.1 y c h1 z
   ·have h2:s.heap.objs.size+1<=b:=by rw[<-z];exact h1
    exact absurd (Xi (hfp b hb).2 (XV h2)) (Xy _)
  ·rcases (hfp b hb).1.2.2.2.1 with z | z
   ·exact I.ok.noex b o e z
   ·exact absurd (Xi (Xf e) (Xo I.ok.bsz z)) (Xy _)
  ·rcases Xj.mp (I.stkSub b z) with z | z
   ·exact (hfp b hb).1.2.1 z
   ·exact (hfp b hb).1.2.2.1 z
 refine⟨okB,rfl,I.bare,Un.kept kp,⟨λ_=>none,?_,λi y av e1 e2 e3=>?_⟩,λy c e=>?_,?_,λy c e=>?_,λp hp=>?_,I.hok.kept kp,by rw[QbD];exact I.len⟩
 ·show Heap.Ns _ cenv.locals _;rw[hL];exact Heap.Ns.keeps (Heap.Ns.new ..) λb o e=>pushCells_keeps _ _ _ _ e
 ·obtain⟨e2,hne⟩:=QdH e2;have hfr:scope.names.lookup y=some .free/\(cenv.kindOf y=some .cell\/cenv.kindOf y=some .free):=by
   have key:∀k,cenv.scope.names.lookup y=some k->k=.local\/k=.cell\/k=.free->scope.names.lookup y=some .free/\(cenv.kindOf y=some .cell\/cenv.kindOf y=some .free):=λk hk hk'=>by
    have hk0:=hk;rw[hsc] at hk;obtain⟨k',e,r⟩:=Qbn hk;have no:¬(k'=.local\/k'=.cell):=λhh=>by
     rcases ok.own _ (Xk e) hh with e' | e'
     ·obtain⟨p,hp,hpy⟩:=US.mp e';have e3:=ok.ix p hp;have:p.1=y:=hpy;rw[this] at e3;exact hne (US.mpr ⟨p,hp,Qfq hN e3 e1⟩)
     ·exact e' (X7 e1)
    rcases r with rfl | ⟨rfl,rfl⟩
    ·rcases hk' with rfl | rfl | rfl
     ·exact absurd (.inl rfl) no
     ·exact absurd (.inr rfl) no
     ·exact⟨e,.inr hk0⟩
    ·exact⟨e,.inl hk0⟩
   have e3:Vis cenv.scope y:=e3;rcases e3 with e3 | e3 | e3
   ·exact key _ e3 (.inl rfl)
   ·exact key _ e3 (.inr (.inl rfl))
   ·exact key _ e3 (.inr (.inr rfl))
  obtain⟨m,hn,hl⟩:=I.loc;have hvis:Vis X.env.scope y:=(ok.free _ (Xk hfr.1) rfl).elim (λk=>.inr (.inl k)) (λk=>.inr (.inr k));obtain⟨w,r,q⟩:=hl i y av e1 e2 hvis;refine⟨w,r,.inr ⟨hfr.2,?_⟩⟩;obtain⟨c,h1,h2⟩:=look hfr.1;rcases q with ⟨k,_⟩ | ⟨_,c',e',z⟩
  ·have k:X.env.scope.names.lookup y=some .local:=k;rcases ok.free _ (Xk hfr.1) rfl with k' | k'<;>rw[show X.env.scope.names.lookup y=_ from k'] at k<;>cases k
  ·rw[h2] at e';cases e';exact⟨c,h1,z.keeps kp⟩
 ·have e:cenv.cells.lookup y=some c:=e;rcases mem e with ⟨h1,_⟩ | ⟨_,z⟩
  ·obtain⟨w,z⟩:=I.cell y c h1;exact⟨w,z.keeps kp⟩
  ·exact⟨_,z⟩
 ·show H cenv.locals=none;rw[hL];exact I.hok.fresh (Xe _)
 ·have e:cenv.cells.lookup y=some c:=e;rcases mem e with ⟨h1,_⟩ | ⟨h1,_⟩
  ·exact I.freeC y c h1
  ·exact I.hok.fresh (XV h1)
 ·exact absurd (show p ∈ ([]:List (Addr × Obj))++[] from hp) (by simp)
theorem QqB{E:Value->Shared->Prop}{D:Addr}{xs:List V}{y:V}{v:Value}{Q:Value->Shared->Prop}(I:Inv X pins σ H s)(hD:H D=some (.lst xs))(hz:xs.length<sizeLine)(r:QZ y v)
  (h:∀s',Inv X pins σ (upd H D (.lst (xs++[y]))) s'->Q .none s'):wpAny (model X.prog X.w) X.A (call (.builtin "list.append") [.ref D,v]) Q E s:=by
 obtain⟨hz',its,n,ri,e⟩:=I.hok D _ hD;have hl:=ri.length;refine append_at (hsz:=by rw[Xd];omega) e λh' sb ho'=>?_
 refine h { s with heap:=h' } (I.write (t':=s.toks) (by rw[hD];trivial) (.inl rfl) (λb u hb q=>(sb.2 b hb).trans q) ⟨_,ho'⟩ ⟨by rw[Xt];exact hz,its++[v],n+1,ri.append (.cons r .nil),?_⟩);rw[ho'];simp
def PTs(X:Cx)(ifs:List Expr)(t:TT):Prop:=
 ∀(pins:List (Addr × Obj)) (s:Shared) (σ:St) (H:Hp) (Q:Bool->Hp->Prop),Inv X pins σ H s->t σ H Q->
  wpAny (model X.prog X.w) X.A (forIn ifs true λc r=>if r=true then do let ok <-isTrue c X.env (eval c X.env);pure (ForInStep.yield ok) else pure (ForInStep.yield r)) (TP X pins σ Q) X.xe s
abbrev Qss:TT:=λ_ H Q=>Q true H
theorem Jo:PTs X [] Qss:=λ_ _ _ H _ I h=>wpAny_tests_nil ⟨H,I,h⟩
theorem YM{c:Expr}{t:TT}(h:PT X c t):PTs X [c] t:=λpins s σ H Q I hw=>wpAny_tests_one (h pins s σ H Q I hw)
end
theorem Qm1{α:Type}{t:Sem α}{Q Q':α->Shared->Prop}{M:Model}{A:Around}{E:Value->Shared->Prop}{s:Shared}(h:wpAny M A t Q (λ_ _=>False) s)(hQ:∀a s,Q a s->Q' a s):wpAny M A t Q' E s:=wpAny_mono h hQ λ_ _ z=>False.elim z
theorem QhC{prog:Program}{w:World}{A:Around}{R:Result->Shared->Prop}{s:Shared}{elt target iter:Expr}{ifs:List Expr}{scope:Scope}{pos:Pos}{it acc:Value}{env:Env}(I:Nat->Shared->Prop)
  (turn:∀n s,I n s->wpAny (model prog w) A (pyNext it) (λr s₁=>match r with
    | none=>R (.ok .next) s₁
    | some v=>wpAny (model prog w) A (letOwnedTupleGo target it v) (λ_ s₁'=>wpAny (model prog w) A (assign target env v) (λ_ s₂=>
      wpAny (model prog w) A (forIn ifs true λc r=>if r=true then do let ok <-isTrue c env (eval c env);pure (ForInStep.yield ok) else pure (ForInStep.yield r)) (λok s₃=>
       if ok=true then wpAny (model prog w) A (eval elt env) (λx s₄=>
        wpAny (model prog w) A (call (.builtin "list.append") [acc,x]) (λ_ s₅=>∃m,m<n/\I m s₅) (notedBy (model prog w) A env λe s'=>R (.error e) s') s₄) (notedBy (model prog w) A env λe s'=>R (.error e) s') s₃
       else ∃m,m<n/\I m s₃) (notedBy (model prog w) A env λe s'=>R (.error e) s') s₂) (notedBy (model prog w) A env λe s'=>R (.error e) s') s₁') (notedBy (model prog w) A env λe s'=>R (.error e) s') s₁) (notedBy (model prog w) A env λe s'=>R (.error e) s') s)
  (n:Nat) (h:I n s) :
  codeAny (model prog w) A (.compLoop (.ListComp elt [⟨target,iter,ifs,0⟩] scope pos) 0 it acc env) R s:=by
 refine codeAny_loop rfl I (λn s hI=>?_) n h;show wpAny _ A ((compTurn (.ListComp elt [⟨target,iter,ifs,0⟩] scope pos) 0 it acc env).onRaise (λx=>do noteFrame x env;theTreesLotGoes x)) _ _ s;refine wpAny_noted ?_;rw[compTurn_list];refine wpAny_bind (wpAny_standAt (wpAny_bind (wpAny_mono (turn n s hI) (λr s₁ h₁=>?_) λ_ _ h'=>h')));cases r with
 | none=>exact wpAny_pure h₁
 | some v=>
  refine wpAny_bind (wpAny_mono h₁ (λ_ s₁' h₁'=>?_) λ_ _ h'=>h');refine wpAny_bind (wpAny_mono h₁' (λ_ s₂ h₂=>wpAny_bind (wpAny_mono h₂ (λok s₃ h₃=>?_) λ_ _ h'=>h')) λ_ _ h'=>h');cases ok with
  | false=>exact wpAny_pure ⟨rfl,h₃⟩
  | true=>
   exact wpAny_bind (wpAny_bind (wpAny_mono h₃ (λx s₄ h₄=>wpAny_bind (wpAny_mono h₄ (λ_ s₅ h₅=>wpAny_pure (wpAny_pure ⟨rfl,h₅⟩)) λ_ _ h'=>h')) λ_ _ h'=>h'))
section
variable {X:Cx}
def tLc(wi:TI)(g:TG)(tt:TT)(te:TE)(vs:List Nat):TE:=fun σ H Q=>wi σ H λJ H1=>∀D,H1 D=none->∃W:Nat->Nat->Hp->Prop,(∃m,W 0 m (upd H1 D (.lst [])))/\∀i m H,W i m H->
 (J.stop i H/\Q (.ref D) H)\/(J.go i H/\∃Nx:Hp->Prop,(∀H',Nx H'->∃m',m'<m/\W (i+1) m' H')/\∀x H',J.yld i H x H'->g x (Z8 σ vs) H' fun σ2 H2=>Z8 σ2 vs=Z8 σ vs/\tt σ2 H2 λb H3=>
  if b=true then te σ2 H3 λy H4=>∃acc,H4 D=some (.lst acc)/\acc.length<sizeLine/\Nx (upd H4 D (.lst (acc++[y]))) else Nx H3)
theorem Qly{pins:List (Addr × Obj)}{s:Shared}{σ:St}{H:Hp}{Q:VK}{elt tg iter:Expr}{ifs:List Expr}{scope:Scope}{own:List (Str × Nat)}{pos pos':Pos}{wi:TI}{g:TG}{tt:TT}{te:TE}{use:Option (Value->Sem Unit)}{Qf:Value->Shared->Prop}
  (hc:X.calm=true) (hN:X.N.Nodup) (I:Inv X pins σ H s) (hi:PI X tg iter wi) (ok:Qiu X.N X.env.scope scope own)
  (hg:∀(s:Shared) (H:Hp) (C:Addr) (cl:List (Str × Addr)) (fp:List Addr),PG (X.blk s H scope (compEnvC scope cl C X.env) fp) tg g) (ht:∀(s:Shared) (H:Hp) (C:Addr) (cl:List (Str × Addr)) (fp:List Addr),PTs (X.blk s H scope (compEnvC scope cl C X.env) fp) ifs tt)
  (he:∀(s:Shared) (H:Hp) (C:Addr) (cl:List (Str × Addr)) (fp:List Addr),PE (X.blk s H scope (compEnvC scope cl C X.env) fp) elt te) (hs:∀x,foldedSetIterable iter X.env x=pure x)
  (h:tLc wi g tt te (own.map (·.2)) σ H Q)
  (hRR:∀D C s' m H',Inv X pins σ H' s'->Q (.ref D) H'->s'.heap.Ns C m->Qef X pins H' C->compPost (model X.prog X.w) X.A X.xe use Qf (.ref D) C (.ok .next) s') :
  wpAny (model X.prog X.w) X.A (comprehension (.ListComp elt [⟨tg,iter,ifs,0⟩] scope pos) scope X.env pos' (newList []) false (eval iter X.env) use) Qf X.xe s:=by
 have hfree:∀y ∈ scope.names,y.2=.free->∃c,X.env.cells.lookup y.1=some c:=λy hy e=>by
  rcases ok.free y hy e with k | k
  ·exact I.ok.has _ (.inl k)
  ·exact I.ok.has _ (.inr k)
 refine wpAny_comprehension_free (use:=use) rfl hs (Qj7 hfree) ok.kind (λy hy e=>by rw[ok.uniq y hy,e])
  (thn (hi pins s σ H _ I h) λxv s1 hx=>thn hx λitv s2 h2=>?_)
 obtain⟨it,fp,tn,J,H2,e,I2,T,st2,f2,q⟩:=h2;subst e;refine wpAny_newObj_type (Qje ?_) (by show 0<=sizeLine;decide);generalize hD:s2.heap.objs.size=D;have hDn:H2 D=none:=I2.hok.fresh (X9 hD);obtain⟨W,⟨m0,w0⟩,turn⟩:=q D hDn;generalize hs3:({ s2 with heap:=s2.heap.push { cls:=.type "list",data:=.seq ([]:List Value).toArray } }:Shared)=s3;have I3:Inv X pins σ (upd H2 D (.lst [])) s3:=by
  rw[<-hs3];refine I2.laid (t':=s2.toks) (λb o e=>Xb _ e) (X9 hD) ⟨XY _,[],0,.nil,?_⟩;rw[<-hD];exact Xg _ rfl
 have h3:s3.heap=s2.heap.push { cls:=.type "list",data:=.seq ([]:List Value).toArray }:=by rw[<-hs3]
 have sz:∀b ∈ fp,b<s2.heap.objs.size:=λb hb=>by
  obtain⟨o,e,_⟩:=T.obj _ _ st2 b hb;exact Xf e
 have f3:∀b ∈ fp,Qef X pins (upd H2 D (.lst [])) b/\b<s3.heap.objs.size:=λb hb=>by
  have hlt:=sz b hb;refine⟨⟨?_,(f2 b hb).2⟩,by rw[h3,Xu];exact Uh hlt⟩;rw[Qq (by rw[<-hD];exact Xl hlt)];exact (f2 b hb).1
 have st3:tn 0 s3.heap:=T.keep _ _ _ st2 λb _ o e=>by rw[h3];exact Xb _ e
 have I4:=Qiz I3 ok hN f3;have pg:=hg s3 (upd H2 D (.lst [])) s3.heap.objs.size (cellsFrom (s3.heap.objs.size+1) scope.names (Jz X.env.cells scope.names [])) fp;have pt:=ht s3 (upd H2 D (.lst [])) s3.heap.objs.size (cellsFrom (s3.heap.objs.size+1) scope.names (Jz X.env.cells scope.names [])) fp;have pe:=he s3 (upd H2 D (.lst [])) s3.heap.objs.size (cellsFrom (s3.heap.objs.size+1) scope.names (Jz X.env.cells scope.names [])) fp;show codeAny _ _ (.compStart (.ListComp elt [⟨tg,iter,ifs,0⟩] scope pos) 0 (.ref it) (.ref D) (compEnvC scope (cellsFrom (s3.heap.objs.size+1) scope.names (Jz X.env.cells scope.names [])) s3.heap.objs.size X.env)) (compPost (model X.prog X.w) X.A X.xe use Qf (.ref D) s3.heap.objs.size) { s3 with heap:=pushCells (s3.heap.push { cls:=.type "dict",data:=.dict #[] }) scope.names };have nfp:∀b ∈ fp,(upd H2 D (.lst [])) b=none:=λb hb=>(f3 b hb).1.1
 generalize hce:compEnvC scope (cellsFrom (s3.heap.objs.size+1) scope.names (Jz X.env.cells scope.names [])) s3.heap.objs.size X.env=ce at I4 pg pt pe ⊢;have cL:ce.locals=s3.heap.objs.size:=by subst hce;rfl
 generalize hH3:upd H2 D (.lst [])=H3 at I3 I4 pg pt pe w0 nfp f3;generalize hs4:({ s3 with heap:=pushCells (s3.heap.push { cls:=.type "dict",data:=.dict #[] }) scope.names }:Shared)=s4 at I4 ⊢;have st4:tn 0 s4.heap:=T.keep _ _ _ st3 λb _ o e=>by rw[<-hs4];exact pushCells_keeps _ _ _ _ (Xb _ e)
 have stat:∀{σ':St} {H':Hp} {s':Shared},Inv (X.blk s3 H3 scope ce fp) [] σ' H' s'->(∀b ∈ fp,H' b=none)->∀b ∈ fp,Qef (X.blk s3 H3 scope ce fp) [] H' b:=λ{σ' H' s'} I' hn b hb=>
  ⟨hn b hb,(I'.ok.exf b hb).1,I'.ok.exfs b hb,.inl hb,λx c e=>(I'.ok.exf b hb).2 x c e,λp hp=>absurd (show p ∈ ([]:List (Addr × Obj))++[] from hp) (by simp)⟩
 have loop:codeAny (model X.prog X.w) X.A (.compLoop (.ListComp elt [⟨tg,iter,ifs,0⟩] scope pos) 0 (.ref it) (.ref D) ce) (compPost (model X.prog X.w) X.A X.xe use Qf (.ref D) s3.heap.objs.size) s4:=by
  refine QhC (λn s'=>QA λi H'=>Inv (X.blk s3 H3 scope ce fp) [] (Z8 σ (own.map (·.2))) H' s'/\tn i s'.heap/\(∀b ∈ fp,H' b=none)/\W i n H') ?_ m0 ⟨0,H3,I4,st4,nfp,w0⟩;rintro n s5 ⟨i,H5,I5,st5,n5,w5⟩;rcases turn i n H5 w5 with ⟨stop,qq⟩ | ⟨go,Nx,hNx,step⟩
  ·have td:=T.done (X.blk s3 H3 scope ce fp) rfl rfl rfl hc i [] s5 _ H5 (λ_ _=>False) I5 (stat I5 n5) st5 stop;refine Qm1 td λr s6 ⟨hr,I6⟩=>?_
   subst hr;have I7:Inv X pins σ H5 s6:=I3.call' (ch:=fp) I6.os I6.base I6.hok I6.bare λb hb=>⟨(f3 b hb).1.2.2.2.1,(f3 b hb).1.2.1,(f3 b hb).1.2.2.2.2.1,(f3 b hb).1.2.2.2.2.2⟩
   have nC:H5 s3.heap.objs.size=none:=by
    have z:H5 ce.locals=none:=I6.free;rw[cL] at z;exact z
   obtain⟨m,hn,_⟩:=I6.loc;have hn:s6.heap.Ns ce.locals m:=hn;rw[cL] at hn;exact hRR D s3.heap.objs.size s6 m H5 I7 qq hn (I3.fpOk (Xe _) nC)
  ·have ti:=T.item (X.blk s3 H3 scope ce fp) rfl rfl rfl hc i [] s5 _ H5 (λ_ _=>False) I5 (stat I5 n5) st5 go;refine Qm1 ti λr s6 ⟨u,hr,h6⟩=>?_
   subst hr;refine Qm1 h6 λ_ s7 ⟨x,H7,I7,r7,y7,st7,n7⟩=>?_
   have I7':=I7.pinned (stat I7 n7) (T.obj _ _ st7);refine Qm1 (pg _ s7 _ H7 x u _ I7' r7 (step x H7 y7)) λ_ s8 ⟨σ8,H8,I8,hw8,q8⟩=>?_
   refine Qm1 (pt _ s8 σ8 H8 _ I8 q8) λb s9 ⟨H9,I9,q9⟩=>?_
   have fin:∀{s':Shared} {H':Hp},Inv (X.blk s3 H3 scope ce fp) ([]++QfO fp s7.heap) σ8 H' s'->Nx H'->∃m,m<n/\QA λi H'=>Inv (X.blk s3 H3 scope ce fp) [] (Z8 σ (own.map (·.2))) H' s'/\tn i s'.heap/\(∀b ∈ fp,H' b=none)/\W i m H':=λ{s' H'} I' nx=>by
    obtain⟨m',hm,w'⟩:=hNx H' nx;have pin':∀b ∈ fp,∀o,s7.heap.get? b=some o->s'.heap.get? b=some o/\H' b=none:=λb hb o e=>
     let z:=I'.pin (b,o) (Xv _ (Xv _ (Qcd hb e)))
     ⟨z.1,z.2.1⟩
    have hl:(Z8 σ (own.map (·.2))).length=σ8.length:=by rw[<-hw8,QbD]
    refine⟨m',hm,i+1,H',(I'.unpinned (pins:=[])).weak hl (λj v e=>?_),T.keep _ _ _ st7 λb hb o e=>(pin' b hb o e).1,λb hb=>?_,w'⟩
    ·rw[<-hw8] at e;exact (QdH e).1
    ·obtain⟨o,e,_⟩:=T.obj _ _ st7 b hb;exact (pin' b hb o e).2
   cases b with
   | false=>
    simp only[Bool.false_eq_true,if_false] at q9 ⊢;exact fin I9 q9
   | true=>
    simp only[if_true] at q9 ⊢;refine Qm1 (pe _ s9 σ8 H9 _ I9 q9) λz s10 ⟨yv,H10,I10,r10,acc,hD10,hz10,nx⟩=>?_
    exact QqB (X:=X.blk s3 H3 scope ce fp) I10 hD10 hz10 r10 λs11 I11=>fin I11 nx
 exact codeAny_compStart_list loop (T.self X.A 0 _ _ _ st4 loop)
theorem JR{elt tg iter:Expr}{ifs:List Expr}{scope:Scope}{own:List (Str × Nat)}{pos:Pos}{wi:TI}{g:TG}{tt:TT}{te:TE}(hc:X.calm=true)(hN:X.N.Nodup)(hi:PI X tg iter wi)(ok:Qiu X.N X.env.scope scope own)
  (hg:∀(s:Shared) (H:Hp) (C:Addr) (cl:List (Str × Addr)) (fp:List Addr),PG (X.blk s H scope (compEnvC scope cl C X.env) fp) tg g) (ht:∀(s:Shared) (H:Hp) (C:Addr) (cl:List (Str × Addr)) (fp:List Addr),PTs (X.blk s H scope (compEnvC scope cl C X.env) fp) ifs tt)
  (he:∀(s:Shared) (H:Hp) (C:Addr) (cl:List (Str × Addr)) (fp:List Addr),PE (X.blk s H scope (compEnvC scope cl C X.env) fp) elt te) (hs:∀x,foldedSetIterable iter X.env x=pure x:=by intro _;rfl) :
  PE X (.ListComp elt [⟨tg,iter,ifs,0⟩] scope pos) (tLc wi g tt te (own.map (·.2))):=by
 intro pins s σ H Q I h;rw[eval_ListComp];refine Qly hc hN I hi ok hg ht he hs h λD C s' m H' I' q hn f=>⟨m,hn,λh'' sb=>?_⟩
 obtain⟨f0,f1,f2,f3,f4,f5⟩:=f;exact⟨.ref D,H',I'.turned (t':=s'.toks) (λb o hb e=>(sb.2 b hb).trans e) f0 f1 f3 f4 f5,rfl,q⟩
theorem QcR{i:Nat}{y:Str}{py:Pos}{elt tg iter:Expr}{ifs:List Expr}{scope:Scope}{own:List (Str × Nat)}{pos spos:Pos}{wi:TI}{g:TG}{tt:TT}{te:TE}(hc:X.calm=true)(hN:X.N.Nodup)(hy:X.N[i]?=some y)(hyl:X.env.scope.names.lookup y=some .local)
  (hsw:swapsWith (.ListComp elt [⟨tg,iter,ifs,0⟩] scope pos) (some (.Name y py)) spos.line X.env=pure true) (hi:PI X tg iter wi) (ok:Qiu X.N X.env.scope scope own)
  (hg:∀(s:Shared) (H:Hp) (C:Addr) (cl:List (Str × Addr)) (fp:List Addr),PG (X.blk s H scope (compEnvC scope cl C X.env) fp) tg g) (ht:∀(s:Shared) (H:Hp) (C:Addr) (cl:List (Str × Addr)) (fp:List Addr),PTs (X.blk s H scope (compEnvC scope cl C X.env) fp) ifs tt)
  (he:∀(s:Shared) (H:Hp) (C:Addr) (cl:List (Str × Addr)) (fp:List Addr),PE (X.blk s H scope (compEnvC scope cl C X.env) fp) elt te) (hs:∀x,foldedSetIterable iter X.env x=pure x:=by intro _;rfl) :
  PS X (.Assign [.Name y py] (.ListComp elt [⟨tg,iter,ifs,0⟩] scope pos) spos) (Qp3 (tLc wi g tt te (own.map (·.2))) (Qe2 i)):=by
 intro pins s σ H D I h;rw[exec_Assign_Name_used _ _ _ _ hsw];refine wpAny_bind (wpAny_standAt (wpAny_bind ?_));show wpAny _ X.A (do let _ <-comprehension (.ListComp elt [⟨tg,iter,ifs,0⟩] scope pos) scope X.env (firstIterPos [⟨tg,iter,ifs,0⟩] pos) (newList []) false (eval iter X.env) (some (assign (.Name y py) X.env))) _ _ s;have h:tLc wi g tt te (own.map (·.2)) σ H (λx H1=>Qe2 i x σ H1 D.nx):=h;refine wpAny_bind (thn (Qly (Qf:=λ_ s'=>SP X pins D .next s') hc hN I hi ok hg ht he hs h λL C s' m H' I' q hn f=>?_) λ_ s' hq=>wpAny_pure (wpAny_pure hq));show wpAny _ _ (assign (.Name y py) X.env (.ref L)) _ _ _;refine wpAny_assign_Name (Qhk (v:=V.ref L) I' hN hy (.inl hyl) rfl (λs2 I2 ⟨a,sb,ha⟩=>?_) (.inr hyl));obtain⟨f0,f1,f2,f3,f4,f5⟩:=f;have haC:C≠a:=by
  rcases ha with z | z
  ·rw[z];exact f1
  ·exact λe=>f4 y a z e.symm
 refine⟨m,hn.sameBut sb haC,λh3 sb3=>?_⟩;exact⟨_,H',I2.turned (t':=s2.toks) (λb o hb e=>(sb3.2 b hb).trans e) f0 f1 f3 f4 f5,q⟩
end
def QrN(N:List Str)(sc scope:Scope)(own:List (Str × Nat)):Bool:=
 (match scope.kind with | .function=>true | _=>false)&&(scope.names.all λy=>decide (scope.names.lookup y.1=some y.2))&&(own.all λp=>decide (N[p.2]?=some p.1)) &&
   (scope.names.all λy=>match y.2 with
     | .free=>(match sc.names.lookup y.1 with | some .cell=>true | some .free=>true | _=>false)
     | .local=>decide (y.1 ∈ own.map (·.1))||decide (y.1 ∉ N)
     | .cell=>decide (y.1 ∈ own.map (·.1))||decide (y.1 ∉ N)
     | _=>true)
theorem QK{N:List Str}{sc scope:Scope}{own:List (Str × Nat)}(h:QrN N sc scope own=true):Qiu N sc scope own:=by
 unfold QrN at h;simp only[XZ,Up,decide_eq_true_eq] at h;obtain⟨⟨⟨h1,h2⟩,h3⟩,h4⟩:=h;refine⟨?_,h2,h3,λy hy e=>?_,λy hy e=>?_⟩
 ·split at h1
  ·assumption
  ·cases h1
 ·have q:=h4 y hy;simp only[e] at q
  split at q<;>first | exact .inl (by assumption) | exact .inr (by assumption) | cases q
 ·have q:=h4 y hy;rcases e with e | e<;>(simp only[e,U3,decide_eq_true_eq] at q;exact q)
section
variable {κ:Type} [DecidableEq κ]
def Jn(kvs:List (κ × V))(k:κ):Option V:=(kvs.find? λkv=>decide (kv.1=k)).map (·.2)
def Wn(kvs:List (κ × V))(k:κ)(v:V):List (κ × V):=
 if (kvs.any λkv=>decide (kv.1=k))=true then kvs.map (λkv=>if kv.1=k then (kv.1,v) else kv) else kvs++[(k,v)]
theorem Jf{p:κ × V}{r:List (κ × V)}{k:κ}(e:p.1=k):Jn (p::r) k=some p.2:=by simp[Jn,XJ,e]
theorem QY{p:κ × V}{r:List (κ × V)}{k:κ}(e:¬p.1=k):Jn (p::r) k=Jn r k:=by simp[Jn,XJ,e]
theorem Wz(k:κ):∀kvs:List (κ × V),(kvs.any λkv=>decide (kv.1=k))=(Jn kvs k).isSome
 | []=>rfl
 | p::r=>by
  rw[XI]
  by_cases e:p.1=k
  ·simp only[Jf e,decide_eq_true e,Bool.true_or,UU]
  ·rw[QY e,decide_eq_false e,Bool.false_or];exact Wz k r
theorem QjW(k j:κ)(y:V):∀kvs:List (κ × V),Jn (kvs.map λkv=>if kv.1=k then (kv.1,y) else kv) j=(Jn kvs j).map λx=>if j=k then y else x
 | []=>rfl
 | p::r=>by
  have ih:=QjW k j y r;rw[Xr]
  by_cases h:p.1=k
  ·rw[if_pos h]
   by_cases e:p.1=j
   ·rw[Jf (p:=(p.1,y)) e,Jf e,Ua,if_pos (e.symm.trans h)]
   ·rw[QY (p:=(p.1,y)) e,QY e,ih]
  ·rw[if_neg h]
   by_cases e:p.1=j
   ·rw[Jf (p:=p) e,Jf e,Ua,if_neg (λz=>h (e.trans z))]
   ·rw[QY (p:=p) e,QY e,ih]
theorem Qhs(k j:κ)(y:V):∀kvs:List (κ × V),Jn kvs k=none->Jn (kvs++[(k,y)]) j=if j=k then some y else Jn kvs j
 | [],_=>by
  by_cases e:k=j
  ·rw[if_pos e.symm];exact Jf (p:=(k,y)) e
  ·rw[if_neg (λz=>e z.symm)];exact QY (p:=(k,y)) e
 | p::r,hn=>by
  rw[List.cons_append];have hk:¬p.1=k:=λz=>by rw[Jf z] at hn;cases hn
  rw[QY hk] at hn;have ih:=Qhs k j y r hn
  by_cases e:p.1=j
  ·rw[Jf e,Jf e,if_neg (λz=>hk (e.trans z))]
  ·rw[QY e,QY e,ih]
theorem QoH(kvs:List (κ × V))(k j:κ)(y:V):Jn (Wn kvs k y) j=if j=k then some y else Jn kvs j:=by
 unfold Wn
 by_cases a:(kvs.any λkv=>decide (kv.1=k))=true
 ·rw[if_pos a,QjW];rw[Wz] at a
  by_cases e:j=k
  ·obtain⟨x,hx⟩:=Ut.mp a;rw[if_pos e,e,hx,Ua,if_pos rfl]
  ·rw[if_neg e];cases Jn kvs j with
   | none=>rfl
   | some x=>rw[Ua,if_neg e]
 ·rw[if_neg a];refine Qhs k j y kvs ?_;rw[Wz] at a;cases q:Jn kvs k with
  | none=>rfl
  | some x=>rw[q] at a;exact (a rfl).elim
theorem Qbm(kvs:List (κ × V))(k:κ)(v:V):(Wn kvs k v).length<=kvs.length+1:=by
 unfold Wn
 split
 ·rw[XA];omega
 ·rw[Xt,Xq,X5];omega
theorem QcV{kvs:List (κ × V)}{k:κ}(v:V)(h:Jn kvs k=none):Wn kvs k v=kvs++[(k,v)]:=by
 unfold Wn;rw[Wz,h];exact if_neg (by decide)
theorem QbU.isSome_eq{o:Option V}{u:Option Value}(r:QbU o u):o.isSome=u.isSome:=by
 cases o with
 | none=>cases u with
  | none=>rfl
  | some _=>exact (show False from r).elim
 | some _=>cases u with
  | none=>exact (show False from r).elim
  | some _=>rfl
theorem QbU.getD{o:Option V}{u:Option Value}{d:V}{d':Value}(r:QbU o u)(rd:QZ d d'):QZ (o.getD d) (u.getD d'):=by
 cases o with
 | none=>cases u with
  | none=>exact rd
  | some _=>exact (show False from r).elim
 | some _=>cases u with
  | none=>exact (show False from r).elim
  | some _=>exact r
theorem KV.val{kvs:List (κ × V)}{vs:List (κ × Value)}(r:KV kvs vs)(k:κ):QbU (Jn kvs k) (valueAt vs k):=by
 unfold KV at r
 induction r with
 | nil=>exact True.intro
 | @cons p q ps qs h t ih=>
  obtain⟨h1,h2⟩:=h
  by_cases e:p.1=k
  ·have e':q.1=k:=h1.symm.trans e;have b:valueAt (q::qs) k=some q.2:=by simp[valueAt,XJ,e']
   rw[Jf e,b];exact h2
  ·have e':¬q.1=k:=λz=>e (h1.trans z)
   have b:valueAt (q::qs) k=valueAt qs k:=by simp[valueAt,XJ,e']
   rw[QY e,b];exact ih
theorem KV.any{kvs:List (κ × V)}{vs:List (κ × Value)}(r:KV kvs vs)(k:κ):(kvs.any λkv=>decide (kv.1=k))=vs.any λkv=>decide (kv.1=k):=by
 unfold KV at r
 induction r with
 | nil=>rfl
 | cons h t ih=>rw[XI,XI,ih,h.1]
theorem KV.repl{kvs:List (κ × V)}{vs:List (κ × Value)}(r:KV kvs vs)(k:κ){y:V}{u:Value}(ry:QZ y u) :
  KV (kvs.map λkv=>if kv.1=k then (kv.1,y) else kv) (vs.map λkv=>if kv.1=k then (kv.1,u) else kv):=by
 unfold KV at r ⊢
 induction r with
 | nil=>exact .nil
 | @cons p q ps qs h t ih=>
  rw[Xr,Xr];refine .cons ?_ ih;obtain⟨h1,h2⟩:=h
  by_cases e:p.1=k
  ·rw[if_pos e,if_pos (h1.symm.trans e)];exact⟨h1,ry⟩
  ·rw[if_neg e,if_neg (λz=>e (h1.trans z))];exact⟨h1,h2⟩
theorem KV.put{kvs:List (κ × V)}{vs:List (κ × Value)}(r:KV kvs vs)(k:κ){y:V}{u:Value}(ry:QZ y u):KV (Wn kvs k y) (stored vs k u):=by
 unfold Wn stored;rw[r.any k]
 by_cases e:(vs.any λkv=>decide (kv.1=k))=true
 ·rw[if_pos e,if_pos e];exact r.repl k ry
 ·rw[if_neg e,if_neg e];exact Paired.snoc r ⟨rfl,ry⟩
theorem KV.length{kvs:List (κ × V)}{vs:List (κ × Value)}(r:KV kvs vs):kvs.length=vs.length:=Paired.length r
end
theorem Qbk{P:Program}{w:World}{k:Key}{u:Value}(r:QZ (kV k) u):(QT P w).is k u=true:=by
 cases k with
 | inl i=>obtain⟨t,e⟩:=(show ∃t,u=Value.int i t from r);subst e;exact Qi8 P w i t
 | inr x=>obtain⟨t,e⟩:=(show ∃t,u=Value.str x t from r);subst e;exact Qi9 P w x t
theorem QgZ{P:Program}{w:World}:∀{ks:List Key} {us:List Value},QP (ks.map kV) us->ItemsAre (QT P w) ks us
 | [],_,r=>by rw[X6] at r;cases r;exact .nil
 | k::ks,_,r=>by
  rw[Xr] at r;cases r with
  | cons h t=>exact .cons (Qbk h) (QgZ t)
abbrev KT(H:Hp):List (List Key × V)->List (List Key × Addr × Value)->Prop:=Paired λp q=>p.1=q.1/\H q.2.1=some (.tup (p.1.map kV))/\QZ p.2 q.2.2
theorem KT.val{H:Hp}{kvs:List (List Key × V)}{xs:List (List Key × Addr × Value)}(r:KT H kvs xs)(k:List Key):QbU (Jn kvs k) ((atKey xs k).map (·.2)):=by
 induction r with
 | nil=>exact True.intro
 | @cons p q ps qs h t ih=>
  obtain⟨h1,_,h2⟩:=h
  by_cases e:p.1=k
  ·have e':q.1=k:=h1.symm.trans e;have b:atKey (q::qs) k=some q.2:=by simp[atKey,XJ,e']
   rw[Jf e,b];exact h2
  ·have e':¬q.1=k:=λz=>e (h1.trans z)
   have b:atKey (q::qs) k=atKey qs k:=by simp[atKey,XJ,e']
   rw[QY e,b];exact ih
theorem KT.repl{H:Hp}{kvs:List (List Key × V)}{xs:List (List Key × Addr × Value)}(r:KT H kvs xs)(k:List Key){y:V}{u:Value}(ry:QZ y u) :
  KT H (kvs.map λkv=>if kv.1=k then (kv.1,y) else kv) (xs.map (putAt k u)):=by
 induction r with
 | nil=>exact .nil
 | @cons p q ps qs h t ih=>
  rw[Xr,Xr];refine .cons ?_ ih;obtain⟨h1,h2,h3⟩:=h;unfold putAt
  by_cases e:p.1=k
  ·rw[if_pos e,if_pos (h1.symm.trans e)];exact⟨h1,h2,ry⟩
  ·rw[if_neg e,if_neg (λz=>e (h1.trans z))];exact⟨h1,h2,h3⟩
theorem KT.put{H:Hp}{kvs:List (List Key × V)}{xs:List (List Key × Addr × Value)}(r:KT H kvs xs)(k:List Key){b:Addr}{y:V}{u:Value}(hb:H b=some (.tup (k.map kV)))(ry:QZ y u) :
  KT H (Wn kvs k y) (storedH xs k b u):=by
 have e:(kvs.any λkv=>decide (kv.1=k))=(atKey xs k).isSome:=by
  rw[Wz,(r.val k).isSome_eq,UX]
 unfold Wn storedH;rw[e]
 by_cases q:(atKey xs k).isSome=true
 ·rw[if_pos q,if_pos q];exact r.repl k ry
 ·rw[if_neg q,if_neg q];exact Paired.snoc r ⟨rfl,hb,ry⟩
theorem KT.keeps{H H':Hp}{kvs:List (List Key × V)}{xs:List (List Key × Addr × Value)}(r:KT H kvs xs)(ht:∀b ys,H b=some (.tup ys)->H' b=some (.tup ys)):KT H' kvs xs:=
 Paired.mapP r λ_ _ z=>⟨z.1,ht _ _ z.2.1,z.2.2⟩
section
variable {P:Program} {w:World} {H:Hp} {h:Heap} {a:Addr}
theorem Qqn{u:HO}(ok:HOk P w H h)(e:Rd H a u):J1 P w H h a u:=e.ok ok
theorem QdT{kvs:List (Key × V)}(ok:HOk P w H h)(e:Rd H a (.dK kvs)):kvs.length<=sizeLine/\(a==sysModules)=false/\∃vs,KV kvs vs/\h.DictOf (QT P w) a vs:=
 show J1 P w H h a (.dK kvs) from Qqn ok e
theorem Qqh{kvs:List (Key × V)}(ok:HOk P w H h)(e:H a=some (.dK kvs)):kvs.length<=sizeLine/\(a==sysModules)=false/\∃vs,KV kvs vs/\h.DictOf (QT P w) a vs:=QdT ok (.inl e)
theorem Qdn{ks:List Key}(ok:HOk P w H h)(e:H a=some (.tup (ks.map kV))):(tupleKind (QT P w)).is h ks a:=by
 obtain⟨_,its,r,o,h1,h2,n,h3⟩:=(show J1 P w H h a (.tup (ks.map kV)) from ok a _ e);exact⟨o,its.toArray,n,h1,h2,h3,by simpa using QgZ r⟩
theorem QeU{kvs:List (List Key × V)}(ok:HOk P w H h)(e:Rd H a (.dT kvs)):kvs.length<=sizeLine/\(a==sysModules)=false/\
  ∃xs,KT H kvs xs/\h.DictOfH (tupleKind (QT P w)) a xs:=by
 obtain⟨z,y,xs,r,o,es,ep,h1,h2,h3,h4,h5⟩:=(show J1 P w H h a (.dT kvs) from Qqn ok e);refine⟨z,y,xs,r,o,es,ep,h1,h2,h3,h4,λx hx=>?_,h5⟩;have all:∀{l:List (List Key × V)} {m:List (List Key × Addr × Value)},KT H l m->∀x ∈ m,(tupleKind (QT P w)).is h x.1 x.2.1:=by
  intro l m q
  induction q with
  | nil=>intro x hx;exact nomatch hx
  | @cons p q ps qs hq t ih=>
   intro x hx;rcases Xj.mp hx with e | hx
   ·subst e;exact Qdn ok (by rw[<-hq.1];exact hq.2.1)
   ·exact ih x hx
 exact all r x hx
theorem QrS{kvs:List (List Key × V)}(ok:HOk P w H h)(e:H a=some (.dT kvs)):kvs.length<=sizeLine/\(a==sysModules)=false/\
  ∃xs,KT H kvs xs/\h.DictOfH (tupleKind (QT P w)) a xs:=QeU ok (.inl e)
end
def ZP(H:Hp)(a:Addr)(y:V)(r:Option V):Prop:=
 (QA λkvs k=>Rd H a (.dK kvs)/\y=kV k/\r=Jn kvs k)\/JP λkvs k b=>Rd H a (.dT kvs)/\y=.ref b/\H b=some (.tup (k.map kV))/\r=Jn kvs k
def QlV(H:Hp)(a:Addr)(y v:V)(H':Hp):Prop:=
 (QA λkvs k=>H a=some (.dK kvs)/\y=kV k/\kvs.length<sizeLine/\H'=upd H a (.dK (Wn kvs k v)))\/
 JP λkvs k b=>H a=some (.dT kvs)/\y=.ref b/\H b=some (.tup (k.map kV))/\kvs.length<sizeLine/\H'=upd H a (.dT (Wn kvs k v))
theorem ZP.k{H:Hp}{a:Addr}{kvs:List (Key × V)}{k:Key}(e:H a=some (.dK kvs)):ZP H a (kV k) (Jn kvs k):=.inl ⟨kvs,k,.inl e,rfl,rfl⟩
theorem QlV.k{H:Hp}{a:Addr}{kvs:List (Key × V)}{k:Key}{v:V}(e:H a=some (.dK kvs))(hl:kvs.length<sizeLine):QlV H a (kV k) v (upd H a (.dK (Wn kvs k v))):=.inl ⟨kvs,k,e,rfl,hl,rfl⟩
section
variable {X:Cx} {pins:List (Addr × Obj)} {σ:St} {H:Hp} {s:Shared} {a:Addr} {y v:V} {u r:Value} {o:Option V} {A:Around} {E:Value->Shared->Prop}
theorem Inv.big(I:Inv X pins σ H s):sysModules<s.heap.objs.size:=by
 have h:mainGlobals<s.heap.objs.size:=(I.mod.glob.keeps I.bk).lt;exact Ur (by decide) h
theorem Ql6{Q:Value->Shared->Prop}(hu:A.units+1<cLine)(I:Inv X pins σ H s)(g:ZP H a y (some v))(ry:QZ y u)(h:∀w' s',Inv X pins σ H s'->QZ v w'->Q w' s') :
  wpAny (model X.prog X.w) A (getItem (.ref a) u) Q E s:=by
 rcases g with ⟨kvs,k,e,ey,l⟩ | ⟨kvs,k,b,e,ey,eb,l⟩
 ·subst ey;obtain⟨z,hd,vs,rel,dd⟩:=QdT I.hok e;obtain⟨w',hw,rw'⟩:=QbU.some_of (v:=v) (o:=valueAt vs k) (by rw[l];exact rel.val k);exact wpAny_getItem_of (Qbk ry) dd.mapOf hw (h w' _ (I.tok _) rw')
 ·subst ey;cases (show u=Value.ref b from ry);obtain⟨z,hd,xs,rel,dd⟩:=QeU I.hok e;obtain⟨w',hw,rw'⟩:=QbU.some_of (v:=v) (o:=(atKey xs k).map (·.2)) (by rw[l];exact rel.val k);obtain⟨p,hp,hp2⟩:=UE.mp hw;refine wpAny_getItem_heap (tupleKind_room_in1 hu) (Qdn I.hok eb) dd hp ?_;rw[hp2];exact h w' _ (I.tok _) rw'
theorem QsF{Q:Value->Shared->Prop}(hu:A.units+1<cLine)(I:Inv X pins σ H s)(g:ZP H a y o)(ry:QZ y u)(h:∀s',Inv X pins σ H s'->Q (.bool o.isSome) s') :
  wpAny (model X.prog X.w) A (compareOp .In u (.ref a)) Q E s:=by
 rcases g with ⟨kvs,k,e,ey,l⟩ | ⟨kvs,k,b,e,ey,eb,l⟩
 ·subst ey;obtain⟨z,hd,vs,rel,dd⟩:=QdT I.hok e;refine wpAny_in_of (Qbk ry) hd dd.mapOf ?_;rw[<-(rel.val k).isSome_eq,<-l];exact h _ (I.tok _)
 ·subst ey;cases (show u=Value.ref b from ry);obtain⟨z,hd,xs,rel,dd⟩:=QeU I.hok e;refine wpAny_in_heap (tupleKind_room_in1 hu) (Qdn I.hok eb) hd dd ?_;have q:=(rel.val k).isSome_eq;rw[UX] at q;rw[<-q,<-l];exact h _ (I.tok _)
theorem QhE{h':Heap}{t':Nat}{ob:HO}(I:Inv X pins σ H s)(mu:Mut (H a))(hs:Uo a s.heap h')(he:∃q,h'.get? a=some q)(new:J1 X.prog X.w (upd H a ob) h' a ob) :
  Inv X pins σ (upd H a ob) { s with heap:=h',toks:=t' }:=
 I.write (x:=a) (e:=a) mu (.inl rfl) (λb q hb z=>(hs.2 b hb).trans z) he new
theorem Qnq{P:Program}{w:World}{H':Hp}{h':Heap}{kvs:List (Key × V)}{vs:List (Key × Value)}(z:kvs.length<=sizeLine)(hd:(a==sysModules)=false)(rel:KV kvs vs)(dd:h'.DictOf (QT P w) a vs) :
  J1 P w H' h' a (.dK kvs):=⟨z,hd,vs,rel,dd⟩
theorem Ql7{H':Hp}{Q:Unit->Shared->Prop}(hu:A.units+1<cLine)(I:Inv X pins σ H s)(g:QlV H a y v H')(ry:QZ y u)(rv:QZ v r)(h:∀s',Inv X pins σ H' s'->Q () s') :
  wpAny (model X.prog X.w) A (setItem (.ref a) u r) Q E s:=by
 rcases g with ⟨kvs,k,e,ey,l,eH⟩ | ⟨kvs,k,b,e,ey,eb,l,eH⟩
 ·subst ey eH;obtain⟨z,hd,vs,rel,dd⟩:=Qqh I.hok e;have hz:vs.length<=sizeLine:=by rw[<-rel.length];exact z
  have hl:(Wn kvs k v).length<=sizeLine:=by have:=Qbm kvs k v;omega
  refine wpAny_setItem_pairs (hsz:=hz) (Qbk ry) dd λh' dd' hs=>h _ ?_
  have he:∃q,h'.get? a=some q:=let ⟨q,_,_,hq,_⟩:=dd';⟨q,hq⟩
  exact QhE I (by rw[e];exact True.intro) hs he (Qnq hl hd (rel.put k rv) dd')
 ·subst ey eH;cases (show u=Value.ref b from ry);obtain⟨z,hd,xs,rel,dd⟩:=QrS I.hok e;have hz:xs.length<=sizeLine:=by rw[<-Paired.length rel];exact z
  have hl:(Wn kvs k v).length<=sizeLine:=by have:=Qbm kvs k v;omega
  refine wpAny_setItem_heap (hsz:=hz) (tupleKind_room_in1 hu) (Qdn I.hok eb) dd λh' dd' hs=>h _ ?_
  obtain⟨q,es,ep,hq,h2,h3,h4,_,h5⟩:=dd';refine QhE I (by rw[e];exact True.intro) hs ⟨q,hq⟩ ⟨hl,hd,_,(rel.put k eb rv).keeps λc ys ec=>?_,q,es,ep,hq,h2,h3,h4,h5⟩;rw[Qq (Q8 ec e (λz=>nomatch z))];exact ec
end
section
variable {X:Cx} {pins:List (Addr × Obj)} {σ:St} {H:Hp} {s:Shared} {a:Addr} {kvs:List (Key × V)} {k:Key} {u:Value} {A:Around} {E:Value->Shared->Prop}
theorem QrQ{Q:Value->Shared->Prop}(I:Inv X pins σ H s)(e:Rd H a (.dK kvs))(h:∀t s',Inv X pins σ H s'->Q (.int kvs.length t) s'):wpAny (model X.prog X.w) A (call (.builtin "len") [.ref a]) Q E s:=by
 obtain⟨z,hd,vs,rel,dd⟩:=QdT I.hok e;refine call_len_dict hd dd (by rw[<-rel.length];rw[sizeLine_eq] at z;omega) ?_;rw[<-rel.length];exact h _ _ (I.tok _)
end
def Qqv(i:Expr):Prop:=∀ov iv,subscripted i false ov iv=operate [ov,iv] (getItem ov iv)
theorem QlQ{prog:Program}{w:World}{A:Around}{E:Value->Shared->Prop}{s:Shared}{env:Env}{value slice:Expr}{pos:Pos}{T id:String}{Q:Value->Shared->Prop}
  (hl:typeLookup (.type T) "__getitem__"=pure (some (.builtin id))) (hs:Qqv slice)
  (h:wpAny (model prog w) A (eval value env) (λo s₁=>wpAny (model prog w) A (eval slice env) (λi s₂=>s₂.TypeIs o T/\wpAny (model prog w) A (getItem o i) Q E s₂) E s₁) E s) :
  wpAny (model prog w) A (eval (.Subscript value slice pos) env) Q E s:=by
 refine Subscript_ (wpAny_mono h (λo s₁ h₁=>wpAny_mono h₁ (λi s₂ h₂=>?_) λ_ _ x=>x) λ_ _ x=>x);obtain⟨hT,h₂⟩:=h₂;unfold subscriptTail;refine wpAny_bind ?_;rw[getitemInPython_of_ne hT.not_modules];refine wpAny_bind (wpAny_specialOf hT hl ?_);have fin:wpAny (model prog w) A (subscripted slice false o i) (λr s₃=>wpAny (model prog w) A (letTemporaryGo value o r >>= λ_=>pure r) Q E s₃) E s₂:=by
  rw[hs o i];exact wpAny_operating (wpAny_mono h₂ (λr s₃ h₃=>wpAny_bind (wpAny_letTemporaryGo (wpAny_pure h₃))) λ_ _ x=>x)
 first
  | exact wpAny_pure (wpAny_bind fin)
  | exact wpAny_bind (wpAny_pure (wpAny_bind fin))
  | exact wpAny_bind fin
theorem QiN{X:Cx}{pins:List (Addr × Obj)}{σ:St}{H:Hp}{s:Shared}{a:Addr}{y:V}{o:Option V}(I:Inv X pins σ H s)(g:ZP H a y o):s.TypeIs (.ref a) "dict":=by
 rcases g with ⟨kvs,k,e,_,_⟩ | ⟨kvs,k,b,e,_,_,_⟩
 ·obtain⟨_,_,vs,_,dd⟩:=QdT I.hok e;exact dd.typeIs
 ·obtain⟨_,_,xs,_,dd⟩:=QeU I.hok e;exact dd.typeIs
abbrev QoD(td ty:TE):TE:=fun σ H Q=>td σ H λx H1=>ty σ H1 λy H2=>QA λa v=>x=.ref a/\ZP H2 a y (some v)/\Q v H2
abbrev Qp4(ty td:TE):TE:=fun σ H Q=>ty σ H λy H1=>td σ H1 λx H2=>QA λa o=>x=.ref a/\ZP H2 a y o/\Q (.bl o.isSome) H2
abbrev Qsd(td ty tv:TE):TS:=λD σ H=>tv σ H λv H1=>td σ H1 λx H2=>ty σ H2 λy H3=>QA λa H4=>x=.ref a/\QlV H3 a y v H4/\D.nx σ H4
section
variable {X:Cx} {o i e value:Expr} {pos pos' tpos:Pos} {td ty tv:TE}
theorem Yq(hu:X.A.units+1<cLine)(ho:PE X o td)(hi:PE X i ty)(hs:Qqv i):PE X (.Subscript o i pos) (QoD td ty):=by
 intro pins s σ H Q I h;refine QlQ PySem.F.slot_dict_getitem.lookup hs (thn (ho pins s σ H _ I h) λu s1 ⟨x,H1,I1,rx,q1⟩=>thn (hi pins s1 σ H1 _ I1 q1) λiv s2 ⟨y,H2,I2,ry,a,v,ex,g,q2⟩=>?_);subst ex;obtain rfl:u=Value.ref a:=rx;exact⟨QiN I2 g,Ql6 hu I2 g ry λw' s3 I3 rw'=>⟨v,H2,I3,rw',q2⟩⟩
theorem Qci(hu:X.A.units+1<cLine)(hi:PE X i ty)(ho:PE X o td):PC X .In i o (Qp4 ty td):=by
 intro pins s σ H Q I h;refine thn (hi pins s σ H _ I h) λiv s1 ⟨y,H1,I1,ry,q1⟩=>thn (ho pins s1 σ H1 _ I1 q1) λu s2 ⟨x,H2,I2,rx,a,ov,ex,g,q2⟩=>?_
 subst ex;obtain rfl:u=Value.ref a:=rx;exact QsF hu I2 g ry λs3 I3=>⟨.bl ov.isSome,H2,I3,rfl,q2⟩
theorem QlH(hu:X.A.units+1<cLine)(ho:PE X o td)(hi:PE X i ty)(hv:PE X value tv)(hs:swapsWith value (some (.Subscript o i pos')) pos.line X.env=pure false) :
  PS X (.Assign [.Subscript o i pos'] value pos) (Qsd td ty tv):=by
 intro pins s σ H D I h;refine wpAny_Assign_Subscript (thn (hv pins s σ H _ I h) λr s1 ⟨v,H1,I1,rv,q1⟩=>thn (ho pins s1 σ H1 _ I1 q1) λu s2 ⟨x,H2,I2,rx,q2⟩=>thn (hi pins s2 σ H2 _ I2 q2) λiv s3 ⟨y,H3,I3,ry,a,H4,ex,g,q3⟩=>?_) hs;subst ex;obtain rfl:u=Value.ref a:=rx;exact Ql7 hu I3 g ry rv λs4 I4=>⟨σ,H4,I4,q3⟩
end
theorem QiR{P:Program}{w:World}{H:Hp}(h:Heap)(hb:sysModules<h.objs.size):J1 P w H (h.push { cls:=.type "dict",data:=.dict #[] }) h.objs.size (.dK []):=
 ⟨XY _,beq_eq_false_iff_ne.mpr (Ne.symm (Xl hb)),[],.nil,U4 h⟩
abbrev Qrx:TE:=λ_ H Q=>∀p,H p=none->Q (.ref p) (upd H p (.dK []))
section
variable {X:Cx} {pos:Pos}
theorem QnZ:PE X (.Dict [] [] pos) Qrx:=λpins s σ H Q I h=>
 wpAny_Dict_empty ⟨.ref s.heap.objs.size,_,I.laid (a:=s.heap.objs.size) (o:=.dK []) (t':=s.toks) (λ_ _ q=>Xb _ q) (Xe _) (QiR s.heap I.big),rfl,h _ (I.hok.fresh (Xe _))⟩
end
abbrev QkY:List (TE × TE)->St->Hp->(List (V × V)->Hp->Prop)->Prop
 | [],_,H,Q=>Q [] H
 | (tk,tv)::r,σ,H,Q=>tk σ H λx H1=>tv σ H1 λy H2=>QkY r σ H2 λps H3=>Q ((x,y)::ps) H3
abbrev VV:List (V × V)->List (Value × Value)->Prop:=Paired λp q=>QZ p.1 q.1/\QZ p.2 q.2
def PPs(X:Cx)(pos:Pos)(keys:List (Option Expr))(values:List Expr)(trs:List (TE × TE)):Prop:=
 ∀(pins:List (Addr × Obj)) (s:Shared) (σ:St) (H:Hp) (Q:List (V × V)->Hp->Prop),Inv X pins σ H s->QkY trs σ H Q->
  wpAny (model X.prog X.w) X.A (evalPairs (pairTrees keys values X.env pos)) (λvs s'=>QA λps H'=>Inv X pins σ H' s'/\VV ps vs/\Q ps H') X.xe s
theorem QpC{X:Cx}{pos:Pos}:PPs X pos [] [] []:=λpins s σ H Q I h=>pairTrees_nil_walk ⟨[],H,I,.nil,h⟩
theorem Qn3{X:Cx}{pos:Pos}{k v:Expr}{ks:List (Option Expr)}{vs:List Expr}{tk tv:TE}{trs:List (TE × TE)}(hk:PE X k tk)(hv:PE X v tv)(hr:PPs X pos ks vs trs) :
  PPs X pos (some k::ks) (v::vs) ((tk,tv)::trs):=λpins s σ H Q I h=>
 pairTrees_cons_walk (thn (hk pins s σ H _ I h) λu s1 ⟨x,H1,I1,rx,q1⟩=>thn (hv pins s1 σ H1 _ I1 q1) λw2 s2 ⟨y,H2,I2,ry,q2⟩=>
  thn (hr pins s2 σ H2 _ I2 q2) λws s3 ⟨ps,H3,I3,rel,q3⟩=>⟨(x,y)::ps,H3,I3,.cons ⟨rx,ry⟩ rel,q3⟩)
def Jj(kvs more:List (Key × V)):List (Key × V):=more.foldl (λacc kv=>Wn acc kv.1 kv.2) kvs
theorem KV.merge:∀{more:List (Key × V)} {rs:List (Key × Value)} {kvs:List (Key × V)} {vs:List (Key × Value)},KV more rs->KV kvs vs->KV (Jj kvs more) (merged vs rs):=by
 intro more rs kvs vs r;unfold KV at r
 induction r generalizing kvs vs with
 | nil=>intro q;exact q
 | @cons p q ps qs h t ih=>
  intro r0;have e:KV (Wn kvs p.1 p.2) (stored vs q.1 q.2):=by
   have:=r0.put p.1 h.2;rw[<-h.1];exact this
  exact ih e
theorem WQ:∀(more kvs:List (Key × V)),(Jj kvs more).length<=kvs.length+more.length
 | [],kvs=>by show kvs.length<=kvs.length+0;omega
 | p::r,kvs=>by
  have h1:=WQ r (Wn kvs p.1 p.2);have h2:=Qbm kvs p.1 p.2;show (Jj (Wn kvs p.1 p.2) r).length<=_;rw[Xq];omega
theorem QeO{P:Program}{w:World}:∀{kvs:List (Key × V)} {ws:List (Value × Value)},VV (kvs.map λkv=>(kV kv.1,kv.2)) ws->∃rs,Carries (QT P w) ws rs/\KV kvs rs
 | [],_,r=>by rw[X6] at r;cases r;exact⟨[],True.intro,.nil⟩
 | p::kvs,_,r=>by
  rw[Xr] at r;cases r with
  | @cons a b as bs h t=>
   obtain⟨rs,c,q⟩:=QeO (P:=P) (w:=w) t;obtain⟨b1,b2⟩:=b;exact⟨(p.1,b2)::rs,⟨Qbk h.1,rfl,c⟩,.cons ⟨rfl,h.2⟩ q⟩
abbrev Qsm(trs:List (TE × TE)):TE:=fun σ H Q=>∀p,H p=none->QkY trs σ (upd H p (.dK [])) λps H2=>H2 p=some (.dK [])/\∃kvs:List (Key × V),ps=kvs.map (λkv=>(kV kv.1,kv.2))/\kvs.length<=15/\Q (.ref p) (upd H2 p (.dK (Jj [] kvs)))
theorem Qpw{X:Cx}{pos:Pos}{keys:List (Option Expr)}{values:List Expr}{trs:List (TE × TE)}(h:PPs X pos keys values trs)(hall:keys.all (·.isSome)=true)(hl:keys.length=values.length)(h0:keys≠[])
  (h15:keys.length<=15):PE X (.Dict keys values pos) (Qsm trs):=by
 intro pins s σ H Q I q;have hn:=I.hok.fresh (Xe s.heap.objs.size);have I1:=I.laid (a:=s.heap.objs.size) (o:=.dK []) (h':=s.heap.push { cls:=.type "dict",data:=.dict #[] }) (t':=s.toks) (λ_ _ q=>Xb _ q) (Xe _) (QiR s.heap I.big);refine wpAny_Dict_walk (knd:=QT X.prog X.w) hall hl h0 h15 (thn (h pins _ σ _ _ I1 (q _ hn)) λws s2 ⟨ps,H2,I2,rel,e,kvs,ep,lk,q2⟩=>?_);subst ep;obtain⟨rs,c,rk⟩:=QeO (P:=X.prog) (w:=X.w) rel;obtain⟨z,hd,vs0,r0,dd⟩:=Qqh I2.hok e;cases r0;refine⟨rs,c,dd,λh' dd' hs=>⟨.ref s.heap.objs.size,_,?_,rfl,q2⟩⟩;have hz:(Jj [] kvs).length<=sizeLine:=by
  have h1:=WQ kvs [];rw[X5] at h1;rw[sizeLine_eq];omega
 have he:∃q,h'.get? s.heap.objs.size=some q:=let ⟨q,_,_,hq,_⟩:=dd';⟨q,hq⟩
 exact QhE I2 (by rw[e];exact True.intro) hs he (Qnq hz hd (rk.merge .nil) dd')
structure M1(X:Cx)(o:Expr)(m:Str)(apos:Pos)(e:Expr)(cpos:Pos):Prop where
 base:attributeBase o m X.env (eval o X.env)=eval o X.env
 few:((backTo cpos (starEach [e] X.env)).all (λx=>!x.1)&&(backToKw cpos (keywordEach [] X.env)).all (λx=>x.1.isSome)
  && decide (([e]:List Expr).length+([]:List Keyword).length+(if ([]:List Keyword).isEmpty then 0 else 1)<30))=true
 line:(apos.endLine==cpos.line)=true
 trees:backTo cpos (starEach [e] X.env)=[(false,eval e X.env)]
structure M2(X:Cx)(o:Expr)(m:Str)(apos:Pos)(e f:Expr)(cpos:Pos):Prop where
 base:attributeBase o m X.env (eval o X.env)=eval o X.env
 few:((backTo cpos (starEach [e,f] X.env)).all (λx=>!x.1)&&(backToKw cpos (keywordEach [] X.env)).all (λx=>x.1.isSome)
  && decide (([e,f]:List Expr).length+([]:List Keyword).length+(if ([]:List Keyword).isEmpty then 0 else 1)<30))=true
 line:(apos.endLine==cpos.line)=true
 trees:backTo cpos (starEach [e,f] X.env)=[(false,eval e X.env),(false,eval f X.env)]
def IsD(H:Hp)(a:Addr):Prop:=(∃kvs,Rd H a (.dK kvs))\/∃kvs,Rd H a (.dT kvs)
theorem QnE{X:Cx}{pins:List (Addr × Obj)}{σ:St}{H:Hp}{s:Shared}{a:Addr}(I:Inv X pins σ H s)(d:IsD H a) :
  s.TypeIs (.ref a) "dict"/\(∀b,Value.ref a=.ref b->∃ob,s.heap.get? b=some ob/\ob.dict=none)/\(a==sysModules)=false:=by
 rcases d with ⟨kvs,e⟩ | ⟨kvs,e⟩
 ·obtain⟨_,hd,vs,_,dd⟩:=QdT I.hok e;refine⟨dd.typeIs,λb q=>?_,hd⟩;cases q;obtain⟨ob,_,_,h1,h2,_⟩:=dd;exact⟨ob,h1,h2.2.1⟩
 ·obtain⟨_,hd,xs,_,dd⟩:=QeU I.hok e;refine⟨dd.typeIs,λb q=>?_,hd⟩;cases q;obtain⟨ob,_,_,h1,h2,_⟩:=dd;exact⟨ob,h1,h2.2.1⟩
section
variable {X:Cx} {pins:List (Addr × Obj)} {σ:St} {H:Hp} {s:Shared} {a:Addr} {y d:V} {u r:Value} {o:Option V} {A:Around} {E:Value->Shared->Prop}
theorem QqG{Q:Value->Shared->Prop}(hu:A.units+1<cLine)(I:Inv X pins σ H s)(g:ZP H a y o)(ry:QZ y u)(h:∀w' s',Inv X pins σ H s'->QZ (o.getD .non) w'->Q w' s') :
  wpAny (model X.prog X.w) A (call (.builtin "dict.get") [.ref a,u]) Q E s:=by
 rcases g with ⟨kvs,k,e,ey,l⟩ | ⟨kvs,k,b,e,ey,eb,l⟩
 ·subst ey;obtain⟨z,hd,vs,rel,dd⟩:=QdT I.hok e;refine call_meetsIn XC dd.typeIs XM (Uw _ _) (meets_dict_get (QT X.prog X.w) a (Qbk ry) hd) ⟨_,dd.mapOf,h _ _ (I.tok _) ?_⟩;rw[l];exact (rel.val k).getD rfl
 ·subst ey;cases (show u=Value.ref b from ry);obtain⟨z,hd,xs,rel,dd⟩:=QeU I.hok e;refine call_meetsIn XC dd.typeIs XM (Uw _ _) (meetsH_dict_get (tupleKind (QT X.prog X.w)) a b hd) ⟨tupleKind_room_in1 hu,k,xs,Qdn I.hok eb,dd,h _ _ (I.tok _) ?_⟩;rw[l];exact (rel.val k).getD rfl
theorem QqH{Q:Value->Shared->Prop}(hu:A.units+1<cLine)(I:Inv X pins σ H s)(g:ZP H a y o)(ry:QZ y u)(rd:QZ d r)(h:∀w' s',Inv X pins σ H s'->QZ (o.getD d) w'->Q w' s') :
  wpAny (model X.prog X.w) A (call (.builtin "dict.get") [.ref a,u,r]) Q E s:=by
 rcases g with ⟨kvs,k,e,ey,l⟩ | ⟨kvs,k,b,e,ey,eb,l⟩
 ·subst ey;obtain⟨z,hd,vs,rel,dd⟩:=QdT I.hok e;refine call_meetsIn XC dd.typeIs XM (Ux _ _ _) (meets_dict_get_default (QT X.prog X.w) a (Qbk ry) hd r) ⟨_,dd.mapOf,h _ _ (I.tok _) ?_⟩;rw[l];exact (rel.val k).getD rd
 ·subst ey;cases (show u=Value.ref b from ry);obtain⟨z,hd,xs,rel,dd⟩:=QeU I.hok e;refine call_meetsIn XC dd.typeIs XM (Ux _ _ _) (meetsH_dict_get_default (tupleKind (QT X.prog X.w)) a b hd r) ⟨tupleKind_room_in1 hu,k,xs,Qdn I.hok eb,dd,h _ _ (I.tok _) ?_⟩;rw[l];exact (rel.val k).getD rd
end
abbrev Qrv(td ty:TE):TE:=fun σ H Q=>td σ H λx H1=>∃a,x=.ref a/\IsD H1 a/\ty σ H1 λy H2=>∃o,ZP H2 a y o/\Q (o.getD .non) H2
abbrev Qrw(td ty tx:TE):TE:=fun σ H Q=>td σ H λx H1=>∃a,x=.ref a/\IsD H1 a/\ty σ H1 λy H2=>tx σ H2 λz H3=>∃o,ZP H3 a y o/\Q (o.getD z) H3
section
variable {X:Cx} {o e f:Expr} {apos cpos:Pos} {td ty tx:TE}
theorem QnY(hu:X.A.units+1<cLine)(ho:PE X o td)(he:PE X e ty)(m:M1 X o "get" apos e cpos):PE X (.Call (.Attribute o "get" apos) [e] [] cpos) (Qrv td ty):=by
 intro pins s σ H Q I h;refine wpAny_Call_method m.base m.few m.line Uy XC UI (thn (ho pins s σ H _ I h) λu s1 ⟨x,H1,I1,rx,a,ex,d,q1⟩=>?_);subst ex;obtain rfl:u=Value.ref a:=rx;obtain⟨t1,t2,_⟩:=QnE I1 d;refine⟨t1,t2,?_⟩;rw[m.trees];refine Calls.callWith_builtin rfl (Calls.evalArgs_plain (Calls.spliced_cons (thn (he pins s1 σ H1 _ I1 q1) λiv s2 ⟨y,H2,I2,ry,ov,g,q2⟩=>Calls.spliced_nil ?_)));exact QqG hu I2 g ry λw' s3 I3 rw'=>⟨_,H2,I3,rw',q2⟩
theorem QfL(hu:X.A.units+1<cLine)(ho:PE X o td)(he:PE X e ty)(hf:PE X f tx)(m:M2 X o "get" apos e f cpos):PE X (.Call (.Attribute o "get" apos) [e,f] [] cpos) (Qrw td ty tx):=by
 intro pins s σ H Q I h;refine wpAny_Call_method m.base m.few m.line Uy XC UI (thn (ho pins s σ H _ I h) λu s1 ⟨x,H1,I1,rx,a,ex,d,q1⟩=>?_);subst ex;obtain rfl:u=Value.ref a:=rx;obtain⟨t1,t2,_⟩:=QnE I1 d;refine⟨t1,t2,?_⟩;rw[m.trees];refine Calls.callWith_builtin rfl (Calls.evalArgs_plain (Calls.spliced_cons (thn (he pins s1 σ H1 _ I1 q1) λiv s2 ⟨y,H2,I2,ry,q2⟩=>
  Calls.spliced_cons (thn (hf pins s2 σ H2 _ I2 q2) λfv s3 ⟨z,H3,I3,rz,ov,g,q3⟩=>Calls.spliced_nil ?_))))
 exact QqH hu I3 g ry rz λw' s4 I4 rw'=>⟨_,H3,I4,rw',q3⟩
end
theorem Qfj:typeLookup (.type "list") "keys"=pure none:=am_miss_of_fast (by first | decide +kernel | rfl)
theorem QjT:entryFor table "dict.update.loop"=some Builtin.«dict.update.loop»:=entryFor_of_tree (by kernel_rfl)
theorem QbC:plainId "dict.update.loop"=true:=by decide +kernel
section
variable {prog:Program} {w:World} {A:Around} {E:Value->Shared->Prop}
theorem Qmw{s:Shared}{a:Addr}{o:Obj}{xs:Array Value}{k:Nat}{Q:Option Value->Shared->Prop}(hx:s.heap.get? a=some o)(hc:o.cls=.type "list")(hdat:o.data=.seq xs k)(hd:o.dict=none)(hA:A.handled=none)
  (h:∀h' tk,(∀b ob,s.heap.get? b=some ob->h'.get? b=some ob)->Q none { s with heap:=h',toks:=tk }):wpAny (model prog w) A (getAttr? (.ref a) "keys") Q E s:=by
 obtain⟨c,dct,dat,sl⟩:=o;simp only at hc hdat hd;subst hc hdat hd;obtain⟨hp,g,d,tk,os⟩:=s;have hT:∀tk',(⟨hp,g,d,tk',os⟩:Shared).TypeIs (.ref a) "list":=λ_=>⟨_,hx,rfl⟩
 have hmiss:=Qfj;have hname:(["__module__","__name__","__qualname__","__doc__","__annotations__"]:List Str).contains "keys"=false:=by decide +kernel
 have hsz:("keys":Str).length+100<=sizeLine:=by first | size_fits | decide +kernel
 have f1:=sub_AttributeError;have f3:=PySem.F.slot_list_getattribute.lookup;have f4:=PySem.F.slot_list_getattribute.bind (.ref a);have f5:=am_list_getattr_none;unfold getAttr? getAttrBy? getAttrBy
 repeat (any_goals (first | assumption | exact hT _ | ((with_reducible show wpAny _ _ (call (Value.builtin "list.__getattribute__") _ _) _ _ _);refine call_meets PySem.F.slot_list_getattribute (hT _) am_entry_list_getattribute (PySem.F.args_list_getattribute_2 _ _) (meets_getattribute_miss_list a xs k sl "keys" _ hmiss hname hsz) ⟨hx,hA,λh' tk' e hx'=>?_⟩) | wp_step))
 obtain⟨t',u',he⟩:=hx'.there;show wpAny _ _ (getattributeRaised _ _ _ _ _ _ _) _ _ _;unfold getattributeRaised
 repeat (any_goals (first | assumption | wp_step))
 all_goals first | exact h _ _ hx'.keeps | (dsimp only;repeat (any_goals (first | assumption | exact h _ _ hx'.keeps | wp_step)))
theorem QjV{R:Result->Shared->Prop}{S I l:Addr}{items:Array Value}{res:Value}(hh:A.handled=none)(hlI:l≠I)(hSI:S≠I)(hSl:S≠l) :
  ∀(JC:List (Key × Value)) (i:Nat) (acc:List (Key × Value)) (ix:Int) (t:Tok) (s:Shared),items.size=i+JC.length->acc.length+JC.length<=sizeLine->
   (∀(j:Nat) (q:Key × Value),JC[j]?=some q->QA λ(b:Addr) (u:Value)=>items[i+j]?=some (.ref b)/\b≠S/\b≠I/\IsTup s.heap b #[u,q.2]/\QcG q.1 u=true)->
   s.heap.IsListIter I l i->s.heap.IsList l items->s.heap.DictOf (QT prog w) S acc->
   (∀h' tk,h'.DictOf (QT prog w) S (merged acc JC)->(∀b o,b≠S->b≠I->s.heap.get? b=some o->h'.get? b=some o)->R (.ok (.ret res)) { s with heap:=h',toks:=tk })->
   codeAny (model prog w) A (.builtin "dict.update.loop" ⟨[.ref S,.ref I,.int ix t,res],[]⟩) R s
 | [],i,acc,ix,t,s,hsz,hln,ht,hit,hl,hm,hR=>by
  refine codeAny_builtin QjT ?_;rw[Around.under_plainId QbC _];show wpAny _ A.in1 (pyNext (.ref I) >>= _) _ _ s;refine wpAny_bind (wpAny_pyNext_list_end (A:=A.in1) hh hit hl (by first | exact UB (X9 hsz) | (simp at hsz;simp;omega)) λh' he=>?_);show wpAny _ A.in1 (Builtin.Dict.addKeywords S [] >>= _) _ _ _;refine wpAny_bind (wpAny_pure (wpAny_pure ?_));exact hR h' s.toks (hm.extBut he hSI) λb o _ hb e=>he b o hb e
 | q::JC,i,acc,ix,t,s,hsz,hln,ht,hit,hl,hm,hR=>by
  obtain⟨b,u,hb,hbS,hbI,htup,hk⟩:=ht 0 q rfl;rw[Xq] at hsz hln;refine codeAny_builtin QjT ?_;rw[Around.under_plainId QbC _];show wpAny _ A.in1 (pyNext (.ref I) >>= _) _ _ s;refine wpAny_bind (wpAny_pyNext_list_item (x:=.ref b) hit hl (by simpa using hb) λh1 hit1 hs1=>?_);have ht1:IsTup h1 b #[u,q.2]:=htup.extBut hs1.extBut hbI;have hl1:h1.IsList l items:=hl.extBut hs1.extBut hlI;have hm1:h1.DictOf (QT prog w) S acc:=hm.extBut hs1.extBut hSI;obtain⟨o,ho,hc,n,hd⟩:=id ht1;show wpAny _ A.in1 (holding [Value.ref b] _ >>= _) _ _ _;refine wpAny_bind (wpAny_holding ?_);refine wpAny_bind (wpAny_tryCatch ?_);unfold Builtin.Dict.pairItems;refine wpAny_bind (wpAny_typeOf (T:="tuple") ⟨o,ho,hc⟩ ?_);rw[if_pos (by first | decide | rfl | simp)];refine wpAny_bind (wpAny_seqItems ho hd (wpAny_pure ?_));show wpAny _ A.in1 (holding [u,q.2] (dictSet S u q.2)) _ _ _;refine wpAny_holding (wpAny_dictSet_pairs (knd:=QT prog w) (k:=q.1) hk hm1 (λh2 hm2 hs2=>?_) (by omega));refine wpAny_pure ⟨plainId_quiet QbC _,QjV (items:=items) hh hlI hSI hSl JC (i+1) (stored acc q.1 q.2) (ix+1) 0 _ (show items.size=i+1+JC.length by omega) ?_ (λj q' e=>?_) ?_ ?_ hm2 λh' tk hd' k=>?_⟩
  ·have z:=stored_length_le acc q.1 q.2;omega
  ·obtain⟨b',u',hb',hbS',hbI',htup',hk'⟩:=ht (j+1) q' (by simpa using e);refine⟨b',u',?_,hbS',hbI',(htup'.extBut hs1.extBut hbI').extBut hs2.extBut hbS',hk'⟩;rw[show i+1+j=i+(j+1) by omega];exact hb'
  ·exact hit1.at λo' e=>hs2.extBut I o' (Ne.symm hSI) e
  ·exact hl1.extBut hs2.extBut (Ne.symm hSl)
  ·exact hR h' tk hd' λc oc h3 h4 e=>k c oc h3 h4 (hs2.extBut c oc h3 (hs1.extBut c oc h4 e))
theorem Qeg{s:Shared}{l:Addr}{ol:Obj}{items:Array Value}{n:Nat}{prs:List (Key × Value)}{Q:Value->Shared->Prop}(hh:A.handled=none)(hl:s.heap.get? l=some ol)(hc:ol.cls=.type "list")(hd:ol.dict=none)
  (hdat:ol.data=.seq items n) (hsz:items.size=prs.length) (hln:prs.length<=sizeLine)
  (ht:∀(j:Nat) (q:Key × Value),prs[j]?=some q->QA λ(b:Addr) (u:Value)=>items[j]?=some (.ref b)/\IsTup s.heap b #[u,q.2]/\QcG q.1 u=true)
  (h:∀h' tk,h'.DictOf (QT prog w) s.heap.objs.size (merged [] prs)->(∀b o,s.heap.get? b=some o->h'.get? b=some o)->Q (.ref s.heap.objs.size) { s with heap:=h',toks:=tk }) :
  wpAny (model prog w) A (call (.type "dict") [.ref l]) Q E s:=by
 refine callType_codes (Q₁:=λobj s₁=>obj=.ref s.heap.objs.size/\s₁={ s with heap:=s.heap.push { cls:=.type "dict",data:=.dict #[] } }) PySem.F.kt_called_dict (PySem.F.kt_typeCall_dict_1 _) PySem.F.entry_dict_init (kt_code_dict_new _ ⟨rfl,rfl⟩) ?_;rintro obj s₁ ⟨rfl,rfl⟩;have hnew:(s.heap.push { cls:=.type "dict",data:=.dict #[] }).DictOf (QT prog w) s.heap.objs.size []:=U4 s.heap;have k0:∀b o,s.heap.get? b=some o->(s.heap.push { cls:=.type "dict",data:=.dict #[] }).get? b=some o:=λb o e=>Xb _ e
 refine⟨hnew.typeIs,PySem.F.args_dict_init_2 _ _,?_⟩;unfold Builtin.«dict.__init__»;refine wpAny_bind ?_;unfold Builtin.Dict.selfAndRest;refine wpAny_bind (wpAny_notOrdered_dict hnew.typeIs ?_);show wpAny _ _ (pure (s.heap.objs.size,[Value.ref l])) _ _ _;refine wpAny_pure ?_;show wpAny _ _ (Builtin.Dict.updateFrom "dict.__init__" s.heap.objs.size (.ref l) [] .none) _ _ _;unfold Builtin.Dict.updateFrom;refine wpAny_bind (wpAny_typeOf (T:="list") ⟨ol,k0 _ _ hl,hc⟩ ?_);rw[if_pos (by first | decide | rfl | simp)];refine wpAny_bind (Qmw (k0 _ _ hl) hc hdat hd hh λh1 tk1 hk1=>?_);rw[if_pos (show (none:Option Value).isNone=true from rfl)];refine wpAny_bind (wpAny_rule ?_);have hl1:h1.IsList l items:=⟨ol,hk1 _ _ (k0 _ _ hl),hc,n,hdat⟩;have hS1:s.heap.objs.size<h1.objs.size:=by
  have e:(s.heap.push { cls:=.type "dict",data:=.dict #[] }).get? s.heap.objs.size=some { cls:=.type "dict",data:=.dict #[] }:=Xg _ rfl;exact Xf (hk1 _ _ e)
 refine wpAny_bind (wpAny_pyIter_list hl1 ?_);have k2:∀b o,h1.get? b=some o->(h1.push { cls:=.type "list_iterator",data:=.fields #[.ref l,.int 0 0] }).get? b=some o:=λb o e=>Xb _ e
 have hlt:l<s.heap.objs.size:=Xf hl;have key:=QjV (prog:=prog) (w:=w) (A:=A.in1) (R:=wants (λr s₂=>r=.none/\Q (.ref s.heap.objs.size) s₂) E) (S:=s.heap.objs.size) (I:=h1.objs.size) (l:=l) (items:=items) (res:=Value.none) hh
  (Xl (Ur hlt hS1)) (Xl hS1) (Us hlt) prs 0 [] 0 0
  { s with heap:=h1.push { cls:=.type "list_iterator",data:=.fields #[.ref l,.int 0 0] },toks:=tk1 } (by rw[hsz,XD]) (by rw[X5,XD];exact hln)
  (λj q e=>by
    obtain⟨b,u,e1,e2,e3⟩:=ht j q e;have hb:b<s.heap.objs.size:=e2.lt;exact⟨b,u,by rw[XD];exact e1,Xl hb,Xl (Ur hb hS1),e2.keeps λc o z=>k2 _ _ (hk1 _ _ (k0 _ _ z)),e3⟩)
  ⟨_,Xg _ rfl,rfl,rfl⟩ (hl1.at λo e=>k2 _ _ e) ((hnew.at λo e=>hk1 _ _ e).at λo e=>k2 _ _ e)
  (λh' tk hd' k=>⟨rfl,h h' tk hd' λb o e=>k b o (Xl (Xf e)) (Xl (Ur (Xf e) hS1)) (k2 _ _ (hk1 _ _ (k0 _ _ e)))⟩)
 first
  | exact wpAny_pure ⟨plainId_quiet QbC _,key⟩
  | exact wpAny_bind (wpAny_pure (wpAny_pure ⟨plainId_quiet QbC _,key⟩))
end
section
variable {X:Cx}
theorem Qjo{pins:List (Addr × Obj)}{σ:St}{H:Hp}{s:Shared}(I:Inv X pins σ H s):∀{ps:List Addr} {kvs:List (Key × V)},Paired (λp kv=>SqT X.K H p [kV kv.1,kv.2]) ps kvs->
  ∃prs:List (Key × Value),KV kvs prs/\prs.length=ps.length/\∀(j:Nat) (q:Key × Value),prs[j]?=some q->QA λ(b:Addr) (u:Value)=>ps[j]?=some b/\IsTup s.heap b #[u,q.2]/\QcG q.1 u=true
 | _,_,.nil=>⟨[],.nil,rfl,λj q e=>by simp at e⟩
 | _,_,.cons (a:=p) (b:=kv) h t=>by
  obtain⟨prs,r,hl,hp⟩:=Qjo I t;obtain⟨its,rv,ht,_⟩:=I.tuple h;obtain⟨u,y,ei,ru,ry⟩:=Qst rv;subst ei;refine⟨(kv.1,y)::prs,.cons ⟨rfl,ry⟩ r,by rw[Xq,Xq,hl],λj q e=>?_⟩;cases j with
  | zero=>
   have e':(kv.1,y)=q:=Xm e;subst e';exact⟨p,u,rfl,ht,Qbk (P:=X.prog) (w:=X.w) ru⟩
  | succ j=>
   obtain⟨b,u',e1,e2,e3⟩:=hp j q (by simpa using e);exact⟨b,u',by simpa using e1,e2,e3⟩
theorem QlI:∀{ps:List Addr} {us:List Value},QP (ps.map V.ref) us->us=ps.map Value.ref
 | [],us,r=>by
  rw[X6] at r;cases r;rfl
 | p::ps,us,r=>by
  rw[Xr] at r;cases r with
  | cons h t=>
   cases h;rw[Xr,<-QlI t]
theorem QeN(hcalm:X.calm=true):W7 X (.type "dict") (λxs H Q=>JP λ(a:Addr) (ps:List Addr) (kvs:List (Key × V))=>xs=[.ref a]/\SqL X.K H a (ps.map V.ref)/\Paired (λp kv=>SqT X.K H p [kV kv.1,kv.2]) ps kvs/\
  ∀p,H p=none->Q (.ref p) (upd H p (.dK (Jj [] kvs)))):=by
 intro pins s σ H xs us Q I r q;obtain⟨a,ps,kvs,ex,hq,hp,q⟩:=q;subst ex;obtain⟨u,eu,rx⟩:=Qed r;subst eu;cases rx;obtain⟨its,rv,pl,hz⟩:=I.list hq;have ei:=QlI rv;subst ei;rw[XA] at hz;obtain⟨prs,rel,hl,hpr⟩:=Qjo I hp;obtain⟨o,n,ho,hc,hd,hdat⟩:=pl;refine Qeg (prs:=prs) (I.ok.hd hcalm) ho hc hd hdat (by simp[hl]) (by rw[hl];exact hz) (λj q' e=>?_) λh' tk hd' k=>?_
 ·obtain⟨b,u,e1,e2,e3⟩:=hpr j q' e;exact⟨b,u,by simp[e1],e2,e3⟩
 ·have hm:(s.heap.objs.size==sysModules)=false:=beq_eq_false_iff_ne.mpr (Us I.big);have hlen:(Jj [] kvs).length<=sizeLine:=by
   refine Xo (WQ kvs []) ?_;rw[X5,XD,rel.length,hl];exact hz
  exact⟨.ref s.heap.objs.size,upd H s.heap.objs.size (.dK (Jj [] kvs)),I.laid (t':=tk) k (Xe _) (show J1 X.prog X.w _ _ _ (.dK (Jj [] kvs)) from ⟨hlen,hm,merged [] prs,KV.merge rel .nil,hd'⟩),rfl,q _ (I.hok.fresh (Xe _))⟩
end
section
variable {X:Cx} {pins:List (Addr × Obj)} {σ:St} {H:Hp} {s:Shared} {h':Heap}
theorem Inv.turnedL{t':Nat}{ch:List Addr}(I:Inv X pins σ H s)(k:∀b o,b ∉ ch->s.heap.get? b=some o->h'.get? b=some o)(hf:∀b ∈ ch,Qef X pins H b):Inv X pins σ H { s with heap:=h',toks:=t' }:=by
 have nit:∀b u,H b=some u->b ∉ ch:=λb u e z=>by
  have q:=(hf b z).1;rw[q] at e;cases e
 refine I.step (g':=s.gens) (d':=s.drawn) (ch:=ch) (λb hb=>⟨(hf b hb).2.2.2.1,(hf b hb).2.1,(hf b hb).2.2.2.2.1,(hf b hb).2.2.2.2.2⟩) (λb o _ _ hc e _=>k b o hc e) (λb o _ _ hc e _=>⟨o.slots,k b o hc e⟩)
  (λ_ _ _ _ n=>n) (λb o hc e=>⟨o,k b o hc e⟩) (λ_ _ e=>e) (λ_ _ _ e=>e) (λb ps e=>⟨#[],by rw[e];simp⟩) (λm hm=>?_) (λb u e=>?_) I.bare
 ·obtain⟨o,es,ep,ho,r⟩:=hm;exact⟨o,es,ep,k _ o (λz=>(hf _ z).2.1 rfl) ho,r⟩
 ·refine (I.hok b u e).stay (λc v hc q=>k c v ?_ q) (λ_ q=>q) λ_ _ q=>q
  rcases hc with z | z
  ·rw[z];exact nit b u e
  ·exact nit c _ z
theorem Inv.turnedNew{t':Nat}{ch:List Addr}{T:Addr}{ob:HO}(I:Inv X pins σ H s)(k:∀b o,b ∉ ch->s.heap.get? b=some o->h'.get? b=some o)(hf:∀b ∈ ch,Qef X pins H b)(hT:s.heap.objs.size<=T)
  (new:J1 X.prog X.w (upd H T ob) h' T ob):Inv X pins σ (upd H T ob) { s with heap:=h',toks:=t' }:=by
 have hn:H T=none:=I.hok.fresh hT;have nit:∀b u,H b=some u->b ∉ ch:=λb u e z=>by
  have q:=(hf b z).1;rw[q] at e;cases e
 refine I.step (g':=s.gens) (d':=s.drawn) (ch:=ch) (λb hb=>⟨(hf b hb).2.2.2.1,(hf b hb).2.1,(hf b hb).2.2.2.2.1,(hf b hb).2.2.2.2.2⟩) (λb o _ _ hc e _=>k b o hc e) (λb o _ _ hc e _=>⟨o.slots,k b o hc e⟩)
  (λb o _ e n=>?_) (λb o hc e=>⟨o,k b o hc e⟩) (λb xs e=>?_) (λb o u e=>?_) (λb ps e=>⟨#[],?_⟩) (λm hm=>?_) (λb u e=>?_) I.bare
 ·rw[Qq (Xl (Xi (Xf e) hT))];exact n
 ·rw[Qq (Q3 e hn)];exact e
 ·rw[Qq (Q3 e hn)];exact e
 ·rw[Qq (Q3 e hn),e];simp
 ·obtain⟨o,es,ep,ho,r⟩:=hm;exact⟨o,es,ep,k _ o (λz=>(hf _ z).2.1 rfl) ho,r⟩
 ·by_cases hb:b=T
  ·subst hb;rw[Qh] at e;cases e;exact new
  ·rw[Qq hb] at e;refine (I.hok b u e).stay (λc v hc q=>k c v ?_ q) (λc q=>by rw[Qq (Q3 q hn)];exact q) λc xs q=>by rw[Qq (Q3 q hn)];exact q
   rcases hc with z | z
   ·rw[z];exact nit b u e
   ·exact nit c _ z
theorem Inv.lock{d:Addr}{u:HO}(I:Inv X pins σ H s)(h:H d=some u)(mu:Mut (some u)):∃od,Inv X pins σ (upd H d (.frz od u)) s:=by
 have x:=I.hok d u h;have ex:∃od,s.heap.get? d=some od:=by
  cases u with
  | lst xs=>obtain⟨_,_,_,_,e⟩:=x;exact⟨_,e⟩
  | dK kvs=>obtain⟨_,_,_,_,o,_,_,e,_⟩:=x;exact⟨o,e⟩
  | dT kvs=>obtain⟨_,_,_,_,o,_,_,e,_⟩:=x;exact⟨o,e⟩
  | set S n=>obtain⟨o,_,_,_,e,_⟩:=x;exact⟨o,e⟩
  | ins C dx fs=>obtain⟨_,_,_,e,_⟩:=x;exact⟨_,e⟩
  | ext φ=>obtain⟨_,⟨_,e⟩,_⟩:=x;exact⟨_,e⟩
  | _=>exact False.elim mu
 obtain⟨od,e⟩:=ex;have new:J1 X.prog X.w (upd H d (.frz od u)) s.heap d (.frz od u):=by
  refine⟨e,x.stay (λb v _ q=>q) (λb q=>?_) λb xs q=>?_⟩
  ·rw[Qq (λz=>by rw[z,h] at q;cases q;exact mu)];exact q
  ·rw[Qq (λz=>by rw[z,h] at q;cases q;exact mu)];exact q
 exact⟨od,I.write (x:=d) (e:=d) (t':=s.toks) (h':=s.heap) (by rw[h];exact mu) (.inl rfl) (λb v _ q=>q) ⟨od,e⟩ new⟩
theorem Inv.nofrz{d:Addr}{u:HO}(I:Inv X pins σ H s)(h:H d=some u)(mu:Mut (some u)):∀o' u',X.H_0 d≠some (.frz o' u'):=λo' u' e=>by
 have q:=I.base.frzs d o' u' e;rw[h] at q;cases q;exact mu
theorem Inv.unlock{d:Addr}{od:Obj}{u:HO}(I:Inv X pins σ H s)(h:H d=some (.frz od u))(hn:∀o' u',X.H_0 d≠some (.frz o' u')):Inv X pins σ (upd H d u) s:=by
 have neH:∀b o,H b=some o->(∀o' u',o≠.frz o' u')->b≠d:=λb o e hne z=>by
  rw[z,h] at e;cases e;exact hne _ _ rfl
 have neN:∀b,H b=none->b≠d:=λb e z=>by rw[z,h] at e;cases e
 refine⟨I.ok,I.os,I.bare,⟨I.base.keep,I.base.slot,λb o e n hx=>?_,I.base.there,λb xs e=>?_,λb o x e=>?_,λb ps e=>?_⟩,I.loc,I.cell,?_,λx c e=>?_,λp hp=>?_,λb o e=>?_,I.len⟩
 ·rw[Qq (neN b (I.base.free b o e n hx))];exact I.base.free b o e n hx
 ·have q:=I.base.tups b xs e;rw[Qq (neH b _ q (λ_ _ z=>nomatch z))];exact q
 ·have q:=I.base.frzs b o x e;rw[Qq (λz=>by rw[z] at e;exact hn _ _ e)];exact q
 ·obtain⟨m,q⟩:=I.base.tbls b ps e;exact⟨m,by rw[Qq (neH b _ q (λ_ _ z=>nomatch z))];exact q⟩
 ·rw[Qq (neN _ I.free)];exact I.free
 ·rw[Qq (neN c (I.freeC x c e))];exact I.freeC x c e
 ·obtain⟨e,n,r⟩:=I.pin p hp;exact⟨e,by rw[Qq (neN _ n)];exact n,r⟩
 ·by_cases hb:b=d
  ·rw[hb,Qh] at e;cases e;rw[hb];obtain⟨_,x⟩:=I.hok d _ h;exact x.stay (λc v _ q=>q) (λc q=>by rw[Qq (neH c _ q (λ_ _ z=>nomatch z))];exact q) λc xs q=>by rw[Qq (neH c _ q (λ_ _ z=>nomatch z))];exact q
  ·rw[Qq hb] at e;exact (I.hok b o e).stay (λc v _ q=>q) (λc q=>by rw[Qq (neH c _ q (λ_ _ z=>nomatch z))];exact q) λc xs q=>by rw[Qq (neH c _ q (λ_ _ z=>nomatch z))];exact q
end
abbrev Qso(t:TS):TS:=λD σ H=>QA λd u=>H d=some u/\Mut (some u)/\∀od,t ⟨fun σ' H'=>H' d=some (.frz od u)/\D.nx σ' (upd H' d u),λv H'=>H' d=some (.frz od u)/\D.rt v (upd H' d u),fun σ' H'=>H' d=some (.frz od u)/\D.bk σ' (upd H' d u),fun σ' H'=>H' d=some (.frz od u)/\D.ct σ' (upd H' d u)⟩ σ (upd H d (.frz od u))
abbrev QrA(t:TE):TE:=fun σ H Q=>QA λd u=>H d=some u/\Mut (some u)/\∀od,t σ (upd H d (.frz od u)) λv H'=>H' d=some (.frz od u)/\Q v (upd H' d u)
section
variable {X:Cx}
theorem QpD{st:Stmt}{t:TS}(h:PS X st t):PS X st (Qso t):=by
 intro pins s σ H D I hw;obtain⟨d,u,hd,mu,hw⟩:=hw;obtain⟨od,I1⟩:=I.lock hd mu;refine thn (h pins s σ _ _ I1 (hw od)) λf s1 q=>?_
 cases f with
 | next=>obtain⟨σ',H',I2,e,q⟩:=q;exact⟨σ',_,I2.unlock e (I.nofrz hd mu),q⟩
 | brk=>obtain⟨σ',H',I2,e,q⟩:=q;exact⟨σ',_,I2.unlock e (I.nofrz hd mu),q⟩
 | cont=>obtain⟨σ',H',I2,e,q⟩:=q;exact⟨σ',_,I2.unlock e (I.nofrz hd mu),q⟩
 | ret v=>obtain⟨x,σ',H',I2,r,e,q⟩:=q;exact⟨x,σ',_,I2.unlock e (I.nofrz hd mu),r,q⟩
theorem Qpy{e:Expr}{t:TE}(h:PE X e t):PE X e (QrA t):=by
 intro pins s σ H Q I hw;obtain⟨d,u,hd,mu,hw⟩:=hw;obtain⟨od,I1⟩:=I.lock hd mu;refine thn (h pins s σ _ _ I1 (hw od)) λv s1 ⟨x,H1,I2,r,e2,q⟩=>?_
 exact⟨x,_,I2.unlock e2 (I.nofrz hd mu),r,q⟩
theorem Qib{tg:Expr}{pins:List (Addr × Obj)}{σ:St}{H:Hp}{s:Shared}{R:It->Hp->Prop}{J:It}{tn:Nat->Heap->Prop}{tk:Nat}(I:Inv X pins σ H s)(o:Obj)
  (T:Qgi X.prog X.w X.K tg J [s.heap.objs.size] s.heap.objs.size tn) (st:tn 0 (s.heap.push o)) (q:R J H):PIE X pins σ tg R (.ref s.heap.objs.size) { s with heap:=s.heap.push o,toks:=tk }:=by
 refine⟨s.heap.objs.size,[s.heap.objs.size],tn,J,H,rfl,I.kept λb ob e=>Xb _ e,T,st,λb hb=>?_,q⟩;have e:b=s.heap.objs.size:=by simpa using hb
 subst e;exact I.fpOk (Xe _) (I.hok.fresh (Xe _))
end
def Itc(lo c:Int)(n:Nat):It:=⟨λi _=>i<n,λi H x H'=>H'=H/\x=.int (lo+(i:Nat) * c),λi _=>n<=i⟩
theorem QjR{P:Program}{w:World}{K:Xa}{tg:Expr}(it:Addr)(lo c:Int)(n:Nat):Qgi P w K tg (Itc lo c n) [it] it (λi h=>IsRangeIter h it (lo+(i:Nat) * c) ((n:Int)-(i:Nat)) c) where
 mem:=by simp
 obj:=λi h st b hb=>by
  have e:b=it:=by simpa using hb
  subst e;exact⟨_,st,λv z=>nomatch z⟩
 keep:=λi h h' st k=>k it (by simp) _ st
 item:=by
  intro X hP hw hK hc i pins s σ H E I hf st hg;subst hP hw hK;obtain⟨f0,f1,f2,f3,f4,f5⟩:=hf it (by simp);have W:=Walks.range (prog:=X.prog) (w:=X.w) (I.ok.hd hc) it lo c n;refine W.item i s _ _ hg st λv h' tk hv st' kk=>?_
  obtain⟨t,rfl⟩:=hv;have I1:Inv X pins σ H { s with heap:=h',toks:=tk }:=I.turned (λb o hb e=>kk b o (by simpa using hb) e) f0 f1 f3 f4 f5;exact⟨_,rfl,QgU (s:={ s with heap:=h',toks:=tk }) (n:="range_iterator") st' rfl rfl (by decide) ⟨.int (lo+(i:Nat) * c),H,I1,⟨t,rfl⟩,⟨rfl,rfl⟩,st',λb hb=>(hf b hb).1⟩⟩
 done:=by
  intro X hP hw hK hc i pins s σ H E I hf st hg;subst hP hw hK;obtain⟨f0,f1,f2,f3,f4,f5⟩:=hf it (by simp);exact wpAny_pyNext_range_end (I.ok.hd hc) st (by have:n<=i:=hg;omega) λh' eb=>⟨rfl,I.turned (t':=s.toks) (λb o hb e=>eb b o hb e) f0 f1 f3 f4 f5⟩
 self:=λA i s Q E st h=>wpAny_pyIter_rangeiter st h
def RgC(i j c:Int)(n:Nat):Prop:=c≠0/\c.natAbs<1073741824/\Builtin.Range.small i j c=true/\Builtin.Range.rangeSize i j c=n
theorem RgC.neg{i j:Int}(ha:-(2 ^ 62)<=i)(ha':i<2 ^ 62)(hb:-(2 ^ 62)<=j)(hb':j<2 ^ 62):RgC i j (-1) (i-j).toNat:=
 ⟨by decide,by decide,PySem.W.small_down ha ha' hb hb',PySem.W.rangeSize_downNat i j⟩
abbrev Qr1(ta:TA):TI:=fun σ H R=>ta σ H λvs H1=>YS λ(i j c:Int) (n:Nat)=>vs=[.int i,.int j,.int c]/\RgC i j c n/\R (Itc i c n) H1
section
variable {X:Cx} {tg:Expr}
theorem QmH{a b c:Expr}{ta:TA}{p pos:Pos}(hg:Gl X "range")(hm:X.mg "range"=none)(ha:PA X [a,b,c] ta)
  (hs:starEach [a,b,c] X.env=(false,eval a X.env)::starEach [b,c] X.env:=by rfl) (hpl:(backTo pos (starEach [b,c] X.env)).any (·.1)=false:=by rfl) :
  PI X tg (.Call (.Name "range" p) [a,b,c] [] pos) (Qr1 ta):=by
 intro pins s σ H R I h;refine Call_ (Qcb I hg hm boot_range (PyProof.Rows.callWith_type1 (thn (ha pos pins s σ H _ I h) λus s1 ⟨vs,H1,I1,r1,q1⟩=>?_) hs hpl));obtain⟨i,j,k,n,e,⟨c0,c1,c2,c3⟩,q⟩:=q1;subst e;cases r1 with
 | cons r rr=>
  cases rr with
  | cons r' rr=>
   cases rr with
   | cons r'' rr=>
    cases rr;obtain⟨t,rfl⟩:=r;obtain⟨t',rfl⟩:=r';obtain⟨t'',rfl⟩:=r'';refine call_range_3 c0 ?_ (.inl (PyProof.noPylong_small c1));refine wpAny_pyIter_range (IsRange.new ..) c2 ?_;have I2:Inv X pins σ H1 { s1 with heap:=s1.heap.push { cls:=.type "range",data:=.fields #[.int i t,.int j t',.int k t''] } }:=I1.kept (t':=s1.toks) λb o e=>Xb _ e
    refine Qib (tk:=s1.toks) I2 _ (QjR _ i k n) ?_ q;have e1:i+((0:Nat):Int) * k=i:=by simp
    have e2:(n:Int)-((0:Nat):Int)=Builtin.Range.rangeSize i j k:=by rw[c3];simp
    show IsRangeIter _ _ (i+((0:Nat):Int) * k) ((n:Int)-((0:Nat):Int)) k;rw[e1,e2];exact Xg _ rfl
end
def Its(x:Str):It:=⟨λi _=>i<x.cps.size,λi H v H'=>H'=H/\∃c,x.cps[i]?=some c/\v=.str ⟨#[c]⟩,λi _=>x.cps.size<=i⟩
theorem QjS{P:Program}{w:World}{K:Xa}{tg:Expr}(it:Addr)(x:Str)(t:Tok)(ty:String)(hty:ty = "str_ascii_iterator"\/ty = "str_iterator") :
  Qgi P w K tg (Its x) [it] it (λi h=>h.IsStrIter it ty x t i) where
 mem:=by simp
 obj:=λi h st b hb=>by
  have e:b=it:=by simpa using hb
  subst e;obtain⟨o,e,c,d⟩:=st;exact⟨o,e,λv z=>by rw[d] at z;cases z⟩
 keep:=λi h h' st k=>let ⟨o,ho,r⟩:=st;⟨o,k it (by simp) o ho,r⟩
 item:=by
  intro X hP hw hK hc i pins s σ H E I hf st hg;subst hP hw hK;obtain⟨f0,f1,f2,f3,f4,f5⟩:=hf it (by simp);have W:Walks X.prog X.w X.A it [it] [it] x.cps.size (SignAt x) (λi h=>h.IsStrIter it ty x t i):=by
   rcases hty with e | e
   ·rw[e];exact Walks.strAscii (I.ok.hd hc) it x t
   ·rw[e];exact Walks.strWide (I.ok.hd hc) it x t
  have hno:["enumerate","zip","dict_itemiterator","dict_reverseitemiterator","odict_iterator","itertools.zip_longest","itertools.pairwise"].contains ty=false:=by
   rcases hty with e | e
   ·rw[e];decide
   ·rw[e];decide
  refine W.item i s _ _ hg st λv h' tk hv st' kk=>?_
  obtain⟨c,u,hcx,rfl⟩:=hv;have I1:Inv X pins σ H { s with heap:=h',toks:=tk }:=I.turned (λb o hb e=>kk b o (by simpa using hb) e) f0 f1 f3 f4 f5;obtain⟨oi,e,cc,dd⟩:=id st';exact⟨_,rfl,QgU (s:={ s with heap:=h',toks:=tk }) e cc dd hno ⟨.str ⟨#[c]⟩,H,I1,⟨u,rfl⟩,⟨rfl,c,hcx,rfl⟩,st',λb hb=>(hf b hb).1⟩⟩
 done:=by
  intro X hP hw hK hc i pins s σ H E I hf st hg;subst hP hw hK;obtain⟨f0,f1,f2,f3,f4,f5⟩:=hf it (by simp);have hx:x.cps[i]?=none:=UB hg;rcases hty with e | e
  ·rw[e] at st;exact wpAny_pyNext_ascii_end (I.ok.hd hc) st hx λh' eb=>⟨rfl,I.turned (t':=s.toks) (λb o hb e=>eb b o hb e) f0 f1 f3 f4 f5⟩
  ·rw[e] at st;exact wpAny_pyNext_wide_end (I.ok.hd hc) st hx λh' eb=>⟨rfl,I.turned (t':=s.toks) (λb o hb e=>eb b o hb e) f0 f1 f3 f4 f5⟩
 self:=λA i s Q E st h=>by
  rcases hty with e | e
  ·rw[e] at st;exact wpAny_pyIter_striter_ascii st h
  ·rw[e] at st;exact wpAny_pyIter_striter_wide st h
abbrev QsO(te:TE):TI:=fun σ H R=>te σ H λv H1=>∃x,v=.str x/\R (Its x) H1
theorem Qkz{X:Cx}{tg e:Expr}{te:TE}(he:PE X e te):PI X tg e (QsO te):=by
 intro pins s σ H R I h;refine thn (he pins s σ H _ I h) λv s1 ⟨y,H1,I1,r1,x,ex,q⟩=>?_
 subst ex;obtain⟨t,rfl⟩:=r1;cases ha:x.cps.all (·<128)
 ·exact wpAny_pyIter_wide ha (Qib (tk:=s1.toks) I1 _ (QjS _ x t "str_iterator" (.inr rfl)) ⟨_,Xg _ rfl,rfl,rfl⟩ q)
 ·exact wpAny_pyIter_ascii ha (Qib (tk:=s1.toks) I1 _ (QjS _ x t "str_ascii_iterator" (.inl rfl)) ⟨_,Xg _ rfl,rfl,rfl⟩ q)
theorem QqU{κ:Type}{kvs:List (κ × V)}{vs:List (κ × Value)}(h:KV kvs vs):∀{i:Nat} {k:κ} {v:V},kvs[i]?=some (k,v)->∃u,vs[i]?=some (k,u)/\QZ v u:=by
 unfold KV at h
 induction h with
 | nil=>intro i k v e;simp at e
 | @cons a b l₁ l₂ r t ih=>
  intro i k v e;cases i with
  | zero=>
   simp only[Uv,Option.some.injEq] at e;subst e;refine⟨b.2,?_,r.2⟩;simp only[Uv];exact congrArg some (Prod.ext r.1.symm rfl)
  | succ j=>
   simp only[List.getElem?_cons_succ] at e ⊢;exact ih e
section
variable {X:Cx} {pins:List (Addr × Obj)} {σ:St} {H:Hp} {s:Shared} {d:Addr} {o:Obj}
theorem Inv.frzK{kvs:List (Key × V)}(I:Inv X pins σ H s)(h:H d=some (.frz o (.dK kvs))) :
  (d==sysModules)=false/\s.heap.get? d=some o/\o.ExactDict/\JP λ(es:Array DictEntry) (ep:Nat) (vs:List (Key × Value))=>o.data=.dict es ep/\es.size=kvs.length/\KV kvs vs/\s.heap.DictAt (QT X.prog X.w) d vs ep:=by
 obtain⟨hd,z,hs,vs,kv,o',es,ep,ho,hx,hdt,r⟩:=I.hok d _ h;rw[hd] at ho;cases ho;refine⟨hs,hd,hx,es,ep,vs,hdt,?_,kv,o,es,hd,hx,hdt,r⟩;have l1:=r.2.1.length;have l2:kvs.length=vs.length:=Paired.length kv;rw[XQ] at l1;omega
end
def Itd(d:Addr)(o:Obj)(kvs:List (Key × V)):It:=
 ⟨λi H=>H d=some (.frz o (.dK kvs))/\i<kvs.length,λi H x H'=>H'=H/\∃k,kvs[i]?=some (k,x),λi H=>H d=some (.frz o (.dK kvs))/\kvs.length<=i⟩
theorem Qli{o:Obj}{es es':Array DictEntry}{ep ep':Nat}(h:o.data=.dict es ep)(h':o.data=.dict es' ep'):es'=es/\ep'=ep:=by
 rw[h] at h';cases h';exact⟨rfl,rfl⟩
section
variable {P:Program} {w:World} {K:Xa} {tg:Expr} {d:Addr} {o:Obj} {es:Array DictEntry} {ep:Nat}
theorem Qm5{kvs:List (Key × V)}(it:Addr)(hod:o.data=.dict es ep):Qgi P w K tg (Itd d o kvs) [it] it (λi h=>h.IsValIter it d i kvs.length ep) where
 mem:=by simp
 obj:=λi h st b hb=>by
  have e:b=it:=by simpa using hb
  subst e;obtain⟨oi,e,c,dd⟩:=st;exact⟨oi,e,λv z=>by rw[dd] at z;cases z⟩
 keep:=λi h h' st k=>st.at λoi e=>k it (by simp) oi e
 item:=by
  intro X hP hw hK hc i pins s σ H E I hf st hg;subst hP hw hK;obtain⟨hd,hi⟩:=hg;obtain⟨f0,f1,f2,f3,f4,f5⟩:=hf it (by simp);obtain⟨hs,hgd,hx,es',ep',vs,hdt,hsz,kv,hm⟩:=I.frzK hd;obtain⟨rfl,rfl⟩:=Qli hod hdt;obtain⟨⟨k,v⟩,hkv⟩:∃p,kvs[i]?=some p:=⟨kvs[i],List.getElem?_eq_getElem hi⟩;obtain⟨u,hu,ru⟩:=QqU kv hkv;have hl:kvs.length=vs.length:=Paired.length kv;rw[hl] at st;refine wpAny_pyNext_values_item st hm hu λh' st' sb=>?_
  have I1:Inv X pins σ H { s with heap:=h' }:=I.turned (t':=s.toks) (λb ob hb e=>(sb.2 b hb).trans e) f0 f1 f3 f4 f5;obtain⟨oi,e,c,dd⟩:=id st';refine⟨u,rfl,QgU (s:={ s with heap:=h' }) e c dd (by decide) ⟨v,H,I1,ru,⟨rfl,k,hkv⟩,?_,λb hb=>(hf b hb).1⟩⟩;show h'.IsValIter it d (i+1) kvs.length _;rw[hl];exact st'
 done:=by
  intro X hP hw hK hc i pins s σ H E I hf st hg;subst hP hw hK;obtain⟨hd,hi⟩:=hg;obtain⟨f0,f1,f2,f3,f4,f5⟩:=hf it (by simp);obtain⟨hs,hgd,hx,es',ep',vs,hdt,hsz,kv,hm⟩:=I.frzK hd;obtain⟨rfl,rfl⟩:=Qli hod hdt;have hl:kvs.length=vs.length:=Paired.length kv;rw[hl] at st;exact wpAny_pyNext_values_end (I.ok.hd hc) st hm (UG (by omega)) λh' eb=>⟨rfl,I.turned (t':=s.toks) (λb ob hb e=>eb b ob hb e) f0 f1 f3 f4 f5⟩
 self:=λA i s Q E st h=>wpAny_pyIter_valiter st h
end
abbrev Qr2(td:TE):TI:=fun σ H R=>td σ H λx H1=>JP λd o kvs=>x=.ref d/\H1 d=some (.frz o (.dK kvs))/\R (Itd d o kvs) H1
section
variable {X:Cx} {tg e:Expr} {td:TE} {apos cpos:Pos}
theorem QmI(he:PE X e td)(hbase:attributeBase e "values" X.env (eval e X.env)=eval e X.env:=by rfl)(hline:(apos.endLine==cpos.line)=true:=by rfl):PI X tg (.Call (.Attribute e "values" apos) [] [] cpos) (Qr2 td):=by
 intro pins s σ H R I h;refine wpAny_Call_method (T:="dict") (id:="dict.values") hbase rfl hline F.plainAttrs_dict F.slot_dict_values F.type_dict_values (thn (he pins s σ H _ I h) λu s1 ⟨x,H1,I1,rx,d,o,kvs,ex,hd,q⟩=>?_);subst ex;obtain rfl:u=Value.ref d:=rx;obtain⟨hs,hgd,hx,es,ep,vs,hdt,hsz,kv,hm⟩:=I1.frzK hd;have hl:kvs.length=vs.length:=Paired.length kv;refine⟨hm.dictOf.typeIs,hm.dictOf.mapOf.noDict,?_⟩;have I2:Inv X pins σ H1 { s1 with heap:=s1.heap.push { cls:=.type "dict_values",data:=.fields #[.ref d] } }:=I1.kept (t':=s1.toks) λb ob q=>Xb _ q
 have fin:wpAny (model X.prog X.w) X.A (pyIter (.ref s1.heap.objs.size)) (PIE X pins σ tg R) X.xe { s1 with heap:=s1.heap.push { cls:=.type "dict_values",data:=.fields #[.ref d] } }:=by
  refine wpAny_pyIter_values (d:=d) (knd:=QT X.prog X.w) ⟨_,Xg _ rfl,rfl,rfl⟩ (hm.push _) (Qib (tk:=s1.toks) I2 _ (Qm5 _ hdt) ⟨_,Xg _ rfl,rfl,?_⟩ q);rw[hl]<;>rfl
 show wpAny _ _ (callWith cpos (.builtin "dict.values") [.ref d] [] []) _ X.xe s1;exact method_meetsIn F.slot_dict_values F.entry_dict_values rfl (UP ⟨rfl,hm.dictOf.typeIs,F.args_dict_values_1 _,_,meets_dict_values (QT X.prog X.w) d hs,⟨vs,hm.dictOf⟩,fin⟩)
end
def Ite(K:Xa)(a:Addr):It:=
 ⟨λi H=>QA λ(xs:List V) (x:V)=>SqL K H a xs/\xs[i]?=some x,λi H v H'=>QA λT x=>v=.ref T/\H T=none/\H'=upd H T (.tup [.int (i:Nat),x])/\∀xs,SqL K H a xs->xs[i]?=some x,λi H=>∃xs:List V,SqL K H a xs/\xs.length<=i⟩
theorem Qm3{P:Program}{w:World}{K:Xa}{elts:List Expr}{kk:Nat}{tpos:Pos}(a e it:Addr) :
  Qgi P w K (.Tuple elts kk tpos) (Ite K a) [e,it] e (λi h=>(∃old,IsEnum h e it ((i:Nat):Int) old)/\h.IsListIter it a i/\e≠it) where
 mem:=by simp
 obj:=λi h st b hb=>by
  obtain⟨⟨old,he⟩,⟨o,ho,hc,hd⟩,_⟩:=st;have e':b=e\/b=it:=by simpa using hb
  rcases e' with z | z
  ·rw[z];exact⟨_,he,λv q=>nomatch q⟩
  ·rw[z];exact⟨o,ho,λv q=>by rw[hd] at q;cases q⟩
 keep:=λi h h' st k=>let ⟨⟨old,he⟩,hi,hne⟩:=st;⟨⟨old,k e (by simp) _ he⟩,hi.at λo q=>k it (by simp) o q,hne⟩
 item:=by
  intro X hP hw hK hc i pins s σ H E I hf st hg;subst hP hw hK;obtain⟨⟨old,he⟩,hit,hne⟩:=st;obtain⟨xs,x,hq,hx⟩:=hg;obtain⟨its,rv,p,hz⟩:=I.list hq;obtain⟨u,hu,ru⟩:=rv.get hx;have hel:e<s.heap.objs.size:=Xf he;have hil:it<s.heap.objs.size:=by obtain⟨_,q,_⟩:=hit;exact Xf q
  refine wpAny_pyNext_enum_item he hit p.isList (x:=u) (by simpa using hu) hne λh' ho hit' hT hsz hk=>?_
  refine⟨_,rfl,wpAny_letOwnedTupleGo_enum (s:={ s with heap:=h',toks:=s.toks+1 }) ho λh'' he' sb=>?_⟩;have hT2:h''.get? s.heap.objs.size=some { cls:=.type "tuple",data:=.seq #[.int i s.toks,u] }:=(sb.2 _ (Us hel)).trans hT;have new:J1 X.prog X.w (upd H s.heap.objs.size (.tup [.int (i:Nat),x])) h'' s.heap.objs.size (.tup [.int (i:Nat),x]):=
   ⟨by show 2<=sizeLine;decide,[.int i s.toks,u],.cons ⟨_,rfl⟩ (.cons ru .nil),⟨_,hT2,rfl,_,rfl⟩⟩
  have I1:Inv X pins σ (upd H s.heap.objs.size (.tup [.int (i:Nat),x])) { s with heap:=h'',toks:=s.toks+1 }:=
   I.turnedNew (ch:=[e,it]) (λb ob hb q=>(sb.2 b (λz=>hb (by simp[z]))).trans (hk b ob (λz=>hb (by simp[z])) (λz=>hb (by simp[z])) q)) hf (Xe _) new
  refine⟨.ref s.heap.objs.size,_,I1,rfl,⟨_,x,rfl,I.hok.fresh (Xe _),rfl,λys hy=>by rw[I.list_inj hy hq];exact hx⟩,⟨⟨u,?_⟩,hit'.at λo q=>(sb.2 it (Ne.symm hne)).trans q,hne⟩,λb hb=>?_⟩
  ·have e1:((i+1:Nat):Int)=(i:Int)+1:=by omega
   rw[e1];exact he'
  ·have hb':b<s.heap.objs.size:=by
    have e':b=e\/b=it:=by simpa using hb
    rcases e' with z | z
    ·rw[z];exact hel
    ·rw[z];exact hil
   rw[Qq (Xl hb')];exact (hf b hb).1
 done:=by
  intro X hP hw hK hc i pins s σ H E I hf st hg;subst hP hw hK;obtain⟨⟨old,he⟩,hit,hne⟩:=st;obtain⟨xs,hq,hx⟩:=hg;obtain⟨its,rv,p,hz⟩:=I.list hq;obtain⟨f0,f1,f2,f3,f4,f5⟩:=hf it (by simp);have hl:=rv.length;exact wpAny_pyNext_enum_end (I.ok.hd hc) he hit p.isList (by simp;omega) λh' eb=>⟨rfl,I.turned (t':=s.toks) (λb o hb q=>eb b o hb q) f0 f1 f3 f4 f5⟩
 self:=λA i s Q E st h=>let ⟨⟨_,he⟩,_⟩:=st;wpAny_pyIter_enum he h
abbrev QrY(K:Xa)(ta:TA):TI:=fun σ H R=>ta σ H λvs H1=>QA λa xs=>vs=[.ref a]/\SqL K H1 a xs/\R (Ite K a) H1
theorem QlE{X:Cx}{e:Expr}{ta:TA}{p pos tpos:Pos}{elts:List Expr}{kk:Nat}(hg:Gl X "enumerate")(hm:X.mg "enumerate"=none)(ha:PA X [e] ta)(hs:starEach [e] X.env=[(false,eval e X.env)]:=by rfl) :
  PI X (.Tuple elts kk tpos) (.Call (.Name "enumerate" p) [e] [] pos) (QrY X.K ta):=by
 intro pins s σ H R I h;refine Call_ (Qcb I hg hm boot_enumerate (PyProof.Rows.callWith_type1 (thn (ha pos pins s σ H _ I h) λus s1 ⟨vs,H1,I1,r1,q1⟩=>?_) hs rfl));obtain⟨a,xs,ex,hq,q⟩:=q1;subst ex;cases r1 with
 | cons r rr=>
  cases rr;cases r;obtain⟨its,rv,p',hz⟩:=I1.list hq;refine call_enumerate_list p'.isList λh' he hit hsz hk=>wpAny_pyIter_enum he ?_
  have I2:Inv X pins σ H1 { s1 with heap:=h' }:=I1.kept (t':=s1.toks) hk;refine⟨s1.heap.objs.size+1,[s1.heap.objs.size+1,s1.heap.objs.size],_,_,H1,rfl,I2,Qm3 a (s1.heap.objs.size+1) s1.heap.objs.size,⟨⟨.none,he⟩,hit,Nat.succ_ne_self _⟩,λb hb=>?_,q⟩;have e':b=s1.heap.objs.size+1\/b=s1.heap.objs.size:=by simpa using hb
  have hle:s1.heap.objs.size<=b:=by
   rcases e' with z | z
   ·rw[z];exact Nat.le_add_right _ _
   ·rw[z];exact Xe _
  exact I1.fpOk hle (I1.hok.fresh hle)
theorem QlY:bootBuiltins "zip"=some (.type "zip"):=by decide +kernel
end L2
section 
namespace TL
open PySem PySem.Builtin PySem.Builtin.Str PySem.StrLaws
abbrev tl(x:Str):List Nat:=x.cps.toList
theorem WP(x:Str):x.length=(tl x).length:=by simp[tl,Str.length]
theorem Qb9{x y:Str}(h:tl x=tl y):x=y:=Str.ext' (Array.toList_inj.mp h)
theorem Qar(x y:Str):tl (x++y)=tl x++tl y:=by
 show (x++y).cps.toList=_;rw[Str.cps_append,Array.toList_append]
theorem Qql(x:Str):(⟨(tl x).toArray⟩:Str)=x:=Qb9 rfl
def pre(S l:List Nat):Bool:=l.take S.length==S
def spl(S:List Nat):Nat->List Nat->List Nat->List (List Nat)
 | _,acc,[]=>[acc]
 | 0,acc,c::r=>if pre S (c::r)=true then acc::spl S (S.length-1) [] r else spl S 0 (acc++[c]) r
 | k+1,acc,_::r=>spl S k acc r
def par(S:List Nat):List Nat->List Nat->Option (List Nat × List Nat)
 | _,[]=>none
 | acc,c::r=>if pre S (c::r)=true then some (acc,(c::r).drop S.length) else par S (acc++[c]) r
theorem Qc2(S:List Nat)(k:Nat)(acc:List Nat):spl S k acc []=[acc]:=by cases k<;>rfl
theorem QlO{S acc r:List Nat}{c:Nat}(h:pre S (c::r)=true):spl S 0 acc (c::r)=acc::spl S (S.length-1) [] r:=by
 show (if pre S (c::r)=true then acc::spl S (S.length-1) [] r else spl S 0 (acc++[c]) r)=_;rw[if_pos h]
theorem QjM{S acc r:List Nat}{c:Nat}(h:pre S (c::r)=false):spl S 0 acc (c::r)=spl S 0 (acc++[c]) r:=by
 show (if pre S (c::r)=true then acc::spl S (S.length-1) [] r else spl S 0 (acc++[c]) r)=_;rw[if_neg (by rw[h];exact Xc)]
theorem QjN(S:List Nat):∀(k:Nat) (acc l:List Nat),spl S k acc l=spl S 0 acc (l.drop k)
 | 0,_,_=>by rw[XB]
 | k+1,acc,[]=>by rw[List.drop_nil,Qc2,Qc2]
 | k+1,acc,c::r=>by
  show spl S k acc r=spl S 0 acc (r.drop k);exact QjN S k acc r
theorem Qpu{S acc r:List Nat}{c:Nat}(h:pre S (c::r)=true):par S acc (c::r)=some (acc,(c::r).drop S.length):=by
 show (if pre S (c::r)=true then some (acc,(c::r).drop S.length) else par S (acc++[c]) r)=_;rw[if_pos h]
theorem QnT{S acc r:List Nat}{c:Nat}(h:pre S (c::r)=false):par S acc (c::r)=par S (acc++[c]) r:=by
 show (if pre S (c::r)=true then some (acc,(c::r).drop S.length) else par S (acc++[c]) r)=_;rw[if_neg (by rw[h];exact Xc)]
theorem QlG{S:List Nat}(hS:S≠[]):pre S []=false:=by
 cases S with
 | nil=>exact absurd rfl hS
 | cons s S=>rfl
theorem Qd3{s c:Nat}(S r:List Nat)(h:c≠s):pre (s::S) (c::r)=false:=by
 cases hp:pre (s::S) (c::r) with
 | false=>rfl
 | true=>
  have e:(c::r).take (s::S).length=s::S:=eq_of_beq hp;rw[Xq,Uc] at e;injection e with e1 e2;exact absurd e1 h
theorem Qjt(S r:List Nat):pre S (S++r)=true:=by
 show ((S++r).take S.length==S)=true;have e:(S++r).take S.length=S:=UH;rw[e]<;>exact beq_self_eq_true S
theorem WF{L:List Nat}{a:Nat}(h:a<L.length):∃c,L.drop a=c::L.drop (a+1):=⟨L[a],Uk h⟩
theorem Qc3(S L:List Nat):∀(m a:Nat) (acc:List Nat),a+m<=L.length->(∀k,a<=k->k<a+m->pre S (L.drop k)=false)->
  spl S 0 acc (L.drop a)=spl S 0 (acc++(L.drop a).take m) (L.drop (a+m))
 | 0,a,acc,_,_=>by rw[Xab,X3,Nat.add_zero]
 | m+1,a,acc,h,hn=>by
  have hlt:a<L.length:=by omega
  obtain⟨c,e⟩:=WF hlt;have h0:=hn a (Xe _) (by omega);have ih:=Qc3 S L m (a+1) (acc++[c]) (by omega) (λk h1 h2=>hn k (by omega) (by omega));have e2:a+1+m=a+(m+1):=by omega
  rw[e2] at ih;rw[e] at h0;rw[e,QjM h0,ih,Uc,XN]<;>rfl
theorem QcP(S L:List Nat):∀(m a:Nat) (acc:List Nat),a+m<=L.length->(∀k,a<=k->k<a+m->pre S (L.drop k)=false)->
  par S acc (L.drop a)=par S (acc++(L.drop a).take m) (L.drop (a+m))
 | 0,a,acc,_,_=>by rw[Xab,X3,Nat.add_zero]
 | m+1,a,acc,h,hn=>by
  have hlt:a<L.length:=by omega
  obtain⟨c,e⟩:=WF hlt;have h0:=hn a (Xe _) (by omega);have ih:=QcP S L m (a+1) (acc++[c]) (by omega) (λk h1 h2=>hn k (by omega) (by omega));have e2:a+1+m=a+(m+1):=by omega
  rw[e2] at ih;rw[e] at h0;rw[e,QnT h0,ih,Uc,XN]<;>rfl
theorem QcC(L:List Nat)(a b:Nat):(L.drop a).drop b=L.drop (a+b):=by
 first
  | rw[U9]
  | rw[U9,Nat.add_comm]
theorem Qoy{S L:List Nat}(hS:S≠[]){c:Nat}{acc:List Nat}(h:pre S (L.drop c)=true):spl S 0 acc (L.drop c)=acc::spl S 0 [] (L.drop (c+S.length)):=by
 rw[<-QcC];cases e:L.drop c with
 | nil=>rw[e,QlG hS] at h;cases h
 | cons d r=>
  rw[e] at h;rw[QlO h,QjN];cases S with
  | nil=>exact absurd rfl hS
  | cons s S=>rfl
theorem Qh4{S L:List Nat}(hS:S≠[]){c:Nat}{acc:List Nat}(h:pre S (L.drop c)=true):par S acc (L.drop c)=some (acc,L.drop (c+S.length)):=by
 rw[<-QcC];cases e:L.drop c with
 | nil=>rw[e,QlG hS] at h;cases h
 | cons d r=>
  rw[e] at h;rw[Qpu h]
theorem Qj4{x y:Str}(hy:tl y≠[])(i:Nat):At x y x.length i↔pre (tl y) ((tl x).drop i)=true:=by
 have hx:=WP x;have hl:=WP y;constructor
 ·intro h;have h2:=h.2;rw[subAt_eq,hl] at h2;exact h2
 ·intro h;have e:((tl x).drop i).take (tl y).length=tl y:=eq_of_beq h;have e1:=congrArg List.length e;rw[X1,XO] at e1;have e2:0<(tl y).length:=UN.mpr hy;refine⟨by omega,?_⟩;rw[subAt_eq,hl];exact h
theorem QlB{x y:Str}(hy:tl y≠[]){i:Nat}(h:¬At x y x.length i):pre (tl y) ((tl x).drop i)=false:=by
 cases hp:pre (tl y) ((tl x).drop i) with
 | false=>rfl
 | true=>exact absurd ((Qj4 hy i).mpr hp) h
theorem Qpi{y:Str}(hy:tl y≠[]):1<=y.length:=by
 have e2:0<(tl y).length:=UN.mpr hy;rw[WP y];exact e2
theorem QdD(x:Str)(i j:Nat):tl (strSub x i j)=((tl x).drop i).take (j-i):=strSub_toList x i j
theorem W3(x:Str)(i:Nat):tl (strSub x i x.length)=(tl x).drop i:=by
 rw[QdD,WP x];exact XX (by rw[XO]<;>omega)
theorem Qhb{x y:Str}(hy:tl y≠[]):∀(cuts:List Nat) (a f:Nat),a<=(tl x).length->ChainG x y x.length a cuts f->(∀k,f<=k->¬At x y x.length k)->
  (partsFrom x y.length a cuts).map tl=spl (tl y) 0 [] ((tl x).drop a)
 | [],a,f,ha,h,hn=>by
  have e:f=a:=h;subst e;show [tl (strSub x f x.length)]=_;have run:=Qc3 (tl y) (tl x) ((tl x).length-f) f [] (by omega) (λk h1 _=>QlB hy (hn k h1));have e2:f+((tl x).length-f)=(tl x).length:=by omega
  rw[e2,X0,Qc2,XS,XX (by rw[XO]<;>omega)] at run;rw[run,W3]
 | c::r,a,f,ha,h,hn=>by
  obtain⟨h1,h2,h3,h4⟩:=h;have hc:c+y.length<=x.length:=h2.1;have hx:=WP x;have hl:=WP y;have ih:=Qhb hy r (c+y.length) f (by omega) h4 hn;show tl (strSub x a c)::(partsFrom x y.length (c+y.length) r).map tl=_;have run:=Qc3 (tl y) (tl x) (c-a) a [] (by omega) (λk k1 k2=>QlB hy (h3 k k1 (by omega)));have e2:a+(c-a)=c:=by omega
  rw[e2,XS,Qoy hy ((Qj4 hy c).mp h2)] at run;rw[run,ih,QdD,hl]
theorem QmZ(x y:Str)(hy:tl y≠[])(hk:¬Builtin.Str.strKind x<Builtin.Str.strKind y):(Txt.split x y).map tl=spl (tl y) 0 [] (tl x):=by
 obtain⟨f,g,hn⟩:=occ_tight x y (Qpi hy);have key:=Qhb hy _ 0 f (XY _) g hn;rw[XB] at key;have none_case:occurrences x y 0 x.length (x.length+1)=[]->[x].map tl=spl (tl y) 0 [] (tl x):=λho=>by
  rw[ho] at key;rw[<-key];show [tl x]=[tl (strSub x 0 x.length)];rw[sub_whole]
 unfold Txt.split
 by_cases h1:(decide (x.length<y.length)||decide (Builtin.Str.strKind x<Builtin.Str.strKind y))=true
 ·rw[if_pos h1];have hlt:x.length<y.length:=by
   simp only[U3,decide_eq_true_eq] at h1;rcases h1 with h | h
   ·exact h
   ·exact absurd h hk
  refine none_case ?_;cases ho:occurrences x y 0 x.length (x.length+1) with
  | nil=>rfl
  | cons c r=>
   rw[ho] at g;have hc:c+y.length<=x.length:=g.2.1.1;omega
 ·rw[if_neg h1]
  by_cases h2:(occurrences x y 0 x.length (x.length+1)).isEmpty=true
  ·rw[if_pos h2];exact none_case (List.isEmpty_iff.mp h2)
  ·rw[if_neg h2,partsBetween_eq];exact key
theorem Qph{x y:Str}(h:y.cps.all (·<256)=true):¬Builtin.Str.strKind x<Builtin.Str.strKind y:=by
 have e:Builtin.Str.strKind y=1:=by unfold Um;rw[if_pos h]
 rw[e];unfold Um
 split
 ·omega
 ·split<;>omega
theorem Qb2(x y:Str)(hy:tl y≠[]) :
  Txt.partition x y=(match par (tl y) [] (tl x) with | some (a,b)=>(⟨a.toArray⟩,y,⟨b.toArray⟩) | none=>(x,Str.empty,Str.empty)):=by
 have hx:=WP x;have hl:=WP y;rcases PyProof.Rows.partition_whole x y with ⟨e,hn⟩ | ⟨i,e,hi,hn⟩
 ·have run:=QcP (tl y) (tl x) (tl x).length 0 [] (by omega) (λk _ _=>QlB hy (hn k));rw[XB,XD,X0] at run;rw[e,run]<;>rfl
 ·have hb:i+y.length<=x.length:=hi.1;have run:=QcP (tl y) (tl x) i 0 [] (by omega) (λk _ k2=>QlB hy (hn k (by omega)));rw[XB,XD,XS,Qh4 hy ((Qj4 hy i).mp hi)] at run;rw[e,run];have e1:strSub x 0 i=⟨((tl x).take i).toArray⟩:=Qb9 (by rw[QdD,XB,Nat.sub_zero]);have e2:strSub x (i+y.length) x.length=⟨((tl x).drop (i+(tl y).length)).toArray⟩:=Qb9 (by rw[W3,hl]);rw[e1,e2]<;>rfl
theorem Qsj{S p JC acc:List Nat}(hS:S≠[])(h:∀i,i<p.length->pre S ((p++(S++JC)).drop i)=false) :
  spl S 0 acc (p++(S++JC))=(acc++p)::spl S 0 [] JC:=by
 have run:=Qc3 S (p++(S++JC)) p.length 0 acc (by rw[Xt];omega) (λk _ k2=>h k (by omega));have ed:(p++(S++JC)).drop p.length=S++JC:=Ud;rw[XB,XD,UH] at run;rw[run,Qoy hS (by rw[ed];exact Qjt S JC),<-QcC,ed,Ud]
theorem Qsi{S p acc:List Nat}(h:∀i,i<p.length->pre S (p.drop i)=false):spl S 0 acc p=[acc++p]:=by
 have run:=Qc3 S p p.length 0 acc (by omega) (λk _ k2=>h k (by omega));rw[XB,XD,X0,Qc2,List.take_length] at run;exact run
theorem QnV{S p JC acc:List Nat}(hS:S≠[])(h:∀i,i<p.length->pre S ((p++(S++JC)).drop i)=false) :
  par S acc (p++(S++JC))=some (acc++p,JC):=by
 have run:=QcP S (p++(S++JC)) p.length 0 acc (by rw[Xt];omega) (λk _ k2=>h k (by omega));have ed:(p++(S++JC)).drop p.length=S++JC:=Ud;rw[XB,XD,UH] at run;rw[run,Qh4 hS (by rw[ed];exact Qjt S JC),<-QcC,ed,Ud]
theorem QnU{S p acc:List Nat}(h:∀i,i<p.length->pre S (p.drop i)=false):par S acc p=none:=by
 have run:=QcP S p p.length 0 acc (by omega) (λk _ k2=>h k (by omega));rw[XB,XD,X0] at run;exact run
theorem Qll{s:Nat}{S p q:List Nat}(h:s ∉ p):∀i,i<p.length->pre (s::S) ((p++q).drop i)=false:=λi hi=>by
 have hlt:i<(p++q).length:=by rw[Xt];omega
 have e:(p++q).drop i=(p++q)[i]::(p++q).drop (i+1):=Uk hlt;rw[e];refine Qd3 _ _ λz=>h ?_
 have e1:(p++q)[i]=p[i]:=List.getElem_append_left hi;rw[<-z,e1];exact List.getElem_mem hi
theorem QmE{s:Nat}{S p JC acc:List Nat}(h:s ∉ p):par (s::S) acc (p++(s::S++JC))=some (acc++p,JC):=QnV (by simp) (Qll h)
theorem QmD{s:Nat}{S p acc:List Nat}(h:s ∉ p):par (s::S) acc p=none:=QnU λi hi=>by
 have z:=Qll (S:=S) (q:=[]) h i hi;rw[X3] at z;exact z
def Qi3(S:List Nat):List (List Nat)->List Nat
 | []=>[]
 | [p]=>p
 | p::q::r=>p++(S++Qi3 S (q::r))
theorem QlS(y:Str):∀parts:List Str,tl (Str.join y parts)=Qi3 (tl y) (parts.map tl)
 | []=>rfl
 | [_]=>rfl
 | x::z::r=>by
  show tl (x++y++Str.join y (z::r))=tl x++(tl y++Qi3 (tl y) ((z::r).map tl));rw[Qar,Qar,QlS y (z::r),XN]
theorem Qpf(y:Str)(parts:List Str):Txt.join y parts=Str.join y parts:=glued_eq_join y parts
theorem Qgq{y:Str}{s:Nat}{S:List Nat}(ey:tl y=s::S){a b:Str}(h:s ∉ tl a):Txt.partition (a++y++b) y=(a,y,b):=by
 rw[Qb2 _ y (by rw[ey];simp),Qar,Qar,XN,ey,QmE h];show ((⟨([]++tl a).toArray⟩:Str),y,(⟨(tl b).toArray⟩:Str))=_;rw[XS,Qql,Qql]
theorem QfI{y:Str}{s:Nat}{S:List Nat}(ey:tl y=s::S){a:Str}(h:s ∉ tl a):Txt.partition a y=(a,Str.empty,Str.empty):=by
 rw[Qb2 _ y (by rw[ey];simp),ey,QmD h]
end TL
end 
namespace L2
open PySem PySem.Spec PyProof.Rows
theorem Qht:∀l:List (Str × Tok),QP ((l.map (·.1)).map V.str) (strValues l)
 | []=>.nil
 | p::r=>.cons ⟨p.2,rfl⟩ (Qht r)
theorem QaT:∀{ys:List Str} {us:List Value},QP (ys.map V.str) us->StrsAre us ys
 | [],_,.nil=>.nil
 | y::ys,_,.cons r t=>by
  obtain⟨k,rfl⟩:=r;exact .cons y k (QaT t)
def QfR(ys:List Str):Hp->VK->Prop:=λH Q=>∀p,H p=none->Q (.ref p) (upd H p (.lst (ys.map V.str)))
section
variable {X:Cx} {pins:List (Addr × Obj)} {σ:St} {H:Hp} {s:Shared} {Q:VK}
theorem Qdq{l:List (Str × Tok)}{ys:List Str}{k:Nat}(I:Inv X pins σ H s)(e:l.map (·.1)=ys)(hz:ys.length<=sizeLine)(h:QfR ys H Q) :
  EP X pins σ Q (.ref s.heap.objs.size) { s with toks:=k,heap:=s.heap.push { cls:=.type "list",data:=.seq (strValues l).toArray } }:=by
 have hp:=I.hok.fresh (Xe _);refine⟨.ref s.heap.objs.size,upd H s.heap.objs.size (.lst (ys.map V.str)),I.laid (λb u q=>Xb _ q) (Xe _) ⟨by rw[XA];exact hz,strValues l,_,?_,Xg _ rfl⟩,rfl,h _ hp⟩;rw[<-e];exact Qht l
theorem Qff{x y z:Str}{t u v:Tok}{k:Nat}(I:Inv X pins σ H s)(h:∀p,H p=none->Q (.ref p) (upd H p (.tup [.str x,.str y,.str z]))) :
  EP X pins σ Q (.ref s.heap.objs.size) { s with toks:=k,heap:=s.heap.push { cls:=.type "tuple",data:=.seq [Value.str x t,.str y u,.str z v].toArray } }:=by
 have hp:=I.hok.fresh (Xe _);exact⟨.ref s.heap.objs.size,upd H s.heap.objs.size (.tup [.str x,.str y,.str z]),I.laid (λb u q=>Xb _ q) (Xe _)
  ⟨by show 3<=sizeLine;decide,[Value.str x t,.str y u,.str z v],.cons ⟨t,rfl⟩ (.cons ⟨u,rfl⟩ (.cons ⟨v,rfl⟩ .nil)),_,Xg _ rfl,rfl,_,rfl⟩,rfl,h _ hp⟩
end
section
variable {X:Cx}
theorem QnO:MtR X "str.split" (λx xs H Q=>QA λa b=>x=.str a/\xs=[.str b]/\(b.length==0)=false/\a.length+2<=sizeLine/\QfR (Txt.split a b) H Q):=by
 intro pins s σ H x xs v us Q I rx rs h;obtain⟨a,b,rfl,rfl,hb,hz,h⟩:=h;obtain⟨t,rfl⟩:=rx;cases rs with
 | cons r1 rs=>
  cases rs;obtain⟨u,rfl⟩:=r1;have hl:(Txt.split a b).length<=sizeLine:=Xo (PyProof.Rows.split_le a b) hz;have hn:(Builtin.Str.partsBetween a (Builtin.Str.occurrences a b 0 a.length (a.length+1)) b.length).length<=sizeLine:=by
   have e1:=StrLaws.occ_length_le a b 0 a.length (a.length+1);rw[length_partsBetween];omega
  cases h1:(decide (a.length<b.length)||decide (Builtin.Str.strKind a<Builtin.Str.strKind b))
  ·cases hf:(Builtin.Str.occurrences a b 0 a.length (a.length+1)).isEmpty
   ·refine call_meets F.slot_str_split (typeIs_str _ _ _) F.entry_str_split (F.args_str_split_2 _ _) (meets_str_split_sep a b t u h1 hb hf (by omega) hn) ?_;show EP X pins σ Q (.ref s.heap.objs.size) { s with toks:=_,heap:=s.heap.push { cls:=.type "list",data:=.seq (strsFrom s.toks (Builtin.Str.partsBetween a (Builtin.Str.occurrences a b 0 a.length (a.length+1)) b.length)).toArray } };rw[strsFrom_eq];exact Qdq (ys:=Txt.split a b) I ((numbered_texts _ _).trans ((if_neg (ne_true_of_eq_false h1)).trans (if_neg (ne_true_of_eq_false hf))).symm) hl h
   ·refine call_meets F.slot_str_split (typeIs_str _ _ _) F.entry_str_split (F.args_str_split_2 _ _) (meets_str_split_not_found a b t u h1 hb hf) ?_;exact Qdq (l:=[(a,t)]) (ys:=Txt.split a b) (k:=s.toks) I ((if_neg (ne_true_of_eq_false h1)).trans (if_pos hf)).symm hl h
  ·refine call_meets F.slot_str_split (typeIs_str _ _ _) F.entry_str_split (F.args_str_split_2 _ _) (meets_str_split_cannot_occur a b t u h1) ?_;exact Qdq (l:=[(a,t)]) (ys:=Txt.split a b) (k:=s.toks) I (if_pos h1).symm hl h
theorem QhV:MtR X "str.partition" (λx xs H Q=>QA λa b=>x=.str a/\xs=[.str b]/\(b.length==0)=false/\a.length<=sizeLine/\
  ∀p,H p=none->Q (.ref p) (upd H p (.tup [.str (Txt.partition a b).1,.str (Txt.partition a b).2.1,.str (Txt.partition a b).2.2]))):=by
 intro pins s σ H x xs v us Q I rx rs h;obtain⟨a,b,rfl,rfl,hb,hz,h⟩:=h;obtain⟨t,rfl⟩:=rx;cases rs with
 | cons r1 rs=>
  cases rs;obtain⟨u,rfl⟩:=r1;refine call_meets F.slot_str_partition (typeIs_str _ _ _) F.entry_str_partition (F.args_str_partition_2 _ _) (meets_str_partition a b t u hb hz) ?_;unfold Txt.partition at h
  revert h
  cases Builtin.Str.occurrences a b 0 a.length 1 with
  | nil=>intro h;exact Qff I h
  | cons i r=>intro h;exact Qff I h
theorem Qpk:MtR X "str.join" (λx xs H Q=>QA λa p=>∃ys:List Str,x=.str a/\xs=[.ref p]/\(SqL X.K H p (ys.map V.str)\/SqT X.K H p (ys.map V.str))/\
  (ys.map (·.length)).sum+ys.length * a.length<=16777216/\Q (.str (Txt.join a ys)) H):=by
 intro pins s σ H x xs v us Q I rx rs h;obtain⟨a,p,ys,rfl,rfl,hp,hz,h⟩:=h;obtain⟨t,rfl⟩:=rx;cases rs with
 | cons r1 rs=>
  cases rs;cases r1;rcases hp with hp | hp
  ·obtain⟨its,r,⟨o,n,ho,hc,_,hd⟩,_⟩:=I.list hp;exact PyProof.Rows.join_list (items:=its.toArray) ⟨o,ho,hc,n,hd⟩ (by rw[UO];exact QaT r) hz λt' k=>⟨.str _,H,I.tok k,⟨t',rfl⟩,h⟩
  ·obtain⟨its,r,ht,_⟩:=I.tuple hp;exact PyProof.Rows.join_tuple (items:=its.toArray) ht (by rw[UO];exact QaT r) hz λt' k=>⟨.str _,H,I.tok k,⟨t',rfl⟩,h⟩
theorem mt1{id:String}{g:Str->Str->V}(rule:∀(a b:Str) (t u:Tok) (s:Shared) (Q:Value->Shared->Prop),(∀(v:Value) (k:Nat),QZ (g a b) v->Q v { s with toks:=k })->
  wpAny (model X.prog X.w) X.A (call (.builtin id) [.str a t,.str b u]) Q X.xe s):MtR X id (λx xs H Q=>QA λa b=>x=.str a/\xs=[.str b]/\Q (g a b) H):=by
 intro pins s σ H x xs v us Q I rx rs h;obtain⟨a,b,rfl,rfl,h⟩:=h;obtain⟨t,rfl⟩:=rx;cases rs with
 | cons r1 rs=>
  cases rs;obtain⟨u,rfl⟩:=r1;exact rule a b t u s _ λv k r=>⟨g a b,H,I.tok k,r,h⟩
theorem Qgl:MtR X "str.startswith" (λx xs H Q=>QA λa b=>x=.str a/\xs=[.str b]/\Q (.bl (Txt.startswith a b)) H):=
 mt1 (g:=λa b=>.bl (Txt.startswith a b)) λ_ _ _ _ s _ h=>PySem.SC.startswith (h _ s.toks rfl)
theorem Qjb:MtR X "str.endswith" (λx xs H Q=>QA λa b=>x=.str a/\xs=[.str b]/\Q (.bl (Txt.endswith a b)) H):=
 mt1 (g:=λa b=>.bl (Txt.endswith a b)) λ_ _ _ _ s _ h=>PySem.SC.endswith (h _ s.toks rfl)
end
section
variable {X:Cx} {o e:Expr} {to te:TE}
abbrev tM1(r:V->List V->Hp->VK->Prop)(to te:TE):TE:=fun σ H Q=>to σ H λx H1=>(∃a,x=.str a)/\te σ H1 λy H2=>r x [y] H2 Q
theorem Qn0{id:String}{name:Str}{apos pos:Pos}{r:V->List V->Hp->VK->Prop}(slot:Slot "str" name id)(ty:typeOf (.builtin id)=pure (.type "method_descriptor"))(rule:MtR X id r)(ho:PE X o to)(he:PE X e te)
  (hs:starEach [e] X.env=[(false,eval e X.env)]:=by rfl) (hbase:attributeBase o name X.env (eval o X.env)=eval o X.env:=by rfl) (hline:(apos.endLine==pos.line)=true:=by rfl) :
  PE X (.Call (.Attribute o name apos) [e] [] pos) (tM1 r to te):=by
 intro pins s σ H Q I h;refine PySem.Call_method1 hbase hs hline (thn (ho pins s σ H _ I h) λv s1 ⟨x,H1,I1,r1,q1⟩=>?_);obtain⟨⟨a,rfl⟩,q1⟩:=q1;obtain⟨t,rfl⟩:=_root_.id r1;refine⟨"str",_,F.plainAttrs_str,slot,ty,typeIs_str _ _ _,(λ_ e=>nomatch e),Calls.callWith_builtin rfl (Calls.evalArgs_plain (Calls.spliced_cons ?_))⟩;exact thn (he pins s1 σ H1 _ I1 q1) λu s2 ⟨y,H2,I2,r2,q2⟩=>Calls.spliced_nil (rule pins s2 σ H2 _ [y] _ [u] Q I2 r1 (.cons r2 .nil) q2)
theorem QfN{apos pos:Pos}(ho:PE X o to)(he:PE X e te)(hs:starEach [e] X.env=[(false,eval e X.env)]:=by rfl)(hbase:attributeBase o "split" X.env (eval o X.env)=eval o X.env:=by rfl)(hline:(apos.endLine==pos.line)=true:=by rfl) :
  PE X (.Call (.Attribute o "split" apos) [e] [] pos) (tM1 (λx xs H Q=>QA λa b=>x=.str a/\xs=[.str b]/\(b.length==0)=false/\a.length+2<=sizeLine/\QfR (Txt.split a b) H Q) to te):=
 Qn0 F.slot_str_split F.type_str_split QnO ho he hs hbase hline
theorem Qh7{apos pos:Pos}(ho:PE X o to)(he:PE X e te)(hs:starEach [e] X.env=[(false,eval e X.env)]:=by rfl)(hbase:attributeBase o "partition" X.env (eval o X.env)=eval o X.env:=by rfl)(hline:(apos.endLine==pos.line)=true:=by rfl) :
  PE X (.Call (.Attribute o "partition" apos) [e] [] pos) (tM1 (λx xs H Q=>QA λa b=>x=.str a/\xs=[.str b]/\(b.length==0)=false/\a.length<=sizeLine/\
   ∀p,H p=none->Q (.ref p) (upd H p (.tup [.str (Txt.partition a b).1,.str (Txt.partition a b).2.1,.str (Txt.partition a b).2.2]))) to te):=
 Qn0 F.slot_str_partition F.type_str_partition QhV ho he hs hbase hline
theorem Qh6{apos pos:Pos}(ho:PE X o to)(he:PE X e te)(hs:starEach [e] X.env=[(false,eval e X.env)]:=by rfl)(hbase:attributeBase o "join" X.env (eval o X.env)=eval o X.env:=by rfl)(hline:(apos.endLine==pos.line)=true:=by rfl) :
  PE X (.Call (.Attribute o "join" apos) [e] [] pos) (tM1 (λx xs H Q=>QA λa p=>∃ys:List Str,x=.str a/\xs=[.ref p]/\(SqL X.K H p (ys.map V.str)\/SqT X.K H p (ys.map V.str))/\
   (ys.map (·.length)).sum+ys.length * a.length<=16777216/\Q (.str (Txt.join a ys)) H) to te):=
 Qn0 F.slot_str_join F.type_str_join Qpk ho he hs hbase hline
end
section
variable {X:Cx}
theorem Qkv:OpR X (compareOp .In) (λx y H Q=>QA λ(c:Nat) (z:Str)=>x=.str ⟨#[c]⟩/\y=.str z/\Q (.bl (decide (c ∈ z.cps.toList))) H):=by
 intro pins s σ H x y v u Q I rx ry h;obtain⟨c,z,rfl,rfl,q⟩:=h;obtain⟨t,rfl⟩:=rx;obtain⟨t',rfl⟩:=ry;exact PyProof.Rows.in_str (Jl I q (PySem.StrLaws.found_one z c).symm)
end
theorem IsPart.raw{v:Value}{o:Option Int}(p:IsPart v o):∃l:Option (Int × Tok),v=partValue l/\l.map (·.1)=o:=by
 cases p with
 | none=>exact⟨none,rfl,rfl⟩
 | int i t=>exact⟨some (i,t),rfl,rfl⟩
def QiF(n d:Nat):Option Int->Int
 | none=>(d:Int)
 | some i=>max 0 (min (if i<0 then i+(n:Int) else i) (n:Int))
theorem QiG(n d:Nat)(o:Option Int):QiF n d o=((HT.sIx n d o:Nat):Int):=by
 cases o with
 | none=>rfl
 | some v=>
  show max (0:Int) (min (if v<0 then v+(n:Int) else v) (n:Int))=(((if v<0 then (v+(n:Int)).toNat else min v.toNat n):Nat):Int)
  by_cases hv:v<0
  ·simp only[if_pos hv];omega
  ·simp only[if_neg hv];omega
theorem QmO(a b:Option Int)(n:Nat):Builtin.Str.strSliceIndices a b 1 n=sliceRange (QiF n 0 a) (QiF n n b) 1:=by
 have h1:((1:Int) > 0)=True:=by simp
 cases a<;>cases b<;>first
  | rfl
  | (simp only[Builtin.Str.strSliceIndices,QiF,h1,if_true];rfl)
  | simp[Builtin.Str.strSliceIndices,QiF]
theorem Qs0(a b:Option Int)(n:Nat):Builtin.Str.strSliceIndices a b 1 n=(Ul (HT.sIx n n b-HT.sIx n 0 a)).map (λk=>HT.sIx n 0 a+k):=by
 rw[QmO,QiG,QiG];generalize HT.sIx n 0 a=p;generalize HT.sIx n n b=q;simp only[sliceRange,show ((1:Int) > 0)=True from by simp,if_true]
 by_cases hlt:(p:Int)<q
 ·have e3:(((q:Int)-p+1-1) / 1).toNat=q-p:=by first | omega | (simp;done) | (simp;omega)
  simp only[hlt,if_true,e3];refine List.map_congr_left λk _=>?_
  omega
 ·have:q-p=0:=by omega
  simp[hlt,this]
def Qj8(z:Str)(lo hi:Option Int):Str:=
 ⟨((z.cps.toList.drop (HT.sIx z.length 0 lo)).take (HT.sIx z.length z.length hi-HT.sIx z.length 0 lo)).toArray⟩
theorem Qb3(z:Str)(lo hi:Option Int):Xz z lo hi=Qj8 z lo hi:=by
 have h1:HT.sIx z.length 0 lo<=z.length:=HT.Qoh _ _ (XY _) _;have h2:HT.sIx z.length z.length hi<=z.length:=HT.Qoh _ _ (Xe _) _;have hp:HT.sIx z.length 0 lo<=max (HT.sIx z.length 0 lo) (HT.sIx z.length z.length hi):=Nat.le_max_left _ _;have hq:max (HT.sIx z.length 0 lo) (HT.sIx z.length z.length hi)<=z.length:=Nat.max_le.mpr ⟨h1,h2⟩;have hd:max (HT.sIx z.length 0 lo) (HT.sIx z.length z.length hi)-HT.sIx z.length 0 lo=HT.sIx z.length z.length hi-HT.sIx z.length 0 lo:=by omega
 have e:Builtin.Str.strSliceIndices lo hi 1 z.length =
   Builtin.Str.strSliceIndices (some ((HT.sIx z.length 0 lo:Nat):Int)) (some ((max (HT.sIx z.length 0 lo) (HT.sIx z.length z.length hi):Nat):Int)) 1 z.length:=by
  rw[PySem.StrLaws.strSliceIndices_plain hp hq,hd,Qs0]
 have e2:Xz z lo hi =
   Xz z (some ((HT.sIx z.length 0 lo:Nat):Int)) (some ((max (HT.sIx z.length 0 lo) (HT.sIx z.length z.length hi):Nat):Int)):=by
  unfold Xz;rw[e]
 rw[e2,PySem.StrLaws.sliceText_nat z hp hq,hd];rfl
theorem QiI(z:Str)(lo hi:Option Int):(Qj8 z lo hi).length<=z.length:=by
 show (((z.cps.toList.drop (HT.sIx z.length 0 lo)).take (HT.sIx z.length z.length hi-HT.sIx z.length 0 lo)).toArray).size<=z.cps.size;rw[Xd,X1,XO,XQ];omega
def Qq9:V->Option Int->Option Int->Hp->VK->Prop:=λx lo hi H Q=>∃z,x=.str z/\z.length<=sizeLine/\Q (.str (Qj8 z lo hi)) H
theorem QdA{X:Cx}:SlR X Qq9:=by
 intro pins s σ H x v vl vu lo hi sl Q I rx hs pl pu h;obtain⟨z,rfl,hz,q⟩:=h;obtain⟨t,rfl⟩:=rx;obtain⟨os,hos,hcs,hds⟩:=hs;obtain⟨l,rfl,rfl⟩:=IsPart.raw pl;obtain⟨u,rfl,rfl⟩:=IsPart.raw pu;refine⟨"str",_,F.slot_str_getitem.lookup,typeIs_str _ _ _,?_⟩;refine wpAny_getItem_str_slice (l:=l) (u:=u) (st:=none) ⟨os,hos,hcs,hds⟩ rfl ?_;have hl:(Xz z (l.map (·.1)) (u.map (·.1))).length<=sizeLine:=by
  rw[Qb3];exact Xo (QiI z _ _) hz
 rw[<-Qb3] at q;unfold Xz at q hl;show Made.post (if ((1:Int)==1&&(Builtin.Str.strSliceIndices (l.map (·.1)) (u.map (·.1)) 1 z.length).length==z.length)=true then Made.val (.str z t)
  else Made.str ⟨((Builtin.Str.strSliceIndices (l.map (·.1)) (u.map (·.1)) 1 z.length).filterMap (z.cps[·]?)).toArray⟩) (EP X pins σ Q) s
 by_cases c:((1:Int)==1&&(Builtin.Str.strSliceIndices (l.map (·.1)) (u.map (·.1)) 1 z.length).length==z.length)=true
 ·rw[if_pos c] at q ⊢;exact⟨.str z,H,I,⟨t,rfl⟩,q⟩
 ·rw[if_neg c] at q hl ⊢;exact⟨hl,.str _,H,I.tok _,⟨_,rfl⟩,q⟩
def Ze(s:Stmt)(j:Nat):Stmt:=match s with
 | .ClassDef _ _ _ body _ _ _ _ _ _ _=>body.getD j (.Pass ⟨0,0,0,0⟩)
 | _=>.Pass ⟨0,0,0,0⟩
def Y5(s:Stmt):Arguments:=match s with
 | .FunctionDef _ a _ _ _ _ _ _ _ _=>a
 | _=>{ posonlyargs:=[],args:=[],vararg:=none,kwonlyargs:=[],kw_defaults:=[],kwarg:=none,defaults:=[] }
def ZY(s:Stmt):List Stmt:=match s with
 | .FunctionDef _ _ b _ _ _ _ _ _ _=>b
 | _=>[]
def Qg(s:Stmt):Scope:=match s with
 | .FunctionDef _ _ _ _ _ _ sc _ _ _=>sc
 | _=>{ kind:=.function,names:=[],isGenerator:=false,isCoroutine:=false }
abbrev CX0:CXT:=λ_ _ _ _ _ _=>False
abbrev E0:XK:=λ_ _ _=>False
theorem QlD{X:Cx}:Qc9 CX0 X E0:=λ_ _ _ _ _ _ _ h=>h.elim
structure Fun(K:Xa)(x qual:Str)(st:Stmt)(f:Addr)(fd:FuncData):Prop where
 ex:QrJ λ(oc:Value) (od:Option Addr) (kV doc pm:Value) (an:Option Addr) (cdv ct:Value) (osl:Array (Option Value))=>
  fd=XT x qual (Y5 st) (ZY st) (Qg st) .none kV doc pm an cdv ct/\K.lookup f=some ⟨oc,od,.func fd,osl⟩/\UJ K cdv qual=true
 kp:Ue K (.ref f)=true
section
variable {P:Program} {w:World} {K:Xa} {mg:Str->Option Value} {base:Heap}
theorem Fun.ok{x qual:Str}{st:Stmt}{f:Addr}{fd:FuncData}{N ps:List Str}{k:Nat}{sp:Sp}(F:Fun K x qual st f fd)(S:Qm N ps (Qg st))(len:∀vs H Q E,sp vs H Q E->vs.length=ps.length)
  (hbody:∀(cdv:Value) (A:Around) (outer:List Env) (s:Shared) (H:Hp) (vs:List V) (Q:VK) (E:XK),ZM k (A.deeper (envOfC qual (Qg st) s.heap.objs.size f cdv))->sp vs H Q E->
    ∃t,PSs (QiL CX0 P w K mg base N qual (Qg st) f cdv A outer s H E).nox (ZY st) t/\t { nx:=λ_ H'=>Q .non H',rt:=Q } (start N vs) H):Qcr P w K mg base CX0 (k+1) f fd ps sp:=by
 obtain⟨oc,od,kV,doc,pm,an,cdv,ct,osl,rfl,lk,hcd⟩:=F.ex;refine QrT lk hcd S len λA outer s H vs Q E hr hsp=>?_
 obtain⟨t,h,q⟩:=hbody cdv A outer s H vs Q E hr hsp;exact⟨t,h.nox,q⟩
theorem Fun.binds{x qual:Str}{st:Stmt}{f:Addr}{fd:FuncData}{ps:List Str}(F:Fun K x qual st f fd)
  (h:∀(kV doc pm:Value) (an:Option Addr) (cdv ct:Value) (us:List Value),us.length=ps.length->bindArgs (XT x qual (Y5 st) (ZY st) (Qg st) .none kV doc pm an cdv ct) ⟨us,[]⟩=pure (ps.zip us)):QaZ K fd ps []:=by
 obtain⟨oc,od,kV,doc,pm,an,cdv,ct,osl,rfl,lk,hcd⟩:=F.ex;exact .all (h kV doc pm an cdv ct)
theorem Qe1{x qual:Str}{st:Stmt}{f:Addr}{oc:Value}{od an:Option Addr}{osl:Array (Option Value)}{kV doc pm cdv ct:Value}(l:K.lookup f=some ⟨oc,od,.func (XT x qual (Y5 st) (ZY st) (Qg st) .none kV doc pm an cdv ct),osl⟩)
  (c:UJ K cdv qual=true) (k:Ue K (.ref f)=true):Fun K x qual st f (XT x qual (Y5 st) (ZY st) (Qg st) .none kV doc pm an cdv ct):=⟨⟨oc,od,kV,doc,pm,an,cdv,ct,osl,rfl,l,c⟩,k⟩
end
theorem Zp{A:Around}{k:Nat}(hr:ZM k A):A.units+1<cLine:=Nat.lt_of_le_of_lt (Nat.add_le_add_left (by decide:1<=64) _) hr.units
section
variable {X:Cx}
theorem pv(i:Nat){x:Str}{pos:Pos}(hN:X.N[i]?=some x:=by rfl)(hv:Vis X.env.scope x:=by first | exact Or.inl rfl | exact Or.inr (Or.inl rfl) | exact Or.inr (Or.inr rfl))(hd:(x==("__debug__":Str))=false:=by decide)
  (hcd:(x==("__classdict__":Str))=false:=by decide):PE X (.Name x pos) (Wx i):=Qq4 hN hv hd hcd
theorem Ql2:W7 X (.builtin "len") (λxs H Q=>QA λa kvs=>xs=[V.ref a]/\H a=some (.dK kvs)/\Q (.int kvs.length) H):=by
 intro pins s σ H xs us Q I r h;obtain⟨a,kvs,rfl,ha,q⟩:=h;obtain⟨u,rfl,ru⟩:=Qed r;cases ru;exact QrQ I (.inl ha) λt s' I'=>⟨.int kvs.length,H,I',⟨t,rfl⟩,q⟩
end
theorem Qv{A B:Prop}(h:B):if false=true then A else B:=by
 rw[if_neg Xc];exact h
theorem Qr{A B:Prop}(h:A):if true=true then A else B:=by
 rw[if_pos rfl];exact h
def Qe(H H':Hp):Prop:=∀b o,H b=some o->H' b=some o
theorem Qe.refl(H:Hp):Qe H H:=λ_ _ h=>h
theorem Qe.trans{H H1 H2:Hp}(a:Qe H H1)(b:Qe H1 H2):Qe H H2:=λc o h=>b c o (a c o h)
theorem Qe.free{H H':Hp}(e:Qe H H'){l:Addr}(h:H' l=Option.none):H l=Option.none:=by
 cases q:H l with
 | none=>rfl
 | some o=>
  rw[e l o q] at h;cases h
theorem Qe.seq{K:Xa}{H H':Hp}{a:Addr}{xs:List V}(e:Qe H H')(h:SqL K H a xs):SqL K H' a xs:=by
 rcases h with (h | ⟨o,h⟩) | h
 ·exact .inl (.inl (e _ _ h))
 ·exact .inl (.inr ⟨o,e _ _ h⟩)
 ·exact .inr h
section
variable {κ:Type} [DecidableEq κ]
theorem Qp8{kvs:List (κ × V)}{k:κ}{v:V}(h:Jn kvs k=some v):k ∈ kvs.map (·.1):=by
 have q:(kvs.any λkv=>decide (kv.1=k))=true:=by
  rw[Wz,h]
  all_goals rfl
 obtain⟨p,hp,e⟩:=List.any_eq_true.mp q;exact US.mpr ⟨p,hp,of_decide_eq_true e⟩
end
theorem JN{xs:List V}{z:Int}{j:Nat}{v:V}(e:z=(j:Int))(h:xs[j]?=some v):atI xs z=some v:=by
 rw[e];exact QoV h
theorem QnP{α:Type}{l:List α}(hN:l.Nodup){i j:Nat}{x:α}(a:l[i]?=some x)(b:l[j]?=some x):i=j:=by
 obtain⟨h1,e1⟩:=Xx.mp a;obtain⟨h2,e2⟩:=Xx.mp b;exact (UZ hN).mp (e1.trans e2.symm)
theorem Qe.made{H H1:Hp}{x dx C:Addr}(nx:H x=Option.none)(nd:H dx=Option.none)(k:∀b o,(upd (upd H dx (.own x)) x (.ins C dx [])) b=some o->b≠x->H1 b=some o):Qe H H1:=λb o e=>
 k b o (by rw[Qq (Q3 e nx),Qq (Q3 e nd)];exact e) (Q3 e nx)
end L2
namespace L2
open PySem PySem.Spec PyProof.Rows
open PySem.W (WData Codec OpenSpec Well WellAll ReadsW ReadsAllW)
mutual
inductive Dw(K:Xa)(H:Hp):V->WData->Prop
 | non:Dw K H .non .none
 | bl (b:Bool):Dw K H (.bl b) (.bool b)
 | int (i:Int):Dw K H (.int i) (.int i)
 | str (x:Str):Dw K H (.str x) (.str x)
 | byt (b:Array UInt8):Dw K H (.byt b) (.bytes b.toList)
 | lst {a:Addr} {xs:List V} {ds:List WData}:SqL K H a xs->Qa0 K H xs ds->Dw K H (.ref a) (.list ds)
 | tup {a:Addr} {xs:List V} {ds:List WData}:SqT K H a xs->Qa0 K H xs ds->Dw K H (.ref a) (.tuple ds)
inductive Qa0(K:Xa)(H:Hp):List V->List WData->Prop
 | nil:Qa0 K H [] []
 | cons {v:V} {vs:List V} {d:WData} {ds:List WData}:Dw K H v d->Qa0 K H vs ds->Qa0 K H (v::vs) (d::ds)
end
theorem Qo2{K:Xa}{H:Hp}:∀ns:List Int,Qa0 K H (ns.map V.int) (ns.map WData.int)
 | []=>.nil
 | n::r=>.cons (.int n) (Qo2 r)
theorem Qpd{K:Xa}{H:Hp}:∀(ns:List Int) (xs:List V),Qa0 K H xs (ns.map WData.int)->xs=ns.map V.int
 | [],xs,h=>by
  cases h;rfl
 | n::r,xs,h=>by
  cases h with
  | cons h1 h2=>
   cases h1;rw[Qpd r _ h2]<;>rfl
section
variable {P:Program} {w:World} {K:Xa} {H:Hp} {h:Heap} {R:U1} {cl:Str->Option Addr}
theorem Qro{a:Addr}{xs:List V}(hok:HOk P w H h)(KX:K.In h)(q:SqL K H a xs):JP λ(its:List Value) (o:Obj) (n:Nat)=>QP xs its/\h.get? a=some o/\o.cls=.type "list"/\o.data=.seq its.toArray n:=by
 rcases q with q | ⟨o,its,n,e,hc,_,hd,_,hv⟩
 ·obtain⟨_,its,n,hv,e⟩:=(show J1 P w H h a (.lst xs) from q.ok hok);exact⟨its,_,n,hv,e,rfl,rfl⟩
 ·exact⟨its.toList,o,n,hv,KX _ _ e,hc,by simp[hd]⟩
theorem Qrp{a:Addr}{xs:List V}(hok:HOk P w H h)(KX:K.In h)(q:SqT K H a xs):JP λ(its:List Value) (o:Obj) (n:Nat)=>QP xs its/\h.get? a=some o/\o.cls=.type "tuple"/\o.data=.seq its.toArray n:=by
 rcases q with q | ⟨o,its,n,e,hc,hd,_,hv⟩
 ·obtain⟨_,its,hv,o,e,hc,n,hd⟩:=(show J1 P w H h a (.tup xs) from q.ok hok);exact⟨its,o,n,hv,e,hc,hd⟩
 ·exact⟨its.toList,o,n,hv,KX _ _ e,hc,by simp[hd]⟩
mutual
theorem Dw.reads(hok:HOk P w H h)(KX:K.In h):∀(d:WData) (v:V) (u:Value),Dw K H v d->QZ v u->∃as,ReadsW R cl h u d as
 | .none,_,_,x,r=>by
  cases x;cases r;exact⟨_,ReadsW.none⟩
 | .bool b,_,_,x,r=>by
  cases x;cases r;exact⟨_,ReadsW.bool b⟩
 | .int i,_,_,x,r=>by
  cases x;obtain⟨t,rfl⟩:=r;exact⟨_,ReadsW.int i t⟩
 | .str s,_,_,x,r=>by
  cases x;obtain⟨t,rfl⟩:=r;exact⟨_,ReadsW.str s t⟩
 | .bytes b,_,_,x,r=>by
  cases x;obtain⟨t,rfl⟩:=r;exact⟨_,ReadsW.bytes _ t⟩
 | .list ds,_,_,x,r=>by
  cases x with
  | lst hs ha=>
   cases r;obtain⟨its,o,n,rv,ho,hc,hd⟩:=Qro hok KX hs;obtain⟨as,hr⟩:=Dw.readsAll hok KX ds _ its ha rv;exact⟨_,ReadsW.list ho hc hd hr⟩
 | .tuple ds,_,_,x,r=>by
  cases x with
  | tup hs ha=>
   cases r;obtain⟨its,o,n,rv,ho,hc,hd⟩:=Qrp hok KX hs;obtain⟨as,hr⟩:=Dw.readsAll hok KX ds _ its ha rv;exact⟨_,ReadsW.tuple ho hc hd hr⟩
 | .float _,_,_,x,_=>by cases x
 | .dict _,_,_,x,_=>by cases x
 | .bytearray _,_,_,x,_=>by cases x
 | .set _,_,_,x,_=>by cases x
 | .frozenset _,_,_,x,_=>by cases x
 | .obj _ _,_,_,x,_=>by cases x
theorem Dw.readsAll(hok:HOk P w H h)(KX:K.In h):∀(ds:List WData) (vs:List V) (us:List Value),Qa0 K H vs ds->QP vs us->∃as,ReadsAllW R cl h us ds as
 | [],_,_,x,r=>by
  cases x;cases r;exact⟨_,ReadsAllW.nil⟩
 | d::ds,_,_,x,r=>by
  cases x with
  | cons h1 h2=>
   cases r with
   | cons r1 r2=>
    obtain⟨as,q1⟩:=Dw.reads hok KX d _ _ h1 r1;obtain⟨bs,q2⟩:=Dw.readsAll hok KX ds _ _ h2 r2;exact⟨_,ReadsAllW.cons q1 q2⟩
end
end
mutual
def plW:WData->Bool
 | .none=>true
 | .bool _=>true
 | .int _=>true
 | .str _=>true
 | .bytes _=>true
 | .list xs=>Qeo xs
 | .tuple xs=>Qeo xs
 | _=>false
def Qeo:List WData->Bool
 | []=>true
 | x::r=>plW x&&Qeo r
end
theorem Qjs{α:Type}{f:α->WData}(h:∀a,plW (f a)=true):∀l:List α,Qeo (l.map f)=true
 | []=>rfl
 | x::r=>by
  show (plW (f x)&&Qeo (r.map f))=true;rw[h x,Qjs h r]<;>rfl
theorem Qbs:∀(c:Codec) (a:c.denote),plW (c.enc a)=true
 | .unit,_=>rfl
 | .bool,_=>rfl
 | .int _ _,_=>rfl
 | .nat _ _,_=>rfl
 | .u8,_=>rfl
 | .bytes _ _,_=>rfl
 | .text _ _ _ _,_=>rfl
 | .list _ _ c,a=>Qjs (λx=>Qbs c x) a
 | .pair c d,a=>by
  show (plW (c.enc a.1)&&(plW (d.enc a.2)&&true))=true;rw[Qbs c a.1,Qbs d a.2]<;>rfl
 | .triple c d e,a=>by
  show (plW (c.enc a.1)&&(plW (d.enc a.2.1)&&(plW (e.enc a.2.2)&&true)))=true;rw[Qbs c a.1,Qbs d a.2.1,Qbs e a.2.2]<;>rfl
 | .option c,none=>rfl
 | .option c,some x=>Qbs c x
theorem Qhd:∀(cs:List Codec) (a:Codec.denoteAll cs),Qeo (Codec.encAll cs a)=true
 | [],_=>rfl
 | c::cs,a=>by
  show (plW (c.enc a.1)&&Qeo (Codec.encAll cs a.2))=true;rw[Qbs c a.1,Qhd cs a.2]<;>rfl
theorem Qcp:∀{xs:List WData} {d:WData},d ∈ xs->d.weight<=WData.weightAll xs
 | [],d,h=>absurd h (by simp)
 | x::r,d,h=>by
  show d.weight<=x.weight+1+WData.weightAll r;rcases Xj.mp h with e | m
  ·rw[e];omega
  ·have z:=Qcp m;omega
def toV:Value->V
 | .none=>.non
 | .bool b=>.bl b
 | .int i _=>.int i
 | .str x _=>.str x
 | .bytes b _=>.byt b
 | .ref a=>.ref a
 | _=>.non
def OkU(A:List Addr):Value->Prop
 | .none=>True
 | .bool _=>True
 | .int _ _=>True
 | .str _ _=>True
 | .bytes _ _=>True
 | .ref a=>a ∈ A
 | _=>False
theorem OkU.mono{A B:List Addr}(h:∀a ∈ A,a ∈ B):∀{u:Value},OkU A u->OkU B u:=λ{u} x=>by
 cases u with
 | ref a=>exact h a x
 | none=>trivial
 | bool b=>trivial
 | int i t=>trivial
 | str s t=>trivial
 | bytes b t=>trivial
 | _=>exact False.elim x
theorem Qn8{A:List Addr}{u:Value}(x:OkU A u):QZ (toV u) u:=by
 cases u with
 | ref a=>rfl
 | none=>rfl
 | bool b=>rfl
 | int i t=>exact⟨t,rfl⟩
 | str s t=>exact⟨t,rfl⟩
 | bytes b t=>exact⟨t,rfl⟩
 | _=>exact False.elim x
theorem Qav{A:List Addr}:∀{vs:List Value},(∀u ∈ vs,OkU A u)->QP (vs.map toV) vs
 | [],_=>.nil
 | u::r,h=>.cons (Qn8 (h u (Xn ..))) (Qav λx hx=>h x (Xh _ hx))
def QaY(h:Heap)(A:List Addr)(a:Addr):Prop:=∃vs:List Value,vs.length<=sizeLine/\(∀u ∈ vs,OkU A u)/\
 (h.get? a=some { cls:=.type "list",data:=.seq vs.toArray }\/h.get? a=some { cls:=.type "tuple",data:=.seq vs.toArray })
theorem QaY.mono{h:Heap}{A B:List Addr}{a:Addr}(k:∀a ∈ A,a ∈ B)(x:QaY h A a):QaY h B a:=by
 obtain⟨vs,h1,h2,h3⟩:=x;exact⟨vs,h1,λu hu=>(h2 u hu).mono k,h3⟩
theorem WN{P:Params}{h:Heap}:∀{vs:List Value} {ds:List WData},WellAll P h vs ds->vs.length=ds.length
 | _,_,.nil=>rfl
 | _,_,.cons _ b=>by
  show _+1=_+1;rw[WN b]
theorem Qhw{P:Params}{h:Heap}{v:Value}{ds:List WData}(x:Well P h v (.list ds)):QA λ(a:Addr) (vs:List Value)=>v=.ref a/\h.get? a=some { cls:=.type "list",data:=.seq vs.toArray }/\WellAll P h vs ds:=by
 cases x with
 | list ho hall=>exact⟨_,_,rfl,ho,hall⟩
theorem Qgd{P:Params}{h:Heap}{v:Value}{ds:List WData}(x:Well P h v (.tuple ds)):QA λ(a:Addr) (vs:List Value)=>v=.ref a/\h.get? a=some { cls:=.type "tuple",data:=.seq vs.toArray }/\WellAll P h vs ds:=by
 cases x with
 | tuple ho hall=>exact⟨_,_,rfl,ho,hall⟩
theorem Qhv{P:Params}{h:Heap}{us:List Value}{d:WData}{ds:List WData}(x:WellAll P h us (d::ds)):QA λ(v:Value) (vs:List Value)=>us=v::vs/\Well P h v d/\WellAll P h vs ds:=by
 cases x with
 | cons a b=>exact⟨_,_,rfl,a,b⟩
theorem Qlz{n:Nat}(h:n<=1048576):n<=sizeLine:=Xo h (by decide)
section
variable {P:Params} {h:Heap}
mutual
theorem Qnk:∀(d:WData) (v:Value),Well P h v d->plW d=true->d.weight<=1048576->∃A:List Addr,OkU A v/\∀a ∈ A,QaY h A a
 | .none,_,x,_,_=>by
  cases x;exact⟨[],trivial,λa m=>absurd m (by simp)⟩
 | .bool b,_,x,_,_=>by
  cases x;exact⟨[],trivial,λa m=>absurd m (by simp)⟩
 | .int i,_,x,_,_=>by
  cases x;exact⟨[],trivial,λa m=>absurd m (by simp)⟩
 | .str s,_,x,_,_=>by
  cases x;exact⟨[],trivial,λa m=>absurd m (by simp)⟩
 | .bytes b,_,x,_,_=>by
  cases x;exact⟨[],trivial,λa m=>absurd m (by simp)⟩
 | .list ds,_,x,p,z=>by
  obtain⟨a,vs,rfl,ho,hall⟩:=Qhw x;have z2:WData.weightAll ds<=1048576:=z;obtain⟨A,h1,h2⟩:=Qcw ds _ hall p λd hd=>Xo (Qcp hd) z2
  have k:∀b ∈ A,b ∈ a::A:=λb hb=>Xh _ hb
  refine⟨a::A,Xn ..,λb hb=>?_⟩;rcases Xj.mp hb with e | m
  ·rw[e];exact⟨vs,Qlz (by rw[WN hall];exact Xo (Uf ds) z2),λu hu=>(h1 u hu).mono k,.inl ho⟩
  ·exact (h2 b m).mono k
 | .tuple ds,_,x,p,z=>by
  obtain⟨a,vs,rfl,ho,hall⟩:=Qgd x;have z2:WData.weightAll ds<=1048576:=z;obtain⟨A,h1,h2⟩:=Qcw ds _ hall p λd hd=>Xo (Qcp hd) z2
  have k:∀b ∈ A,b ∈ a::A:=λb hb=>Xh _ hb
  refine⟨a::A,Xn ..,λb hb=>?_⟩;rcases Xj.mp hb with e | m
  ·rw[e];exact⟨vs,Qlz (by rw[WN hall];exact Xo (Uf ds) z2),λu hu=>(h1 u hu).mono k,.inr ho⟩
  ·exact (h2 b m).mono k
 | .float _,_,_,p,_=>Xp (show false=true from p)
 | .dict _,_,_,p,_=>Xp (show false=true from p)
 | .bytearray _,_,_,p,_=>Xp (show false=true from p)
 | .set _,_,_,p,_=>Xp (show false=true from p)
 | .frozenset _,_,_,p,_=>Xp (show false=true from p)
 | .obj _ _,_,_,p,_=>Xp (show false=true from p)
theorem Qcw:∀(ds:List WData) (vs:List Value),WellAll P h vs ds->Qeo ds=true->(∀d ∈ ds,d.weight<=1048576)->∃A:List Addr,(∀u ∈ vs,OkU A u)/\∀a ∈ A,QaY h A a
 | [],_,x,_,_=>by
  cases x;exact⟨[],λu m=>absurd m (by simp),λa m=>absurd m (by simp)⟩
 | d::ds,_,x,p,z=>by
  obtain⟨v,vs,rfl,x1,x2⟩:=Qhv x;have q:plW d=true/\Qeo ds=true:=UL.mp p;obtain⟨A,a1,a2⟩:=Qnk d v x1 q.1 (z d (Xn ..));obtain⟨B,b1,b2⟩:=Qcw ds vs x2 q.2 λe he=>z e (Xh _ he)
  have kA:∀b ∈ A,b ∈ A++B:=λb hb=>XR.mpr (.inl hb)
  have kB:∀b ∈ B,b ∈ A++B:=λb hb=>XR.mpr (.inr hb)
  refine⟨A++B,λu hu=>?_,λb hb=>?_⟩
  ·rcases Xj.mp hu with e | m
   ·rw[e];exact a1.mono kA
   ·exact (b1 u m).mono kB
  ·rcases XR.mp hb with m | m
   ·exact (a2 b m).mono kA
   ·exact (b2 b m).mono kB
end
end
def Qo8(o:Obj):Option HO:=match o.data with
 | .seq vs _=>if (o.cls==Value.type "list")=true then some (.frz o (.lst (vs.toList.map toV))) else some (.frz o (.tup (vs.toList.map toV)))
 | _=>none
def QaA(K:Xa)(h:Heap)(A:List Addr):Hp:=λb=>if b ∈ A then (if (K.lookup b).isNone=true then (h.get? b).bind Qo8 else none) else none
def Qiv(H:Hp):Prop:=∀b,H b=none\/QA λo u=>H b=some (.frz o u)
theorem QiY(vs:List Value):Qo8 { cls:=.type "list",data:=.seq vs.toArray }=some (.frz { cls:=.type "list",data:=.seq vs.toArray } (.lst (vs.map toV))):=by
 show (if (Value.type "list"==Value.type "list")=true then some (HO.frz { cls:=.type "list",data:=.seq vs.toArray } (.lst (vs.toArray.toList.map toV))) else some (HO.frz { cls:=.type "list",data:=.seq vs.toArray } (.tup (vs.toArray.toList.map toV))))=_;rw[if_pos (beq_self_eq_true _)]
theorem QiZ(vs:List Value):Qo8 { cls:=.type "tuple",data:=.seq vs.toArray }=some (.frz { cls:=.type "tuple",data:=.seq vs.toArray } (.tup (vs.map toV))):=by
 show (if (Value.type "tuple"==Value.type "list")=true then some (HO.frz { cls:=.type "tuple",data:=.seq vs.toArray } (.lst (vs.toArray.toList.map toV))) else some (HO.frz { cls:=.type "tuple",data:=.seq vs.toArray } (.tup (vs.toArray.toList.map toV))))=_;rw[if_neg (by decide)]
section
variable {P:Program} {w:World} {K:Xa} {h:Heap} {A:List Addr}
theorem Qeu{b:Addr}{o:Obj}(hb:b ∈ A)(hk:K.lookup b=none)(e:h.get? b=some o):QaA K h A b=Qo8 o:=by
 unfold QaA;rw[if_pos hb,hk,if_pos (show (none:Option Obj).isNone=true from rfl),e]<;>rfl
theorem Qpo{b:Addr}{u:HO}(q:QaA K h A b=some u):b ∈ A/\K.lookup b=none:=by
 unfold QaA at q
 by_cases hb:b ∈ A
 ·rw[if_pos hb] at q;cases hk:K.lookup b with
  | none=>exact⟨hb,rfl⟩
  | some o=>
   rw[hk,if_neg (by simp)] at q;cases q
 ·rw[if_neg hb] at q;cases q
theorem Qev(ar:∀a ∈ A,QaY h A a){b:Addr}{u:HO}(q:QaA K h A b=some u):K.lookup b=none/\∃vs:List Value,vs.length<=sizeLine/\(∀u ∈ vs,OkU A u)/\
  ((h.get? b=some { cls:=.type "list",data:=.seq vs.toArray }/\u=.frz { cls:=.type "list",data:=.seq vs.toArray } (.lst (vs.map toV)))\/
   (h.get? b=some { cls:=.type "tuple",data:=.seq vs.toArray }/\u=.frz { cls:=.type "tuple",data:=.seq vs.toArray } (.tup (vs.map toV)))):=by
 obtain⟨hb,hk⟩:=Qpo q;obtain⟨vs,h1,h2,h3⟩:=ar b hb;refine⟨hk,vs,h1,h2,?_⟩;rcases h3 with e | e
 ·rw[Qeu hb hk e,QiY] at q;exact .inl ⟨e,(Xm q).symm⟩
 ·rw[Qeu hb hk e,QiZ] at q;exact .inr ⟨e,(Xm q).symm⟩
theorem QlX(ar:∀a ∈ A,QaY h A a):Qiv (QaA K h A):=λb=>by
 cases q:QaA K h A b with
 | none=>exact .inl rfl
 | some u=>
  obtain⟨_,vs,_,_,⟨_,e⟩ | ⟨_,e⟩⟩:=Qev ar q
  ·exact .inr ⟨_,_,by rw[e]⟩
  ·exact .inr ⟨_,_,by rw[e]⟩
theorem QoU(ar:∀a ∈ A,QaY h A a):HOk P w (QaA K h A) h:=λb u q=>by
 obtain⟨_,vs,h1,h2,⟨e,rfl⟩ | ⟨e,rfl⟩⟩:=Qev ar q
 ·exact⟨e,by rw[XA];exact h1,vs,_,Qav h2,e⟩
 ·exact⟨e,by rw[XA];exact h1,vs,Qav h2,_,e,rfl,_,rfl⟩
theorem QeD{c c':Value}{vs us:List Value}(e:(some { cls:=c,data:=.seq vs.toArray }:Option Obj)=some { cls:=c',data:=.seq us.toArray }):c=c'/\vs=us:=by
 have e1:=Xm e;have e2:c=c':=congrArg Obj.cls e1;have e3:Data.seq vs.toArray=Data.seq us.toArray:=congrArg Obj.data e1;injection e3 with e4;refine⟨e2,?_⟩;have e5:=congrArg UQ e4
 simpa using e5
theorem QsD(KX:K.In h)(ar:∀a ∈ A,QaY h A a){a:Addr}{vs:List Value}(ha:a ∈ A)(e:h.get? a=some { cls:=.type "list",data:=.seq vs.toArray }):(∀u ∈ vs,OkU A u)/\SqL K (QaA K h A) a (vs.map toV):=by
 obtain⟨us,h1,h2,h3⟩:=ar a ha;have hu:us=vs:=by
  rcases h3 with q | q
  ·rw[e] at q;exact (QeD q).2.symm
  ·rw[e] at q;exact absurd (Value.type.inj (QeD q).1) (by decide)
 subst hu;refine⟨h2,?_⟩;cases hk:K.lookup a with
 | none=>exact .inl (.inr ⟨_,by rw[Qeu ha hk e,QiY]⟩)
 | some o=>
  have e2:=KX a o hk;rw[e] at e2;obtain rfl:=Xm e2;exact .inr ⟨_,us.toArray,_,hk,rfl,rfl,rfl,by rw[Xd];exact h1,by simpa using Qav h2⟩
theorem QsE(KX:K.In h)(ar:∀a ∈ A,QaY h A a){a:Addr}{vs:List Value}(ha:a ∈ A)(e:h.get? a=some { cls:=.type "tuple",data:=.seq vs.toArray }):(∀u ∈ vs,OkU A u)/\SqT K (QaA K h A) a (vs.map toV):=by
 obtain⟨us,h1,h2,h3⟩:=ar a ha;have hu:us=vs:=by
  rcases h3 with q | q
  ·rw[e] at q;exact absurd (Value.type.inj (QeD q).1) (by decide)
  ·rw[e] at q;exact (QeD q).2.symm
 subst hu;refine⟨h2,?_⟩;cases hk:K.lookup a with
 | none=>exact .inl (.inr ⟨_,by rw[Qeu ha hk e,QiZ]⟩)
 | some o=>
  have e2:=KX a o hk;rw[e] at e2;obtain rfl:=Xm e2;exact .inr ⟨_,us.toArray,_,hk,rfl,rfl,by rw[Xd];exact h1,by simpa using Qav h2⟩
mutual
theorem QqJ{Pm:Params}(KX:K.In h)(ar:∀a ∈ A,QaY h A a):∀(d:WData) (v:Value),Well Pm h v d->plW d=true->OkU A v->Dw K (QaA K h A) (toV v) d
 | .none,_,x,_,_=>by
  cases x;exact .non
 | .bool b,_,x,_,_=>by
  cases x;exact .bl b
 | .int i,_,x,_,_=>by
  cases x;exact .int i
 | .str s,_,x,_,_=>by
  cases x;exact .str s
 | .bytes b,_,x,_,_=>by
  cases x;have z:=Dw.byt (K:=K) (H:=QaA K h A) b.toArray;exact z
 | .list ds,_,x,p,hu=>by
  obtain⟨a,vs,rfl,ho,hall⟩:=Qhw x;obtain⟨h2,hs⟩:=QsD KX ar hu ho;exact .lst hs (QhH KX ar ds _ hall p h2)
 | .tuple ds,_,x,p,hu=>by
  obtain⟨a,vs,rfl,ho,hall⟩:=Qgd x;obtain⟨h2,hs⟩:=QsE KX ar hu ho;exact .tup hs (QhH KX ar ds _ hall p h2)
 | .float _,_,_,p,_=>Xp (show false=true from p)
 | .dict _,_,_,p,_=>Xp (show false=true from p)
 | .bytearray _,_,_,p,_=>Xp (show false=true from p)
 | .set _,_,_,p,_=>Xp (show false=true from p)
 | .frozenset _,_,_,p,_=>Xp (show false=true from p)
 | .obj _ _,_,_,p,_=>Xp (show false=true from p)
theorem QhH{Pm:Params}(KX:K.In h)(ar:∀a ∈ A,QaY h A a):∀(ds:List WData) (vs:List Value),WellAll Pm h vs ds->Qeo ds=true->(∀u ∈ vs,OkU A u)->Qa0 K (QaA K h A) (vs.map toV) ds
 | [],_,x,_,_=>by
  cases x;exact .nil
 | d::ds,_,x,p,hu=>by
  obtain⟨v,vs,rfl,x1,x2⟩:=Qhv x;have q:plW d=true/\Qeo ds=true:=UL.mp p;exact .cons (QqJ KX ar d v x1 q.1 (hu _ (Xn ..))) (QhH KX ar ds vs x2 q.2 λu m=>hu u (Xh _ m))
end
end
theorem QmY{P:Program}{w:World}{K:Xa}{mg mb:Str->Option Value}{CX:CXT}{k:Nat}{fa:Addr}{fd:FuncData}{ps:List Str}{sp:Sp}{s₁:Shared}{vals:List Value}{ds:List WData}{R:U1}{cl:Str->Option Addr}{d0:WData}
  (KX:K.In s₁.heap) (hns:s₁.heap.Ns mainGlobals mg) (hb:s₁.heap.Ns builtinsNs mb) (hbb:∀x:Str,x≠"__name__"->mb x=bootBuiltins x) (hlim:s₁.heap.NoLimit) (hg:s₁.gens=#[])
  (hwl:WellAll w.params s₁.heap vals ds) (hpl:Qeo ds=true) (hwt:∀d ∈ ds,d.weight<=1048576) (hr:ZM k callerA)
  (F:∀base:Heap,K.In base->base.Ns mainGlobals mg->Qcr P w K mg base CX k fa fd ps sp) (hbind:∀(s:Shared) (us:List Value),us.length=ps.length->BindsTo s fd ⟨us,[]⟩ (ps.zip us)) (hlen:ds.length=ps.length)
  (hsp:∀(H:Hp) (xs:List V),Qiv H->Qa0 K H xs ds->sp xs H (λv H'=>Dw K H' v d0) λ_ _ _=>False)
  (hCX:∀H e s',CX [] H s₁ (λ_ _ _=>False) e s'->False) :
  codeAny (model P w) callerA (.call (.ref fa) ⟨vals,[]⟩) (λr s'=>QA λu as=>r=.ok (.ret u)/\ReadsW R cl s'.heap u d0 as/\OldK s₁.heap s'.heap/\s'.os=s₁.os/\AllBare s'.gens) s₁:=by
 obtain⟨A,ho,ar⟩:=Qcw ds vals hwl hpl hwt;have hO:Qiv (QaA K s₁.heap A):=QlX ar;have hok:HOk P w (QaA K s₁.heap A) s₁.heap:=QoU ar;have hS:=QhH KX ar ds vals hwl hpl ho;have hV:=Qav ho;have hK:∀b u,QaA K s₁.heap A b=some u->K.lookup b=none:=λb u q=>(Qev ar q).1
 have noA:∀{b:Addr} {o:Obj} {es:Array DictEntry} {ep:Nat},s₁.heap.get? b=some o->o.data=.dict es ep->QaA K s₁.heap A b=none:=λ{b o es ep} e d=>by
  cases q:QaA K s₁.heap A b with
  | none=>rfl
  | some u=>
   obtain⟨_,vs,_,_,⟨e2,_⟩ | ⟨e2,_⟩⟩:=Qev ar q
   ·rw[e2] at e;cases e;have d':Data.seq vs.toArray _=Data.dict es ep:=d;cases d'
   ·rw[e2] at e;cases e;have d':Data.seq vs.toArray _=Data.dict es ep:=d;cases d'
 generalize QaA K s₁.heap A=H at hO hok hS hK noA;have base_of:∀{b:Addr} {o:Obj},s₁.heap.get? b=some o->H b=none->(QhI s₁.heap H).get? b=some o:=λe n=>Qny e n
 have nsK:∀{b:Addr} {m:Str->Option Value},s₁.heap.Ns b m->(QhI s₁.heap H).Ns b m:=λ{b m} ⟨o,es,ep,e,d,r⟩=>⟨o,es,ep,base_of e (noA e d),d,r⟩
 have nK:∀b o,K.lookup b=some o->H b=none:=λb o e=>by
  cases q:H b with
  | none=>rfl
  | some u=>
   rw[hK b u q] at e;cases e
 have hKb:K.In (QhI s₁.heap H):=λb o e=>base_of (KX b o e) (nK b o e)
 have hM:Mod K mg (QhI s₁.heap H):=⟨hKb,nsK hns,⟨mb,nsK hb,hbb⟩,let ⟨mc,h1,h2⟩:=hlim;⟨mc,nsK h1,h2⟩⟩;have e0:QjZ P w K mg (QhI s₁.heap H) callerA [] s₁ H:=⟨rfl,hM,λb o e=>Qpp e,X9 (Qmf _ _),trivial,λb hb=>absurd (show b ∈ ([]:List Addr) from hb) (by simp),hok,.of_eq hg⟩;have hl:vals.length=ps.length:=by rw[WN hwl];exact hlen
 refine codeAny_mono ((F _ hKb (nsK hns)).run callerA [] s₁ H ⟨vals,[]⟩ vals (vals.map toV) _ _ hr e0 (hbind s₁ vals hl) hV (hsp H _ hO hS)) λr s' x=>?_
 cases r with
 | error e=>exact (hCX H e s' x).elim
 | ok fl=>
  cases fl with
  | next=>exact False.elim x
  | brk=>exact False.elim x
  | cont=>exact False.elim x
  | ret u=>
   obtain⟨v,H',os,bare,un,hok',r',q⟩:=x;have kept:∀b o,s₁.heap.get? b=some o->s'.heap.get? b=some o:=λb o e=>by
    cases q2:H b with
    | none=>exact un.keep b o e q2 (by intro z;exact absurd (show b ∈ ([]:List Addr) from z) (by simp)) (by simp)
    | some u2=>
     rcases hO b with z | ⟨ob,u3,z⟩
     ·rw[q2] at z;cases z
     ·have z2:=un.frzs b ob _ z;obtain⟨e1,_⟩:=hok b _ z;obtain⟨e2,_⟩:=hok' b _ z2;rw[e] at e1;cases e1;exact e2
   have KX':K.In s'.heap:=λb o e=>kept b o (KX b o e)
   obtain⟨as,hrd⟩:=Dw.reads (R:=R) (cl:=cl) hok' KX' d0 v u q r';exact⟨u,as,rfl,hrd,OldK.of_keep kept,os,bare⟩
theorem Qfg{ds:List WData}(h:WData.layableAll ds=true):∀d ∈ ds,d.weight<=1048576:=λd hd=>
 (PySem.W.layableW_iff.mp (Up.mp h d hd)).2.2
theorem QeV:∀(cs:List Codec) (a:Codec.denoteAll cs),(Codec.encAll cs a).length=cs.length
 | [],_=>rfl
 | c::cs,a=>by
  show (Codec.encAll cs a.2).length+1=cs.length+1;rw[QeV cs a.2]
theorem Qm8{r:OpenSpec}{k:Nat}{q:Program}{loose:List Str}{XP:(Str->Option Value)->Heap->Prop}{YP:World->Heap->Prop}{d:DefRec}{K:Params->Xa}{CX:World->CXT}{ps:List Str}{sp:World->Sp}
  (hwell:r.wellSaid=true) (hdf:d.params.defaults=[]) (hlen:r.args.length=ps.length) (hr:ZM k callerA)
  (hY:∀(w:World) (h:Heap),YP w h->(K w.params).In h)
  (F:∀(w:World) (mg:Str->Option Value) (fa:Addr) (h:Heap),YP w h->(K w.params).In h->h.Ns mainGlobals mg->mg d.name=some (.ref fa)->
   ∃fd:FuncData,(∀(s:Shared) (us:List Value),us.length=ps.length->BindsTo s fd ⟨us,[]⟩ (ps.zip us))/\
    ∀base:Heap,(K w.params).In base->base.Ns mainGlobals mg->Qcr r.prog w (K w.params) mg base (CX w) k fa fd ps (sp w))
  (hsp:∀(w:World) (H:Hp) (xs:List V) (a:Codec.denoteAll r.args),Qiv H->Codec.withinAll r.args a=true->Codec.app r.args r.asked a=true->Qa0 (K w.params) H xs (Codec.encAll r.args a)->
    sp w xs H (λv H'=>Dw (K w.params) H' v (r.ret.enc (Codec.app r.args r.f a))) λ_ _ _=>False)
  (hCX:∀(w:World) (H:Hp) (s:Shared) (e:Value) (s':Shared),CX w [] H s (λ_ _ _=>False) e s'->False) :
  Xac q loose XP YP r d [] (λf vs=>PySem.call f vs):=by
 intro w s_0 s₁ mg mb G Y fa o pm cd doc dV kV ho hd hcd hD hmg hg args vals as hpre hlay hrd hwl hlo;obtain⟨a,e1,e2⟩:=PySem.W.os_pre_some hpre;obtain⟨e3,hwi⟩:=Codec.encAll_of_decAll r.args args a e1;subst e3;have KX:=hY w _ Y;obtain⟨fd,hb,hF⟩:=F w mg fa _ Y KX G.T.g hmg;refine PySem.W.enter_call (codeAny_mono (QmY (R:=[]) (cl:=classAt s_0.heap) (d0:=r.ret.enc (Codec.app r.args r.f a)) KX G.T.g G.T.b G.T.builtins G.T.nolimit hg hwl (Qhd _ _) (Qfg hlay) hr hF hb (by rw[QeV];exact hlen)
  (λH xs hO hS=>hsp w H xs a hO hwi e2 hS) λH e s'=>hCX w H s₁ e s') λr' s' hq=>?_)
 obtain⟨u,as',rfl,h1,h2,h3,h4⟩:=hq;exact⟨.inl ⟨u,_,as',rfl,λ_=>rfl,h1,(OpenSpec.post_iff hwell hwi _ _).mpr rfl,λz=>Xp (show false=true from z)⟩,h2,h3,h4⟩
theorem QrE{r:OpenSpec}{k:Nat}{q:Program}{loose:List Str}{XP:(Str->Option Value)->Heap->Prop}{YP:World->Heap->Prop}{d:DefRec}{K:Params->Xa}{CX:CXT}{ps:List Str}{sp:Xa->Sp}
  (hwell:r.wellSaid=true) (hdf:d.params.defaults=[]) (hlen:r.args.length=ps.length) (hr:ZM k callerA)
  (hY:∀(w:World) (h:Heap),YP w h->(K w.params).In h)
  (F:∀(w:World) (mg:Str->Option Value) (fa:Addr) (h:Heap),YP w h->(K w.params).In h->h.Ns mainGlobals mg->mg d.name=some (.ref fa)->
   ∃fd:FuncData,(∀(s:Shared) (us:List Value),us.length=ps.length->BindsTo s fd ⟨us,[]⟩ (ps.zip us))/\
    ∀base:Heap,(K w.params).In base->base.Ns mainGlobals mg->Qcr r.prog w (K w.params) mg base CX k fa fd ps (sp (K w.params)))
  (hsp:∀(K:Xa) (H:Hp) (xs:List V) (a:Codec.denoteAll r.args),Qiv H->Codec.withinAll r.args a=true->Codec.app r.args r.asked a=true->Qa0 K H xs (Codec.encAll r.args a)->
    sp K xs H (λv H'=>Dw K H' v (r.ret.enc (Codec.app r.args r.f a))) λ_ _ _=>False)
  (hCX:∀(H:Hp) (s:Shared) (e:Value) (s':Shared),CX [] H s (λ_ _ _=>False) e s'->False) :
  Xac q loose XP YP r d [] (λf vs=>PySem.call f vs):=
 Qm8 (K:=K) (CX:=λ_=>CX) (sp:=λw=>sp (K w.params)) hwell hdf hlen hr hY F (λw H xs a h1 h2 h3 h4=>hsp (K w.params) H xs a h1 h2 h3 h4) λ_ H s e s'=>hCX H s e s'
end L2
end
section
open Bool renaming and_eq_true→Xd,eq_iff_iff→UF,false_ne_true→UL,not_eq_true→Xbc,and_eq_true_iff→XbF,true_and→XbI,not_eq_true'→Xb2,or_eq_true→Xch,and_assoc→Xcp,and_comm→Xcw
open Int renaming toNat_natCast→Uw,ofNat→Xan,zero_add→Xbd,natCast_add→Xci
open List renaming length_map→Xb,getElem?_eq_getElem→Xe,getD_eq_getElem?_getD→Xf,getElem?_map→Xg,mem_cons_self→Xh,length_append→Xi,map_cons→Xj,mem_map→Xk,all_eq_true→Xl,mem_cons→Xm,mem_cons_of_mem→Xn,mem_of_getElem?→Xo,getElem?_eq_some_iff→Xp,map_map→Xr,range→Xs,length_cons→Xw,mem_append→Xx,lookup→Xz,mem_singleton→XE,map_congr_left→XF,append_nil→XG,append_assoc→XH,length_singleton→XI,map_append→XL,mem_filter→XM,length→XO,length_drop→XQ,mem_range→XR,idxOf_lt_length_iff→XY,sum_cons→X1,filter_eq_self→X2,all_cons→X4,length_set→Ud,nodup_cons→Ue,getElem?_append_left→Uh,length_nil→Uo,cons_append→Uq,filter_cons→Ur,all_map→Ut,getElem?_append_right→Uu,filter_map→Uz,isEmpty_iff→UB,replicate→UC,takeWhile_cons→UI,nil_append→UN,filter_congr→UR,flatMap_cons→US,filter_append→UX,getElem?_drop→UY,length_filter_le→U0,getElem?_set→U2,mem_append_left→U3,take_length→U6,contains_cons→Xac,getElem_idxOf→Xad,filter_eq_nil_iff→Xae,length_eq_one_iff→Xaf,range_succ_eq_map→Xag,getLast?_eq_some_getLast→Xah,length_range→Xai,nodup_append→Xaj,drop_drop→Xak,take_append_drop→Xal,getElem_mem→Xao,drop_eq_getElem_cons→Xat,getElem?_zip_eq_some→Xau,getLast?_eq_getElem?→Xav,mem_of_find?_eq_some→Xaw,range_succ→Xax,map_set→Xay,drop_eq_nil_of_le→XaG,take_of_length_le→XaH,isEmpty_map→XaL,mem_flatMap→XaM,find?_cons→XaP,length_zip→XaQ,eq_nil_of_length_eq_zero→XaU,dropWhile_cons→XaV,drop_succ_cons→XaW,take_succ_cons→XaX,drop_zero→XaY,zip_cons_cons→Xa5,foldl_append→Xa7,getLastD_eq_getLast?→Xbb,flatMap_map→Xbe,length_take→Xbf,map→Xbg,not_mem_nil→Xbh,getElem?_replicate→Xbp,find?_some→Xbt,of_mem_zip→Xbu,getElem?_eq_none→Xby,take_succ→Xbz,getElem?_of_mem→XbG,idxOf_cons_self→XbH,any_cons→XbJ,map_drop→XbK,map_take→XbL,getElem?_range→XbO,length_pos_iff→XbP,mem_map_of_mem→XbQ,replicate_succ→XbR,filter_filter→XbS,getElem?_inj→Xb3,size_toArray→Xb4,range'→Xb7,countP_cons→Xcb,drop_length→Xcc,flatMap_def→Xcd,zipIdx_cons→Xce,all_append→Xcj,forIn_cons→Xck,idxOf_cons→Xcl,sum_append→Xcm,zipIdx_nil→Xcn,forIn_nil→Xcq,take_left→Xcr
open List.cons renaming inj→Xaa,injEq→Xbs
open Nat renaming le_refl→Xy,zero_le→XC,zero_lt_succ→XJ,le_trans→Uf,lt_succ_self→Ug,min_eq_left→UG,sub_self→Xaz,le_add_right→XaN,ne_of_lt→XaR,ne_of_gt→Xbi,add_assoc→XbM,add_zero→XbT,lt_trans→XbU,zero_add→XbV,lt_succ_of_lt→Xb5,le_succ→Xb8,mul_add→Xb9
open Option renaming bind_eq_some_iff→XT,map_eq_some_iff→X6,isSome_iff_exists→Xbj
open Option.some renaming inj→Xc
open PySem renaming boot_len→Xv
open PySem.F renaming plainAttrs_list→XD,slot_list_append→X7,type_list_append→X8,slot_list_extend→Uk,type_list_extend→Ul,slot_tuple_iterator_next→UK,slot_tuple_index→UO,plainAttrs_str→UV,plainAttrs_tuple→U7,type_tuple_index→U8,slot_zip_next→Xam,slot_list_count→XaE,args_tuple_iterator_next_1→XaF,entry_tuple_iterator_next→XaI,args_zip_next_1→Xbq,type_list_count→Xbr,entry_zip_next→Xbw,slot_dict_get→XbA,slot_str_find→XbB,type_str_find→XbC
open PySem.W renaming Frag→Xt,noRoadLSs→Ux,mg_of→Xar,nsIn→XaA,keepIn→XaC,fnOf→XaS,looksOpen→Xa8,codeIn→XbD,noRoadLS→Xcg,findIn→Xcs
open PySem.W.Look renaming name→Xb6,str→Xcf
open PyVaaccb renaming shape→XaD,answers→Xbk,answers_asked→Xbx,bound→XbE,whole→Xct
open UInt8 renaming toNat→XU,toNat_inj→U1,ofNat→Xa2,toNat_ofNat'→XbW
open Vaacca renaming ascii→Xa,allSome→Xq,distinct→Xu,cutAt→XA,toldText→XN,gluedBy→XS,spaced→XV,isId→XX,KINDS→XZ,isSmall→X3,rulesOf→X9,linesOf→Uc,pageOf→Uj,whatText→Up,rulesText→Us,isSaid→Uv,isWordByte→Uy,areRules→UA,Box→UD,pressed→UE,RESERVED→UH,unquoted→UP,ids→U4,boxAt→U9,ruleOf→Xab,toldTexts→Xap,lineOf→Xas,actOf→XaB,Source→XaJ,sourceOf→XaT,digitOf→XaZ,doPress→Xa0,DEEP→Xa3,Rule→Xa4,quoted→Xa6,sourceText→Xa9,startRules→Xba,digit→Xbl,first→Xbm,BOXES→XbX,State→XbY,boxOf→XbZ,kindText→Xco,ruleFor→Xcu,isRule→Xcx,kidsOf→Xcy,kindOf→Xcz,whatOf→XcA
open Vaaccb renaming noBox→X0,ruleOf→X5,step→Ua,envOf→Um,onBox→UJ,boxOf→UQ,sourceNumber→UT,does→UW,start→UZ,nameOf→XaK,heardText→XaO,doPress→Xa1,given→Xbn,rowOf→Xbo,labelled→Xbv,State→Xb0,inner→Xb1,tell→Xca,SOURCES→Xcv
open VaaccbNeutral renaming text?→XW,encode→Ub,step→UM,callOf→Xaq
open PySem.Heap renaming get?_push_of_some→XB,get?_push_size→Ui,size_push→UU,lt_size→U5
open PySem.Heap.SameBut renaming update→XbN
namespace Sr
open PySem PySem.Spec PyProof.Rows L2
abbrev Qb:=Vaacca.Text
theorem Qe.new{H:Hp}{p:Addr}{o:HO}(h:H p=none):Qe H (upd H p o):=λb u e=>by
 rw[Qq (Q3 e h)];exact e
def Yv(H H':Hp):Prop:=∀b o,H b=some o->(∀xs,o≠.lst xs)->H' b=some o
theorem Yv.of{H H':Hp}(h:Qe H H'):Yv H H':=λb o e _=>h b o e
theorem Yv.trans{H H1 H2:Hp}(a:Yv H H1)(b:Yv H1 H2):Yv H H2:=λc o h n=>b c o (a c o h n) n
theorem Yv.upd{H:Hp}{D:Addr}{xs:List V}{o:HO}(h:H D=some (.lst xs)):Yv H (L2.upd H D o):=λb u e n=>by
 rw[Qq (Q8 e h (n xs))];exact e
theorem Qe.tup{K:Xt}{H H':Hp}{a:Addr}{xs:List V}(e:Qe H H')(h:SqT K H a xs):SqT K H' a xs:=by
 rcases h with (h | ⟨o,h⟩) | h
 ·exact .inl (.inl (e _ _ h))
 ·exact .inl (.inr ⟨o,e _ _ h⟩)
 ·exact .inr h
theorem Qe.updL{H H':Hp}{D:Addr}{o:HO}(h:Qe H H')(hD:H D=none):Qe H (L2.upd H' D o):=λb u e=>by
 rw[Qq (Q3 e hD)];exact h b u e
structure QbV(J:It)(H0:Hp)(n:Nat)(Rx:Nat->V->Hp->Prop):Prop where
 go:∀i H,Qe H0 H->i<n->J.go i H
 yld:∀i H x H',Qe H0 H->i<n->J.yld i H x H'->Qe H H'/\Rx i x H'
 stop:∀i H,Qe H0 H->n<=i->J.stop i H
theorem QW{K:Xt}{H:Hp}{a:Addr}{xs:List V}(h:SqL K H a xs):QbV (Itl K a) H xs.length (λi x _=>xs[i]?=some x) where
 go:=λi H' s hi=>⟨xs,xs[i],Qe.seq s h,by simp[hi]⟩
 yld:=λi H1 x H2 s hi y=>by
  obtain⟨e,y⟩:=y;subst e;exact⟨Qe.refl _,y xs (Qe.seq s h)⟩
 stop:=λi H' s hi=>⟨xs,Qe.seq s h,hi⟩
theorem QoK{K:Xt}{H:Hp}{a:Addr}{xs:List V}(h:SqT K H a xs):QbV (Itt K a) H xs.length (λi x _=>xs[i]?=some x) where
 go:=λi H' s hi=>⟨xs,xs[i],Qe.tup s h,by simp[hi]⟩
 yld:=λi H1 x H2 s hi y=>by
  obtain⟨e,y⟩:=y;subst e;exact⟨Qe.refl _,y xs (Qe.tup s h)⟩
 stop:=λi H' s hi=>⟨xs,Qe.tup s h,hi⟩
theorem WA{lo:Int}{n:Nat}{H:Hp}:QbV (Itr lo n) H n (λi x _=>x=.int (lo+i)) where
 go:=λi H' s hi=>hi
 yld:=λi H1 x H2 s hi y=>by
  obtain⟨e,y⟩:=y;subst e;exact⟨Qe.refl _,y⟩
 stop:=λi H' s hi=>hi
theorem QoJ{x:Str}{H:Hp}:QbV (Its x) H x.cps.size (λi v _=>∃c,x.cps[i]?=some c/\v=.str ⟨#[c]⟩) where
 go:=λi H' s hi=>hi
 yld:=λi H1 v H2 s hi y=>by
  obtain⟨e,y⟩:=y;subst e;exact⟨Qe.refl _,y⟩
 stop:=λi H' s hi=>hi
def Lc(g:TG)(tt:TT)(te:TE)(vs:List Nat)(σ:L2.St)(J:It)(H1:Hp)(Q:VK):Prop:=
 ∀D,H1 D=none->∃W:Nat->Nat->Hp->Prop,(∃m,W 0 m (L2.upd H1 D (.lst [])))/\∀i m H,W i m H->
   (J.stop i H/\Q (.ref D) H)\/(J.go i H/\∃Nx:Hp->Prop,(∀H',Nx H'->∃m',m'<m/\W (i+1) m' H')/\∀x H',J.yld i H x H'->g x (Z8 σ vs) H' fun σ2 H2=>Z8 σ2 vs=Z8 σ vs/\tt σ2 H2 λb H3=>
    if b=true then te σ2 H3 λy H4=>∃acc,H4 D=some (.lst acc)/\acc.length<sizeLine/\Nx (L2.upd H4 D (.lst (acc++[y]))) else Nx H3)
theorem tlc{wi:TI}{g:TG}{tt:TT}{te:TE}{vs:List Nat}{σ:L2.St}{H:Hp}{Q:VK}(h:wi σ H λJ H1=>Lc g tt te vs σ J H1 Q):tLc wi g tt te vs σ H Q:=h
theorem lcW{J:It}{H1:Hp}{n:Nat}{Rx:Nat->V->Hp->Prop}{g:TG}{tt:TT}{te:TE}{vs:List Nat}{σ:L2.St}{Q:VK}(W:QbV J H1 n Rx)(hn:n<=sizeLine)(p:Nat->Bool)(R:Nat->V->Hp->Prop)
  (mono:∀i y H H',Yv H H'->R i y H->R i y H')
  (turn:∀i x H2,i<n->Qe H1 H2->Rx i x H2->∀(Qy:VK) (Qn:Hp->Prop),(p i=true->∀y H5,Qe H2 H5->R i y H5->Qy y H5)->(p i=false->∀H5,Qe H2 H5->Qn H5)->
    g x (Z8 σ vs) H2 fun σ2 H3=>Z8 σ2 vs=Z8 σ vs/\tt σ2 H3 λb H4=>if b=true then te σ2 H4 Qy else Qn H4)
  (fin:∀D ys H',H1 D=none->Qe H1 H'->H' D=some (.lst ys)->Paired (λi y=>R i y H') ((Xs n).filter p) ys->Q (.ref D) H') :
  Lc g tt te vs σ J H1 Q:=by
 intro D hD
 let Pv:Nat->Hp->Prop:=λi H=>Qe H1 H/\∃acc,H D=some (.lst acc)/\acc.length<=i/\Paired (λi y=>R i y H) ((Xs i).filter p) acc
 have pm:∀{l:List Nat} {ys:List V} {H H':Hp},Yv H H'->Paired (λi y=>R i y H) l ys->Paired (λi y=>R i y H') l ys:=by
  intro l ys H H' s h
  induction h with
  | nil=>exact .nil
  | cons a _ ih=>exact .cons (mono _ _ _ _ s a) ih
 have pa:∀{l m:List Nat} {ys zs:List V} {H:Hp},Paired (λi y=>R i y H) l ys->Paired (λi y=>R i y H) m zs->Paired (λi y=>R i y H) (l++m) (ys++zs):=by
  intro l m ys zs H h k
  induction h with
  | nil=>exact k
  | cons a _ ih=>exact .cons a ih
 refine⟨λi m H=>m=n-i/\i<=n/\Pv i H,⟨n,by simp,XC _,Qe.new hD,[],Qh,XC _,.nil⟩,?_⟩;rintro i m H ⟨rfl,hi,hs,acc,hacc,hlen,hp⟩
 by_cases hlt:i<n
 ·refine .inr ⟨W.go i H hs hlt,Pv (i+1),λH' p'=>⟨n-(i+1),by omega,rfl,hlt,p'⟩,λx H' y=>?_⟩;obtain⟨s1,rx⟩:=W.yld i H x H' hs hlt y;refine turn i x H' hlt (hs.trans s1) rx _ _ (λhpi y H5 s5 r5=>?_) (λhpi H5 s5=>?_)
  ·have hD5:H5 D=some (.lst acc):=s5 _ _ (s1 _ _ hacc);refine⟨acc,hD5,by omega,Qe.updL ((hs.trans s1).trans s5) hD,acc++[y],Qh,by simp;exact hlen,?_⟩;rw[Xax,UX];have e:List.filter p [i]=[i]:=by simp[hpi]
   rw[e];have st:Yv H5 (L2.upd H5 D (.lst (acc++[y]))):=Yv.upd hD5;exact pa (pm ((Yv.of (s1.trans s5)).trans st) hp) (.cons (mono _ _ _ _ st r5) .nil)
  ·refine⟨(hs.trans s1).trans s5,acc,s5 _ _ (s1 _ _ hacc),by omega,?_⟩;rw[Xax,UX];have e:List.filter p [i]=[]:=by simp[hpi]
   rw[e,XG];exact pm (Yv.of (s1.trans s5)) hp
 ·have e:i=n:=by omega
  subst e;exact .inl ⟨W.stop i H hs (Xy _),fin D acc H hD hs hacc hp⟩
theorem lcF{J:It}{H1:Hp}{n:Nat}{Rx:Nat->V->Hp->Prop}{g:TG}{tt:TT}{te:TE}{vs:List Nat}{σ:L2.St}{Q:VK}(W:QbV J H1 n Rx)(hn:n<=sizeLine)(p:Nat->Bool)(f:Nat->V)
  (turn:∀i x H2,i<n->Qe H1 H2->Rx i x H2->∀(Qy:VK) (Qn:Hp->Prop),(p i=true->∀H5,Qe H2 H5->Qy (f i) H5)->(p i=false->∀H5,Qe H2 H5->Qn H5)->
    g x (Z8 σ vs) H2 fun σ2 H3=>Z8 σ2 vs=Z8 σ vs/\tt σ2 H3 λb H4=>if b=true then te σ2 H4 Qy else Qn H4)
  (fin:∀D H',H1 D=none->Qe H1 H'->H' D=some (.lst (((Xs n).filter p).map f))->Q (.ref D) H') :
  Lc g tt te vs σ J H1 Q:=by
 refine lcW W hn p (λi y _=>y=f i) (λ_ _ _ _ _ h=>h) (λi x H2 hi s rx Qy Qn h1 h2=>turn i x H2 hi s rx Qy Qn (λhp H5 s5=>h1 hp _ _ s5 rfl) h2) λD ys H' hD s hd hp=>?_
 have e:ys=((Xs n).filter p).map f:=by
  clear hd;generalize (Xs n).filter p=l at hp
  induction hp with
  | nil=>rfl
  | cons a _ ih=>rw[Xj,<-a,<-ih]
 subst e;exact fin D H' hD s hd
theorem JS{α:Type}(xs:List α)(d:α):(Xs xs.length).map (λi=>xs.getD i d)=xs:=by
 apply List.ext_getElem
 ·simp
 ·intro i h1 h2;simp at h1;simp[h1]
theorem Qam{α β:Type}(xs:List α)(d:α)(p:α->Bool)(f:α->β):((Xs xs.length).filter λi=>p (xs.getD i d)).map (λi=>f (xs.getD i d))=(xs.filter p).map f:=by
 have e:=JS xs d
 conv=>rhs;rw[<-e,Uz,Xr]
 rfl
theorem lcX{α:Type}{J:It}{H1:Hp}{xs:List α}{vf:α->V}{g:TG}{tt:TT}{te:TE}{vs:List Nat}{σ:L2.St}{Q:VK}(d:α)(W:QbV J H1 xs.length (λi v _=>∃x,xs[i]?=some x/\v=vf x))(hn:xs.length<=sizeLine)(p:α->Bool)(f:α->V)
  (turn:∀x H2,x ∈ xs->Qe H1 H2->∀(Qy:VK) (Qn:Hp->Prop),(p x=true->∀H5,Qe H2 H5->Qy (f x) H5)->(p x=false->∀H5,Qe H2 H5->Qn H5)->
    g (vf x) (Z8 σ vs) H2 fun σ2 H3=>Z8 σ2 vs=Z8 σ vs/\tt σ2 H3 λb H4=>if b=true then te σ2 H4 Qy else Qn H4)
  (fin:∀D H',H1 D=none->Qe H1 H'->H' D=some (.lst ((xs.filter p).map f))->Q (.ref D) H') :
  Lc g tt te vs σ J H1 Q:=by
 refine lcF W hn (λi=>p (xs.getD i d)) (λi=>f (xs.getD i d)) (λi v H2 hi s rx Qy Qn h1 h2=>?_) λD H' hD s hd=>?_
 ·obtain⟨x,ex,rfl⟩:=rx;have e:xs.getD i d=x:=by rw[Xf,ex];rfl
  simp only[e] at h1 h2;exact turn x H2 (Xo ex) s Qy Qn h1 h2
 ·rw[Qam] at hd;exact fin D H' hD s hd
theorem lcM{α:Type}{J:It}{H1:Hp}{xs:List α}{vf:α->V}{g:TG}{tt:TT}{te:TE}{vs:List Nat}{σ:L2.St}{Q:VK}(d:α)(W:QbV J H1 xs.length (λi v _=>∃x,xs[i]?=some x/\v=vf x))(hn:xs.length<=sizeLine)(f:α->V)
  (turn:∀x H2,x ∈ xs->Qe H1 H2->∀(Qy:VK) (Qn:Hp->Prop),(∀H5,Qe H2 H5->Qy (f x) H5)->
    g (vf x) (Z8 σ vs) H2 fun σ2 H3=>Z8 σ2 vs=Z8 σ vs/\tt σ2 H3 λb H4=>if b=true then te σ2 H4 Qy else Qn H4)
  (fin:∀D H',H1 D=none->Qe H1 H'->H' D=some (.lst (xs.map f))->Q (.ref D) H'):Lc g tt te vs σ J H1 Q:=by
 refine lcX d W hn (λ_=>true) f (λx H2 hx s Qy Qn h1 h2=>turn x H2 hx s Qy Qn (h1 rfl)) λD H' hD s hd=>fin D H' hD s ?_
 rw[X2.mpr (λ_ _=>rfl)] at hd;exact hd
theorem Jw{α:Type}{J:It}{H:Hp}{xs:List α}{vf:α->V}(h:QbV J H (xs.map vf).length (λi x _=>(xs.map vf)[i]?=some x)):QbV J H xs.length (λi v _=>∃x,xs[i]?=some x/\v=vf x):=by
 refine⟨λi H' s hi=>h.go i H' s (by simpa using hi),λi H1 x H2 s hi y=>?_,λi H' s hi=>h.stop i H' s (by simpa using hi)⟩;obtain⟨s1,r⟩:=h.yld i H1 x H2 s (by simpa using hi) y;refine⟨s1,?_⟩;rw[Xg] at r;cases e:xs[i]? with
 | none=>rw[e] at r;cases r
 | some z=>rw[e] at r;exact⟨z,rfl,(Xc r).symm⟩
end Sr
namespace Sr
open PySem PySem.Spec PyProof.Rows L2 TL
def S(t:Qb):Str:=⟨(t.map XU).toArray⟩
theorem Qf8(t:Qb):tl (S t)=t.map XU:=rfl
theorem Qhn:∀{a b:List UInt8},a.map XU=b.map XU->a=b
 | [],[],_=>rfl
 | [],_::_,h=>by simp at h
 | _::_,[],h=>by simp at h
 | x::a,y::b,h=>by
  simp only[Xj,Xbs] at h;rw[Qhn h.2,U1.mp h.1]
theorem YT{a b:Qb}(h:S a=S b):a=b:=Qhn (congrArg tl h)
theorem QdN{a b:Qb}:V.str (S a)=V.str (S b)↔a=b:=⟨λh=>YT (V.str.inj h),λh=>by rw[h]⟩
theorem W8(a b:Qb):S a++S b=S (a++b):=Qb9 (by rw[Qar,Qf8,Qf8,Qf8,XL])
theorem Ja(t:Qb):(S t).length=t.length:=by rw[WP,Qf8,Xb]
theorem Wc:(Str.ofString "":Str)=S []:=by decide +kernel
theorem QeR(c:UInt8):∀t:Qb,XA c t≠[]
 | []=>by simp[XA]
 | b::r=>by
  unfold XA
  split
  ·simp
  ·split<;>simp
theorem YL(c:UInt8)(r:Qb):XA c (c::r)=[]::XA c r:=by
 show (if c=c then _ else _)=_;rw[if_pos rfl]
theorem YU{c b:UInt8}(h:¬b=c){r w:Qb}{ws:List Qb}(e:XA c r=w::ws):XA c (b::r)=(b::w)::ws:=by
 show (if b=c then _ else match XA c r with | w::ws=>(b::w)::ws | []=>[[b]])=_;rw[if_neg h,e]
theorem ZR(c:UInt8)(t:Qb):QA λw ws=>XA c t=w::ws:=by
 cases e:XA c t with
 | nil=>exact absurd e (QeR c t)
 | cons w ws=>exact⟨w,ws,rfl⟩
theorem Qio(c:UInt8):∀(t:Qb) (acc:List Nat) (w:Qb) (ws:List Qb),XA c t=w::ws->spl [c.toNat] 0 acc (t.map XU)=(acc++w.map XU)::ws.map (Xbg XU)
 | [],acc,w,ws,e=>by
  have e:([[]]:List Qb)=w::ws:=e;injection e with e1 e2;subst e1 e2;rw[List.map_nil,Qc2,XG];rfl
 | b::r,acc,w,ws,e=>by
  rw[Xj]
  by_cases h:b=c
  ·subst h;rw[YL] at e;injection e with e1 e2;subst e1;rw[QlO (by simp[pre])];obtain⟨w',ws',e'⟩:=ZR b r;have ih:=Qio b r [] w' ws' e';show acc::spl [b.toNat] 0 [] (r.map XU)=_;rw[ih,<-e2,e',UN,List.map_nil,XG];rfl
  ·obtain⟨w',ws',e'⟩:=ZR c r;rw[YU h e'] at e;injection e with e1 e2;subst e1 e2;have hn:b.toNat≠c.toNat:=λq=>h (U1.mp q)
   rw[QjM (Qd3 [] _ hn),Qio c r (acc++[b.toNat]) w' ws' e'];simp
theorem Qg2:∀{l:List Str} {m:List Qb},l.map tl=m.map (Xbg XU)->l=m.map S
 | [],[],_=>rfl
 | [],_::_,h=>by simp at h
 | _::_,[],h=>by simp at h
 | x::l,y::m,h=>by
  simp only[Xj,Xbs] at h;rw[Xj,<-Qg2 h.2,Qb9 (x:=x) (y:=S y) h.1]
theorem Qlc(t:Qb):(S t).cps.all (·<256)=true:=by
 rw[<-Array.all_toList];show (t.map XU).all (·<256)=true;rw[Ut,Xl];intro x _;exact decide_eq_true x.toNat_lt
theorem Qip(t:Qb)(c:UInt8):Txt.split (S t) (S [c])=(XA c t).map S:=by
 have h1:=QmZ (S t) (S [c]) (by simp[Qf8]) (Qph (Qlc [c]));refine Qg2 (h1.trans ?_);obtain⟨w,ws,e⟩:=ZR c t;have h2:=Qio c t [] w ws e;rw[e];exact h2
theorem QhD(c:UInt8):∀t:Qb,(XA c t).length<=t.length+1
 | []=>by simp[XA]
 | b::r=>by
  have ih:=QhD c r
  by_cases h:b=c
  ·subst h;rw[YL];simp;omega
  ·obtain⟨w,ws,e⟩:=ZR c r;rw[YU h e];rw[e] at ih;simp at ih ⊢;omega
theorem Yb(c:UInt8):∀(t w:Qb),w ∈ XA c t->w.length<=t.length
 | [],w,h=>by
  have h:w ∈ ([[]]:List Qb):=h;simp at h;simp[h]
 | b::r,w,h=>by
  by_cases hb:b=c
  ·subst hb;rw[YL] at h;rcases Xm.mp h with h | h
   ·subst h;simp
   ·have:=Yb b r w h;simp;omega
  ·obtain⟨w',ws,e⟩:=ZR c r;rw[YU hb e] at h;rcases Xm.mp h with h | h
   ·subst h;have:=Yb c r w' (by rw[e];exact Xh);simp;omega
   ·have:=Yb c r w (by rw[e];exact Xn _ h);simp;omega
theorem Qkg(s:Qb):∀l:List Qb,Txt.join (S s) (l.map S)=S (XS s l):=λl=>by
 rw[Qpf];refine Qb9 ?_;rw[QlS,Qf8,Qf8,Xr];have e:∀l:List Qb,Qi3 (s.map XU) (l.map (tl ∘ S))=(XS s l).map XU:=by
  intro l
  induction l with
  | nil=>rfl
  | cons a r ih=>
   cases r with
   | nil=>rfl
   | cons b r=>
    show tl (S a)++(s.map XU++Qi3 (s.map XU) ((b::r).map (tl ∘ S)))=(a++(s++XS s (b::r))).map XU;rw[ih,XL,XL,Qf8]
 exact e l
theorem QeP(t:Qb)(lo hi:Option Int):Qj8 (S t) lo hi=S ((t.drop (HT.sIx t.length 0 lo)).take (HT.sIx t.length t.length hi-HT.sIx t.length 0 lo)):=by
 refine Qb9 ?_;show ((tl (S t)).drop _).take _=_;rw[Qf8,Qf8,Ja,XbL,XbK]
theorem Qrb(t:Qb)(i:Nat):(S t).cps[i]?=(t[i]?).map XU:=by
 show (t.map XU).toArray[i]?=_;rw[List.getElem?_toArray,Xg]
theorem Qrc(t:Qb):(S t).cps.size=t.length:=Ja t
theorem Qk4{t:Qb}{H:Hp}:QbV (Its (S t)) H t.length (λi v _=>∃c,t[i]?=some c/\v=.str (S [c])):=by
 have w:=QoJ (x:=S t) (H:=H);rw[Qrc] at w;refine⟨w.go,λi H1 x H2 s hi y=>?_,w.stop⟩;obtain⟨s1,c,e,q⟩:=w.yld i H1 x H2 s hi y;rw[Qrb] at e;cases e':t[i]? with
 | none=>rw[e'] at e;cases e
 | some b=>
  rw[e'] at e;have:b.toNat=c:=Xc e;subst this;exact⟨s1,b,rfl,q⟩
section
variable {X:Cx}
theorem Qjc:MtR X "str.find" (λx xs H Q=>JP λa b i=>x=.str a/\xs=[.str b,.int i]/\Q (.int (Txt.find3 a b i)) H):=by
 intro pins s σ H x xs v us Q I rx rs h;obtain⟨a,b,i,rfl,rfl,h⟩:=h;obtain⟨t,rfl⟩:=rx;cases rs with
 | cons r1 rs=>
  cases rs with
  | cons r2 rs=>
   cases rs;obtain⟨u,rfl⟩:=r1;obtain⟨u2,rfl⟩:=r2;exact PySem.SC.find3 ⟨.int _,H,I.tok _,⟨_,rfl⟩,h⟩
theorem Qkk:MtR X "str.lstrip" (λx xs H Q=>QA λa b=>x=.str a/\xs=[.str b]/\a.length<=sizeLine/\Q (.str (Txt.lstripChars a b)) H):=by
 intro pins s σ H x xs v us Q I rx rs h;obtain⟨a,b,rfl,rfl,hz,h⟩:=h;obtain⟨t,rfl⟩:=rx;cases rs with
 | cons r1 rs=>
  cases rs;obtain⟨u,rfl⟩:=r1;exact PySem.SC.lstripChars (λt' k=>⟨.str _,H,I.tok k,⟨t',rfl⟩,h⟩) hz
theorem QgO{y:V}:∀{xs:List V} {us:List Value},QP xs us->xs.all Yw=true->us.countP (eqU y)=xs.countP (λz=>eqV z y)
 | _,_,.nil,_=>rfl
 | _,_,.cons r t,f=>by
  rw[X4,Xd] at f;rw[Xcb,Xcb,QgO t f.2,QeX r f.1]
theorem Qg5:MtR X "list.count" (λx xs H Q=>JP λa ys y=>x=.ref a/\xs=[y]/\SqL X.K H a ys/\Yw y=true/\ys.all Yw=true/\Q (.int (ys.countP λz=>eqV z y:Nat)) H):=by
 intro pins s σ H x xs v us Q I rx rs h;obtain⟨a,ys,y,rfl,rfl,hs,fy,fys,q⟩:=h;cases rx;cases rs with
 | cons ry rt=>
  cases rt;obtain⟨its,rv,⟨⟨cls,dd,data,sl⟩,n,ho,hc,hdn,hd⟩,hlen⟩:=I.list hs;simp only at hc hd;subst hc hd;refine call_meets XaE ⟨_,ho,rfl⟩ PySem.F.entry_list_count (PySem.F.args_list_count_2 _ _) (SeqAt.list_countAt a its.toArray n dd sl _ (eqU y)) ⟨ho,λu' hu'=>Wg ry fy rv fys u' (by simpa using hu'),?_⟩;refine⟨.int _,H,I.tok _,⟨s.toks,?_⟩,q⟩;rw[show its.toArray.toList=its from rfl,QgO rv fys]
theorem Qnc{M:Model}{A:Around}{E:Value->Shared->Prop}{s:Shared}{β:Type}{hi:Nat}(f:Nat->β->Sem (ForInStep β))(I:List Nat->β->Shared->Prop)(Q:β->Shared->Prop)
  (turn:∀x JC b s,I (x::JC) b s->wpAny M A (f x b) (λr s'=>match r with | .yield b'=>I JC b' s' | .done b'=>Q b' s') E s)
  (fin:∀b s,I [] b s->Q b s) (b:β) (h:I (Xb7 0 hi) b s):wpAny M A (forIn [0:hi] b f) Q E s:=by
 rw[Std.Legacy.Range.forIn_eq_forIn_range'];simp only[Std.Legacy.Range.size,Nat.sub_zero,Nat.add_sub_cancel,Nat.div_one];exact wpAny_forIn_list f I Q turn fin _ b h
open PySem.SeqAt PySem.AutoSeq1 in
theorem Qgw(l:Addr)(items:Array Value)(n:Nat)(dd:Option Addr)(sl:Array (Option Value))(x:Value)(e:Value->Bool)(j:Nat)(hj:j<items.size)(hit:e items[j]=true)(hno:∀m (hm:m<items.size),m<j->e items[m]=false) :
  Meets (Builtin.«tuple.index» ⟨[.ref l,x],[]⟩)
   (λA R s=>s.heap.get? l=some { cls:=.type "tuple",dict:=dd,data:=.seq items n,slots:=sl }/\(∀y,y ∈ items->EqAt A.in1 s y x (e y))/\R (.ok (.ret (.int j s.toks))) { s with toks:=s.toks+1 }):=
 .of_wp λprog w A R s h=>by
  obtain⟨hp,g,d,tk,os⟩:=s;obtain⟨hl,he,h⟩:=h
  wp_walk using wpAny_loadPart' hl,Qnc _ (λJC b s'=>b.1=none/\s'=⟨hp,g,d,tk,os⟩/\∃i,i<=j/\JC=Xb7 i (items.size-i)) _
  case turn=>
   rintro y JC b s' ⟨hb,rfl,i,hi,hr⟩;have hlt:i<items.size:=by omega
   have e1:items.size-i=(items.size-(i+1))+1:=by omega
   rw[e1,List.range'_succ] at hr;injection hr with h1 h2;subst h1 h2;rw[show items[y]?=some items[y] by simp[hlt]];refine wpAny_bind (he items[y] (Array.getElem_mem hlt) prog w _ _ ?_)
   by_cases hy:y=j
   ·subst hy;rw[hit]
    wp_walk
    exact⟨_,rfl,h⟩
   ·rw[hno y hlt (by omega)]
    wp_walk
    exact⟨rfl,rfl,y+1,by omega,rfl⟩
  case fin=>
   rintro b s' ⟨hb,rfl,i,hi,hr⟩;have:(Xb7 i (items.size-i)).length=0:=by rw[<-hr];rfl
   rw[List.length_range'] at this;omega
  case h=>
   exact⟨rfl,rfl,0,XC _,by simp⟩
theorem QbL:MtR X "tuple.index" (λx xs H Q=>QbT λ(a:Addr) (ys:List V) (y:V) (j:Nat) (z:V)=>x=V.ref a/\xs=[y]/\SqT X.K H a ys/\Yw y=true/\ys.all Yw=true/\ys[j]?=some z/\eqV z y=true/\
 (∀(m:Nat) (z':V),m<j->ys[m]?=some z'->eqV z' y=false)/\Q (.int (j:Nat)) H):=by
 intro pins s σ H x xs v us Q I rx rxs h;obtain⟨a,ys,y,j,z,rfl,rfl,hs,fy,fys,hz,hzj,hno,q⟩:=h;cases rx;cases rxs with
 | cons ry rt=>
  rename_i uy ut
  cases rt;obtain⟨its,rv,⟨⟨cls,dd,data,sl⟩,ho,hc,n,hd⟩,hlen⟩:=I.tuple hs;simp only at hc hd;subst hc hd;obtain⟨u,hu,ru⟩:=rv.get hz;obtain⟨hjl,hje⟩:=Xp.mp hu;have hvl:=rv.length;have hj:j<its.toArray.size:=by simpa using hjl
  refine call_meets UO ⟨_,ho,rfl⟩ PySem.F.entry_tuple_index (PySem.F.args_tuple_index_2 _ _) (Qgw a its.toArray n dd sl uy (eqU y) j hj ?_ ?_) ⟨ho,λu' hu'=>Wg ry fy rv fys u' (by simpa using hu'),?_⟩
  ·have e1:its.toArray[j]=u:=by simpa using hje
   rw[e1,QeX ru (QaD fys hz)];exact hzj
  ·intro m hm hmj;have hml:m<its.length:=by simpa using hm
   have hmy:m<ys.length:=by omega
   have hy':ys[m]?=some ys[m]:=Xe hmy;obtain⟨u2,hu2,ru2⟩:=rv.get hy';obtain⟨_,hme⟩:=Xp.mp hu2;have e1:its.toArray[m]=u2:=by simpa using hme
   rw[e1,QeX ru2 (QaD fys hy')];exact hno m _ hmj hy'
  ·exact⟨.int (j:Nat),H,I.tok _,⟨_,rfl⟩,q⟩
end
def dd1(acc:List Str)(x:Str):List Str:=if acc.contains x then acc else acc++[x]
def dd(l:List Str):List Str:=l.foldl dd1 []
theorem Qex(l:List Str)(x:Str):dd (l++[x])=dd1 (dd l) x:=by simp[dd,Xa7]
theorem Qlf(acc:List Str)(x k:Str):(dd1 acc x).contains k=(acc.contains k||decide (k=x)):=by
 unfold dd1
 by_cases h:acc.contains x=true
 ·rw[if_pos h]
  by_cases e:k=x
  ·subst e;rw[h];rfl
  ·simp[e]
 ·rw[if_neg h];simp[Xx]
theorem QhF(acc:List Str)(x:Str):(dd1 acc x).length=if acc.contains x then acc.length else acc.length+1:=by
 unfold dd1
 split<;>simp
theorem QbB{α:Type}{p:List α->Prop}(h0:p [])(h1:∀l x,p l->p (l++[x]))(l:List α):p l:=by
 rw[<-List.reverse_reverse l]
 induction l.reverse with
 | nil=>exact h0
 | cons x r ih=>
  rw[List.reverse_cons];exact h1 _ _ ih
theorem Qqg:∀l:List Str,(dd l).length<=l.length:=by
 refine QbB (Xy _) λl x ih=>?_
 rw[Qex,QhF,Xi,XI]
 split<;>omega
theorem QqI(l:List Str)(k:Str):(dd l).contains k=l.contains k:=by
 refine QbB (p:=λl=>(dd l).contains k=l.contains k) rfl (λl x ih=>?_) l;rw[Qex,Qlf,ih,UF];simp[Xx]
theorem Qnn(l:List Str):(dd l).length=l.length↔l.Nodup:=by
 refine QbB (p:=λl=>(dd l).length=l.length↔l.Nodup) (by simp[dd]) (λl x ih=>?_) l
 ·have hle:=Qqg l;rw[Qex,QhF,QqI,Xi,XI,Xaj]
  by_cases h:x ∈ l
  ·rw[if_pos (by simpa using h)];constructor
   ·intro q;omega
   ·intro q;exact absurd rfl (q.2.2 x h x (by simp))
  ·rw[if_neg (by simpa using h)];constructor
   ·intro q;refine⟨ih.mp (by omega),by simp,λa ha b hb e=>?_⟩;rw[XE.mp hb] at e;exact h (e ▸ ha)
   ·intro q;have:=ih.mpr q.1;omega
abbrev Qgx(val:Nat->Str)(i:Nat):List Str:=dd ((Xs i).map val)
theorem Qhr(val:Nat->Str)(i:Nat):Qgx val (i+1)=dd1 (Qgx val i) (val i):=by
 show dd _=_;rw[Xax,XL];exact Qex _ _
theorem Qp7(val:Nat->Str)(i:Nat):(Qgx val i).length<=i:=by
 have:=Qqg ((Xs i).map val)
 simpa using this
abbrev QdM(prog:Program)(w:World)(hp:Heap)(a:Addr)(l:List Str):Prop:=hp.SetOf (strKind prog w) a (λk=>l.contains k) l.length
section
variable {prog:Program} {w:World} {A:Around} {R:Result->Shared->Prop} {I:Addr} {fp wr:List Addr} {G:Array GenState->Array GenState->Prop} {n:Nat} {P:Nat->Value->Prop} {St:Nat->Shared->Prop}
theorem QmN(W:WalksS prog w A.in1 I fp wr G n P St)(z:Addr)(hzf:z ∉ fp)(val:Nat->Str)(hval:∀i v,P i v->∃t,v=.str (val i) t)(room:n+1<scanBound) :
  ∀(k i:Nat) (s:Shared),n-i=k->i<=n->St i s->QdM prog w s.heap z (Qgx val i)->
   (∀s',Moved (z::wr) G s s'->QdM prog w s'.heap z (Qgx val n)->R (.ok (.ret .none)) s')->
   codeAny (model prog w) A (.builtin "set.update.loop" ⟨[.ref z,.ref I],[]⟩) R s:=by
 have hzw:z ∉ wr:=λq=>hzf (W.sub _ q)
 have up:∀b ∈ wr,b ∈ z::wr:=λb q=>Xn _ q
 have carry:∀{s s':Shared} {l:List Str},Moved wr G s s'->QdM prog w s.heap z l->QdM prog w s'.heap z l:=by
  intro s s' l mv q;obtain⟨o,es,ep,tb,ho,more⟩:=q;exact⟨o,es,ep,tb,mv.heap z _ hzw ho,more⟩
 intro k
 induction k with
 | zero=>
  intro i s hk hi st hS fin;obtain rfl:i=n:=by omega
  refine codeAny_builtin PyProof.Rows.F.entry_set_update_loop ?_;rw[Around.under_plainId PyProof.Rows.F.plain_set_update_loop _];show wpAny _ A.in1 (pyNext (.ref I) >>= _) _ _ s;refine wpAny_bind (W.done s _ _ st λs' mv=>?_);show wpAny _ A.in1 (ret Value.none) _ _ s';exact wpAny_pure (fin s' (mv.mono up) (carry mv hS))
 | succ k ih=>
  intro i s hk hi st hS fin;have lt:i<n:=by omega
  refine codeAny_builtin PyProof.Rows.F.entry_set_update_loop ?_;rw[Around.under_plainId PyProof.Rows.F.plain_set_update_loop _];show wpAny _ A.in1 (pyNext (.ref I) >>= _) _ _ s;refine wpAny_bind (W.item i s _ _ lt st λv s' hP st' mv=>?_);obtain⟨t,rfl⟩:=hval i v hP;have hS':=carry mv hS;show wpAny _ A.in1 (holding [Value.str (val i) t] (setAdd z (.str (val i) t)) >>= _) _ _ s';refine wpAny_bind (wpAny_holding ?_);unfold setAdd;refine wpAny_holding ?_;refine wpAny_bind ((strKind prog w).pyHash (k:=val i) (strKind_is _ _ _ _) ?_);have few:(Qgx val i).length+1<scanBound:=by have:=Qp7 val i;omega
  refine wpAny_setAddHashed_of (knd:=strKind prog w) (s:={ s' with toks:=s'.toks+1 }) (strKind_is _ _ _ _) rfl hS' few λh' sb hS2=>?_
  have hSi:QdM prog w h' z (Qgx val (i+1)):=SetOf_congr hS2 (λk'=>by rw[Qhr,Qlf]) (by rw[Qhr,QhF]);refine wpAny_pure ⟨plainId_quiet PyProof.Rows.F.plain_set_update_loop _,ih (i+1) _ (by omega) lt (W.frame _ s' _ _ st' (Xb8 _) λb hb o e=>?_) hSi λs'' mv2 hS''=>?_⟩
  ·rw[sb.2 b λq=>hzf (by rw[<-q];exact hb)];exact e
  ·refine fin s'' (Moved.trans W.gtrans ((mv.mono up).then_heap (Xb8 _) λb o hb e=>?_) mv2) hS'';rw[sb.2 b λq=>hb (by rw[q];exact Xh)];exact e
end
abbrev Wh(led:Bool):Obj:={ cls:=.type "set",dict:=none,data:=.set #[] 0 (.fresh 0 0 led) }
section
variable {prog:Program} {w:World} {A:Around} {E:Value->Shared->Prop} {s:Shared}
theorem QjE{l:Addr}{items:Array Value}{ys:List Str}{Q:Value->Shared->Prop}(hh:A.handled=none)(hl:s.heap.IsList l items)(hi:∀(i:Nat) (v:Value),items[i]?=some v->∃t,v=Value.str (ys.getD i Str.empty) t)(room:items.size+1<scanBound)
  (h:∀(h':Heap) (tk:Nat),QdM prog w h' s.heap.objs.size (Qgx (λi=>ys.getD i Str.empty) items.size)->(∀b o,b<s.heap.objs.size->s.heap.get? b=some o->h'.get? b=some o)->Q (.ref s.heap.objs.size) { s with heap:=h',toks:=tk }) :
  wpAny (model prog w) A (call (.type "set") [.ref l]) Q E s:=by
 obtain⟨c,more,hmro⟩:=PySem.F.called_set.mro;have made:=PySem.F.called_set.made;have sub:=PySem.F.called_set.sub;refine wpAny_call (codeAny_of_tree ?_);show wpAny _ _ (callAny (.type "set") _) _ _ _;refine wpAny_pure ⟨Code.quiet_builtin _ (by decide +kernel),codeAny_builtin PySem.F.entry_type_call ?_⟩;rw[Around.under_plain (weight_type_call_type "set" [.ref l] []) rfl];have f1:=PySem.F.called_set.notType;have f2:=PySem.F.called_set.canCreate;have f3:=PySem.F.typeCall_set_1 (.ref l)
 repeat (any_goals (first | assumption | wp_step))
 refine codeAny_mono (code_set_new_1 (.ref l) (E:=E) (Q₁:=λobj s1=>∃led:Bool,obj=.ref s.heap.objs.size/\s1={ s with heap:=s.heap.push (Wh led) }) λled=>⟨led,rfl,rfl⟩) λr s1 hr=>?_
 cases r with
 | error e=>exact hr
 | ok fl=>
  cases fl with
  | ret obj=>
   obtain⟨led,rfl,rfl⟩:=hr;have at0:(s.heap.push (Wh led)).get? s.heap.objs.size=some (Wh led):=Ui _ rfl;have ty0:Shared.TypeIs { s with heap:=s.heap.push (Wh led) } (.ref s.heap.objs.size) "set":=⟨_,at0,rfl⟩;have g1:=PySem.F.called_set.init.lookup;have g2:=PySem.F.called_set.init.bind (.ref s.heap.objs.size)
   repeat (any_goals (first | assumption | wp_step))
   refine codeAny_mono (codeAny_call_builtin (R:=wants (λr s2=>r=.none/\QA λh' tk=>s2={ s with heap:=h',toks:=tk }/\QdM prog w h' s.heap.objs.size (Qgx (λi=>ys.getD i Str.empty) items.size)/\
     (∀b o,b<s.heap.objs.size->s.heap.get? b=some o->h'.get? b=some o)) E) PySem.F.called_set.init.plain PySem.F.entry_set_init (check_set_init_1 ty0 ?_)) λr2 s2 hr2=>?_
   ·obtain⟨⟨ocls,odict,odata,oslots⟩,hol,hcl,nl,hdl⟩:=hl;simp only at hcl hdl;subst hcl;subst hdl;have hol':(s.heap.push (Wh led)).get? l=some { cls:=.type "list",dict:=odict,data:=.seq items nl,slots:=oslots }:=XB _ hol;have k1:=PySem.F.sub_list_set;have k2:=PySem.F.sub_list_frozenset;have k3:(Value.type "list"==Value.type "dict")=false:=by decide
    have hl1:(s.heap.push (Wh led)).IsList l items:=⟨_,hol',rfl,nl,rfl⟩;unfold Builtin.«set.__init__» noKeywords Builtin.Frozenset.updateFrom;generalize ePI:pyIter=PI
    wp_walk
    subst ePI;refine wpAny_pyIter_list hl1 ?_;refine wpAny_bind (wpAny_runValue ?_);have lS:l<s.heap.objs.size:=U5 hol;have hh3:A.in1.in1.in1.handled=none:=by simp[hh]
    have neI:l≠(s.heap.push (Wh led)).objs.size:=by
     rw[UU];exact XaR (Xb5 lS)
    have nf:s.heap.objs.size ∉ [(s.heap.push (Wh led)).objs.size,l]:=by
     rw[UU];simp only[Xm,Xbh,or_false,not_or];exact⟨XaR (Ug _),Xbi lS⟩
    refine QmN ((Walks.list hh3 _ l neI items).toS) s.heap.objs.size nf (λi=>ys.getD i Str.empty) hi room (items.size-0) 0 _ (by omega) (XC _) ⟨⟨_,Ui _ rfl,rfl,rfl⟩,(hl1.push _)⟩ ?c1 ?c2
    case c1=>
     have at1:((s.heap.push (Wh led)).push { cls:=.type "list_iterator",data:=.fields #[.ref l,.int 0 0] }).get? s.heap.objs.size=some (Wh led):=XB _ at0;exact SetOf_congr ((setObjOf_fresh (knd:=strKind prog w) led).setOf at1 (by unfold scanBound;omega)) (λ_=>rfl) rfl
    case c2=>
     intro s' mv hS';obtain⟨h',g',d',tk',os'⟩:=s';obtain rfl:g'=s.gens:=mv.gens;obtain rfl:d'=s.drawn:=mv.drawn;obtain rfl:os'=s.os:=mv.os;show wpAny _ _ _ _ _ _;refine wpAny_pure ?_;show wpAny _ _ (ret Value.none) _ _ _;refine wpAny_pure ⟨rfl,h',tk',rfl,hS',λb o hb e=>?_⟩;have b2:b≠(s.heap.push (Wh led)).objs.size:=by
      rw[UU];exact XaR (Xb5 hb)
     refine mv.heap b o ?_ (XB _ (XB _ e));simp only[Xm,Xbh,or_false,not_or];exact⟨XaR hb,b2⟩
   ·cases r2 with
    | error e=>exact hr2
    | ok fl2=>
     cases fl2 with
     | ret r=>
      obtain⟨rfl,h',tk,rfl,hS',keep⟩:=hr2
      repeat (any_goals (first | assumption | wp_step))
      exact h _ _ hS' keep
     | _=>exact hr2.elim
  | _=>exact hr.elim
end
section
variable {X:Cx}
abbrev Qqw(X:Cx)(p:Addr)(l:List Str):HO:=.ext λh=>QdM X.prog X.w h p l
theorem QgN(hcalm:X.calm=true):W7 X (.type "set") (λxs H Q=>QA λ(a:Addr) (ys:List Str)=>xs=[.ref a]/\SqL X.K H a (ys.map V.str)/\ys.length+1<4096/\∀p,H p=none->Q (.ref p) (upd H p (Qqw X p (dd ys)))):=by
 intro pins s σ H xs us Q I r q;obtain⟨a,ys,ex,hq,hl,q⟩:=q;subst ex;obtain⟨u,eu,rx⟩:=Qed r;subst eu;cases rx;obtain⟨its,rv,pl,hz⟩:=I.list hq;have hlen:=rv.length;rw[Xb] at hlen;refine QjE (ys:=ys) (I.ok.hd hcalm) pl.isList (λi v hv=>?_) (by rw[Xb4];unfold scanBound;omega) λh' tk hS k=>?_
 ·have hv':its[i]?=some v:=by simpa using hv
  obtain⟨hi,ei⟩:=Xp.mp hv';have hy:(ys.map V.str)[i]?=some (V.str (ys.getD i Str.empty)):=by
   rw[Xg,Xf,Xe (by omega)];rfl
  obtain⟨u,hu,ru⟩:=rv.get hy;rw[hv'] at hu;cases hu;exact ru
 ·have e:Qgx (λi=>ys.getD i Str.empty) its.toArray.size=dd ys:=by
   show dd _=_;rw[Xb4,<-hlen,JS]
  rw[e] at hS;have keep:∀b o,s.heap.get? b=some o->h'.get? b=some o:=λb o eo=>k b o (U5 eo) eo
  refine⟨.ref s.heap.objs.size,upd H s.heap.objs.size (Qqw X s.heap.objs.size (dd ys)),I.laid (t':=tk) keep (Xy _) ⟨hS,?_,λh1 h2 a1 a2=>?_⟩,rfl,q _ (I.hok.fresh (Xy _))⟩
  ·obtain⟨o,_,_,_,ho,_⟩:=hS;exact⟨o,ho⟩
  ·obtain⟨o,es,ep,tb,ho,more⟩:=a1;exact⟨o,es,ep,tb,a2 o ho,more⟩
theorem QgM:W7 X (.builtin "len") (λxs H Q=>QA λ(p:Addr) (l:List Str)=>xs=[.ref p]/\H p=some (Qqw X p l)/\Q (.int l.length) H):=by
 intro pins s σ H xs us Q I r q;obtain⟨p,l,ex,hp,q⟩:=q;subst ex;obtain⟨u,eu,rx⟩:=Qed r;subst eu;cases rx;obtain⟨hS,_⟩:=I.hok p _ hp;obtain⟨o,es,ep,tb,ho,hex,hd,_,_,hb,hf,hn⟩:=hS;refine call_len_set ho hex hd hf (by unfold scanBound at hb;omega) ⟨.int l.length,H,I.tok _,⟨s.toks+1,?_⟩,q⟩;rw[<-hn]
end
section
variable {X:Cx} (K:Xt)
theorem QhR(h:X.K=K:=by rfl):IxR X (Qsa K):=by
 subst h;exact Qdm
theorem We(h:X.K=K:=by rfl):IxR X (QmK K):=by
 subst h;exact QJ
theorem QaH(h:X.K=K:=by rfl):OpR X (compareOp .In) (rIn K false):=by
 subst h;exact Qai
theorem Zr{e:Expr}{f:Str}{pos:Pos}{ta:TE}(he:PE X e ta)(hb:attributeBase e f X.env (eval e X.env)=eval e X.env)(h:X.K=K:=by rfl):PE X (.Attribute e f pos) (Qry K ta f):=by
 subst h;exact Qj he hb
theorem Qh9{es:List Expr}{k:Nat}{t:TGs}{n:Nat}{pos:Pos}(h:PGs X es t)(hc:X.calm=true)(hn:(assignEach es X.env).length=n:=by rfl)(hst:(assignEach es X.env).findIdx? (·.1)=none:=by rfl)(e:X.K=K:=by rfl):PG X (.Tuple es k pos) (QrW K n t):=by
 subst e;exact Qq5 hc h hn hst
end
def KD(P:Program)(w:World)(K:Xt)(a:Addr)(kvs:List (Key × V)):Prop:=∃vs,KV kvs vs/\(a==sysModules)=false/\∀h:Heap,K.In h->h.DictOf (QT P w) a vs
abbrev Qsp(kvs:List (Key × V))(ty:TE):TE:=fun σ H Q=>ty σ H λy H1=>QA λk v=>y=kV k/\Jn kvs k=some v/\Q v H1
abbrev Qs6(kvs:List (Key × V))(ty:TE):TE:=fun σ H Q=>ty σ H λy H1=>∃k,y=kV k/\Q (.bl (Jn kvs k).isSome) H1
abbrev QrC(kvs:List (Key × V))(ty tx:TE):TE:=fun σ H Q=>ty σ H λy H1=>tx σ H1 λz H2=>∃k,y=kV k/\Q ((Jn kvs k).getD z) H2
section
variable {X:Cx} {o i e f:Expr} {pos apos cpos:Pos} {ty tx:TE} {a:Addr} {kvs:List (Key × V)}
theorem Qbr(hd:KD X.prog X.w X.K a kvs)(ho:PE X o (tC (.ref a)))(hi:PE X i ty)(hs:Qqv i):PE X (.Subscript o i pos) (Qsp kvs ty):=by
 intro pins s σ H Q I h;obtain⟨vs,rel,hm,hK⟩:=hd;refine QlQ PySem.F.slot_dict_getitem.lookup hs (thn (ho pins s σ H (λx H1=>x=.ref a/\H1=H) I ⟨rfl,rfl⟩) λu s1 ⟨x,H1,I1,rx,ex,eH⟩=>?_);subst ex eH;obtain rfl:u=Value.ref a:=rx;refine thn (hi pins s1 σ H1 _ I1 h) λiv s2 ⟨y,H2,I2,ry,k,v,ey,l,q2⟩=>?_
 subst ey;have dd:=hK s2.heap I2.kIn;obtain⟨w',hw,rw'⟩:=QbU.some_of (v:=v) (o:=valueAt vs k) (by rw[<-l];exact rel.val k);exact⟨dd.typeIs,wpAny_getItem_of (Qbk ry) dd.mapOf hw ⟨v,H2,I2.tok _,rw',q2⟩⟩
theorem QeC(hd:KD X.prog X.w X.K a kvs)(hi:PE X i ty)(ho:PE X o (tC (.ref a))):PC X .In i o (Qs6 kvs ty):=by
 intro pins s σ H Q I h;obtain⟨vs,rel,hm,hK⟩:=hd;refine thn (hi pins s σ H _ I h) λiv s1 ⟨y,H1,I1,ry,k,ey,q1⟩=>thn (ho pins s1 σ H1 (λx H2=>x=.ref a/\H2=H1) I1 ⟨rfl,rfl⟩) λu s2 ⟨x,H2,I2,rx,ex,eH⟩=>?_
 subst ex eH ey;obtain rfl:u=Value.ref a:=rx;have dd:=hK s2.heap I2.kIn;refine wpAny_in_of (Qbk ry) hm dd.mapOf ?_;rw[<-(rel.val k).isSome_eq];exact⟨.bl _,H2,I2.tok _,rfl,q1⟩
theorem QmF(hd:KD X.prog X.w X.K a kvs)(ho:PE X o (tC (.ref a)))(he:PE X e ty)(hf:PE X f tx)(m:M2 X o "get" apos e f cpos):PE X (.Call (.Attribute o "get" apos) [e,f] [] cpos) (QrC kvs ty tx):=by
 intro pins s σ H Q I h;obtain⟨vs,rel,hm,hK⟩:=hd;refine wpAny_Call_method m.base m.few m.line PySem.F.plainAttrs_dict XbA PySem.F.type_dict_get (thn (ho pins s σ H (λx H1=>x=.ref a/\H1=H) I ⟨rfl,rfl⟩) λu s1 ⟨x,H1,I1,rx,ex,eH⟩=>?_);subst ex eH;obtain rfl:u=Value.ref a:=rx;have d1:=hK s1.heap I1.kIn;refine⟨d1.typeIs,λb q=>?_,?_⟩
 ·cases q;obtain⟨ob,_,_,h1,h2,_⟩:=d1;exact⟨ob,h1,h2.2.1⟩
 ·rw[m.trees];refine Calls.callWith_builtin rfl (Calls.evalArgs_plain (Calls.spliced_cons (thn (he pins s1 σ H1 _ I1 h) λiv s2 ⟨y,H2,I2,ry,q2⟩=>
   Calls.spliced_cons (thn (hf pins s2 σ H2 _ I2 q2) λfv s3 ⟨z,H3,I3,rz,k,ey,q3⟩=>Calls.spliced_nil ?_))))
  subst ey;have dd:=hK s3.heap I3.kIn;refine call_meetsIn XbA dd.typeIs PySem.F.entry_dict_get (PySem.F.args_dict_get_3 _ _ _) (meets_dict_get_default (QT X.prog X.w) a (Qbk ry) hm fv) ⟨_,dd.mapOf,?_⟩;exact⟨_,H3,I3.tok _,(rel.val k).getD rz,q3⟩
end
section
variable {prog:Program} {w:World} {A:Around} {E:Value->Shared->Prop} {s:Shared}
theorem Qkm{j t:Addr}{n:Nat}{its:Array Value}{v:Value}{Q:Value->Shared->Prop}(hj:s.heap.IsTupleIter j t n)(ht:s.heap.IsTuple t its)(hv:its[n]?=some v)
  (q:∀g,g.IsTupleIter j t (n+1)->Heap.SameBut j s.heap g->Q v { s with heap:=g }):wpAny (model prog w) A (Builtin.SmallTypes.nextOf (.ref j)) Q E s:=by
 obtain⟨ob,hob,cob,dob⟩:=id hj;obtain⟨ot,hot,_,nt,dt⟩:=ht;unfold Builtin.SmallTypes.nextOf;refine wpAny_bind (wpAny_callSpecial?_slot (name:=Str.ofString "__next__") hj.typeIs UK (wpAny_call_entry UK hj.typeIs XaI ?_ (XaF _)));show wpAny _ _ (field (.ref j) 0 >>= _) _ _ s;refine wpAny_bind (wpAny_field hob dob (x:=.ref t) rfl ?_);show wpAny _ _ (if (Value.ref t==Value.none)=true then _ else field (.ref j) 1 >>= _) _ _ s;rw[if_neg (show ¬((Value.ref t==Value.none)=true) from λz=>nomatch z)];refine wpAny_bind (wpAny_field hob dob (x:=.int n 0) rfl ?_);show wpAny _ _ (seqItems? (.ref t) >>= _) _ _ s;refine wpAny_bind (wpAny_seqItems hot dt ?_);simp only[hv,Uw];refine wpAny_bind (wpAny_setField hob dob (by simp) (wpAny_pure ⟨v,rfl,wpAny_pure (q _ ⟨_,Heap.get?_update_self _ hob (Obj.isFreed_of_fields (Obj.data_mapFields dob _)),(Obj.cls_mapFields ..).trans cob,?_⟩ (XbN ..))⟩));rw[Obj.data_mapFields dob];simp[rawInt]
theorem Qmy{j t:Addr}{n:Nat}{its:Array Value}{Q:Value->Shared->Prop}(hh:A.handled=none)(hj:s.heap.IsTupleIter j t n)(ht:s.heap.IsTuple t its)(hv:its[n]?=none)
  (q:∀g e,Heap.ExtBut j s.heap g->(∃o,g.get? e=some o/\o.cls=.type "StopIteration")->E (.ref e) { s with heap:=g }):wpAny (model prog w) A (Builtin.SmallTypes.nextOf (.ref j)) Q E s:=by
 obtain⟨ob,hob,cob,dob⟩:=id hj;obtain⟨ot,hot,_,nt,dt⟩:=ht;unfold Builtin.SmallTypes.nextOf;refine wpAny_bind (wpAny_callSpecial?_slot (name:=Str.ofString "__next__") hj.typeIs UK (wpAny_call_entry UK hj.typeIs XaI ?_ (XaF _)));show wpAny _ _ (field (.ref j) 0 >>= _) _ _ s;refine wpAny_bind (wpAny_field hob dob (x:=.ref t) rfl ?_);show wpAny _ _ (if (Value.ref t==Value.none)=true then _ else field (.ref j) 1 >>= _) _ _ s;rw[if_neg (show ¬((Value.ref t==Value.none)=true) from λz=>nomatch z)];refine wpAny_bind (wpAny_field hob dob (x:=.int n 0) rfl ?_);show wpAny _ _ (seqItems? (.ref t) >>= _) _ _ s;refine wpAny_bind (wpAny_seqItems hot dt ?_);simp only[hv,Uw];refine wpAny_bind (wpAny_rule (wpAny_bind (wpAny_setField hob dob (by simp) ?_)));show wpAny _ _ (newExc (.type "StopIteration") [] >>= _) _ _ _;refine wpAny_bind ?_;simp only[newTuple,newExc];refine wpAny_bind (wpAny_newObj_type (wpAny_bind (m:=firstArgMember _ _) (wpAny_of_eq (a:=Value.none) (by first | rfl | (simp only[firstArgMember];rfl)) (wpAny_newObj_type ?_ (by size_fits)))) (by size_fits));simp only[raiseNew];refine wpAny_bind (wpAny_handled ?_)
 first | rw[show A.in1.handled=none from hh] | rw[hh]
 exact wpAny_bind (wpAny_pure (wpAny_throw (q _ _ (((XbN ..).extBut.push _).push _) ⟨_,Ui _ rfl,rfl⟩)))
theorem Qne{z I O a b t l:Addr}{n:Nat}{xs ys:Array Value}{x y u v:Value}{Q:Value->Shared->Prop}(D:ZipApart z I O a b t l)(hz:IsZip s.heap z I O .none)(hI:IsPair s.heap I (.ref a) (.ref b))(hO:IsPair s.heap O u v)
  (ha:s.heap.IsTupleIter a t n) (hb:s.heap.IsListIter b l n) (ht:s.heap.IsTuple t xs) (hl:s.heap.IsList l ys) (hx:xs[n]?=some x) (hy:ys[n]?=some y)
  (q:∀g,IsZip g z I O (rawInt s.heap.objs.size)->IsPair g O x y->g.IsTupleIter a t (n+1)->g.IsListIter b l (n+1)->IsPair g s.heap.objs.size x y->g.objs.size=s.heap.objs.size+1->
    (∀c o,c≠z->c≠O->c≠a->c≠b->s.heap.get? c=some o->g.get? c=some o)->Q (.ref s.heap.objs.size) { s with heap:=g }) :
  wpAny (model prog w) A (Builtin.«zip.__next__» ⟨[.ref z],[]⟩) (λfin s'=>∃r,fin=.done (.ret r)/\Q r s') E s:=by
 show wpAny _ _ (field (.ref z) 2 >>= _) _ _ _;refine wpAny_bind (wpAny_field hz rfl (x:=.bool false) rfl ?_);show wpAny _ _ (field (.ref z) 3 >>= _) _ _ _;refine wpAny_bind (wpAny_field hz rfl (x:=.ref I) rfl (wpAny_bind (wpAny_seqItems hI rfl ?_)));show wpAny _ _ (Builtin.SmallTypes.ownedTupleIsFree (.ref z) >>= _) _ _ _;refine wpAny_bind ?_
 (unfold Builtin.SmallTypes.ownedTupleIsFree;refine wpAny_bind (wpAny_field hz rfl (x:=.none) rfl (wpAny_pure ?_)))
 simp only[if_true];refine wpAny_bind (wpAny_rule (wpAny_bind (wpAny_field hz rfl (x:=.ref O) rfl (wpAny_bind (wpAny_setField_rec hz (by simp) λg1 z1 c1=>?_)))));replace z1:IsZip g1 z I O .ellipsis:=z1;refine wpAny_bind ?_;simp only[Xck,Xcq,Xce,Xcn];refine wpAny_bind (wpAny_bind (wpAny_onRaise ?_));show wpAny _ _ (Builtin.SmallTypes.nextOf (.ref a) >>= _) _ _ _;refine wpAny_bind (Qkm (ha.extBut c1.extBut D.i1z) (ht.extBut c1.extBut D.l1z) hx λg2 a2 c2=>wpAny_pure ?_);have O2:IsPair g2 O u v:=c2.extBut _ _ D.TOi1 (c1.extBut _ _ D.TOz hO);refine wpAny_bind (wpAny_seqItems O2 rfl (wpAny_bind (wpAny_updateSeq_pair O2 λg3 O3 c3=>?_)));replace O3:IsPair g3 O x v:=O3;refine wpAny_bind (wpAny_letGo (wpAny_pure (wpAny_bind (wpAny_bind (wpAny_onRaise ?_)))));show wpAny _ _ (Builtin.SmallTypes.nextOf (.ref b) >>= _) _ _ _;refine wpAny_bind (wpAny_nextOf_list_item (((hb.extBut c1.extBut D.i2z).extBut c2.extBut D.i12.symm).extBut c3.extBut D.TOi2.symm) (((hl.extBut c1.extBut D.l2z).extBut c2.extBut D.l2i1).extBut c3.extBut D.l2TO) hy λg4 b4 c4=>wpAny_pure ?_);have O4:IsPair g4 O x v:=c4.extBut _ _ D.TOi2 O3;refine wpAny_bind (wpAny_seqItems O4 rfl (wpAny_bind (wpAny_updateSeq_pair O4 λg5 O5 c5=>?_)));replace O5:IsPair g5 O x y:=O5;refine wpAny_bind (wpAny_letGo (wpAny_pure (wpAny_pure (wpAny_bind (wpAny_seqItems O5 rfl (wpAny_bind (wpAny_newTuple ?_)))))));have sz:g5.objs.size=s.heap.objs.size:=by rw[c5.1,c4.1,c3.1,c2.1,c1.1]
 have z5:IsZip g5 z I O .ellipsis:=c5.extBut _ _ D.TOz.symm (c4.extBut _ _ D.i2z.symm (c3.extBut _ _ D.TOz.symm (c2.extBut _ _ D.i1z.symm z1)));have k5:∀c o,c≠z->c≠O->c≠a->c≠b->s.heap.get? c=some o->g5.get? c=some o:=λc o n1 n2 n3 n4 e=>
  c5.extBut _ _ n2 (c4.extBut _ _ n4 (c3.extBut _ _ n2 (c2.extBut _ _ n3 (c1.extBut _ _ n1 e))))
 have a5:g5.IsTupleIter a t (n+1):=((a2.extBut c3.extBut D.TOi1.symm).extBut c4.extBut D.i12).extBut c5.extBut D.TOi1.symm;have b5:g5.IsListIter b l (n+1):=b4.extBut c5.extBut D.TOi2.symm;have zl:z<g5.objs.size:=U5 z5;show wpAny _ _ (Builtin.SmallTypes.ownedTupleHandOut (.ref z) (.ref g5.objs.size) >>= _) _ _ _;refine wpAny_bind ?_;unfold Builtin.SmallTypes.ownedTupleHandOut;have z6:IsZip (g5.push { cls:=.type "tuple",data:=.seq #[x,y] }) z I O .ellipsis:=XB _ z5;refine wpAny_bind (wpAny_setField_rec z6 (by simp) λg7 z7 c7=>?_);replace z7:IsZip g7 z I O (rawInt g5.objs.size):=z7;refine wpAny_setField_rec z7 (by simp) λg8 z8 c8=>?_
 replace z8:IsZip g8 z I O (rawInt g5.objs.size):=z8;have on:∀c o,c≠z->g5.get? c=some o->g8.get? c=some o:=λc o n1 e=>c8.extBut _ _ n1 (c7.extBut _ _ n1 (XB _ e))
 have T8:IsPair g8 g5.objs.size x y:=c8.extBut _ _ (Xbi zl) (c7.extBut _ _ (Xbi zl) (Ui _ rfl));have s8:g8.objs.size=g5.objs.size+1:=by rw[c8.1,c7.1,UU]
 rw[sz] at z8 T8 s8;refine wpAny_pure ⟨_,rfl,?_⟩;show Q (.ref g5.objs.size) _;rw[sz];obtain⟨oa,ea,ra⟩:=a5;obtain⟨ob,eb,rb⟩:=b5;exact q g8 z8 (on _ _ D.TOz O5) ⟨oa,on _ _ D.i1z ea,ra⟩ ⟨ob,on _ _ D.i2z eb,rb⟩ T8 s8 λc o n1 n2 n3 n4 e=>on c o n1 (k5 c o n1 n2 n3 n4 e)
theorem QoN{z I O a b t l:Addr}{n:Nat}{xs:Array Value}{u v:Value}{Q:Fin->Shared->Prop}(hh:A.handled=none)(D:ZipApart z I O a b t l)(hz:IsZip s.heap z I O .none)(hI:IsPair s.heap I (.ref a) (.ref b))
  (ha:s.heap.IsTupleIter a t n) (ht:s.heap.IsTuple t xs) (hx:xs[n]?=none)
  (q:∀g e,(∀c o,c≠z->c≠a->s.heap.get? c=some o->g.get? c=some o)->(∃o,g.get? e=some o/\o.cls=.type "StopIteration")->E (.ref e) { s with heap:=g }) :
  wpAny (model prog w) A (Builtin.«zip.__next__» ⟨[.ref z],[]⟩) Q E s:=by
 show wpAny _ _ (field (.ref z) 2 >>= _) _ _ _;refine wpAny_bind (wpAny_field hz rfl (x:=.bool false) rfl ?_);show wpAny _ _ (field (.ref z) 3 >>= _) _ _ _;refine wpAny_bind (wpAny_field hz rfl (x:=.ref I) rfl (wpAny_bind (wpAny_seqItems hI rfl ?_)));show wpAny _ _ (Builtin.SmallTypes.ownedTupleIsFree (.ref z) >>= _) _ _ _;refine wpAny_bind ?_
 (unfold Builtin.SmallTypes.ownedTupleIsFree;refine wpAny_bind (wpAny_field hz rfl (x:=.none) rfl (wpAny_pure ?_)))
 simp only[if_true];refine wpAny_bind (wpAny_rule (wpAny_bind (wpAny_field hz rfl (x:=.ref O) rfl (wpAny_bind (wpAny_setField_rec hz (by simp) λg1 z1 c1=>?_)))));replace z1:IsZip g1 z I O .ellipsis:=z1;refine wpAny_bind ?_;simp only[Xck,Xcq,Xce,Xcn];refine wpAny_bind (wpAny_bind (wpAny_onRaise ?_));show wpAny _ _ (Builtin.SmallTypes.nextOf (.ref a) >>= _) _ _ _;refine wpAny_bind (Qmy hh (ha.extBut c1.extBut D.i1z) (ht.extBut c1.extBut D.l1z) hx λg2 e c2 he=>?_);obtain⟨oe,hoe,hce⟩:=he;have z2:IsZip g2 z I O .ellipsis:=c2 _ _ D.i1z.symm z1;have ez:e≠z:=λr=>by subst r;rw[z2] at hoe;cases hoe;simp at hce
 exact wpAny_setField_rec z2 (by simp) λg3 _ c3=>q g3 e (λc o n1 n3 r=>c3.extBut _ _ n1 (c2 _ _ n3 (c1.extBut _ _ n1 r))) ⟨oe,c3.extBut _ _ ez hoe,hce⟩
end
abbrev zp1(h:Heap)(t:Addr):Heap:=h.push { cls:=.type "tuple_iterator",data:=.fields #[.ref t,.int 0 0] }
abbrev zp2(h:Heap)(t l:Addr):Heap:=(zp1 h t).push { cls:=.type "list_iterator",data:=.fields #[.ref l,.int 0 0] }
abbrev zp3(h:Heap)(t l:Addr):Heap:=(zp2 h t l).push { cls:=.type "tuple",data:=.seq #[.ref h.objs.size,.ref (zp1 h t).objs.size] }
abbrev zp4(h:Heap)(t l:Addr):Heap:=(zp3 h t l).push { cls:=.type "tuple",data:=.seq #[.none,.none] }
abbrev zp5(h:Heap)(t l:Addr):Heap:=(zp4 h t l).push { cls:=.type "zip",data:=.fields #[.none,.bool false,.bool false,.ref (zp2 h t l).objs.size,.ref (zp3 h t l).objs.size] }
theorem QoO(t l:Addr)(xs ys:Array Value):Meets (Builtin.«zip.__new__» ⟨[.type "zip",.ref t,.ref l],[]⟩) (λ_ R s=>s.heap.IsTuple t xs/\s.heap.IsList l ys/\R (.ok (.ret (.ref (zp4 s.heap t l).objs.size))) { s with heap:=zp5 s.heap t l }):=
 .of_wp λprog w A R s h=>by
  obtain⟨hp,g,d,tk,os⟩:=s;obtain⟨ht,hl,h⟩:=h;have sz:=sub_zip;have hT:Heap.IsTuple (Shared.heap ⟨hp,g,d,tk,os⟩) t xs:=ht;have hL:Heap.IsList (Shared.heap ⟨zp1 hp t,g,d,tk,os⟩) l ys:=Heap.IsList.push hl _
  wp_walk using wpAny_pyIter_tuple hT,wpAny_pyIter_list hL
  exact⟨_,rfl,h⟩
section
variable {prog:Program} {w:World} {A:Around} {E:Value->Shared->Prop} {s:Shared}
theorem Qnd{t l:Addr}{xs ys:Array Value}{Q:Value->Shared->Prop}(ht:s.heap.IsTuple t xs)(hl:s.heap.IsList l ys)
  (h:∀g,IsZip g (s.heap.objs.size+4) (s.heap.objs.size+2) (s.heap.objs.size+3) .none->IsPair g (s.heap.objs.size+2) (.ref s.heap.objs.size) (.ref (s.heap.objs.size+1))->IsPair g (s.heap.objs.size+3) .none .none->
    g.IsTupleIter s.heap.objs.size t 0->g.IsListIter (s.heap.objs.size+1) l 0->(∀c o,s.heap.get? c=some o->g.get? c=some o)->Q (.ref (s.heap.objs.size+4)) { s with heap:=g }) :
  wpAny (model prog w) A (call (.type "zip") [.ref t,.ref l]) Q E s:=by
 refine callType_new PySem.F.called_zip (by decide) (PySem.F.typeCall_zip_2 _ _) (PySem.F.newCall_zip_2 _ _) (λob=>PySem.F.args_object_init_3 ob _ _) PySem.F.entry_zip_new (QoO t l xs ys) ⟨ht,hl,?_⟩;have n1:(zp1 s.heap t).objs.size=s.heap.objs.size+1:=UU ..;have n2:(zp2 s.heap t l).objs.size=s.heap.objs.size+2:=by rw[UU,n1]
 have n3:(zp3 s.heap t l).objs.size=s.heap.objs.size+3:=by rw[UU,n2]
 have n4:(zp4 s.heap t l).objs.size=s.heap.objs.size+4:=by rw[UU,n3]
 have e5:(zp5 s.heap t l).get? (zp4 s.heap t l).objs.size=some _:=Ui _ rfl;have e4:(zp5 s.heap t l).get? (zp3 s.heap t l).objs.size=some _:=XB _ (Ui _ rfl);have e3:(zp5 s.heap t l).get? (zp2 s.heap t l).objs.size=some _:=XB _ (XB _ (Ui _ rfl));have e2:(zp5 s.heap t l).get? (zp1 s.heap t).objs.size=some _:=XB _ (XB _ (XB _ (Ui _ rfl)));have e1:(zp5 s.heap t l).get? s.heap.objs.size=some _:=XB _ (XB _ (XB _ (XB _ (Ui _ rfl))));show _/\_;rw[n2,n3,n4] at e5;rw[n1,n2] at e3;rw[n3] at e4;rw[n1] at e2;rw[n4];exact⟨⟨_,e5,rfl⟩,h _ e5 e3 e4 ⟨_,e1,rfl,rfl⟩ ⟨_,e2,rfl,rfl⟩ λc o r=>XB _ (XB _ (XB _ (XB _ (XB _ r))))⟩
end
def Qqu(K:Xt)(a b:Addr):It:=
 ⟨λi H=>YS λ(xs ys:List V) (x y:V)=>SqT K H a xs/\SqL K H b ys/\xs[i]?=some x/\ys[i]?=some y,
  λi H v H'=>JP λT x y=>v=.ref T/\H T=none/\H'=upd H T (.tup [x,y])/\(∀xs,SqT K H a xs->xs[i]?=some x)/\∀ys,SqL K H b ys->ys[i]?=some y,
  λi H=>∃xs:List V,SqT K H a xs/\xs.length<=i⟩
theorem Qm6{P:Program}{w:World}{K:Xt}{elts:List Expr}{kk:Nat}{tpos:Pos}{a b z TI TO i1 i2:Addr}(D:ZipApart z TI TO i1 i2 a b) :
  Qgi P w K (.Tuple elts kk tpos) (Qqu K a b) [z,TI,TO,i1,i2] z (λi h=>IsZip h z TI TO .none/\IsPair h TI (.ref i1) (.ref i2)/\(QA λx y=>IsPair h TO x y)/\h.IsTupleIter i1 a i/\h.IsListIter i2 b i) where
 mem:=by simp
 obj:=λi h st c hc=>by
  obtain⟨hz,hI,⟨x,y,hO⟩,⟨o1,e1,_,d1⟩,⟨o2,e2,_,d2⟩⟩:=st;have hc':c=z\/c=TI\/c=TO\/c=i1\/c=i2:=by simpa using hc
  rcases hc' with r | r | r | r | r<;>subst r
  ·exact⟨_,hz,λv q=>nomatch q⟩
  ·exact⟨_,hI,λv q=>nomatch q⟩
  ·exact⟨_,hO,λv q=>nomatch q⟩
  ·exact⟨o1,e1,λv q=>by rw[d1] at q;cases q⟩
  ·exact⟨o2,e2,λv q=>by rw[d2] at q;cases q⟩
 keep:=λi h h' st k=>by
  obtain⟨hz,hI,⟨x,y,hO⟩,⟨o1,e1,r1⟩,h2⟩:=st;exact⟨k z (by simp) _ hz,k TI (by simp) _ hI,⟨x,y,k TO (by simp) _ hO⟩,⟨o1,k i1 (by simp) _ e1,r1⟩,h2.at λo q=>k i2 (by simp) o q⟩
 item:=by
  intro X hP hw hK hc i pins s σ H E I hf st hg;subst hP hw hK;obtain⟨hz,hI,⟨x0,y0,hO⟩,h1,h2⟩:=st;obtain⟨xs,ys,x,y,qx,qy,hx,hy⟩:=hg;obtain⟨its,rv,p,_⟩:=I.tuple qx;obtain⟨its2,rv2,p2,_⟩:=I.list qy;obtain⟨u,hu,ru⟩:=rv.get hx;obtain⟨u2,hu2,ru2⟩:=rv2.get hy;have zlt:z<s.heap.objs.size:=U5 hz;have hT:s.TypeIs (.ref z) "zip":=⟨_,hz,rfl⟩;unfold pyNext;refine wpAny_bind (wpAny_attempt (wpAny_callSpecial?_slot (name:=Str.ofString "__next__") hT Xam (wpAny_call_entry Xam hT Xbw (Qne D hz hI hO h1 h2 (show s.heap.IsTuple a its.toArray from p) p2.isList (x:=u) (y:=u2) (by simpa using hu) (by simpa using hu2) λh' z' O' h1' h2' hTn hsz hk=>wpAny_pure ?_) (Xbq _))));refine⟨_,rfl,wpAny_letOwnedTupleGo_zip (s:={ s with heap:=h' }) z' λh'' z'' sb=>?_⟩;have hT2:h''.get? s.heap.objs.size=some { cls:=.type "tuple",data:=.seq #[u,u2] }:=(sb.2 _ (Xbi zlt)).trans hTn;have new:J1 X.prog X.w (upd H s.heap.objs.size (.tup [x,y])) h'' s.heap.objs.size (.tup [x,y]):=⟨by show 2<=sizeLine;decide,[u,u2],.cons ru (.cons ru2 .nil),⟨_,hT2,rfl,_,rfl⟩⟩;have I1:Inv X pins σ (upd H s.heap.objs.size (.tup [x,y])) { s with heap:=h'' }:=
   I.turnedNew (t':=s.toks) (ch:=[z,TI,TO,i1,i2]) (λc o hb q=>(sb.2 c (λq'=>hb (by simp[q']))).trans (hk c o (λq'=>hb (by simp[q'])) (λq'=>hb (by simp[q'])) (λq'=>hb (by simp[q'])) (λq'=>hb (by simp[q'])) q)) hf (Xy _) new
  obtain⟨o1,f1,r1⟩:=h1';refine⟨.ref s.heap.objs.size,_,I1,rfl,⟨_,x,y,rfl,I.hok.fresh (Xy _),rfl,λl hl=>by rw[I.tuple_inj hl qx];exact hx,λl hl=>by rw[I.list_inj hl qy];exact hy⟩,⟨z'',(sb.2 _ D.TIz).trans (hk _ _ D.TIz D.TITO D.TIi1 D.TIi2 hI),⟨u,u2,(sb.2 _ D.TOz).trans O'⟩,⟨o1,(sb.2 _ D.i1z).trans f1,r1⟩,h2'.at λo q=>(sb.2 _ D.i2z).trans q⟩,λc hcm=>?_⟩;have hlt:c<s.heap.objs.size:=by
   have hc':c=z\/c=TI\/c=TO\/c=i1\/c=i2:=by simpa using hcm
   rcases hc' with r | r | r | r | r<;>subst r
   ·exact zlt
   ·exact U5 hI
   ·exact U5 hO
   ·obtain⟨_,e1,_⟩:=h1;exact U5 e1
   ·obtain⟨_,e2,_⟩:=h2;exact U5 e2
  rw[Qq (XaR hlt)];exact (hf c hcm).1
 done:=by
  intro X hP hw hK hc i pins s σ H E I hf st hg;subst hP hw hK;obtain⟨hz,hI,⟨x0,y0,hO⟩,h1,h2⟩:=st;obtain⟨xs,qx,hend⟩:=hg;obtain⟨its,rv,p,_⟩:=I.tuple qx;have l1:=rv.length;have hT:s.TypeIs (.ref z) "zip":=⟨_,hz,rfl⟩;unfold pyNext;refine wpAny_bind (wpAny_attempt (wpAny_callSpecial?_slot (name:=Str.ofString "__next__") hT Xam (wpAny_call_entry Xam hT Xbw (QoN (u:=x0) (v:=y0) (I.ok.hd hc) D hz hI h1 (show s.heap.IsTuple a its.toArray from p) (by simp;omega) λh' e hk he=>?_) (Xbq _))));obtain⟨o,ho,hcl⟩:=he;refine wpAny_bind (wpAny_isInstance (T:="StopIteration") (b:=true) ⟨o,ho,hcl⟩ isSubtype_stop (wpAny_pure ⟨rfl,?_⟩));exact I.turnedL (t':=s.toks) (ch:=[z,TI,TO,i1,i2]) (λc o hb q=>hk c o (λq'=>hb (by simp[q'])) (λq'=>hb (by simp[q'])) q) hf
 self:=λA i s Q E st h=>wpAny_pyIter_zip st.1 h
abbrev Qr3(K:Xt)(ta:TA):TI:=fun σ H R=>ta σ H λvs H1=>YS λa b xs ys=>vs=[.ref a,.ref b]/\SqT K H1 a xs/\SqL K H1 b ys/\R (Qqu K a b) H1
theorem QpB{X:Cx}{e e2:Expr}{ta:TA}{p pos tpos:Pos}{elts:List Expr}{kk:Nat}(hg:Gl X "zip")(hm:X.mg "zip"=none)(ha:PA X [e,e2] ta)
  (hs:starEach [e,e2] X.env=(false,eval e X.env)::starEach [e2] X.env:=by rfl) (hpl:(backTo pos (starEach [e2] X.env)).any (·.1)=false:=by rfl) :
  PI X (.Tuple elts kk tpos) (.Call (.Name "zip" p) [e,e2] [] pos) (Qr3 X.K ta):=by
 intro pins s σ H R I h;refine Call_ (Qcb I hg hm QlY (PyProof.Rows.callWith_type1 (thn (ha pos pins s σ H _ I h) λus s1 ⟨vs,H1,I1,r1,q1⟩=>?_) hs hpl));obtain⟨a,b,xs,ys,ex,qx,qy,q⟩:=q1;subst ex;cases r1 with
 | cons r rr=>
  cases rr with
  | cons r' rr=>
   cases rr;cases r;cases r';obtain⟨its,rv,p1,_⟩:=I1.tuple qx;obtain⟨its2,rv2,p2,_⟩:=I1.list qy;have la:a<s1.heap.objs.size:=p1.lt;have lb:b<s1.heap.objs.size:=p2.lt;refine Qnd (show s1.heap.IsTuple a its.toArray from p1) p2.isList λg hz hI hO h1 h2 hk=>wpAny_pyIter_zip hz ?_
   refine⟨s1.heap.objs.size+4,[s1.heap.objs.size+4,s1.heap.objs.size+2,s1.heap.objs.size+3,s1.heap.objs.size,s1.heap.objs.size+1],_,_,H1,rfl,I1.kept (t':=s1.toks) hk,Qm6 (PySem.W.ktu_apart s1.heap.objs.size a b la lb),⟨hz,hI,⟨_,_,hO⟩,h1,h2⟩,λc hcm=>?_,q⟩;have hle:s1.heap.objs.size<=c:=by
    have e':c=s1.heap.objs.size+4\/c=s1.heap.objs.size+2\/c=s1.heap.objs.size+3\/c=s1.heap.objs.size\/c=s1.heap.objs.size+1:=by simpa using hcm
    rcases e' with r | r | r | r | r<;>rw[r]<;>first | exact XaN _ _ | exact Xy _
   exact I1.fpOk hle (I1.hok.fresh hle)
theorem Qna{K:Xt}{H:Hp}{a b:Addr}{xs ys:List V}(h:SqT K H a xs)(h2:SqL K H b ys)(hl:xs.length=ys.length):QbV (Qqu K a b) H xs.length (λi v H'=>JP λt x y=>v=V.ref t/\xs[i]?=some x/\ys[i]?=some y/\H' t=some (.tup [x,y])) where
 go:=λi H' s hi=>⟨xs,ys,xs[i],ys[i],Qe.tup s h,Qe.seq s h2,by simp[hi],by simp[hl ▸ hi]⟩
 yld:=λi H1 v H2 s hi r=>by
  obtain⟨t,x,y,e1,e2,e3,e4,e5⟩:=r;subst e3;exact⟨Qe.new e2,t,x,y,e1,e4 xs (Qe.tup s h),e5 ys (Qe.seq s h2),Qh⟩
 stop:=λi H' s hi=>⟨xs,Qe.tup s h,hi⟩
end Sr
namespace Mp
abbrev Qb:=List UInt8
open Vaacca (cutAt gluedBy spaced quoted wordsFrom wordsOf RESERVED)
theorem QeR(c:UInt8):∀t:Qb,cutAt c t≠[]
 | []=>by simp[cutAt]
 | b::r=>by
  unfold cutAt
  split
  ·simp
  ·split<;>simp
theorem YL(c:UInt8)(r:Qb):cutAt c (c::r)=[]::cutAt c r:=by
 show (if c=c then _ else _)=_;rw[if_pos rfl]
theorem ZR(c:UInt8)(t:Qb):QA λw ws=>cutAt c t=w::ws:=by
 cases e:cutAt c t with
 | nil=>exact absurd e (QeR c t)
 | cons w ws=>exact⟨w,ws,rfl⟩
theorem YU{c b:UInt8}(h:¬b=c){r w:Qb}{ws:List Qb}(e:cutAt c r=w::ws):cutAt c (b::r)=(b::w)::ws:=by
 show (if b=c then _ else match cutAt c r with | w::ws=>(b::w)::ws | []=>[[b]])=_;rw[if_neg h,e]
theorem Qew{c:UInt8}:∀{p r w:Qb} {ws:List Qb},c ∉ p->cutAt c r=w::ws->cutAt c (p++r)=(p++w)::ws
 | [],r,w,ws,_,e=>e
 | b::p,r,w,ws,h,e=>by
  have h1:¬b=c:=λq=>h (by rw[q];exact Xh)
  exact YU h1 (Qew (λq=>h (Xn _ q)) e)
theorem Qcz{c:UInt8}{p:Qb}(h:c ∉ p):cutAt c p=[p]:=by
 have:=Qew (r:=[]) (w:=[]) (ws:=[]) h rfl
 simpa using this
theorem QcA{c:UInt8}{p r:Qb}(h:c ∉ p):cutAt c (p++c::r)=p::cutAt c r:=by
 have:=Qew (p:=p) (r:=c::r) h (YL c r);rw[XG] at this;exact this
theorem Qbj(c:UInt8):∀t:Qb,gluedBy [c] (cutAt c t)=t
 | []=>rfl
 | b::r=>by
  have ih:=Qbj c r;obtain⟨w,ws,e⟩:=ZR c r
  by_cases h:b=c
  ·subst h;rw[YL,e];rw[e] at ih;show []++([b]++gluedBy [b] (w::ws))=b::r;rw[ih];rfl
  ·rw[YU h e];rw[e] at ih;cases ws with
   | nil=>
    show b::w=b::r;rw[show w=r from ih]
   | cons x xs=>
    show (b::w)++([c]++gluedBy [c] (x::xs))=b::r;rw[<-ih];rfl
theorem QbG(c:UInt8):∀(t w:Qb),w ∈ cutAt c t->c ∉ w
 | [],w,h=>by
  have h:w ∈ ([[]]:List Qb):=h;simp at h;simp[h]
 | b::r,w,h=>by
  obtain⟨v,vs,e⟩:=ZR c r
  by_cases hb:b=c
  ·subst hb;rw[YL] at h;rcases Xm.mp h with h | h
   ·subst h;simp
   ·exact QbG b r w h
  ·rw[YU hb e] at h;rcases Xm.mp h with h | h
   ·subst h;intro q;rcases Xm.mp q with q | q
    ·exact hb q.symm
    ·exact QbG c r v (by rw[e];exact Xh) q
   ·exact QbG c r w (by rw[e];exact Xn _ h)
theorem QeQ{c:UInt8}:∀{l:List Qb},l≠[]->(∀w ∈ l,c ∉ w)->cutAt c (gluedBy [c] l)=l
 | [],h,_=>absurd rfl h
 | [w],_,h=>Qcz (h w Xh)
 | w::x::r,_,h=>by
  show cutAt c (w++([c]++gluedBy [c] (x::r)))=_;rw[show [c]++gluedBy [c] (x::r)=c::gluedBy [c] (x::r) from rfl,QcA (h w Xh),QeQ (by simp) λv hv=>h v (Xn _ hv)]
def Je(c:UInt8):Qb->Qb × Option Qb
 | []=>([],none)
 | b::r=>if b=c then ([],some r) else ((b::(Je c r).1),(Je c r).2)
def Qaw(c:UInt8):Qb->Option (Qb × Qb)
 | []=>none
 | b::r=>if b=c then some ([b],r) else (Qaw c r).map λp=>(b::p.1,p.2)
def Q2(t:Qb):Qb × Option Qb:=match t with
 | []=>([],none)
 | b::r=>if b=34 then (match Qaw 34 r with
   | none=>(t,none)
   | some (p,q)=>(b::(p++(Je 32 q).1),(Je 32 q).2)) else Je 32 t
theorem Qgb(c:UInt8):∀(t r:Qb),(Je c t).2=some r->r.length<t.length
 | [],r,h=>by simp[Je] at h
 | b::t,r,h=>by
  unfold Je at h
  split at h
  ·simp at h;subst h;simp
  ·have:=Qgb c t r h;simp;omega
theorem Qhx(c:UInt8):∀(t p q:Qb),Qaw c t=some (p,q)->q.length<t.length
 | [],p,q,h=>by simp[Qaw] at h
 | b::t,p,q,h=>by
  unfold Qaw at h
  split at h
  ·simp at h;rw[<-h.2];simp
  ·obtain⟨x,hx,e⟩:=X6.mp h;simp at e;have:=Qhx c t x.1 x.2 hx;simp;rw[<-e.2];omega
theorem QdI(t r:Qb)(h:(Q2 t).2=some r):r.length<t.length:=by
 unfold Q2 at h
 split at h
 ·simp at h
 ·rename_i b r'
  split at h
  ·split at h
   ·simp at h
   ·rename_i p q e
    have h1:=Qhx 34 _ _ _ e;have h2:=Qgb 32 q r h;simp;omega
  ·exact Qgb 32 _ r h
def QO(t:Qb):List Qb:=match h:(Q2 t).2 with
 | none=>[(Q2 t).1]
 | some r=>(Q2 t).1::QO r
termination_by t.length
decreasing_by exact QdI t r h
theorem YK{t:Qb}(h:(Q2 t).2=none):QO t=[(Q2 t).1]:=by
 rw[QO]
 split
 ·rfl
 ·rename_i r e
  rw[h] at e;cases e
theorem Ww{t r:Qb}(h:(Q2 t).2=some r):QO t=(Q2 t).1::QO r:=by
 rw[QO]
 split
 ·rename_i e
  rw[h] at e;cases e
 ·rename_i r' e
  rw[h] at e;cases e;rfl
theorem Qoz(t:Qb):QO t≠[]:=by
 cases h:(Q2 t).2 with
 | none=>rw[YK h];simp
 | some r=>rw[Ww h];simp
theorem Yu(c:UInt8):∀t:Qb,t=(Je c t).1++(match (Je c t).2 with | none=>[] | some r=>c::r)
 | []=>rfl
 | b::t=>by
  have ih:=Yu c t;unfold Je
  split
  ·rename_i h
   subst h;rfl
  ·show b::t=b::((Je c t).1++_);rw[<-ih]
theorem QjX(c:UInt8):∀{t p q:Qb},Qaw c t=some (p,q)->t=p++q
 | [],p,q,h=>by simp[Qaw] at h
 | b::t,p,q,h=>by
  unfold Qaw at h
  split at h
  ·simp at h;rw[<-h.1,<-h.2];rfl
  ·obtain⟨x,hx,e⟩:=X6.mp h;simp at e;rw[<-e.1,<-e.2];show b::t=b::(x.1++x.2);rw[<-QjX c (p:=x.1) (q:=x.2) hx]
theorem Qax(t:Qb):t=(Q2 t).1++(match (Q2 t).2 with | none=>[] | some r=>32::r):=by
 unfold Q2
 split
 ·rfl
 ·rename_i b r
  split
  ·rename_i hb
   split
   ·simp
   ·rename_i p q e
    have h1:=QjX 34 e;have h2:=Yu 32 q;show b::r=b::(p++(Je 32 q).1)++_;rw[Uq,XH,<-h2,<-h1]
  ·exact Yu 32 _
theorem Qe5(t:Qb):spaced (QO t)=t:=by
 cases h:(Q2 t).2 with
 | none=>
  rw[YK h];have:=Qax t;rw[h] at this;simp at this;exact this.symm
 | some r=>
  rw[Ww h];have:=Qax t;rw[h] at this;have ih:=Qe5 r;cases e:QO r with
  | nil=>exact absurd e (Qoz r)
  | cons x xs=>
   show (Q2 t).1++([32]++spaced (x::xs))=t;rw[<-e,ih];exact this.symm
termination_by t.length
decreasing_by exact QdI t r h
def QoQ(w:Qb):Prop:=(32 ∉ w/\w.head?≠some 34)\/∃s,w=quoted s/\34 ∉ s
theorem Qat{c:UInt8}:∀{p:Qb} (r:Qb),c ∉ p->Je c (p++c::r)=(p,some r)
 | [],r,_=>by
  show (if c=c then _ else _)=_;rw[if_pos rfl]
 | b::p,r,h=>by
  have h1:¬b=c:=λq=>h (by rw[q];exact Xh)
  have ih:=Qat (p:=p) r λq=>h (Xn _ q)
  show (if b=c then _ else _)=_;rw[if_neg h1];show (b::(Je c (p++c::r)).1,(Je c (p++c::r)).2)=_;rw[ih]
theorem Qga{c:UInt8}:∀{p:Qb},c ∉ p->Je c p=(p,none)
 | [],_=>rfl
 | b::p,h=>by
  have h1:¬b=c:=λq=>h (by rw[q];exact Xh)
  have ih:=Qga (p:=p) λq=>h (Xn _ q)
  show (if b=c then _ else _)=_;rw[if_neg h1,ih]
theorem Qcq{c:UInt8}:∀{p:Qb} (r:Qb),c ∉ p->Qaw c (p++c::r)=some (p++[c],r)
 | [],r,_=>by
  show (if c=c then _ else _)=_;rw[if_pos rfl];rfl
 | b::p,r,h=>by
  have h1:¬b=c:=λq=>h (by rw[q];exact Xh)
  have ih:=Qcq (p:=p) r λq=>h (Xn _ q)
  show (if b=c then _ else Option.map _ (Qaw c (p++c::r)))=_;rw[if_neg h1,ih];rfl
theorem QeG{b:UInt8}{r:Qb}(h:¬b=34):Q2 (b::r)=Je 32 (b::r):=if_neg h
theorem Qis(r:Qb):Q2 (34::r)=match Qaw 34 r with | none=>(34::r,none) | some (p,q)=>(34::(p++(Je 32 q).1),(Je 32 q).2):=by
 unfold Q2;simp only[if_true]
theorem Qk5{w:Qb}(r:Qb)(h:QoQ w):Q2 (w++32::r)=(w,some r):=by
 rcases h with ⟨h1,h2⟩ | ⟨s,rfl,h1⟩
 ·cases w with
  | nil=>
   show Q2 (32::r)=_;rw[QeG (by decide)];exact Qat (p:=[]) r (by simp)
  | cons b w=>
   have h3:¬b=34:=λq=>h2 (by rw[q];rfl)
   show Q2 (b::(w++32::r))=_;rw[QeG h3];exact Qat (p:=b::w) r h1
 ·show Q2 (34::((s++[34])++32::r))=_;rw[Qis,XH,show [34]++32::r=34::(32::r) from rfl,Qcq _ h1];show (34::(s++[34]++(Je 32 (32::r)).1),(Je 32 (32::r)).2)=_;rw[show Je 32 (32::r)=([],some r) from Qat (p:=[]) r (by simp),XG];rfl
theorem Qk6{w:Qb}(h:QoQ w):Q2 w=(w,none):=by
 rcases h with ⟨h1,h2⟩ | ⟨s,rfl,h1⟩
 ·cases w with
  | nil=>rfl
  | cons b w=>
   have h3:¬b=34:=λq=>h2 (by rw[q];rfl)
   rw[QeG h3];exact Qga h1
 ·show Q2 (34::(s++34::[]))=_;rw[Qis,Qcq _ h1];show (34::(s++[34]++(Je 32 []).1),(Je 32 []).2)=_;rw[show Je 32 []=([],none) from rfl,XG];rfl
theorem Qf4:∀{ws:List Qb},ws≠[]->(∀w ∈ ws,QoQ w)->QO (spaced ws)=ws
 | [],h,_=>absurd rfl h
 | [w],_,h=>by
  have e:=Qk6 (h w Xh);show QO w=_;rw[YK (by rw[e]),e]
 | w::x::r,_,h=>by
  show QO (w++([32]++spaced (x::r)))=_;have e:=Qk5 (spaced (x::r)) (h w Xh);rw[show [32]++spaced (x::r)=32::spaced (x::r) from rfl,Ww (r:=spaced (x::r)) (by rw[e]),e,Qf4 (by simp) λv hv=>h v (Xn _ hv)]
def Wb(w:Qb):Prop:=(w≠[]/\32 ∉ w/\34 ∉ w)\/∃s,w=quoted s/\34 ∉ s
theorem Wb.good{w:Qb}(h:Wb w):QoQ w:=by
 rcases h with ⟨h1,h2,h3⟩ | h
 ·refine .inl ⟨h2,λq=>h3 ?_⟩;cases w with
  | nil=>cases q
  | cons b w=>
   have:b=34:=Xc q;rw[this];exact Xh
 ·exact .inr h
theorem Qnt{w:Qb}(hw:w≠[])(h:32 ∉ w)(x:Qb):(cutAt 32 (w++32::x)).filter (λw=>!w.isEmpty)=w::(cutAt 32 x).filter (λw=>!w.isEmpty):=by
 rw[QcA h,Ur,if_pos];cases w with
 | nil=>exact absurd rfl hw
 | cons b w=>rfl
theorem QrF(t:Qb)(r:List Qb):wordsFrom false (t::r)=(cutAt 32 t).filter (λw=>!w.isEmpty)++wordsFrom true r:=rfl
theorem Qta(t:Qb)(r:List Qb):wordsFrom true (t::r)=[quoted t]++wordsFrom false r:=rfl
theorem Qk9{w:Qb}(r:Qb)(h:Wb w):wordsOf (w++32::r)=w::wordsOf r:=by
 unfold wordsOf;obtain⟨x,xs,e⟩:=ZR 34 r;have e32:cutAt 34 (32::r)=(32::x)::xs:=YU (by decide) e;rcases h with ⟨h1,h2,h3⟩ | ⟨s,rfl,h1⟩
 ·rw[Qew h3 e32,e];show (cutAt 32 (w++32::x)).filter _++wordsFrom true xs=w::((cutAt 32 x).filter _++wordsFrom true xs);rw[Qnt h1 h2];rfl
 ·rw[e];show wordsFrom false (cutAt 34 (34::((s++[34])++32::r)))=_;rw[YL,XH,show [34]++32::r=34::(32::r) from rfl,QcA h1,e32];rw[QrF,Qta,QrF,QrF,YL];rfl
theorem Qla{w:Qb}(h:Wb w):wordsOf w=[w]:=by
 unfold wordsOf;rcases h with ⟨h1,h2,h3⟩ | ⟨s,rfl,h1⟩
 ·rw[Qcz h3];show (cutAt 32 w).filter _++[]=[w];rw[Qcz h2,XG];cases w with
  | nil=>exact absurd rfl h1
  | cons b w=>rfl
 ·show wordsFrom false (cutAt 34 (34::(s++34::[])))=_;rw[YL,QcA h1];rfl
theorem Qgf:∀{ws:List Qb},ws≠[]->(∀w ∈ ws,Wb w)->wordsOf (spaced ws)=ws
 | [],h,_=>absurd rfl h
 | [w],_,h=>Qla (h w Xh)
 | w::x::r,_,h=>by
  show wordsOf (w++32::spaced (x::r))=_;rw[Qk9 _ (h w Xh),Qgf (by simp) λv hv=>h v (Xn _ hv)]
end Mp
namespace Mp
open Vaacca (cutAt gluedBy spaced quoted line linesOf Kind Rule Source kindText sourceText sourceOf isSmall allSome distinct opt markOff ruleWords ascii)
theorem Qdk(c:UInt8):∀ls:List Qb,gluedBy [c] (ls++[[]])=ls.flatMap λl=>l++[c]
 | []=>rfl
 | [l]=>by
  show l++([c]++[])=(l++[c])++[];simp
 | l::x::r=>by
  have ih:=Qdk c (x::r);show l++([c]++gluedBy [c] ((x::r)++[[]]))=(l++[c])++(x::r).flatMap λl=>l++[c]
  rw[ih,XH]
theorem Qag{t:Qb}{ls:List Qb}:linesOf t=some ls↔t=ls.flatMap line/\∀l ∈ ls,(10:UInt8) ∉ l:=by
 have e:linesOf t=if (cutAt 10 t).getLastD [1]=[] then some (cutAt 10 t).dropLast else none:=rfl;rw[e];have hne:=QeR 10 t;constructor
 ·intro h
  split at h
  ·rename_i hl
   have h:=Xc h;have hg:(cutAt 10 t)=ls++[[]]:=by
    have:=List.dropLast_concat_getLast hne;rw[h] at this;rw[<-this];congr 1;rw[Xbb,Xah hne] at hl;exact congrArg (λz=>[z]) hl
   refine⟨?_,λl hlm=>QbG 10 t l (by rw[hg];exact U3 _ hlm)⟩;have:=Qbj 10 t;rw[hg,Qdk] at this;exact this.symm
  ·cases h
 ·rintro⟨h1,h2⟩;have hc:cutAt 10 t=ls++[[]]:=by
   have h3:t=gluedBy [10] (ls++[[]]):=by rw[Qdk];exact h1
   rw[h3];refine QeQ (by simp) λw hw=>?_
   rcases Xx.mp hw with hw | hw
   ·exact h2 w hw
   ·rw[XE] at hw;rw[hw];simp
  rw[hc,if_pos (by simp)];simp
theorem Zz(c:UInt8)(hc:isSmall c=false){t:Qb}(h:t.all isSmall=true):c ∉ t:=λhm=>by
 have:=Xl.mp h c hm;rw[hc] at this;cases this
theorem QaS(s:Source):(sourceText s).all isSmall=true/\sourceText s≠[]:=by cases s<;>decide +kernel
theorem QkN{a b:Source}(h:sourceText a=sourceText b):a=b:=by
 revert h
 cases a<;>cases b<;>decide +kernel
theorem QjJ(s:Source):sourceOf (sourceText s)=some s:=by cases s<;>decide +kernel
theorem Wf(k:Kind):32 ∉ kindText k/\10 ∉ kindText k/\kindText k≠[]:=by cases k<;>decide +kernel
end Mp
namespace Sr
open PySem PySem.Spec PyProof.Rows L2 TL
variable {P:Program} {w:World} {K:Xt} {mg:Str->Option Value} {base:Heap} {C:Cs}
theorem Qsx{N Q:List Str}{sc:Scope}(a:sc.kind=.function:=by rfl)(b:sc.isCoroutine=false:=by rfl)(c:sc.isGenerator=false:=by rfl)(d:N.Nodup:=by decide +kernel)(e:N.take Q.length=Q:=by rfl)(f:∀x ∈ Q,sc.names.lookup x=some .local\/sc.names.lookup x=some .cell:=by decide +kernel)(g:∀y ∈ sc.names,y.2≠.free:=by decide +kernel):Qm N Q sc:=⟨a,b,c,d,e,f,g⟩
theorem Qp{j k:Nat}{A:Around}(r:ZM k A)(h:j<=k:=by decide):ZM j A:=r.mono h
def top(i:Nat):Stmt:=PySem.Challenge.pw_saidrow_s01_answers.main.body.getD i (.Pass ⟨0,0,0,0⟩)
def Has(K:Xt)(mg:Str->Option Value)(x:Str)(st:Stmt)(ps:List Str):Prop:=QA λf fd=>Fun K x x st f fd/\QaZ K fd ps []/\mg x=some (.ref f)
def Ok(P:Program)(w:World)(K:Xt)(mg:Str->Option Value)(base:Heap)(k:Nat)(x:Str)(ps:List Str)(sp:Sp):Prop:=
 QA λf fd=>Qcr P w K mg base CX0 k f fd ps sp/\QaZ K fd ps []/\mg x=some (.ref f)/\XaC K (.ref f)=true
def Qhy(K:Xt)(mg:Str->Option Value)(x:Str)(C:Addr)(st:Stmt)(ps:List Str):Prop:=
 Cls K C/\mg x=some (.ref C)/\QA λf fd=>Mk K C f/\Fun K "__init__" (x++Str.ofString ".__init__") st f fd/\QaZ K fd ps []
def OkC(P:Program)(w:World)(K:Xt)(mg:Str->Option Value)(base:Heap)(k:Nat)(x:Str)(C:Addr)(ps:List Str)(sp:Sp):Prop:=
 QA λf fd=>Mk K C f/\Qcr P w K mg base CX0 k f fd ps sp/\QaZ K fd ps []/\mg x=some (.ref C)
def GV(mg:Str->Option Value)(x:Str)(v:V):Prop:=∃u,mg x=some u/\QZ v u
def KT(K:Xt)(a:Addr)(xs:List V):Prop:=JP λ(o:Obj) (its:Array Value) (n:Nat)=>K.lookup a=some o/\o.cls=.type "tuple"/\o.data=.seq its n/\its.size<=sizeLine/\QP xs its.toList/\o.dict=none
theorem KT.sq{K:Xt}{a:Addr}{xs:List V}(h:KT K a xs){H:Hp}:SqT K H a xs:=by
 obtain⟨o,its,n,h1,h2,h3,h4,h5,_⟩:=h;exact .inr ⟨o,its,n,h1,h2,h3,h4,h5⟩
theorem KT.ty{K:Xt}{a:Addr}{xs:List V}(h:KT K a xs){H:Hp}:tyV K "tuple" (.ref a) H:=by
 obtain⟨o,its,n,h1,h2,h3,h4,h5,h6⟩:=h;exact .inr (.inl ⟨rfl,o,h1,h2,h6⟩)
section
variable {P:Program} {w:World} {K:Xt} {mg:Str->Option Value} {base:Heap}
theorem Has.ok{x:Str}{st:Stmt}{N ps:List Str}{k:Nat}{sp:Sp}(h:Has K mg x st ps)(S:Qm N ps (Qg st))(len:∀vs H Q E,sp vs H Q E->vs.length=ps.length)
  (hbody:∀(f:Addr) (cdv:Value) (A:Around) (outer:List Env) (s:Shared) (H:Hp) (vs:List V) (Q:VK) (E:XK),ZM k (A.deeper (envOfC x (Qg st) s.heap.objs.size f cdv))->sp vs H Q E->
    let X:=(QiL CX0 P w K mg base N x (Qg st) f cdv A outer s H E).nox;∃t,PSs X (ZY st) t/\t { nx:=λ_ H'=>Q .non H',rt:=Q } (start N vs) H):Ok P w K mg base (k+1) x ps sp:=by
 obtain⟨f,fd,F,b,m⟩:=h;exact⟨f,fd,F.ok S len λcdv A outer s H vs Q E hr hs=>hbody f cdv A outer s H vs Q E hr hs,b,m,F.kp⟩
theorem Qhy.ok{x:Str}{C:Addr}{st:Stmt}{N ps:List Str}{k:Nat}{sp:Sp}(h:Qhy K mg x C st ps)(S:Qm N ps (Qg st))(len:∀vs H Q E,sp vs H Q E->vs.length=ps.length)
  (hbody:∀(f:Addr) (cdv:Value) (A:Around) (outer:List Env) (s:Shared) (H:Hp) (vs:List V) (Q:VK) (E:XK),ZM k (A.deeper (envOfC (x++Str.ofString ".__init__") (Qg st) s.heap.objs.size f cdv))->sp vs H Q E->
    let X:=(QiL CX0 P w K mg base N (x++Str.ofString ".__init__") (Qg st) f cdv A outer s H E).nox;∃t,PSs X (ZY st) t/\t { nx:=λ_ H'=>Q .non H',rt:=Q } (start N vs) H):OkC P w K mg base (k+1) x C ps sp:=by
 obtain⟨_,m,f,fd,M,F,b⟩:=h;exact⟨f,fd,M,F.ok S len λcdv A outer s H vs Q E hr hs=>hbody f cdv A outer s H vs Q E hr hs,b,m⟩
end
section
variable {X:Cx} {k:Nat} {x:Str} {C:Addr} {ps:List Str} {sp:Sp} {e:Expr} {es:List Expr} {t:TA} {p pos:Pos} {v:V}
theorem Qk(F:Ok X.prog X.w X.K X.mg X.base k x ps sp)(hr:ZM k X.A)(hg:Gl X x)(ha:PA X (e::es) t)(hdb:(x==("__debug__":Str))=false:=by decide)
  (he:starEach (e::es) X.env=(false,eval e X.env)::starEach es X.env:=by rfl) (hpl:(backTo pos (starEach es X.env)).any (·.1)=false:=by rfl):PE X (.Call (.Name x p) (e::es) [] pos) (Qqo sp [] E0 t):=by
 obtain⟨f,fd,G,b,m,kp⟩:=F;exact Qpv G hr hg m kp b .nil QlD ha hdb he hpl
theorem Qdw(F:OkC X.prog X.w X.K X.mg X.base k x C ps sp)(hr:ZM (k+1) X.A)(hg:Gl X x)(ha:PA X (e::es) t)(hdb:(x==("__debug__":Str))=false:=by decide)
  (he:starEach (e::es) X.env=(false,eval e X.env)::starEach es X.env:=by rfl) (hpl:(backTo pos (starEach es X.env)).any (·.1)=false:=by rfl):PE X (.Call (.Name x p) (e::es) [] pos) (QjP C sp [] E0 t):=by
 obtain⟨f,fd,M,G,b,m⟩:=F;exact Qpz M G hr hg m b .nil QlD ha hdb he hpl
theorem QpA(F:OkC X.prog X.w X.K X.mg X.base k x C ps sp)(hr:ZM (k+1) X.A)(hg:Gl X x)(hdb:(x==("__debug__":Str))=false:=by decide):PE X (.Call (.Name x p) [] [] pos) (QjP C sp [] E0 Qgv):=by
 obtain⟨f,fd,M,G,b,m⟩:=F;exact Qn1 M G hr hg m b .nil QlD hdb
theorem QL(hg:Gl X x)(h:GV X.mg x v)(hd:(x==("__debug__":Str))=false:=by decide):PE X (.Name x pos) (tC v):=by
 obtain⟨u,m,r⟩:=h;exact Qpx hg m r hd
end
abbrev RS:String:="page page from by label\npart part from by label\nh1 heading whole from by label text kids\nh2 heading whole from by label text kids\nh3 heading whole from by label text kids\np text from text\nlink link focus whole from by label text kids hint\nbutton button focus whole from by label text kids hint\nfield field focus from by label hint\ncheck check focus whole from by label text kids\nlist list from by label\nitem item from by label text\ntable table from by label\nrow row\ncell cell from text\nth head whole from label text kids\nimage image whole from by label\nlive live from by label\nmodal modal from by label\n"
structure Cs where
 Box:Addr
 Page:Addr
 Rule:Addr
 Teller:Addr
 Name:Addr
 Reader:Addr
 KINDS:Addr
 SOURCES:Addr
 KEY_WORDS:Addr
 ORDERS:Addr
 KINDS_WITH_ACTS:Addr
 DEEDS:Addr
 CHOOSY_KINDS:Addr
 NO_ROLES:Addr
 INNER_SOURCES:Addr
 HEADING_LEVELS:Addr
 HOMES:Addr
 BARE_CALLS:Addr
 TEXT_CALLS:Addr
 BOX_CALLS:Addr
 F_answer_row:Addr
 F_answer_size:Addr
 F_answer_page:Addr
 F_answer_rules:Addr
 F_answer_find:Addr
 F_answer_press:Addr
 F_answer_name:Addr
 F_answer_role:Addr
 F_answer_hint:Addr
 F_answer_said:Addr
 F_answer_users:Addr
structure Pg(P:Program)(w:World)(K:Xt)(mg:Str->Option Value)(C:Cs):Prop where
 q8:Has K mg "text_of" (top 10) ["numbers"]
 q9:Has K mg "numbers_of" (top 11) ["text"]
 ja:Has K mg "lines_of" (top 12) ["text"]
 jb:Has K mg "is_made_of" (top 13) ["text","signs"]
 jc:Has K mg "is_saying" (top 14) ["text"]
 jd:Has K mg "is_quoted_saying" (top 15) ["word"]
 je:Has K mg "in_quotes" (top 16) ["text"]
 jf:Has K mg "put_together" (top 17) ["names"]
 jg:Has K mg "read_act" (top 33) ["word"]
 jh:Has K mg "find_parent" (top 34) ["boxes","place"]
 ji:Has K mg "places_around" (top 35) ["page","place"]
 jj:Has K mg "read_page" (top 36) ["text"]
 jk:Has K mg "read_box" (top 37) ["line"]
 jl:Has K mg "split_words" (top 38) ["line"]
 jm:Has K mg "find_word_end" (top 39) ["line","start"]
 jn:Has K mg "divide" (top 40) ["words"]
 jo:Has K mg "is_head" (top 41) ["words"]
 jp:Has K mg "is_ident" (top 42) ["word"]
 jq:Has K mg "is_part" (top 43) ["key","words","kind"]
 jr:Has K mg "are_idents" (top 44) ["words"]
 js:Has K mg "are_acts" (top 45) ["words"]
 jt:Has K mg "is_page" (top 46) ["page"]
 ju:Has K mg "is_first" (top 47) ["box"]
 jv:Has K mg "names_boxes" (top 48) ["page","box"]
 jw:Has K mg "stands_right" (top 49) ["page","place"]
 jx:Has K mg "read_rules" (top 55) ["text"]
 jy:Has K mg "read_rule" (top 56) ["kind","line"]
 jz:Has K mg "is_role" (top 57) ["word"]
 jA:Has K mg "are_sources" (top 58) ["words"]
 jB:Has K mg "take_page" (top 62) ["teller","page"]
 jC:Has K mg "rule_of" (top 63) ["teller","place"]
 jD:Has K mg "is_visible" (top 64) ["teller","place"]
 jE:Has K mg "find_modal" (top 65) ["teller"]
 jF:Has K mg "does_something" (top 66) ["box"]
 jG:Has K mg "can_be_pressed" (top 67) ["teller","place"]
 jH:Has K mg "press_box" (top 68) ["teller","place"]
 jI:Has K mg "do_act" (top 69) ["teller","act"]
 jJ:Has K mg "comes_from" (top 73) ["name","source"]
 jK:Has K mg "name_of" (top 74) ["teller","place"]
 jL:Has K mg "inner_names" (top 75) ["teller"]
 jM:Has K mg "first_given" (top 76) ["teller","place","sources","inner"]
 jN:Has K mg "given" (top 77) ["teller","place","source","inner"]
 jO:Has K mg "kids_shown" (top 78) ["teller","place"]
 jP:Has K mg "hint_given" (top 79) ["teller","box","inner"]
 jQ:Has K mg "users_of" (top 80) ["teller","place"]
 jR:Has K mg "is_at_end" (top 83) ["reader"]
 jS:Has K mg "take_number" (top 84) ["reader"]
 jT:Has K mg "take_text" (top 85) ["reader"]
 jU:Has K mg "hint_said" (top 87) ["teller","place"]
 jV:Has K mg "text_besides" (top 88) ["teller","place"]
 jW:Has K mg "is_said_by_itself" (top 89) ["teller","place"]
 jX:Has K mg "places_in_row" (top 90) ["teller"]
 jY:Has K mg "said_of" (top 91) ["teller","place"]
 jZ:Has K mg "words_if_something" (top 92) ["ahead","text"]
 j0:Has K mg "answer_page" (top 99) ["teller","text"]
 j1:Has K mg "answer_rules" (top 100) ["teller","text"]
 j2:Has K mg "answer_press" (top 101) ["teller","place"]
 j3:Has K mg "answer_name" (top 102) ["teller","place"]
 j4:Has K mg "answer_role" (top 103) ["teller","place"]
 j5:Has K mg "answer_hint" (top 104) ["teller","place"]
 j6:Has K mg "answer_said" (top 105) ["teller","place"]
 j7:Has K mg "answer_row" (top 106) ["teller"]
 j8:Has K mg "answer_find" (top 107) ["teller","text"]
 j9:Has K mg "answer_source" (top 108) ["teller","place","k"]
 za:Has K mg "answer_label" (top 109) ["teller","place","saying"]
 zb:Has K mg "answer_users" (top 110) ["teller","place"]
 zc:Has K mg "answer_size" (top 111) ["teller"]
 zd:Has K mg "idents_at" (top 112) ["teller","places"]
 zY:Has K mg "answers" (top 118) ["calls"]
 ze:Has K mg "answer_next" (top 119) ["teller","reader"]
 zf:Has K mg "answer_of_box" (top 120) ["teller","number","reader"]
 qG:GV mg "KINDS" (.ref C.KINDS)
 zg:KT K C.KINDS [.str (S (Xa "page")),.str (S (Xa "part")),.str (S (Xa "h1")),.str (S (Xa "h2")),.str (S (Xa "h3")),.str (S (Xa "p")),.str (S (Xa "link")),.str (S (Xa "button")),.str (S (Xa "field")),.str (S (Xa "check")),.str (S (Xa "list")),.str (S (Xa "item")),.str (S (Xa "table")),.str (S (Xa "row")),.str (S (Xa "cell")),.str (S (Xa "th")),.str (S (Xa "image")),.str (S (Xa "live")),.str (S (Xa "modal"))]
 qH:GV mg "HEADING_LEVELS" (.ref C.HEADING_LEVELS)
 qI:KD P w K C.HEADING_LEVELS [(Sum.inr (S (Xa "h1")),.int (1)),(Sum.inr (S (Xa "h2")),.int (2)),(Sum.inr (S (Xa "h3")),.int (3))]
 qt:GV mg "SOURCES" (.ref C.SOURCES)
 ql:KT K C.SOURCES [.str (S (Xa "by")),.str (S (Xa "label")),.str (S (Xa "text")),.str (S (Xa "kids")),.str (S (Xa "hint"))]
 qQ:GV mg "SMALL_LETTERS" (.str (S (Xa "abcdefghijklmnopqrstuvwxyz")))
 qR:GV mg "WORD_SIGNS" (.str (S (Xa "abcdefghijklmnopqrstuvwxyzABCDEFGHIJKLMNOPQRSTUVWXYZ0123456789")))
 zh:GV mg "OTHER_SIGNS" (.str (S (Xa "\n \":")))
 qo:GV mg "QUOTE" (.str (S (Xa "\"")))
 zi:GV mg "UNKNOWN" (.str (S (Xa "?")))
 zj:GV mg "LONGEST_SAYING" (.int (20))
 zk:GV mg "MOST_BOXES" (.int (16))
 zl:GV mg "DEEPEST" (.int (5))
 zm:GV mg "LONGEST_ID" (.int (6))
 zn:GV mg "MOST_LABELLERS" (.int (3))
 zo:GV mg "MOST_ACTS" (.int (3))
 qu:GV mg "KEY_WORDS" (.ref C.KEY_WORDS)
 qS:KT K C.KEY_WORDS [.str (S (Xa "label")),.str (S (Xa "by")),.str (S (Xa "hint")),.str (S (Xa "hidden")),.str (S (Xa "off")),.str (S (Xa "on")),.str (S (Xa "order")),.str (S (Xa "press"))]
 qv:GV mg "HEAD" (.str (S (Xa "head")))
 zp:GV mg "ORDERS" (.ref C.ORDERS)
 zq:KT K C.ORDERS [.str (S (Xa "1")),.str (S (Xa "2")),.str (S (Xa "3")),.str (S (Xa "4")),.str (S (Xa "5")),.str (S (Xa "6")),.str (S (Xa "7")),.str (S (Xa "8")),.str (S (Xa "9"))]
 zr:GV mg "KINDS_WITH_ACTS" (.ref C.KINDS_WITH_ACTS)
 zs:KT K C.KINDS_WITH_ACTS [.str (S (Xa "link")),.str (S (Xa "button")),.str (S (Xa "check"))]
 zt:GV mg "DEEDS" (.ref C.DEEDS)
 zu:KT K C.DEEDS [.str (S (Xa "show")),.str (S (Xa "hide")),.str (S (Xa "flip"))]
 qT:GV mg "HOMES" (.ref C.HOMES)
 qU:KD P w K C.HOMES [(Sum.inr (S (Xa "row")),.str (S (Xa "table"))),(Sum.inr (S (Xa "cell")),.str (S (Xa "row"))),(Sum.inr (S (Xa "th")),.str (S (Xa "row"))),(Sum.inr (S (Xa "item")),.str (S (Xa "list")))]
 zv:GV mg "CHOOSY_KINDS" (.ref C.CHOOSY_KINDS)
 zw:KT K C.CHOOSY_KINDS [.str (S (Xa "table")),.str (S (Xa "row")),.str (S (Xa "list"))]
 zx:GV mg "LONGEST_ROLE" (.int (8))
 zy:GV mg "NO_ROLES" (.ref C.NO_ROLES)
 zz:KT K C.NO_ROLES [.str (S (Xa "focus")),.str (S (Xa "whole")),.str (S (Xa "from"))]
 zA:GV mg "RULES_AT_FIRST" (.str (S (Xa RS)))
 zB:GV mg "PAGE_AT_FIRST" (.str (S (Xa "page top\n")))
 zC:GV mg "INNER_SOURCES" (.ref C.INNER_SOURCES)
 zD:KT K C.INNER_SOURCES [.str (S (Xa "label")),.str (S (Xa "text")),.str (S (Xa "kids"))]
 qJ:GV mg "WRONG_TEXT" (.int (-1))
 zE:GV mg "NO_BOX" (.int (-3))
 zF:GV mg "DOES_NOTHING" (.int (-5))
 zG:GV mg "NO_SOURCE" (.int (-5))
 qV:GV mg "NOT_NOW" (.int (-6))
 qW:GV mg "BARE_CALLS" (.ref C.BARE_CALLS)
 qX:KD P w K C.BARE_CALLS [(Sum.inl (7),.ref C.F_answer_row),(Sum.inl (12),.ref C.F_answer_size)]
 qY:GV mg "TEXT_CALLS" (.ref C.TEXT_CALLS)
 qZ:KD P w K C.TEXT_CALLS [(Sum.inl (0),.ref C.F_answer_page),(Sum.inl (1),.ref C.F_answer_rules),(Sum.inl (8),.ref C.F_answer_find)]
 zH:GV mg "BOX_CALLS" (.ref C.BOX_CALLS)
 zI:KD P w K C.BOX_CALLS [(Sum.inl (2),.ref C.F_answer_press),(Sum.inl (3),.ref C.F_answer_name),(Sum.inl (4),.ref C.F_answer_role),(Sum.inl (5),.ref C.F_answer_hint),(Sum.inl (6),.ref C.F_answer_said),(Sum.inl (11),.ref C.F_answer_users)]
 q0:GV mg "SOURCE" (.int (9))
 q1:GV mg "LABEL" (.int (10))
 zJ:mg "answer_row"=some (.ref C.F_answer_row)
 zK:mg "answer_size"=some (.ref C.F_answer_size)
 zL:mg "answer_page"=some (.ref C.F_answer_page)
 zM:mg "answer_rules"=some (.ref C.F_answer_rules)
 zN:mg "answer_find"=some (.ref C.F_answer_find)
 zO:mg "answer_press"=some (.ref C.F_answer_press)
 zP:mg "answer_name"=some (.ref C.F_answer_name)
 zQ:mg "answer_role"=some (.ref C.F_answer_role)
 zR:mg "answer_hint"=some (.ref C.F_answer_hint)
 zS:mg "answer_said"=some (.ref C.F_answer_said)
 zT:mg "answer_users"=some (.ref C.F_answer_users)
 qf:Qhy K mg "Box" C.Box (Ze (top 31) 0) ["self","depth","parts"]
 qp:Jc K C.Box "depth"
 qg:Jc K C.Box "kind"
 qw:Jc K C.Box "ident"
 qK:Jc K C.Box "text"
 qA:Jc K C.Box "label"
 qB:Jc K C.Box "by"
 qx:Jc K C.Box "hint"
 qL:Jc K C.Box "hidden"
 qC:Jc K C.Box "off"
 q2:Jc K C.Box "on"
 qD:Jc K C.Box "acts"
 qb:Qhy K mg "Page" C.Page (Ze (top 32) 0) ["self","boxes"]
 qe:Jc K C.Page "boxes"
 qh:Jc K C.Page "places"
 qy:Jc K C.Page "parents"
 qi:Qhy K mg "Rule" C.Rule (Ze (top 54) 0) ["self","role","whole","sources"]
 qM:Jc K C.Rule "role"
 qE:Jc K C.Rule "whole"
 qN:Jc K C.Rule "sources"
 qd:Qhy K mg "Teller" C.Teller (Ze (top 61) 0) ["self"]
 qO:Jc K C.Teller "rules"
 qc:Jc K C.Teller "page"
 qm:Jc K C.Teller "hidden"
 qq:Jc K C.Teller "on"
 qk:Qhy K mg "Name" C.Name (Ze (top 72) 0) ["self","number","text"]
 qP:Jc K C.Name "number"
 qr:Jc K C.Name "text"
 qz:Qhy K mg "Reader" C.Reader (Ze (top 82) 0) ["self","numbers"]
 qF:Jc K C.Reader "numbers"
 qn:Jc K C.Reader "at"
 zU:[C.Box,C.Page,C.Rule,C.Teller,C.Name,C.Reader].Nodup
 qa:mg "len"=none
 qj:mg "all"=none
 q3:mg "any"=none
 zV:mg "sum"=none
 q4:mg "ord"=none
 zW:mg "str"=none
 q5:mg "dict"=none
 q6:mg "set"=none
 qs:mg "range"=none
 q7:mg "enumerate"=none
 zX:mg "zip"=none
theorem lit{s:String}{a:Qb}(h:Str.ofString s=S a)(t:Qb):decide (V.str (S t)=V.str (Str.ofString s))=decide (t=a):=by
 rw[h]
 by_cases e:t=a
 ·rw[decide_eq_true e,decide_eq_true (QdN.mpr e)]
 ·rw[decide_eq_false e,decide_eq_false λq=>e (QdN.mp q)]
theorem QhS(t:Qb):decide (V.str (S t)=V.str (Str.ofString ""))=t.isEmpty:=by
 rw[lit Wc];cases t<;>rfl
theorem Qr4{c:UInt8}{u:Qb}:decide (c.toNat ∈ (S u).cps.toList)=u.contains c:=by
 show decide (c.toNat ∈ u.map XU)=_
 by_cases h:c ∈ u
 ·rw[decide_eq_true (Xk.mpr ⟨c,h,rfl⟩)];simp[h]
 ·rw[decide_eq_false λq=>?_]
  ·simp[h]
  ·obtain⟨d,hd,e⟩:=Xk.mp q;rw[U1.mp e] at hd;exact h hd
theorem Zc{α:Type}(f:α->Bool)(l:List α):(l.map f).all id=l.all f:=by simp[Ut]
theorem Qbd{α:Type}(f:α->Bool)(l:List α):l.map (λc=>V.bl (f c))=(l.map f).map V.bl:=by rw[Xr];rfl
theorem QbS(l:List Qb):l.map (λc=>V.str (S c))=(l.map S).map V.str:=by rw[Xr];rfl
theorem QI:sizeLine=16777216:=rfl
theorem Qab{p:UInt8->Prop}(h:∀n:Fin 256,p (Xa2 n.val)):∀b,p b:=λb=>by
 have:=h ⟨b.toNat,b.toNat_lt⟩
 simpa using this
theorem Qk8:∀b:UInt8,(Xa "abcdefghijklmnopqrstuvwxyzABCDEFGHIJKLMNOPQRSTUVWXYZ0123456789").contains b=Uy b:=Qab (by decide +kernel)
theorem Qd9:∀b:UInt8,(Xa "abcdefghijklmnopqrstuvwxyz").contains b=X3 b:=Qab (by decide +kernel)
def Qri:Sp:=λvs H Q _=>QA λ(t u:Qb)=>vs=[.str (S t),.str (S u)]/\t.length<=sizeLine/\∀H',Qe H H'->Q (.bl (!t.isEmpty&&t.all u.contains)) H'
theorem WZ:Qm ["text","signs","sign"] ["text","signs"] (Qg (top 13)):=Qsx
theorem WU(T:Pg P w K mg C):Ok P w K mg base 1 "is_made_of" ["text","signs"] Qri:=by
 refine T.jb.ok WZ (λvs H Q E h=>?_) (λf cdv A outer s H vs Q E hr h=>?_)
 ·obtain⟨t,u,rfl,_⟩:=h;rfl
 ·obtain⟨t,u,rfl,hl,k⟩:=h;intro X;refine⟨_,(Qi (Ql (JL (QR Qa4 (pv 0) QB (Qz _)) (Zf (Qs (QaB rfl) rfl T.qj boot_all (Qa (JR rfl WZ.nd (Qkz (pv 0)) (own:=[("sign",2)]) (QK (N:=["text","signs","sign"]) (sc:=Qg (top 13)) (by decide +kernel)) (λ_ _ _ _ _=>(QH (i:=2) WZ.nd rfl (by first|exact .inl rfl|exact .inr rfl))) (λ_ _ _ _ _=>Jo) (λ_ _ _ _ _=>(QR Qkv (pv 2) (pv 1) rfl))) Qc)))))),?_⟩;refine⟨_,rfl,rfl,_,rfl,?_⟩;rw[QhS];cases e:t.isEmpty with
  | true=>
   refine Qv ?_;have:=k H (Qe.refl H);rw[e] at this;exact this
  | false=>
   refine Qr ?_;refine tlc ?_;refine⟨_,rfl,_,rfl,?_⟩;refine lcM (α:=UInt8) (vf:=λc=>V.str (S [c])) 0 Qk4 hl (λc=>.bl (u.contains c)) (λc H2 hc s2 Qy Qn h1=>?_) λD H' hD s1 hd=>?_
   ·refine⟨rfl,Qr ?_⟩;refine⟨_,rfl,_,rfl,c.toNat,_,rfl,rfl,?_⟩;rw[Qr4];exact h1 H2 (Qe.refl _)
   ·refine⟨D,t.map u.contains,rfl,SqL.of (by rw[hd,Qbd]),?_⟩;have:=k H' s1;rw[e] at this;rw[Zc];exact this
def Qov:Sp:=λvs H Q _=>∃t:Qb,vs=[.str (S t)]/\t.length+2<=sizeLine/\∀H',Qe H H'->Q (.bl (Uv t)) H'
theorem QaO:Qm ["text","word"] ["text"] (Qg (top 14)):=Qsx
theorem QcM(T:Pg P w K mg C):Ok P w K mg base 2 "is_saying" ["text"] Qov:=by
 refine T.jc.ok QaO (λvs H Q E h=>?_) (λf cdv A outer s H vs Q E hr h=>?_)
 ·obtain⟨t,rfl,_⟩:=h;rfl
 ·obtain⟨t,rfl,hl,k⟩:=h;intro X;refine⟨_,(Qi (Ql (JL (QR WI (Qs JJ rfl T.qa Xv (Qa (pv 0) Qc)) (QL rfl T.zj) (Qz _)) (Zf (Qs (QaB rfl) rfl T.qj boot_all (Qa (JR rfl QaO.nd (Q4 (QfN (pv 0) QB)) (own:=[("word",1)]) (QK (N:=["text","word"]) (sc:=Qg (top 14)) (by decide +kernel)) (λ_ _ _ _ _=>(QH (i:=1) QaO.nd rfl (by first|exact .inl rfl|exact .inr rfl))) (λ_ _ _ _ _=>Jo) (λ_ _ _ _ _=>(Qk (WU T) (Qp hr) rfl (Qa (pv 1) (Qa (QL rfl T.qR) Qc))))) Qc)))))),?_⟩;refine⟨_,rfl,_,rfl,(by rw[Ja];omega),?_⟩;refine⟨_,_,rfl,rfl,_,rfl,?_⟩;rw[Ja]
  by_cases h20:t.length<=20
  ·rw[decide_eq_true (by omega)];refine Qr ?_;refine tlc ?_;refine⟨_,rfl,⟨_,rfl⟩,_,_,rfl,rfl,by decide +kernel,by rw[Ja];exact hl,λp hp=>?_⟩;rw[show Str.ofString " "=S [32] by decide +kernel,Qip,<-QbS];refine⟨p,rfl,⟨_,SqL.of Qh⟩,?_⟩;refine lcM (α:=Qb) (xs:=XA 32 t) (vf:=λc=>V.str (S c)) [] (Jw (QW (SqL.of Qh))) (Uf (QhD 32 t) (by omega)) (λc=>.bl (!c.isEmpty&&c.all Uy)) (λc H2 hc s2 Qy Qn h1=>?_) λD H' hD s1 hd=>?_
   ·refine⟨rfl,Qr ?_⟩;refine⟨_,rfl,⟨c,_,rfl,Uf (Yb 32 t c hc) (by omega),λH' s'=>?_⟩⟩;rw[show (Xa "abcdefghijklmnopqrstuvwxyzABCDEFGHIJKLMNOPQRSTUVWXYZ0123456789").contains=Uy from funext Qk8];exact h1 H' s'
   ·refine⟨D,(XA 32 t).map λc=>(!c.isEmpty&&c.all Uy),rfl,SqL.of (by rw[hd,Qbd]),?_⟩;rw[Zc];have:=k H' ((Qe.new hp).trans s1);rw[show Uv t=(XA 32 t).all λw=>!w.isEmpty&&w.all Uy by show (decide (t.length<=20)&&_)=_;rw[decide_eq_true h20];rfl] at this;exact this
  ·rw[decide_eq_false (by omega)];refine Qv ?_;have:=k H (Qe.refl H);rw[show Uv t=false by show (decide (t.length<=20)&&_)=_;rw[decide_eq_false h20];rfl] at this;exact this
def QpV:Sp:=λvs H Q _=>∃t:Qb,vs=[.str (S t)]/\t.length+2<=sizeLine/\match Uc t with
 | none=>∀H',Qe H H'->Q .non H'
 | some ls=>∀H' p,Qe H H'->H' p=some (.lst (ls.map λl=>V.str (S l)))->Q (.ref p) H'
theorem Qd7:Qm ["text","lines"] ["text"] (Qg (top 12)):=Qsx
theorem QdX(T:Pg P w K mg C):Ok P w K mg base 1 "lines_of" ["text"] QpV:=by
 refine T.ja.ok Qd7 (λvs H Q E h=>?_) (λf cdv A outer s H vs Q E hr h=>?_)
 ·obtain⟨t,rfl,_⟩:=h;rfl
 ·obtain⟨t,rfl,hl,k⟩:=h;intro X;refine⟨_,(Qd (Qx (i:=1) Qd7.nd rfl (by first|exact .inl rfl|exact .inr rfl) (QfN (pv 0) QB))
   (Qd (Q1 (QE Qa4 (Qq3 XD PySem.F.slot_list_pop PySem.F.type_list_pop QqX (pv 1)) QB (Qz _)) (Qi (Ql YE)) QC)
   (Qi (Ql (pv 1))))),?_⟩
  refine⟨_,rfl,⟨_,rfl⟩,_,_,rfl,rfl,by decide +kernel,by rw[Ja];exact hl,λp hp=>?_⟩;rw[show Str.ofString "\n"=S [10] by decide +kernel,Qip];obtain⟨w0,ws,ec⟩:=ZR 10 t;have hlast:((XA 10 t).map S).map V.str=(XA 10 t).map λl=>V.str (S l):=by rw[Xr];rfl
  rw[hlast];have hne:=QeR 10 t;have hk:((XA 10 t).map λl=>V.str (S l))[((XA 10 t).map λl=>V.str (S l)).length-1]?=some (V.str (S ((XA 10 t).getLast hne))):=by
   rw[Xg,Xb,<-Xav,Xah hne];rfl
  refine⟨_,rfl,.inl ⟨rfl,_,SqL.of Qh⟩,p,_,_,rfl,rfl,Qh,hk,?_⟩;refine⟨rfl,_,rfl,?_⟩;rw[QhS];have sn:Qe H (upd (upd H p (.lst ((XA 10 t).map λl=>V.str (S l)))) p (.lst ((XA 10 t).map λl=>V.str (S l)).dropLast)):=Qe.updL (Qe.new hp) hp;have el:Uc t=if (XA 10 t).getLast hne=[] then some (XA 10 t).dropLast else none:=by
   show (if (XA 10 t).getLastD [1]=[] then _ else _)=_;rw[Xbb,Xah hne];rfl
  rw[el] at k;cases e:((XA 10 t).getLast hne).isEmpty with
  | true=>
   have e':(XA 10 t).getLast hne=[]:=UB.mp e;rw[if_pos e'] at k;refine Qv ⟨_,rfl,?_⟩;refine k _ p sn ?_;rw[Qh,List.map_dropLast]
  | false=>
   have e':¬(XA 10 t).getLast hne=[]:=λq=>by rw[q] at e;cases e
   rw[if_neg e'] at k;exact Qr (k _ sn)
def Qot:Sp:=λvs H Q _=>∃t:Qb,vs=[.str (S t)]/\t.length+2<=sizeLine/\Q (.str (S (Xa6 t))) H
theorem Qij:Qm ["text"] ["text"] (Qg (top 16)):=Qsx
theorem QhY(T:Pg P w K mg C):Ok P w K mg base 1 "in_quotes" ["text"] Qot:=by
 refine T.je.ok Qij (λvs H Q E h=>?_) (λf cdv A outer s H vs Q E hr h=>?_)
 ·obtain⟨t,rfl,_⟩:=h;rfl
 ·obtain⟨t,rfl,hl,k⟩:=h;intro X;refine⟨_,(Qi (Ql (J6 Qcg (J6 Qcg (QL rfl T.qo) (pv 0)) (QL rfl T.qo)))),?_⟩;refine⟨_,rfl,_,_,rfl,rfl,?_,_,_,rfl,rfl,?_,?_⟩
  ·rw[Ja,Ja];show 1+_<=_;omega
  ·rw[W8,Ja,Ja,Xi];show 1+_+1<=_;omega
  ·rw[W8,W8];exact k
def JQ(t:Qb):List Int:=(t.length:Int)::t.map λb=>(b.toNat:Int)
def QmR:Sp:=λvs H Q _=>∃t:Qb,vs=[.str (S t)]/\t.length+1<=sizeLine/\∀H' p,Qe H H'->H p=none->H' p=some (.lst ((JQ t).map V.int))->Q (.ref p) H'
theorem W2:Qm ["text","sign"] ["text"] (Qg (top 11)):=Qsx
theorem Jq(T:Pg P w K mg C):Ok P w K mg base 1 "numbers_of" ["text"] QmR:=by
 refine T.q9.ok W2 (λvs H Q E h=>?_) (λf cdv A outer s H vs Q E hr h=>?_)
 ·obtain⟨t,rfl,_⟩:=h;rfl
 ·obtain⟨t,rfl,hl,k⟩:=h;intro X;refine⟨_,(Qi (Ql (J6 Qch (Q0 (Qa (Qs JJ rfl T.qa Xv (Qa (pv 0) Qc)) Qc)) (JR rfl W2.nd (Qkz (pv 0)) (own:=[("sign",1)]) (QK (N:=["text","sign"]) (sc:=Qg (top 11)) (by decide +kernel)) (λ_ _ _ _ _=>(QH (i:=1) W2.nd rfl (by first|exact .inl rfl|exact .inr rfl))) (λ_ _ _ _ _=>Jo) (λ_ _ _ _ _=>(Qs QiB rfl T.q4 boot_ord (Qa (pv 1) Qc))))))),?_⟩;refine⟨_,rfl,_,rfl,(by rw[Ja];omega),(by show 1<=sizeLine;decide),λp hp=>?_⟩;refine tlc ?_;refine⟨_,rfl,_,rfl,?_⟩;refine lcM (α:=UInt8) (vf:=λc=>V.str (S [c])) 0 Qk4 (by omega) (λc=>.int c.toNat) (λc H2 hc s2 Qy Qn h1=>?_) λD H' hD s1 hd=>?_
  ·refine⟨rfl,Qr ?_⟩;exact⟨_,rfl,_,rfl,rfl,h1 H2 (Qe.refl _)⟩
  ·have hp':=s1 _ _ (Qh (H:=H) (a:=p));refine⟨p,D,_,_,rfl,rfl,hp',hd,(by simp;omega),λq hq=>?_⟩;have sn:Qe H H':=(Qe.new hp).trans s1;refine k _ q (sn.trans (Qe.new hq)) (Qe.free sn hq) ?_;rw[Qh,Ja];show some (HO.lst _)=_;unfold JQ;rw[Xj,Xr];rfl
def QkW(K:Xt):Sp:=λvs H Q _=>QA λ(a:Addr) (ts:List Qb)=>vs=[.ref a]/\SqL K H a (ts.map λt=>V.str (S t))/\ts.length<=sizeLine/\(ts.map XO).sum+ts.length<=sizeLine/\
 ∀H',Qe H H'->Q (.str (S (Vaaccb.said ts))) H'
theorem Y1:Qm ["names","name"] ["names"] (Qg (top 17)):=Qsx
theorem Qf6(p:Qb->Bool):∀ts:List Qb,((ts.filter p).map XO).sum+(ts.filter p).length<=(ts.map XO).sum+ts.length
 | []=>Xy _
 | t::ts=>by
  have ih:=Qf6 p ts;rw[Ur]
  split
  ·simp only[Xj,X1,Xw];omega
  ·simp only[Xj,X1,Xw];omega
theorem Qa2(T:Pg P w K mg C):Ok P w K mg base 1 "put_together" ["names"] (QkW K):=by
 refine T.jf.ok Y1 (λvs H Q E h=>?_) (λf cdv A outer s H vs Q E hr h=>?_)
 ·obtain⟨a,ts,rfl,_⟩:=h;rfl
 ·obtain⟨a,ts,rfl,hs,hl,hz,k⟩:=h;intro X;refine⟨_,(Qi (Ql (Qh6 QB (JR rfl Y1.nd (Q4 (pv 0)) (own:=[("name",1)]) (QK (N:=["names","name"]) (sc:=Qg (top 17)) (by decide +kernel)) (λ_ _ _ _ _=>(QH (i:=1) Y1.nd rfl (by first|exact .inl rfl|exact .inr rfl))) (λ_ _ _ _ _=>(YM (QE Qa4 (pv 1) QB (Qz _)))) (λ_ _ _ _ _=>(pv 1)))))),?_⟩;refine⟨⟨_,rfl⟩,?_⟩;refine tlc ?_;refine⟨_,rfl,a,rfl,⟨_,hs⟩,?_⟩;refine lcX (α:=Qb) (vf:=λc=>V.str (S c)) [] (Jw (QW hs)) hl (λt=>!t.isEmpty) (λc=>.str (S c)) (λc H2 hc s2 Qy Qn h1 h2=>?_) λD H' hD s1 hd=>?_
  ·refine⟨rfl,?_⟩;refine⟨_,rfl,rfl,_,rfl,?_⟩;rw[QhS];cases e:(!c.isEmpty) with
   | true=>exact Qr ⟨_,rfl,h1 e H2 (Qe.refl _)⟩
   | false=>exact Qv (h2 e H2 (Qe.refl _))
  ·have e1:((ts.filter λt=>!t.isEmpty).map S).map (·.length)=(ts.filter λt=>!t.isEmpty).map XO:=by
    rw[Xr];exact XF λx _=>Ja x
   refine⟨_,D,(ts.filter λt=>!t.isEmpty).map S,rfl,rfl,.inl (SqL.of (by rw[hd,QbS])),?_,?_⟩
   ·rw[e1,Xb,show (Str.ofString " ").length=1 by decide +kernel];have:=Qf6 (λt=>!t.isEmpty) ts;rw[QI] at hz;omega
   ·rw[show Str.ofString " "=S [32] by decide +kernel,Qkg];exact k H' s1
theorem Qsk(t:Qb)(c:UInt8)(i:Nat):Builtin.Str.subAt (S t) (S [c]) i=decide (t[i]?=some c):=by
 unfold Builtin.Str.subAt;have e:(S t).cps.extract i (i+(S [c]).length)=(((t.drop i).take 1).map XU).toArray:=by
  apply Array.ext';show ((t.map XU).toArray.extract i (i+1)).toList=_;rw[List.extract_toArray];simp[List.extract,XbL,XbK]
 rw[e];have e2:(S [c]).cps=([c.toNat]:List Nat).toArray:=rfl;rw[e2];cases h:t[i]? with
 | none=>
  rw[XaG (List.getElem?_eq_none_iff.mp h)];rfl
 | some d=>
  obtain⟨hi,e3⟩:=Xp.mp h;rw[Xat hi,e3];show (([d.toNat]:List Nat).toArray==([c.toNat]:List Nat).toArray)=_
  by_cases hd:d=c
  ·subst hd;simp
  ·have:¬d.toNat=c.toNat:=λq=>hd (U1.mp q)
   simp[hd,this]
theorem QoB(t:Qb)(c:UInt8):Txt.startswith (S t) (S [c])=decide (t.head?=some c):=by
 unfold Txt.startswith
 rw[Qsk,Ja,Ja];cases t with
 | nil=>rfl
 | cons b r=>simp
theorem QqK(t:Qb)(c:UInt8):Txt.endswith (S t) (S [c])=decide (t.getLast?=some c):=by
 unfold Txt.endswith
 rw[Qsk,Ja,Ja];cases t with
 | nil=>rfl
 | cons b r=>
  rw[Xav];simp
def QbW(w:Qb):Bool:=(UP w).any Uv
def Yn(w:Qb):Qb:=(w.drop (HT.sIx w.length 0 (some 1))).take (HT.sIx w.length w.length (some (-1))-HT.sIx w.length 0 (some 1))
theorem Qmg(b:UInt8)(r:Qb):Yn (b::r)=r.dropLast:=by
 unfold Yn;have h1:HT.sIx (b::r).length 0 (some 1)=1:=by
  have:=HT.YN (b::r).length 0 1;rw[show (some ((1:Nat):Int))=some (1:Int) from rfl] at this;rw[this];simp
 have h2:HT.sIx (b::r).length (b::r).length (some (-1))=r.length:=by
  unfold HT.sIx;simp;omega
 rw[h1,h2];show r.take (r.length-1)=_;rw[List.dropLast_eq_take]
theorem Qpe(w:Qb):(decide (w.head?=some 34)&&(decide (w.getLast?=some 34)&&Uv (Yn w)))=QbW w:=by
 cases w with
 | nil=>rfl
 | cons b r=>
  rw[Qmg]
  by_cases hb:b=34
  ·subst hb;unfold QbW;show (decide (some (34:UInt8)=some 34)&&_)=Option.any _ (if r.getLast?=some 34 then some r.dropLast else none);rw[decide_eq_true rfl,XbI];cases r with
   | nil=>decide +kernel
   | cons x xs=>
    have e:(34::x::xs:Qb).getLast?=(x::xs).getLast?:=by simp[List.getLast?_cons_cons]
    rw[e]
    by_cases hl:(x::xs:Qb).getLast?=some 34
    ·rw[decide_eq_true hl,if_pos hl];rfl
    ·rw[decide_eq_false hl,if_neg hl];rfl
  ·have h1:¬((b::r:Qb).head?=some 34):=λq=>hb (Xc q)
   rw[decide_eq_false h1];unfold QbW UP
   split
   ·rename_i h2
    injection h2 with h2 _;exact absurd h2 hb
   ·rfl
def QmS:Sp:=λvs H Q _=>∃t:Qb,vs=[.str (S t)]/\t.length+2<=sizeLine/\∀H',Qe H H'->Q (.bl (QbW t)) H'
theorem QbX:Qm ["word"] ["word"] (Qg (top 15)):=Qsx
theorem Y4(T:Pg P w K mg C):Ok P w K mg base 3 "is_quoted_saying" ["word"] QmS:=by
 refine T.jd.ok QbX (λvs H Q E h=>?_) (λf cdv A outer s H vs Q E hr h=>?_)
 ·obtain⟨t,rfl,_⟩:=h;rfl
 ·obtain⟨t,rfl,hl,k⟩:=h;intro X;refine⟨_,(Qi (Ql (JL (J4 UV PySem.F.slot_str_startswith PySem.F.type_str_startswith Qgl (pv 0) (Qa (QL rfl T.qo) Qc)) (JL (J4 UV PySem.F.slot_str_endswith PySem.F.type_str_endswith Qjb (pv 0) (Qa (QL rfl T.qo) Qc)) (Zf (Qk (QcM T) (Qp hr) rfl (Qa (JV QdA (pv 0) (JE Qt) (JE (Qhc QdF Qt))) Qc))))))),?_⟩;have e34:Xa "\""=[34]:=by decide +kernel
  have k':∀H',Qe H H'->Q (.bl (decide (t.head?=some 34)&&(decide (t.getLast?=some 34)&&Uv (Yn t)))) H':=λH' s'=>by
   rw[Qpe];exact k H' s'
  refine⟨_,rfl,rfl,_,_,rfl,rfl,_,rfl,?_⟩;rw[e34,QoB];cases e1:decide (t.head?=some 34) with
  | false=>
   refine Qv ?_;have:=k' H (Qe.refl H);rw[e1] at this;exact this
  | true=>
   refine Qr ⟨_,rfl,rfl,_,_,rfl,rfl,_,rfl,?_⟩;rw[QqK];cases e2:decide (t.getLast?=some 34) with
   | false=>
    refine Qv ?_;have:=k' H (Qe.refl H);rw[e1,e2] at this;exact this
   | true=>
    refine Qr ⟨_,rfl,_,rfl,_,rfl,_,rfl,_,rfl,by rw[Ja];omega,?_⟩;rw[QeP];refine⟨_,rfl,?_,λH' s'=>?_⟩
    ·have:((t.drop (HT.sIx t.length 0 (some 1))).take (HT.sIx t.length t.length (some (-1))-HT.sIx t.length 0 (some 1))).length<=t.length:=by
      rw[Xbf,XQ];omega
     exact Uf (Nat.add_le_add_right this 2) hl
    ·have:=k' H' s';rw[e1,e2] at this;exact this
def Y3:Qb:=Xa "abcdefghijklmnopqrstuvwxyzABCDEFGHIJKLMNOPQRSTUVWXYZ0123456789"++Xa "\n \":"
def Ji(b:UInt8):UInt8:=if Y3.contains b then b else 63
def Qc0:List (Key × V):=Y3.map λc=>(Sum.inl (c.toNat:Int),V.str (S [c]))
theorem Qmp:∀b:UInt8,(Jn (Jj [] Qc0) (Sum.inl (b.toNat:Int))).getD (V.str (S (Xa "?")))=V.str (S [Ji b]):=Qab (by decide +kernel)
theorem Qjn{K:Xt}{H:Hp}{t:Qb}{l:List Nat}{ys:List V}(h:Paired (λi y=>QA λp c=>y=V.ref p/\t[i]?=some c/\H p=some (.tup [.int c.toNat,.str (S [c])])) l ys) :
  ∃ps:List Addr,ys=ps.map V.ref/\Paired (λp (kv:Key × V)=>SqT K H p [kV kv.1,kv.2]) ps (l.map λi=>(Sum.inl ((t.getD i 0).toNat:Int),V.str (S [t.getD i 0]))):=by
 induction h with
 | nil=>exact⟨[],rfl,.nil⟩
 | @cons i y l ys a r ih=>
  obtain⟨p,c,e1,e2,e3⟩:=a;obtain⟨ps,e,q⟩:=ih;have e4:t.getD i 0=c:=by rw[Xf,e2];rfl
  refine⟨p::ps,by rw[e1,e];rfl,.cons ?_ q⟩;simp only[e4];exact SqT.of e3
theorem Qmk(l:Qb):XS [] (l.map λb=>[b])=l:=by
 induction l with
 | nil=>rfl
 | cons b r ih=>
  cases r with
  | nil=>rfl
  | cons c r=>
   show [b]++([]++XS [] ((c::r).map λb=>[b]))=_;rw[ih];rfl
def Qox(K:Xt):Sp:=λvs H Q _=>QA λ(a:Addr) (bs:Qb)=>vs=[.ref a]/\SqL K H a (bs.map λb=>V.int b.toNat)/\bs.length<=1000000/\∀H',Qe H H'->Q (.str (S (bs.map Ji))) H'
theorem YJ:Qm ["numbers","signs","sign","number"] ["numbers"] (Qg (top 10)):=Qsx
theorem Qku(T:Pg P w K mg C):Ok P w K mg base 1 "text_of" ["numbers"] (Qox K):=by
 refine T.q8.ok YJ (λvs H Q E h=>?_) (λf cdv A outer s H vs Q E hr h=>?_)
 ·obtain⟨a,bs,rfl,_⟩:=h;rfl
 ·obtain⟨a,bs,rfl,hs,hl,k⟩:=h;intro X;refine⟨_,(Qd (Qx (i:=1) YJ.nd rfl (by first|exact .inl rfl|exact .inr rfl) (Qaj (QeN rfl) rfl T.q5 boot_dict (Qa (JR rfl YJ.nd (Qkz (J6 Qcg (QL rfl T.qR) (QL rfl T.zh))) (own:=[("sign",2)]) (QK (N:=["numbers","signs","sign","number"]) (sc:=Qg (top 10)) (by decide +kernel)) (λ_ _ _ _ _=>(QH (i:=2) YJ.nd rfl (by first|exact .inl rfl|exact .inr rfl))) (λ_ _ _ _ _=>Jo) (λ_ _ _ _ _=>(Qky (Qa (Qs QiB rfl T.q4 boot_ord (Qa (pv 2) Qc)) (Qa (pv 2) Qc))))) Qc)))
   (Qi (Ql (Qh6 QB (JR rfl YJ.nd (Q4 (pv 0)) (own:=[("number",3)]) (QK (N:=["numbers","signs","sign","number"]) (sc:=Qg (top 10)) (by decide +kernel)) (λ_ _ _ _ _=>(QH (i:=3) YJ.nd rfl (by first|exact .inl rfl|exact .inr rfl))) (λ_ _ _ _ _=>Jo) (λ_ _ _ _ _=>(QfL (Zp hr) (pv 1) (pv 3) (QL rfl T.zi) ⟨by rfl,by rfl,by rfl,by rfl⟩))))))),?_⟩
  refine tlc ?_;refine⟨_,_,rfl,rfl,by rw[Ja,Ja];decide +kernel,?_⟩;rw[W8];refine⟨_,rfl,?_⟩;refine lcW (Qk4 (t:=Y3)) (by decide +kernel) (λ_=>true) (λi y H=>QA λp c=>y=V.ref p/\Y3[i]?=some c/\H p=some (.tup [.int c.toNat,.str (S [c])])) ?_ (λi x H2 hi s2 rx Qy Qn h1 h2=>?_) λD ys H' hD s1 hd hp=>?_
  ·rintro i y H H' st ⟨p,c,e1,e2,e3⟩;exact⟨p,c,e1,e2,st _ _ e3 (λ_ q=>nomatch q)⟩
  ·obtain⟨c,ec,rfl⟩:=rx;refine⟨rfl,Qr ?_⟩;refine⟨_,rfl,_,rfl,rfl,_,rfl,(by show 2<=sizeLine;decide),λp hp=>?_⟩;exact h1 rfl _ _ (Qe.new hp) ⟨p,c,rfl,ec,Qh⟩
  ·rw[X2.mpr (λ_ _=>rfl)] at hp;obtain⟨ps,rfl,hps⟩:=Qjn (K:=K) hp;have ek:(Xs Y3.length).map (λi=>((Sum.inl ((Y3.getD i 0).toNat:Int):Key),V.str (S [Y3.getD i 0])))=Qc0:=by
    unfold Qc0
    conv=>rhs;rw[<-JS Y3 0,Xr]
    rfl
   rw[ek] at hps;refine⟨D,ps,Qc0,rfl,SqL.of hd,hps,λq hq=>?_⟩;have sq:Qe H (upd H' q (.dK (Jj [] Qc0))):=s1.trans (Qe.new hq);refine⟨⟨_,rfl⟩,?_⟩;refine tlc ?_;refine⟨_,rfl,a,rfl,⟨_,Qe.seq sq hs⟩,?_⟩;refine lcM (α:=UInt8) (vf:=λb=>V.int b.toNat) 0 (Jw (QW (Qe.seq sq hs))) (by rw[QI];omega) (λb=>.str (S [Ji b])) (λb H2 hb s2 Qy Qn h1=>?_) λD2 H3 hD2 s3 hd2=>?_
   ·refine⟨rfl,Qr ?_⟩;have hq2:=s2 _ _ (Qh (H:=H') (a:=q));refine⟨_,rfl,q,rfl,.inl ⟨_,Rd.of hq2⟩,_,rfl,_,ZP.k (k:=Sum.inl (b.toNat:Int)) hq2,?_⟩;rw[Qmp];exact h1 H2 (Qe.refl _)
   ·refine⟨_,D2,(bs.map λb=>[Ji b]).map S,rfl,rfl,.inl (SqL.of (by rw[hd2,Xr,Xr];rfl)),?_,?_⟩
    ·rw[Xr,Xr,show (Str.ofString "").length=0 by decide +kernel];have:(bs.map ((λx:Str=>x.length) ∘ S ∘ λb=>[Ji b])).sum=bs.length:=by
      clear hs hl k hd2
      induction bs with
      | nil=>rfl
      | cons b r ih=>
       simp only[Xj,X1,Function.comp,Ja,Xw,Uo] at ih ⊢;omega
     simp only[Function.comp_def] at this ⊢;omega
    ·rw[Wc,Qkg];have e:(bs.map λb=>[Ji b])=(bs.map Ji).map λb=>[b]:=by rw[Xr];rfl
     rw[e,Qmk];exact k H3 (sq.trans s3)
theorem gN{i:Nat}{v:V}{σ:L2.St}{H:Hp}{Q:L2.St->Hp->Prop}(h:Q (σ.set i (some v)) H):Qe2 i v σ H Q:=h
theorem QaW(c:UInt8):∀t:Qb,c ∉ (Mp.Je c t).1
 | []=>by simp[Mp.Je]
 | b::t=>by
  unfold Mp.Je
  split
  ·simp
  ·rename_i h
   intro q;rcases Xm.mp q with q | q
   ·exact h q.symm
   ·exact QaW c t q
theorem Qp6(c:UInt8)(t:Qb):(Mp.Je c t).1.length<=t.length/\((Mp.Je c t).2.getD []).length<=t.length:=by
 have e:=Mp.Yu c t;cases h:(Mp.Je c t).2 with
 | none=>
  rw[h] at e;have:=congrArg XO e;simp at this;simp;omega
 | some r=>
  rw[h] at e;have:=congrArg XO e;simp at this;simp;omega
def Qo(t:Qb):Qb × Qb:=((Mp.Je 58 t).1,(Mp.Je 58 t).2.getD [])
theorem Qho{c:UInt8}{t:Qb}(h:c ∉ t):c.toNat ∉ tl (S t):=λq=>by
 obtain⟨d,hd,e⟩:=Xk.mp (show c.toNat ∈ t.map XU from q);rw[U1.mp e] at hd;exact h hd
theorem Qd1(t:Qb):(Txt.partition (S t) (S [58])).1=S (Qo t).1/\(Txt.partition (S t) (S [58])).2.2=S (Qo t).2:=by
 have e:=Mp.Yu 58 t;have hn:=QaW 58 t;unfold Qo;cases h:(Mp.Je 58 t).2 with
 | none=>
  rw[h] at e;simp only[XG] at e;have:=QfI (y:=S [58]) (s:=58) (S:=[]) rfl (Qho hn);rw[<-e] at this ⊢;rw[this];exact⟨rfl,rfl⟩
 | some r=>
  rw[h] at e;have:=Qgq (y:=S [58]) (s:=58) (S:=[]) rfl (b:=S r) (Qho hn);have e2:S (Mp.Je 58 t).1++S [58]++S r=S t:=by
   rw[W8,W8]
   conv=>rhs;rw[e]
   simp
  rw[e2] at this;rw[this];exact⟨rfl,rfl⟩
theorem Qa1(t:Qb)(l:List Qb):inV (.str (S t)) (l.map λx=>V.str (S x))=l.contains t:=by
 unfold inV
 induction l with
 | nil=>rfl
 | cons a r ih=>
  rw[Xj,XbJ,ih,Xac];congr 1;show decide (S a=S t)=(t==a)
  by_cases e:t=a
  ·subst e;rw[decide_eq_true rfl,beq_self_eq_true]
  ·rw[decide_eq_false λq=>e (YT q).symm,beq_eq_false_iff_ne.mpr e]
theorem Ym(l:List Qb):(l.map λx=>V.str (S x)).all Yw=true:=by
 rw[Ut,Xl];intro x _;rfl
def Qsf:Sp:=λvs H Q _=>∃t:Qb,vs=[.str (S t)]/\t.length<=sizeLine/\∀H' p,Qe H H'->H' p=some (.tup [.str (S (Qo t).1),.str (S (Qo t).2)])->Q (.ref p) H'
theorem Qd8:Qm ["word","sides"] ["word"] (Qg (top 33)):=Qsx
theorem QdY(T:Pg P w K mg C):Ok P w K mg base 1 "read_act" ["word"] Qsf:=by
 refine T.jg.ok Qd8 (λvs H Q E h=>?_) (λf cdv A outer s H vs Q E hr h=>?_)
 ·obtain⟨t,rfl,_⟩:=h;rfl
 ·obtain⟨t,rfl,hl,k⟩:=h;intro X;refine⟨_,(Qd (Qx (i:=1) Qd8.nd rfl (by first|exact .inl rfl|exact .inr rfl) (Qh7 (pv 0) QB))
   (Qi (Ql (Qky (Qa (QV Qdm (pv 1) Qt (λ_ _=>rfl)) (Qa (QV Qdm (pv 1) Qt (λ_ _=>rfl)) Qc)))))),?_⟩
  refine⟨_,rfl,⟨_,rfl⟩,_,_,rfl,rfl,by decide +kernel,by rw[Ja];exact hl,λp hp=>?_⟩;rw[show Str.ofString ":"=S [58] by decide +kernel];have hq:=Qh (H:=H) (a:=p) (o:=.tup [.str (Txt.partition (S t) (S [58])).1,.str (Txt.partition (S t) (S [58])).2.1,.str (Txt.partition (S t) (S [58])).2.2]);refine⟨_,rfl,p,_,_,_,rfl,rfl,SqT.of hq,JN (j:=0) rfl rfl,_,rfl,p,_,_,_,rfl,rfl,SqT.of hq,JN (j:=2) rfl rfl,(by show 2<=sizeLine;decide),λq hq2=>?_⟩;refine k _ q ((Qe.new hp).trans (Qe.new hq2)) ?_;rw[Qh,(Qd1 t).1,(Qd1 t).2]
def QpT:Sp:=λvs H Q _=>∃t:Qb,vs=[.str (S t)]/\t.length<=sizeLine/\∀H',Qe H H'->Q (.bl (XX t)) H'
theorem QjD:Qm ["word"] ["word"] (Qg (top 42)):=Qsx
theorem QdW(T:Pg P w K mg C):Ok P w K mg base 2 "is_ident" ["word"] QpT:=by
 refine T.jp.ok QjD (λvs H Q E h=>?_) (λf cdv A outer s H vs Q E hr h=>?_)
 ·obtain⟨t,rfl,_⟩:=h;rfl
 ·obtain⟨t,rfl,hl,k⟩:=h;intro X;refine⟨_,(Qi (Ql (JL (QR WI (Qs JJ rfl T.qa Xv (Qa (pv 0) Qc)) (QL rfl T.zm) (Qz _)) (JL (Qk (WU T) (Qp hr) rfl (Qa (pv 0) (Qa (QL rfl T.qQ) Qc))) (Zf (QR QaI (pv 0) (QL rfl T.qu) rfl)))))),?_⟩;have k':∀H',Qe H H'->Q (.bl (decide (t.length<=6)&&((!t.isEmpty&&t.all X3)&&!UH.contains t))) H':=λH' s'=>by
   have:=k H' s';rw[show XX t=(decide (t.length<=6)&&((!t.isEmpty&&t.all X3)&&!UH.contains t)) by
    show (!t.isEmpty&&(decide (t.length<=6)&&(t.all X3&&!UH.contains t)))=_;cases t.isEmpty<;>cases decide (t.length<=6)<;>simp] at this
   exact this
  refine⟨_,rfl,_,rfl,(by rw[Ja];exact hl),_,_,rfl,rfl,_,rfl,?_⟩;rw[Ja]
  by_cases h6:t.length<=6
  ·rw[decide_eq_true (by omega)];refine Qr ?_;refine⟨_,rfl,t,_,rfl,hl,λH' s'=>⟨_,rfl,?_⟩⟩;rw[show (Xa "abcdefghijklmnopqrstuvwxyz").contains=X3 from funext Qd9];rw[decide_eq_true h6] at k';cases e:(!t.isEmpty&&t.all X3) with
   | false=>
    refine Qv ?_;rw[e] at k';exact k' H' s'
   | true=>
    rw[e] at k';refine Qr ⟨_,rfl,C.KEY_WORDS,_,rfl,.inr T.qS.sq,rfl,by decide +kernel,?_⟩;have e2:inV (.str (S t)) [.str (S (Xa "label")),.str (S (Xa "by")),.str (S (Xa "hint")),.str (S (Xa "hidden")),.str (S (Xa "off")),.str (S (Xa "on")),.str (S (Xa "order")),.str (S (Xa "press"))]=UH.contains t:=Qa1 t UH;rw[e2];exact k' H' s'
  ·rw[decide_eq_false (by omega)];refine Qv ?_;have:=k' H (Qe.refl H);rw[decide_eq_false h6] at this;exact this
def Qoq(K:Xt):Sp:=λvs H Q _=>QA λ(a:Addr) (ts:List Qb)=>vs=[.ref a]/\SqL K H a (ts.map λt=>V.str (S t))/\ts.length<=sizeLine/\(∀t ∈ ts,t.length<=sizeLine)/\∀H',Qe H H'->Q (.bl (!ts.isEmpty&&ts.all XX)) H'
theorem QbI{K:Xt}{H:Hp}(ts:List Qb):QdK K H (ts.map λt=>V.str (S t)) (ts.map λt=>PyData.str (S t)):=by
 induction ts with
 | nil=>exact .nil
 | cons a r ih=>exact .cons (.str _) ih
theorem QeA(ts:List Qb):PyData.eqv (.list (ts.map λt=>PyData.str (S t))) (.list [])=ts.isEmpty:=by
 cases ts<;>rfl
theorem QlP(t:Qb):PyData.strOk (S t)=true:=by
 unfold PyData.strOk;have h:=Qlc t;rw[Array.all_eq_true] at h ⊢;intro i hi;have:=of_decide_eq_true (h i hi);exact decide_eq_true (by omega)
theorem Yf(ts:List Qb):SeqAt.shaped (.list (ts.map λt=>PyData.str (S t)))=true:=by
 have h1:PyData.canLayAll0 (ts.map λt=>PyData.str (S t))=true:=by
  induction ts with
  | nil=>rfl
  | cons a r ih=>simp[PyData.canLayAll0,PyData.canLay0,ih,QlP]
 have h2:PyData.depthAll (ts.map λt=>PyData.str (S t))<=1:=by
  clear h1
  induction ts with
  | nil=>simp[PyData.depthAll]
  | cons a r ih=>
   rw[Xj];show max 0 (PyData.depthAll _)<=1;omega
 unfold SeqAt.shaped;rw[Xd];refine⟨by simpa [PyData.canLay0] using h1,decide_eq_true ?_⟩;simp only[PyData.depth];omega
theorem WY:Qm ["words","word"] ["words"] (Qg (top 44)):=Qsx
theorem WS(T:Pg P w K mg C):Ok P w K mg base 3 "are_idents" ["words"] (Qoq K):=by
 refine T.jr.ok WY (λvs H Q E h=>?_) (λf cdv A outer s H vs Q E hr h=>?_)
 ·obtain⟨a,ts,rfl,_⟩:=h;rfl
 ·obtain⟨a,ts,rfl,hs,hl,hz,k⟩:=h;intro X;refine⟨_,(Qi (Ql (JL (QR (Qh3 hr.units) (pv 0) (Q0 Qc) (Qz _)) (Zf (Qs (QaB rfl) rfl T.qj boot_all (Qa (JR rfl WY.nd (Q4 (pv 0)) (own:=[("word",1)]) (QK (N:=["words","word"]) (sc:=Qg (top 44)) (by decide +kernel)) (λ_ _ _ _ _=>(QH (i:=1) WY.nd rfl (by first|exact .inl rfl|exact .inr rfl))) (λ_ _ _ _ _=>Jo) (λ_ _ _ _ _=>(Qk (QdW T) (Qp hr) rfl (Qa (pv 1) Qc)))) Qc)))))),?_⟩;refine⟨_,rfl,XC _,λp hp=>?_⟩;have hs':=Qe.seq (Qe.new (o:=.lst []) hp) hs;refine⟨_,_,.lst hs' (QbI ts),.lst (SqL.of Qh) .nil,Yf ts,rfl,_,rfl,?_⟩;rw[QeA];cases e:ts.isEmpty with
  | true=>
   refine Qv ?_;have:=k _ (Qe.new (o:=.lst []) hp);rw[e] at this;exact this
  | false=>
   refine Qr ?_;refine tlc ?_;refine⟨_,rfl,a,rfl,⟨_,hs'⟩,?_⟩;refine lcM (α:=Qb) (vf:=λc=>V.str (S c)) [] (Jw (QW hs')) hl (λc=>.bl (XX c)) (λc H2 hc s2 Qy Qn h1=>?_) λD H' hD s1 hd=>?_
   ·refine⟨rfl,Qr ?_⟩;exact⟨_,rfl,c,rfl,hz c hc,λH' s'=>h1 H' s'⟩
   ·refine⟨D,ts.map XX,rfl,SqL.of (by rw[hd,Qbd]),?_⟩;have:=k H' ((Qe.new hp).trans s1);rw[e] at this;rw[Zc];exact this
def Qa8(ts:List Qb):Bool:=(!ts.isEmpty&&ts.all λt=>XX (Qo t).2)&&(decide (ts.length<=3)&&ts.all λt=>[Xa "show",Xa "hide",Xa "flip"].contains (Qo t).1)
def Qrd(K:Xt):Sp:=λvs H Q _=>QA λ(a:Addr) (ts:List Qb)=>vs=[.ref a]/\SqL K H a (ts.map λt=>V.str (S t))/\ts.length<=sizeLine/\(∀t ∈ ts,t.length<=sizeLine)/\∀H',Qe H H'->Q (.bl (Qa8 ts)) H'
def J0(H:Hp)(ys:List V)(ts:List Qb):Prop:=Paired (λy t=>∃p,y=V.ref p/\H p=some (.tup [.str (S (Qo t).1),.str (S (Qo t).2)])) ys ts
theorem J0.get{H:Hp}{ys:List V}{ts:List Qb}(h:J0 H ys ts):∀{i:Nat} {y:V},ys[i]?=some y->QA λt p=>ts[i]?=some t/\y=V.ref p/\H p=some (.tup [.str (S (Qo t).1),.str (S (Qo t).2)]):=by
 induction h with
 | nil=>intro i y e;simp at e
 | @cons y0 t0 ys ts a r ih=>
  intro i y e;cases i with
  | zero=>
   obtain⟨p,e1,e2⟩:=a;have:y0=y:=Xc e;subst this;exact⟨t0,p,rfl,e1,e2⟩
  | succ i=>exact ih (i:=i) (y:=y) (by simpa using e)
theorem J0.mono{H H':Hp}{ys:List V}{ts:List Qb}(h:J0 H ys ts)(s:Yv H H'):J0 H' ys ts:=by
 induction h with
 | nil=>exact .nil
 | cons a r ih=>
  obtain⟨p,e1,e2⟩:=a;exact .cons ⟨p,e1,s _ _ e2 (λ_ q=>nomatch q)⟩ ih
theorem J0.len{H:Hp}{ys:List V}{ts:List Qb}(h:J0 H ys ts):ys.length=ts.length:=by
 induction h with
 | nil=>rfl
 | cons a r ih=>rw[Xw,Xw,ih]
theorem QoS{H:Hp}{ts:List Qb}:∀{l:List Nat} {ys:List V},Paired (λi y=>QA λt p=>ts[i]?=some t/\y=V.ref p/\H p=some (.tup [.str (S (Qo t).1),.str (S (Qo t).2)])) l ys->J0 H ys (l.map λi=>ts.getD i []):=by
 intro l ys h
 induction h with
 | nil=>exact .nil
 | cons a r ih=>
  obtain⟨t,p,e1,e2,e3⟩:=a;rw[Xj,Xf,e1];exact .cons ⟨p,e2,e3⟩ ih
theorem Qlx{J:It}{H1:Hp}{ts:List Qb}{g:TG}{tt:TT}{te:TE}{vs:List Nat}{σ:L2.St}{Q:VK}(W:QbV J H1 ts.length (λi v _=>∃x,ts[i]?=some x/\v=V.str (S x)))(hn:ts.length<=sizeLine)
  (turn:∀t H2,t ∈ ts->∀(Qy:VK) (Qn:Hp->Prop),(∀H5 p,Qe H2 H5->H5 p=some (.tup [.str (S (Qo t).1),.str (S (Qo t).2)])->Qy (.ref p) H5)->
    g (V.str (S t)) (Z8 σ vs) H2 fun σ2 H3=>Z8 σ2 vs=Z8 σ vs/\tt σ2 H3 λb H4=>if b=true then te σ2 H4 Qy else Qn H4)
  (fin:∀D ys H',H1 D=none->Qe H1 H'->H' D=some (.lst ys)->J0 H' ys ts->Q (.ref D) H'):Lc g tt te vs σ J H1 Q:=by
 refine lcW W hn (λ_=>true) (λi y H=>QA λt p=>ts[i]?=some t/\y=V.ref p/\H p=some (.tup [.str (S (Qo t).1),.str (S (Qo t).2)])) ?_ (λi x H2 hi s2 rx Qy Qn h1 h2=>?_) λD ys H' hD s1 hd hp=>?_
 ·rintro i y H H' st ⟨t,p,e1,e2,e3⟩;exact⟨t,p,e1,e2,st _ _ e3 (λ_ q=>nomatch q)⟩
 ·obtain⟨t,et,rfl⟩:=rx;exact turn t H2 (Xo et) Qy Qn λH5 p s5 e5=>h1 rfl _ _ s5 ⟨t,p,et,rfl,e5⟩
 ·rw[X2.mpr (λ_ _=>rfl)] at hp;have:=QoS hp;rw[JS] at this;exact fin D ys H' hD s1 hd this
theorem Zv:Qm ["words","acts","word","act"] ["words"] (Qg (top 45)):=Qsx
theorem Qji(T:Pg P w K mg C):Ok P w K mg base 4 "are_acts" ["words"] (Qrd K):=by
 refine T.js.ok Zv (λvs H Q E h=>?_) (λf cdv A outer s H vs Q E hr h=>?_)
 ·obtain⟨a,ts,rfl,_⟩:=h;rfl
 ·obtain⟨a,ts,rfl,hs,hl,hz,k⟩:=h;intro X;refine⟨_,(Qd (QcR (i:=1) rfl Zv.nd rfl rfl (by rfl) (Q4 (pv 0)) (own:=[("word",2)]) (QK (N:=["words","acts","word","act"]) (sc:=Qg (top 45)) (by decide +kernel)) (λ_ _ _ _ _=>(QH (i:=2) Zv.nd rfl (by first|exact .inl rfl|exact .inr rfl))) (λ_ _ _ _ _=>Jo) (λ_ _ _ _ _=>(Qk (QdY T) (Qp hr) rfl (Qa (pv 2) Qc))))
   (Qi (Ql (JL (Qk (WS T) (Qp hr) rfl (Qa (JR rfl Zv.nd (Q4 (pv 1)) (own:=[("act",3)]) (QK (N:=["words","acts","word","act"]) (sc:=Qg (top 45)) (by decide +kernel)) (λ_ _ _ _ _=>(QH (i:=3) Zv.nd rfl (by first|exact .inl rfl|exact .inr rfl))) (λ_ _ _ _ _=>Jo) (λ_ _ _ _ _=>(QV (QhR K) (pv 3) Qt (λ_ _=>rfl)))) Qc)) (JL (QR WI (Qs Qw rfl T.qa Xv (Qa (pv 1) Qc)) (QL rfl T.zo) (Qz _)) (Zf (Qs (QaB rfl) rfl T.qj boot_all (Qa (JR rfl Zv.nd (Q4 (pv 1)) (own:=[("act",3)]) (QK (N:=["words","acts","word","act"]) (sc:=Qg (top 45)) (by decide +kernel)) (λ_ _ _ _ _=>(QH (i:=3) Zv.nd rfl (by first|exact .inl rfl|exact .inr rfl))) (λ_ _ _ _ _=>Jo) (λ_ _ _ _ _=>(QR (QaH K) (QV (QhR K) (pv 3) Qt (λ_ _=>rfl)) (QL rfl T.zt) rfl))) Qc)))))))),?_⟩
  refine tlc ?_;refine⟨_,rfl,a,rfl,⟨_,hs⟩,?_⟩;refine Qlx (Jw (QW hs)) hl (λt H2 ht Qy Qn h1=>?_) λD ys H1 hD s1 hd ha=>?_
  ·exact⟨rfl,Qr ⟨_,rfl,t,rfl,hz t ht,λH' p s' e'=>h1 H' p s' e'⟩⟩
  ·have hlen:=ha.len;have W1:=QW (K:=K) (SqL.of (K:=K) hd);refine gN ?_;dsimp only;refine tlc ?_;refine⟨_,rfl,D,rfl,⟨_,SqL.of hd⟩,?_⟩;refine lcF W1 (by omega) (λ_=>true) (λi=>.str (S (Qo (ts.getD i [])).2)) (λi x H2 hi s2 rx Qy Qn h1 h2=>?_) λD2 H2 hD2 s2 hd2=>?_
   ·obtain⟨t,p,et,rfl,ep⟩:=ha.get rx;refine⟨rfl,Qr ⟨_,rfl,p,_,_,_,rfl,rfl,SqT.of (s2 _ _ ep),JN (j:=1) rfl rfl,?_⟩⟩;have:=h1 rfl H2 (Qe.refl _);rw[Xf,et] at this;exact this
   ·rw[X2.mpr (λ_ _=>rfl),hlen] at hd2;have e2:(Xs ts.length).map (λi=>V.str (S (Qo (ts.getD i [])).2))=(ts.map λt=>(Qo t).2).map λt=>V.str (S t):=by
     rw[Xr]
     conv=>rhs;rw[<-JS ts [],Xr]
     rfl
    rw[e2] at hd2;have s12:Qe H H2:=s1.trans s2;refine⟨D2,_,rfl,SqL.of hd2,by rw[Xb];exact hl,λt ht=>?_,λH3 s3=>⟨_,rfl,?_⟩⟩
    ·obtain⟨t0,h0,rfl⟩:=Xk.mp ht;exact Uf (Qp6 58 t0).2 (hz t0 h0)
    ·have e3:(!(ts.map λt=>(Qo t).2).isEmpty&&(ts.map λt=>(Qo t).2).all XX)=(!ts.isEmpty&&ts.all λt=>XX (Qo t).2):=by
      rw[Ut];cases ts<;>rfl
     rw[e3];unfold Qa8 at k;cases e4:(!ts.isEmpty&&ts.all λt=>XX (Qo t).2) with
     | false=>
      refine Qv ?_;have:=k H3 (s12.trans s3);rw[e4] at this;exact this
     | true=>
      rw[e4] at k;refine Qr ⟨_,rfl,D,_,rfl,.inl (SqL.of (s3 _ _ (s2 _ _ hd))),_,_,rfl,rfl,_,rfl,?_⟩;rw[hlen]
      by_cases h3:ts.length<=3
      ·rw[decide_eq_true h3] at k;rw[decide_eq_true (by omega)];refine Qr ?_;refine tlc ?_;have hd3:=s3 _ _ (s2 _ _ hd);refine⟨_,rfl,D,rfl,⟨_,SqL.of hd3⟩,?_⟩;refine lcF (QW (SqL.of hd3)) (by omega) (λ_=>true) (λi=>.bl ([Xa "show",Xa "hide",Xa "flip"].contains (Qo (ts.getD i [])).1)) (λi x H4 hi s4 rx Qy Qn h1 h2=>?_) λD5 H5 hD5 s5 hd5=>?_
       ·obtain⟨t,p,et,rfl,ep⟩:=ha.get rx;refine⟨rfl,Qr ⟨_,rfl,p,_,_,_,rfl,rfl,SqT.of (s4 _ _ (s3 _ _ (s2 _ _ ep))),JN (j:=0) rfl rfl,C.DEEDS,_,rfl,.inr T.zu.sq,rfl,by decide +kernel,?_⟩⟩;have:=h1 rfl H4 (Qe.refl _);rw[Xf,et] at this;have e2:inV (.str (S (Qo t).1)) [.str (S (Xa "show")),.str (S (Xa "hide")),.str (S (Xa "flip"))]=[Xa "show",Xa "hide",Xa "flip"].contains (Qo t).1:=Qa1 (Qo t).1 [Xa "show",Xa "hide",Xa "flip"];rw[e2];exact this
       ·rw[X2.mpr (λ_ _=>rfl),hlen] at hd5;refine⟨D5,ts.map λt=>[Xa "show",Xa "hide",Xa "flip"].contains (Qo t).1,rfl,SqL.of ?_,?_⟩
        ·rw[hd5,Xr]
         conv=>rhs;rw[<-JS ts [],Xr]
         rfl
        ·rw[Zc];exact k H5 ((s12.trans s3).trans s5)
      ·rw[decide_eq_false h3] at k;rw[decide_eq_false (by omega)];exact Qv (k H3 (s12.trans s3))
def QS:List Qb:=XZ.map Xco
def Z4(ts:List Qb):Bool:=match ts with
 | [k,i]=>QS.contains k&&XX i
 | [k,i,t]=>QS.contains k&&(XX i&&QbW t)
 | _=>false
theorem QnL:∀{ts:List Qb},2<=ts.length->ts.length<=3->(QA λk0 i0=>ts=[k0,i0])\/JP λk0 i0 t0=>ts=[k0,i0,t0]
 | [],h,_=>by simp at h
 | [_],h,_=>by simp at h
 | [k,i],_,_=>.inl ⟨k,i,rfl⟩
 | [k,i,t],_,_=>.inr ⟨k,i,t,rfl⟩
 | _::_::_::_::_,_,h=>by simp at h
theorem Qme:∀{ts:List Qb},¬ts.length<=3->Z4 ts=false
 | [],h=>by simp at h
 | [_],h=>by simp at h
 | [_,_],h=>by simp at h
 | [_,_,_],h=>by simp at h
 | _::_::_::_::_,_=>rfl
theorem Qkd:∀{ts:List Qb},¬2<=ts.length->Z4 ts=false
 | [],_=>rfl
 | [_],_=>rfl
 | _::_::r,h=>by simp at h
theorem Qct(T:Pg P w K mg C){H:Hp}:SqT K H C.KINDS (QS.map λt=>V.str (S t)):=T.zg.sq
abbrev QdL(K:Xt)(H:Hp)(a:Addr)(ts:List Qb):Prop:=SqL K H a (ts.map λt=>V.str (S t))
def Qrf(K:Xt):Sp:=λvs H Q _=>QA λ(a:Addr) (ts:List Qb)=>vs=[.ref a]/\QdL K H a ts/\(∀t ∈ ts,t.length+2<=sizeLine)/\∀H',Qe H H'->Q (.bl (Z4 ts)) H'
theorem Qbb{ts:List Qb}{i:Nat}{t:Qb}(h:ts[i]?=some t):atI (ts.map λt=>V.str (S t)) (i:Int)=some (.str (S t)):=JN (j:=i) rfl (by rw[Xg,h];rfl)
theorem QkJ:Qm ["words"] ["words"] (Qg (top 41)):=Qsx
theorem Qkq(T:Pg P w K mg C):Ok P w K mg base 4 "is_head" ["words"] (Qrf K):=by
 refine T.jo.ok QkJ (λvs H Q E h=>?_) (λf cdv A outer s H vs Q E hr h=>?_)
 ·obtain⟨a,ts,rfl,_⟩:=h;rfl
 ·obtain⟨a,ts,rfl,hs,hz,k⟩:=h;intro X;refine⟨_,(Qd (Q1 (Zg (QcT WI WI Qt (Qs Qw rfl T.qa Xv (Qa (pv 0) Qc)) Qt)) (Qi (Ql Qd2)) QC)
   (Qi (Ql (JL (QR Qai (QV QJ (pv 0) Qt (λ_ _=>rfl)) (QL rfl T.qG) rfl) (JL (Qk (QdW T) (Qp hr) rfl (Qa (QV QJ (pv 0) Qt (λ_ _=>rfl)) Qc)) (Zf (Qn2 (QR Jt (Qs Qw rfl T.qa Xv (Qa (pv 0) Qc)) Qt (Qz _)) (Zf (Qk (Y4 T) (Qp hr) rfl (Qa (QV QJ (pv 0) Qt (λ_ _=>rfl)) Qc)))))))))),?_⟩
  refine⟨_,rfl,a,_,rfl,.inl hs,_,_,rfl,rfl,_,rfl,?_⟩;simp only[Xb]
  by_cases h2:2<=ts.length
  ·rw[decide_eq_true (show (2:Int)<=ts.length by omega)];refine Qr ⟨_,_,rfl,rfl,_,rfl,?_⟩
   by_cases h3:ts.length<=3
   ·rw[decide_eq_true (show (ts.length:Int)<=3 by omega)];refine Qv ?_;obtain⟨k0,i0,rfl⟩ | ⟨k0,i0,t0,rfl⟩:(QA λk0 i0=>ts=[k0,i0])\/JP λk0 i0 t0=>ts=[k0,i0,t0]:=QnL h2 h3
    ·refine⟨_,rfl,a,_,_,_,rfl,rfl,hs,Qbb (i:=0) rfl,C.KINDS,_,rfl,.inr (Qct T),rfl,Ym _,_,rfl,?_⟩;rw[show (if false=true then !inV (V.str (S k0)) (QS.map λt=>V.str (S t)) else inV (V.str (S k0)) (QS.map λt=>V.str (S t)))=QS.contains k0 from Qa1 k0 QS];have k':∀H',Qe H H'->Q (.bl (QS.contains k0&&XX i0)) H':=k;cases e:QS.contains k0 with
     | false=>
      rw[e] at k';exact Qv (k' H (Qe.refl H))
     | true=>
      rw[e] at k';refine Qr ⟨_,rfl,a,_,_,_,rfl,rfl,hs,Qbb (i:=1) rfl,i0,rfl,Uf (XaN _ 2) (hz i0 (by simp)),λH1 s1=>⟨_,rfl,?_⟩⟩;cases e1:XX i0 with
      | false=>
       rw[e1] at k';exact Qv (k' H1 s1)
      | true=>
       rw[e1] at k';exact Qr ⟨_,rfl,a,_,rfl,.inl (Qe.seq s1 hs),rfl,_,rfl,Qr (k' H1 s1)⟩
    ·refine⟨_,rfl,a,_,_,_,rfl,rfl,hs,Qbb (i:=0) rfl,C.KINDS,_,rfl,.inr (Qct T),rfl,Ym _,_,rfl,?_⟩;rw[show (if false=true then !inV (V.str (S k0)) (QS.map λt=>V.str (S t)) else inV (V.str (S k0)) (QS.map λt=>V.str (S t)))=QS.contains k0 from Qa1 k0 QS];have k':∀H',Qe H H'->Q (.bl (QS.contains k0&&(XX i0&&QbW t0))) H':=k;cases e:QS.contains k0 with
     | false=>
      rw[e] at k';exact Qv (k' H (Qe.refl H))
     | true=>
      rw[e] at k';refine Qr ⟨_,rfl,a,_,_,_,rfl,rfl,hs,Qbb (i:=1) rfl,i0,rfl,Uf (XaN _ 2) (hz i0 (by simp)),λH1 s1=>⟨_,rfl,?_⟩⟩;cases e1:XX i0 with
      | false=>
       rw[e1] at k';exact Qv (k' H1 s1)
      | true=>
       rw[e1] at k';exact Qr ⟨_,rfl,a,_,rfl,.inl (Qe.seq s1 hs),rfl,_,rfl,Qv ⟨_,rfl,a,_,_,_,rfl,rfl,Qe.seq s1 hs,Qbb (i:=2) rfl,t0,rfl,hz t0 (by simp),λH2 s2=>k' H2 (s1.trans s2)⟩⟩
   ·rw[decide_eq_false (show ¬(ts.length:Int)<=3 by omega)];refine Qr ?_;have:=k H (Qe.refl H);rw[Qme h3] at this;exact this
  ·rw[decide_eq_false (show ¬(2:Int)<=ts.length by omega)];refine Qv ⟨_,rfl,Qr ?_⟩;have:=k H (Qe.refl H);rw[Qkd h2] at this;exact this
def Yh:List Qb:=["1","2","3","4","5","6","7","8","9"].map Xa
def YY:List Qb:=["link","button","check"].map Xa
def Yp(i:Nat)(ts:List Qb)(kind:Qb):Bool:=match i with
 | 0=>decide (ts.length=1)&&QbW (ts.headD [])
 | 1=>(!ts.isEmpty&&ts.all XX)&&(decide (ts.length<=3)&&Xu ts)
 | 2=>(!ts.isEmpty&&ts.all XX)&&decide (ts.length=1)
 | 6=>decide (ts.length=1)&&Yh.contains (ts.headD [])
 | 7=>YY.contains kind&&Qa8 ts
 | 5=>decide (kind=Xa "check")&&ts.isEmpty
 | _=>ts.isEmpty
theorem Yl:∀{l:List Qb},Xu l=true↔l.Nodup
 | []=>by simp[Xu]
 | a::r=>by
  show (!r.contains a&&Xu r)=true↔_;rw[Xd,Ue,Yl (l:=r)];simp
theorem Qpn{l:List Qb}:(l.map S).Nodup↔l.Nodup:=by
 induction l with
 | nil=>simp
 | cons a r ih=>
  rw[Xj,Ue,Ue,ih];have:S a ∈ r.map S↔a ∈ r:=by
   constructor
   ·intro h;obtain⟨b,hb,e⟩:=Xk.mp h;rw[YT e] at hb;exact hb
   ·exact λh=>Xk.mpr ⟨a,h,rfl⟩
  rw[this]
theorem QrR(l:List Qb):decide (((dd (l.map S)).length:Int)=(l.length:Int))=Xu l:=by
 have h:=Qnn (l.map S);rw[Xb,Qpn,<-Yl] at h
 by_cases e:Xu l=true
 ·rw[e];exact decide_eq_true (by have:=h.mpr e;omega)
 ·have e':Xu l=false:=by simpa using e
  rw[e'];refine decide_eq_false λq=>e (h.mp (by omega))
theorem QiM(n m:Nat):decide (V.int (n:Int)=V.int (m:Int))=decide (n=m):=by
 by_cases h:n=m
 ·subst h;simp
 ·rw[decide_eq_false h];refine decide_eq_false λq=>h ?_
  have:=V.int.inj q;omega
theorem QmL{i:Nat}{key:Qb}(h:UH[i]?=some key):(i=0/\key=Xa "label")\/(i=1/\key=Xa "by")\/(i=2/\key=Xa "hint")\/(i=3/\key=Xa "hidden")\/(i=4/\key=Xa "off")\/(i=5/\key=Xa "on")\/(i=6/\key=Xa "order")\/(i=7/\key=Xa "press"):=by
 match i,h with
 | 0,h=>exact .inl ⟨rfl,(Xc h).symm⟩
 | 1,h=>exact .inr (.inl ⟨rfl,(Xc h).symm⟩)
 | 2,h=>exact .inr (.inr (.inl ⟨rfl,(Xc h).symm⟩))
 | 3,h=>exact .inr (.inr (.inr (.inl ⟨rfl,(Xc h).symm⟩)))
 | 4,h=>exact .inr (.inr (.inr (.inr (.inl ⟨rfl,(Xc h).symm⟩))))
 | 5,h=>exact .inr (.inr (.inr (.inr (.inr (.inl ⟨rfl,(Xc h).symm⟩)))))
 | 6,h=>exact .inr (.inr (.inr (.inr (.inr (.inr (.inl ⟨rfl,(Xc h).symm⟩))))))
 | 7,h=>exact .inr (.inr (.inr (.inr (.inr (.inr (.inr ⟨rfl,(Xc h).symm⟩))))))
 | n+8,h=>simp[UH] at h
def Qrl(K:Xt):Sp:=λvs H Q _=>QbT λ(i:Nat) (key:Qb) (a:Addr) (ts:List Qb) (kind:Qb)=>vs=[.str (S key),.ref a,.str (S kind)]/\UH[i]?=some key/\QdL K H a ts/\ts.length<=sizeLine/\(∀t ∈ ts,t.length+2<=sizeLine)/\∀H',Qe H H'->Q (.bl (Yp i ts kind)) H'
theorem QkK:Qm ["key","words","kind"] ["key","words","kind"] (Qg (top 43)):=Qsx
theorem Qks(T:Pg P w K mg C):Ok P w K mg base 5 "is_part" ["key","words","kind"] (Qrl K):=by
 refine T.jq.ok QkK (λvs H Q E h=>?_) (λf cdv A outer s H vs Q E hr h=>?_)
 ·obtain⟨i,key,a,ts,kind,rfl,_⟩:=h;rfl
 ·obtain⟨i,key,a,ts,kind,rfl,hk,hs,hl,hz,k⟩:=h;have hz1:∀t ∈ ts,t.length<=sizeLine:=λt ht=>Uf (XaN _ 2) (hz t ht)
  have l0:=lit (s:="label") (a:=Xa "label") (by decide +kernel);have l1:=lit (s:="by") (a:=Xa "by") (by decide +kernel);have l2:=lit (s:="hint") (a:=Xa "hint") (by decide +kernel);have l6:=lit (s:="order") (a:=Xa "order") (by decide +kernel);have l7:=lit (s:="press") (a:=Xa "press") (by decide +kernel);have l5:=lit (s:="on") (a:=Xa "on") (by decide +kernel);have lc:=lit (s:="check") (a:=Xa "check") (by decide +kernel);have empty_end:∀(H:Hp) (Q:VK),QdL K H a ts->(∀H',Qe H H'->Q (.bl ts.isEmpty) H')->tOp (Qq8 K) (Wx 1) (QrB Qgv) [some (.str (S key)),some (.ref a),some (.str (S kind))] H Q:=λH Q hs k=>by
   refine⟨_,rfl,XC _,λp hp=>?_⟩;have hs':=Qe.seq (Qe.new (o:=.lst []) hp) hs;refine⟨_,_,.lst hs' (QbI ts),.lst (SqL.of Qh) .nil,Yf ts,rfl,?_⟩;rw[QeA];exact k _ (Qe.new hp)
  have dI:∀m:Nat,decide (V.int ((ts.map λt=>V.str (S t)).length:Int)=V.int (m:Int))=decide (ts.length=m):=λm=>by rw[Xb,QiM]
  intro X;refine⟨_,(Qd (Q1 (QE Jt (pv 0) QB (Qz _)) (Qi (Ql (JL (QR Jt (Qs Qw rfl T.qa Xv (Qa (pv 1) Qc)) Qt (Qz _)) (Zf (Qk (Y4 T) (Qp hr) rfl (Qa (QV QJ (pv 1) Qt (λ_ _=>rfl)) Qc)))))) QC)
   (Qd (Q1 (QE Jt (pv 0) QB (Qz _)) (Qi (Ql (JL (Qk (WS T) (Qp hr) rfl (Qa (pv 1) Qc)) (JL (QR WI (Qs Qw rfl T.qa Xv (Qa (pv 1) Qc)) (QL rfl T.zn) (Qz _)) (Zf (QR Jt (Qs QgM rfl T.qa Xv (Qa (Qaj (QgN rfl) rfl T.q6 PyProof.Rows.boot_set (Qa (pv 1) Qc)) Qc)) (Qs Qw rfl T.qa Xv (Qa (pv 1) Qc)) (Qz _))))))) QC)
   (Qd (Q1 (QE Jt (pv 0) QB (Qz _)) (Qi (Ql (JL (Qk (WS T) (Qp hr) rfl (Qa (pv 1) Qc)) (Zf (QR Jt (Qs Qw rfl T.qa Xv (Qa (pv 1) Qc)) Qt (Qz _)))))) QC)
   (Qd (Q1 (QE Jt (pv 0) QB (Qz _)) (Qi (Ql (JL (QR Jt (Qs Qw rfl T.qa Xv (Qa (pv 1) Qc)) Qt (Qz _)) (Zf (QR Qai (QV QJ (pv 1) Qt (λ_ _=>rfl)) (QL rfl T.zp) rfl))))) QC)
   (Qd (Q1 (QE Jt (pv 0) QB (Qz _)) (Qi (Ql (JL (QR Qai (pv 2) (QL rfl T.zr) rfl) (Zf (Qk (Qji T) (Qp hr) rfl (Qa (pv 1) Qc)))))) QC)
   (Qd (Q1 (QE Jt (pv 0) QB (Qz _)) (Qi (Ql (JL (QR Jt (pv 2) QB (Qz _)) (Zf (QR (Qh2 hr.units) (pv 1) (Q0 Qc) (Qz _)))))) QC)
   (Qi (Ql (QR (Qh2 hr.units) (pv 1) (Q0 Qc) (Qz _)))))))))),?_⟩
  refine⟨_,rfl,rfl,_,rfl,?_⟩;rw[l0];rcases QmL hk with ⟨rfl,rfl⟩ | ⟨rfl,rfl⟩ | ⟨rfl,rfl⟩ | ⟨rfl,rfl⟩ | ⟨rfl,rfl⟩ | ⟨rfl,rfl⟩ | ⟨rfl,rfl⟩ | ⟨rfl,rfl⟩
  ·
   rw[decide_eq_true rfl];refine Qr ⟨_,rfl,a,_,rfl,.inl hs,rfl,_,rfl,?_⟩;rw[show V.int 1=V.int ((1:Nat):Int) from rfl,dI];have k':∀H',Qe H H'->Q (.bl (decide (ts.length=1)&&QbW (ts.headD []))) H':=k
   by_cases h1:ts.length=1
   ·obtain⟨t,rfl⟩:=Xaf.mp h1;refine Qr ⟨_,rfl,a,_,_,_,rfl,rfl,hs,Qbb (i:=0) rfl,t,rfl,hz t (by simp),λH1 s1=>k' H1 s1⟩
   ·rw[decide_eq_false h1] at k' ⊢;exact Qv (k' H (Qe.refl H))
  ·
   rw[show decide (Xa "by"=Xa "label")=false by decide +kernel];refine Qv ⟨_,rfl,rfl,_,rfl,?_⟩;rw[l1];rw[decide_eq_true rfl];refine Qr ⟨_,rfl,a,ts,rfl,hs,hl,hz1,λH1 s1=>⟨_,rfl,?_⟩⟩;have k':∀H',Qe H H'->Q (.bl ((!ts.isEmpty&&ts.all XX)&&(decide (ts.length<=3)&&Xu ts))) H':=k;cases e:(!ts.isEmpty&&ts.all XX) with
   | false=>
    rw[e] at k';exact Qv (k' H1 s1)
   | true=>
    rw[e] at k';refine Qr ⟨_,rfl,a,_,rfl,.inl (Qe.seq s1 hs),_,_,rfl,rfl,_,rfl,?_⟩;simp only[Xb]
    by_cases h3:ts.length<=3
    ·rw[decide_eq_true h3] at k';rw[decide_eq_true (show (ts.length:Int)<=3 by omega)];refine Qr ⟨_,rfl,a,ts.map S,rfl,by rw[<-QbS];exact Qe.seq s1 hs,by rw[Xb];omega,λp hp=>⟨p,_,rfl,Qh,_,rfl,a,_,rfl,.inl (Qe.seq (s1.trans (Qe.new hp)) hs),rfl,?_⟩⟩;rw[Xb,show decide (V.int ((dd (ts.map S)).length:Int)=V.int (ts.length:Int))=Xu ts by rw[<-QrR,QiM];by_cases q:(dd (ts.map S)).length=ts.length;{ rw[decide_eq_true q];exact (decide_eq_true (by omega)).symm };{ rw[decide_eq_false q];exact (decide_eq_false (by omega)).symm }];exact k' _ (s1.trans (Qe.new hp))
    ·rw[decide_eq_false h3] at k';rw[decide_eq_false (show ¬(ts.length:Int)<=3 by omega)];exact Qv (k' H1 s1)
  ·
   rw[show decide (Xa "hint"=Xa "label")=false by decide +kernel];refine Qv ⟨_,rfl,rfl,_,rfl,?_⟩;rw[l1];rw[show decide (Xa "hint"=Xa "by")=false by decide +kernel];refine Qv ⟨_,rfl,rfl,_,rfl,?_⟩;rw[l2];rw[decide_eq_true rfl];refine Qr ⟨_,rfl,a,ts,rfl,hs,hl,hz1,λH1 s1=>⟨_,rfl,?_⟩⟩;have k':∀H',Qe H H'->Q (.bl ((!ts.isEmpty&&ts.all XX)&&decide (ts.length=1))) H':=k;cases e:(!ts.isEmpty&&ts.all XX) with
   | false=>
    rw[e] at k';exact Qv (k' H1 s1)
   | true=>
    rw[e] at k';refine Qr ⟨_,rfl,a,_,rfl,.inl (Qe.seq s1 hs),rfl,?_⟩;rw[show V.int 1=V.int ((1:Nat):Int) from rfl,dI];exact k' H1 s1
  ·
   rw[show decide (Xa "hidden"=Xa "label")=false by decide +kernel];refine Qv ⟨_,rfl,rfl,_,rfl,?_⟩;rw[l1];rw[show decide (Xa "hidden"=Xa "by")=false by decide +kernel];refine Qv ⟨_,rfl,rfl,_,rfl,?_⟩;rw[l2];rw[show decide (Xa "hidden"=Xa "hint")=false by decide +kernel];refine Qv ⟨_,rfl,rfl,_,rfl,?_⟩;rw[l6];rw[show decide (Xa "hidden"=Xa "order")=false by decide +kernel];refine Qv ⟨_,rfl,rfl,_,rfl,?_⟩;rw[l7];rw[show decide (Xa "hidden"=Xa "press")=false by decide +kernel];refine Qv ⟨_,rfl,rfl,_,rfl,?_⟩;rw[l5];rw[show decide (Xa "hidden"=Xa "on")=false by decide +kernel];exact Qv (empty_end H Q hs k)
  ·
   rw[show decide (Xa "off"=Xa "label")=false by decide +kernel];refine Qv ⟨_,rfl,rfl,_,rfl,?_⟩;rw[l1];rw[show decide (Xa "off"=Xa "by")=false by decide +kernel];refine Qv ⟨_,rfl,rfl,_,rfl,?_⟩;rw[l2];rw[show decide (Xa "off"=Xa "hint")=false by decide +kernel];refine Qv ⟨_,rfl,rfl,_,rfl,?_⟩;rw[l6];rw[show decide (Xa "off"=Xa "order")=false by decide +kernel];refine Qv ⟨_,rfl,rfl,_,rfl,?_⟩;rw[l7];rw[show decide (Xa "off"=Xa "press")=false by decide +kernel];refine Qv ⟨_,rfl,rfl,_,rfl,?_⟩;rw[l5];rw[show decide (Xa "off"=Xa "on")=false by decide +kernel];exact Qv (empty_end H Q hs k)
  ·
   rw[show decide (Xa "on"=Xa "label")=false by decide +kernel];refine Qv ⟨_,rfl,rfl,_,rfl,?_⟩;rw[l1];rw[show decide (Xa "on"=Xa "by")=false by decide +kernel];refine Qv ⟨_,rfl,rfl,_,rfl,?_⟩;rw[l2];rw[show decide (Xa "on"=Xa "hint")=false by decide +kernel];refine Qv ⟨_,rfl,rfl,_,rfl,?_⟩;rw[l6];rw[show decide (Xa "on"=Xa "order")=false by decide +kernel];refine Qv ⟨_,rfl,rfl,_,rfl,?_⟩;rw[l7];rw[show decide (Xa "on"=Xa "press")=false by decide +kernel];refine Qv ⟨_,rfl,rfl,_,rfl,?_⟩;rw[l5];rw[decide_eq_true rfl];refine Qr ⟨_,rfl,rfl,_,rfl,?_⟩;have k':∀H',Qe H H'->Q (.bl (decide (kind=Xa "check")&&ts.isEmpty)) H':=k;rw[lc];cases e:decide (kind=Xa "check") with
   | false=>
    rw[e] at k';exact Qv (k' H (Qe.refl H))
   | true=>
    rw[e] at k';exact Qr (empty_end H Q hs k')
  ·
   rw[show decide (Xa "order"=Xa "label")=false by decide +kernel];refine Qv ⟨_,rfl,rfl,_,rfl,?_⟩;rw[l1];rw[show decide (Xa "order"=Xa "by")=false by decide +kernel];refine Qv ⟨_,rfl,rfl,_,rfl,?_⟩;rw[l2];rw[show decide (Xa "order"=Xa "hint")=false by decide +kernel];refine Qv ⟨_,rfl,rfl,_,rfl,?_⟩;rw[l6];rw[decide_eq_true rfl];refine Qr ⟨_,rfl,a,_,rfl,.inl hs,rfl,_,rfl,?_⟩;rw[show V.int 1=V.int ((1:Nat):Int) from rfl,dI];have k':∀H',Qe H H'->Q (.bl (decide (ts.length=1)&&Yh.contains (ts.headD []))) H':=k
   by_cases h1:ts.length=1
   ·obtain⟨t,rfl⟩:=Xaf.mp h1;refine Qr ⟨_,rfl,a,_,_,_,rfl,rfl,hs,Qbb (i:=0) rfl,C.ORDERS,Yh.map λt=>V.str (S t),rfl,.inr T.zq.sq,rfl,Ym _,?_⟩;rw[show (if false=true then !inV (V.str (S t)) (Yh.map λt=>V.str (S t)) else inV (V.str (S t)) (Yh.map λt=>V.str (S t)))=Yh.contains t from Qa1 t Yh];exact k' H (Qe.refl H)
   ·rw[decide_eq_false h1] at k' ⊢;exact Qv (k' H (Qe.refl H))
  ·
   rw[show decide (Xa "press"=Xa "label")=false by decide +kernel];refine Qv ⟨_,rfl,rfl,_,rfl,?_⟩;rw[l1];rw[show decide (Xa "press"=Xa "by")=false by decide +kernel];refine Qv ⟨_,rfl,rfl,_,rfl,?_⟩;rw[l2];rw[show decide (Xa "press"=Xa "hint")=false by decide +kernel];refine Qv ⟨_,rfl,rfl,_,rfl,?_⟩;rw[l6];rw[show decide (Xa "press"=Xa "order")=false by decide +kernel];refine Qv ⟨_,rfl,rfl,_,rfl,?_⟩;rw[l7];rw[decide_eq_true rfl];refine Qr ⟨_,rfl,C.KINDS_WITH_ACTS,YY.map λt=>V.str (S t),rfl,.inr T.zs.sq,rfl,Ym _,_,rfl,?_⟩;rw[show (if false=true then !inV (V.str (S kind)) (YY.map λt=>V.str (S t)) else inV (V.str (S kind)) (YY.map λt=>V.str (S t)))=YY.contains kind from Qa1 kind YY];have k':∀H',Qe H H'->Q (.bl (YY.contains kind&&Qa8 ts)) H':=k;cases e:YY.contains kind with
   | false=>
    rw[e] at k';exact Qv (k' H (Qe.refl H))
   | true=>
    rw[e] at k';exact Qr ⟨_,rfl,a,ts,rfl,hs,hl,hz1,k'⟩
theorem Qh5{a b r:Qb}{c:UInt8}(e:a=b++c::r):a.drop b.length=c::r/\a.drop (b.length+1)=r/\a.take b.length=b/\a[b.length]?=some c:=by
 subst e;refine⟨by simp,?_,by simp,by simp⟩;rw[<-Xak];simp
theorem Qhq{c:UInt8}{t:Qb}:(Mp.Je c t).2=none↔c ∉ t:=by
 constructor
 ·intro h;have e:=Mp.Yu c t;rw[h] at e;simp only[XG] at e;rw[e];exact QaW c t
 ·intro h;rw[Mp.Qga h]
theorem Qnu(t:Qb)(c:UInt8)(i:Nat)(hi:i<=t.length):Txt.find3 (S t) (S [c]) (i:Int)=match (Mp.Je c (t.drop i)).2 with
  | none=>-1
  | some _=>((i+(Mp.Je c (t.drop i)).1.length:Nat):Int):=by
 have hf:fromIndex (S t).length (i:Int)=i:=by
  unfold fromIndex;rw[if_neg (by omega)];omega
 have getS:∀v,v<t.length->∀d:UInt8,((S t).cps.getD v 0=d.toNat↔t[v]?=some d):=by
  intro v hv d;have:(S t).cps.getD v 0=(t.map XU).getD v 0:=by
   show (t.map XU).toArray.getD v 0=_;simp[Array.getD,Xf,hv]
  rw[this,Xf,Xg,Xe hv];simp[U1]
 have e:=Mp.Yu c (t.drop i);have hn:=QaW c (t.drop i);rcases PySem.StrLaws.find3_spec (S t) c.toNat (i:Int) with ⟨h1,h2⟩ | ⟨k,h1,h2,h3,h4,h5⟩
 ·rw[show S [c]=(⟨#[c.toNat]⟩:Str) from rfl,h1];have:(Mp.Je c (t.drop i)).2=none:=by
   rw[Qhq];intro hm;obtain⟨j,hj⟩:=XbG hm;rw[UY] at hj;have hlt:i+j<t.length:=by
    have:=(Xp.mp hj).1;exact this
   exact h2 (i+j) (by rw[hf];omega) (by rw[Ja];exact hlt) ((getS _ hlt c).mpr hj)
  rw[this]
 ·rw[show S [c]=(⟨#[c.toNat]⟩:Str) from rfl,h1];rw[hf] at h2 h5;rw[Ja] at h3;have hk:=(getS k h3 c).mp h4;cases q:(Mp.Je c (t.drop i)).2 with
  | none=>
   rw[Qhq] at q;exfalso;apply q;have:(t.drop i)[k-i]?=some c:=by
    rw[UY,show i+(k-i)=k by omega];exact hk
   exact Xo this
  | some r=>
   rw[q] at e;have e:t.drop i=(Mp.Je c (t.drop i)).1++c::r:=e;show (k:Int)=_;congr 1;have hpos:(t.drop i)[(Mp.Je c (t.drop i)).1.length]?=some c:=(Qh5 e).2.2.2;rw[UY] at hpos;have hlt:i+(Mp.Je c (t.drop i)).1.length<t.length:=(Xp.mp hpos).1;rcases Nat.lt_trichotomy k (i+(Mp.Je c (t.drop i)).1.length) with g | g | g
   ·exfalso;have h6:(Mp.Je c (t.drop i)).1[k-i]?=some c:=by
     have h7:(t.drop i)[k-i]?=some c:=by
      rw[UY,show i+(k-i)=k by omega];exact hk
     rw[e,Uh (by omega)] at h7;exact h7
    exact hn (Xo h6)
   ·exact g
   ·exfalso;exact h5 _ (by omega) g ((getS _ hlt c).mpr hpos)
theorem Qge(c:UInt8):∀t:Qb,Mp.Qaw c t=match (Mp.Je c t).2 with
  | none=>none
  | some r=>some ((Mp.Je c t).1++[c],r)
 | []=>rfl
 | b::t=>by
  unfold Mp.Qaw Mp.Je
  by_cases h:b=c
  ·rw[if_pos h,if_pos h,h];rfl
  ·rw[if_neg h,if_neg h,Qge c t];cases (Mp.Je c t).2<;>rfl
def QmX:Sp:=λvs H Q _=>QA λ(t:Qb) (i:Nat)=>vs=[.str (S t),.int i]/\t.length<=sizeLine/\i<=t.length/\Q (.int (i+(Mp.Q2 (t.drop i)).1.length:Nat)) H
theorem Qo0(t:Qb)(i:Nat)(hi:i<=t.length):Qj8 (S t) (some (i:Int)) (some ((i:Int)+1))=S ((t.drop i).take 1):=by
 rw[QeP,show (some ((i:Int)+1))=some (((i+1:Nat):Int)) from rfl,HT.YN,HT.YN,UG hi];congr 1
 by_cases h:i+1<=t.length
 ·rw[UG h,show i+1-i=1 by omega]
 ·have:i=t.length:=by omega
  subst this;simp
theorem ZH:Qm ["line","start","last","end"] ["line","start"] (Qg (top 39)):=Qsx
theorem Qdu(T:Pg P w K mg C):Ok P w K mg base 1 "find_word_end" ["line","start"] QmX:=by
 refine T.jm.ok ZH (λvs H Q E h=>?_) (λf cdv A outer s H vs Q E hr h=>?_)
 ·obtain⟨t,i,rfl,_⟩:=h;rfl
 ·obtain⟨t,i,rfl,hl,hi,k⟩:=h;have e34:Xa "\""=[34]:=by decide +kernel
  have e32:Str.ofString " "=S [32]:=by decide +kernel
  intro X;refine⟨_,(Qd (Qx (i:=2) ZH.nd rfl (by first|exact .inl rfl|exact .inr rfl) (pv 1))
   (Qd (Q1 (QE Jt (JV QdA (pv 0) (JE (pv 1)) (JE (J6 Qbq (pv 1) Qt))) (QL rfl T.qo) (Qz _)) (Qi (Qx (i:=2) ZH.nd rfl (by first|exact .inl rfl|exact .inr rfl) (J4 UV XbB XbC Qjc (pv 0) (Qa (QL rfl T.qo) (Qa (J6 Qbq (pv 1) Qt) Qc))))) QC)
   (Qd (Qx (i:=3) ZH.nd rfl (by first|exact .inl rfl|exact .inr rfl) (J5 (QE Qg7 (pv 2) Qt (Qz _)) (J4 UV XbB XbC Qjc (pv 0) (Qa QB (Qa (pv 2) Qc))) (Qhc QdF Qt)))
   (Qi (Ql (J5 (QE Qg7 (pv 3) Qt (Qz _)) (pv 3) (Qs JJ rfl T.qa Xv (Qa (pv 0) Qc)))))))),?_⟩
  refine⟨_,rfl,?_⟩;refine⟨_,rfl,_,rfl,_,rfl,_,rfl,_,_,rfl,rfl,_,rfl,_,rfl,by rw[Ja];exact hl,rfl,_,rfl,?_⟩;rw[Qo0 t i hi,e34];have fin:∀(j:Nat) (σ':L2.St),j<=t.length->(match (Mp.Je 32 (t.drop j)).2 with | none=>t.length | some _=>j+(Mp.Je 32 (t.drop j)).1.length)=i+(Mp.Q2 (t.drop i)).1.length->σ'=[some (V.str (S t)),some (V.int i),some (V.int j),none]->
    Qp3 (tIf (QjQ (tOp (rI0 λi j=>V.bl (decide (j<=i))) (Wx 2) (tC (V.int 0)))) (tBM K "str" (λx xs H Q=>JP λa b i=>x=.str a/\xs=[.str b,.int i]/\Q (.int (Txt.find3 a b i)) H) (Wx 0) (Qb4 (tC (V.str (Str.ofString " "))) (Qb4 (Wx 2) Qgv))) (tUn (rU λi=>V.int (-i)) (tC (V.int 1)))) (Qe2 3) { nx:=fun σ H=>Qp5 (tIf (QjQ (tOp (rI0 λi j=>V.bl (decide (j<=i))) (Wx 3) (tC (V.int 0)))) (Wx 3) (tCB (λxs H Q=>∃z,xs=[V.str z]/\z.length<=sizeLine/\Q (V.int z.length) H) (Qb4 (Wx 0) Qgv))) { nx:=λx H'=>Q V.non H',rt:=Q } σ H,rt:=Q } σ' H:=by
   intro j σ' hj ej es;subst es;refine⟨_,rfl,_,_,rfl,rfl,_,rfl,?_⟩;rw[decide_eq_true (show (0:Int)<=((j:Nat):Int) by omega)];refine Qr ⟨_,rfl,rfl,_,rfl,_,_,_,rfl,rfl,?_⟩;rw[e32,Qnu t 32 j hj];cases q:(Mp.Je 32 (t.drop j)).2 with
   | none=>
    rw[q] at ej;have ej:t.length=i+(Mp.Q2 (t.drop i)).1.length:=ej;refine⟨_,rfl,_,_,rfl,rfl,_,rfl,Qv ⟨_,rfl,_,rfl,by rw[Ja];exact hl,?_⟩⟩;rw[Ja,ej];exact k
   | some r=>
    rw[q] at ej;have ej:j+(Mp.Je 32 (t.drop j)).1.length=i+(Mp.Q2 (t.drop i)).1.length:=ej;refine⟨_,rfl,_,_,rfl,rfl,_,rfl,?_⟩;rw[decide_eq_true (show (0:Int)<=((j+(Mp.Je 32 (t.drop j)).1.length:Nat):Int) by omega)];refine Qr ⟨_,rfl,?_⟩;rw[ej];exact k
  have dropi:t.drop i=(t.drop i).take 1++t.drop (i+1):=by rw[<-Xak,Xal]
  by_cases hq:(t.drop i).take 1=[34]
  ·rw[decide_eq_true (QdN.mpr hq)];rw[hq] at dropi;have dropi:t.drop i=34::t.drop (i+1):=dropi;have hlt:i+1<=t.length:=by
    have:=congrArg XO dropi;rw[XQ,Xw,XQ] at this;omega
   refine Qr ⟨_,rfl,rfl,_,rfl,_,_,rfl,rfl,_,_,_,rfl,rfl,?_⟩;rw[show ((i:Int)+1)=((i+1:Nat):Int) from rfl,Qnu t 34 (i+1) hlt];have ew:(Mp.Q2 (t.drop i)).1=_:=congrArg Prod.fst (congrArg Mp.Q2 dropi);rw[Mp.Qis,Qge] at ew;cases q:(Mp.Je 34 (t.drop (i+1))).2 with
   | none=>
    rw[q] at ew;refine⟨_,rfl,_,_,rfl,rfl,_,rfl,Qv ?_⟩;refine⟨_,rfl,_,rfl,_,_,rfl,rfl,_,rfl,Qv ⟨_,rfl,_,rfl,by rw[Ja];exact hl,?_⟩⟩;rw[Ja];have:i+(Mp.Q2 (t.drop i)).1.length=t.length:=by
     rw[ew];show i+(34::t.drop (i+1)).length=_;rw[<-dropi,XQ];omega
    rw[<-this];exact k
   | some r=>
    rw[q] at ew;have e1:=Mp.Yu 34 (t.drop (i+1));rw[q] at e1;have e1:t.drop (i+1)=(Mp.Je 34 (t.drop (i+1))).1++34::r:=e1;have ew:(Mp.Q2 (t.drop i)).1=34::(((Mp.Je 34 (t.drop (i+1))).1++[34])++(Mp.Je 32 r).1):=ew;have hl2:=congrArg XO e1;rw[XQ,Xi,Xw] at hl2;have e2:t.drop (i+1+(Mp.Je 34 (t.drop (i+1))).1.length)=34::r:=by
     rw[<-Xak];exact (Qh5 e1).1
    refine fin (i+1+(Mp.Je 34 (t.drop (i+1))).1.length) _ (by omega) ?_ rfl;rw[e2,ew];have e3:Mp.Je 32 (34::r)=(34::(Mp.Je 32 r).1,(Mp.Je 32 r).2):=by
     show (if (34:UInt8)=32 then _ else _)=_;rw[if_neg (by decide)]
    rw[e3];have e4:=congrArg XO (Mp.Yu 32 r);cases q2:(Mp.Je 32 r).2 with
    | none=>
     rw[q2,XG] at e4;simp only[Xw,Xi,Uo];omega
    | some r2=>
     simp only[Xw,Xi,Uo];omega
  ·rw[decide_eq_false λz=>hq (QdN.mp z)];refine Qv (fin i _ hi ?_ rfl);have ew:Mp.Q2 (t.drop i)=Mp.Je 32 (t.drop i):=by
    cases h:t.drop i with
    | nil=>rfl
    | cons b r=>
     rw[h] at hq;exact Mp.QeG λz=>hq (by rw[z];rfl)
   rw[ew];cases q:(Mp.Je 32 (t.drop i)).2 with
   | none=>
    have e1:=congrArg XO (Mp.Yu 32 (t.drop i));rw[q,XG,XQ] at e1;show t.length=_;omega
   | some r=>rfl
def Qp0:Sp:=λvs H Q _=>∃(t:Qb),vs=[.str (S t)]/\t.length+1<=sizeLine/\∀H' p,Qe H H'->H p=none->H' p=some (.lst ((Mp.QO t).map λx=>V.str (S x)))->Q (.ref p) H'
theorem Zy:Qm ["line","words","start","end"] ["line"] (Qg (top 38)):=Qsx
def QaX(t:Qb)(i:Nat):List Qb:=if i<=t.length then Mp.QO (t.drop i) else []
theorem Qit(t:Qb)(i:Nat)(hi:i<=t.length):QaX t i=(Mp.Q2 (t.drop i)).1::QaX t (i+(Mp.Q2 (t.drop i)).1.length+1):=by
 unfold QaX;rw[if_pos hi];have e:=Mp.Qax (t.drop i);cases q:(Mp.Q2 (t.drop i)).2 with
 | none=>
  rw[q,XG] at e;have:=congrArg XO e;rw[XQ] at this;rw[Mp.YK q,if_neg (by omega)]
 | some r=>
  rw[q] at e;have e:t.drop i=(Mp.Q2 (t.drop i)).1++32::r:=e;have:=congrArg XO e;rw[XQ,Xi,Xw] at this;rw[Mp.Ww q,if_pos (by omega),show i+(Mp.Q2 (t.drop i)).1.length+1=i+((Mp.Q2 (t.drop i)).1.length+1) by omega,<-Xak];rw[(Qh5 e).2.1]
theorem Qk7(t:Qb)(i:Nat):(t.drop i).take (Mp.Q2 (t.drop i)).1.length=(Mp.Q2 (t.drop i)).1:=by
 have e:=Mp.Qax (t.drop i);cases q:(Mp.Q2 (t.drop i)).2 with
 | none=>
  rw[q,XG] at e;rw[<-e,U6]
 | some r=>
  rw[q] at e;exact (Qh5 e).2.2.1
theorem QoL(t:Qb)(i:Nat)(hi:i<=t.length):i+(Mp.Q2 (t.drop i)).1.length<=t.length:=by
 have:=congrArg XO (Mp.Qax (t.drop i));rw[XQ,Xi] at this;omega
theorem QfF(T:Pg P w K mg C):Ok P w K mg base 2 "split_words" ["line"] Qp0:=by
 refine T.jl.ok Zy (λvs H Q E h=>?_) (λf cdv A outer s H vs Q E hr h=>?_)
 ·obtain⟨t,rfl,_⟩:=h;rfl
 ·obtain⟨t,rfl,hl,k⟩:=h;intro X;refine⟨_,(Qd (Qx (i:=1) Zy.nd rfl (by first|exact .inl rfl|exact .inr rfl) (Q0 Qc))
   (Qd (Qx (i:=2) Zy.nd rfl (by first|exact .inl rfl|exact .inr rfl) Qt)
   (Qd (QcS PassesOwn.never (QE WI (pv 2) (Qs JJ rfl T.qa Xv (Qa (pv 0) Qc)) (Qz _)) (Qd (Qx (i:=3) Zy.nd rfl (by first|exact .inl rfl|exact .inr rfl) (Qk (Qdu T) (Qp hr) rfl (Qa (pv 0) (Qa (pv 2) Qc))))
   (Qd (JF (J4 XD X7 X8 ZD (pv 1) (Qa (JV QdA (pv 0) (JE (pv 2)) (JE (pv 3))) Qc)))
   (Qi (Qx (i:=2) Zy.nd rfl (by first|exact .inl rfl|exact .inr rfl) (J6 Qbq (pv 3) Qt))))))
   (Qi (Ql (pv 1)))))),?_⟩
  refine⟨XC _,λp hp=>?_⟩;refine⟨λm σ H'=>JP λ(i:Nat) (acc:List Qb) (e:Option V)=>m=t.length+1-i/\σ=[some (V.str (S t)),some (V.ref p),some (V.int i),e]/\Qe H H'/\acc.length<=i/\i<=t.length+1/\H' p=some (.lst (acc.map λx=>V.str (S x)))/\acc++QaX t i=Mp.QO t,⟨_,0,[],none,rfl,rfl,Qe.new hp,Xy _,XC _,Qh,by unfold QaX;rw[if_pos (XC _)];rfl⟩,?_⟩;rintro m σ H1 ⟨i,acc,e,rfl,rfl,s1,ha,hi,hp1,hw⟩;refine⟨_,rfl,_,rfl,_,rfl,by rw[Ja];omega,_,_,rfl,rfl,_,rfl,?_⟩;rw[Ja]
  by_cases hlt:i<=t.length
  ·rw[decide_eq_true (show (i:Int)<=t.length by omega)];refine Qr ⟨_,fun σ' H' h=>h,?_⟩;refine⟨_,rfl,_,rfl,t,i,rfl,by omega,hlt,?_⟩;refine⟨_,rfl,.inl ⟨rfl,_,SqL.of hp1⟩,_,rfl,_,rfl,_,rfl,_,rfl,_,rfl,_,rfl,by rw[Ja];omega,p,_,_,rfl,rfl,hp1,by rw[Xb];omega,?_⟩;refine⟨_,rfl,_,_,rfl,rfl,?_⟩;have hle:=QoL t i hlt;refine⟨_,?_,i+(Mp.Q2 (t.drop i)).1.length+1,acc++[(Mp.Q2 (t.drop i)).1],_,rfl,rfl,Qe.updL s1 hp,by simp;omega,by omega,?_,?_⟩
   ·omega
   ·rw[Qh,QeP,HT.YN,HT.YN,UG hlt,UG hle,show i+(Mp.Q2 (t.drop i)).1.length-i=(Mp.Q2 (t.drop i)).1.length by omega,Qk7];simp
   ·rw[XH];show acc++((Mp.Q2 (t.drop i)).1::QaX t (i+(Mp.Q2 (t.drop i)).1.length+1))=_;rw[<-Qit t i hlt,hw]
  ·rw[decide_eq_false (show ¬(i:Int)<=t.length by omega)];refine Qv ⟨_,rfl,?_⟩;refine k H1 p s1 hp ?_;unfold QaX at hw;rw[if_neg hlt,XG] at hw;rw[hp1,hw]
abbrev QX:Qb:=Xa "head"
abbrev RES:List Qb:=UH
abbrev J3(w:Qb):Nat:=RES.idxOf w
structure Dv where
 older:List (Qb × List Qb)
 key:Qb
 ws:List Qb
 e:Nat
def Wd(d:Dv)(w:Qb):Option Dv:=if RES.contains w then (if J3 w<d.e then none else some ⟨d.older++[(d.key,d.ws)],w,[],J3 w+1⟩) else some ⟨d.older,d.key,d.ws++[w],d.e⟩
def JD(d:Dv):List Qb->Option (List (Qb × List Qb))
 | []=>some (d.older++[(d.key,d.ws)])
 | w::r=>match Wd d w with
  | none=>none
  | some d'=>JD d' r
def ZZ(ws:List Qb):Option (List (Qb × List Qb)):=JD ⟨[],QX,[],0⟩ ws
structure Ent where
 key:Qb
 ws:List Qb
 a:Addr
abbrev Ent.kv(e:Ent):Key × V:=(Sum.inr (S e.key),V.ref e.a)
structure Jk(H:Hp)(d:Addr)(es:List Ent):Prop where
 dict:H d=some (.dK (es.map Ent.kv))
 lists:∀e ∈ es,H e.a=some (.lst (e.ws.map λt=>V.str (S t)))
 apart:(es.map (·.a)).Nodup
 keys:(es.map (·.key)).Nodup
theorem Jk.mono{H H':Hp}{d:Addr}{es:List Ent}(h:Jk H d es)(s:Qe H H'):Jk H' d es:=⟨s _ _ h.dict,λe he=>s _ _ (h.lists e he),h.apart,h.keys⟩
theorem Qgc:∀{es:List Ent} {e:Ent},(es.map (·.key)).Nodup->e ∈ es->Jn (es.map Ent.kv) (Sum.inr (S e.key))=some (.ref e.a)
 | [],e,_,h=>by simp at h
 | x::r,e,hn,h=>by
  rw[Xj,Ue] at hn;rw[Xj];rcases Xm.mp h with rfl | h
  ·exact Jf rfl
  ·rw[QY,Qgc hn.2 h];intro q;have:x.key=e.key:=YT (Sum.inr.inj q);exact hn.1 (by rw[this];exact Xk.mpr ⟨e,h,rfl⟩)
theorem QeF:∀{es:List Ent} {k:Qb},k ∉ es.map (·.key)->Jn (es.map Ent.kv) (Sum.inr (S k))=none
 | [],k,_=>rfl
 | x::r,k,h=>by
  rw[Xj,Xm,not_or] at h;rw[Xj,QY (λq=>h.1 (YT (Sum.inr.inj q)).symm),QeF h.2]
theorem Jk.add{H:Hp}{d:Addr}{es:List Ent}{k:Qb}{ws:List Qb}{a:Addr}{w:Qb}(h:Jk H d (es++[⟨k,ws,a⟩])) :
  Jk (upd H a (.lst ((ws.map λt=>V.str (S t))++[.str (S w)]))) d (es++[⟨k,ws++[w],a⟩]):=by
 have la:=h.lists ⟨k,ws,a⟩ (by simp);refine⟨?_,λe he=>?_,by simpa using h.apart,by simpa using h.keys⟩
 ·rw[Qq (Q8 h.dict la (λq=>nomatch q))];rw[h.dict];simp
 ·rcases Xx.mp he with he | he
  ·have ne:e.a≠a:=by
    have:=h.apart;rw[XL,Xaj] at this;exact this.2.2 e.a (Xk.mpr ⟨e,he,rfl⟩) a (by simp)
   rw[Qq ne];exact h.lists e (U3 _ he)
  ·rw[XE] at he;subst he;rw[Qh];simp
theorem Jk.open_{H:Hp}{d:Addr}{es:List Ent}{k:Qb}{a:Addr}(h:Jk H d es)(ha:H a=none)(hk:k ∉ es.map (·.key)) :
  Jk (upd (upd H a (.lst [])) d (.dK (es.map Ent.kv++[(Sum.inr (S k),V.ref a)]))) d (es++[⟨k,[],a⟩]):=by
 have nd:a≠d:=λq=>by rw[q,h.dict] at ha;cases ha
 refine⟨by rw[Qh];simp,λe he=>?_,?_,?_⟩
 ·rcases Xx.mp he with he | he
  ·have le:=h.lists e he;rw[Qq (Q8 le h.dict (λq=>nomatch q)),Qq (Q3 le ha)];exact le
  ·rw[XE] at he;subst he;rw[Qq nd,Qh];rfl
 ·rw[XL,Xaj];refine⟨h.apart,by simp,λx hx y hy e=>?_⟩;obtain⟨z,hz,rfl⟩:=Xk.mp hx;have:y=a:=by simpa using hy
  have le:=h.lists z hz;rw[e,this,ha] at le;cases le
 ·rw[XL,Xaj];refine⟨h.keys,by simp,λx hx y hy e=>?_⟩;have:y=k:=by simpa using hy
  rw[e,this] at hx;exact hk hx
def Qgy(e:Nat)(k:Qb):Prop:=k=QX\/(RES.contains k=true/\J3 k<e)
theorem Qgy.out{e:Nat}{k w:Qb}(h:Qgy e k)(hw:RES.contains w=true)(he:¬J3 w<e):k≠w:=by
 intro q;subst q;rcases h with h | h
 ·subst h;exact absurd hw (by decide +kernel)
 ·exact he h.2
theorem Qgy.mono{e e':Nat}{k:Qb}(h:Qgy e k)(le:e<=e'):Qgy e' k:=by
 rcases h with h | h
 ·exact .inl h
 ·exact .inr ⟨h.1,by omega⟩
theorem QhK{w:Qb}(h:RES.contains w=true):RES[J3 w]?=some w/\∀m,m<J3 w->RES[m]?≠some w:=by
 have hm:w ∈ RES:=by simpa using h
 have hlt:J3 w<RES.length:=List.idxOf_lt_length_of_mem hm;refine⟨?_,λm hlt' q=>?_⟩
 ·rw[Xe hlt,Xad hlt]
 ·obtain⟨h1,h2⟩:=Xp.mp q;have:=List.not_of_lt_findIdx (p:=(·==w)) (xs:=RES) hlt';rw[h2] at this;simp at this
theorem Qqj{x:Qb}(hx:RES.contains x=true):(RES.map λt=>V.str (S t))[J3 x]?=some (.str (S x)):=by
 rw[Xg,(QhK hx).1];rfl
theorem Qqk{x:Qb}(hx:RES.contains x=true)(m:Nat)(z':V)(hm:m<J3 x)(hz:(RES.map λt=>V.str (S t))[m]?=some z'):eqV z' (.str (S x))=false:=by
 rw[Xg] at hz;cases q:RES[m]? with
 | none=>rw[q] at hz;cases hz
 | some y=>
  rw[q] at hz;have:V.str (S y)=z':=Xc hz;subst this;exact decide_eq_false λr=>(QhK hx).2 m hm (by rw[q,YT r])
def Qoo(K:Xt):Sp:=λvs H Q _=>QA λ(a:Addr) (ws:List Qb)=>vs=[.ref a]/\QdL K H a ws/\ws.length<100000/\match ZZ ws with
 | none=>∀H',Qe H H'->Q .non H'
 | some ss=>∀H' d es,Qe H H'->Jk H' d es->(∀e ∈ es,H e.a=none)->es.map (λe=>(e.key,e.ws))=ss->Q (.ref d) H'
theorem Qb6(T:Pg P w K mg C):KT K C.KEY_WORDS (RES.map λt=>V.str (S t)):=T.qS
theorem YG:Qm ["words","parts","key","earliest","word"] ["words"] (Qg (top 40)):=Qsx
theorem QmA(T:Pg P w K mg C):Ok P w K mg base 1 "divide" ["words"] (Qoo K):=by
 refine T.jn.ok YG (λvs H Q E h=>?_) (λf cdv A outer s H vs Q E hr h=>?_)
 ·obtain⟨a,ws,rfl,_⟩:=h;rfl
 ·obtain⟨a,ws,rfl,hs,hl,k⟩:=h;intro X;refine⟨_,(Qd (Qx (i:=1) YG.nd rfl (by first|exact .inl rfl|exact .inr rfl) (Qpw (Qn3 (QL rfl T.qv) (Q0 Qc) QpC) rfl rfl (by simp) (by decide)))
   (Qd (Qx (i:=2) YG.nd rfl (by first|exact .inl rfl|exact .inr rfl) (QL rfl T.qv))
   (Qd (Qx (i:=3) YG.nd rfl (by first|exact .inl rfl|exact .inr rfl) Qt)
   (Qd (QaK PassesOwn.never rfl (Q4 (pv 0)) (QH (i:=4) YG.nd rfl (by first|exact .inl rfl|exact .inr rfl)) (Qi (Q1 (QE Qai (pv 4) (QL rfl T.qu) rfl) (Qd (Qx (i:=2) YG.nd rfl (by first|exact .inl rfl|exact .inr rfl) (pv 4))
   (Qd (Q1 (QE QnQ (J4 U7 UO U8 QbL (QL rfl T.qu) (Qa (pv 2) Qc)) (pv 3) (Qz _)) (Qi (Ql YE)) QC)
   (Qd (Qx (i:=3) YG.nd rfl (by first|exact .inl rfl|exact .inr rfl) (J6 Qbq (J4 U7 UO U8 QbL (QL rfl T.qu) (Qa (pv 2) Qc)) Qt))
   (Qi (QlH (Zp hr) (pv 1) (pv 2) (Q0 Qc) rfl))))) (Qi (JF (J4 XD X7 X8 ZD (Yq (Zp hr) (pv 1) (pv 2) (λ_ _=>rfl)) (Qa (pv 4) Qc)))))))
   (Qi (Ql (pv 1))))))),?_⟩
  intro d hd;refine⟨XC _,λp hp=>?_⟩;have np:d≠p:=λq=>by rw[<-q,Qh] at hp;cases hp
  have hpH:H p=none:=by rw[Qq np.symm] at hp;exact hp
  refine⟨by rw[Qq np,Qh],[(Sum.inr (S QX),.ref p)],rfl,by show 1<=15;decide,?_⟩;have H0:Jk (upd (upd (upd H d (.dK [])) p (.lst [])) d (.dK [(Sum.inr (S QX),.ref p)])) d [⟨QX,[],p⟩]:=by
   refine⟨Qh,λe he=>?_,by simp,by simp⟩;rw[XE] at he;subst he;rw[Qq np.symm,Qh];rfl
  have s0:Qe H (upd (upd (upd H d (.dK [])) p (.lst [])) d (.dK [(Sum.inr (S QX),.ref p)])):=Qe.updL (Qe.updL (Qe.new hd) hpH) hd;refine⟨_,rfl,a,rfl,⟨_,Qe.seq s0 hs⟩,QiV (K:=K) (a:=a) (xs:=ws.map λt=>V.str (S t)) (λi σ H'=>YS λ(es:List Ent) (dv:Dv) (la:Addr) (vw:Option V)=>σ=[some (.ref a),some (.ref d),some (.str (S dv.key)),some (.int (dv.e:Nat)),vw]/\Qe H H'/\
    Jk H' d (es++[(⟨dv.key,dv.ws,la⟩:Ent)])/\es.map (λe=>(e.key,e.ws))=dv.older/\(∀x ∈ es++[(⟨dv.key,dv.ws,la⟩:Ent)],H x.a=none)/\(∀x ∈ es++[(⟨dv.key,dv.ws,la⟩:Ent)],Qgy dv.e x.key)/\ZZ ws=JD dv (ws.drop i)/\dv.ws.length<=i/\es.length<=i)
   ⟨[],⟨[],QX,[],0⟩,p,none,rfl,s0,H0,rfl,λx hx=>by rw[UN,XE] at hx;subst hx;exact hpH,λx hx=>by rw[UN,XE] at hx;subst hx;exact .inl rfl,rfl,Xy _,Xy _⟩
   (λi σ H' _ ⟨_,_,_,_,_,s1,_⟩=>Qe.seq s1 hs) ?_ ?_⟩
  ·rintro i y σ H1 hi ⟨es,dv,la,vw,rfl,s1,P1,eo,fr,ki,ed,l1,l2⟩;obtain⟨x,hx,rfl⟩:∃x,ws[i]?=some x/\y=V.str (S x):=by
    rw[Xg] at hi;cases q:ws[i]? with
    | none=>rw[q] at hi;cases hi
    | some x=>rw[q] at hi;exact⟨x,rfl,(Xc hi).symm⟩
   have hilt:i<ws.length:=(Xp.mp hx).1;have edrop:ws.drop i=x::ws.drop (i+1):=by
    rw[Xat hilt,(Xp.mp hx).2]
   rw[edrop] at ed;refine⟨_,rfl,C.KEY_WORDS,_,rfl,.inr (Qb6 T).sq,rfl,Ym _,_,rfl,?_⟩;rw[show (if false=true then !inV (V.str (S x)) (RES.map λt=>V.str (S t)) else inV (V.str (S x)) (RES.map λt=>V.str (S t)))=RES.contains x from Qa1 x RES];cases hc:RES.contains x with
   | true=>
    refine Qr ⟨_,rfl,(Qb6 T).ty,_,rfl,C.KEY_WORDS,_,_,J3 x,.str (S x),rfl,rfl,(Qb6 T).sq,rfl,Ym _,Qqj hc,decide_eq_true rfl,Qqk hc,_,rfl,_,_,rfl,rfl,_,rfl,?_⟩
    by_cases he:J3 x<dv.e
    ·rw[decide_eq_true (show ((J3 x:Nat):Int)<((dv.e:Nat):Int) by omega)];have:ZZ ws=none:=by
      rw[ed];unfold JD Wd;rw[if_pos hc,if_pos he]
     rw[this] at k;exact Qr (k H1 s1)
    ·rw[decide_eq_false (show ¬((J3 x:Nat):Int)<((dv.e:Nat):Int) by omega)];have hk:x ∉ (es++[(⟨dv.key,dv.ws,la⟩:Ent)]).map (·.key):=λq=>by
      obtain⟨z,hz,e⟩:=Xk.mp q;exact (ki z hz).out hc he e
     refine Qv ⟨(Qb6 T).ty,_,rfl,C.KEY_WORDS,_,_,J3 x,.str (S x),rfl,rfl,(Qb6 T).sq,rfl,Ym _,Qqj hc,decide_eq_true rfl,Qqk hc,_,_,rfl,rfl,?_⟩;refine⟨XC _,λq hq=>⟨_,rfl,_,rfl,d,_,rfl,QlV.k (k:=Sum.inr (S x)) (Qe.new hq _ _ P1.dict) (by rw[Xb,Xi,XI,QI];omega),?_⟩⟩;rw[QcV _ (QeF hk)];have s2:Qe H (upd (upd H1 q (.lst [])) d (.dK ((es++[(⟨dv.key,dv.ws,la⟩:Ent)]).map Ent.kv++[(Sum.inr (S x),V.ref q)]))):=Qe.updL (Qe.updL s1 (Qe.free s1 hq)) hd;refine⟨es++[(⟨dv.key,dv.ws,la⟩:Ent)],⟨dv.older++[(dv.key,dv.ws)],x,[],J3 x+1⟩,q,_,rfl,s2,P1.open_ hq hk,by rw[XL,eo];rfl,λz hz=>?_,λz hz=>?_,?_,XC _,by rw[Xi,XI];omega⟩
     ·rcases Xx.mp hz with hz | hz
      ·exact fr z hz
      ·rw[XE] at hz;subst hz;exact Qe.free s1 hq
     ·rcases Xx.mp hz with hz | hz
      ·exact (ki z hz).mono (show dv.e<=J3 x+1 by omega)
      ·rw[XE] at hz;subst hz;exact .inr ⟨hc,Ug _⟩
     ·rw[ed]
      conv=>lhs;unfold JD Wd
      rw[if_pos hc,if_neg he]
   | false=>
    have lla:=P1.lists ⟨dv.key,dv.ws,la⟩ (by simp);have dg:ZP H1 d (.str (S dv.key)) (some (.ref la)):=by
     have:=ZP.k (k:=Sum.inr (S dv.key)) P1.dict;rw[Qgc (e:=⟨dv.key,dv.ws,la⟩) P1.keys (by simp)] at this;exact this
    refine Qv ⟨_,rfl,_,rfl,d,_,rfl,dg,.inl ⟨rfl,_,SqL.of lla⟩,_,rfl,la,_,_,rfl,rfl,lla,by rw[Xb,QI];show dv.ws.length < _;omega,?_⟩;have fla:=fr ⟨dv.key,dv.ws,la⟩ (by simp);refine⟨es,⟨dv.older,dv.key,dv.ws++[x],dv.e⟩,la,_,rfl,Qe.updL s1 fla,P1.add,eo,λz hz=>?_,λz hz=>?_,?_,by rw[Xi,XI];omega,by omega⟩
    ·rcases Xx.mp hz with hz | hz
     ·exact fr z (U3 _ hz)
     ·rw[XE] at hz;subst hz;exact fla
    ·rcases Xx.mp hz with hz | hz
     ·exact ki z (U3 _ hz)
     ·rw[XE] at hz;subst hz;exact ki ⟨dv.key,dv.ws,la⟩ (by simp)
    ·rw[ed]
     conv=>lhs;unfold JD Wd
     rw[if_neg (by rw[hc];exact UL)]
  ·rintro σ H1 ⟨es,dv,la,vw,rfl,s1,P1,eo,fr,ki,ed,l1,l2⟩;rw[Xb,Xcc] at ed;have:ZZ ws=some (dv.older++[(dv.key,dv.ws)]):=ed;rw[this] at k;refine⟨_,rfl,?_⟩;exact k H1 d _ s1 P1 fr (by rw[XL,eo];rfl)
abbrev lk(fs:List (Str × V))(f:Str):Option V:=fs.lookup f
theorem JU{f:Str}{v:V}{fs:List (Str × V)}:(Yr f v fs).lookup f=some v:=by rw[WG,if_pos rfl]
theorem QD{f g:Str}{v:V}{fs:List (Str × V)}(h:g≠f):(Yr f v fs).lookup g=fs.lookup g:=by rw[WG,if_neg h]
def Qu(ss:List (Qb × List Qb))(k:Qb):Option (List Qb):=(ss.find? λs=>s.1==k).map (·.2)
structure QF where
 deep:Nat
 kind:Qb
 ident:Qb
 text:Qb
 label:Qb
 by_:List Qb
 hint:Qb
 hidden:Bool
 off:Bool
 on:Bool
 acts:List Qb
def QaL(n:Nat)(ss:List (Qb × List Qb)):QF where
 deep:=n
 kind:=((Qu ss QX).getD []).getD 0 []
 ident:=((Qu ss QX).getD []).getD 1 []
 text:=if ((Qu ss QX).getD []).length=3 then Yn (((Qu ss QX).getD []).getD 2 []) else []
 label:=match Qu ss (Xa "label") with | some ws=>Yn (ws.getD 0 []) | none=>[]
 by_:=(Qu ss (Xa "by")).getD []
 hint:=match Qu ss (Xa "hint") with | some ws=>ws.getD 0 [] | none=>[]
 hidden:=(Qu ss (Xa "hidden")).isSome
 off:=(Qu ss (Xa "off")).isSome
 on:=(Qu ss (Xa "on")).isSome
 acts:=(Qu ss (Xa "press")).getD []
structure QoP(fs:List (Str × V))(r:QF)(la aa:Addr):Prop where
 few:fs.length<100
 depth:lk fs "depth"=some (.int r.deep)
 kind:lk fs "kind"=some (.str (S r.kind))
 ident:lk fs "ident"=some (.str (S r.ident))
 text:lk fs "text"=some (.str (S r.text))
 label:lk fs "label"=some (.str (S r.label))
 by_:lk fs "by"=some (.ref la)
 hint:lk fs "hint"=some (.str (S r.hint))
 hidden:lk fs "hidden"=some (.bl r.hidden)
 off:lk fs "off"=some (.bl r.off)
 on:lk fs "on"=some (.bl r.on)
 acts:lk fs "acts"=some (.ref aa)
def Yg(C:Cs)(H:Hp)(a:Addr)(r:QF):Prop:=QbT λdx fs la aa ys=>H a=some (.ins C.Box dx fs)/\QoP fs r la aa/\H la=some (.lst (r.by_.map λt=>V.str (S t)))/\H aa=some (.lst ys)/\J0 H ys r.acts
theorem Yg.mono{C:Cs}{H H':Hp}{a:Addr}{r:QF}(h:Yg C H a r)(s:Qe H H'):Yg C H' a r:=by
 obtain⟨dx,fs,la,aa,ys,h1,h2,h3,h4,h5⟩:=h;exact⟨dx,fs,la,aa,ys,s _ _ h1,h2,s _ _ h3,s _ _ h4,h5.mono (Yv.of s)⟩
theorem J0.tups{H H':Hp}{ys:List V}{ts:List Qb}(h:J0 H ys ts)(s:∀b xs,H b=some (.tup xs)->H' b=some (.tup xs)):J0 H' ys ts:=by
 induction h with
 | nil=>exact .nil
 | cons a r ih=>
  obtain⟨p,e1,e2⟩:=a;exact .cons ⟨p,e1,s _ _ e2⟩ ih
def QrI(C:Cs)(H0 H:Hp)(a:Addr)(r:QF):Prop:=QbT λdx fs la aa ys=>H a=some (.ins C.Box dx fs)/\QoP fs r la aa/\H la=some (.lst (r.by_.map λt=>V.str (S t)))/\H aa=some (.lst ys)/\J0 H ys r.acts/\H0 la=none/\H0 aa=none
def Zj(p:Addr)(H H':Hp):Prop:=∀b o,H b=some o->b≠p->H' b=some o
theorem Zj.refl(p:Addr)(H:Hp):Zj p H H:=λ_ _ h _=>h
theorem Zj.upd{p:Addr}{H H':Hp}{o:HO}(h:Zj p H H'):Zj p H (L2.upd H' p o):=λb u e n=>by rw[Qq n];exact h b u e n
theorem Zj.same{p:Addr}{H H' H'':Hp}(h:Zj p H H')(s:Qe H' H''):Zj p H H'':=λb u e n=>s b u (h b u e n)
theorem Zj.trans{p:Addr}{H H' H'':Hp}(h:Zj p H H')(s:Zj p H' H''):Zj p H H'':=λb u e n=>s b u (h b u e n) n
theorem Jk.keep{p:Addr}{H H':Hp}{d:Addr}{es:List Ent}{Ca dx:Addr}{fs:List (Str × V)}(h:Jk H d es)(hp:H p=some (.ins Ca dx fs))(k:Zj p H H'):Jk H' d es:=
 ⟨k _ _ h.dict (Q8 h.dict hp (λq=>nomatch q)),λe he=>k _ _ (h.lists e he) (Q8 (h.lists e he) hp (λq=>nomatch q)),h.apart,h.keys⟩
theorem QcE:∀{es:List Ent} {k:Qb},match Qu (es.map λe=>(e.key,e.ws)) k with
  | none=>k ∉ es.map (·.key)
  | some ws=>∃e ∈ es,e.key=k/\e.ws=ws
 | [],k=>by simp[Qu]
 | x::r,k=>by
  by_cases h:x.key=k
  ·have:Qu ((x::r).map λe=>(e.key,e.ws)) k=some x.ws:=by simp[Qu,h]
   rw[this];exact⟨x,Xh,h,rfl⟩
  ·have:Qu ((x::r).map λe=>(e.key,e.ws)) k=Qu (r.map λe=>(e.key,e.ws)) k:=by
    have hb:(x.key==k)=false:=beq_eq_false_iff_ne.mpr h;simp[Qu,hb]
   rw[this];have ih:=QcE (es:=r) (k:=k);cases q:Qu (r.map λe=>(e.key,e.ws)) k with
   | none=>
    rw[q] at ih;intro hm;rw[Xj,Xm] at hm;rcases hm with hm | hm
    ·exact h hm.symm
    ·exact ih hm
   | some ws=>
    rw[q] at ih;obtain⟨e,he,e1,e2⟩:=ih;exact⟨e,Xn _ he,e1,e2⟩
theorem Jk.get{H:Hp}{d:Addr}{es:List Ent}(h:Jk H d es){s:String}{k:Qb}(hs:Str.ofString s=S k):match Qu (es.map λe=>(e.key,e.ws)) k with
  | none=>ZP H d (.str (Str.ofString s)) none
  | some ws=>∃a,ZP H d (.str (Str.ofString s)) (some (.ref a))/\H a=some (.lst (ws.map λt=>V.str (S t))):=by
 rw[hs];have f:=QcE (es:=es) (k:=k);have g:=ZP.k (k:=Sum.inr (S k)) h.dict;cases q:Qu (es.map λe=>(e.key,e.ws)) k with
 | none=>
  rw[q] at f;rw[QeF f] at g;exact g
 | some ws=>
  rw[q] at f;obtain⟨e,he,rfl,rfl⟩:=f;rw[Qgc h.keys he] at g;exact⟨e.a,g,h.lists e he⟩
theorem Jk.has{H:Hp}{d:Addr}{es:List Ent}(h:Jk H d es){s:String}{k:Qb}(hs:Str.ofString s=S k):∃o,ZP H d (.str (Str.ofString s)) o/\o.isSome=(Qu (es.map λe=>(e.key,e.ws)) k).isSome:=by
 have g:=h.get hs;cases q:Qu (es.map λe=>(e.key,e.ws)) k with
 | none=>rw[q] at g;exact⟨_,g,rfl⟩
 | some ws=>rw[q] at g;obtain⟨a,g,_⟩:=g;exact⟨_,g,rfl⟩
theorem Jk.getD{H:Hp}{d q:Addr}{es:List Ent}(h:Jk H d es)(hq:H q=some (.lst [])){s:String}{k:Qb}(hs:Str.ofString s=S k) :
  QA λo la=>ZP H d (.str (Str.ofString s)) o/\o.getD (.ref q)=.ref la/\H la=some (.lst (((Qu (es.map λe=>(e.key,e.ws)) k).getD []).map λt=>V.str (S t)))/\(la=q\/∃e ∈ es,la=e.a):=by
 have g:=h.get hs;cases e:Qu (es.map λe=>(e.key,e.ws)) k with
 | none=>rw[e] at g;exact⟨_,q,g,rfl,hq,.inl rfl⟩
 | some ws=>
  have f:=QcE (es:=es) (k:=k);rw[e] at f;obtain⟨x,hx,ek,ew⟩:=f;have g2:=ZP.k (k:=Sum.inr (S x.key)) h.dict;rw[Qgc h.keys hx] at g2;refine⟨some (.ref x.a),x.a,?_,rfl,?_,.inr ⟨x,hx,rfl⟩⟩
  ·rw[hs,<-ek];exact g2
  ·have:=h.lists x hx;rw[ew] at this;exact this
structure Qj1(ss:List (Qb × List Qb)):Prop where
 head:∃h,Qu ss QX=some h/\(h.length=2\/h.length=3)
 label:∀ws,Qu ss (Xa "label")=some ws->ws.length=1
 hint:∀ws,Qu ss (Xa "hint")=some ws->ws.length=1
 short:∀k ws,Qu ss k=some ws->ws.length<=100000/\∀t ∈ ws,t.length<=100000
theorem QM{K:Xt}{Cb p dx:Addr}{fs:List (Str × V)}{f:Str}{y:V}{nx:L2.St->Hp->Prop}{σ:L2.St}{H:Hp}(hσ:σ[0]?=some (some (.ref p)))(h:H p=some (.ins Cb dx fs))(c:Cls K Cb)(n:Jc K Cb f)(l:fs.length<1000)
  (k:∀H' fs',fs'=Yr f y fs->Zj p H H'->H' p=some (.ins Cb dx fs')->fs'.length<=fs.length+1->nx σ H') :
  ∃v,σ[0]?=some (some v)/\YS λa C dx fs=>v=V.ref a/\H a=some (.ins C dx fs)/\Cls K C/\Jc K C f/\fs.length<1000/\nx σ (upd H a (.ins C dx (Yr f y fs))):=
 ⟨_,hσ,p,Cb,dx,fs,rfl,h,c,n,l,k _ _ rfl ((Zj.refl p H).upd) Qh (Qbl _ _ _)⟩
def QmP(C:Cs):Sp:=λvs H Q _=>QbT λ(p dx pd:Addr) (n:Nat) (es:List Ent)=>vs=[.ref p,.int n,.ref pd]/\H p=some (.ins C.Box dx [])/\Jk H pd es/\Qj1 (es.map λe=>(e.key,e.ws))/\∃H0,Qe H0 H/\H0 p=none/\(∀e ∈ es,H0 e.a=none)/\
 ∀H',Zj p H H'->QrI C H0 H' p (QaL n (es.map λe=>(e.key,e.ws)))->Q .non H'
theorem WK:Qm ["self","depth","parts","head","word"] ["self","depth","parts"] (Qg (Ze (top 31) 0)):=Qsx
theorem QjI(t:Qb):Qj8 (S t) (some 1) (some (-1))=S (Yn t):=QeP t (some 1) (some (-1))
theorem Qjh(T:Pg P w K mg C):OkC P w K mg base 2 "Box" C.Box ["self","depth","parts"] (QmP C):=by
 refine T.qf.ok WK (λvs H Q E h=>?_) (λf cdv A outer s H vs Q E hr h=>?_)
 ·obtain⟨p,dx,pd,n,es,rfl,_⟩:=h;rfl
 ·obtain⟨p,dx,pd,n,es,rfl,hp,hP,ok,H0,hs0,hp0,he0,k⟩:=h;have k0:∀{H':Hp},Zj p H H'->Qe H0 H':=λK' b o e=>K' b o (hs0 b o e) (Q3 e hp0)
  intro X;refine⟨_,(Qd (Qx (i:=3) WK.nd rfl (by first|exact .inl rfl|exact .inr rfl) (Yq (Zp hr) (pv 2) (QL rfl T.qv) (λ_ _=>rfl)))
   (Qd (Ju (pv 0) (pv 1) rfl)
   (Qd (Ju (pv 0) (QV QJ (pv 3) Qt (λ_ _=>rfl)) rfl)
   (Qd (Ju (pv 0) (QV QJ (pv 3) Qt (λ_ _=>rfl)) rfl)
   (Qd (Ju (pv 0) (J5 (QE Jt (Qs Qw rfl T.qa Xv (Qa (pv 3) Qc)) Qt (Qz _)) (JV QdA (QV QJ (pv 3) Qt (λ_ _=>rfl)) (JE Qt) (JE (Qhc QdF Qt))) QB) rfl)
   (Qd (Ju (pv 0) (J5 (Z7 (Qci (Zp hr) QB (pv 2)) (by rfl)) (JV QdA (QV QJ (Yq (Zp hr) (pv 2) QB (λ_ _=>rfl)) Qt (λ_ _=>rfl)) (JE Qt) (JE (Qhc QdF Qt))) QB) rfl)
   (Qd (Ju (pv 0) (QfL (Zp hr) (pv 2) QB (Q0 Qc) ⟨by rfl,by rfl,by rfl,by rfl⟩) rfl)
   (Qd (Ju (pv 0) (J5 (Z7 (Qci (Zp hr) QB (pv 2)) (by rfl)) (QV QJ (Yq (Zp hr) (pv 2) QB (λ_ _=>rfl)) Qt (λ_ _=>rfl)) QB) rfl)
   (Qd (Ju (pv 0) (QfJ (Qci (Zp hr) QB (pv 2)) (by rfl)) rfl)
   (Qd (Ju (pv 0) (QfJ (Qci (Zp hr) QB (pv 2)) (by rfl)) rfl)
   (Qd (Ju (pv 0) (QfJ (Qci (Zp hr) QB (pv 2)) (by rfl)) rfl)
   (Qi (Ju (pv 0) (JR rfl WK.nd (Q4 (QfL (Zp hr) (pv 2) QB (Q0 Qc) ⟨by rfl,by rfl,by rfl,by rfl⟩)) (own:=[("word",4)]) (QK (N:=["self","depth","parts","head","word"]) (sc:=Qg (Ze (top 31) 0)) (by decide +kernel)) (λ_ _ _ _ _=>(QH (i:=4) WK.nd rfl (by first|exact .inl rfl|exact .inr rfl))) (λ_ _ _ _ _=>Jo) (λ_ _ _ _ _=>(Qk (QdY T) (Qp hr) rfl (Qa (pv 4) Qc)))) rfl))))))))))))),?_⟩
  generalize hss:(es.map λe=>(e.key,e.ws))=ss at ok k;obtain⟨hd,ehd,hlen⟩:=ok.head;have cB:=T.qf.1;have g0:=hP.get (s:="head") (k:=QX) (by decide +kernel);rw[hss,ehd] at g0;obtain⟨ha,g0,lha⟩:=g0;rw[show Str.ofString "head"=S QX by decide +kernel] at g0;have hne:ha≠p:=Q8 lha hp (λq=>nomatch q);have hSL:∀{H':Hp},Zj p H H'->QdL K H' ha hd:=λK'=>SqL.of (K' _ _ lha hne)
  have at0:∀i,i<hd.length->hd[i]?=some (hd.getD i []):=λi hi=>by rw[Xf,Xe hi];rfl
  have mem0:∀i,i<hd.length->hd.getD i [] ∈ hd:=λi hi=>Xo (at0 i hi)
  have sh0:=ok.short _ _ ehd;refine⟨_,rfl,pd,_,rfl,g0,?_⟩;refine⟨_,rfl,QM rfl hp cB T.qp (by show 0<1000;decide) λH1 f1 e1 K1 h1 l1=>?_⟩;rw[Uo] at l1;refine⟨_,rfl,ha,_,_,_,rfl,rfl,hSL K1,Qbb (i:=0) (at0 0 (by omega)),QM rfl h1 cB T.qg (by omega) λH2 f2 e2 K2 h2 l2=>?_⟩;replace K2:=K1.trans K2;refine⟨_,rfl,ha,_,_,_,rfl,rfl,hSL K2,Qbb (i:=1) (at0 1 (by omega)),QM rfl h2 cB T.qw (by omega) λH3 f3 e3 K3 h3 l3=>?_⟩;replace K3:=K2.trans K3;have step_text:∀(R:VK),R (.str (S (QaL n ss).text)) H3->tIf (QjQ (tOp rEq (tCB (λxs H Q=>QA λp ys=>xs=[V.ref p]/\(SqL K H p ys\/SqT K H p ys)/\Q (.int ys.length) H) (Qb4 (Wx 3) Qgv)) (tC (V.int 3)))) (tSl Qq9 (tOp (QmK K) (Wx 3) (tC (V.int 2))) (Qeb (tC (V.int 1))) (Qeb (tUn (rU λi=>V.int (-i)) (tC (V.int 1))))) (tC (V.str (Str.ofString ""))) [some (.ref p),some (.int n),some (.ref pd),some (.ref ha),none] H3 R:=λR r=>by
   refine⟨_,rfl,ha,_,rfl,.inl (hSL K3),rfl,_,rfl,?_⟩;rw[Xb,show V.int 3=V.int ((3:Nat):Int) from rfl,QiM];have et:(QaL n ss).text=if hd.length=3 then Yn (hd.getD 2 []) else []:=by
    show (if ((Qu ss QX).getD []).length=3 then _ else _)=_;rw[ehd];rfl
   rw[et] at r
   by_cases h3':hd.length=3
   ·rw[decide_eq_true h3'];rw[if_pos h3'] at r;refine Qr ⟨_,rfl,ha,_,_,_,rfl,rfl,hSL K3,Qbb (i:=2) (at0 2 (by omega)),_,rfl,_,rfl,_,rfl,_,rfl,?_,?_⟩
    ·rw[Ja,QI];have:=sh0.2 _ (mem0 2 (by omega));omega
    ·rw[show (-1:Int) = -1 from rfl,QjI];exact r
   ·rw[decide_eq_false h3'];rw[if_neg h3'] at r;refine Qv ?_;rw[Wc];exact r
  refine step_text _ (QM rfl h3 cB T.qK (by omega) λH4 f4 e4 K4 h4 l4=>?_);replace K4:=K3.trans K4;have P4:=hP.keep hp K4;have step_label:∀(R:VK),R (.str (S (QaL n ss).label)) H4->tIf (tB (Qp4 (tC (V.str (Str.ofString "label"))) (Wx 2))) (tSl Qq9 (tOp (QmK K) (QoD (Wx 2) (tC (V.str (Str.ofString "label")))) (tC (V.int 0))) (Qeb (tC (V.int 1))) (Qeb (tUn (rU λi=>V.int (-i)) (tC (V.int 1))))) (tC (V.str (Str.ofString ""))) [some (.ref p),some (.int n),some (.ref pd),some (.ref ha),none] H4 R:=λR r=>by
   have g:=P4.get (s:="label") (k:=Xa "label") (by decide +kernel);rw[hss] at g;cases e:Qu ss (Xa "label") with
   | none=>
    rw[e] at g;rw[show (QaL n ss).label=[] by show (match Qu ss (Xa "label") with | some ws=>Yn (ws.getD 0 []) | none=>[])=[];rw[e]] at r;refine⟨_,rfl,pd,_,rfl,g,_,rfl,Qv ?_⟩;rw[Wc];exact r
   | some ws=>
    rw[e] at g;obtain⟨a,g,ga⟩:=g;obtain⟨t,rfl⟩:=Xaf.mp (ok.label _ e);rw[show (QaL n ss).label=Yn t by show (match Qu ss (Xa "label") with | some ws=>Yn (ws.getD 0 []) | none=>[])=_;rw[e];rfl] at r;refine⟨_,rfl,pd,_,rfl,g,_,rfl,Qr ⟨_,rfl,pd,_,rfl,g,a,_,_,_,rfl,rfl,SqL.of ga,Qbb (ts:=[t]) (i:=0) rfl,_,rfl,_,rfl,_,rfl,_,rfl,?_,?_⟩⟩
    ·rw[Ja,QI];have:=(ok.short _ _ e).2 t (by simp);omega
    ·rw[show (-1:Int) = -1 from rfl,QjI];exact r
  refine step_label _ (QM rfl h4 cB T.qA (by omega) λH5 f5 e5 K5 h5 l5=>?_);replace K5:=K4.trans K5;have P5:=hP.keep hp K5;refine⟨_,rfl,pd,rfl,.inl ⟨_,Rd.of P5.dict⟩,XC _,λq hq=>?_⟩;have K5':Zj p H (upd H5 q (.lst [])):=K5.same (Qe.new hq);have h5':=Qe.new (o:=.lst []) hq _ _ h5;obtain⟨o,la,dg,eo,hla,fla⟩:=(hP.keep hp K5').getD (q:=q) Qh (s:="by") (k:=Xa "by") (by decide +kernel);rw[hss] at hla;refine⟨o,dg,?_⟩;rw[eo];refine QM rfl h5' cB T.qB (by omega) λH6 f6 e6 K6 h6 l6=>?_
  have la6:=K6 _ _ hla (Q8 hla h5' (λq=>nomatch q));replace K6:=K5'.trans K6;have P6:=hP.keep hp K6;have step_hint:∀(R:VK),R (.str (S (QaL n ss).hint)) H6->tIf (tB (Qp4 (tC (V.str (Str.ofString "hint"))) (Wx 2))) (tOp (QmK K) (QoD (Wx 2) (tC (V.str (Str.ofString "hint")))) (tC (V.int 0))) (tC (V.str (Str.ofString ""))) [some (.ref p),some (.int n),some (.ref pd),some (.ref ha),none] H6 R:=λR r=>by
   have g:=P6.get (s:="hint") (k:=Xa "hint") (by decide +kernel);rw[hss] at g;cases e:Qu ss (Xa "hint") with
   | none=>
    rw[e] at g;rw[show (QaL n ss).hint=[] by show (match Qu ss (Xa "hint") with | some ws=>ws.getD 0 [] | none=>[])=[];rw[e]] at r;refine⟨_,rfl,pd,_,rfl,g,_,rfl,Qv ?_⟩;rw[Wc];exact r
   | some ws=>
    rw[e] at g;obtain⟨a,g,ga⟩:=g;obtain⟨t,rfl⟩:=Xaf.mp (ok.hint _ e);rw[show (QaL n ss).hint=t by show (match Qu ss (Xa "hint") with | some ws=>ws.getD 0 [] | none=>[])=_;rw[e];rfl] at r;exact⟨_,rfl,pd,_,rfl,g,_,rfl,Qr ⟨_,rfl,pd,_,rfl,g,a,_,_,_,rfl,rfl,SqL.of ga,Qbb (ts:=[t]) (i:=0) rfl,r⟩⟩
  refine step_hint _ (QM rfl h6 cB T.qx (by omega) λH7 f7 e7 K7 h7 l7=>?_);have la7:=K7 _ _ la6 (Q8 la6 h6 (λq=>nomatch q));replace K7:=K6.trans K7;obtain⟨o8,g8,i8⟩:=(hP.keep hp K7).has (s:="hidden") (k:=Xa "hidden") (by decide +kernel);rw[hss] at i8;refine⟨_,rfl,pd,o8,rfl,g8,QM rfl h7 cB T.qL (by omega) λH8 f8 e8 K8 h8 l8=>?_⟩;have la8:=K8 _ _ la7 (Q8 la7 h7 (λq=>nomatch q));replace K8:=K7.trans K8;obtain⟨o9,g9,i9⟩:=(hP.keep hp K8).has (s:="off") (k:=Xa "off") (by decide +kernel);rw[hss] at i9;refine⟨_,rfl,pd,o9,rfl,g9,QM rfl h8 cB T.qC (by omega) λH9 f9 e9 K9 h9 l9=>?_⟩;have la9:=K9 _ _ la8 (Q8 la8 h8 (λq=>nomatch q));replace K9:=K8.trans K9;obtain⟨o10,g10,i10⟩:=(hP.keep hp K9).has (s:="on") (k:=Xa "on") (by decide +kernel);rw[hss] at i10;refine⟨_,rfl,pd,o10,rfl,g10,QM rfl h9 cB T.q2 (by omega) λH10 f10 e10 K10 h10 l10=>?_⟩;have la10:=K10 _ _ la9 (Q8 la9 h9 (λq=>nomatch q));replace K10:=K9.trans K10;have P10:=hP.keep hp K10;dsimp only;refine tlc ?_;refine⟨_,rfl,pd,rfl,.inl ⟨_,Rd.of P10.dict⟩,XC _,λq2 hq2=>?_⟩;have s10:Qe H10 (upd H10 q2 (.lst [])):=Qe.new hq2;obtain⟨o11,l11,dg11,eo11,hl11,_⟩:=(P10.mono s10).getD (q:=q2) Qh (s:="press") (k:=Xa "press") (by decide +kernel);rw[hss] at hl11;refine⟨o11,dg11,?_⟩;rw[eo11];have sh:(QaL n ss).acts.length<=100000/\∀t ∈ (QaL n ss).acts,t.length<=100000:=by
   show ((Qu ss (Xa "press")).getD []).length<=100000/\∀t ∈ (Qu ss (Xa "press")).getD [],t.length<=100000;cases e:Qu ss (Xa "press") with
   | none=>exact⟨XC _,λt ht=>by simp at ht⟩
   | some ws=>exact ok.short _ _ e
  refine⟨l11,rfl,⟨_,SqL.of hl11⟩,?_⟩;refine Qlx (ts:=(QaL n ss).acts) (Jw (QW (SqL.of hl11))) (by rw[QI];omega) (λt H2' ht Qy Qn h1'=>?_) λD ys H12 hD s12 hd12 ha12=>?_
  ·exact⟨rfl,Qr ⟨_,rfl,t,rfl,by rw[QI];have:=sh.2 t ht;omega,λH' p s' e'=>h1' H' p s' e'⟩⟩
  ·have h12:=s12 _ _ (s10 _ _ h10);have la12:=s12 _ _ (s10 _ _ la10);refine QM rfl h12 cB T.qD (by omega) λH13 f11 e11 K13 h13 l13=>?_
   refine k H13 ((K10.same (s10.trans s12)).trans K13) ⟨dx,f11,la,D,ys,h13,⟨by omega,(by show Xz _ _=_;rw[e11,QD (by decide +kernel),e10,QD (by decide +kernel),e9,QD (by decide +kernel),e8,QD (by decide +kernel),e7,QD (by decide +kernel),e6,QD (by decide +kernel),e5,QD (by decide +kernel),e4,QD (by decide +kernel),e3,QD (by decide +kernel),e2,QD (by decide +kernel),e1,JU];rfl),(by show Xz _ _=_;rw[e11,QD (by decide +kernel),e10,QD (by decide +kernel),e9,QD (by decide +kernel),e8,QD (by decide +kernel),e7,QD (by decide +kernel),e6,QD (by decide +kernel),e5,QD (by decide +kernel),e4,QD (by decide +kernel),e3,QD (by decide +kernel),e2,JU];show some _=some (V.str (S (((Qu ss QX).getD []).getD 0 [])));rw[ehd];rfl),(by show Xz _ _=_;rw[e11,QD (by decide +kernel),e10,QD (by decide +kernel),e9,QD (by decide +kernel),e8,QD (by decide +kernel),e7,QD (by decide +kernel),e6,QD (by decide +kernel),e5,QD (by decide +kernel),e4,QD (by decide +kernel),e3,JU];show some _=some (V.str (S (((Qu ss QX).getD []).getD 1 [])));rw[ehd];rfl),(by show Xz _ _=_;rw[e11,QD (by decide +kernel),e10,QD (by decide +kernel),e9,QD (by decide +kernel),e8,QD (by decide +kernel),e7,QD (by decide +kernel),e6,QD (by decide +kernel),e5,QD (by decide +kernel),e4,JU]),(by show Xz _ _=_;rw[e11,QD (by decide +kernel),e10,QD (by decide +kernel),e9,QD (by decide +kernel),e8,QD (by decide +kernel),e7,QD (by decide +kernel),e6,QD (by decide +kernel),e5,JU]),(by show Xz _ _=_;rw[e11,QD (by decide +kernel),e10,QD (by decide +kernel),e9,QD (by decide +kernel),e8,QD (by decide +kernel),e7,QD (by decide +kernel),e6,JU]),(by show Xz _ _=_;rw[e11,QD (by decide +kernel),e10,QD (by decide +kernel),e9,QD (by decide +kernel),e8,QD (by decide +kernel),e7,JU]),(by show Xz _ _=_;rw[e11,QD (by decide +kernel),e10,QD (by decide +kernel),e9,QD (by decide +kernel),e8,JU,i8];rfl),(by show Xz _ _=_;rw[e11,QD (by decide +kernel),e10,QD (by decide +kernel),e9,JU,i9];rfl),(by show Xz _ _=_;rw[e11,QD (by decide +kernel),e10,JU,i10];rfl),(by show Xz _ _=_;rw[e11,JU])⟩,K13 _ _ la12 (Q8 la12 h12 (λq=>nomatch q)),K13 _ _ hd12 (Q8 hd12 h12 (λq=>nomatch q)),?_⟩;refine⟨ha12.tups λb xs eb=>K13 b _ eb (Q8 eb h12 (λq=>nomatch q)),?_,Qe.free ((k0 K10).trans s10) hD⟩;rcases fla with rfl | ⟨x,hx,rfl⟩
   ·exact Qe.free (k0 K5) hq
   ·exact he0 x hx
def Jg(t:Qb):Nat:=(t.takeWhile λb=>b==32).length
theorem Qni(t:Qb):Jg t<=t.length:=List.takeWhile_sublist _ |>.length_le
theorem Qfk(t:Qb):(Txt.lstripChars (S t) (S [32])).length=t.length-Jg t:=by
 have e:stripLo (S [32]).cps.contains true (S t)=Jg t:=by
  show ((t.map XU).takeWhile _).length=_;rw[List.takeWhile_map,Xb];unfold Jg;congr 1;congr 1;funext b;show (#[(32:UInt8).toNat]:Array Nat).contains b.toNat=_
  by_cases h:b=32
  ·subst h;simp
  ·have:¬b.toNat=32:=λq=>h (U1.mp q)
   simp[h,this]
 unfold Txt.lstripChars Txt.stripBy
 split
 ·rename_i h
  unfold stripSame at h;rw[Xd,e] at h;have:Jg t=0:=by simpa using h.1
  rw[Ja,this];rfl
 ·unfold stripped;rw[e];rw[show stripHi (S [32]).cps.contains false (S t) (Jg t)=(S t).length from rfl,WP,W3,Qf8,XQ,Xb]
theorem QbH:∀{ws:List Qb} {d:Dv} {ss:List (Qb × List Qb)},JD d ws=some ss->∀s ∈ ss,∃s0:List Qb,(s0=[]\/∃k,(k,s0) ∈ d.older++[(d.key,d.ws)])/\∃more:List Qb,s.2=s0++more/\more.length<=ws.length/\∀x ∈ more,x ∈ ws
 | [],d,ss,h,s,hs=>by
  have e:d.older++[(d.key,d.ws)]=ss:=Xc h;exact⟨s.2,.inr ⟨s.1,by rw[e];exact hs⟩,[],by simp,Xy _,λx hx=>by simp at hx⟩
 | w::r,d,ss,h,s,hs=>by
  unfold JD at h;cases q:Wd d w with
  | none=>rw[q] at h;cases h
  | some d'=>
   rw[q] at h;obtain⟨s0,h0,more,e1,e2,e3⟩:=QbH (ws:=r) h s hs;unfold Wd at q
   by_cases hc:RES.contains w=true
   ·rw[if_pos hc] at q
    by_cases he:J3 w<d.e
    ·rw[if_pos he] at q;cases q
    ·rw[if_neg he] at q;have q:=Xc q;subst q;refine⟨s0,?_,more,e1,by simp;omega,λx hx=>Xn _ (e3 x hx)⟩;rcases h0 with h0 | ⟨k,h0⟩
     ·exact .inl h0
     ·rcases Xx.mp h0 with h0 | h0
      ·exact .inr ⟨k,h0⟩
      ·simp at h0;exact .inl h0.2
   ·rw[if_neg hc] at q;have q:=Xc q;subst q;rcases h0 with h0 | ⟨k,h0⟩
    ·exact⟨s0,.inl h0,more,e1,by simp;omega,λx hx=>Xn _ (e3 x hx)⟩
    ·rcases Xx.mp h0 with h0 | h0
     ·exact⟨s0,.inr ⟨k,U3 _ h0⟩,more,e1,by simp;omega,λx hx=>Xn _ (e3 x hx)⟩
     ·have h0':k=d.key/\s0=d.ws++[w]:=by simpa using h0
      refine⟨d.ws,.inr ⟨d.key,by simp⟩,w::more,by rw[e1,h0'.2];simp,by simp;omega,λx hx=>?_⟩;rcases Xm.mp hx with hx | hx
      ·rw[hx];exact Xh
      ·exact Xn _ (e3 x hx)
theorem QeT:∀{ws:List Qb} {d:Dv} {ss:List (Qb × List Qb)},JD d ws=some ss->(QA λx r=>d.older++[(d.key,d.ws)]=(QX,x)::r)->QA λx r=>ss=(QX,x)::r
 | [],d,ss,h,hh=>by
  have e:d.older++[(d.key,d.ws)]=ss:=Xc h;rw[<-e];exact hh
 | w::r,d,ss,h,hh=>by
  unfold JD at h;obtain⟨x,r0,hh⟩:=hh;cases q:Wd d w with
  | none=>rw[q] at h;cases h
  | some d'=>
   rw[q] at h;refine QeT (ws:=r) h ?_;unfold Wd at q
   by_cases hc:RES.contains w=true
   ·rw[if_pos hc] at q
    by_cases he:J3 w<d.e
    ·rw[if_pos he] at q;cases q
    ·rw[if_neg he] at q;have q:=Xc q;subst q;exact⟨x,r0++[(w,[])],by show (d.older++[(d.key,d.ws)])++[(w,[])]=_;rw[hh];rfl⟩
   ·rw[if_neg hc] at q;have q:=Xc q;subst q;show QA λx r=>d.older++[(d.key,d.ws++[w])]=(QX,x)::r
    cases ho:d.older with
    | nil=>
     rw[ho] at hh;have:(d.key,d.ws)=(QX,x):=by
      have:=Xaa hh;exact this.1
     exact⟨d.ws++[w],[],by rw[(Prod.mk.inj this).1];rfl⟩
    | cons y ys=>
     rw[ho] at hh;have:=(Xaa hh).1;exact⟨x,ys++[(d.key,d.ws++[w])],by rw[this];rfl⟩
theorem Qee:∀(n:Nat) (t:Qb),t.length<=n->(Mp.QO t).length<=t.length+1/\∀x ∈ Mp.QO t,x.length<=t.length:=by
 intro n
 induction n with
 | zero=>
  intro t ht;have:t=[]:=XaU (by omega);subst this;have e:Mp.QO []=[[]]:=Mp.YK rfl;rw[e];exact⟨Xy _,λx hx=>by simp at hx;simp[hx]⟩
 | succ n ih=>
  intro t ht;have e:=congrArg XO (Mp.Qax t);rw[Xi] at e;cases q:(Mp.Q2 t).2 with
  | none=>
   rw[Mp.YK q];refine⟨by simp,λx hx=>?_⟩;rw[XE] at hx;rw[hx];omega
  | some r=>
   have hr:=Mp.QdI t r q;obtain⟨i1,i2⟩:=ih r (by omega);rw[Mp.Ww q];refine⟨by simp;omega,λx hx=>?_⟩;rcases Xm.mp hx with hx | hx
   ·rw[hx];omega
   ·have:=i2 x hx;omega
theorem Qdz{ss:List (Qb × List Qb)}{k:Qb}{ws:List Qb}(h:Qu ss k=some ws):(k,ws) ∈ ss:=by
 unfold Qu at h;obtain⟨s,hs,e⟩:=X6.mp h;have h1:=Xbt hs;have h2:=Xaw hs;have:s.1=k:=by simpa using h1
 rw[<-this,<-e];exact h2
theorem Qf0{ss:List (Qb × List Qb)}(h:QA λx r=>ss=(QX,x)::r):∃ws,Qu ss QX=some ws:=by
 obtain⟨x,r,rfl⟩:=h;refine⟨x,?_⟩;unfold Qu;rw[XaP,show ((QX,x).1==QX)=true from beq_self_eq_true _];rfl
def ZE(ss:List (Qb × List Qb))(kind:Qb):Bool:=(RES.filter λkey=>(Qu ss key).isSome).all λkey=>Yp (J3 key) ((Qu ss key).getD []) kind
def Q9(t:Qb):Option QF:=if Jg t % 2≠0\/10<Jg t then none else match ZZ (Mp.QO (t.drop (Jg t))) with
 | none=>none
 | some ss=>if (Z4 ((Qu ss QX).getD [])&&ZE ss (((Qu ss QX).getD []).getD 0 []))=true then some (QaL (Jg t / 2) ss) else none
theorem Qe8{h:List Qb}(e:Z4 h=true):h.length=2\/h.length=3:=by
 unfold Z4 at e
 split at e
 ·exact .inl rfl
 ·exact .inr rfl
 ·cases e
theorem Qjr{ss:List (Qb × List Qb)}{kind:Qb}(h:ZE ss kind=true){key:Qb}{ws:List Qb}(hk:key ∈ RES)(e:Qu ss key=some ws):Yp (J3 key) ws kind=true:=by
 unfold ZE at h;have:=Xl.mp h key (XM.mpr ⟨hk,by rw[e];rfl⟩);rw[e] at this;exact this
theorem QlK{t:Qb}{ss:List (Qb × List Qb)}(hl:t.length<=50000)(h:ZZ (Mp.QO t)=some ss)(hh:Z4 ((Qu ss QX).getD [])=true)(hp:ZE ss (((Qu ss QX).getD []).getD 0 [])=true):Qj1 ss:=by
 obtain⟨hd,ehd⟩:=Qf0 (QeT h ⟨[],[],rfl⟩);refine⟨⟨hd,ehd,?_⟩,λws e=>?_,λws e=>?_,λk ws e=>?_⟩
 ·rw[ehd] at hh;exact Qe8 hh
 ·have:=Qjr hp (key:=Xa "label") (by decide +kernel) e;rw[show J3 (Xa "label")=0 by decide +kernel] at this;have this:(decide (ws.length=1)&&_)=true:=this;rw[Xd] at this;exact of_decide_eq_true this.1
 ·have:=Qjr hp (key:=Xa "hint") (by decide +kernel) e;rw[show J3 (Xa "hint")=2 by decide +kernel] at this;have this:(_&&decide (ws.length=1))=true:=this;rw[Xd] at this;exact of_decide_eq_true this.2
 ·obtain⟨s0,h0,more,e1,e2,e3⟩:=QbH h _ (Qdz e);have w:=Qee _ t (Xy _);have es0:s0=[]:=by
   rcases h0 with h0 | ⟨k',h0⟩
   ·exact h0
   ·have h0:(k',s0) ∈ [(QX,([]:List Qb))]:=h0;simp at h0;exact h0.2
  have e1:ws=s0++more:=e1;rw[es0,UN] at e1;subst e1;refine⟨by omega,λx hx=>?_⟩;have:=w.2 x (e3 x hx);omega
theorem Jk.gets{H:Hp}{d:Addr}{es:List Ent}(h:Jk H d es)(k:Qb):match Qu (es.map λe=>(e.key,e.ws)) k with
  | none=>ZP H d (.str (S k)) none
  | some ws=>∃a,ZP H d (.str (S k)) (some (.ref a))/\H a=some (.lst (ws.map λt=>V.str (S t))):=by
 have f:=QcE (es:=es) (k:=k);have g:=ZP.k (k:=Sum.inr (S k)) h.dict;cases q:Qu (es.map λe=>(e.key,e.ws)) k with
 | none=>
  rw[q] at f;rw[QeF f] at g;exact g
 | some ws=>
  rw[q] at f;obtain⟨e,he,rfl,rfl⟩:=f;rw[Qgc h.keys he] at g;exact⟨e.a,g,h.lists e he⟩
def QmT(C:Cs):Sp:=λvs H Q _=>∃t:Qb,vs=[.str (S t)]/\t.length<=50000/\match Q9 t with
 | none=>∀H',Qe H H'->Q .non H'
 | some r=>∀H' a,Qe H H'->H a=none->QrI C H H' a r->Q (.ref a) H'
theorem Yd:Qm ["line","blanks","parts","kind","key"] ["line"] (Qg (top 37)):=Qsx
theorem Qjl(T:Pg P w K mg C):Ok P w K mg base 6 "read_box" ["line"] (QmT C):=by
 refine T.jk.ok Yd (λvs H Q E h=>?_) (λf cdv A outer s H vs Q E hr h=>?_)
 ·obtain⟨t,rfl,_⟩:=h;rfl
 ·obtain⟨t,rfl,hl,k⟩:=h;intro X;refine⟨_,(Qd (Qx (i:=1) Yd.nd rfl (by first|exact .inl rfl|exact .inr rfl) (J6 QfG (Qs JJ rfl T.qa Xv (Qa (pv 0) Qc)) (Qs JJ rfl T.qa Xv (Qa (J4 UV PySem.F.slot_str_lstrip PySem.F.type_str_lstrip Qkk (pv 0) (Qa QB Qc)) Qc))))
   (Qd (Q1 (PW.pt (Qa5 (QE Qa4 (J6 QqZ (pv 1) Qt) Qt (Qz _)) (WX (QE Qr6 (pv 1) (J6 Qq0 Qt (QL rfl T.zl)) (Qz _))))) (Qi (Ql YE)) QC)
   (Qd (Qx (i:=2) Yd.nd rfl (by first|exact .inl rfl|exact .inr rfl) (Qk (QmA T) (Qp hr) rfl (Qa (Qk (QfF T) (Qp hr) rfl (Qa (JV QdA (pv 0) (JE (pv 1)) WJ) Qc)) Qc)))
   (Qd (Q1 (PW.pt (Qa5 (Z7 (QaJ (pv 2))) (WX (Zg (Js (Qk (Qkq T) (Qp hr) rfl (Qa (Yq (Zp hr) (pv 2) (QL rfl T.qv) (λ_ _=>rfl)) Qc))))))) (Qi (Ql YE)) QC)
   (Qd (Qx (i:=3) Yd.nd rfl (by first|exact .inl rfl|exact .inr rfl) (QV QJ (Yq (Zp hr) (pv 2) (QL rfl T.qv) (λ_ _=>rfl)) Qt (λ_ _=>rfl)))
   (Qd (Q1 (Zg (Js (Qs (QaB rfl) rfl T.qj boot_all (Qa (JR rfl Yd.nd (Qq6 (QL rfl T.qu)) (own:=[("key",4)]) (QK (N:=["line","blanks","parts","kind","key"]) (sc:=Qg (top 37)) (by decide +kernel)) (λ_ _ _ _ _=>(QH (i:=4) Yd.nd rfl (by first|exact .inl rfl|exact .inr rfl))) (λ_ _ _ _ _=>(YM (Z7 (Qci (Zp hr) (pv 4) (pv 2)) (by rfl)))) (λ_ _ _ _ _=>(Qk (Qks T) (Qp hr) rfl (Qa (pv 4) (Qa (Yq (Zp hr) (pv 2) (pv 4) (λ_ _=>rfl)) (Qa (pv 3) Qc)))))) Qc)))) (Qi (Ql YE)) QC)
   (Qi (Ql (Qdw (Qjh T) (Qp hr) rfl (Qa (J6 Qpr (pv 1) Qt) (Qa (pv 2) Qc))))))))))),?_⟩
  have ha:=Qni t;refine⟨_,rfl,_,rfl,(by rw[Ja,QI];omega),?_⟩;refine⟨_,rfl,rfl,_,_,rfl,rfl,(by rw[Ja,QI];omega),_,rfl,?_,_,_,rfl,rfl,?_⟩
  ·rw[show Str.ofString " "=S [32] by decide +kernel,Qfk,QI];omega
  dsimp only;rw[show Str.ofString " "=S [32] by decide +kernel,Qfk,Ja,show (t.length:Int)-((t.length-Jg t:Nat):Int)=((Jg t:Nat):Int) by omega];refine⟨_,rfl,_,_,rfl,rfl,(by show (0:Int)<2;decide),rfl,_,rfl,?_⟩;have rb:Q9 t=if Jg t % 2≠0\/10<Jg t then none else match ZZ (Mp.QO (t.drop (Jg t))) with
   | none=>none
   | some ss=>if (Z4 ((Qu ss QX).getD [])&&ZE ss (((Qu ss QX).getD []).getD 0 []))=true then some (QaL (Jg t / 2) ss) else none:=rfl
  generalize Jg t=n at ha rb ⊢;have dm:decide (V.int ((n:Int) % 2)=V.int 0)=decide (n % 2=0):=by
   have:=QiM (n % 2) 0;rw[show (((n % 2:Nat):Int))=(n:Int) % 2 by omega] at this;exact this
  rw[dm]
  by_cases hn:n % 2=0
  ·rw[decide_eq_true hn];refine Qv ⟨_,rfl,_,_,rfl,rfl,.inl ⟨by decide,by decide⟩,_,_,rfl,rfl,_,rfl,?_⟩
   by_cases h10:10<n
   ·rw[if_pos (.inr h10)] at rb;rw[rb] at k;rw[decide_eq_true (show (2 * 5:Int)<(n:Int) by omega)];exact Qr (k H (Qe.refl H))
   ·rw[if_neg (by omega)] at rb;rw[decide_eq_false (show ¬(2 * 5:Int)<(n:Int) by omega)];refine Qv ?_;refine⟨_,rfl,_,rfl,_,rfl,_,rfl,by rw[Ja,QI];omega,?_⟩;have ec:Qj8 (S t) (some (n:Int)) none=S (t.drop n):=by
     rw[QeP,HT.YN,HT.QfU,UG ha];congr 1;exact XaH (by rw[XQ];exact Xy _)
    rw[ec];have ws:=Qee _ (t.drop n) (Xy _);have ld:(t.drop n).length<=t.length:=by rw[XQ];omega
    refine⟨_,rfl,by rw[QI];omega,λH1 p1 s1 n1 e1=>⟨p1,_,rfl,SqL.of e1,by omega,?_⟩⟩;cases ed:ZZ (Mp.QO (t.drop n)) with
    | none=>
     rw[ed] at rb;rw[rb] at k;exact λH2 s2=>⟨_,rfl,_,rfl,Qr (Qr (k H2 (s1.trans s2)))⟩
    | some ss=>
     rw[ed] at rb;intro H2 d es s2 P2 fes ess;have s12:=s1.trans s2;obtain⟨hd,ehd⟩:=Qf0 (QeT ed ⟨[],[],rfl⟩);have g0:=P2.gets QX;rw[ess,ehd] at g0;obtain⟨a0,g0,lha⟩:=g0;obtain⟨s0,h0,more,m1,m2,m3⟩:=QbH ed _ (Qdz ehd);have es0:s0=[]:=by
      rcases h0 with h0 | ⟨k',h0⟩
      ·exact h0
      ·have h0:(k',s0) ∈ [(QX,([]:List Qb))]:=h0;simp at h0;exact h0.2
     have m1:hd=s0++more:=m1;rw[es0,UN] at m1;subst m1;have rb:Q9 t=if (Z4 ((Qu ss QX).getD [])&&ZE ss (((Qu ss QX).getD []).getD 0 []))=true then some (QaL (n / 2) ss) else none:=rb;rw[ehd] at rb;have rb:Q9 t=if (Z4 hd&&ZE ss (hd.getD 0 []))=true then some (QaL (n / 2) ss) else none:=rb;refine⟨_,rfl,_,rfl,Qv ⟨_,rfl,d,_,rfl,g0,a0,hd,rfl,SqL.of lha,λx hx=>by rw[QI];have:=ws.2 x (m3 x hx);omega,λH3 s3=>⟨_,rfl,?_⟩⟩⟩;have P3:=P2.mono s3;have s13:=s12.trans s3;cases eh:Z4 hd with
     | false=>
      rw[eh] at rb;have rb:Q9 t=none:=rb;rw[rb] at k;exact Qr (k H3 s13)
     | true=>
      rw[eh,XbI] at rb;have hlen:=Qe8 eh;have at0:hd[0]?=some (hd.getD 0 []):=by rw[Xf,Xe (by omega)];rfl
      have g3:=P3.gets QX;rw[ess,ehd] at g3;obtain⟨a3,g3,l3⟩:=g3;refine Qv ⟨_,rfl,d,_,rfl,g3,a3,_,_,_,rfl,rfl,SqL.of l3,Qbb (i:=0) at0,?_⟩;generalize hk:hd.getD 0 []=kind at rb ⊢;refine gN ?_;dsimp only;refine tlc ?_;refine⟨C.KEY_WORDS,rfl,⟨_,(Qb6 T).sq⟩,?_⟩;refine lcX (α:=Qb) (xs:=RES) (vf:=λc=>V.str (S c)) [] (Jw (QoK (Qb6 T).sq)) (by decide +kernel) (λkey=>(Qu ss key).isSome) (λkey=>.bl (Yp (J3 key) ((Qu ss key).getD []) kind)) (λkey H4 hkey s4 Qy Qn h1 h2=>?_) λD H4 hD s4 hd4=>?_
      ·refine⟨rfl,?_⟩;have gk:=(P3.mono s4).gets key;rw[ess] at gk;cases ek:Qu ss key with
       | none=>
        rw[ek] at gk;exact⟨_,rfl,_,rfl,d,_,rfl,gk,_,rfl,Qv (h2 (by rw[ek];rfl) H4 (Qe.refl _))⟩
       | some wk=>
        rw[ek] at gk;obtain⟨ak,gk,lk'⟩:=gk;obtain⟨q0,hq0,mk,k1,k2,k3⟩:=QbH ed _ (Qdz ek);have eq0:q0=[]:=by
         rcases hq0 with h0 | ⟨k',h0⟩
         ·exact h0
         ·have h0:(k',q0) ∈ [(QX,([]:List Qb))]:=h0;simp at h0;exact h0.2
        have k1:wk=q0++mk:=k1;rw[eq0,UN] at k1;subst k1;refine⟨_,rfl,_,rfl,d,_,rfl,gk,_,rfl,Qr ⟨_,rfl,_,rfl,_,rfl,d,_,rfl,gk,_,rfl,J3 key,key,ak,wk,kind,rfl,(QhK (by simpa using hkey)).1,SqL.of lk',by rw[QI];omega,λx hx=>by rw[QI];have:=ws.2 x (k3 x hx);omega,λH' s'=>?_⟩⟩;have:=h1 (by rw[ek];rfl) H' s';rw[ek] at this;exact this
      ·refine⟨D,(RES.filter λkey=>(Qu ss key).isSome).map λkey=>Yp (J3 key) ((Qu ss key).getD []) kind,rfl,SqL.of (by rw[hd4,Qbd]),_,rfl,?_⟩;rw[Zc];have ep:((RES.filter λkey=>(Qu ss key).isSome).all λkey=>Yp (J3 key) ((Qu ss key).getD []) kind)=ZE ss kind:=rfl;rw[ep];have s14:=s13.trans s4;cases epk:ZE ss kind with
       | false=>
        rw[epk,if_neg UL] at rb;rw[rb] at k;exact Qr (k H4 s14)
       | true=>
        rw[epk,if_pos rfl] at rb;rw[rb] at k;have hSO:Qj1 ss:=QlK (by omega) ed (by rw[ehd];exact eh) (by rw[ehd];show ZE ss (hd.getD 0 [])=true;rw[hk];exact epk);refine Qv ⟨_,rfl,_,_,rfl,rfl,⟨by decide,by decide⟩,_,rfl,λx dx nx ndx ne=>?_⟩;have P5:Jk (upd (upd H4 dx (.own x)) x (.ins C.Box dx [])) d es:=((P3.mono s4).mono (Qe.new ndx)).mono (Qe.new (by rw[Qq (Ne.symm ne)];exact nx));refine⟨x,dx,d,n / 2,es,by show [V.ref x,V.int ((n:Int) / 2),V.ref d]=_;rw[show ((n:Int) / 2)=((n / 2:Nat):Int) by omega],Qh,P5,by rw[ess];exact hSO,H,(s14.trans (Qe.new ndx)).trans (Qe.new (by rw[Qq (Ne.symm ne)];exact nx)),Qe.free s14 nx,λe he=>Qe.free s1 (fes e he),λH6 K6 hB=>⟨rfl,?_⟩⟩;have s46:Qe H4 H6:=Qe.made nx ndx K6;rw[ess] at hB;exact k H6 x (s14.trans s46) (Qe.free s14 nx) hB
  ·rw[decide_eq_false hn];rw[if_pos (.inl hn)] at rb;rw[rb] at k;exact Qr (Qr (k H (Qe.refl H)))
structure ZX(C:Cs)(H:Hp)(lb:Addr)(as:List Addr)(rs:List QF):Prop where
 lst:H lb=some (.lst (as.map V.ref))
 len:as.length=rs.length
 box:∀(i:Nat) (r:QF),rs[i]?=some r->∃a,as[i]?=some a/\Yg C H a r
theorem ZX.mono{C:Cs}{H H':Hp}{lb:Addr}{as:List Addr}{rs:List QF}(h:ZX C H lb as rs)(s:Qe H H'):ZX C H' lb as rs:=
 ⟨s _ _ h.lst,h.len,λi r e=>let ⟨a,e1,e2⟩:=h.box i r e;⟨a,e1,e2.mono s⟩⟩
theorem ZX.at{C:Cs}{H:Hp}{lb:Addr}{as:List Addr}{rs:List QF}(h:ZX C H lb as rs){i:Nat}{r:QF}(e:rs[i]?=some r) :
  Qj0 λa dx fs la aa ys=>atI (as.map V.ref) (i:Int)=some (.ref a)/\H a=some (.ins C.Box dx fs)/\QoP fs r la aa/\H la=some (.lst (r.by_.map λt=>V.str (S t)))/\H aa=some (.lst ys)/\J0 H ys r.acts:=by
 obtain⟨a,e1,dx,fs,la,aa,ys,h1,h2,h3,h4,h5⟩:=h.box i r e;exact⟨a,dx,fs,la,aa,ys,JN (j:=i) rfl (by rw[Xg,e1];rfl),h1,h2,h3,h4,h5⟩
abbrev Q6(rs:List QF):List Nat:=rs.map (·.deep)
def up(ds:List Nat)(d:Nat):Nat->Int
 | 0=>-1
 | j+1=>if ds.getD j 0<d then (j:Int) else up ds d j
theorem Qau(ds:List Nat)(d:Nat):∀i:Nat,-1<=up ds d i/\up ds d i<i
 | 0=>⟨Int.le_refl _,by show (-1:Int)<0;decide⟩
 | j+1=>by
  unfold up;have:=Qau ds d j
  split
  ·omega
  ·omega
def Jx(rs:List QF):List Int:=(Xs rs.length).map λi=>up (Q6 rs) ((Q6 rs).getD i 0) i
def Qos(C:Cs):Sp:=λvs H Q _=>YS λ(lb:Addr) (as:List Addr) (rs:List QF) (i:Nat)=>vs=[.ref lb,.int i]/\ZX C H lb as rs/\i<rs.length/\Q (.int (up (Q6 rs) ((Q6 rs).getD i 0) i)) H
theorem Qez{rs:List QF}{i:Nat}{r:QF}(h:rs[i]?=some r):(Q6 rs).getD i 0=r.deep:=by
 rw[Xf,Xg,h];rfl
theorem Wt:Qm ["boxes","place","parent"] ["boxes","place"] (Qg (top 34)):=Qsx
theorem QfD(T:Pg P w K mg C):Ok P w K mg base 1 "find_parent" ["boxes","place"] (Qos C):=by
 refine T.jh.ok Wt (λvs H Q E h=>?_) (λf cdv A outer s H vs Q E hr h=>?_)
 ·obtain⟨lb,as,rs,i,rfl,_⟩:=h;rfl
 ·obtain⟨lb,as,rs,i,rfl,hB,hi,k⟩:=h;have cB:=T.qf.1;obtain⟨ri,eri⟩:∃r,rs[i]?=some r:=⟨_,Xe hi⟩;obtain⟨ai,dxi,fsi,_,_,_,ati,hai,Fi,_⟩:=hB.at eri;intro X;refine⟨_,(Qd (Qx (i:=2) Wt.nd rfl (by first|exact .inl rfl|exact .inr rfl) (J6 QfG (pv 1) Qt))
   (Qd (QcS PassesOwn.never (PW.pt (QfQ (QE Qg7 (pv 2) Qt (Qz _)) (QcW (QE Qg7 (Qj (QV QJ (pv 0) (pv 2) (λ_ _=>rfl)) rfl) (Qj (QV QJ (pv 0) (pv 1) (λ_ _=>rfl)) rfl) (Qz _))))) (Qi (Qq7 (i:=2) Wt.nd rfl (by first|exact .inl rfl|exact .inr rfl) Qt QqP)))
   (Qi (Ql (pv 2))))),?_⟩
  refine⟨_,rfl,_,_,rfl,rfl,?_⟩;refine⟨λm σ H'=>H'=H/\m<=i/\σ=[some (.ref lb),some (.int i),some (.int ((m:Int)-1))]/\up (Q6 rs) ((Q6 rs).getD i 0) i=up (Q6 rs) ((Q6 rs).getD i 0) m,⟨i,rfl,Xy _,rfl,rfl⟩,?_⟩;rintro m σ H' ⟨rfl,hm,rfl,eu⟩;refine⟨_,rfl,_,_,rfl,rfl,_,rfl,?_⟩;cases m with
  | zero=>
   rw[decide_eq_false (by omega)];refine Qv (Qv ⟨_,rfl,?_⟩);rw[eu] at k;exact k
  | succ j=>
   rw[decide_eq_true (by omega)];obtain⟨rj,erj⟩:∃r,rs[j]?=some r:=⟨_,Xe (by omega)⟩;obtain⟨aj,dxj,fsj,_,_,_,atj,haj,Fj,_⟩:=hB.at erj;refine Qr ⟨_,rfl,_,rfl,lb,_,_,_,rfl,rfl,SqL.of hB.lst,by rw[show ((j+1:Nat):Int)-1=(j:Int) by omega];exact atj,aj,C.Box,dxj,fsj,_,rfl,haj,cB,T.qp,Fj.depth,_,rfl,_,rfl,lb,_,_,_,rfl,rfl,SqL.of hB.lst,ati,ai,C.Box,dxi,fsi,_,rfl,hai,cB,T.qp,Fi.depth,_,_,rfl,rfl,_,rfl,?_⟩;have e1:up (Q6 rs) ((Q6 rs).getD i 0) (j+1)=if rj.deep<ri.deep then (j:Int) else up (Q6 rs) ((Q6 rs).getD i 0) j:=by
    show (if (Q6 rs).getD j 0<(Q6 rs).getD i 0 then _ else _)=_;rw[Qez erj,Qez eri]
   by_cases hlt:rj.deep<ri.deep
   ·rw[decide_eq_false (show ¬((ri.deep:Nat):Int)<=((rj.deep:Nat):Int) by omega)];rw[if_pos hlt] at e1;rw[eu,e1] at k;refine Qv ⟨_,rfl,?_⟩;rw[show ((j+1:Nat):Int)-1=(j:Int) by omega];exact k
   ·rw[decide_eq_true (show ((ri.deep:Nat):Int)<=((rj.deep:Nat):Int) by omega)];rw[if_neg hlt] at e1;refine Qr ⟨_,fun σ' H' h=>h,?_⟩;refine⟨_,rfl,_,_,rfl,rfl,j,Ug _,rfl,by omega,?_,by rw[eu,e1]⟩;show [some (V.ref lb),some (V.int (i:Int)),some (V.int (((j+1:Nat):Int)-1-1))]=_;rw[show ((j+1:Nat):Int)-1-1=(j:Int)-1 by omega]
def J7(rs:List QF):List (Key × V):=(Xs rs.length).map λi=>(Sum.inr (S ((rs.map (·.ident)).getD i [])),V.int i)
def JA(rs:List QF):List (Key × V):=Jj [] (J7 rs)
def J2(C:Cs)(H:Hp)(pg:Addr)(as:List Addr)(rs:List QF):Prop:=QbT λdx fs lb dp lp=>H pg=some (.ins C.Page dx fs)/\fs.length<100/\lk fs "boxes"=some (.ref lb)/\lk fs "places"=some (.ref dp)/\lk fs "parents"=some (.ref lp)/\
 ZX C H lb as rs/\H dp=some (.dK (JA rs))/\H lp=some (.lst ((Jx rs).map V.int))
theorem J2.mono{C:Cs}{H H':Hp}{pg:Addr}{as:List Addr}{rs:List QF}(h:J2 C H pg as rs)(s:Qe H H'):J2 C H' pg as rs:=by
 obtain⟨dx,fs,lb,dp,lp,h1,h2,h3,h4,h5,h6,h7,h8⟩:=h;exact⟨dx,fs,lb,dp,lp,s _ _ h1,h2,h3,h4,h5,h6.mono s,s _ _ h7,s _ _ h8⟩
theorem Yg.keep{C:Cs}{H H':Hp}{a p Cq dx:Addr}{r:QF}(h:Yg C H a r)(hp:H p=some (.ins Cq dx []))(k:Zj p H H'):Yg C H' a r:=by
 obtain⟨dx',fs,la,aa,ys,h1,h2,h3,h4,h5⟩:=h;have ne:a≠p:=Q8 h1 hp λq=>by
  injection q with _ _ q3;have:=h2.depth;rw[q3] at this;cases this
 exact⟨dx',fs,la,aa,ys,k _ _ h1 ne,h2,k _ _ h3 (Q8 h3 hp λq=>nomatch q),k _ _ h4 (Q8 h4 hp λq=>nomatch q),h5.tups λb xs eb=>k _ _ eb (Q8 eb hp λq=>nomatch q)⟩
theorem ZX.keep{C:Cs}{H H':Hp}{lb p Cq dx:Addr}{as:List Addr}{rs:List QF}(h:ZX C H lb as rs)(hp:H p=some (.ins Cq dx []))(k:Zj p H H'):ZX C H' lb as rs:=
 ⟨k _ _ h.lst (Q8 h.lst hp λq=>nomatch q),h.len,λi r e=>let ⟨a,e1,e2⟩:=h.box i r e;⟨a,e1,e2.keep hp k⟩⟩
theorem Qhu{H:Hp}{a:Addr}{xs:List V}(h:SqL K H a xs):QbV (Ite K a) H xs.length (λi v H'=>QA λt x=>v=V.ref t/\xs[i]?=some x/\H' t=some (.tup [.int i,x])) where
 go:=λi H' s hi=>⟨xs,xs[i],Qe.seq s h,by simp[hi]⟩
 yld:=λi H1 v H2 s hi y=>by
  obtain⟨t,x,e1,e2,e3,e4⟩:=y;subst e3;exact⟨Qe.new e2,t,x,e1,e4 xs (Qe.seq s h),Qh⟩
 stop:=λi H' s hi=>⟨xs,Qe.seq s h,hi⟩
theorem Qgp{H:Hp}{rs:List QF}{l:List Nat}{ys:List V}(h:Paired (λ(i:Nat) (y:V)=>QA λ(q:Addr) (r:QF)=>y=V.ref q/\rs[i]?=some r/\H q=some (.tup [.str (S r.ident),.int (i:Int)])) l ys) :
  ∃ps:List Addr,ys=ps.map V.ref/\Paired (λp (kv:Key × V)=>SqT K H p [kV kv.1,kv.2]) ps (l.map λi=>(Sum.inr (S ((rs.map (·.ident)).getD i [])),V.int i)):=by
 induction h with
 | nil=>exact⟨[],rfl,.nil⟩
 | @cons i y l ys a r ih=>
  obtain⟨q,r,e1,e2,e3⟩:=a;obtain⟨ps,e,z⟩:=ih;have e4:(rs.map (·.ident)).getD i []=r.ident:=by rw[Xf,Xg,e2];rfl
  refine⟨q::ps,by rw[e1,e];rfl,.cons ?_ z⟩;simp only[e4];exact SqT.of e3
def QkQ(C:Cs):Sp:=λvs H Q _=>QbT λ(p dx lb:Addr) (as:List Addr) (rs:List QF)=>vs=[.ref p,.ref lb]/\H p=some (.ins C.Page dx [])/\ZX C H lb as rs/\rs.length<=1000/\∀H',Zj p H H'->J2 C H' p as rs->Q .non H'
theorem ZF:Qm ["self","boxes","place","box"] ["self","boxes"] (Qg (Ze (top 32) 0)):=Qsx
theorem QhW(T:Pg P w K mg C):OkC P w K mg base 2 "Page" C.Page ["self","boxes"] (QkQ C):=by
 refine T.qb.ok ZF (λvs H Q E h=>?_) (λf cdv A outer s H vs Q E hr h=>?_)
 ·obtain⟨p,dx,lb,as,rs,rfl,_⟩:=h;rfl
 ·obtain⟨p,dx,lb,as,rs,rfl,hp,hB,hl,k⟩:=h;have cP:=T.qb.1;have cB:=T.qf.1;intro X;refine⟨_,(Qd (Ju (pv 0) (pv 1) rfl)
   (Qd (Ju (pv 0) (Qaj (QeN rfl) rfl T.q5 boot_dict (Qa (JR rfl ZF.nd (QlE rfl T.q7 (Qa (pv 1) Qc)) (own:=[("place",2),("box",3)]) (QK (N:=["self","boxes","place","box"]) (sc:=Qg (Ze (top 32) 0)) (by decide +kernel)) (λ_ _ _ _ _=>(Qh9 K (n:=2) (Qak (QH (i:=2) ZF.nd rfl (by first|exact .inl rfl|exact .inr rfl)) (Qak (QH (i:=3) ZF.nd rfl (by first|exact .inl rfl|exact .inr rfl)) Qia)) rfl)) (λ_ _ _ _ _=>Jo) (λ_ _ _ _ _=>(Qky (Qa (Zr K (pv 3) rfl) (Qa (pv 2) Qc))))) Qc)) rfl)
   (Qi (Ju (pv 0) (JR rfl ZF.nd (QbO rfl T.qs (Qa (Qs Qw rfl T.qa Xv (Qa (pv 1) Qc)) Qc)) (own:=[("place",2)]) (QK (N:=["self","boxes","place","box"]) (sc:=Qg (Ze (top 32) 0)) (by decide +kernel)) (λ_ _ _ _ _=>(QH (i:=2) ZF.nd rfl (by first|exact .inl rfl|exact .inr rfl))) (λ_ _ _ _ _=>Jo) (λ_ _ _ _ _=>(Qk (QfD T) (Qp hr) rfl (Qa (pv 1) (Qa (pv 2) Qc))))) rfl)))),?_⟩
  refine⟨_,rfl,QM rfl hp cP T.qe (by show 0<1000;decide) λH1 f1 e1 K1 h1 l1=>?_⟩;rw[Uo] at l1;have B1:=hB.keep hp K1;dsimp only;refine tlc ?_;refine⟨_,rfl,lb,_,rfl,SqL.of B1.lst,?_⟩;refine lcW (Qhu (SqL.of B1.lst)) (by rw[Xb,B1.len,QI];omega) (λ_=>true) (λ(i:Nat) (y:V) (H:Hp)=>QA λ(q:Addr) (r:QF)=>y=V.ref q/\rs[i]?=some r/\H q=some (.tup [.str (S r.ident),.int (i:Int)])) ?_ (λi x H2 hi s2 rx Qy Qn q1 q2=>?_) λD ys H2 hD s2 hd hps=>?_
  ·rintro i y H H' st ⟨q,r,z1,z2,z3⟩;exact⟨q,r,z1,z2,st _ _ z3 (λ_ z=>nomatch z)⟩
  ·obtain⟨t,v,rfl,ev,ht⟩:=rx;rw[Xb,B1.len] at hi;obtain⟨r,er⟩:∃r,rs[i]?=some r:=⟨_,Xe hi⟩;obtain⟨a,ea,dxa,fsa,_,_,_,ha,Fa,_⟩:=(B1.mono s2).box i r er;rw[Xg,ea] at ev;have ev:V.ref a=v:=Xc ev;subst ev;refine⟨t,_,rfl,SqT.of ht,rfl,_,_,rfl,_,_,rfl,rfl,rfl,Qr ?_⟩;refine⟨_,rfl,a,C.Box,dxa,fsa,_,rfl,ha,cB,T.qw,Fa.ident,_,rfl,(by show 2<=sizeLine;decide),λq hq=>?_⟩;exact q1 rfl _ _ (Qe.new hq) ⟨q,r,rfl,er,Qh⟩
  ·rw[X2.mpr (λ_ _=>rfl),Xb,B1.len] at hps;obtain⟨ps,rfl,hpp⟩:=Qgp (K:=K) hps;refine⟨D,ps,J7 rs,rfl,SqL.of hd,hpp,λdp hdp=>?_⟩;have s3:=s2.trans (Qe.new (o:=.dK (Jj [] (J7 rs))) hdp);refine QM rfl (s3 _ _ h1) cP T.qh (by omega) λH4 f2 e2 K4 h4 l2=>?_
   have hdp4:H4 dp=some (.dK (JA rs)):=K4 _ _ Qh (Q8 Qh (s3 _ _ h1) λq=>nomatch q);replace K4:=(K1.same s3).trans K4;have B4:=hB.keep hp K4;dsimp only;refine tlc ?_;refine⟨_,rfl,lb,_,rfl,.inl (SqL.of B4.lst),_,rfl,by omega,by rw[Xb,B4.len];omega,?_⟩;rw[Xb,B4.len,Uw];refine lcF WA (by rw[QI];omega) (λ_=>true) (λi=>.int (up (Q6 rs) ((Q6 rs).getD i 0) i)) (λi x H5 hi s5 rx Qy Qn q1 q2=>?_) λD2 H5 hD2 s5 hd5=>?_
   ·subst rx;refine⟨rfl,Qr ⟨_,rfl,_,rfl,lb,as,rs,i,by rw[Xbd];rfl,B4.mono s5,hi,q1 rfl H5 (Qe.refl _)⟩⟩
   ·rw[X2.mpr (λ_ _=>rfl)] at hd5;refine QM rfl (s5 _ _ h4) cP T.qy (by omega) λH6 f3 e3 K6 h6 l3=>?_
    have kk:=(K4.same s5).trans K6;refine k H6 kk ⟨dx,f3,lb,dp,D2,h6,by omega,by show Xz _ _=_;rw[e3,QD (by decide +kernel),e2,QD (by decide +kernel),e1,JU],by show Xz _ _=_;rw[e3,QD (by decide +kernel),e2,JU],by show Xz _ _=_;rw[e3,JU],hB.keep hp kk,K6 _ _ (s5 _ _ hdp4) (Q8 (s5 _ _ hdp4) (s5 _ _ h4) λq=>nomatch q),?_⟩;have:(Jx rs).map V.int=(Xs rs.length).map λi=>V.int (up (Q6 rs) ((Q6 rs).getD i 0) i):=by
     unfold Jx;rw[Xr];rfl
    rw[this];exact K6 _ _ hd5 (Q8 hd5 (s5 _ _ h4) λq=>nomatch q)
theorem QcQ{rs:List QF}{i:Nat}(hi:i<rs.length):(Jx rs)[i]?=some (up (Q6 rs) ((Q6 rs).getD i 0) i):=by
 unfold Jx;rw[Xg,XbO hi];rfl
abbrev JY(rs:List QF)(i:Nat):Int:=up (Q6 rs) ((Q6 rs).getD i 0) i
def ZQ(rs:List QF):Nat->Nat->List Nat
 | 0,_=>[]
 | f+1,i=>match JY rs i with
  | .ofNat j=>j::ZQ rs f j
  | .negSucc _=>[]
def QQ(rs:List QF)(i:Nat):List Nat:=ZQ rs (i+1) i
theorem Qgj(rs:List QF):∀(f i:Nat),i<f->ZQ rs f i=QQ rs i:=by
 have key:∀(n f i:Nat),i<n->i<f->ZQ rs f i=ZQ rs (i+1) i:=by
  intro n
  induction n with
  | zero=>intro f i h;omega
  | succ n ih=>
   intro f i hn hf;cases f with
   | zero=>omega
   | succ f=>
    unfold ZQ;cases h:JY rs i with
    | negSucc k=>rfl
    | ofNat j=>
     have hj:=(Qau (Q6 rs) ((Q6 rs).getD i 0) i).2;have hj:JY rs i<i:=hj;rw[h] at hj;have hj:(j:Int)<i:=hj;show j::ZQ rs f j=j::ZQ rs i j;rw[ih f j (by omega) (by omega),ih i j (by omega) (by omega)]
 intro f i h;exact key (i+1) f i (by omega) h
theorem Yj(rs:List QF)(i:Nat):QQ rs i=match JY rs i with
  | .ofNat j=>j::QQ rs j
  | .negSucc _=>[]:=by
 unfold QQ
 conv=>lhs;unfold ZQ
 cases h:JY rs i with
 | negSucc k=>rfl
 | ofNat j=>
  have hj:JY rs i<i:=(Qau (Q6 rs) ((Q6 rs).getD i 0) i).2;rw[h] at hj;have hj:(j:Int)<i:=hj;show j::ZQ rs i j=_;rw[Qgj rs i j (by omega)];rfl
def Qon(C:Cs):Sp:=λvs H Q _=>YS λ(pg:Addr) (as:List Addr) (rs:List QF) (i:Nat)=>vs=[.ref pg,.int i]/\J2 C H pg as rs/\i<rs.length/\rs.length<=1000/\∀H' l,Qe H H'->H l=none->H' l=some (.lst ((QQ rs i).map λj=>V.int (j:Nat)))->Q (.ref l) H'
theorem ZI:Qm ["page","place","around"] ["page","place"] (Qg (top 35)):=Qsx
theorem YB(T:Pg P w K mg C):Ok P w K mg base 1 "places_around" ["page","place"] (Qon C):=by
 refine T.ji.ok ZI (λvs H Q E h=>?_) (λf cdv A outer s H vs Q E hr h=>?_)
 ·obtain⟨pg,as,rs,i,rfl,_⟩:=h;rfl
 ·obtain⟨pg,as,rs,i,rfl,hP,hi,hl,k⟩:=h;have cP:=T.qb.1;intro X;refine⟨_,(Qd (Qx (i:=2) ZI.nd rfl (by first|exact .inl rfl|exact .inr rfl) (Q0 Qc))
   (Qd (Qx (i:=1) ZI.nd rfl (by first|exact .inl rfl|exact .inr rfl) (QV QJ (Qj (pv 0) rfl) (pv 1) (λ_ _=>rfl)))
   (Qd (QcS PassesOwn.never (QE Qg7 (pv 1) Qt (Qz _)) (Qd (JF (J4 XD X7 X8 ZD (pv 2) (Qa (pv 1) Qc)))
   (Qi (Qx (i:=1) ZI.nd rfl (by first|exact .inl rfl|exact .inr rfl) (QV QJ (Qj (pv 0) rfl) (pv 1) (λ_ _=>rfl))))))
   (Qi (Ql (pv 2)))))),?_⟩
  refine⟨XC _,λl hl0=>?_⟩;have pat:∀{H':Hp} {j:Nat},Qe H H'->j<rs.length->JP λdx fs lp=>H' pg=some (.ins C.Page dx fs)/\lk fs "parents"=some (.ref lp)/\SqL K H' lp ((Jx rs).map V.int)/\atI ((Jx rs).map V.int) (j:Int)=some (.int (JY rs j)):=by
   intro H' j s' hj;obtain⟨dx,fs,lb,dp,lp,h1,h2,h3,h4,h5,h6,h7,h8⟩:=hP.mono s';exact⟨dx,fs,lp,h1,h5,SqL.of h8,JN (j:=j) rfl (by rw[Xg,QcQ hj];rfl)⟩
  obtain⟨dx,fs,lp,h1,h5,h8,e8⟩:=pat (Qe.new (o:=.lst []) hl0) hi;refine⟨_,rfl,pg,C.Page,dx,fs,_,rfl,h1,cP,T.qy,h5,_,rfl,lp,_,_,_,rfl,rfl,h8,e8,?_⟩;refine⟨λm σ H'=>QA λ(x:Int) (acc:List Nat)=>σ=[some (.ref pg),some (.int x),some (.ref l)]/\Qe H H'/\H' l=some (.lst (acc.map λj=>V.int (j:Nat)))/\acc.length+m<=i+1/\-1<=x/\x<i/\m=(x+1).toNat/\
    QQ rs i=acc++(match x with | .ofNat j=>j::QQ rs j | .negSucc _=>[]),⟨(JY rs i+1).toNat,JY rs i,[],rfl,Qe.new hl0,Qh,?_,(Qau _ _ i).1,(Qau _ _ i).2,rfl,Yj rs i⟩,?_⟩
  ·have:=Qau (Q6 rs) ((Q6 rs).getD i 0) i;show 0+(JY rs i+1).toNat<=i+1;have h2:JY rs i<i:=this.2;omega
  ·rintro m σ H' ⟨x,acc,rfl,s1,hl1,hlen,hx1,hx2,rfl,ea⟩;refine⟨_,rfl,_,_,rfl,rfl,_,rfl,?_⟩;cases x with
   | negSucc n=>
    rw[decide_eq_false (by omega)];refine Qv ⟨_,rfl,?_⟩;have ea:QQ rs i=acc++[]:=ea;rw[XG] at ea;exact k H' l s1 hl0 (by rw[hl1,ea])
   | ofNat j=>
    have hj:(j:Int)<i:=hx2;rw[decide_eq_true (by show (0:Int)<=(j:Int);omega)];refine Qr ⟨_,fun σ' H' h=>h,?_⟩;have hlen:acc.length+(Xan j+1).toNat<=i+1:=hlen;refine⟨_,rfl,.inl ⟨rfl,_,SqL.of hl1⟩,_,rfl,l,_,_,rfl,rfl,hl1,by rw[Xb,QI];omega,?_⟩;have s2:Qe H (upd H' l (.lst ((acc.map λj=>V.int (j:Nat))++[V.int (Xan j)]))):=Qe.updL s1 hl0;obtain⟨dx,fs,lp,h1,h5,h8,e8⟩:=pat s2 (show j<rs.length by omega);refine⟨_,rfl,pg,C.Page,dx,fs,_,rfl,h1,cP,T.qy,h5,_,rfl,lp,_,_,_,rfl,rfl,h8,e8,?_⟩;have hu:=Qau (Q6 rs) ((Q6 rs).getD j 0) j;have hu2:JY rs j<j:=hu.2;have hu1:-1<=JY rs j:=hu.1;refine⟨(JY rs j+1).toNat,?_,JY rs j,acc++[j],rfl,s2,?_,?_,hu1,by omega,rfl,?_⟩
    ·show (JY rs j+1).toNat<(Xan j+1).toNat;have:Xan j=(j:Int):=rfl;omega
    ·rw[Qh,XL];rfl
    ·rw[Xi,XI];have:Xan j=(j:Int):=rfl;omega
    ·rw[ea,XH];show acc++(j::QQ rs j)=acc++([j]++_);rw[Yj rs j];rfl
def WD(r:QF):Bool:=decide (r.kind=Xa "page")&&(decide (r.deep=0)&&!r.hidden)
def QpR(C:Cs):Sp:=λvs H Q _=>QA λ(a:Addr) (r:QF)=>vs=[.ref a]/\Yg C H a r/\Q (.bl (WD r)) H
theorem QjC:Qm ["box"] ["box"] (Qg (top 47)):=Qsx
theorem Qjk(T:Pg P w K mg C):Ok P w K mg base 1 "is_first" ["box"] (QpR C):=by
 refine T.ju.ok QjC (λvs H Q E h=>?_) (λf cdv A outer s H vs Q E hr h=>?_)
 ·obtain⟨a,r,rfl,_⟩:=h;rfl
 ·obtain⟨a,r,rfl,⟨dx,fs,la,aa,ys,h1,F,_⟩,k⟩:=h;have cB:=T.qf.1;unfold WD at k;intro X;refine⟨_,(Qi (Ql (JL (QR Jt (Qj (pv 0) rfl) QB (Qz _)) (JL (QR Jt (Qj (pv 0) rfl) Qt (Qz _)) (Zf (QfM (Qj (pv 0) rfl))))))),?_⟩;refine⟨_,rfl,a,C.Box,dx,fs,_,rfl,h1,cB,T.qg,F.kind,rfl,_,rfl,?_⟩;rw[lit (s:="page") (a:=Xa "page") (by decide +kernel)];cases e:decide (r.kind=Xa "page") with
  | false=>
   rw[e] at k;exact Qv k
  | true=>
   rw[e] at k;refine Qr ⟨_,rfl,a,C.Box,dx,fs,_,rfl,h1,cB,T.qp,F.depth,rfl,_,rfl,?_⟩;rw[show V.int 0=V.int ((0:Nat):Int) from rfl,QiM];cases e2:decide (r.deep=0) with
   | false=>
    rw[e2] at k;exact Qv k
   | true=>
    rw[e2] at k;exact Qr ⟨_,rfl,a,C.Box,dx,fs,_,rfl,h1,cB,T.qL,F.hidden,_,rfl,k⟩
theorem Qfn(acc kvs:List (Key × V))(p:Key × V):Jj acc (kvs++[p])=Wn (Jj acc kvs) p.1 p.2:=by simp[Jj,Xa7]
theorem Qg3(kvs:List (Key × V))(k:Key):(Jn (Jj [] kvs) k).isSome=true↔k ∈ kvs.map Prod.fst:=by
 refine QbB (p:=λkvs=>(Jn (Jj [] kvs) k).isSome=true↔k ∈ kvs.map Prod.fst) (by simp[Jj,Jn]) (λl x ih=>?_) kvs;rw[Qfn,QoH]
 by_cases h:k=x.1
 ·rw[if_pos h];simp[h]
 ·rw[if_neg h,ih];simp[h]
theorem Qmv(kvs:List (Key × V)):(Jj [] kvs).length<=kvs.length/\((Jj [] kvs).length=kvs.length↔(kvs.map Prod.fst).Nodup):=by
 refine QbB (p:=λkvs=>(Jj [] kvs).length<=kvs.length/\((Jj [] kvs).length=kvs.length↔(kvs.map Prod.fst).Nodup)) ⟨Xy _,by simp[Jj]⟩ (λl x ih=>?_) kvs;obtain⟨i1,i2⟩:=ih;have hh:=Qg3 l x.1;rw[Qfn,Xi,XI,XL,Xaj]
 by_cases h:x.1 ∈ l.map Prod.fst
 ·have hh:=hh.mpr h;have:(Wn (Jj [] l) x.1 x.2).length=(Jj [] l).length:=by
   unfold Wn;rw[Wz,hh,if_pos rfl,Xb]
  rw[this];refine⟨by omega,⟨λq=>by omega,λq=>?_⟩⟩;exact absurd rfl (q.2.2 x.1 h x.1 (by simp))
 ·have hn:Jn (Jj [] l) x.1=none:=by
   cases q:Jn (Jj [] l) x.1 with
   | none=>rfl
   | some v=>exact absurd (hh.mp (by rw[q];rfl)) h
  rw[QcV _ hn,Xi,XI];refine⟨by omega,⟨λq=>⟨i2.mp (by omega),by simp,λa ha b hb e=>?_⟩,λq=>?_⟩⟩
  ·have:b=x.1:=by simpa using hb
   rw[e,this] at ha;exact h ha
  ·have:=i2.mpr q.1;omega
abbrev QN(rs:List QF):List Qb:=rs.map (·.ident)
theorem WW(rs:List QF):(J7 rs).map Prod.fst=(QN rs).map λt=>(Sum.inr (S t):Key):=by
 unfold J7;rw[Xr];have e:=JS (QN rs) []
 conv=>rhs;rw[<-e,Xr,Xb]
 rfl
theorem QfP(rs:List QF)(t:Qb):(Jn (JA rs) (Sum.inr (S t))).isSome=(QN rs).contains t:=by
 unfold JA;have hh:=Qg3 (J7 rs) (Sum.inr (S t));rw[WW] at hh
 by_cases h:t ∈ QN rs
 ·rw[hh.mpr (Xk.mpr ⟨t,h,rfl⟩)];simp[h]
 ·have:¬(Jn (Jj [] (J7 rs)) (Sum.inr (S t))).isSome=true:=λq=>by
   obtain⟨u,hu,e⟩:=Xk.mp (hh.mp q);rw[YT (Sum.inr.inj e)] at hu;exact h hu
  rw[show (Jn (Jj [] (J7 rs)) (Sum.inr (S t))).isSome=false by simpa using this];simp[h]
theorem Qfr{l:List Qb}:(l.map λt=>(Sum.inr (S t):Key)).Nodup↔l.Nodup:=by
 induction l with
 | nil=>simp
 | cons a r ih=>
  rw[Xj,Ue,Ue,ih];have:(Sum.inr (S a):Key) ∈ (r.map λt=>(Sum.inr (S t):Key))↔a ∈ r:=by
   constructor
   ·intro h;obtain⟨b,hb,e⟩:=Xk.mp h;rw[YT (Sum.inr.inj e)] at hb;exact hb
   ·exact λh=>Xk.mpr ⟨a,h,rfl⟩
  rw[this]
theorem QkA(rs:List QF):decide (((JA rs).length:Int)<(rs.length:Int))=!Xu (QN rs):=by
 obtain⟨h1,h2⟩:=Qmv (J7 rs);rw[WW,Qfr,<-Yl] at h2;have hl:(J7 rs).length=rs.length:=by simp[J7]
 rw[hl] at h1 h2;have h1:(JA rs).length<=rs.length:=h1;have h2:(JA rs).length=rs.length↔Xu (QN rs)=true:=h2;cases e:Xu (QN rs) with
 | true=>
  have:=h2.mpr e;exact decide_eq_false (by omega)
 | false=>
  refine decide_eq_true ?_;have:(JA rs).length≠rs.length:=λq=>by rw[h2.mp q] at e;cases e
  omega
def Y8(r:QF):List Qb:=(r.by_++r.acts.map λt=>(Qo t).2)++(if r.hint.isEmpty then [] else [r.hint])
def Z1(ids:List Qb)(r:QF):Bool:=(Y8 r).all ids.contains
def QpX(C:Cs):Sp:=λvs H Q _=>QbT λ(pg a:Addr) (as:List Addr) (rs:List QF) (r:QF)=>vs=[.ref pg,.ref a]/\J2 C H pg as rs/\Yg C H a r/\r.by_.length<=100000/\r.acts.length<=100000/\∀H',Qe H H'->Q (.bl (Z1 (QN rs) r)) H'
theorem Zb:Qm ["page","box","named","act","ident"] ["page","box"] (Qg (top 48)):=Qsx
theorem QfE(T:Pg P w K mg C):Ok P w K mg base 1 "names_boxes" ["page","box"] (QpX C):=by
 refine T.jv.ok Zb (λvs H Q E h=>?_) (λf cdv A outer s H vs Q E hr h=>?_)
 ·obtain⟨pg,a,as,rs,r,rfl,_⟩:=h;rfl
 ·obtain⟨pg,a,as,rs,r,rfl,hP,hB,hb,hac,k⟩:=h;have cP:=T.qb.1;have cB:=T.qf.1;have hB0:=hB;obtain⟨dx,fs,la,aa,ys,h1,F,h3,h4,h5⟩:=hB0;intro X;refine⟨_,(Qd (Qx (i:=2) Zb.nd rfl (by first|exact .inl rfl|exact .inr rfl) (J6 Qch (Qj (pv 1) rfl) (JR rfl Zb.nd (Q4 (Qj (pv 1) rfl)) (own:=[("act",3)]) (QK (N:=["page","box","named","act","ident"]) (sc:=Qg (top 48)) (by decide +kernel)) (λ_ _ _ _ _=>(QH (i:=3) Zb.nd rfl (by first|exact .inl rfl|exact .inr rfl))) (λ_ _ _ _ _=>Jo) (λ_ _ _ _ _=>(QV (QhR K) (pv 3) Qt (λ_ _=>rfl))))))
   (Qd (Q1 (QE Qa4 (Qj (pv 1) rfl) QB (Qz _)) (Qi (JF (J4 XD X7 X8 ZD (pv 2) (Qa (Qj (pv 1) rfl) Qc)))) QC)
   (Qi (Ql (Qs (QaB rfl) rfl T.qj boot_all (Qa (JR rfl Zb.nd (Q4 (pv 2)) (own:=[("ident",4)]) (QK (N:=["page","box","named","act","ident"]) (sc:=Qg (top 48)) (by decide +kernel)) (λ_ _ _ _ _=>(QH (i:=4) Zb.nd rfl (by first|exact .inl rfl|exact .inr rfl))) (λ_ _ _ _ _=>Jo) (λ_ _ _ _ _=>(QfJ (Qci (Zp hr) (pv 4) (Zr K (pv 0) rfl)) (by rfl)))) Qc)))))),?_⟩
  refine⟨_,rfl,a,C.Box,dx,fs,_,rfl,h1,cB,T.qB,F.by_,?_⟩;refine tlc ?_;refine⟨_,rfl,a,C.Box,dx,fs,_,rfl,h1,cB,T.qD,F.acts,aa,rfl,⟨_,SqL.of h4⟩,?_⟩;have hlen:=h5.len;refine lcF (QW (SqL.of h4)) (by rw[QI];omega) (λ_=>true) (λi=>.str (S (Qo (r.acts.getD i [])).2)) (λi x H2 hi s2 rx Qy Qn q1 q2=>?_) λD H2 hD s2 hd2=>?_
  ·obtain⟨t,q,et,rfl,eq⟩:=h5.get rx;refine⟨rfl,Qr ⟨_,rfl,q,_,_,_,rfl,rfl,SqT.of (s2 _ _ eq),JN (j:=1) rfl rfl,?_⟩⟩;have:=q1 rfl H2 (Qe.refl _);rw[Xf,et] at this;exact this
  ·rw[X2.mpr (λ_ _=>rfl),hlen] at hd2;have e2:(Xs r.acts.length).map (λi=>V.str (S (Qo (r.acts.getD i [])).2))=(r.acts.map λt=>(Qo t).2).map λt=>V.str (S t):=by
    rw[Xr]
    conv=>rhs;rw[<-JS r.acts [],Xr]
    rfl
   rw[e2] at hd2;refine⟨la,D,_,_,rfl,rfl,s2 _ _ h3,hd2,by simp only[Xb];rw[QI];omega,λl hl=>?_⟩;have s3:Qe H (upd H2 l (.lst ((r.by_.map λt=>V.str (S t))++((r.acts.map λt=>(Qo t).2).map λt=>V.str (S t))))):=s2.trans (Qe.new hl);have hl3:(upd H2 l (.lst ((r.by_.map λt=>V.str (S t))++((r.acts.map λt=>(Qo t).2).map λt=>V.str (S t))))) l=some (.lst ((r.by_++r.acts.map λt=>(Qo t).2).map λt=>V.str (S t))):=by rw[Qh,XL]
   have hlH:H l=none:=Qe.free s2 hl;generalize upd H2 l (.lst ((r.by_.map λt=>V.str (S t))++((r.acts.map λt=>(Qo t).2).map λt=>V.str (S t))))=H3 at s3 hl3 ⊢;have fin:∀(H4:Hp),Qe H H4->H4 l=some (.lst ((Y8 r).map λt=>V.str (S t)))->Qp5 (tCB (Qr9 K) (Qb4 (tLc (Qqi K (Wx 2)) (Qe2 4) Qss (Qp4 (Wx 4) (Qry K (Wx 0) "places")) [4]) Qgv)) { nx:=λ_ H'=>Q .non H',rt:=Q } [some (.ref pg),some (.ref a),some (.ref l),none,none] H4:=by
    intro H4 s4 hl4;refine tlc ?_;refine⟨_,rfl,l,rfl,⟨_,SqL.of hl4⟩,?_⟩;have hz:(Y8 r).length<=sizeLine:=by
     unfold Y8;rw[Xi,Xi,Xb,QI]
     split<;>simp<;>omega
    refine lcM (α:=Qb) (xs:=Y8 r) (vf:=λc=>V.str (S c)) [] (Jw (QW (SqL.of hl4))) hz (λt=>.bl ((QN rs).contains t)) (λt H5 ht s5 Qy Qn q1=>?_) λD5 H5 hD5 s5 hd5=>?_
    ·obtain⟨dxp,fsp,lb,dp,lp,p1,p2,p3,p4,p5,p6,p7,p8⟩:=hP.mono (s4.trans s5);refine⟨rfl,Qr ⟨_,rfl,_,rfl,pg,C.Page,dxp,fsp,_,rfl,p1,cP,T.qh,p4,dp,_,rfl,ZP.k (k:=Sum.inr (S t)) p7,?_⟩⟩;rw[QfP];exact q1 H5 (Qe.refl _)
    ·refine⟨D5,(Y8 r).map (QN rs).contains,rfl,SqL.of (by rw[hd5,Qbd]),?_⟩;rw[Zc];exact k H5 (s4.trans s5)
   refine⟨_,rfl,a,C.Box,dx,fs,_,rfl,s3 _ _ h1,cB,T.qx,F.hint,rfl,_,rfl,?_⟩;rw[QhS];cases e:r.hint.isEmpty with
   | true=>
    refine Qv (fin H3 s3 ?_);rw[hl3];unfold Y8;rw[e,if_pos rfl,XG]
   | false=>
    refine Qr ⟨_,rfl,.inl ⟨rfl,_,SqL.of hl3⟩,_,rfl,a,C.Box,dx,fs,_,rfl,s3 _ _ h1,cB,T.qx,F.hint,l,_,_,rfl,rfl,hl3,by rw[Xb,Xi,Xb,QI];omega,?_⟩;refine fin _ (Qe.updL s3 hlH) ?_;rw[Qh];unfold Y8;rw[e,if_neg UL];simp[XL]
def QhJ(k:Qb):Option Qb:=if k=Xa "row" then some (Xa "table") else if k=Xa "cell" then some (Xa "row") else if k=Xa "th" then some (Xa "row") else if k=Xa "item" then some (Xa "list") else none
abbrev Qo9:List (Key × V):=[(Sum.inr (S (Xa "row")),.str (S (Xa "table"))),(Sum.inr (S (Xa "cell")),.str (S (Xa "row"))),(Sum.inr (S (Xa "th")),.str (S (Xa "row"))),(Sum.inr (S (Xa "item")),.str (S (Xa "list")))]
theorem Qnz(k:Qb):Jn Qo9 (Sum.inr (S k))=(QhJ k).map λt=>V.str (S t):=by
 unfold QhJ;have h:∀{a b:Qb},(Sum.inr (S a):Key)=Sum.inr (S b)↔b=a:=λ{a b}=>⟨λq=>(YT (Sum.inr.inj q)).symm,λq=>by rw[q]⟩
 by_cases h1:k=Xa "row"
 ·rw[if_pos h1,Jf (h.mpr h1)];rfl
 ·rw[if_neg h1,QY λq=>h1 (h.mp q)]
  by_cases h2:k=Xa "cell"
  ·rw[if_pos h2,Jf (h.mpr h2)];rfl
  ·rw[if_neg h2,QY λq=>h2 (h.mp q)]
   by_cases h3:k=Xa "th"
   ·rw[if_pos h3,Jf (h.mpr h3)];rfl
   ·rw[if_neg h3,QY λq=>h3 (h.mp q)]
    by_cases h4:k=Xa "item"
    ·rw[if_pos h4,Jf (h.mpr h4)];rfl
    ·rw[if_neg h4,QY λq=>h4 (h.mp q)];rfl
def Qc7:List Qb:=["table","row","list"].map Xa
def Qad(kind home:Qb):Bool:=match QhJ kind with
 | some h=>decide (h=home)
 | none=>!Qc7.contains home
def noR:QF:=⟨0,[],[],[],[],[],[],false,false,false,[]⟩
abbrev rAt(rs:List QF)(i:Nat):QF:=rs.getD i noR
def JB(rs:List QF)(i:Nat):Bool:=!decide ((rAt rs i).kind=Xa "page")&&((decide (1<=(rAt rs i).deep)&&decide ((rAt rs i).deep<=(rAt rs (i-1)).deep+1))&&Qad (rAt rs i).kind (rAt rs (JY rs i).toNat).kind)
theorem QU{rs:List QF}{i:Nat}(h:i<rs.length):rs[i]?=some (rAt rs i):=by
 show rs[i]?=some (rs.getD i noR);rw[Xf,Xe h];rfl
theorem Qcj{α β:Type}(xs:List α)(d:α)(f:α->β):(Xs xs.length).map (λi=>f (xs.getD i d))=xs.map f:=by
 have e:=JS xs d;have:=congrArg (Xbg f) e;rw[Xr] at this;exact this
theorem nX{D:QeH}{σ:L2.St}{H:Hp}(h:D.nx σ H):Qqp D σ H:=h
theorem QjU{ds:List Nat}{d:Nat}(h0:ds.getD 0 0=0)(hd:1<=d):∀{i:Nat},1<=i->0<=up ds d i
 | 0,h=>by omega
 | 1,_=>by
  show 0<=if ds.getD 0 0<d then ((0:Nat):Int) else up ds d 0;rw[if_pos (by omega)];exact Int.le_refl _
 | j+2,_=>by
  show 0<=if ds.getD (j+1) 0<d then ((j+1:Nat):Int) else up ds d (j+1)
  split
  ·omega
  ·exact QjU h0 hd (by omega)
def Qow(C:Cs):Sp:=λvs H Q _=>YS λ(pg:Addr) (as:List Addr) (rs:List QF) (i:Nat)=>vs=[.ref pg,.int i]/\J2 C H pg as rs/\1<=i/\i<rs.length/\(rAt rs 0).deep=0/\Q (.bl (JB rs i)) H
theorem Y2:Qm ["page","place","box","home"] ["page","place"] (Qg (top 49)):=Qsx
theorem Qem(T:Pg P w K mg C):Ok P w K mg base 1 "stands_right" ["page","place"] (Qow C):=by
 refine T.jw.ok Y2 (λvs H Q E h=>?_) (λf cdv A outer s H vs Q E hr h=>?_)
 ·obtain⟨pg,as,rs,i,rfl,_⟩:=h;rfl
 ·obtain⟨pg,as,rs,i,rfl,hP,h1i,hi,h0,k⟩:=h;have cP:=T.qb.1;have cB:=T.qf.1;obtain⟨dxp,fsp,lb,dp,lp,p1,p2,p3,p4,p5,p6,p7,p8⟩:=hP;obtain⟨ai,dxi,fsi,_,_,_,ati,hai,Fi,_⟩:=p6.at (QU hi);obtain⟨aj,dxj,fsj,_,_,_,atj,haj,Fj,_⟩:=p6.at (QU (show i-1<rs.length by omega));unfold JB at k;intro X;refine⟨_,(Qd (Qx (i:=2) Y2.nd rfl (by first|exact .inl rfl|exact .inr rfl) (QV QJ (Qj (pv 0) rfl) (pv 1) (λ_ _=>rfl)))
   (Qd (Q1 (PW.pt (Qa5 (QE Jt (Qj (pv 2) rfl) QB (Qz _)) (WX (Zg (QcT WI WI Qt (Qj (pv 2) rfl) (J6 Qbq (Qj (QV QJ (Qj (pv 0) rfl) (J6 QfG (pv 1) Qt) (λ_ _=>rfl)) rfl) Qt)))))) (Qi (Ql Qd2)) QC)
   (Qd (Qx (i:=3) Y2.nd rfl (by first|exact .inl rfl|exact .inr rfl) (Qj (QV QJ (Qj (pv 0) rfl) (QV QJ (Qj (pv 0) rfl) (pv 1) (λ_ _=>rfl)) (λ_ _=>rfl)) rfl))
   (Qd (Q1 (Z7 (QeC T.qU (Qj (pv 2) rfl) (QL rfl T.qT)) (by rfl)) (Qi (Ql (QR Jt (Qbr T.qU (QL rfl T.qT) (Qj (pv 2) rfl) (λ_ _=>rfl)) (pv 3) (Qz _)))) QC)
   (Qi (Ql (QR QaI (pv 3) (QL rfl T.zv) rfl))))))),?_⟩
  refine⟨_,rfl,pg,C.Page,dxp,fsp,_,rfl,p1,cP,T.qe,p3,_,rfl,lb,_,_,_,rfl,rfl,SqL.of p6.lst,ati,?_⟩;refine⟨_,rfl,ai,C.Box,dxi,fsi,_,rfl,hai,cB,T.qg,Fi.kind,rfl,_,rfl,?_⟩;rw[lit (s:="page") (a:=Xa "page") (by decide +kernel)];cases e1:decide ((rAt rs i).kind=Xa "page") with
  | true=>
   rw[e1] at k;exact Qr (Qr k)
  | false=>
   rw[e1] at k;refine Qv ⟨_,rfl,ai,C.Box,dxi,fsi,_,rfl,hai,cB,T.qp,Fi.depth,_,_,rfl,rfl,_,rfl,?_⟩
   by_cases hd1:1<=(rAt rs i).deep
   ·rw[decide_eq_true hd1] at k;rw[decide_eq_true (show (1:Int)<=(((rAt rs i).deep:Nat):Int) by omega)];refine Qr ⟨_,rfl,pg,C.Page,dxp,fsp,_,rfl,p1,cP,T.qe,p3,_,rfl,_,_,rfl,rfl,lb,_,_,_,rfl,rfl,SqL.of p6.lst,by rw[show (i:Int)-1=((i-1:Nat):Int) by omega];exact atj,aj,C.Box,dxj,fsj,_,rfl,haj,cB,T.qp,Fj.depth,_,_,rfl,rfl,_,_,rfl,rfl,_,rfl,?_⟩
    by_cases hd2:(rAt rs i).deep<=(rAt rs (i-1)).deep+1
    ·rw[decide_eq_true hd2] at k;rw[decide_eq_true (show (((rAt rs i).deep:Nat):Int)<=(((rAt rs (i-1)).deep:Nat):Int)+1 by omega)];refine Qv ?_;have hup:0<=JY rs i:=QjU (by rw[Qez (QU (show 0<rs.length by omega))];exact h0) (by rw[Qez (QU hi)];exact hd1) h1i;have hlt:JY rs i<i:=(Qau (Q6 rs) ((Q6 rs).getD i 0) i).2;obtain⟨ah,dxh,fsh,_,_,_,ath,hah,Fh,_⟩:=p6.at (QU (show (JY rs i).toNat<rs.length by omega));rw[Int.toNat_of_nonneg hup] at ath;refine⟨_,rfl,pg,C.Page,dxp,fsp,_,rfl,p1,cP,T.qe,p3,_,rfl,pg,C.Page,dxp,fsp,_,rfl,p1,cP,T.qy,p5,_,rfl,lp,_,_,_,rfl,rfl,SqL.of p8,JN (j:=i) rfl (by rw[Xg,QcQ hi];rfl),lb,_,_,_,rfl,rfl,SqL.of p6.lst,ath,ah,C.Box,dxh,fsh,_,rfl,hah,cB,T.qg,Fh.kind,?_⟩;refine⟨_,rfl,ai,C.Box,dxi,fsi,_,rfl,hai,cB,T.qg,Fi.kind,Sum.inr (S (rAt rs i).kind),rfl,_,rfl,?_⟩;have hv:=Qnz (rAt rs i).kind;rw[show Jn [(Sum.inr (S (Xa "row")),.str (S (Xa "table"))),(Sum.inr (S (Xa "cell")),.str (S (Xa "row"))),(Sum.inr (S (Xa "th")),.str (S (Xa "row"))),(Sum.inr (S (Xa "item")),.str (S (Xa "list")))] (Sum.inr (S (rAt rs i).kind))=_ from hv];unfold Qad at k;cases eh:QhJ (rAt rs i).kind with
     | some h=>
      rw[eh] at k hv;refine Qr ⟨_,rfl,ai,C.Box,dxi,fsi,_,rfl,hai,cB,T.qg,Fi.kind,Sum.inr (S (rAt rs i).kind),_,rfl,hv,_,rfl,rfl,?_⟩;have ed:decide (V.str (S h)=V.str (S (rAt rs (JY rs i).toNat).kind))=decide (h=(rAt rs (JY rs i).toNat).kind):=by
       by_cases z:h=(rAt rs (JY rs i).toNat).kind
       ·rw[decide_eq_true z,decide_eq_true (QdN.mpr z)]
       ·rw[decide_eq_false z,decide_eq_false λq=>z (QdN.mp q)]
      rw[ed];exact k
     | none=>
      rw[eh] at k;refine Qv ⟨_,rfl,C.CHOOSY_KINDS,Qc7.map λt=>V.str (S t),rfl,.inr T.zw.sq,rfl,Ym _,?_⟩;rw[show (if true=true then !inV (V.str (S (rAt rs (JY rs i).toNat).kind)) (Qc7.map λt=>V.str (S t)) else inV (V.str (S (rAt rs (JY rs i).toNat).kind)) (Qc7.map λt=>V.str (S t)))=!Qc7.contains (rAt rs (JY rs i).toNat).kind from congrArg (λb=>!b) (Qa1 _ Qc7)];exact k
    ·rw[decide_eq_false hd2] at k;rw[decide_eq_false (show ¬(((rAt rs i).deep:Nat):Int)<=(((rAt rs (i-1)).deep:Nat):Int)+1 by omega)];exact Qr k
   ·rw[decide_eq_false hd1] at k;rw[decide_eq_false (show ¬(1:Int)<=(((rAt rs i).deep:Nat):Int) by omega)];exact Qv ⟨_,rfl,Qr k⟩
def Z6(rs:List QF):Bool:=(Xu (QN rs)&&WD (rAt rs 0))&&(rs.all (Z1 (QN rs))&&((Xs (rs.length-1)).all λi=>JB rs (i+1)))
def Qor(C:Cs):Sp:=λvs H Q _=>JP λ(pg:Addr) (as:List Addr) (rs:List QF)=>vs=[.ref pg]/\J2 C H pg as rs/\1<=rs.length/\rs.length<=1000/\(∀r ∈ rs,r.by_.length<=100000/\r.acts.length<=100000)/\∀H',Qe H H'->Q (.bl (Z6 rs)) H'
theorem YH:Qm ["page","boxes","place","box"] ["page"] (Qg (top 46)):=Qsx
theorem Qkr(T:Pg P w K mg C):Ok P w K mg base 2 "is_page" ["page"] (Qor C):=by
 refine T.jt.ok YH (λvs H Q E h=>?_) (λf cdv A outer s H vs Q E hr h=>?_)
 ·obtain⟨pg,as,rs,rfl,_⟩:=h;rfl
 ·obtain⟨pg,as,rs,rfl,hP,h1,hl,hsh,k⟩:=h;have cP:=T.qb.1;have hP0:=hP;obtain⟨dxp,fsp,lb,dp,lp,p1,p2,p3,p4,p5,p6,p7,p8⟩:=hP0;unfold Z6 at k;intro X;refine⟨_,(Qd (Qx (i:=1) YH.nd rfl (by first|exact .inl rfl|exact .inr rfl) (Qj (pv 0) rfl))
   (Qd (Q1 (PW.pt (Qa5 (QE QnQ (Qs Ql2 rfl T.qa Xv (Qa (Qj (pv 0) rfl) Qc)) (Qs Qw rfl T.qa Xv (Qa (pv 1) Qc)) (Qz _)) (WX (Zg (Js (Qk (Qjk T) (Qp hr) rfl (Qa (QV QJ (pv 1) Qt (λ_ _=>rfl)) Qc))))))) (Qi (Ql Qd2)) QC)
   (Qd (Q1 (Zg (Js (Qs (QaB rfl) rfl T.qj boot_all (Qa (JR rfl YH.nd (Q4 (pv 1)) (own:=[("box",3)]) (QK (N:=["page","boxes","place","box"]) (sc:=Qg (top 46)) (by decide +kernel)) (λ_ _ _ _ _=>(QH (i:=3) YH.nd rfl (by first|exact .inl rfl|exact .inr rfl))) (λ_ _ _ _ _=>Jo) (λ_ _ _ _ _=>(Qk (QfE T) (Qp hr) rfl (Qa (pv 0) (Qa (pv 3) Qc))))) Qc)))) (Qi (Ql Qd2)) QC)
   (Qi (Ql (Qs (QaB rfl) rfl T.qj boot_all (Qa (JR rfl YH.nd (QmG rfl T.qs (Qa Qt (Qa (Qs Qw rfl T.qa Xv (Qa (pv 1) Qc)) Qc))) (own:=[("place",2)]) (QK (N:=["page","boxes","place","box"]) (sc:=Qg (top 46)) (by decide +kernel)) (λ_ _ _ _ _=>(QH (i:=2) YH.nd rfl (by first|exact .inl rfl|exact .inr rfl))) (λ_ _ _ _ _=>Jo) (λ_ _ _ _ _=>(Qk (Qem T) (Qp hr) rfl (Qa (pv 0) (Qa (pv 2) Qc))))) Qc))))))),?_⟩
  refine⟨_,rfl,pg,C.Page,dxp,fsp,_,rfl,p1,cP,T.qe,p3,?_⟩;refine⟨_,rfl,pg,C.Page,dxp,fsp,_,rfl,p1,cP,T.qh,p4,dp,_,rfl,p7,_,rfl,lb,_,rfl,.inl (SqL.of p6.lst),_,_,rfl,rfl,_,rfl,?_⟩;rw[Xb,p6.len,QkA];cases e1:Xu (QN rs) with
  | false=>
   rw[e1] at k;exact Qr (Qr (k H (Qe.refl H)))
  | true=>
   rw[e1] at k;obtain⟨a0,ea0,hB0⟩:=p6.box 0 _ (QU (show 0<rs.length by omega));refine Qv ⟨_,rfl,lb,_,_,_,rfl,rfl,SqL.of p6.lst,JN (j:=0) (v:=.ref a0) rfl (by rw[Xg,ea0];rfl),a0,_,rfl,hB0,_,rfl,?_⟩;cases e2:WD (rAt rs 0) with
   | false=>
    rw[e2] at k;exact Qr (k H (Qe.refl H))
   | true=>
    rw[e2] at k;have k:∀H',Qe H H'->Q (.bl (rs.all (Z1 (QN rs))&&((Xs (rs.length-1)).all λi=>JB rs (i+1)))) H':=k;refine Qv (nX ?_);dsimp only;refine tlc ?_;refine⟨_,rfl,lb,rfl,⟨_,SqL.of p6.lst⟩,?_⟩;refine lcF (QW (SqL.of p6.lst)) (by rw[Xb,p6.len,QI];omega) (λ_=>true) (λi=>.bl (Z1 (QN rs) (rAt rs i))) (λi x H2 hi s2 rx Qy Qn q1 q2=>?_) λD H2 hD s2 hd2=>?_
    ·rw[Xb,p6.len] at hi;obtain⟨a,ea,hB⟩:=p6.box i _ (QU hi);rw[Xg,ea] at rx;have rx:V.ref a=x:=Xc rx;subst rx;have hm:=hsh (rAt rs i) (Xo (QU hi));exact⟨rfl,Qr ⟨_,rfl,_,rfl,pg,a,as,rs,rAt rs i,rfl,hP.mono s2,hB.mono s2,hm.1,hm.2,λH' s'=>q1 rfl H' s'⟩⟩
    ·rw[X2.mpr (λ_ _=>rfl),Xb,p6.len] at hd2;have em:(Xs rs.length).map (λi=>Z1 (QN rs) (rAt rs i))=rs.map (Z1 (QN rs)):=by
      exact Qcj rs noR (Z1 (QN rs))
     refine⟨D,rs.map (Z1 (QN rs)),rfl,SqL.of (by rw[hd2,Qbd,em]),_,rfl,?_⟩;rw[Zc];cases e3:rs.all (Z1 (QN rs)) with
     | false=>
      rw[e3] at k;exact Qr (k H2 s2)
     | true=>
      rw[e3] at k;refine Qv (nX ?_);dsimp only;refine tlc ?_;have hb2:=s2 _ _ p6.lst;refine⟨_,rfl,lb,_,rfl,.inl (SqL.of hb2),_,_,rfl,⟨by decide,by decide,by omega,by rw[Xb,p6.len];omega⟩,?_⟩;rw[Xb,p6.len,show ((rs.length:Int)-1).toNat=rs.length-1 by omega];have hd0:(rAt rs 0).deep=0:=by
       unfold WD at e2;rw[Xd,Xd] at e2;exact of_decide_eq_true e2.2.1
      refine lcF WA (by rw[QI];omega) (λ_=>true) (λi=>.bl (JB rs (i+1))) (λi x H3 hi s3 rx Qy Qn q1 q2=>?_) λD3 H3 hD3 s3 hd3=>?_
      ·subst rx;exact⟨rfl,Qr ⟨_,rfl,_,rfl,pg,as,rs,i+1,by rw[show (1:Int)+(i:Int)=((i+1:Nat):Int) by omega];rfl,hP.mono (s2.trans s3),by omega,by omega,hd0,q1 rfl H3 (Qe.refl _)⟩⟩
      ·rw[X2.mpr (λ_ _=>rfl)] at hd3;refine⟨D3,(Xs (rs.length-1)).map λi=>JB rs (i+1),rfl,SqL.of (by rw[hd3,Qbd]),?_⟩;rw[Zc];exact k H3 (s2.trans s3)
def ZU(t:Qb):Option (List QF):=match Uc t with
 | none=>none
 | some ls=>if 1<=ls.length/\ls.length<=16 then (match Xq (ls.map Q9) with
   | none=>none
   | some rs=>if Z6 rs=true then some rs else none) else none
theorem Qay{α β:Type}{f:α->Option β}:∀{l:List α} {i:Nat} {x:α},l[i]?=some x->f x=none->Xq (l.map f)=none
 | [],i,x,h,_=>by simp at h
 | a::l,0,x,h,e=>by
  have:a=x:=Xc h;subst this;show (f a).bind _=none;rw[e];rfl
 | a::l,i+1,x,h,e=>by
  have ih:=Qay (l:=l) (i:=i) (x:=x) (by simpa using h) e;show (f a).bind (λy=>(Xq (l.map f)).map λz=>y::z)=none;rw[ih];cases f a<;>rfl
theorem Qaz{α β:Type}{f:α->Option β}:∀{l:List α} {rs:List β} {x:α} {r:β},Xq (l.map f)=some rs->f x=some r->Xq ((l++[x]).map f)=some (rs++[r])
 | [],rs,x,r,h,e=>by
  have:rs=[]:=(Xc h).symm;subst this;show (f x).bind _=_;rw[e];rfl
 | a::l,rs,x,r,h,e=>by
  have h:(f a).bind (λy=>(Xq (l.map f)).map λz=>y::z)=some rs:=h;cases q:f a with
  | none=>rw[q] at h;cases h
  | some y=>
   rw[q] at h;have h:(Xq (l.map f)).map (λz=>y::z)=some rs:=h;obtain⟨z,hz,e2⟩:=X6.mp h;have ih:=Qaz (l:=l) hz e;show (f a).bind (λy=>(Xq ((l++[x]).map f)).map λz=>y::z)=_;rw[q,ih,<-e2];rfl
theorem QdO{α β:Type}{f:α->Option β}:∀{l:List α} {rs:List β},Xq (l.map f)=some rs->rs.length=l.length
 | [],rs,h=>by
  have:rs=[]:=(Xc h).symm;subst this;rfl
 | a::l,rs,h=>by
  have h:(f a).bind (λy=>(Xq (l.map f)).map λz=>y::z)=some rs:=h;cases q:f a with
  | none=>rw[q] at h;cases h
  | some y=>
   rw[q] at h;have h:(Xq (l.map f)).map (λz=>y::z)=some rs:=h;obtain⟨z,hz,e2⟩:=X6.mp h;rw[<-e2,Xw,Xw,QdO hz]
theorem QdP{α β:Type}{f:α->Option β}:∀{l:List α} {rs:List β} {r:β},Xq (l.map f)=some rs->r ∈ rs->∃x ∈ l,f x=some r
 | [],rs,r,h,hr=>by
  have:rs=[]:=(Xc h).symm;subst this;simp at hr
 | a::l,rs,r,h,hr=>by
  have h:(f a).bind (λy=>(Xq (l.map f)).map λz=>y::z)=some rs:=h;cases q:f a with
  | none=>rw[q] at h;cases h
  | some y=>
   rw[q] at h;have h:(Xq (l.map f)).map (λz=>y::z)=some rs:=h;obtain⟨z,hz,e2⟩:=X6.mp h;rw[<-e2] at hr;rcases Xm.mp hr with hr | hr
   ·exact⟨a,Xh,by rw[q,hr]⟩
   ·obtain⟨x,hx,ex⟩:=QdP hz hr;exact⟨x,Xn _ hx,ex⟩
theorem Qgr{t:Qb}{r:QF}(hl:t.length<=50000)(h:Q9 t=some r):r.by_.length<=100000/\r.acts.length<=100000:=by
 unfold Q9 at h
 split at h
 ·cases h
 ·split at h
  ·cases h
  ·rename_i ss e
   split at h
   ·rename_i hc
    rw[Xd] at hc;have ok:=QlK (t:=t.drop (Jg t)) (by rw[XQ];omega) e hc.1 hc.2;have h:=Xc h;subst h;constructor
    ·show ((Qu ss (Xa "by")).getD []).length<=_;cases q:Qu ss (Xa "by") with
     | none=>exact XC _
     | some ws=>exact (ok.short _ _ q).1
    ·show ((Qu ss (Xa "press")).getD []).length<=_;cases q:Qu ss (Xa "press") with
     | none=>exact XC _
     | some ws=>exact (ok.short _ _ q).1
   ·cases h
theorem QdV{t:Qb}{ls:List Qb}(h:Uc t=some ls):∀l ∈ ls,l.length<=t.length:=by
 intro l hl;have h:(if (XA 10 t).getLastD [1]=[] then some (XA 10 t).dropLast else none)=some ls:=h
 split at h
 ·have h:=Xc h;rw[<-h] at hl;exact Yb 10 t l ((List.dropLast_sublist _).subset hl)
 ·cases h
def Qgg(C:Cs)(H:Hp)(l a:Addr)(r:QF):Prop:=QbT λdx fs la aa ys=>H a=some (.ins C.Box dx fs)/\QoP fs r la aa/\H la=some (.lst (r.by_.map λt=>V.str (S t)))/\H aa=some (.lst ys)/\J0 H ys r.acts/\la≠l/\aa≠l
theorem Qgg.mono{C:Cs}{H H':Hp}{l a:Addr}{r:QF}(h:Qgg C H l a r)(s:Qe H H'):Qgg C H' l a r:=by
 obtain⟨dx,fs,la,aa,ys,h1,h2,h3,h4,h5,h6⟩:=h;exact⟨dx,fs,la,aa,ys,s _ _ h1,h2,s _ _ h3,s _ _ h4,h5.mono (Yv.of s),h6⟩
theorem Qgg.upd{C:Cs}{H:Hp}{l a:Addr}{r:QF}{xs:List V}{o:HO}(h:Qgg C H l a r)(hl:H l=some (.lst xs)):Qgg C (L2.upd H l o) l a r:=by
 obtain⟨dx,fs,la,aa,ys,h1,h2,h3,h4,h5,h6,h7⟩:=h;refine⟨dx,fs,la,aa,ys,?_,h2,?_,?_,h5.tups λb zs eb=>?_,h6,h7⟩
 ·rw[Qq (Q8 h1 hl λq=>nomatch q)];exact h1
 ·rw[Qq h6];exact h3
 ·rw[Qq h7];exact h4
 ·rw[Qq (Q8 eb hl λq=>nomatch q)];exact eb
theorem Qgg.at{C:Cs}{H:Hp}{l a:Addr}{r:QF}(h:Qgg C H l a r):Yg C H a r:=by
 obtain⟨dx,fs,la,aa,ys,h1,h2,h3,h4,h5,_⟩:=h;exact⟨dx,fs,la,aa,ys,h1,h2,h3,h4,h5⟩
def QkS(C:Cs):Sp:=λvs H Q _=>∃t:Qb,vs=[.str (S t)]/\t.length<=50000/\match ZU t with
 | none=>∀H',Qe H H'->Q .non H'
 | some rs=>∀H' pg as,Qe H H'->H pg=none->J2 C H' pg as rs->Q (.ref pg) H'
theorem ZJ:Qm ["text","lines","boxes","line","page","box"] ["text"] (Qg (top 36)):=Qsx
theorem QcN(T:Pg P w K mg C):Ok P w K mg base 7 "read_page" ["text"] (QkS C):=by
 refine T.jj.ok ZJ (λvs H Q E h=>?_) (λf cdv A outer s H vs Q E hr h=>?_)
 ·obtain⟨t,rfl,_⟩:=h;rfl
 ·obtain⟨t,rfl,hl,k⟩:=h;intro X;refine⟨_,(Qd (Qx (i:=1) ZJ.nd rfl (by first|exact .inl rfl|exact .inr rfl) (Qk (QdX T) (Qp hr) rfl (Qa (pv 0) Qc)))
   (Qd (Q1 (PW.pt (Qa5 (Z7 (QaJ (pv 1))) (WX (Zg (QcT WI WI Qt (Qs Qw rfl T.qa Xv (Qa (pv 1) Qc)) (QL rfl T.zk)))))) (Qi (Ql YE)) QC)
   (Qd (Qx (i:=2) ZJ.nd rfl (by first|exact .inl rfl|exact .inr rfl) (Q0 Qc))
   (Qd (QaK PassesOwn.never rfl (Q4 (pv 1)) (QH (i:=3) ZJ.nd rfl (by first|exact .inl rfl|exact .inr rfl)) (Qd (Qx (i:=5) ZJ.nd rfl (by first|exact .inl rfl|exact .inr rfl) (Qk (Qjl T) (Qp hr) rfl (Qa (pv 3) Qc)))
   (Qd (Q1 (Z7 (QaJ (pv 5))) (Qi (Ql YE)) QC)
   (Qi (JF (J4 XD X7 X8 ZD (pv 2) (Qa (pv 5) Qc)))))))
   (Qd (Qx (i:=4) ZJ.nd rfl (by first|exact .inl rfl|exact .inr rfl) (Qdw (QhW T) (Qp hr) rfl (Qa (pv 2) Qc)))
   (Qi (Ql (J5 (Js (Qk (Qkr T) (Qp hr) rfl (Qa (pv 4) Qc))) (pv 4) YE)))))))),?_⟩
  refine⟨_,rfl,t,rfl,by rw[QI];omega,?_⟩;have rp:ZU t=match Uc t with
   | none=>none
   | some ls=>if 1<=ls.length/\ls.length<=16 then (match Xq (ls.map Q9) with
     | none=>none
     | some rs=>if Z6 rs=true then some rs else none) else none:=rfl
  cases el:Uc t with
  | none=>
   rw[el] at rp;rw[rp] at k;exact λH1 s1=>⟨_,rfl,_,rfl,Qr (Qr (k H1 s1))⟩
  | some ls=>
   rw[el] at rp;have rp:ZU t=if 1<=ls.length/\ls.length<=16 then (match Xq (ls.map Q9) with
     | none=>none
     | some rs=>if Z6 rs=true then some rs else none) else none:=rp
   have hsh:=QdV el;intro H1 ll s1 hll;refine⟨_,rfl,_,rfl,Qv ⟨_,rfl,ll,_,rfl,.inl (SqL.of hll),_,_,rfl,rfl,_,rfl,?_⟩⟩;simp only[Xb]
   by_cases h1:1<=ls.length
   ·rw[decide_eq_true (show (1:Int)<=(ls.length:Int) by omega)];refine Qr ⟨_,_,rfl,rfl,_,rfl,?_⟩
    by_cases h16:ls.length<=16
    ·rw[if_pos ⟨h1,h16⟩] at rp;rw[decide_eq_true (show (ls.length:Int)<=16 by omega)];refine Qv ⟨XC _,λl hl0=>?_⟩;have s2:Qe H1 (upd H1 l (.lst [])):=Qe.new hl0;have hlH:H l=none:=Qe.free s1 hl0;refine⟨_,rfl,ll,rfl,⟨_,SqL.of (s2 _ _ hll)⟩,QiV (K:=K) (a:=ll) (xs:=ls.map λt=>V.str (S t)) (λi σ H'=>YS λ(as:List Addr) (rs:List QF) (v3 v5:Option V)=>σ=[some (.str (S t)),some (.ref ll),some (.ref l),v3,none,v5]/\Qe H1 H'/\H' l=some (.lst (as.map V.ref))/\as.length=rs.length/\
       (∀(j:Nat) (r:QF),rs[j]?=some r->∃a,as[j]?=some a/\Qgg C H' l a r)/\Xq ((ls.take i).map Q9)=some rs/\as.length<=i)
      ⟨[],[],none,none,rfl,s2,Qh,rfl,λj r e=>by simp at e,rfl,Xy _⟩ (λi σ H' _ ⟨_,_,_,_,_,s3,_⟩=>SqL.of (s3 _ _ hll)) ?_ ?_⟩
     ·rintro i y σ H3 hi ⟨as,rs,v3,v5,rfl,s3,hl3,ea,hb,es,li⟩;obtain⟨x,hx,rfl⟩:∃x,ls[i]?=some x/\y=V.str (S x):=by
       rw[Xg] at hi;cases q:ls[i]? with
       | none=>rw[q] at hi;cases hi
       | some x=>rw[q] at hi;exact⟨x,rfl,(Xc hi).symm⟩
      have hxl:=hsh x (Xo hx);have hil:i<ls.length:=(Xp.mp hx).1;refine⟨_,rfl,x,rfl,by omega,?_⟩;cases er:Q9 x with
      | none=>
       rw[Qay hx er] at rp;have rp:ZU t=none:=rp;rw[rp] at k;exact λH4 s4=>⟨_,rfl,_,rfl,Qr (k H4 ((s1.trans s3).trans s4))⟩
      | some r=>
       intro H4 a s4 fa hB;refine⟨_,rfl,_,rfl,Qv ⟨_,rfl,.inl ⟨rfl,_,SqL.of (s4 _ _ hl3)⟩,_,rfl,l,_,_,rfl,rfl,s4 _ _ hl3,by rw[Xb,QI];omega,?_⟩⟩;have hBL:Qgg C H4 l a r:=by
        obtain⟨dx,fs,la,aa,ys,b1,b2,b3,b4,b5,b6,b7⟩:=hB;exact⟨dx,fs,la,aa,ys,b1,b2,b3,b4,b5,(λq=>by rw[q,hl3] at b6;cases b6),(λq=>by rw[q,hl3] at b7;cases b7)⟩
       refine⟨as++[a],rs++[r],_,_,rfl,Qe.updL (s3.trans s4) hl0,by rw[Qh,XL];rfl,by simp[ea],λj r' ej=>?_,?_,by rw[Xi,XI];omega⟩
       ·by_cases hj:j<rs.length
        ·rw[Uh hj] at ej;obtain⟨a',ea',hb'⟩:=hb j r' ej;exact⟨a',by rw[Uh (by omega)];exact ea',(hb'.mono s4).upd (s4 _ _ hl3)⟩
        ·have hjl:j=rs.length:=by
          have:=(Xp.mp ej).1;rw[Xi,XI] at this;omega
         subst hjl;rw[Uu (Xy _),Xaz] at ej;have:r=r':=Xc ej;subst this;refine⟨a,?_,hBL.upd (s4 _ _ hl3)⟩;rw[<-ea,Uu (Xy _),Xaz];rfl
       ·have:ls.take (i+1)=ls.take i++[x]:=by rw[Xbz,hx];rfl
        rw[this];exact Qaz es er
     ·rintro σ H3 ⟨as,rs,v3,v5,rfl,s3,hl3,ea,hb,es,li⟩;rw[Xb,U6] at es;rw[es] at rp;have rp:ZU t=if Z6 rs=true then some rs else none:=rp;have hlen:=QdO es;have hBs:ZX C H3 l as rs:=⟨hl3,ea,λj r e=>let ⟨a,e1,e2⟩:=hb j r e;⟨a,e1,e2.at⟩⟩;refine⟨_,rfl,λx dx nx ndx ne=>?_⟩;refine⟨x,dx,l,as,rs,rfl,Qh,(hBs.mono (Qe.new ndx)).mono (Qe.new (by rw[Qq (Ne.symm ne)];exact nx)),by omega,λH4 K4 hPg=>⟨rfl,?_⟩⟩;have s4:Qe H3 H4:=Qe.made nx ndx K4;have s14:=(s1.trans s3).trans s4;refine⟨_,rfl,x,as,rs,rfl,hPg,by omega,by omega,λr hr'=>?_,λH5 s5=>⟨_,rfl,?_⟩⟩
      ·obtain⟨z,hz,ez⟩:=QdP es hr';have:=hsh z hz;exact Qgr (by omega) ez
      ·cases eo:Z6 rs with
       | true=>
        rw[eo,if_pos rfl] at rp;rw[rp] at k;exact Qr ⟨_,rfl,k H5 x as (s14.trans s5) (Qe.free (s1.trans s3) nx) (hPg.mono s5)⟩
       | false=>
        rw[eo,if_neg UL] at rp;rw[rp] at k;exact Qv (k H5 (s14.trans s5))
    ·rw[if_neg (λq=>h16 q.2)] at rp;rw[rp] at k;rw[decide_eq_false (show ¬(ls.length:Int)<=16 by omega)];exact Qr (k H1 s1)
   ·rw[if_neg (λq=>h1 q.1)] at rp;rw[rp] at k;rw[decide_eq_false (show ¬(1:Int)<=(ls.length:Int) by omega)];exact Qv ⟨_,rfl,Qr (k H1 s1)⟩
def Qc8:List Qb:=["focus","whole","from"].map Xa
def YF(t:Qb):Bool:=decide (t.length<=8)&&((!t.isEmpty&&t.all X3)&&!Qc8.contains t)
def ZO:List Qb:=["by","label","text","kids","hint"].map Xa
def JM(ws:List Qb):Bool:=!ws.isEmpty&&(Xu ws&&ws.all ZO.contains)
structure Jv where
 role:Qb
 whole:Bool
 sources:List Qb
structure QrM(fs:List (Str × V))(r:Jv)(la:Addr):Prop where
 few:fs.length<100
 role:lk fs "role"=some (.str (S r.role))
 whole:lk fs "whole"=some (.bl r.whole)
 sources:lk fs "sources"=some (.ref la)
def ZN(C:Cs)(H:Hp)(a:Addr)(r:Jv):Prop:=JP λdx fs la=>H a=some (.ins C.Rule dx fs)/\QrM fs r la/\H la=some (.lst (r.sources.map λt=>V.str (S t)))
theorem ZN.mono{C:Cs}{H H':Hp}{a:Addr}{r:Jv}(h:ZN C H a r)(s:Qe H H'):ZN C H' a r:=by
 obtain⟨dx,fs,la,h1,h2,h3⟩:=h;exact⟨dx,fs,la,s _ _ h1,h2,s _ _ h3⟩
theorem Ql4(xs:List V)(n:Nat):Qdg xs (some (n:Int)) none=xs.drop n:=by
 unfold Qdg;rw[HT.YN,HT.QfU]
 by_cases h:n<=xs.length
 ·rw[UG h];exact XaH (by rw[XQ];exact Xy _)
 ·rw[Nat.min_eq_right (by omega),XaG (Xy _),XaG (by omega)];simp
theorem Ql5(xs:List V)(n:Nat):Qdg xs none (some (n:Int))=xs.take n:=by
 unfold Qdg;rw[HT.YN,HT.QfU,XaY,Nat.sub_zero,List.take_eq_take_iff];omega
theorem Qns:∀ts us:List Qb,PyData.eqv (.list (ts.map λt=>PyData.str (S t))) (.list (us.map λt=>PyData.str (S t)))=decide (ts=us):=by
 have key:∀ts us:List Qb,PyData.eqvAll (ts.map λt=>PyData.str (S t)) (us.map λt=>PyData.str (S t))=decide (ts=us):=by
  intro ts
  induction ts with
  | nil=>
   intro us;cases us with
   | nil=>rfl
   | cons u us=>rfl
  | cons t ts ih=>
   intro us;cases us with
   | nil=>rfl
   | cons u us=>
    have e:PyData.eqvAll ((t::ts).map λt=>PyData.str (S t)) ((u::us).map λt=>PyData.str (S t))=(PyData.eqv (.str (S t)) (.str (S u))&&PyData.eqvAll (ts.map λt=>PyData.str (S t)) (us.map λt=>PyData.str (S t))):=rfl;rw[e,ih];have e2:PyData.eqv (.str (S t)) (.str (S u))=decide (t=u):=by
     show (S t==S u)=_
     by_cases h:t=u
     ·subst h;simp
     ·rw[decide_eq_false h];exact beq_eq_false_iff_ne.mpr λq=>h (YT q)
    rw[e2]
    by_cases h:t=u
    ·subst h;simp
    ·simp[h]
 intro ts us;exact key ts us
def Qrm:Sp:=λvs H Q _=>∃t:Qb,vs=[.str (S t)]/\t.length<=sizeLine/\∀H',Qe H H'->Q (.bl (YF t)) H'
theorem QkL:Qm ["word"] ["word"] (Qg (top 57)):=Qsx
theorem Qkt(T:Pg P w K mg C):Ok P w K mg base 2 "is_role" ["word"] Qrm:=by
 refine T.jz.ok QkL (λvs H Q E h=>?_) (λf cdv A outer s H vs Q E hr h=>?_)
 ·obtain⟨t,rfl,_⟩:=h;rfl
 ·obtain⟨t,rfl,hl,k⟩:=h;unfold YF at k;intro X;refine⟨_,(Qi (Ql (JL (QR WI (Qs JJ rfl T.qa Xv (Qa (pv 0) Qc)) (QL rfl T.zx) (Qz _)) (JL (Qk (WU T) (Qp hr) rfl (Qa (pv 0) (Qa (QL rfl T.qQ) Qc))) (Zf (QR QaI (pv 0) (QL rfl T.zy) rfl)))))),?_⟩;refine⟨_,rfl,_,rfl,(by rw[Ja];exact hl),_,_,rfl,rfl,_,rfl,?_⟩;rw[Ja]
  by_cases h8:t.length<=8
  ·rw[decide_eq_true h8] at k;rw[decide_eq_true (show ((t.length:Nat):Int)<=8 by omega)];refine Qr ⟨_,rfl,t,_,rfl,hl,λH' s'=>⟨_,rfl,?_⟩⟩;rw[show (Xa "abcdefghijklmnopqrstuvwxyz").contains=X3 from funext Qd9];cases e:(!t.isEmpty&&t.all X3) with
   | false=>
    rw[e] at k;exact Qv (k H' s')
   | true=>
    rw[e] at k;refine Qr ⟨_,rfl,C.NO_ROLES,Qc8.map λt=>V.str (S t),rfl,.inr T.zz.sq,rfl,Ym _,?_⟩;rw[show (if true=true then !inV (V.str (S t)) (Qc8.map λt=>V.str (S t)) else inV (V.str (S t)) (Qc8.map λt=>V.str (S t)))=!Qc8.contains t from congrArg (λb=>!b) (Qa1 _ Qc8)];exact k H' s'
  ·rw[decide_eq_false h8] at k;rw[decide_eq_false (show ¬((t.length:Nat):Int)<=8 by omega)];exact Qv (k H (Qe.refl H))
def QmU(K:Xt):Sp:=λvs H Q _=>QA λ(a:Addr) (ts:List Qb)=>vs=[.ref a]/\QdL K H a ts/\ts.length+1<4096/\∀H',Qe H H'->Q (.bl (JM ts)) H'
theorem Ws:Qm ["words","word"] ["words"] (Qg (top 58)):=Qsx
theorem QfC(T:Pg P w K mg C):Ok P w K mg base 1 "are_sources" ["words"] (QmU K):=by
 refine T.jA.ok Ws (λvs H Q E h=>?_) (λf cdv A outer s H vs Q E hr h=>?_)
 ·obtain⟨a,ts,rfl,_⟩:=h;rfl
 ·obtain⟨a,ts,rfl,hs,hl,k⟩:=h;unfold JM at k;intro X;refine⟨_,(Qi (Ql (JL (QR (Qh3 hr.units) (pv 0) (Q0 Qc) (Qz _)) (JL (QR Jt (Qs QgM rfl T.qa Xv (Qa (Qaj (QgN rfl) rfl T.q6 PyProof.Rows.boot_set (Qa (pv 0) Qc)) Qc)) (Qs Qw rfl T.qa Xv (Qa (pv 0) Qc)) (Qz _)) (Zf (Qs (QaB rfl) rfl T.qj boot_all (Qa (JR rfl Ws.nd (Q4 (pv 0)) (own:=[("word",1)]) (QK (N:=["words","word"]) (sc:=Qg (top 58)) (by decide +kernel)) (λ_ _ _ _ _=>(QH (i:=1) Ws.nd rfl (by first|exact .inl rfl|exact .inr rfl))) (λ_ _ _ _ _=>Jo) (λ_ _ _ _ _=>(QR (QaH K) (pv 1) (QL rfl T.qt) rfl))) Qc))))))),?_⟩;refine⟨_,rfl,XC _,λp hp=>?_⟩;have hs':=Qe.seq (Qe.new (o:=.lst []) hp) hs;refine⟨_,_,.lst hs' (QbI ts),.lst (SqL.of Qh) .nil,Yf ts,rfl,_,rfl,?_⟩;rw[QeA];have sp:=Qe.new (o:=.lst []) hp;cases e:ts.isEmpty with
  | true=>
   rw[e] at k;exact Qv (k _ sp)
  | false=>
   rw[e] at k;refine Qr ⟨_,rfl,a,ts.map S,rfl,by rw[<-QbS];exact hs',by rw[Xb];exact hl,λq hq=>⟨q,_,rfl,Qh,_,rfl,a,_,rfl,.inl (Qe.seq (Qe.new hq) hs'),rfl,_,rfl,?_⟩⟩;rw[Xb,show decide (V.int ((dd (ts.map S)).length:Int)=V.int (ts.length:Int))=Xu ts by rw[<-QrR,QiM];by_cases z:(dd (ts.map S)).length=ts.length;{ rw[decide_eq_true z];exact (decide_eq_true (by omega)).symm };{ rw[decide_eq_false z];exact (decide_eq_false (by omega)).symm }];have sq:∀o:HO,Qe H (upd (upd H p (.lst [])) q o):=λo=>sp.trans (Qe.new hq)
   cases e2:Xu ts with
   | false=>
    rw[e2] at k;exact Qv (k _ (sq _))
   | true=>
    rw[e2] at k;refine Qr ?_;refine tlc ?_;refine⟨_,rfl,a,rfl,⟨_,Qe.seq (sq _) hs⟩,?_⟩;refine lcM (α:=Qb) (vf:=λc=>V.str (S c)) [] (Jw (QW (Qe.seq (sq _) hs))) (by rw[QI];omega) (λc=>.bl (ZO.contains c)) (λc H2 hc s2 Qy Qn h1=>?_) λD H' hD s1 hd=>?_
    ·refine⟨rfl,Qr ⟨_,rfl,C.SOURCES,ZO.map λt=>V.str (S t),rfl,.inr T.ql.sq,rfl,Ym _,?_⟩⟩;rw[show (if false=true then !inV (V.str (S c)) (ZO.map λt=>V.str (S t)) else inV (V.str (S c)) (ZO.map λt=>V.str (S t)))=ZO.contains c from Qa1 c ZO];exact h1 H2 (Qe.refl _)
    ·refine⟨D,ts.map ZO.contains,rfl,SqL.of (by rw[hd,Qbd]),?_⟩;rw[Zc];exact k H' ((sq _).trans s1)
def Qf3(C:Cs):Sp:=λvs H Q _=>YS λ(p dx la:Addr) (r:Jv)=>vs=[.ref p,.str (S r.role),.bl r.whole,.ref la]/\H p=some (.ins C.Rule dx [])/\H la=some (.lst (r.sources.map λt=>V.str (S t)))/\∀H',Zj p H H'->ZN C H' p r->Q .non H'
theorem Qih:Qm ["self","role","whole","sources"] ["self","role","whole","sources"] (Qg (Ze (top 54) 0)):=Qsx
theorem QhX(T:Pg P w K mg C):OkC P w K mg base 1 "Rule" C.Rule ["self","role","whole","sources"] (Qf3 C):=by
 refine T.qi.ok Qih (λvs H Q E h=>?_) (λf cdv A outer s H vs Q E hr h=>?_)
 ·obtain⟨p,dx,la,r,rfl,_⟩:=h;rfl
 ·obtain⟨p,dx,la,r,rfl,hp,hla,k⟩:=h;have cR:=T.qi.1;intro X;refine⟨_,(Qd (Ju (pv 0) (pv 1) rfl)
   (Qd (Ju (pv 0) (pv 2) rfl)
   (Qi (Ju (pv 0) (pv 3) rfl)))),?_⟩
  refine⟨_,rfl,QM rfl hp cR T.qM (by show 0<1000;decide) λH1 f1 e1 K1 h1 l1=>?_⟩;rw[Uo] at l1;refine⟨_,rfl,QM rfl h1 cR T.qE (by omega) λH2 f2 e2 K2 h2 l2=>?_⟩;refine⟨_,rfl,QM rfl h2 cR T.qN (by omega) λH3 f3 e3 K3 h3 l3=>?_⟩;have kk:=(K1.trans K2).trans K3;refine k H3 kk ⟨dx,f3,la,h3,⟨by omega,by show Xz _ _=_;rw[e3,QD (by decide +kernel),e2,QD (by decide +kernel),e1,JU],by show Xz _ _=_;rw[e3,QD (by decide +kernel),e2,JU],by show Xz _ _=_;rw[e3,JU]⟩,kk _ _ hla (Q8 hla hp λq=>nomatch q)⟩
theorem QbA{c:TT}{t u B:TS}{D:QeH}{σ:L2.St}{H:Hp}(NX:L2.St->Hp->Prop)(hN:∀σ' H',NX σ' H'->B D σ' H')(h:∀nx':L2.St->Hp->Prop,(∀σ' H',NX σ' H'->nx' σ' H')->Qrz c t u { D with nx:=nx' } σ H):Qsr (Qrz c t u) B D σ H:=h _ hN
abbrev JH:Qb:=Xa "focus"
abbrev Jd:Qb:=Xa "whole"
abbrev WB:Qb:=Xa "from"
def Jb(w:Qb)(r:List Qb):List Qb:=if r.take 1=[w] then r.drop 1 else r
def Q5(kind line:Qb):Option Jv:=match XA 32 line with
 | k::role::r0=>if k≠kind\/YF role=false then none else
   if Jb Jd (Jb JH r0)≠[]/\((Jb Jd (Jb JH r0)).getD 0 []≠WB\/JM ((Jb Jd (Jb JH r0)).drop 1)=false) then none else some ⟨role,decide ((Jb JH r0).take 1=[Jd]),(Jb Jd (Jb JH r0)).drop 1⟩
 | _=>none
theorem QgP(w:Qb)(r:List Qb):(Jb w r).length<=r.length:=by
 unfold Jb
 split
 ·rw[XQ];omega
 ·exact Xy _
def QkT(C:Cs):Sp:=λvs H Q _=>QA λ(kind line:Qb)=>vs=[.str (S kind),.str (S line)]/\line.length<=4000/\match Q5 kind line with
 | none=>∀H',Qe H H'->Q .non H'
 | some r=>∀H' a,Qe H H'->H a=none->ZN C H' a r->Q (.ref a) H'
theorem Qln{K:Xt}{H:Hp}{a:Addr}{r:List Qb}{x:String}{t:Qb}{σ:L2.St}{i:Nat}{Q:VK}(hx:Str.ofString x=S t)(hσ:σ[i]?=some (some (.ref a)))(ha:QdL K H a r)(k:∀H',Qe H H'->Q (.bl (decide (r.take 1=[t]))) H') :
  tOp (Qq8 K) (tSl (QpG K) (Wx i) QeE (Qeb (tC (V.int 1)))) (QrB (Qb4 (tC (V.str (Str.ofString x))) Qgv)) σ H Q:=by
 have e1:Qdg (r.map λt=>V.str (S t)) none (some 1)=(r.take 1).map λt=>V.str (S t):=by
  have:=Ql5 (r.map λt=>V.str (S t)) 1;rw[<-XbL] at this;exact this
 refine⟨_,hσ,_,rfl,a,_,rfl,ha,λp hp=>?_⟩;rw[e1,hx];refine⟨(by show 1<=sizeLine;decide),λq hq=>?_⟩;refine⟨_,_,.lst (SqL.of (Qe.new hq _ _ Qh)) (QbI (r.take 1)),.lst (SqL.of Qh) (QbI [t]),Yf _,Yf _,?_⟩;rw[Qns];exact k _ ((Qe.new hp).trans (Qe.new hq))
theorem Qc4{K:Xt}{H:Hp}{a:Addr}{r:List Qb}{σ:L2.St}{i:Nat}{n:Nat}{m:Int}{Q:VK}(hm:m=(n:Int))(hσ:σ[i]?=some (some (.ref a)))(ha:QdL K H a r)(k:∀H' p,Qe H H'->H p=none->H' p=some (.lst ((r.drop n).map λt=>V.str (S t)))->Q (.ref p) H') :
  tSl (QpG K) (Wx i) (Qeb (tC (V.int m))) QeE σ H Q:=by
 subst hm;refine⟨_,hσ,_,rfl,a,_,rfl,ha,λp hp=>k _ p (Qe.new hp) hp ?_⟩;rw[Qh,Ql4,XbK]
theorem ZK:Qm ["kind","line","words","rest","whole"] ["kind","line"] (Qg (top 56)):=Qsx
theorem Qh1(T:Pg P w K mg C):Ok P w K mg base 3 "read_rule" ["kind","line"] (QkT C):=by
 refine T.jy.ok ZK (λvs H Q E h=>?_) (λf cdv A outer s H vs Q E hr h=>?_)
 ·obtain⟨kind,line,rfl,_⟩:=h;rfl
 ·obtain⟨kind,line,rfl,hl,k⟩:=h;intro X;refine⟨_,(Qd (Qx (i:=2) ZK.nd rfl (by first|exact .inl rfl|exact .inr rfl) (QfN (pv 1) QB))
   (Qd (Q1 (PW.pt (Qa5 (QE QnQ (Qs Qw rfl T.qa Xv (Qa (pv 2) Qc)) Qt (Qz _)) (Qa5 (QE Qa4 (QV QJ (pv 2) Qt (λ_ _=>rfl)) (pv 0) (Qz _)) (WX (Zg (Js (Qk (Qkt T) (Qp hr) rfl (Qa (QV QJ (pv 2) Qt (λ_ _=>rfl)) Qc)))))))) (Qi (Ql YE)) QC)
   (Qd (Qx (i:=3) ZK.nd rfl (by first|exact .inl rfl|exact .inr rfl) (JV WM (pv 2) (JE Qt) WJ))
   (Qd (Q1 (QE (Qh2 hr.units) (JV WM (pv 3) WJ (JE Qt)) (Q0 (Qa QB Qc)) (Qz _)) (Qi (Qx (i:=3) ZK.nd rfl (by first|exact .inl rfl|exact .inr rfl) (JV WM (pv 3) (JE Qt) WJ))) QC)
   (Qd (Qx (i:=4) ZK.nd rfl (by first|exact .inl rfl|exact .inr rfl) (QR (Qh2 hr.units) (JV WM (pv 3) WJ (JE Qt)) (Q0 (Qa QB Qc)) (Qz _)))
   (Qd (Q1 (Js (pv 4)) (Qi (Qx (i:=3) ZK.nd rfl (by first|exact .inl rfl|exact .inr rfl) (JV WM (pv 3) (JE Qt) WJ))) QC)
   (Qd (Q1 (PW.pt (QfQ (QE (Qh3 hr.units) (pv 3) (Q0 Qc) (Qz _)) (QcW (PW.pt (Qa5 (QE Qa4 (QV QJ (pv 3) Qt (λ_ _=>rfl)) QB (Qz _)) (WX (Zg (Js (Qk (QfC T) (Qp hr) rfl (Qa (JV WM (pv 3) (JE Qt) WJ) Qc)))))))))) (Qi (Ql YE)) QC)
   (Qi (Ql (Qdw (QhX T) (Qp hr) rfl (Qa (QV QJ (pv 2) Qt (λ_ _=>rfl)) (Qa (pv 4) (Qa (JV WM (pv 3) (JE Qt) WJ) Qc))))))))))))),?_⟩
  refine⟨_,rfl,⟨_,rfl⟩,_,_,rfl,rfl,by decide +kernel,by rw[Ja,QI];omega,λwl hwl=>?_⟩;rw[show Str.ofString " "=S [32] by decide +kernel,Qip,<-QbS];have cl:=QhD 32 line;have cm:=Yb 32 line;have rr:Q5 kind line=match XA 32 line with
   | k::role::r0=>if k≠kind\/YF role=false then none else
     if Jb Jd (Jb JH r0)≠[]/\((Jb Jd (Jb JH r0)).getD 0 []≠WB\/JM ((Jb Jd (Jb JH r0)).drop 1)=false) then none else some ⟨role,decide ((Jb JH r0).take 1=[Jd]),(Jb Jd (Jb JH r0)).drop 1⟩
   | _=>none:=rfl
  have s1:Qe H (upd H wl (.lst ((XA 32 line).map λc=>V.str (S c)))):=Qe.new hwl;have hw1:=Qh (H:=H) (a:=wl) (o:=.lst ((XA 32 line).map λc=>V.str (S c)));generalize upd H wl (.lst ((XA 32 line).map λc=>V.str (S c)))=H1 at s1 hw1 ⊢;generalize XA 32 line=ws at cl cm rr hw1;refine⟨_,rfl,wl,_,rfl,.inl (SqL.of hw1),_,_,rfl,rfl,_,rfl,?_⟩;rw[Xb];obtain⟨h2,e2⟩ | ⟨k0,role,r0,rfl⟩:(ws.length<2/\Q5 kind line=none)\/JP λk0 role r0=>ws=k0::role::r0:=by
   match ws,rr with
   | [],rr=>exact .inl ⟨by simp,rr⟩
   | [_],rr=>exact .inl ⟨by simp,rr⟩
   | a::b::c,_=>exact .inr ⟨a,b,c,rfl⟩
  ·rw[e2] at k;rw[decide_eq_true (show (ws.length:Int)<2 by omega)];exact Qr (Qr (k H1 s1))
  ·have rr:Q5 kind line=if k0≠kind\/YF role=false then none else
     if Jb Jd (Jb JH r0)≠[]/\((Jb Jd (Jb JH r0)).getD 0 []≠WB\/JM ((Jb Jd (Jb JH r0)).drop 1)=false) then none else some ⟨role,decide ((Jb JH r0).take 1=[Jd]),(Jb Jd (Jb JH r0)).drop 1⟩:=rr
   rw[decide_eq_false (show ¬((k0::role::r0).length:Int)<2 by simp;omega)];have hz:=cm role (by simp);refine Qv ⟨_,rfl,wl,_,_,_,rfl,rfl,SqL.of hw1,Qbb (ts:=k0::role::r0) (i:=0) rfl,_,rfl,rfl,_,rfl,?_⟩;have ed:decide (V.str (S k0)=V.str (S kind))=decide (k0=kind):=by
    by_cases z:k0=kind
    ·rw[decide_eq_true z,decide_eq_true (QdN.mpr z)]
    ·rw[decide_eq_false z,decide_eq_false λq=>z (QdN.mp q)]
   rw[ed]
   by_cases hk:k0=kind
   ·rw[decide_eq_true hk];refine Qv ⟨_,rfl,wl,_,_,_,rfl,rfl,SqL.of hw1,Qbb (ts:=k0::role::r0) (i:=1) rfl,role,rfl,by rw[QI];omega,λH2 s2=>⟨_,rfl,?_⟩⟩;have hw2:=s2 _ _ hw1;have s12:=s1.trans s2;cases er:YF role with
    | false=>
     rw[if_pos (.inr er)] at rr;rw[rr] at k;exact Qr (k H2 s12)
    | true=>
     rw[if_neg (by rw[er];simp[hk])] at rr;refine Qv (nX ?_);refine Qc4 (n:=2) (r:=k0::role::r0) rfl rfl (SqL.of hw2) λH3 a3 s3 f3 h3=>?_
     have h3:H3 a3=some (.lst (r0.map λt=>V.str (S t))):=h3;have hw3:=s3 _ _ hw2;have s13:=s12.trans s3;have l0:r0.length<=4000:=by simp at cl;omega
     refine gN ?_;dsimp only;refine QbA (NX:=fun σ' H'=>∃a,σ'=[some (.str (S kind)),some (.str (S line)),some (.ref wl),some (.ref a),none]/\Qe H3 H'/\H' a=some (.lst ((Jb JH r0).map λt=>V.str (S t)))) ?_ ?_
     ·rintro σ4 H4 ⟨a4,rfl,s34,h4⟩;have l1:=QgP JH r0;generalize Jb JH r0=r1 at rr h4 l1;refine Qln (t:=Jd) (by decide +kernel) rfl (SqL.of h4) λH5 s5=>?_
      refine gN ?_;dsimp only;refine QbA (NX:=fun σ' H'=>∃a,σ'=[some (.str (S kind)),some (.str (S line)),some (.ref wl),some (.ref a),some (.bl (decide (r1.take 1=[Jd])))]/\Qe H5 H'/\H' a=some (.lst ((Jb Jd r1).map λt=>V.str (S t)))) ?_ ?_
      ·rintro σ6 H6 ⟨a6,rfl,s56,h6⟩;have l2:=QgP Jd r1;generalize Jb Jd r1=r2 at rr h6 l2;have s36:=(s34.trans s5).trans s56;have hw6:=s36 _ _ hw3;have s16:=s13.trans s36;have fin:∀H7,Qe H6 H7->Q5 kind line=some ⟨role,decide (r1.take 1=[Jd]),r2.drop 1⟩->Qp5 (QjP C.Rule (Qf3 C) [] E0 (Qb4 (tOp (QmK K) (Wx 2) (tC (V.int 1))) (Qb4 (Wx 4) (Qb4 (tSl (QpG K) (Wx 3) (Qeb (tC (V.int 1))) QeE) Qgv)))) { nx:=λx H'=>Q V.non H',rt:=Q } [some (.str (S kind)),some (.str (S line)),some (.ref wl),some (.ref a6),some (.bl (decide (r1.take 1=[Jd])))] H7:=by
        intro H7 s7 e7;rw[e7] at k;refine⟨_,rfl,wl,_,_,_,rfl,rfl,SqL.of (s7 _ _ hw6),Qbb (ts:=k0::role::r0) (i:=1) rfl,_,rfl,?_⟩;refine Qc4 (n:=1) (r:=r2) rfl rfl (SqL.of (s7 _ _ h6)) λH8 a8 s8 f8 h8=>?_
        intro x dx nx ndx ne;refine⟨x,dx,a8,⟨role,_,r2.drop 1⟩,rfl,Qh,Qe.new (by rw[Qq (Ne.symm ne)];exact nx) _ _ (Qe.new ndx _ _ h8),λH9 K9 hR=>⟨rfl,?_⟩⟩;have s89:Qe H8 H9:=Qe.made nx ndx K9;have s18:=(s16.trans s7).trans s8;exact k H9 x (s18.trans s89) (Qe.free s18 nx) hR
       refine⟨_,rfl,XC _,λp hp=>?_⟩;have s7:=Qe.new (o:=.lst []) hp;refine⟨_,_,.lst (SqL.of (s7 _ _ h6)) (QbI r2),.lst (SqL.of Qh) .nil,Yf r2,rfl,_,rfl,?_⟩;rw[QeA];cases r2 with
       | nil=>
        rw[if_neg (by simp)] at rr;exact Qv (Qv (fin _ s7 rr))
       | cons x2 t2=>
        refine Qr ⟨_,rfl,a6,_,_,_,rfl,rfl,SqL.of (s7 _ _ h6),Qbb (ts:=x2::t2) (i:=0) rfl,rfl,_,rfl,?_⟩;rw[lit (s:="from") (a:=WB) (by decide +kernel)]
        by_cases hf:x2=WB
        ·rw[decide_eq_true hf];refine Qv ?_;refine Qc4 (n:=1) (r:=x2::t2) rfl rfl (SqL.of (s7 _ _ h6)) λH8 a8 s8 f8 h8=>?_
         have h8:H8 a8=some (.lst (t2.map λt=>V.str (S t))):=h8;refine⟨a8,t2,rfl,SqL.of h8,by simp at l2;omega,λH9 s9=>⟨_,rfl,?_⟩⟩;cases es:JM t2 with
         | false=>
          rw[if_pos ⟨by simp,.inr es⟩] at rr;rw[rr] at k;exact Qr (k H9 (((s16.trans s7).trans s8).trans s9))
         | true=>
          rw[if_neg (by
           rintro⟨_,q | q⟩
           ·exact q hf
           ·have q:JM t2=false:=q;rw[es] at q;cases q)] at rr
          exact Qv (fin _ ((s7.trans s8).trans s9) rr)
        ·rw[decide_eq_false hf];rw[if_pos ⟨by simp,.inl hf⟩] at rr;rw[rr] at k;exact Qr (Qr (k _ (s16.trans s7)))
      ·intro nx' hn;refine⟨_,rfl,_,rfl,?_⟩;unfold Jb at hn
       by_cases hh:r1.take 1=[Jd]
       ·rw[decide_eq_true hh];refine Qr ?_;refine Qc4 (n:=1) (r:=r1) rfl rfl (SqL.of (s5 _ _ h4)) λH6 a6 s6 f6 h6=>?_
        refine hn _ _ ⟨a6,?_,s6,by rw[if_pos hh];exact h6⟩;rw[decide_eq_true hh];rfl
       ·rw[decide_eq_false hh];refine Qv (hn _ _ ⟨a4,?_,Qe.refl _,by rw[if_neg hh];exact s5 _ _ h4⟩);rw[decide_eq_false hh];rfl
     ·intro nx' hn;refine Qln (t:=JH) (by decide +kernel) rfl (SqL.of h3) λH4 s4=>⟨_,rfl,?_⟩
      unfold Jb at hn
      by_cases hh:r0.take 1=[JH]
      ·rw[decide_eq_true hh];refine Qr ?_;refine Qc4 (n:=1) (r:=r0) rfl rfl (SqL.of (s4 _ _ h3)) λH5 a5 s5 f5 h5=>?_
       exact hn _ _ ⟨a5,rfl,s4.trans s5,by rw[if_pos hh];exact h5⟩
      ·rw[decide_eq_false hh];exact Qv (hn _ _ ⟨a3,rfl,s4,by rw[if_neg hh];exact s4 _ _ h3⟩)
   ·rw[decide_eq_false hk];rw[if_pos (.inl hk)] at rr;rw[rr] at k;exact Qr (Qr (k H1 s1))
theorem QqN{J:It}{H0:Hp}{n:Nat}{Rx:Nat->V->Hp->Prop}{g:TG}{tb:TS}{D:QeH}{σ:L2.St}{H:Hp}(W:QbV J H0 n Rx)(Pv:Nat->L2.St->Hp->Prop)(h0:Pv 0 σ H)(hs:∀i σ H,Pv i σ H->Qe H0 H)
  (turn:∀i x σ H H',i<n->Pv i σ H->Qe H H'->Rx i x H'->g x σ H' fun σ2 H2=>tb { D with nx:=Pv (i+1),ct:=Pv (i+1),bk:=D.nx } σ2 H2) (fin:∀σ H,Pv n σ H->D.nx σ H) :
  ∃W:Nat->Nat->L2.St->Hp->Prop,(∃m,W 0 m σ H)/\∀i m σ H,W i m σ H->
   (J.stop i H/\D.nx σ H)\/(J.go i H/\∃N:L2.St->Hp->Prop,(∀σ' H',N σ' H'->∃m',m'<m/\W (i+1) m' σ' H')/\∀x H',J.yld i H x H'->g x σ H' fun σ2 H2=>tb { D with nx:=N,ct:=N,bk:=D.nx } σ2 H2):=by
 refine⟨λi m σ H=>m=n-i/\i<=n/\Pv i σ H,⟨n,by simp,XC _,h0⟩,?_⟩;rintro i m σ H ⟨rfl,hi,p⟩
 by_cases hlt:i<n
 ·refine .inr ⟨W.go i H (hs _ _ _ p) hlt,Pv (i+1),fun σ' H' p'=>⟨n-(i+1),by omega,rfl,hlt,p'⟩,λx H' y=>?_⟩;obtain⟨s1,r⟩:=W.yld i H x H' (hs _ _ _ p) hlt y;exact turn i x σ H H' hlt p s1 r
 ·obtain rfl:i=n:=by omega
  exact .inl ⟨W.stop i H (hs _ _ _ p) (Xy _),fin σ H p⟩
def Zi(as:List Addr):List (Key × V):=(QS.zip as).map λp=>(Sum.inr (S p.1),V.ref p.2)
structure JI(C:Cs)(H:Hp)(d:Addr)(as:List Addr)(rs:List Jv):Prop where
 dict:H d=some (.dK (Zi as))
 len:as.length=rs.length
 rule:∀(i:Nat) (r:Jv),rs[i]?=some r->∃a,as[i]?=some a/\ZN C H a r
theorem JI.mono{C:Cs}{H H':Hp}{d:Addr}{as:List Addr}{rs:List Jv}(h:JI C H d as rs)(s:Qe H H'):JI C H' d as rs:=
 ⟨s _ _ h.dict,h.len,λi r e=>let ⟨a,e1,e2⟩:=h.rule i r e;⟨a,e1,e2.mono s⟩⟩
def Yc(t:Qb):Option (List Jv):=match Uc t with
 | none=>none
 | some ls=>if ls.length=19 then Xq ((QS.zip ls).map λp=>Q5 p.1 p.2) else none
theorem QeI:QS.Nodup:=Yl.mp (by decide +kernel)
theorem Qif{as:List Addr}{a:Addr}{k:Qb}(h:QS[as.length]?=some k):Zi (as++[a])=Zi as++[(Sum.inr (S k),V.ref a)]:=by
 unfold Zi;have key:∀(ks:List Qb) (as:List Addr),ks[as.length]?=some k->ks.zip (as++[a])=ks.zip as++[(k,a)]:=by
  intro ks as
  induction as generalizing ks with
  | nil=>
   intro h;cases ks with
   | nil=>simp at h
   | cons x r=>
    have:x=k:=Xc h;subst this;simp
  | cons b r ih=>
   intro h;cases ks with
   | nil=>simp at h
   | cons x xs=>
    have:=ih xs (by simpa using h);show (x,b)::xs.zip (r++[a])=(x,b)::(xs.zip r++[(k,a)]);rw[this]
 rw[key QS as h,XL];rfl
theorem Qjv{as:List Addr}{k:Qb}(h:QS[as.length]?=some k):Jn (Zi as) (Sum.inr (S k))=none:=by
 cases q:Jn (Zi as) (Sum.inr (S k)) with
 | none=>rfl
 | some v=>
  exfalso;have hm:=Qp8 q;unfold Zi at hm;rw[Xr] at hm;obtain⟨p,hp,e⟩:=Xk.mp hm;have e:p.1=k:=YT (Sum.inr.inj e);obtain⟨j,hj⟩:=XbG hp;rw[Xau] at hj;have hlt:j<as.length:=(Xp.mp hj.2).1;have h1:=hj.1;rw[e] at h1;have:=QnP QeI h1 h;omega
theorem ZN.updD{C:Cs}{H:Hp}{a d:Addr}{r:Jv}{kvs:List (Key × V)}{o:HO}(h:ZN C H a r)(hd:H d=some (.dK kvs)):ZN C (upd H d o) a r:=by
 obtain⟨dx,fs,la,h1,h2,h3⟩:=h;refine⟨dx,fs,la,?_,h2,?_⟩
 ·rw[Qq (Q8 h1 hd λq=>nomatch q)];exact h1
 ·rw[Qq (Q8 h3 hd λq=>nomatch q)];exact h3
def QjL(C:Cs):Sp:=λvs H Q _=>∃t:Qb,vs=[.str (S t)]/\t.length<=4000/\match Yc t with
 | none=>∀H',Qe H H'->Q .non H'
 | some rs=>∀H' d as,Qe H H'->H d=none->JI C H' d as rs->Q (.ref d) H'
theorem Zl:Qm ["text","lines","rules","kind","line","rule"] ["text"] (Qg (top 55)):=Qsx
theorem Qb1(T:Pg P w K mg C):Ok P w K mg base 4 "read_rules" ["text"] (QjL C):=by
 refine T.jx.ok Zl (λvs H Q E h=>?_) (λf cdv A outer s H vs Q E hr h=>?_)
 ·obtain⟨t,rfl,_⟩:=h;rfl
 ·obtain⟨t,rfl,hl,k⟩:=h;intro X;refine⟨_,(Qd (Qx (i:=1) Zl.nd rfl (by first|exact .inl rfl|exact .inr rfl) (Qk (QdX T) (Qp hr) rfl (Qa (pv 0) Qc)))
   (Qd (Q1 (PW.pt (Qa5 (Z7 (QaJ (pv 1))) (WX (QE Qa4 (Qs Qw rfl T.qa Xv (Qa (pv 1) Qc)) (Qs Qw rfl T.qa Xv (Qa (QL rfl T.qG) Qc)) (Qz _))))) (Qi (Ql YE)) QC)
   (Qd (Qx (i:=2) Zl.nd rfl (by first|exact .inl rfl|exact .inr rfl) QnZ)
   (Qd (QaK PassesOwn.never rfl (QpB rfl T.zX (Qa (QL rfl T.qG) (Qa (pv 1) Qc))) (Qh9 K (n:=2) (Qak (QH (i:=3) Zl.nd rfl (by first|exact .inl rfl|exact .inr rfl)) (Qak (QH (i:=4) Zl.nd rfl (by first|exact .inl rfl|exact .inr rfl)) Qia)) rfl) (Qd (Qx (i:=5) Zl.nd rfl (by first|exact .inl rfl|exact .inr rfl) (Qk (Qh1 T) (Qp hr) rfl (Qa (pv 3) (Qa (pv 4) Qc))))
   (Qd (Q1 (Z7 (QaJ (pv 5))) (Qi (Ql YE)) QC)
   (Qi (QlH (Zp hr) (pv 2) (pv 3) (pv 5) rfl)))))
   (Qi (Ql (pv 2))))))),?_⟩
  refine⟨_,rfl,t,rfl,by rw[QI];omega,?_⟩;have rp:Yc t=match Uc t with
   | none=>none
   | some ls=>if ls.length=19 then Xq ((QS.zip ls).map λp=>Q5 p.1 p.2) else none:=rfl
  cases el:Uc t with
  | none=>
   rw[el] at rp;rw[rp] at k;exact λH1 s1=>⟨_,rfl,_,rfl,Qr (Qr (k H1 s1))⟩
  | some ls=>
   rw[el] at rp;have rp:Yc t=if ls.length=19 then Xq ((QS.zip ls).map λp=>Q5 p.1 p.2) else none:=rp;have hsh:=QdV el;intro H1 ll s1 hll;have k19:QS.length=19:=by decide +kernel
   refine⟨_,rfl,_,rfl,Qv ⟨_,rfl,ll,_,rfl,.inl (SqL.of hll),C.KINDS,_,rfl,.inr (Qct T),rfl,_,rfl,?_⟩⟩;rw[Xb,Xb,QiM,k19]
   by_cases h19:ls.length=19
   ·rw[decide_eq_true h19];rw[if_pos h19] at rp;refine Qv ?_;intro d hd;have s2:Qe H1 (upd H1 d (.dK [])):=Qe.new hd;have hll2:=s2 _ _ hll;have W:=Qna (K:=K) (Qct T (H:=H1)) (SqL.of (K:=K) hll) (by rw[Xb,Xb,k19,h19]);rw[Xb,k19] at W;refine⟨_,rfl,C.KINDS,ll,_,_,rfl,Qct T,SqL.of hll2,QqN W (λi σ H'=>QbT λ(as:List Addr) (rs:List Jv) (v3 v4 v5:Option V)=>σ=[some (.str (S t)),some (.ref ll),some (.ref d),v3,v4,v5]/\Qe H1 H'/\JI C H' d as rs/\as.length=i/\Xq (((QS.zip ls).take i).map λp=>Q5 p.1 p.2)=some rs)
     ⟨[],[],none,none,none,rfl,s2,⟨by rw[Qh];rfl,rfl,λi r e=>by simp at e⟩,rfl,rfl⟩ (λi σ H' ⟨as,rs,_,_,_,_,s3,h3,_⟩=>?_) ?_ ?_⟩
    ·exact s3
    ·rintro i x σ H3 H4 hi ⟨as,rs,v3,v4,v5,rfl,s3,h3,ea,es⟩ s4 ⟨tt,kx,ly,rfl,ek,ely,ht⟩;obtain⟨kind,ekind,rfl⟩:∃y,QS[i]?=some y/\kx=V.str (S y):=by
      rw[Xg] at ek;cases q:QS[i]? with
      | none=>rw[q] at ek;cases ek
      | some y=>rw[q] at ek;exact⟨y,rfl,(Xc ek).symm⟩
     obtain⟨line,eline,rfl⟩:∃y,ls[i]?=some y/\ly=V.str (S y):=by
      rw[Xg] at ely;cases q:ls[i]? with
      | none=>rw[q] at ely;cases ely
      | some y=>rw[q] at ely;exact⟨y,rfl,(Xc ely).symm⟩
     have ez:(QS.zip ls)[i]?=some (kind,line):=Xau.mpr ⟨ekind,eline⟩;have hll':=hsh line (Xo eline);refine⟨tt,_,rfl,SqT.of ht,rfl,_,_,rfl,_,_,rfl,rfl,?_⟩;refine⟨_,rfl,_,rfl,kind,line,rfl,by omega,?_⟩;cases er:Q5 kind line with
     | none=>
      rw[Qay ez er] at rp;rw[rp] at k;exact λH5 s5=>⟨_,rfl,_,rfl,Qr (k H5 (((s1.trans s3).trans s4).trans s5))⟩
     | some r=>
      intro H5 a s5 fa hR;have s45:=s4.trans s5;have h5:=h3.mono s45;refine⟨_,rfl,_,rfl,Qv ⟨_,rfl,_,rfl,_,rfl,d,_,rfl,QlV.k (k:=Sum.inr (S kind)) h5.dict (by unfold Zi;rw[Xb,XaQ,QI];omega),?_⟩⟩;have ekl:QS[as.length]?=some kind:=by rw[ea];exact ekind
      rw[QcV _ (Qjv ekl),<-Qif ekl];refine⟨as++[a],rs++[r],_,_,_,rfl,Qe.updL (s3.trans s45) hd,⟨Qh,by simp[h5.len],λj r' ej=>?_⟩,by simp[ea],?_⟩
      ·by_cases hj:j<rs.length
       ·rw[Uh hj] at ej;obtain⟨a',ea',hb'⟩:=h5.rule j r' ej;exact⟨a',by rw[Uh (by rw[h5.len];exact hj)];exact ea',hb'.updD h5.dict⟩
       ·have hjl:j=rs.length:=by
         have:=(Xp.mp ej).1;rw[Xi,XI] at this;omega
        subst hjl;rw[Uu (Xy _),Xaz] at ej;have:r=r':=Xc ej;subst this;refine⟨a,?_,hR.updD h5.dict⟩;rw[<-h5.len,Uu (Xy _),Xaz];rfl
      ·have:(QS.zip ls).take (i+1)=(QS.zip ls).take i++[(kind,line)]:=by rw[Xbz,ez];rfl
       rw[this];exact Qaz es er
    ·rintro σ H3 ⟨as,rs,v3,v4,v5,rfl,s3,h3,ea,es⟩;have:(QS.zip ls).take 19=QS.zip ls:=XaH (by rw[XaQ,k19,h19];decide);rw[this] at es;rw[es] at rp;rw[rp] at k;exact⟨_,rfl,k H3 d as (s1.trans s3) (Qe.free s1 hd) h3⟩
   ·rw[decide_eq_false h19];rw[if_neg h19] at rp;rw[rp] at k;exact Qr (k H1 s1)
end Sr
namespace Sr
open Vaacca (Kind Rule Source kindText sourceText ruleWords isRule spaced opt markOff)
def rr(v:Rule):Jv:=⟨v.role,v.whole,v.sources.map sourceText⟩
theorem Qan{v:Rule}(h:isRule v=true):YF v.role=true/\Xu v.sources=true/\v.role.all X3=true/\v.role≠[]:=by
 unfold isRule at h;simp only[Xd] at h;obtain⟨h1,h2,h3,h4,h5⟩:=h;refine⟨?_,h5,h3,λq=>by rw[q] at h1;cases h1⟩;unfold YF;simp only[Xd];exact⟨h2,⟨h1,h3⟩,h4⟩
theorem Qmj{v:Rule}(h1:YF v.role=true)(h2:Xu v.sources=true):isRule v=true:=by
 unfold YF at h1;simp only[Xd] at h1;obtain⟨a,⟨b,c⟩,d⟩:=h1;unfold isRule;simp only[Xd];exact⟨b,a,c,d,h2⟩
def Qbu(v:Rule):List Qb:=opt v.focus [JH]++(opt v.whole [Jd]++opt (!v.sources.isEmpty) (WB::v.sources.map sourceText))
theorem Y9(k:Kind)(v:Rule):ruleWords k v=kindText k::v.role::Qbu v:=rfl
theorem Qid(v:Rule):∀w ∈ Qbu v,(32:UInt8) ∉ w:=by
 intro w hw;unfold Qbu opt at hw;rcases Xx.mp hw with hw | hw
 ·split at hw
  ·rw[XE.mp hw];decide +kernel
  ·simp at hw
 ·rcases Xx.mp hw with hw | hw
  ·split at hw
   ·rw[XE.mp hw];decide +kernel
   ·simp at hw
  ·split at hw
   ·rcases Xm.mp hw with hw | hw
    ·rw[hw];decide +kernel
    ·obtain⟨s,_,rfl⟩:=Xk.mp hw;exact Mp.Zz 32 (by decide +kernel) (Mp.QaS s).1
   ·simp at hw
theorem QiK{k:Kind}{v:Rule}(h:v.role.all X3=true):XA 32 (spaced (ruleWords k v))=kindText k::v.role::Qbu v:=by
 refine Mp.QeQ (by simp[Y9]) λw hw=>?_
 rw[Y9] at hw;rcases Xm.mp hw with hw | hw
 ·rw[hw];exact (Mp.Wf k).1
 ·rcases Xm.mp hw with hw | hw
  ·rw[hw];exact Mp.Zz 32 (by decide +kernel) h
  ·exact Qid v w hw
theorem Qrr{ss:List Source}(hd:Xu ss=true)(hn:ss≠[]):JM (ss.map sourceText)=true:=by
 unfold JM;simp only[Xd];refine⟨?_,?_,?_⟩
 ·cases ss with
  | nil=>exact absurd rfl hn
  | cons a r=>rfl
 ·have hd':∀{ss:List Source},Xu ss=true->Xu (ss.map sourceText)=true:=by
   intro ss
   induction ss with
   | nil=>intro _;rfl
   | cons a r ih=>
    intro h;have h:(!r.contains a&&Xu r)=true:=h;rw[Xd] at h;show (!(r.map sourceText).contains (sourceText a)&&Xu (r.map sourceText))=true;rw[Xd];refine⟨?_,ih h.2⟩;have hna:a ∉ r:=by simpa using h.1
    have:sourceText a ∉ r.map sourceText:=λq=>by
     obtain⟨b,hb,e⟩:=Xk.mp q;rw[Mp.QkN e] at hb;exact hna hb
    simpa using this
  exact hd' hd
 ·rw[Xl];intro t ht;obtain⟨s,_,rfl⟩:=Xk.mp ht;cases s<;>decide +kernel
theorem QgQ(w:Qb)(r:List Qb):Jb w (w::r)=r:=by
 unfold Jb;rw[if_pos (by simp)];rfl
theorem QiH{w:Qb}{r:List Qb}(h:r.take 1≠[w]):Jb w r=r:=by
 unfold Jb;rw[if_neg h]
theorem QmM{k:Kind}{v:Rule}(h:isRule v=true):Q5 (kindText k) (spaced (ruleWords k v))=some (rr v):=by
 obtain⟨h1,h2,h3,h4⟩:=Qan h;unfold Q5;rw[QiK h3];show (if kindText k≠kindText k\/YF v.role=false then none else _)=_;rw[if_neg (by rw[h1];simp)];have e1:Jb JH (Qbu v)=opt v.whole [Jd]++opt (!v.sources.isEmpty) (WB::v.sources.map sourceText):=by
  unfold Qbu;cases v.focus with
  | true=>exact QgQ JH _
  | false=>
   refine QiH ?_;show (opt v.whole [Jd]++opt (!v.sources.isEmpty) (WB::v.sources.map sourceText)).take 1≠[JH];cases v.whole<;>cases v.sources.isEmpty<;>simp[opt]<;>decide +kernel
 have e2:Jb Jd (opt v.whole [Jd]++opt (!v.sources.isEmpty) (WB::v.sources.map sourceText))=opt (!v.sources.isEmpty) (WB::v.sources.map sourceText):=by
  cases v.whole with
  | true=>exact QgQ Jd _
  | false=>
   refine QiH ?_;show (opt (!v.sources.isEmpty) (WB::v.sources.map sourceText)).take 1≠[Jd];cases v.sources.isEmpty<;>simp[opt]<;>decide +kernel
 have e3:decide ((opt v.whole [Jd]++opt (!v.sources.isEmpty) (WB::v.sources.map sourceText)).take 1=[Jd])=v.whole:=by
  cases v.whole with
  | true=>exact decide_eq_true rfl
  | false=>
   refine decide_eq_false ?_;show (opt (!v.sources.isEmpty) (WB::v.sources.map sourceText)).take 1≠[Jd];cases v.sources.isEmpty<;>simp[opt]<;>decide +kernel
 rw[e1,e2,e3];cases hs:v.sources with
 | nil=>
  rw[if_neg (by simp[opt])];unfold rr;rw[hs];rfl
 | cons s r=>
  have ok:=Qrr h2 (by rw[hs];simp);rw[hs] at ok;rw[if_neg (by
   rintro⟨_,q | q⟩
   ·exact q rfl
   ·have q:JM ((s::r).map sourceText)=false:=q;rw[ok] at q;cases q)]
  unfold rr;rw[hs];rfl
theorem QjO:∀{ws:List Qb},ws.all ZO.contains=true->∃ss:List Source,ws=ss.map sourceText
 | [],_=>⟨[],rfl⟩
 | w::r,h=>by
  rw[X4,Xd] at h;obtain⟨ss,e⟩:=QjO h.2;have hm:w ∈ ZO:=by simpa using h.1
  have:∃s:Source,w=sourceText s:=by
   have hm:w=Xa "by"\/w=Xa "label"\/w=Xa "text"\/w=Xa "kids"\/w=Xa "hint":=by simpa [ZO] using hm
   rcases hm with h | h | h | h | h
   ·exact⟨.by_,h⟩
   ·exact⟨.label,h⟩
   ·exact⟨.text,h⟩
   ·exact⟨.kids,h⟩
   ·exact⟨.hint,h⟩
  obtain⟨s,rfl⟩:=this;exact⟨s::ss,by rw[e];rfl⟩
theorem QcB:∀{ss:List Source},Xu (ss.map sourceText)=true->Xu ss=true
 | [],_=>rfl
 | a::r,h=>by
  have h:(!(r.map sourceText).contains (sourceText a)&&Xu (r.map sourceText))=true:=h;rw[Xd] at h;show (!r.contains a&&Xu r)=true;rw[Xd];refine⟨?_,QcB h.2⟩;have hn:sourceText a ∉ r.map sourceText:=by simpa using h.1
  have:a ∉ r:=λq=>hn (Xk.mpr ⟨a,q,rfl⟩)
  simpa using this
theorem Qqq{r:List Qb}{w:Qb}(h:r.take 1=[w]):r=w::r.drop 1:=by
 cases r with
 | nil=>simp at h
 | cons a r=>
  have:a=w:=by simpa using h
  rw[this];rfl
theorem QkF{k:Kind}{l:Qb}{r:Jv}(h:Q5 (kindText k) l=some r):∃v:Rule,isRule v=true/\l=spaced (ruleWords k v)/\r=rr v:=by
 unfold Q5 at h;have hg:spaced (XA 32 l)=l:=Mp.Qbj 32 l
 split at h
 ·rename_i k0 role r0 ec
  rw[ec] at hg
  split at h
  ·cases h
  ·rename_i hk
   have hk0:k0=kindText k:=Classical.byContradiction λq=>hk (.inl q)
   have hro:YF role=true:=by
    cases e:YF role with
    | true=>rfl
    | false=>exact absurd (.inr e) hk
   have ef:r0=opt (decide (r0.take 1=[JH])) [JH]++Jb JH r0:=by
    unfold Jb
    by_cases q:r0.take 1=[JH]
    ·rw[if_pos q,decide_eq_true q];exact Qqq q
    ·rw[if_neg q,decide_eq_false q];rfl
   generalize Jb JH r0=r1 at h ef;have ew:r1=opt (decide (r1.take 1=[Jd])) [Jd]++Jb Jd r1:=by
    unfold Jb
    by_cases q:r1.take 1=[Jd]
    ·rw[if_pos q,decide_eq_true q];exact Qqq q
    ·rw[if_neg q,decide_eq_false q];rfl
   generalize Jb Jd r1=r2 at h ew
   split at h
   ·cases h
   ·rename_i hs
    have h:=Xc h;have key:∃ss:List Source,Xu ss=true/\r2=opt (!ss.isEmpty) (WB::ss.map sourceText)/\r2.drop 1=ss.map sourceText:=by
     cases r2 with
     | nil=>exact⟨[],rfl,rfl,rfl⟩
     | cons x t2=>
      have hx:x=WB:=Classical.byContradiction λq=>hs ⟨by simp,.inl q⟩
      have hso:JM t2=true:=by
       cases e:JM t2 with
       | true=>rfl
       | false=>exact absurd ⟨by simp,.inr e⟩ hs
      unfold JM at hso;simp only[Xd] at hso;obtain⟨s1,s2,s3⟩:=hso;obtain⟨ss,rfl⟩:=QjO s3;refine⟨ss,QcB s2,?_,rfl⟩;cases ss with
      | nil=>cases s1
      | cons a r=>rw[hx];rfl
    obtain⟨ss,d1,d2,d3⟩:=key;refine⟨⟨role,decide (r0.take 1=[JH]),decide (r1.take 1=[Jd]),ss⟩,Qmj hro d1,?_,?_⟩
    ·rw[Y9,<-hg,hk0];show spaced (kindText k::role::r0)=spaced (kindText k::role::Qbu _);congr 3;unfold Qbu;show r0=opt (decide (r0.take 1=[JH])) [JH]++(opt (decide (r1.take 1=[Jd])) [Jd]++opt (!ss.isEmpty) (WB::ss.map sourceText));rw[<-d2,<-ew,<-ef]
    ·rw[<-h,d3];rfl
 ·cases h
theorem Qfm(m:String)(r:List Qb):markOff m (Xa m::r)=(true,r):=by
 show (if Xa m=Xa m then _ else _)=_;rw[if_pos rfl]
theorem QhT{m:String}{r:List Qb}(h:r.head?≠some (Xa m)):markOff m r=(false,r):=by
 cases r with
 | nil=>rfl
 | cons a r=>
  show (if a=Xa m then _ else _)=_;rw[if_neg λq=>h (by rw[q];rfl)]
theorem QgD:∀ss:List Source,Xq ((ss.map sourceText).map XaT)=some ss
 | []=>rfl
 | s::r=>by
  show (XaT (sourceText s)).bind (λa=>(Xq ((r.map sourceText).map XaT)).map λl=>a::l)=_;rw[Mp.QjJ,QgD r];rfl
theorem Qjw{k:Kind}{v:Rule}(h:isRule v=true):Xab (spaced (ruleWords k v))=some v:=by
 obtain⟨h1,h2,h3,h4⟩:=Qan h;unfold Xab;rw[QiK h3];have e1:markOff "focus" (Qbu v)=(v.focus,opt v.whole [Jd]++opt (!v.sources.isEmpty) (WB::v.sources.map sourceText)):=by
  unfold Qbu;cases v.focus with
  | true=>exact Qfm "focus" _
  | false=>
   refine QhT ?_;show (opt v.whole [Jd]++opt (!v.sources.isEmpty) (WB::v.sources.map sourceText)).head?≠some JH;cases v.whole<;>cases v.sources.isEmpty<;>simp[opt]<;>decide +kernel
 have e2:markOff "whole" (opt v.whole [Jd]++opt (!v.sources.isEmpty) (WB::v.sources.map sourceText))=(v.whole,opt (!v.sources.isEmpty) (WB::v.sources.map sourceText)):=by
  cases v.whole with
  | true=>exact Qfm "whole" _
  | false=>
   refine QhT ?_;show (opt (!v.sources.isEmpty) (WB::v.sources.map sourceText)).head?≠some Jd;cases v.sources.isEmpty<;>simp[opt]<;>decide +kernel
 simp only[e1,e2];cases hs:v.sources with
 | nil=>
  show some (Rule.mk v.role v.focus v.whole [])=some v;rw[<-hs]
 | cons s r=>
  show (if WB=Xa "from" then (Xq (((s::r).map sourceText).map XaT)).map (λs=>Rule.mk v.role v.focus v.whole s) else none)=some v;rw[if_pos rfl,QgD,<-hs];rfl
def Zu(ks:List Kind)(l:List Rule):List Qb:=(ks.zip l).map λz=>spaced (ruleWords z.1 z.2)
theorem Qck(l:List Rule):Us l=(Zu XZ l).flatMap Vaacca.line:=by
 unfold Us Zu;rw[Xbe]
theorem Qfi:∀{ks:List Kind} {l:List Rule},l.all isRule=true->∀t ∈ Zu ks l,(10:UInt8) ∉ t:=by
 intro ks l hl t ht;unfold Zu at ht;obtain⟨z,hz,rfl⟩:=Xk.mp ht;have hv:=Xl.mp hl z.2 (Xbu hz).2;obtain⟨_,_,h3,_⟩:=Qan hv;have glue:∀ws:List Qb,(∀w ∈ ws,(10:UInt8) ∉ w)->(10:UInt8) ∉ spaced ws:=by
  intro ws
  induction ws with
  | nil=>intro _;simp[spaced,XS]
  | cons w r ih=>
   intro h;cases r with
   | nil=>exact h w Xh
   | cons x r=>
    have ih:=ih λv hv=>h v (Xn _ hv)
    show (10:UInt8) ∉ w++([32]++spaced (x::r));simp only[Xx,not_or];exact⟨h w Xh,by decide,ih⟩
 refine glue _ λw hw=>?_
 rw[Y9] at hw;rcases Xm.mp hw with hw | hw
 ·rw[hw];exact (Mp.Wf z.1).2.1
 ·rcases Xm.mp hw with hw | hw
  ·rw[hw];exact Mp.Zz 10 (by decide +kernel) h3
  ·unfold Qbu opt at hw;rcases Xx.mp hw with hw | hw
   ·split at hw
    ·rw[XE.mp hw];decide +kernel
    ·simp at hw
   ·rcases Xx.mp hw with hw | hw
    ·split at hw
     ·rw[XE.mp hw];decide +kernel
     ·simp at hw
    ·split at hw
     ·rcases Xm.mp hw with hw | hw
      ·rw[hw];decide +kernel
      ·obtain⟨s,_,rfl⟩:=Xk.mp hw;exact Mp.Zz 10 (by decide +kernel) (Mp.QaS s).1
     ·simp at hw
theorem Qiy:∀{ks:List Kind} {l:List Rule},ks.length=l.length->l.all isRule=true->Xq (((ks.map kindText).zip (Zu ks l)).map λp=>Q5 p.1 p.2)=some (l.map rr)
 | [],[],_,_=>rfl
 | [],_::_,h,_=>by simp at h
 | _::_,[],h,_=>by simp at h
 | k::ks,v::l,h,ha=>by
  rw[X4,Xd] at ha;have ih:=Qiy (ks:=ks) (l:=l) (by simpa using h) ha.2;show (Q5 (kindText k) (spaced (ruleWords k v))).bind (λa=>(Xq (((ks.map kindText).zip (Zu ks l)).map λp=>Q5 p.1 p.2)).map λl=>a::l)=_;rw[QmM ha.1,ih];rfl
theorem Qj3:∀{ks:List Kind} {l:List Rule},ks.length=l.length->l.all isRule=true->Xq ((Zu ks l).map Xab)=some l
 | [],[],_,_=>rfl
 | [],_::_,h,_=>by simp at h
 | _::_,[],h,_=>by simp at h
 | k::ks,v::l,h,ha=>by
  rw[X4,Xd] at ha;have ih:=Qj3 (ks:=ks) (l:=l) (by simpa using h) ha.2;show (Xab (spaced (ruleWords k v))).bind (λa=>(Xq ((Zu ks l).map Xab)).map λl=>a::l)=_;rw[Qjw ha.1,ih];rfl
theorem QgG:∀{ks:List Kind} {ls:List Qb} {rs:List Jv},ks.length=ls.length->Xq (((ks.map kindText).zip ls).map λp=>Q5 p.1 p.2)=some rs->∃l:List Rule,ks.length=l.length/\l.all isRule=true/\ls=Zu ks l/\rs=l.map rr
 | [],[],rs,_,h=>⟨[],rfl,rfl,rfl,(Xc h).symm⟩
 | [],_::_,_,h,_=>by simp at h
 | _::_,[],_,h,_=>by simp at h
 | k::ks,t::ls,rs,h,ha=>by
  have ha:(Q5 (kindText k) t).bind (λa=>(Xq (((ks.map kindText).zip ls).map λp=>Q5 p.1 p.2)).map λl=>a::l)=some rs:=ha;cases q:Q5 (kindText k) t with
  | none=>rw[q] at ha;cases ha
  | some r=>
   rw[q] at ha;have ha:(Xq (((ks.map kindText).zip ls).map λp=>Q5 p.1 p.2)).map (λl=>r::l)=some rs:=ha;obtain⟨rs',h1,h2⟩:=X6.mp ha;obtain⟨l,e1,e2,e3,e4⟩:=QgG (by simpa using h) h1;obtain⟨v,v1,v2,v3⟩:=QkF q;refine⟨v::l,by simp[e1],by rw[X4,v1,e2];rfl,?_,?_⟩
   ·show t::ls=spaced (ruleWords k v)::Zu ks l;rw[<-v2,<-e3]
   ·rw[<-h2,v3,e4];rfl
theorem QfT(t:Qb):Yc t=(X9 t).map λl=>l.map rr:=by
 have fwd:∀l,l.length=XZ.length->l.all isRule=true->Us l=t->Yc t=some (l.map rr)/\X9 t=some l:=by
  intro l hlen hall ht;have hlines:Uc t=some (Zu XZ l):=Mp.Qag.mpr ⟨by rw[<-ht];exact Qck l,Qfi hall⟩;constructor
  ·unfold Yc;rw[hlines];show (if (Zu XZ l).length=19 then Xq ((QS.zip (Zu XZ l)).map λp=>Q5 p.1 p.2) else none)=_;rw[if_pos (by unfold Zu;rw[Xb,XaQ,hlen];decide +kernel)];exact Qiy hlen.symm hall
  ·unfold X9;rw[hlines];show (Xq ((Zu XZ l).map Xab)).bind _=_;rw[Qj3 hlen.symm hall];show (if (UA l&&Us l==t)=true then some l else none)=_;rw[if_pos];rw[Xd];refine⟨?_,by rw[ht];exact beq_self_eq_true _⟩;unfold UA;rw[Xd];exact⟨by rw[hlen];exact beq_self_eq_true _,hall⟩
 cases h:Yc t with
 | some rs=>
  unfold Yc at h;cases el:Uc t with
  | none=>rw[el] at h;cases h
  | some ls=>
   rw[el] at h;have h:(if ls.length=19 then Xq ((QS.zip ls).map λp=>Q5 p.1 p.2) else none)=some rs:=h
   split at h
   ·rename_i h19
    obtain⟨l,e1,e2,e3,e4⟩:=QgG (ks:=XZ) (by rw[h19];decide +kernel) h;obtain⟨a1,_⟩:=Mp.Qag.mp el;obtain⟨f1,f2⟩:=fwd l e1.symm e2 (by rw[Qck,<-e3];exact a1.symm);rw[f2,e4];rfl
   ·cases h
 | none=>
  cases g:X9 t with
  | none=>rfl
  | some l=>
   exfalso;unfold X9 at g;obtain⟨ls,_,g⟩:=XT.mp g;obtain⟨l',_,g⟩:=XT.mp g
   split at g
   ·rename_i hc
    have g:=Xc g;subst g;rw[Xd] at hc;unfold UA at hc;rw[Xd] at hc;have:=(fwd l' (by simpa using hc.1.1) hc.1.2 (by simpa using hc.2)).1;rw[h] at this;cases this
   ·cases g
end Sr
namespace Sr
def Inc:Nat->List (Qb × List Qb)->Prop
 | _,[]=>True
 | e,s::r=>RES.contains s.1=true/\e<=J3 s.1/\(∀w ∈ s.2,RES.contains w=false)/\Inc (J3 s.1+1) r
def Y6(ss:List (Qb × List Qb)):List Qb:=ss.flatMap λs=>s.1::s.2
theorem Qdh:∀{ws:List Qb} (d:Dv) (r:List Qb),(∀w ∈ ws,RES.contains w=false)->JD d (ws++r)=JD ⟨d.older,d.key,d.ws++ws,d.e⟩ r
 | [],d,r,_=>by simp
 | w::ws,d,r,h=>by
  have hw:=h w Xh;show (match Wd d w with | none=>none | some d'=>JD d' (ws++r))=_;unfold Wd;rw[if_neg (by rw[hw];exact UL)];show JD ⟨d.older,d.key,d.ws++[w],d.e⟩ (ws++r)=_;rw[Qdh _ r λx hx=>h x (Xn _ hx)];simp
theorem QiQ:∀{ss:List (Qb × List Qb)} (d:Dv),Inc d.e ss->JD d (Y6 ss)=some (d.older++[(d.key,d.ws)]++ss)
 | [],d,_=>by
  show some (d.older++[(d.key,d.ws)])=_;simp
 | s::r,d,⟨h1,h2,h3,h4⟩=>by
  show (match Wd d s.1 with | none=>none | some d'=>JD d' (s.2++Y6 r))=_;unfold Wd;rw[if_pos h1,if_neg (by omega)];show JD ⟨d.older++[(d.key,d.ws)],s.1,[],J3 s.1+1⟩ (s.2++Y6 r)=_;rw[Qdh _ _ h3];show JD ⟨d.older++[(d.key,d.ws)],s.1,[]++s.2,J3 s.1+1⟩ (Y6 r)=_;rw[QiQ (ss:=r) ⟨d.older++[(d.key,d.ws)],s.1,[]++s.2,J3 s.1+1⟩ h4];simp
theorem QgR:∀{ws:List Qb} {d:Dv} {out:List (Qb × List Qb)},JD d ws=some out->QA λw1 ss=>ws=w1++Y6 ss/\(∀w ∈ w1,RES.contains w=false)/\Inc d.e ss/\out=d.older++[(d.key,d.ws++w1)]++ss
 | [],d,out,h=>⟨[],[],rfl,λw hw=>by simp at hw,trivial,by
   have:d.older++[(d.key,d.ws)]=out:=Xc h;rw[<-this];simp⟩
 | w::r,d,out,h=>by
  have h:(match Wd d w with | none=>none | some d'=>JD d' r)=some out:=h;cases q:Wd d w with
  | none=>rw[q] at h;cases h
  | some d'=>
   rw[q] at h;obtain⟨w1,ss,e1,e2,e3,e4⟩:=QgR (ws:=r) h;unfold Wd at q
   by_cases hc:RES.contains w=true
   ·rw[if_pos hc] at q
    by_cases he:J3 w<d.e
    ·rw[if_pos he] at q;cases q
    ·rw[if_neg he] at q;have q:=Xc q;subst q;refine⟨[],(w,w1)::ss,by rw[e1];rfl,λx hx=>by simp at hx,⟨hc,by show d.e<=J3 w;omega,e2,e3⟩,?_⟩;rw[e4];simp
   ·rw[if_neg hc] at q;have q:=Xc q;subst q;refine⟨w::w1,ss,by rw[e1];rfl,λx hx=>?_,e3,?_⟩
    ·rcases Xm.mp hx with hx | hx
     ·rw[hx];simpa using hc
     ·exact e2 x hx
    ·rw[e4];simp
def Jp(f:Nat->Option (List Qb))(is:List Nat):List (Qb × List Qb):=is.flatMap λi=>match f i with
 | some ws=>[(RES.getD i [],ws)]
 | none=>[]
theorem Zd(f:Nat->Option (List Qb))(i:Nat)(is:List Nat):Jp f (i::is)=(match f i with | some ws=>[(RES.getD i [],ws)] | none=>[])++Jp f is:=by
 unfold Jp;rw[US]
theorem Wp{i:Nat}(h:i<8):RES.contains (RES.getD i [])=true/\J3 (RES.getD i [])=i:=by
 have:∀i:Fin 8,RES.contains (RES.getD i.val [])=true/\J3 (RES.getD i.val [])=i.val:=by decide +kernel
 exact this ⟨i,h⟩
theorem QnJ{k:Qb}(h:RES.contains k=true):J3 k<8/\RES.getD (J3 k) []=k:=by
 obtain⟨h1,_⟩:=QhK h;refine⟨?_,by rw[Xf,h1];rfl⟩;have:=(Xp.mp h1).1;exact this
theorem QgX:∀(n e:Nat) (f:Nat->Option (List Qb)),e+n=8->(∀i ws,f i=some ws->∀w ∈ ws,RES.contains w=false)->Inc e (Jp f ((Xs n).map λj=>e+j))
 | 0,e,f,_,_=>trivial
 | n+1,e,f,he,hf=>by
  have step:∀g:Nat->Nat,Jp f ((Xs (n+1)).map g)=(match f (g 0) with | some ws=>[(RES.getD (g 0) [],ws)] | none=>[])++Jp f ((Xs n).map λj=>g (j+1)):=by
   intro g;rw[Xag,Xj,Zd,Xr];rfl
  rw[step];have ih:=QgX n (e+1) f (by omega) hf;have e1:((Xs n).map λj=>e+(j+1))=(Xs n).map λj=>e+1+j:=XF λj _=>by omega
  rw[e1];obtain⟨r1,r2⟩:=Wp (i:=e) (by omega);show Inc e ((match f (e+0) with | some ws=>[(RES.getD (e+0) [],ws)] | none=>[])++_);rw[XbT];cases q:f e with
  | none=>
   show Inc e (Jp f _);have weak:∀{e e':Nat} {ss:List (Qb × List Qb)},e<=e'->Inc e' ss->Inc e ss:=by
    intro e e' ss hle h;cases ss with
    | nil=>trivial
    | cons s r=>
     obtain⟨a,b,c,d⟩:=h;exact⟨a,by omega,c,d⟩
   exact weak (Xb8 e) ih
  | some ws=>
   refine⟨r1,by show e<=J3 (RES.getD e []);rw[r2];exact Xy _,hf e ws q,?_⟩;show Inc (J3 (RES.getD e [])+1) (Jp f _);rw[r2];exact ih
theorem YR{k:Qb}{s:Qb × List Qb}{r:List (Qb × List Qb)}(h:s.1≠k):Qu (s::r) k=Qu r k:=by
 unfold Qu;rw[XaP,show (s.1==k)=false from beq_eq_false_iff_ne.mpr h]
theorem Wv{s:Qb × List Qb}{r:List (Qb × List Qb)}:Qu (s::r) s.1=some s.2:=by
 unfold Qu;rw[XaP,show (s.1==s.1)=true from beq_self_eq_true _];rfl
theorem Qlp:∀{ss:List (Qb × List Qb)} {e i:Nat},Inc e ss->i<e->i<8->Qu ss (RES.getD i [])=none
 | [],e,i,_,_,_=>rfl
 | s::r,e,i,⟨h1,h2,h3,h4⟩,hi,h8=>by
  rw[YR λq=>?_]
  ·exact Qlp h4 (by omega) h8
  ·have:=(Wp h8).2;rw[<-q] at this;omega
theorem QhM:∀(n e:Nat) (ss:List (Qb × List Qb)),e+n=8->Inc e ss->ss=Jp (λi=>Qu ss (RES.getD i [])) ((Xs n).map λj=>e+j)
 | 0,e,ss,he,h=>by
  cases ss with
  | nil=>rfl
  | cons s r=>
   obtain⟨h1,h2,_⟩:=h;have:=(QnJ h1).1;omega
 | n+1,e,ss,he,h=>by
  have step:∀(f:Nat->Option (List Qb)) (g:Nat->Nat),Jp f ((Xs (n+1)).map g)=(match f (g 0) with | some ws=>[(RES.getD (g 0) [],ws)] | none=>[])++Jp f ((Xs n).map λj=>g (j+1)):=by
   intro f g;rw[Xag,Xj,Zd,Xr];rfl
  rw[step];have e1:((Xs n).map λj=>e+(j+1))=(Xs n).map λj=>e+1+j:=XF λj _=>by omega
  rw[e1];show ss=(match Qu ss (RES.getD (e+0) []) with | some ws=>[(RES.getD (e+0) [],ws)] | none=>[])++_;rw[XbT];have low:∀{r:List (Qb × List Qb)},Inc (e+1) r->Qu r (RES.getD e [])=none:=λhr=>Qlp hr (Ug _) (by omega)
  cases ss with
  | nil=>
   show []=[]++Jp (λi=>Qu [] (RES.getD i [])) _;exact QhM n (e+1) [] (by omega) trivial
  | cons s r=>
   obtain⟨h1,h2,h3,h4⟩:=h;have hk:=QnJ h1
   by_cases hek:e=J3 s.1
   ·have hs:RES.getD e []=s.1:=by rw[hek];exact hk.2
    rw[hs,Wv];rw[<-hek] at h4;have ih:=QhM n (e+1) r (by omega) h4;show s::r=s::Jp (λi=>Qu (s::r) (RES.getD i [])) _;congr 1;rw[ih]
    conv=>lhs;rw[<-ih]
    have cong:∀is:List Nat,(∀i ∈ is,e+1<=i/\i<8)->Jp (λi=>Qu r (RES.getD i [])) is=Jp (λi=>Qu (s::r) (RES.getD i [])) is:=by
     intro is
     induction is with
     | nil=>intro _;rfl
     | cons i is ih2=>
      intro hi;have hi0:=hi i Xh;rw[Zd,Zd,ih2 λj hj=>hi j (Xn _ hj)];rw[YR λq=>?_];have:=(Wp hi0.2).2;rw[<-q] at this;omega
    conv=>lhs;rw[ih]
    have:=cong ((Xs n).map λj=>e+1+j) (by
     intro i hi;obtain⟨j,hj,rfl⟩:=Xk.mp hi;rw[XR] at hj;omega)
    rw[<-ih] at this ⊢;exact this
   ·have hlt:e+1<=J3 s.1:=by omega
    have h':Inc (e+1) (s::r):=⟨h1,hlt,h3,h4⟩;rw[low h'];exact QhM n (e+1) (s::r) (by omega) h'
end Sr
namespace Sr
open Vaacca (Kind Box Act kindText actText quoted spaced opt isId isSaid digit boxWords isPressable)
structure BOk(b:Box):Prop where
 deep:b.deep<=5
 id:isId b.id=true
 text:b.text=[]\/isSaid b.text=true
 label:b.label=[]\/isSaid b.label=true
 byl:b.by_.length<=3
 byd:Xu b.by_=true
 byi:b.by_.all isId=true
 hintl:b.hint.length<=1
 hinti:b.hint.all isId=true
 on:b.on=true->b.kind=.check
 order:b.order<=9
 pressl:b.press.length<=3
 pressk:b.press=[]\/isPressable b.kind=true
 pressi:(b.press.all λa=>isId a.id)=true
def Jr(b:Box):Qb:=UC (2 * b.deep) 32++spaced (boxWords b)
def hd(b:Box):List Qb:=[kindText b.kind,b.id]++opt (!b.text.isEmpty) [quoted b.text]
def oo(c:Bool)(l:List Qb):Option (List Qb):=if c=true then some l else none
def ZB(b:Box)(i:Nat):Option (List Qb):=match i with
 | 0=>oo (!b.label.isEmpty) [quoted b.label]
 | 1=>oo (!b.by_.isEmpty) b.by_
 | 2=>oo (!b.hint.isEmpty) b.hint
 | 3=>oo b.hidden []
 | 4=>oo b.off []
 | 5=>oo b.on []
 | 6=>oo (b.order != 0) [digit b.order]
 | 7=>oo (!b.press.isEmpty) (b.press.map actText)
 | _=>none
theorem Y7(c:Bool)(k:Qb)(l:List Qb):Y6 (match oo c l with | some ws=>[(k,ws)] | none=>[])=opt c (k::l):=by
 cases c with
 | false=>rfl
 | true=>
  show [(k,l)].flatMap _=k::l;simp
theorem QiU(a b:List (Qb × List Qb)):Y6 (a++b)=Y6 a++Y6 b:=by
 unfold Y6;rw[List.flatMap_append]
theorem Z9(b:Box):boxWords b=hd b++Y6 (Jp (ZB b) [0,1,2,3,4,5,6,7]):=by
 repeat rw[Zd,QiU]
 show boxWords b=hd b++(Y6 (match oo _ _ with | some ws=>[(Xa "label",ws)] | none=>[])++(Y6 (match oo _ _ with | some ws=>[(Xa "by",ws)] | none=>[])++(Y6 (match oo _ _ with | some ws=>[(Xa "hint",ws)] | none=>[])++(Y6 (match oo _ _ with | some ws=>[(Xa "hidden",ws)] | none=>[])++(Y6 (match oo _ _ with | some ws=>[(Xa "off",ws)] | none=>[])++(Y6 (match oo _ _ with | some ws=>[(Xa "on",ws)] | none=>[])++(Y6 (match oo _ _ with | some ws=>[(Xa "order",ws)] | none=>[])++(Y6 (match oo _ _ with | some ws=>[(Xa "press",ws)] | none=>[])++[]))))))));rw[Y7,Y7,Y7,Y7,Y7,Y7,Y7,Y7,XG];unfold boxWords hd;rw[XH]
theorem ZS{t:Qb}(h:isId t=true):t≠[]/\t.all X3=true/\RES.contains t=false:=by
 unfold isId at h;rw[Xd,Xd,Xd] at h;obtain⟨h1,_,h3,h4⟩:=h;exact⟨λq=>by (rw[q] at h1;cases h1),h3,by simpa using h4⟩
theorem Qao{t:Qb}(h:isSaid t=true):(34:UInt8) ∉ t/\(10:UInt8) ∉ t/\t≠[]:=by
 unfold isSaid at h;rw[Xd] at h;have key:∀c:UInt8,c≠32->Uy c=false->c ∉ t:=by
  intro c hc hw hm;rw[<-Mp.Qbj 32 t] at hm;have glue:∀ws:List Qb,(∀w ∈ ws,c ∉ w)->c ∉ XS [32] ws:=by
   intro ws
   induction ws with
   | nil=>intro _;simp[XS]
   | cons w r ih=>
    intro h;cases r with
    | nil=>exact h w Xh
    | cons x r=>
     have ih:=ih λv hv=>h v (Xn _ hv)
     show c ∉ w++([32]++XS [32] (x::r));simp only[Xx,not_or];exact⟨h w Xh,by simpa using hc,ih⟩
  refine glue _ (λw hw2 hm2=>?_) hm;have:=Xl.mp h.2 w hw2;rw[Xd] at this;have:=Xl.mp this.2 c hm2;rw[hw] at this;cases this
 refine⟨key 34 (by decide) (by decide +kernel),key 10 (by decide) (by decide +kernel),λq=>?_⟩;rw[q] at h;have h2:=h.2;have:((XA 32 []).all λw=>!w.isEmpty&&w.all Uy)=false:=rfl;rw[this] at h2;cases h2
theorem Qlm{t:Qb}(h:isId t=true):Mp.Wb t:=by
 obtain⟨h1,h2,_⟩:=ZS h;exact .inl ⟨h1,Mp.Zz 32 (by decide +kernel) h2,Mp.Zz 34 (by decide +kernel) h2⟩
theorem Qmc(k:Kind):Mp.Wb (kindText k):=.inl (by cases k<;>decide +kernel)
theorem Qnx{t:Qb}(h:isSaid t=true):Mp.Wb (quoted t):=.inr ⟨t,rfl,(Qao h).1⟩
theorem Qda(a:Act)(h:isId a.id=true)(c:UInt8)(hc:X3 c=false)(h58:c≠58):c ∉ actText a:=by
 obtain⟨_,h2,_⟩:=ZS h;unfold actText;rw[Xx,Xm,not_or,not_or];refine⟨?_,h58,Mp.Zz c hc h2⟩;have:(Up a.what).all X3=true:=by cases a.what<;>decide +kernel
 exact Mp.Zz c hc this
theorem Qqz(a:Act):actText a≠[]:=by
 unfold actText;simp
theorem Qnw{a:Act}(h:isId a.id=true):Mp.Wb (actText a):=.inl ⟨Qqz a,Qda a h 32 (by decide +kernel) (by decide),Qda a h 34 (by decide +kernel) (by decide)⟩
theorem Qn9{w:Qb}(h:RES.contains w=true):Mp.Wb w/\(10:UInt8) ∉ w:=by
 have hm:w ∈ RES:=by simpa using h
 have:∀w ∈ RES,(w≠[]/\(32:UInt8) ∉ w/\(34:UInt8) ∉ w)/\(10:UInt8) ∉ w:=by decide +kernel
 exact⟨.inl (this w hm).1,(this w hm).2⟩
theorem QiO{n:Nat}(h0:n≠0)(h9:n<=9):Yh.contains (digit n)=true/\XaZ (digit n)=some n:=by
 have:∀n:Fin 10,n.val≠0->Yh.contains (digit n.val)=true/\XaZ (digit n.val)=some n.val:=by decide +kernel
 exact this ⟨n,by omega⟩ h0
theorem Qj9{n:Nat}(h9:n<=9):Mp.Wb (digit n)/\(10:UInt8) ∉ digit n/\RES.contains (digit n)=false:=by
 have:∀n:Fin 10,((digit n.val≠[]/\(32:UInt8) ∉ digit n.val/\(34:UInt8) ∉ digit n.val)/\(10:UInt8) ∉ digit n.val/\RES.contains (digit n.val)=false):=by decide +kernel
 exact⟨.inl (this ⟨n,by omega⟩).1,(this ⟨n,by omega⟩).2⟩
theorem JZ{c:Bool}{l ws:List Qb}(h:oo c l=some ws):c=true/\ws=l:=by
 cases c with
 | false=>cases h
 | true=>exact⟨rfl,(Xc h).symm⟩
theorem Qko{w:Qb}(c:UInt8)(hc:c ∈ w)(hn:∀x ∈ RES,c ∉ x):RES.contains w=false:=by
 rw[<-Xbc];intro h;exact hn w (by simpa using h) hc
theorem isE{α:Type}{l:List α}(h:(!l.isEmpty)=true):l≠[]:=λq=>by rw[q] at h;cases h
theorem QbQ{b:Box}(h:BOk b){i:Nat}{ws:List Qb}(e:ZB b i=some ws):∀w ∈ ws,Mp.Wb w/\(10:UInt8) ∉ w/\RES.contains w=false:=by
 have ids:∀{l:List Qb},l.all isId=true->∀w ∈ l,Mp.Wb w/\(10:UInt8) ∉ w/\RES.contains w=false:=λhl w hw=>by
  have hi:=Xl.mp hl w hw;exact⟨Qlm hi,Mp.Zz 10 (by decide +kernel) (ZS hi).2.1,(ZS hi).2.2⟩
 have hi:i<8:=by
  by_cases hi:i<8
  ·exact hi
  ·rw[show ZB b i=none by
    unfold ZB
    split<;>first | omega | rfl] at e
   cases e
 have:i=0\/i=1\/i=2\/i=3\/i=4\/i=5\/i=6\/i=7:=by omega
 rcases this with rfl | rfl | rfl | rfl | rfl | rfl | rfl | rfl
 ·obtain⟨h1,rfl⟩:=JZ e;intro w hw;rw[XE.mp hw];have hs:=h.label.resolve_left (isE h1);refine⟨Qnx hs,?_,Qko 34 Xh (by decide +kernel)⟩;unfold quoted;simp only[Xm,Xx,not_or];exact⟨by decide,(Qao hs).2.1,by decide,by simp⟩
 ·obtain⟨h1,rfl⟩:=JZ e;exact ids h.byi
 ·obtain⟨h1,rfl⟩:=JZ e;exact ids h.hinti
 ·obtain⟨h1,rfl⟩:=JZ e;intro w hw;simp at hw
 ·obtain⟨h1,rfl⟩:=JZ e;intro w hw;simp at hw
 ·obtain⟨h1,rfl⟩:=JZ e;intro w hw;simp at hw
 ·obtain⟨h1,rfl⟩:=JZ e;intro w hw;rw[XE.mp hw];exact Qj9 h.order
 ·obtain⟨h1,rfl⟩:=JZ e;intro w hw;obtain⟨a,ha,rfl⟩:=Xk.mp hw;have hi:=Xl.mp h.pressi a ha;refine⟨Qnw hi,Qda a hi 10 (by decide +kernel) (by decide),Qko 58 ?_ (by decide +kernel)⟩;unfold actText;simp
theorem Qe7{b:Box}(h:BOk b):∀w ∈ hd b,Mp.Wb w/\(10:UInt8) ∉ w/\RES.contains w=false:=by
 intro w hw;unfold hd opt at hw;rcases Xx.mp hw with hw | hw
 ·rcases Xm.mp hw with hw | hw
  ·rw[hw];exact⟨Qmc _,(Mp.Wf _).2.1,by cases b.kind<;>decide +kernel⟩
  ·rw[XE.mp hw];exact⟨Qlm h.id,Mp.Zz 10 (by decide +kernel) (ZS h.id).2.1,(ZS h.id).2.2⟩
 ·split at hw
  ·rename_i h1
   rw[XE.mp hw];have hs:=h.text.resolve_left (isE h1);refine⟨Qnx hs,?_,Qko 34 Xh (by decide +kernel)⟩;unfold quoted;simp only[Xm,Xx,not_or];exact⟨by decide,(Qao hs).2.1,by decide,by simp⟩
  ·simp at hw
theorem Ql3{f:Nat->Option (List Qb)}{is:List Nat}{s:Qb × List Qb}(h:s ∈ Jp f is):∃i ∈ is,s.1=RES.getD i []/\f i=some s.2:=by
 unfold Jp at h;obtain⟨i,hi,h⟩:=XaM.mp h;refine⟨i,hi,?_⟩
 split at h
 ·rename_i ws e
  rw[XE.mp h];exact⟨rfl,e⟩
 ·simp at h
theorem QdJ{b:Box}(h:BOk b):∀w ∈ boxWords b,Mp.Wb w/\(10:UInt8) ∉ w:=by
 intro w hw;rw[Z9] at hw;rcases Xx.mp hw with hw | hw
 ·exact⟨(Qe7 h w hw).1,(Qe7 h w hw).2.1⟩
 ·unfold Y6 at hw;obtain⟨s,hs,hw⟩:=XaM.mp hw;obtain⟨i,hi,e1,e2⟩:=Ql3 hs;rcases Xm.mp hw with hw | hw
  ·rw[hw,e1];refine Qn9 (Wp ?_).1;simp at hi;omega
  ·exact⟨(QbQ h e2 w hw).1,(QbQ h e2 w hw).2.1⟩
def rb(b:Box):QF:=⟨b.deep,kindText b.kind,b.id,b.text,b.label,b.by_,b.hint.getD 0 [],b.hidden,b.off,b.on,b.press.map actText⟩
theorem QgC{n:Nat}{t:Qb}(h:t.head?≠some 32):Jg (UC n 32++t)=n/\(UC n (32:UInt8)++t).drop n=t:=by
 refine⟨?_,by rw[List.drop_append_of_le_length (by simp)];simp⟩;unfold Jg
 induction n with
 | zero=>
  cases t with
  | nil=>rfl
  | cons a t=>
   show ((a::t).takeWhile _).length=0;rw[UI,if_neg]
   ·rfl
   ·intro q;exact h (by rw[show a=32 by simpa using q];rfl)
 | succ n ih=>
  rw[XbR,Uq,UI,if_pos (by rfl),Xw,ih]
theorem Qix(t:Qb):t=UC (Jg t) 32++t.drop (Jg t)/\(t.drop (Jg t)).head?≠some 32:=by
 unfold Jg
 induction t with
 | nil=>exact⟨rfl,λq=>nomatch q⟩
 | cons a t ih=>
  by_cases h:(a==32)=true
  ·rw[UI,if_pos h,Xw,XaW,XbR,Uq];refine⟨?_,ih.2⟩;rw[<-ih.1,show a=32 by simpa using h]
  ·rw[UI,if_neg h];refine⟨rfl,λq=>h ?_⟩;have:a=32:=Xc q;rw[this];rfl
theorem Qn7:(Xs 8).map (λj=>0+j)=[0,1,2,3,4,5,6,7]:=by decide
theorem Qka{hdw:List Qb}{f:Nat->Option (List Qb)}(h1:∀w ∈ hdw,RES.contains w=false)(h2:∀i ws,f i=some ws->∀w ∈ ws,RES.contains w=false):ZZ (hdw++Y6 (Jp f [0,1,2,3,4,5,6,7]))=some ((QX,hdw)::Jp f [0,1,2,3,4,5,6,7]):=by
 unfold ZZ;rw[Qdh _ _ h1,QiQ]
 ·rfl
 ·have:=QgX 8 0 f rfl h2;rw[Qn7] at this;exact this
theorem QcY{x:List Qb}{r:List (Qb × List Qb)}:Qu ((QX,x)::r) QX=some x:=Wv (s:=(QX,x))
theorem QaR{x:List Qb}(f:Nat->Option (List Qb)){i:Nat}(hi:i<8):Qu ((QX,x)::Jp f [0,1,2,3,4,5,6,7]) (RES.getD i [])=f i:=by
 rw[YR (λq=>?_)]
 ·have key:∀is:List Nat,(∀j ∈ is,j<8)->Qu (Jp f is) (RES.getD i [])=if i ∈ is then f i else none:=by
   intro is
   induction is with
   | nil=>intro _;rfl
   | cons j is ih=>
    intro hj;have ih:=ih λk hk=>hj k (Xn _ hk)
    have hj8:=hj j Xh;rw[Zd]
    by_cases hij:i=j
    ·subst hij;rw[if_pos Xh];cases q:f i with
     | some ws=>exact Wv (s:=(RES.getD i [],ws))
     | none=>
      show Qu (Jp f is) _=none;rw[ih,q]
      split<;>rfl
    ·have hne:RES.getD j []≠RES.getD i []:=λq=>hij (by rw[<-(Wp hi).2,<-(Wp hj8).2,q])
     have e:Qu ((match f j with | some ws=>[(RES.getD j [],ws)] | none=>[])++Jp f is) (RES.getD i [])=Qu (Jp f is) (RES.getD i []):=by
      cases f j with
      | some ws=>exact YR (s:=(RES.getD j [],ws)) hne
      | none=>rfl
     refine e.trans ?_;rw[ih];have:i ∈ j::is↔i ∈ is:=by simp[hij]
     simp only[this]
  rw[key _ (by simp),if_pos];have:∀i:Fin 8,i.val ∈ [0,1,2,3,4,5,6,7]:=by decide
  exact this ⟨i,hi⟩
 ·have:∀i:Fin 8,QX≠RES.getD i.val []:=by decide +kernel
  exact this ⟨i,hi⟩ q
theorem QnW{ss:List (Qb × List Qb)}{kind:Qb}:ZE ss kind=true↔∀i,i<8->∀ws,Qu ss (RES.getD i [])=some ws->Yp i ws kind=true:=by
 unfold ZE;rw[Xl];constructor
 ·intro h i hi ws e;have:=h (RES.getD i []) (XM.mpr ⟨by have:=(Wp hi).1;simpa using this,by rw[e];rfl⟩);rw[(Wp hi).2,e] at this;exact this
 ·intro h key hk;obtain⟨hk,hs⟩:=XM.mp hk;obtain⟨h1,h2⟩:=QnJ (k:=key) (by simpa using hk);obtain⟨ws,e⟩:=Xbj.mp hs;rw[e];refine h _ h1 ws ?_;rw[h2];exact e
theorem unq(t:Qb):UP (quoted t)=some t:=by
 show (if (t++[34]).getLast?=some 34 then some (t++[34]).dropLast else none)=some t;rw[if_pos (by simp)];simp
theorem Qr8{t:Qb}:QbW (quoted t)=isSaid t:=by
 unfold QbW;rw[unq];rfl
theorem Qlq(t:Qb):Yn (quoted t)=t:=by
 unfold Yn quoted;have e1:HT.sIx (34::(t++[34])).length 0 (some 1)=1:=by
  unfold HT.sIx;simp
  try omega
 have e2:HT.sIx (34::(t++[34])).length (34::(t++[34])).length (some (-1))=t.length+1:=by
  unfold HT.sIx;simp
  try omega
 rw[e1,e2];simp
theorem Qlv(k:Kind):QS.contains (kindText k)=true:=by cases k<;>decide +kernel
theorem Qo5{b:Box}(h:BOk b):Z4 (hd b)=true:=by
 unfold hd opt
 by_cases hc:(!b.text.isEmpty)=true
 ·rw[if_pos hc];show (QS.contains (kindText b.kind)&&(isId b.id&&QbW (quoted b.text)))=true;rw[Qlv,h.id,Qr8,h.text.resolve_left (isE hc)];rfl
 ·rw[if_neg hc];show (QS.contains (kindText b.kind)&&isId b.id)=true;rw[Qlv,h.id];rfl
theorem Qaa(a:Act):Qo (actText a)=(Up a.what,a.id):=by
 have h:(58:UInt8) ∉ Up a.what:=by cases a.what<;>decide +kernel
 unfold Qo actText;rw[Mp.Qat _ h];rfl
theorem QkC{k:Kind}(h:isPressable k=true):YY.contains (kindText k)=true:=by
 cases k<;>first | (exfalso;revert h;decide) | decide +kernel
theorem QnX{b:Box}(h:BOk b){i:Nat}(hi:i<8){ws:List Qb}(e:ZB b i=some ws):Yp i ws (kindText b.kind)=true:=by
 have:i=0\/i=1\/i=2\/i=3\/i=4\/i=5\/i=6\/i=7:=by omega
 rcases this with rfl | rfl | rfl | rfl | rfl | rfl | rfl | rfl
 ·obtain⟨h1,rfl⟩:=JZ e;show (true&&QbW (quoted b.label))=true;rw[Qr8,h.label.resolve_left (isE h1)];rfl
 ·obtain⟨h1,rfl⟩:=JZ e;show ((!b.by_.isEmpty&&b.by_.all isId)&&(decide (b.by_.length<=3)&&Xu b.by_))=true;rw[h1,h.byi,h.byd,decide_eq_true h.byl];rfl
 ·obtain⟨h1,rfl⟩:=JZ e;show ((!b.hint.isEmpty&&b.hint.all isId)&&decide (b.hint.length=1))=true;have hl:=h.hintl;have hn:=XbP.mpr (isE h1);rw[h1,h.hinti,decide_eq_true (by omega)];rfl
 ·obtain⟨h1,rfl⟩:=JZ e;rfl
 ·obtain⟨h1,rfl⟩:=JZ e;rfl
 ·obtain⟨h1,rfl⟩:=JZ e;show (decide (kindText b.kind=Xa "check")&&true)=true;rw[h.on h1];decide +kernel
 ·obtain⟨h1,rfl⟩:=JZ e;show (true&&Yh.contains (digit b.order))=true;rw[(QiO (by simpa using h1) h.order).1];rfl
 ·obtain⟨h1,rfl⟩:=JZ e;show (YY.contains (kindText b.kind)&&Qa8 (b.press.map actText))=true;rw[QkC (h.pressk.resolve_left (isE h1))];have h58:=h.pressi;unfold Qa8;rw[XaL,h1,Xb,decide_eq_true h.pressl,Ut,Ut];have a1:b.press.all ((λt=>isId (Qo t).2) ∘ actText)=true:=by
   rw[<-h58];congr 1;funext a;show isId (Qo (actText a)).2=_;rw[Qaa]
  have a2:b.press.all ((λt=>[Xa "show",Xa "hide",Xa "flip"].contains (Qo t).1) ∘ actText)=true:=by
   rw[Xl];intro a _;show List.contains _ (Qo (actText a)).1=true;rw[Qaa];show [Xa "show",Xa "hide",Xa "flip"].contains (Up a.what)=true;cases a.what<;>decide +kernel
  rw[a1,a2];rfl
theorem Qea{b:Box}(h:BOk b):(spaced (boxWords b)).head?≠some 32:=by
 have e:boxWords b=kindText b.kind::b.id::(opt (!b.text.isEmpty) [quoted b.text]++Y6 (Jp (ZB b) [0,1,2,3,4,5,6,7])):=by rw[Z9];rfl
 rw[e];show (kindText b.kind++_).head?≠some 32;have hk:(32:UInt8) ∉ kindText b.kind/\kindText b.kind≠[]:=⟨(Mp.Wf b.kind).1,(Mp.Wf b.kind).2.2⟩
 revert hk
 generalize kindText b.kind=k;intro hk;cases k with
 | nil=>exact absurd rfl hk.2
 | cons c k=>
  intro q;have:c=32:=Xc q;exact hk.1 (by rw[this];exact Xh)
theorem QpH{b:Box}(h:BOk b):QaL b.deep ((QX,hd b)::Jp (ZB b) [0,1,2,3,4,5,6,7])=rb b:=by
 unfold QaL rb;have s0:Qu ((QX,hd b)::Jp (ZB b) [0,1,2,3,4,5,6,7]) (Xa "label")=oo (!b.label.isEmpty) [quoted b.label]:=QaR (ZB b) (i:=0) (by decide);have s1:Qu ((QX,hd b)::Jp (ZB b) [0,1,2,3,4,5,6,7]) (Xa "by")=oo (!b.by_.isEmpty) b.by_:=QaR (ZB b) (i:=1) (by decide);have s2:Qu ((QX,hd b)::Jp (ZB b) [0,1,2,3,4,5,6,7]) (Xa "hint")=oo (!b.hint.isEmpty) b.hint:=QaR (ZB b) (i:=2) (by decide);have s3:Qu ((QX,hd b)::Jp (ZB b) [0,1,2,3,4,5,6,7]) (Xa "hidden")=oo b.hidden []:=QaR (ZB b) (i:=3) (by decide);have s4:Qu ((QX,hd b)::Jp (ZB b) [0,1,2,3,4,5,6,7]) (Xa "off")=oo b.off []:=QaR (ZB b) (i:=4) (by decide);have s5:Qu ((QX,hd b)::Jp (ZB b) [0,1,2,3,4,5,6,7]) (Xa "on")=oo b.on []:=QaR (ZB b) (i:=5) (by decide);have s7:Qu ((QX,hd b)::Jp (ZB b) [0,1,2,3,4,5,6,7]) (Xa "press")=oo (!b.press.isEmpty) (b.press.map actText):=QaR (ZB b) (i:=7) (by decide);rw[s0,s1,s2,s3,s4,s5,s7,QcY];congr 1
 ·show (if (hd b).length=3 then Yn ((hd b).getD 2 []) else [])=b.text;unfold hd opt;cases ht:b.text with
  | nil=>rfl
  | cons x r=>exact Qlq (x::r)
 ·cases ht:b.label with
  | nil=>rfl
  | cons x r=>exact Qlq (x::r)
 ·cases b.by_<;>rfl
 ·cases b.hint<;>rfl
 ·cases b.hidden<;>rfl
 ·cases b.off<;>rfl
 ·cases b.on<;>rfl
 ·cases b.press<;>rfl
theorem QiA{b:Box}(h:BOk b):Q9 (Jr b)=some (rb b):=by
 unfold Q9 Jr;obtain⟨a1,a2⟩:=QgC (n:=2 * b.deep) (Qea h);rw[a1,a2,Mp.Qf4 (by rw[Z9];exact λq=>nomatch q) λw hw=>(QdJ h w hw).1.good];have:=h.deep;rw[if_neg (by omega),Z9,Qka (λw hw=>(Qe7 h w hw).2.2) λi ws e w hw=>(QbQ h e w hw).2.2];show (if _ then _ else _)=_;have k0:(((Qu ((QX,hd b)::Jp (ZB b) [0,1,2,3,4,5,6,7]) QX).getD []).getD 0 [])=kindText b.kind:=by rw[QcY];rfl
 rw[if_pos,show 2 * b.deep / 2=b.deep by omega,QpH h];rw[k0,QcY,Xd];refine⟨Qo5 h,QnW.mpr λi hi ws e=>?_⟩;rw[QaR (ZB b) hi] at e;exact QnX h hi e
theorem Qlw{t:Qb}(h:QS.contains t=true):∃k:Kind,t=kindText k:=by
 have hm:t ∈ QS:=by simpa using h
 unfold QS at hm;obtain⟨k,_,e⟩:=Xk.mp hm;exact⟨k,e.symm⟩
theorem QcH{a b:Kind}(h:kindText a=kindText b):a=b:=by
 have:∀a ∈ XZ,∀b ∈ XZ,kindText a=kindText b->a=b:=by decide +kernel
 exact this a (by cases a<;>decide) b (by cases b<;>decide) h
theorem Qqm{w:Qb}(h:QbW w=true):∃t,w=quoted t/\isSaid t=true:=by
 unfold QbW UP at h
 split at h
 ·rename_i r
  split at h
  ·rename_i hl
   refine⟨r.dropLast,?_,h⟩;unfold quoted;rw[Xbs];refine⟨rfl,?_⟩;obtain⟨q,hq⟩:=List.getLast?_eq_some_iff.mp hl;rw[hq];simp
  ·cases h
 ·cases h
theorem Qn5{k:Kind}(h:YY.contains (kindText k)=true):isPressable k=true:=by
 cases k<;>first | decide | (exfalso;revert h;decide +kernel)
theorem Qp9{t:Qb}(h:[Xa "show",Xa "hide",Xa "flip"].contains t=true):∃x:Vaacca.What,t=Up x:=by
 have hm:t ∈ [Xa "show",Xa "hide",Xa "flip"]:=by simpa using h
 rcases Xm.mp hm with q | hm
 ·exact⟨.show_,q⟩
 ·rcases Xm.mp hm with q | hm
  ·exact⟨.hide,q⟩
  ·exact⟨.flip,XE.mp hm⟩
theorem QqA{t:Qb}(h1:isId (Qo t).2=true)(h2:[Xa "show",Xa "hide",Xa "flip"].contains (Qo t).1=true):∃a:Act,t=actText a/\isId a.id=true:=by
 obtain⟨x,hx⟩:=Qp9 h2;refine⟨⟨x,(Qo t).2⟩,?_,h1⟩;unfold actText;show t=Up x++58::(Qo t).2;rw[<-hx];have e:=Mp.Yu 58 t;unfold Qo at h1 ⊢;cases q:(Mp.Je 58 t).2 with
 | none=>rw[q] at h1;cases h1
 | some r=>
  rw[q] at e;exact e
theorem QgB:∀{ws:List Qb},(ws.all λt=>isId (Qo t).2)=true->(ws.all λt=>[Xa "show",Xa "hide",Xa "flip"].contains (Qo t).1)=true->∃as:List Act,ws=as.map actText/\(as.all λa=>isId a.id)=true
 | [],_,_=>⟨[],rfl,rfl⟩
 | t::r,h1,h2=>by
  rw[X4,Xd] at h1 h2;obtain⟨as,e1,e2⟩:=QgB h1.2 h2.2;obtain⟨a,a1,a2⟩:=QqA h1.1 h2.1;refine⟨a::as,by rw[a1,e1];rfl,?_⟩;rw[X4,a2,e2];rfl
theorem QnR{t:Qb}(h:Yh.contains t=true):∃n,n≠0/\n<=9/\t=digit n:=by
 have hm:t ∈ Yh:=by simpa using h
 have:∀t ∈ Yh,∃n,n<10/\n≠0/\t=digit n:=by decide +kernel
 obtain⟨n,h1,h2,h3⟩:=this t hm;exact⟨n,h2,by omega,h3⟩
theorem Qpi{l:List Qb}(h:l.length=1):∃x,l=[x]:=by
 cases l with
 | nil=>cases h
 | cons x r=>
  cases r with
  | nil=>exact⟨x,rfl⟩
  | cons y r=>simp at h
theorem QnK{o:Option (List Qb)}{k:Qb}(h:∀ws,o=some ws->Yp 0 ws k=true):∃t:Qb,(t=[]\/isSaid t=true)/\o=oo (!t.isEmpty) [quoted t]:=by
 cases o with
 | none=>exact⟨[],.inl rfl,rfl⟩
 | some ws=>
  have:=h ws rfl;have this:(decide (ws.length=1)&&QbW (ws.headD []))=true:=this;rw[Xd] at this;obtain⟨x,rfl⟩:=Qpi (of_decide_eq_true this.1);obtain⟨t,e,ht⟩:=Qqm (w:=x) this.2;refine⟨t,.inr ht,?_⟩;have hn:=(Qao ht).2.2;cases t with
  | nil=>exact absurd rfl hn
  | cons c r=>rw[e];rfl
theorem QrP{o:Option (List Qb)}{k:Qb}(h:∀ws,o=some ws->Yp 1 ws k=true):∃l:List Qb,l.length<=3/\Xu l=true/\l.all isId=true/\o=oo (!l.isEmpty) l:=by
 cases o with
 | none=>exact⟨[],by decide,rfl,rfl,rfl⟩
 | some ws=>
  have:=h ws rfl;have this:((!ws.isEmpty&&ws.all isId)&&(decide (ws.length<=3)&&Xu ws))=true:=this;rw[Xd,Xd,Xd] at this;refine⟨ws,of_decide_eq_true this.2.1,this.2.2,this.1.2,?_⟩;unfold oo;rw[if_pos this.1.1]
theorem Qo7{o:Option (List Qb)}{k:Qb}(h:∀ws,o=some ws->Yp 2 ws k=true):∃l:List Qb,l.length<=1/\l.all isId=true/\o=oo (!l.isEmpty) l:=by
 cases o with
 | none=>exact⟨[],by decide,rfl,rfl⟩
 | some ws=>
  have:=h ws rfl;have this:((!ws.isEmpty&&ws.all isId)&&decide (ws.length=1))=true:=this;rw[Xd,Xd] at this;refine⟨ws,Nat.le_of_eq (of_decide_eq_true this.2),this.1.2,?_⟩;unfold oo;rw[if_pos this.1.1]
theorem QhU{o:Option (List Qb)}(h:∀ws,o=some ws->ws.isEmpty=true):o=oo o.isSome []:=by
 cases o with
 | none=>rfl
 | some ws=>
  have:=h ws rfl;rw[UB.mp this];rfl
theorem Qq2{o:Option (List Qb)}{k:Qb}(h:∀ws,o=some ws->Yp 6 ws k=true):∃n:Nat,n<=9/\o=oo (n != 0) [digit n]:=by
 cases o with
 | none=>exact⟨0,by decide,rfl⟩
 | some ws=>
  have:=h ws rfl;have this:(decide (ws.length=1)&&Yh.contains (ws.headD []))=true:=this;rw[Xd] at this;obtain⟨x,rfl⟩:=Qpi (of_decide_eq_true this.1);obtain⟨n,h0,h9,e⟩:=QnR (t:=x) this.2;refine⟨n,h9,?_⟩;unfold oo;rw[if_pos (by simpa using h0),e]
theorem Qr7{o:Option (List Qb)}{k:Kind}(h:∀ws,o=some ws->Yp 7 ws (kindText k)=true):∃as:List Act,as.length<=3/\(as=[]\/isPressable k=true)/\(as.all λa=>isId a.id)=true/\o=oo (!as.isEmpty) (as.map actText):=by
 cases o with
 | none=>exact⟨[],by decide,.inl rfl,rfl,rfl⟩
 | some ws=>
  have:=h ws rfl;have this:(YY.contains (kindText k)&&Qa8 ws)=true:=this;rw[Xd] at this;obtain⟨h1,h2⟩:=this;unfold Qa8 at h2;rw[Xd,Xd,Xd] at h2;obtain⟨as,e1,e2⟩:=QgB h2.1.2 h2.2.2;refine⟨as,?_,.inr (Qn5 h1),e2,?_⟩
  ·have:=of_decide_eq_true h2.2.1;rw[e1,Xb] at this;exact this
  ·have h3:=h2.1.1;rw[e1,XaL] at h3;unfold oo;rw[if_pos h3,e1]
theorem QrX{w1:List Qb}(h:Z4 w1=true):JP λ(k:Kind) (i t:Qb)=>isId i=true/\(t=[]\/isSaid t=true)/\w1=[kindText k,i]++opt (!t.isEmpty) [quoted t]:=by
 rcases Qe8 h with hl | hl
 ·obtain⟨k0,i0,rfl⟩ | ⟨k0,i0,t0,rfl⟩:=QnL (ts:=w1) (by omega) (by omega)
  ·have h:(QS.contains k0&&isId i0)=true:=h;rw[Xd] at h;obtain⟨k,rfl⟩:=Qlw h.1;exact⟨k,i0,[],h.2,.inl rfl,rfl⟩
  ·simp at hl
 ·obtain⟨k0,i0,rfl⟩ | ⟨k0,i0,t0,rfl⟩:=QnL (ts:=w1) (by omega) (by omega)
  ·simp at hl
  ·have h:(QS.contains k0&&(isId i0&&QbW t0))=true:=h;rw[Xd,Xd] at h;obtain⟨k,rfl⟩:=Qlw h.1;obtain⟨t,e,ht⟩:=Qqm h.2.2;refine⟨k,i0,t,h.2.1,.inr ht,?_⟩;have hn:=(Qao ht).2.2;cases t with
   | nil=>exact absurd rfl hn
   | cons c r=>rw[e];rfl
theorem QdR{f g:Nat->Option (List Qb)}:∀{is:List Nat},(∀i ∈ is,f i=g i)->Jp f is=Jp g is
 | [],_=>rfl
 | i::is,h=>by rw[Zd,Zd,h i Xh,QdR λj hj=>h j (Xn _ hj)]
theorem Ql0{t:Qb}{r:QF}(h:Q9 t=some r):∃b:Box,BOk b/\t=Jr b/\r=rb b:=by
 have h0:=h;unfold Q9 at h
 split at h
 ·cases h
 ·rename_i hbl
  cases q:ZZ (Mp.QO (t.drop (Jg t))) with
  | none=>rw[q] at h;cases h
  | some ss=>
   rw[q] at h;have h:(if (Z4 ((Qu ss QX).getD [])&&ZE ss (((Qu ss QX).getD []).getD 0 []))=true then some (QaL (Jg t / 2) ss) else none)=some r:=h
   split at h
   ·rename_i hc
    rw[Xd] at hc;unfold ZZ at q;obtain⟨w1,s1,e1,e2,e3,e4⟩:=QgR q;have e4:ss=(QX,w1)::s1:=e4;subst e4;rw[QcY] at hc;obtain⟨hc1,hc2⟩:=hc;have hc1:Z4 w1=true:=hc1;obtain⟨k,i,tx,i1,t1,ew⟩:=QrX hc1;have hk:((some w1).getD []).getD 0 []=kindText k:=by rw[ew];rfl
    rw[hk] at hc2;have e5:=QhM 8 0 s1 rfl e3;rw[Qn7] at e5;have pp:∀i,i<8->∀ws,Qu s1 (RES.getD i [])=some ws->Yp i ws (kindText k)=true:=by
     intro i hi ws hs;refine QnW.mp hc2 i hi ws ?_;rw[e5,QaR _ hi];exact hs
    obtain⟨lb,l1,l2⟩:=QnK (pp 0 (by decide));obtain⟨by1,y1,y2,y3,y4⟩:=QrP (pp 1 (by decide));obtain⟨hi1,n1,n2,n3⟩:=Qo7 (pp 2 (by decide));have m3:=QhU (o:=Qu s1 (RES.getD 3 [])) (pp 3 (by decide));have m4:=QhU (o:=Qu s1 (RES.getD 4 [])) (pp 4 (by decide));have p5:∀ws,Qu s1 (RES.getD 5 [])=some ws->kindText k=Xa "check"/\ws.isEmpty=true:=λws hs=>by
     have:=pp 5 (by decide) ws hs;have this:(decide (kindText k=Xa "check")&&ws.isEmpty)=true:=this;rw[Xd] at this;exact⟨of_decide_eq_true this.1,this.2⟩
    have m5:=QhU (o:=Qu s1 (RES.getD 5 [])) λws hs=>(p5 ws hs).2
    obtain⟨od,o1,o2⟩:=Qq2 (pp 6 (by decide));obtain⟨as,a1,a2,a3,a4⟩:=Qr7 (pp 7 (by decide));have ok:BOk ⟨Jg t / 2,k,i,tx,lb,by1,hi1,(Qu s1 (RES.getD 3 [])).isSome,(Qu s1 (RES.getD 4 [])).isSome,(Qu s1 (RES.getD 5 [])).isSome,od,as⟩:=
     ⟨by show Jg t / 2<=5;omega,i1,t1,l1,y1,y2,y3,n1,n2,λho=>by
      obtain⟨ws,hs⟩:=Xbj.mp ho;exact QcH (b:=.check) (p5 ws hs).1,o1,a1,a2,a3⟩
    suffices et:t=Jr ⟨Jg t / 2,k,i,tx,lb,by1,hi1,(Qu s1 (RES.getD 3 [])).isSome,(Qu s1 (RES.getD 4 [])).isSome,(Qu s1 (RES.getD 5 [])).isSome,od,as⟩ from
     ⟨_,ok,et,Xc (h0.symm.trans ((congrArg Q9 et).trans (QiA ok)))⟩
    ·unfold Jr;rw[Z9];have ec:Jp (ZB ⟨Jg t / 2,k,i,tx,lb,by1,hi1,(Qu s1 (RES.getD 3 [])).isSome,(Qu s1 (RES.getD 4 [])).isSome,(Qu s1 (RES.getD 5 [])).isSome,od,as⟩) [0,1,2,3,4,5,6,7]=s1:=by
      conv=>rhs;rw[e5]
      refine QdR λj hj=>?_
      simp only[Xm,Xbh,or_false] at hj;rcases hj with rfl | rfl | rfl | rfl | rfl | rfl | rfl | rfl
      ·exact l2.symm
      ·exact y4.symm
      ·exact n3.symm
      ·exact m3.symm
      ·exact m4.symm
      ·exact m5.symm
      ·exact o2.symm
      ·exact a4.symm
     rw[ec];unfold hd;rw[<-ew,<-e1,Mp.Qe5];show t=UC (2 * (Jg t / 2)) 32++t.drop (Jg t);rw[show 2 * (Jg t / 2)=Jg t by omega];exact (Qix t).1
   ·cases h
end Sr
namespace Sr
open Vaacca (Kind Box Act kindText actText quoted spaced opt isId isSaid digit boxWords isPressable textOff labelOff namesOff markOff)
def Jy(b:Box)(is:List Nat):List Qb:=Y6 (Jp (ZB b) is)
theorem Wy(b:Box)(i:Nat)(is:List Nat){c:Bool}{l:List Qb}(h:ZB b i=oo c l):Jy b (i::is)=opt c (RES.getD i []::l)++Jy b is:=by
 unfold Jy;rw[Zd,QiU,h];exact congrArg (·++Y6 (Jp (ZB b) is)) (Y7 c (RES.getD i []) l)
theorem Qco(b:Box):∀{is:List Nat} {w:Qb},(Jy b is).head?=some w->∃i ∈ is,w=RES.getD i []
 | [],w,h=>by cases h
 | i::is,w,h=>by
  cases q:ZB b i with
  | none=>
   rw[Wy b i is (c:=false) (l:=[]) q] at h;obtain⟨j,hj,e⟩:=Qco b (is:=is) (w:=w) h;exact⟨j,Xn _ hj,e⟩
  | some ws=>
   rw[Wy b i is (c:=true) (l:=ws) q] at h;exact⟨i,Xh,(Xc h).symm⟩
theorem Qf7(b:Box){is:List Nat}{j:Nat}(hj:j<8)(h:∀i ∈ is,i<8/\i≠j):(Jy b is).head?≠some (RES.getD j []):=λq=>by
 obtain⟨i,hi,e⟩:=Qco b q;obtain⟨h1,h2⟩:=h i hi;exact h2 (by rw[<-(Wp h1).2,<-(Wp hj).2,e])
theorem Qhl(b:Box){is:List Nat}(h:∀i ∈ is,i<8):Jy b is=[]\/QA λw r=>Jy b is=w::r/\RES.contains w=true:=by
 cases q:Jy b is with
 | nil=>exact .inl rfl
 | cons w r=>
  obtain⟨i,hi,e⟩:=Qco b (is:=is) (w:=w) (by rw[q];rfl);exact .inr ⟨w,r,rfl,by rw[e];exact (Wp (h i hi)).1⟩
theorem QoF(b:Box)(hs:b.text=[]\/isSaid b.text=true){is:List Nat}(h:∀i ∈ is,i<8):textOff (opt (!b.text.isEmpty) [quoted b.text]++Jy b is)=(b.text,Jy b is):=by
 cases ht:b.text with
 | nil=>
  show textOff (Jy b is)=_;rcases Qhl b h with e | ⟨w,r,e,hw⟩
  ·rw[e];rfl
  ·rw[e];show (match UP w with | some t=>(t,r) | none=>([],w::r))=_;have:∀w ∈ RES,UP w=none:=by decide +kernel
   rw[this w (by simpa using hw)]
 | cons c t=>
  show (match UP (quoted (c::t)) with | some t=>(t,Jy b is) | none=>_)=_;rw[unq]
theorem Qmr(b:Box){is:List Nat}(h:∀i ∈ is,i<8/\i≠0):labelOff (Jy b (0::is))=(b.label,Jy b is):=by
 rw[Wy b 0 is (c:=!b.label.isEmpty) (l:=[quoted b.label]) rfl];cases ht:b.label with
 | nil=>
  show labelOff (Jy b is)=_;have:=Qf7 b (j:=0) (by decide) h;cases q:Jy b is with
  | nil=>rfl
  | cons w r=>
   rw[q] at this;show (if w=Xa "label" then _ else _)=_;rw[if_neg λe=>this (by rw[e];rfl)]
 | cons c t=>
  show (if Xa "label"=Xa "label" then textOff (quoted (c::t)::Jy b is) else ([],Xa "label"::quoted (c::t)::Jy b is))=_;rw[if_pos rfl];show (match UP (quoted (c::t)) with | some t=>(t,Jy b is) | none=>_)=_;rw[unq]
theorem QbM(b:Box)(m:String){j:Nat}{is:List Nat}{l:List Qb}(hj:j<8)(hm:RES.getD j []=Xa m)(h:∀i ∈ is,i<8/\i≠j)(e:ZB b j=oo (!l.isEmpty) l)(hl:∀w ∈ l,RES.contains w=false):namesOff m (Jy b (j::is))=(l,Jy b is):=by
 rw[Wy b j is e];cases l with
 | nil=>
  show namesOff m (Jy b is)=_;have:=Qf7 b hj h;cases q:Jy b is with
  | nil=>rfl
  | cons w r=>
   rw[q] at this;show (if w=Xa m then _ else _)=_;rw[if_neg λe=>this (by rw[e,hm];rfl)]
 | cons c t=>
  show namesOff m (RES.getD j []::((c::t)++Jy b is))=_;rw[hm];show (if Xa m=Xa m then (((c::t)++Jy b is).takeWhile (λx=>!RES.contains x),((c::t)++Jy b is).dropWhile λx=>!RES.contains x) else ([],Xa m::((c::t)++Jy b is)))=_;rw[if_pos rfl];have key:∀l:List Qb,(∀w ∈ l,RES.contains w=false)->(l++Jy b is).takeWhile (λx=>!RES.contains x)=l/\(l++Jy b is).dropWhile (λx=>!RES.contains x)=Jy b is:=by
   intro l
   induction l with
   | nil=>
    intro _;rcases Qhl b (λi hi=>(h i hi).1) with e | ⟨w,r,e,hw⟩
    ·rw[e];exact⟨rfl,rfl⟩
    ·rw[e];show (w::r).takeWhile _=[]/\(w::r).dropWhile _=w::r;rw[UI,XaV,hw];exact⟨rfl,rfl⟩
   | cons x l ih=>
    intro hx;have hx0:=hx x Xh;obtain⟨i1,i2⟩:=ih λw hw=>hx w (Xn _ hw)
    rw[Uq,UI,XaV,hx0];exact⟨by show x::_=_;rw[i1],i2⟩
  obtain⟨k1,k2⟩:=key _ hl;rw[k1,k2]
theorem Qfl(b:Box)(m:String){j:Nat}{is:List Nat}{c:Bool}(hj:j<8)(hm:RES.getD j []=Xa m)(h:∀i ∈ is,i<8/\i≠j)(e:ZB b j=oo c []):markOff m (Jy b (j::is))=(c,Jy b is):=by
 rw[Wy b j is e];cases c with
 | false=>
  refine QhT ?_;show (Jy b is).head?≠_;rw[<-hm];exact Qf7 b hj h
 | true=>
  show markOff m (RES.getD j []::Jy b is)=_;rw[hm];exact Qfm m _
theorem Qnj:∀{as:List Act},(as.all λa=>isId a.id)=true->Xq ((as.map actText).map XaB)=some as
 | [],_=>rfl
 | a::as,h=>by
  rw[X4,Xd] at h;show (XaB (actText a)).bind (λx=>(Xq ((as.map actText).map XaB)).map λl=>x::l)=_;rw[Qnj h.2];have h58:(58:UInt8) ∉ Up a.what:=by cases a.what<;>decide +kernel
  have e:XaB (actText a)=some a:=by
   unfold XaB actText;rw[Mp.QcA h58,Mp.Qcz (Mp.Zz 58 (by decide +kernel) (ZS h.1).2.1)];show (XcA (Up a.what)).map (λx=>Act.mk x a.id)=some a;have:XcA (Up a.what)=some a.what:=by cases a.what<;>decide +kernel
   rw[this];rfl
  rw[e];rfl
theorem Qi6(k:Kind):Xcz (kindText k)=some k:=by cases k<;>decide +kernel
theorem Qms{b:Box}(h:BOk b):Xas (Jr b)=some b:=by
 unfold Xas;obtain⟨a1,a2⟩:=QgC (n:=2 * b.deep) (Qea h);have a1:((Jr b).takeWhile λb=>b==32).length=2 * b.deep:=a1;have a2:(Jr b).drop (2 * b.deep)=spaced (boxWords b):=a2;simp only[a1,a2];rw[Mp.Qgf (by rw[Z9];exact λq=>nomatch q) λw hw=>(QdJ h w hw).1,Z9];show (Xcz (kindText b.kind)).bind (λx=>XbZ (2 * b.deep / 2) x b.id (opt (!b.text.isEmpty) [quoted b.text]++Jy b [0,1,2,3,4,5,6,7]))=some b;rw[Qi6];show XbZ (2 * b.deep / 2) b.kind b.id (opt (!b.text.isEmpty) [quoted b.text]++Jy b [0,1,2,3,4,5,6,7])=some b;rw[show 2 * b.deep / 2=b.deep by omega];unfold XbZ;have no:∀{j:Nat} {l:List Qb},ZB b j=oo (!l.isEmpty) l->∀w ∈ l,RES.contains w=false:=by
  intro j l e w hw;have:ZB b j=some l:=by
   rw[e];cases l with
   | nil=>simp at hw
   | cons c r=>rfl
  exact (QbQ h this w hw).2.2
 have e6:ZB b 6=oo (!(opt (b.order != 0) [digit b.order]).isEmpty) (opt (b.order != 0) [digit b.order]):=by
  show oo (b.order != 0) [digit b.order]=_;cases (b.order != 0)<;>rfl
 have e7:ZB b 7=oo (!(b.press.map actText).isEmpty) (b.press.map actText):=by
  show oo (!b.press.isEmpty) _=_;rw[XaL]
 rw[QoF b h.text (by decide)];dsimp only;rw[Qmr b (by decide)];dsimp only;rw[QbM b "by" (j:=1) (l:=b.by_) (by decide) rfl (by decide) rfl (no (j:=1) rfl)];dsimp only;rw[QbM b "hint" (j:=2) (l:=b.hint) (by decide) rfl (by decide) rfl (no (j:=2) rfl)];dsimp only;rw[Qfl b "hidden" (j:=3) (c:=b.hidden) (by decide) rfl (by decide) rfl];dsimp only;rw[Qfl b "off" (j:=4) (c:=b.off) (by decide) rfl (by decide) rfl];dsimp only;rw[Qfl b "on" (j:=5) (c:=b.on) (by decide) rfl (by decide) rfl];dsimp only;rw[QbM b "order" (j:=6) (by decide) rfl (by decide) e6 (no e6)];dsimp only;rw[QbM b "press" (j:=7) (by decide) rfl (by decide) e7 (no e7)];dsimp only;show (Xq ((b.press.map actText).map XaB)).bind _=some b;rw[Qnj h.pressi];show (Xq ((opt (b.order != 0) [digit b.order]).map XaZ)).map _=some b
 by_cases h0:b.order=0
 ·rw[h0];show some (Box.mk b.deep b.kind b.id b.text b.label b.by_ b.hint b.hidden b.off b.on 0 b.press)=some b;rw[<-h0]
 ·have:opt (b.order != 0) [digit b.order]=[digit b.order]:=by
   unfold opt;rw[if_pos (by simpa using h0)]
  rw[this];show ((XaZ (digit b.order)).bind _).map _=_;rw[(QiO h0 h.order).2];rfl
end Sr
namespace Sr
open Vaacca (Kind Box Act kindText actText isId isSaid isPressable parentIn fitsIn nests ids isBox isPage)
theorem QeS(p:List Box):Q6 (p.map rb)=p.map (·.deep):=by
 show (p.map rb).map _=_;rw[Xr];rfl
theorem Qca(p:List Box):QN (p.map rb)=ids p:=by
 show (p.map rb).map _=_;rw[Xr];rfl
theorem QoE{α:Type}{p:List α}{i:Nat}{b:α}(h:p[i]?=some b):(p.take (i+1)).reverse=b::(p.take i).reverse:=by
 rw[List.take_add_one,h];simp
theorem Qk2(p:List Box)(d:Nat):∀{i:Nat},i<=p.length->parentIn d (p.take i).reverse=(match up (p.map (·.deep)) d i with | .ofNat j=>p[j]? | .negSucc _=>none)
 | 0,_=>rfl
 | i+1,h=>by
  have hb:p[i]?=some p[i]:=Xe (by omega);rw[QoE hb];unfold up;have hd:(p.map (·.deep)).getD i 0=p[i].deep:=by
   rw[Xf,Xg,hb];rfl
  rw[hd];show (if p[i].deep<d then some p[i] else parentIn d (p.take i).reverse)=_
  by_cases hc:p[i].deep<d
  ·rw[if_pos hc,if_pos hc];exact hb.symm
  ·rw[if_neg hc,if_neg hc];exact Qk2 p d (by omega)
theorem QsH(a b:Kind):fitsIn a b=(!decide (kindText a=Xa "page")&&Qad (kindText a) (kindText b)):=by
 have:∀a ∈ XZ,∀b ∈ XZ,fitsIn a b=(!decide (kindText a=Xa "page")&&Qad (kindText a) (kindText b)):=by decide +kernel
 exact this a (by cases a<;>decide) b (by cases b<;>decide)
theorem Zh{p:List Box}{i:Nat}{b:Box}(h:p[i]?=some b):rAt (p.map rb) i=rb b:=by
 show (p.map rb).getD i noR=_;rw[Xf,Xg,h];rfl
structure Ar(pre:List Box)(around:List Kind):Prop where
 last:∃b,pre.getLast?=some b/\around.length=b.deep+1
 at_:∀d,1<=d->d<=around.length->(around.drop (around.length-d)).head?=(parentIn d pre.reverse).map (·.kind)
theorem Ar.step{pre:List Box}{around:List Kind}(h:Ar pre around){b:Box}(h1:b.deep<=around.length):Ar (pre++[b]) (b.kind::around.drop (around.length-b.deep)):=by
 have hl:(b.kind::around.drop (around.length-b.deep)).length=b.deep+1:=by
  rw[Xw,XQ];omega
 refine⟨⟨b,by simp,hl⟩,λd hd hle=>?_⟩;rw[hl] at hle ⊢;rw[List.reverse_append];show _=(if b.deep<d then some b else parentIn d pre.reverse).map (·.kind)
 by_cases hc:b.deep<d
 ·rw[if_pos hc,show b.deep+1-d=0 by omega];rfl
 ·rw[if_neg hc,show b.deep+1-d=(b.deep-d)+1 by omega,XaW,Xak,show around.length-b.deep+(b.deep-d)=around.length-d by omega];exact h.at_ d hd (by omega)
theorem Qm0{pre r:List Box}{around:List Kind}{b:Box}(h:Ar pre around):JB ((pre++b::r).map rb) pre.length=(decide (1<=b.deep)&&(decide (b.deep<=around.length)&&(match around.drop (around.length-b.deep) with
  | k::_=>fitsIn b.kind k
  | []=>false))):=by
 obtain⟨⟨l,hl,ha⟩,hat⟩:=h;have hpre:pre≠[]:=λq=>by rw[q] at hl;cases hl
 have hn:1<=pre.length:=XbP.mpr hpre;have e1:(pre++b::r)[pre.length]?=some b:=by simp
 have e2:(pre++b::r)[pre.length-1]?=some l:=by
  rw[Uh (by omega),<-Xav];exact hl
 unfold JB;rw[Zh e1,Zh e2];have hp:JY ((pre++b::r).map rb) pre.length=up ((pre++b::r).map (·.deep)) b.deep pre.length:=by
  show up (Q6 _) _ _=_;rw[QeS,Xf,Xg,e1];rfl
 rw[hp];show (!decide (kindText b.kind=Xa "page")&&((decide (1<=b.deep)&&decide (b.deep<=l.deep+1))&&Qad (kindText b.kind) _))=_;rw[<-ha]
 by_cases h1:1<=b.deep
 ·by_cases h2:b.deep<=around.length
  ·rw[decide_eq_true h1,decide_eq_true h2];have hh:=hat b.deep h1 h2;have up:=Qk2 (pre++b::r) b.deep (i:=pre.length) (by simp);rw[Xcr] at up;rw[up] at hh;cases q:around.drop (around.length-b.deep) with
   | nil=>
    have:=congrArg XO q;rw[XQ] at this;simp at this;omega
   | cons k ks=>
    rw[q] at hh;have hh:some k=_:=hh;cases qu:Sr.up ((pre++b::r).map (·.deep)) b.deep pre.length with
    | negSucc j=>rw[qu] at hh;cases hh
    | ofNat j=>
     rw[qu] at hh;have hh:some k=((pre++b::r)[j]?).map (·.kind):=hh;cases qj:(pre++b::r)[j]? with
     | none=>rw[qj] at hh;cases hh
     | some x=>
      rw[qj] at hh;have hk:k=x.kind:=Xc hh;show (!decide (kindText b.kind=Xa "page")&&((true&&true)&&Qad (kindText b.kind) (rAt ((pre++b::r).map rb) j).kind))=(true&&(true&&fitsIn b.kind k));rw[Zh qj,QsH,hk];rfl
  ·rw[decide_eq_false h2];cases (!decide (kindText b.kind=Xa "page"))<;>cases decide (1<=b.deep)<;>rfl
 ·rw[decide_eq_false h1];cases (!decide (kindText b.kind=Xa "page"))<;>rfl
theorem Qjd:∀(r pre:List Box) (around:List Kind),Ar pre around->nests around r=(Xs r.length).all λk=>JB ((pre++r).map rb) (pre.length+k)
 | [],pre,around,_=>rfl
 | b::r,pre,around,h=>by
  have hs:=Qm0 (r:=r) (b:=b) h;rw[Xw,Xag,X4,XbT,hs,Ut];show (decide (1<=b.deep)&&(decide (b.deep<=around.length)&&(_&&nests (b.kind::around.drop (around.length-b.deep)) r)))=_
  by_cases h2:b.deep<=around.length
  ·have ih:=Qjd r (pre++[b]) _ (h.step h2);rw[ih];have e:((Xs r.length).all λk=>JB ((pre++[b]++r).map rb) ((pre++[b]).length+k))=(Xs r.length).all ((λk=>JB ((pre++b::r).map rb) (pre.length+k)) ∘ Nat.succ):=by
    congr 1;funext k;show _=JB _ (pre.length+(k+1));rw[XH,Xi,XI,XbM,Nat.add_comm 1 k];rfl
   rw[e];simp only[Xcp];rfl
  ·rw[decide_eq_false h2];cases decide (1<=b.deep)<;>rfl
theorem Qfp{b:Box}(h:BOk b)(is:List Qb):Z1 is (rb b)=true↔(b.by_.all is.contains=true/\b.hint.all is.contains=true/\(b.press.all λa=>is.contains a.id)=true):=by
 unfold Z1 Y8;rw[Xcj,Xcj,Xd,Xd];have e1:((rb b).acts.map λt=>(Qo t).2)=b.press.map (·.id):=by
  show ((b.press.map actText).map _)=_;rw[Xr];refine XF λa _=>?_
  show (Qo (actText a)).2=_;rw[Qaa]
 rw[e1,Ut];have e2:(if (rb b).hint.isEmpty then [] else [(rb b).hint])=b.hint:=by
  show (if (b.hint.getD 0 []).isEmpty then [] else [b.hint.getD 0 []])=b.hint;have hl:=h.hintl;have hi:=h.hinti
  revert hl hi
  generalize b.hint=l;intro hl hi;cases l with
  | nil=>rfl
  | cons x r=>
   cases r with
   | nil=>
    rw[X4,Xd] at hi;have:=(ZS hi.1).1;show (if x.isEmpty then [] else [x])=[x];rw[if_neg];intro q;exact this (UB.mp q)
   | cons y r=>simp at hl
 rw[e2];exact⟨λ⟨⟨a,b⟩,c⟩=>⟨a,c,b⟩,λ⟨a,b,c⟩=>⟨⟨a,c⟩,b⟩⟩
theorem Wa{p:List Box}{b:Box}:isBox p b=true↔isId b.id=true/\(b.text=[]\/isSaid b.text=true)/\(b.label=[]\/isSaid b.label=true)/\b.by_.length<=3/\Xu b.by_=true/\b.by_.all (ids p).contains=true/\b.hint.length<=1/\b.hint.all (ids p).contains=true/\b.order<=9/\(b.on=true->b.kind=.check)/\b.press.length<=3/\(b.press=[]\/isPressable b.kind=true)/\(b.press.all λa=>(ids p).contains a.id)=true:=by
 unfold isBox Vaacca.REFS;simp only[Xd,Xch,UB,decide_eq_true_eq,Xb2,beq_iff_eq];have e:(b.on=false\/b.kind=Kind.check)↔(b.on=true->b.kind=Kind.check):=by
  cases b.on<;>simp
 rw[e]
theorem QiS{b:Box}:WD (rb b)=true↔b.kind=.page/\b.deep=0/\b.hidden=false:=by
 unfold WD;rw[Xd,Xd];have hk:decide ((rb b).kind=Xa "page")=true↔b.kind=.page:=by
  rw[decide_eq_true_eq];exact⟨λq=>QcH (b:=.page) q,λq=>by show kindText b.kind=_;rw[q];rfl⟩
 rw[hk,decide_eq_true_eq];show b.kind=.page/\b.deep=0/\(!b.hidden)=true↔_;rw[Xb2]
theorem QfH{p:List Box}:isPage p=true↔(1<=p.length/\p.length<=16)/\(∀b ∈ p,BOk b)/\Z6 (p.map rb)=true:=by
 cases p with
 | nil=>
  constructor
  ·intro h;cases h
  ·rintro⟨⟨h,_⟩,_⟩;simp at h
 | cons b r=>
  have hn:b.deep=0/\b.kind=.page->nests [.page] r=(Xs ((b::r).map rb).length.pred).all λi=>JB ((b::r).map rb) (i+1):=by
   rintro⟨hd,hk⟩;have ar:Ar [b] [.page]:=by
    refine⟨⟨b,rfl,by rw[hd];rfl⟩,λd h1 h2=>?_⟩;have:d=1:=by simp at h2;omega
    subst this;show some Kind.page=(if b.deep<1 then some b else none).map (·.kind);rw[if_pos (by omega),<-hk];rfl
   rw[Qjd r [b] [.page] ar,Xb];show _=(Xs r.length).all λi=>JB ((b::r).map rb) (i+1)
   congr 1;funext k;show JB ((b::r).map rb) (1+k)=_;rw[Nat.add_comm]
  have hp:Z6 ((b::r).map rb)=((Xu (ids (b::r))&&WD (rb b))&&(((b::r).map rb).all (Z1 (ids (b::r)))&&((Xs ((b::r).map rb).length.pred).all λi=>JB ((b::r).map rb) (i+1)))):=by
   unfold Z6;rw[Qca];rfl
  rw[hp];show (b.deep==0&&(b.kind==.page&&(!b.hidden&&(nests [.page] r&&(decide ((b::r).length<=XbX)&&((b::r).all (λx=>decide (x.deep<=Xa3))&&(Xu (ids (b::r))&&(b::r).all (isBox (b::r)))))))))=true↔_;generalize hst:((Xs ((b::r).map rb).length.pred).all λi=>JB ((b::r).map rb) (i+1))=st at hn ⊢;simp only[Xd,beq_iff_eq,decide_eq_true_eq,Ut];constructor
  ·rintro⟨h1,h2,h3,h4,h5,h6,h7,h8⟩;have bx:∀x ∈ b::r,isBox (b::r) x=true:=λx hx=>Xl.mp h8 x hx
   have idd:∀i:Qb,(ids (b::r)).contains i=true->isId i=true:=by
    intro i hi;have hi:i ∈ ids (b::r):=by simpa using hi
    obtain⟨x,hx,rfl⟩:=Xk.mp hi;exact (Wa.mp (bx x hx)).1
   have ok:∀x ∈ b::r,BOk x:=by
    intro x hx;obtain⟨q1,q2,q3,q4,q5,q6,q7,q8,q9,q10,q11,q12,q13⟩:=Wa.mp (bx x hx);exact⟨by have:=Xl.mp h6 x hx;exact of_decide_eq_true this,q1,q2,q3,q4,q5,Xl.mpr λi hi=>idd i (Xl.mp q6 i hi),q7,Xl.mpr λi hi=>idd i (Xl.mp q8 i hi),q10,q9,q11,q12,Xl.mpr λa ha=>idd a.id (Xl.mp q13 a ha)⟩
   refine⟨⟨by simp,h5⟩,ok,⟨h7,QiS.mpr ⟨h2,h1,by simpa using h3⟩⟩,Xl.mpr λx hx=>?_,?_⟩
   ·obtain⟨q1,q2,q3,q4,q5,q6,q7,q8,q9,q10,q11,q12,q13⟩:=Wa.mp (bx x hx);exact (Qfp (ok x hx) _).mpr ⟨q6,q8,q13⟩
   ·rw[<-hn ⟨h1,h2⟩];exact h4
  ·rintro⟨⟨_,g1⟩,ok,⟨g2,g3⟩,g4,g5⟩;obtain⟨f1,f2,f3⟩:=QiS.mp g3;refine⟨f2,f1,by simpa using f3,by rw[hn ⟨f2,f1⟩];exact g5,g1,Xl.mpr λx hx=>decide_eq_true (ok x hx).deep,g2,Xl.mpr λx hx=>?_⟩;have o:=ok x hx;obtain⟨n1,n2,n3⟩:=(Qfp o _).mp (Xl.mp g4 x hx);exact Wa.mpr ⟨o.id,o.text,o.label,o.byl,o.byd,n1,o.hintl,n2,o.order,o.on,o.pressl,o.pressk,n3⟩
end Sr
namespace Sr
open Vaacca (Kind Box Act kindText spaced boxWords isPage pageText)
theorem Qmt{b:Box}(h:BOk b):(10:UInt8) ∉ Jr b:=by
 have glue:∀ws:List Qb,(∀w ∈ ws,(10:UInt8) ∉ w)->(10:UInt8) ∉ spaced ws:=by
  intro ws
  induction ws with
  | nil=>intro _;simp[spaced,XS]
  | cons w r ih=>
   intro h;cases r with
   | nil=>exact h w Xh
   | cons x r=>
    have ih:=ih λv hv=>h v (Xn _ hv)
    show (10:UInt8) ∉ w++([32]++spaced (x::r));simp only[Xx,not_or];exact⟨h w Xh,by decide,ih⟩
 unfold Jr;rw[Xx,not_or];refine⟨λq=>?_,glue _ λw hw=>(QdJ h w hw).2⟩;have:=List.eq_of_mem_replicate q
 revert this
 decide
theorem Qha(p:List Box):pageText p=(p.map Jr).flatMap Vaacca.line:=by
 unfold pageText;rw[Xbe];rfl
theorem QdQ:∀{p:List Box},(∀b ∈ p,BOk b)->Xq ((p.map Jr).map Q9)=some (p.map rb)
 | [],_=>rfl
 | b::p,h=>by
  have ih:=QdQ (p:=p) λx hx=>h x (Xn _ hx)
  show (Q9 (Jr b)).bind (λa=>(Xq ((p.map Jr).map Q9)).map λl=>a::l)=_;rw[QiA (h b Xh),ih];rfl
theorem QeL:∀{p:List Box},(∀b ∈ p,BOk b)->Xq ((p.map Jr).map Xas)=some p
 | [],_=>rfl
 | b::p,h=>by
  have ih:=QeL (p:=p) λx hx=>h x (Xn _ hx)
  show (Xas (Jr b)).bind (λa=>(Xq ((p.map Jr).map Xas)).map λl=>a::l)=_;rw[Qms (h b Xh),ih];rfl
theorem QgE:∀{ls:List Qb} {rs:List QF},Xq (ls.map Q9)=some rs->∃p:List Box,(∀b ∈ p,BOk b)/\ls=p.map Jr/\rs=p.map rb
 | [],rs,h=>⟨[],λb hb=>(by simp at hb),rfl,(Xc h).symm⟩
 | l::ls,rs,h=>by
  have h:(Q9 l).bind (λa=>(Xq (ls.map Q9)).map λl=>a::l)=some rs:=h;cases q:Q9 l with
  | none=>rw[q] at h;cases h
  | some r=>
   rw[q] at h;have h:(Xq (ls.map Q9)).map (λl=>r::l)=some rs:=h;obtain⟨rs',h1,h2⟩:=X6.mp h;obtain⟨p,p1,p2,p3⟩:=QgE h1;obtain⟨b,b1,b2,b3⟩:=Ql0 q;refine⟨b::p,λx hx=>?_,by rw[b2,p2];rfl,by rw[<-h2,b3,p3];rfl⟩;rcases Xm.mp hx with hx | hx
   ·rw[hx];exact b1
   ·exact p1 x hx
theorem Qg9(t:Qb):ZU t=(Uj t).map λp=>p.map rb:=by
 have fwd:∀p,isPage p=true->pageText p=t->ZU t=some (p.map rb)/\Uj t=some p:=by
  intro p hp ht;obtain⟨⟨h1,h2⟩,ok,h3⟩:=QfH.mp hp;have hlines:Uc t=some (p.map Jr):=Mp.Qag.mpr ⟨by rw[<-ht];exact Qha p,λl hl=>by
   obtain⟨b,hb,rfl⟩:=Xk.mp hl;exact Qmt (ok b hb)⟩
  constructor
  ·unfold ZU;rw[hlines];show (if 1<=(p.map Jr).length/\(p.map Jr).length<=16 then (match Xq ((p.map Jr).map Q9) with | none=>none | some rs=>if Z6 rs=true then some rs else none) else none)=_;rw[Xb,if_pos ⟨h1,h2⟩,QdQ ok];show (if Z6 (p.map rb)=true then some (p.map rb) else none)=_;rw[if_pos h3]
  ·unfold Uj;rw[hlines];show (Xq ((p.map Jr).map Xas)).bind _=_;rw[QeL ok];show (if (isPage p&&pageText p==t)=true then some p else none)=_;rw[if_pos];rw[hp,ht];exact beq_self_eq_true t
 cases h:ZU t with
 | some rs=>
  unfold ZU at h;cases el:Uc t with
  | none=>rw[el] at h;cases h
  | some ls=>
   rw[el] at h;have h:(if 1<=ls.length/\ls.length<=16 then (match Xq (ls.map Q9) with | none=>none | some rs=>if Z6 rs=true then some rs else none) else none)=some rs:=h
   split at h
   ·rename_i hl
    cases q:Xq (ls.map Q9) with
    | none=>rw[q] at h;cases h
    | some rs'=>
     rw[q] at h;have h:(if Z6 rs'=true then some rs' else none)=some rs:=h
     split at h
     ·rename_i hok
      have h:=Xc h;subst h;obtain⟨p,p1,p2,p3⟩:=QgE q;obtain⟨a1,_⟩:=Mp.Qag.mp el;obtain⟨f1,f2⟩:=fwd p (QfH.mpr ⟨by rw[p2,Xb] at hl;exact hl,p1,by rw[<-p3];exact hok⟩) (by rw[Qha,<-p2];exact a1.symm);rw[f2,p3];rfl
     ·cases h
   ·cases h
 | none=>
  cases g:Uj t with
  | none=>rfl
  | some p=>
   exfalso;unfold Uj at g;obtain⟨ls,_,g⟩:=XT.mp g;obtain⟨p',_,g⟩:=XT.mp g
   split at g
   ·rename_i hc
    have g:=Xc g;subst g;rw[Xd] at hc;have:=(fwd p' hc.1 (by simpa using hc.2)).1;rw[h] at this;cases this
   ·cases g
end Sr
namespace Sr
open Vaacca (Kind Box Act kindText parentIn ids boxAt before parentOf aroundFrom around insideOf kidsOf isVisible Now)
theorem Qb5{p:List Box}{i:Nat}{b:Box}(hn:(ids p).Nodup)(h:p[i]?=some b):(p.takeWhile λx=>x.id != b.id)=p.take i/\(p.dropWhile λx=>x.id != b.id)=p.drop i:=by
 induction p generalizing i with
 | nil=>simp at h
 | cons a p ih=>
  have hn':(ids (a::p)).Nodup:=hn;have hn:a.id ∉ ids p/\(ids p).Nodup:=by
   unfold ids at hn';rw[Xj,Ue] at hn';exact hn'
  rw[UI,XaV];cases i with
  | zero=>
   have:a=b:=Xc h;subst this;rw[if_neg (by simp),if_neg (by simp)];exact⟨rfl,rfl⟩
  | succ i=>
   have h:p[i]?=some b:=by simpa using h
   have hne:a.id≠b.id:=λq=>hn.1 (by rw[q];exact Xk.mpr ⟨b,Xo h,rfl⟩)
   rw[if_pos (by simpa using hne),if_pos (by simpa using hne)];obtain⟨i1,i2⟩:=ih hn.2 h;rw[i1,i2];exact⟨rfl,rfl⟩
theorem Qbe{p:List Box}{i:Nat}{b:Box}(hn:(ids p).Nodup)(h:p[i]?=some b):boxAt p b.id=some b:=by
 unfold boxAt
 induction p generalizing i with
 | nil=>simp at h
 | cons a p ih=>
  have hn:a.id ∉ ids p/\(ids p).Nodup:=by
   unfold ids at hn;rw[Xj,Ue] at hn;exact hn
  rw[XaP];cases i with
  | zero=>
   have:a=b:=Xc h;subst this;rw[beq_self_eq_true]
  | succ i=>
   have h:p[i]?=some b:=by simpa using h
   have hne:a.id≠b.id:=λq=>hn.1 (by rw[q];exact Xk.mpr ⟨b,Xo h,rfl⟩)
   rw[show (a.id==b.id)=false from beq_eq_false_iff_ne.mpr hne];exact ih hn.2 h
def Wm(p:List Box)(i:Nat):Option Nat:=match up (p.map (·.deep)) ((p.map (·.deep)).getD i 0) i with
 | .ofNat j=>some j
 | .negSucc _=>none
theorem QhG{p:List Box}{i:Nat}{b:Box}(h:p[i]?=some b):(p.map (·.deep)).getD i 0=b.deep:=by
 rw[Xf,Xg,h];rfl
theorem QdZ{d:Nat}:∀{l:List Box} {x:Box},parentIn d l=some x->x.deep<d
 | [],x,h=>by cases h
 | a::l,x,h=>by
  have h:(if a.deep<d then some a else parentIn d l)=some x:=h
  split at h
  ·rename_i hd
   rw[<-Xc h];exact hd
  ·exact QdZ h
theorem Qqr{p:List Box}{i:Nat}{b:Box}(h:p[i]?=some b):parentIn b.deep (p.take i).reverse=(Wm p i).bind λj=>p[j]?:=by
 have hi:i<p.length:=(Xp.mp h).1;rw[Qk2 p b.deep (Nat.le_of_lt hi)];unfold Wm;rw[QhG h];cases up (p.map (·.deep)) b.deep i<;>rfl
theorem QbN{p:List Box}{i j:Nat}(h:Wm p i=some j):j<i:=by
 unfold Wm at h;have:=(Qau (p.map (·.deep)) ((p.map (·.deep)).getD i 0) i).2
 split at h
 ·rename_i k e
  rw[e] at this;rw[<-Xc h];have this:(k:Int)<i:=this;omega
 ·cases h
theorem Qdv{p:List Box}{i j:Nat}{b x:Box}(h:p[i]?=some b)(hj:Wm p i=some j)(hx:p[j]?=some x):x.deep<b.deep:=by
 have:=Qqr h;rw[hj] at this;have this:parentIn b.deep (p.take i).reverse=p[j]?:=this;rw[hx] at this;exact QdZ this
theorem Qd0{p:List Box}{i:Nat}{b:Box}(hn:(ids p).Nodup)(h:p[i]?=some b):parentOf p b.id=((Wm p i).bind λj=>p[j]?).map (·.id):=by
 unfold parentOf before;rw[Qbe hn h,(Qb5 hn h).1];show (parentIn b.deep (p.take i).reverse).map _=_;rw[Qqr h]
abbrev Yy(p:List Box)(i:Nat):Qb:=(ids p).getD i []
theorem Zq{p:List Box}{i:Nat}{b:Box}(h:p[i]?=some b):Yy p i=b.id:=by
 show (ids p).getD i []=_;unfold ids;rw[Xf,Xg,h];rfl
def ZA(p:List Box):Nat->Nat->List Nat
 | 0,_=>[]
 | f+1,i=>match Wm p i with
  | some j=>j::ZA p f j
  | none=>[]
theorem Qba{p:List Box}:∀(f g i:Nat) (b:Box),p[i]?=some b->b.deep<f->b.deep<g->ZA p f i=ZA p g i
 | 0,g,i,b,_,h,_=>by omega
 | f+1,0,i,b,_,_,h=>by omega
 | f+1,g+1,i,b,h,hf,hg=>by
  unfold ZA;cases q:Wm p i with
  | none=>rfl
  | some j=>
   have hj:j<p.length:=XbU (QbN q) (Xp.mp h).1;have hx:p[j]?=some p[j]:=Xe hj;have hd:=Qdv h q hx;show j::_=j::_;rw[Qba f g j p[j] hx (by omega) (by omega)]
theorem QbY{p:List Box}(hn:(ids p).Nodup):∀(f i:Nat) (b:Box),p[i]?=some b->aroundFrom p f b.id=(ZA p f i).map (Yy p)
 | 0,i,b,_=>rfl
 | f+1,i,b,h=>by
  unfold aroundFrom ZA;rw[Qd0 hn h];cases q:Wm p i with
  | none=>rfl
  | some j=>
   have hj:j<p.length:=XbU (QbN q) (Xp.mp h).1;have hx:p[j]?=some p[j]:=Xe hj;show (match (p[j]?).map (·.id) with | none=>[] | some m=>m::aroundFrom p f m)=Yy p j::(ZA p f j).map (Yy p);rw[hx];show p[j].id::aroundFrom p f p[j].id=_;rw[QbY hn f j p[j] hx,Zq hx]
theorem Qb7{p:List Box}:∀(n i:Nat) (b:Box),i<n->p[i]?=some b->QQ (p.map rb) i=ZA p (b.deep+1) i
 | 0,i,b,h,_=>by omega
 | n+1,i,b,hin,h=>by
  rw[Yj];unfold ZA;have e:JY (p.map rb) i=up (p.map (·.deep)) ((p.map (·.deep)).getD i 0) i:=by
   show up (Q6 (p.map rb)) ((Q6 (p.map rb)).getD i 0) i=_;rw[QeS]
  rw[e];cases q:up (p.map (·.deep)) ((p.map (·.deep)).getD i 0) i with
  | negSucc k=>
   rw[show Wm p i=none by unfold Wm;rw[q]]
  | ofNat j=>
   have qj:Wm p i=some j:=by unfold Wm;rw[q]
   rw[qj];have hji:=QbN qj;have hj:j<p.length:=XbU hji (Xp.mp h).1;have hx:p[j]?=some p[j]:=Xe hj;have hd:=Qdv h qj hx;show j::QQ (p.map rb) j=j::ZA p b.deep j;rw[Qb7 n j p[j] (by omega) hx,Qba (p[j].deep+1) b.deep j p[j] hx (by omega) hd]
theorem Qdb{p:List Box}(hn:(ids p).Nodup){i:Nat}{b:Box}(h:p[i]?=some b)(hd:b.deep<=5):around p b.id=(QQ (p.map rb) i).map (Yy p):=by
 unfold around;rw[QbY hn _ i b h,Qb7 (i+1) i b (Ug _) h,Qba (Xa3+1) (b.deep+1) i b h (by show b.deep<6;omega) (Ug _)]
theorem QeM{p:List Box}:∀(f i j:Nat),j ∈ ZA p f i->j<i
 | 0,i,j,h=>by simp[ZA] at h
 | f+1,i,j,h=>by
  unfold ZA at h
  split at h
  ·rename_i k e
   have:=QbN e;rcases Xm.mp h with h | h
   ·omega
   ·have:=QeM f k j h;omega
  ·simp at h
end Sr
namespace Sr
open Vaacca (Kind Box Act kindText ids boxAt around isVisible Now inOrder turned modalOf isWithin canPress actOn pressed isPressable)
def sel(p:List Box)(fs:List Bool):List Qb:=((p.zip fs).filter (·.2)).map (·.1.id)
theorem QlN(p:List Box)(f:Box->Bool):sel p (p.map f)=(p.filter f).map (·.id):=by
 unfold sel
 induction p with
 | nil=>rfl
 | cons b p ih=>
  rw[Xj,Xa5,Ur,Ur];show ((if f b=true then _ else _):List (Box × Bool)).map _=_
  by_cases h:f b=true
  ·rw[if_pos h,if_pos h,Xj,Xj,ih]
  ·rw[if_neg h,if_neg h,ih]
theorem QpK{p:List Box}{fs:List Bool}{n:Qb}(h:n ∈ sel p fs):n ∈ ids p:=by
 unfold sel at h;obtain⟨z,hz,rfl⟩:=Xk.mp h;have:=(Xbu (XM.mp hz).1).1;exact Xk.mpr ⟨z.1,this,rfl⟩
theorem Wi{b:Box}{p:List Box}(h:(ids (b::p)).Nodup):b.id ∉ ids p/\(ids p).Nodup:=by
 unfold ids at h;rw[Xj,Ue] at h;exact h
theorem Qbz(b:Box)(p:List Box)(f:Bool)(fs:List Bool):sel (b::p) (f::fs)=(if f=true then [b.id] else [])++sel p fs:=by
 unfold sel;rw[Xa5,Ur];cases f<;>rfl
theorem WL{p:List Box}(hn:(ids p).Nodup):∀{fs:List Bool} {i:Nat} {b:Box},fs.length=p.length->p[i]?=some b->(sel p fs).contains b.id=fs.getD i false:=by
 induction p with
 | nil=>intro fs i b _ h;simp at h
 | cons a p ih=>
  intro fs i b hl h;obtain⟨n1,n2⟩:=Wi hn;cases fs with
  | nil=>simp at hl
  | cons f fs=>
   have hl:fs.length=p.length:=by simpa using hl
   rw[Qbz];cases i with
   | zero=>
    have:a=b:=Xc h;subst this;show _=f;cases f with
    | true=>simp
    | false=>
     show (sel p fs).contains a.id=false;rw[<-Xbc];intro q;exact n1 (QpK (by simpa using q))
   | succ i=>
    have h:p[i]?=some b:=by simpa using h
    have:=ih n2 hl h;show _=fs.getD i false;rw[<-this];have hne:b.id≠a.id:=λq=>n1 (by rw[<-q];exact Xk.mpr ⟨b,Xo h,rfl⟩)
    cases f with
    | true=>
     show (a.id::sel p fs).contains b.id=_;rw[Xac,show (b.id==a.id)=false from beq_eq_false_iff_ne.mpr hne];rfl
    | false=>rfl
theorem QlM{p:List Box}:∀{fs:List Bool},fs.length=p.length->(sel p fs).length=fs.count true:=by
 induction p with
 | nil=>
  intro fs h;have:fs=[]:=XaU h;rw[this];rfl
 | cons a p ih=>
  intro fs hl;cases fs with
  | nil=>simp at hl
  | cons f fs=>
   rw[Qbz,Xi,ih (by simpa using hl),List.count_cons];cases f<;>simp<;>omega
theorem Qi1{p:List Box}(hn:(ids p).Nodup){fs:List Bool}(hl:fs.length=p.length)(l:List Qb)(h:∀i b,p[i]?=some b->l.contains b.id=fs.getD i false):inOrder p l=sel p fs:=by
 unfold inOrder
 induction p generalizing fs with
 | nil=>rfl
 | cons a p ih=>
  obtain⟨n1,n2⟩:=Wi hn;cases fs with
  | nil=>simp at hl
  | cons f fs=>
   rw[Qbz];have h0:l.contains a.id=f:=h 0 a rfl;have:=ih n2 (fs:=fs) (by simpa using hl) λi b hb=>h (i+1) b (by simpa using hb)
   show (a.id::ids p).filter _=_;rw[Ur,this,h0];cases f<;>rfl
theorem Qf9{p:List Box}(hn:(ids p).Nodup){fs:List Bool}(hl:fs.length=p.length){i:Nat}{b:Box}(h:p[i]?=some b)(yes:Bool):turned p (sel p fs) b.id yes=sel p (fs.set i yes):=by
 unfold turned;refine Qi1 hn (by rw[Ud];exact hl) _ λj x hx=>?_
 have hj:j<fs.length:=by rw[hl];exact (Xp.mp hx).1
 have hs:=WL hn hl hx;rw[Xf,U2]
 by_cases hij:i=j
 ·subst hij;have:x=b:=Xc (hx.symm.trans h);subst this;rw[if_pos rfl,if_pos hj];cases yes with
  | true=>rw[if_pos rfl];simp
  | false=>
   rw[if_neg UL];show _=false;rw[<-Xbc];intro q;have q:x.id ∈ (sel p fs).filter λm=>m != x.id:=by simpa using q
   have:=(XM.mp q).2;simp at this
 ·rw[if_neg hij,<-Xf,<-hs];have hne:x.id≠b.id:=λq=>by
   have e1:(ids p)[i]?=some b.id:=by unfold ids;rw[Xg,h];rfl
   have e2:(ids p)[j]?=some b.id:=by unfold ids;rw[Xg,hx,<-q];rfl
   have hi:i<(ids p).length:=(Xp.mp e1).1;exact hij ((Xb3 hi hn).mp (e1.trans e2.symm))
  cases yes with
  | true=>
   rw[if_pos rfl,Xac,show (x.id==b.id)=false from beq_eq_false_iff_ne.mpr hne];rfl
  | false=>
   rw[if_neg UL];rw[UF];simp[hne]
structure Ya(p:List Box)(w:Now)(hs os:List Bool):Prop where
 hl:hs.length=p.length
 ol:os.length=p.length
 hid:w.hidden=sel p hs
 on:w.on=sel p os
def QoI(p:List Box)(hs:List Bool)(i:Nat):Bool:=(i::QQ (p.map rb) i).all λj=>!hs.getD j false
structure PK(p:List Box):Prop where
 nodup:(ids p).Nodup
 deep:∀b ∈ p,b.deep<=5
theorem Qdc{p:List Box}{i j:Nat}{b:Box}(h:p[i]?=some b)(hj:j ∈ QQ (p.map rb) i):∃x,p[j]?=some x:=by
 rw[Qb7 (i+1) i b (Ug _) h] at hj;have:=QeM _ _ _ hj;have hi:=(Xp.mp h).1;exact⟨p[j],Xe (by omega)⟩
theorem Qk3{p:List Box}(k:PK p){w:Now}{hs os:List Bool}(n:Ya p w hs os){i:Nat}{b:Box}(h:p[i]?=some b):isVisible p w b.id=QoI p hs i:=by
 unfold isVisible QoI;have hm:=Xo h;have:(ids p).contains b.id=true:=by
  have:b.id ∈ ids p:=Xk.mpr ⟨b,hm,rfl⟩
  simpa using this
 rw[this,XbI,Qdb k.nodup h (k.deep b hm),X4,X4,n.hid,WL k.nodup n.hl h];congr 1;rw[Ut];rw[UF,Xl,Xl];refine forall_congr' λj=>forall_congr' λhj=>?_
 obtain⟨x,hx⟩:=Qdc h hj;show (!(sel p hs).contains (Yy p j))=true↔_;rw[Zq hx,WL k.nodup n.hl hx]
def Qce(p:List Box)(hs:List Bool):Option Nat:=((Xs p.length).filter λi=>decide ((rAt (p.map rb) i).kind=Xa "modal")&&QoI p hs i).getLast?
theorem QcD{p:List Box}{f:Box->Bool}{g:Nat->Bool}(h:∀i b,p[i]?=some b->f b=g i):(p.filter f).map (·.id)=((Xs p.length).filter g).map (Yy p):=by
 have e:p=(Xs p.length).map λi=>p.getD i (X0):=by
  have:=JS p X0;exact this.symm
 conv=>lhs;rw[e,Uz,Xr]
 have e2:(Xs p.length).filter (f ∘ λi=>p.getD i X0)=(Xs p.length).filter g:=by
  refine UR λi hi=>?_
  rw[XR] at hi;have hb:p[i]?=some p[i]:=Xe hi;show f (p.getD i X0)=g i;rw[Xf,hb];exact h i p[i] hb
 rw[e2];refine XF λi hi=>?_
 have hi:=XR.mp ((XM.mp hi).1);have hb:p[i]?=some p[i]:=Xe hi;show (p.getD i X0).id=_;rw[Xf,hb,Zq hb];rfl
theorem QnN{p:List Box}(k:PK p){w:Now}{hs os:List Bool}(n:Ya p w hs os):modalOf p w=(Qce p hs).map (Yy p):=by
 unfold modalOf Qce;rw[QcD (g:=λi=>decide ((rAt (p.map rb) i).kind=Xa "modal")&&QoI p hs i),List.getLast?_map];intro i b h;rw[Zh h,Qk3 k n h];congr 1;show (b.kind==.modal)=decide (kindText b.kind=Xa "modal");cases b.kind<;>decide +kernel
def Qc5(p:List Box)(hs:List Bool)(i:Nat):Bool:=match Qce p hs with
 | none=>true
 | some m=>(QQ (p.map rb) i).contains m
theorem QnA{p:List Box}(hn:(ids p).Nodup){i j:Nat}(hi:i<p.length)(hj:j<p.length)(h:Yy p i=Yy p j):i=j:=by
 have e1:(ids p)[i]?=some (Yy p i):=by unfold ids;rw[Xg,Xe hi,Zq (Xe hi)];rfl
 have e2:(ids p)[j]?=some (Yy p j):=by unfold ids;rw[Xg,Xe hj,Zq (Xe hj)];rfl
 rw[<-h] at e2;have hi':i<(ids p).length:=(Xp.mp e1).1;exact (Xb3 hi' hn).mp (e1.trans e2.symm)
theorem Qnb{p:List Box}(k:PK p){w:Now}{hs os:List Bool}(n:Ya p w hs os){i:Nat}{b:Box}(h:p[i]?=some b):isWithin p w b.id=Qc5 p hs i:=by
 unfold isWithin Qc5;rw[QnN k n];cases q:Qce p hs with
 | none=>rfl
 | some m=>
  show (around p b.id).contains (Yy p m)=_;rw[Qdb k.nodup h (k.deep b (Xo h))];have hm:m<p.length:=by
   unfold Qce at q;have:=List.mem_of_getLast? q;exact XR.mp ((XM.mp this).1)
  rw[UF];constructor
  ·intro hc;have hc:Yy p m ∈ (QQ (p.map rb) i).map (Yy p):=by simpa using hc
   obtain⟨j,hj,e⟩:=Xk.mp hc;obtain⟨x,hx⟩:=Qdc h hj;have:=QnA k.nodup (Xp.mp hx).1 hm e;subst this
   simpa using hj
  ·intro hc;have hc:m ∈ QQ (p.map rb) i:=by simpa using hc
   have:Yy p m ∈ (QQ (p.map rb) i).map (Yy p):=Xk.mpr ⟨m,hc,rfl⟩
   simpa using this
end Sr
namespace Sr
open Vaacca (Kind Box Act kindText ids boxAt around isVisible Now inOrder turned modalOf isWithin canPress actOn pressed isPressable insideOf kidsOf parentOf actText)
def Qbh(r:QF):Bool:=decide (r.kind=Xa "check")||!r.acts.isEmpty
def QoY(p:List Box)(hs:List Bool)(i:Nat):Bool:=Qbh (rAt (p.map rb) i)&&(!(rAt (p.map rb) i).off&&(QoI p hs i&&Qc5 p hs i))
theorem Qlj{b:Box}(h:BOk b):(b.kind==.check||(isPressable b.kind&&!b.press.isEmpty))=Qbh (rb b):=by
 have e:(b.kind==.check)=decide (kindText b.kind=Xa "check"):=by cases b.kind<;>decide +kernel
 unfold Qbh;show _=(decide (kindText b.kind=_)||!(b.press.map actText).isEmpty);rw[e,XaL];rcases h.pressk with q | q
 ·rw[q];show (_||(_&&false))=(_||false);rw[Bool.and_false];congr 1
 ·rw[q];rfl
theorem QqE{p:List Box}(k:PK p)(ok:∀b ∈ p,BOk b){w:Now}{hs os:List Bool}(n:Ya p w hs os){i:Nat}{b:Box}(h:p[i]?=some b):canPress p w b=QoY p hs i:=by
 unfold canPress QoY;rw[Qlj (ok b (Xo h)),Qk3 k n h,Qnb k n h,Zh h];rfl
def Qcu(is:List Qb)(hs:List Bool)(t:Qb):List Bool:=hs.set (is.idxOf (Qo t).2) (if (Qo t).1=Xa "flip" then !hs.getD (is.idxOf (Qo t).2) false else decide ((Qo t).1=Xa "hide"))
theorem Qqy{p:List Box}(k:PK p){w:Now}{hs os:List Bool}(n:Ya p w hs os)(a:Act)(ha:a.id ∈ ids p):Ya p (actOn p w a) (Qcu (ids p) hs (actText a)) os:=by
 have hi:(ids p).idxOf a.id<p.length:=by
  have:=XY.mpr ha;unfold ids at this;rw[Xb] at this;exact this
 have hb:p[(ids p).idxOf a.id]?=some p[(ids p).idxOf a.id]:=Xe hi;have hid:p[(ids p).idxOf a.id].id=a.id:=by
  have e1:(ids p)[(ids p).idxOf a.id]?=some a.id:=by
   rw[Xe (XY.mpr ha),Xad]
  unfold ids at e1;rw[Xg] at e1;have e2:p[(p.map λb=>b.id).idxOf a.id]?=some p[(ids p).idxOf a.id]:=hb;rw[e2] at e1;exact Xc e1
 refine⟨by unfold Qcu;rw[Ud];exact n.hl,n.ol,?_,n.on⟩;show turned p w.hidden a.id _=_;rw[n.hid,<-hid,Qf9 k.nodup n.hl hb,hid];unfold Qcu;rw[Qaa];have hs1:=WL k.nodup n.hl hb;rw[hid] at hs1;congr 2;show _=if Up a.what=Xa "flip" then _ else decide (Up a.what=Xa "hide");cases a.what with
 | show_=>rw[if_neg (by decide +kernel),decide_eq_false (by decide +kernel)]
 | hide=>rw[if_neg (by decide +kernel),decide_eq_true (by decide +kernel)]
 | flip=>
  rw[if_pos (by decide +kernel)];show (!(sel p hs).contains a.id)=_;rw[hs1]
theorem Qld{p:List Box}(k:PK p):∀{as:List Act} {w:Now} {hs os:List Bool},Ya p w hs os->(∀a ∈ as,a.id ∈ ids p)->Ya p (as.foldl (actOn p) w) ((as.map actText).foldl (Qcu (ids p)) hs) os
 | [],w,hs,os,n,_=>n
 | a::as,w,hs,os,n,h=>by
  have:=Qld k (as:=as) (Qqy k n a (h a Xh)) λx hx=>h x (Xn _ hx)
  exact this
theorem Qn4{p:List Box}(k:PK p){w:Now}{hs os:List Bool}(n:Ya p w hs os){i:Nat}{b:Box}(h:p[i]?=some b)(ha:∀a ∈ b.press,a.id ∈ ids p):Ya p (pressed p w b) ((b.press.map actText).foldl (Qcu (ids p)) hs) (if (rb b).kind=Xa "check" then os.set i (!os.getD i false) else os):=by
 unfold pressed;refine Qld k ?_ ha;have e:(rb b).kind=Xa "check"↔b.kind=.check:=⟨λq=>QcH (b:=.check) q,λq=>by show kindText b.kind=_;rw[q];rfl⟩
 by_cases hc:b.kind=.check
 ·rw[if_pos hc,if_pos (e.mpr hc)];refine⟨n.hl,by rw[Ud];exact n.ol,n.hid,?_⟩;show turned p w.on b.id (!w.on.contains b.id)=_;rw[n.on,Qf9 k.nodup n.ol h,WL k.nodup n.ol h]
 ·rw[if_neg hc,if_neg λq=>hc (e.mp q)];exact n
theorem QlT{ds:List Nat}{d:Nat}:∀{j i:Nat},up ds d j=.ofNat i↔(i<j/\ds.getD i 0<d/\∀m,i<m->m<j->d<=ds.getD m 0)
 | 0,i=>by
  constructor
  ·intro h;cases h
  ·rintro⟨h,_⟩;omega
 | j+1,i=>by
  unfold up
  by_cases hc:ds.getD j 0<d
  ·rw[if_pos hc];constructor
   ·intro h;have h:(j:Int)=(i:Int):=h;have:j=i:=by omega
    subst this;exact⟨by omega,hc,λm h1 h2=>by omega⟩
   ·rintro⟨h1,h2,h3⟩
    by_cases hij:i=j
    ·subst hij;rfl
    ·have:=h3 j (by omega) (by omega);omega
  ·rw[if_neg hc,QlT];constructor
   ·rintro⟨h1,h2,h3⟩;refine⟨by omega,h2,λm m1 m2=>?_⟩
    by_cases hm:m=j
    ·subst hm;omega
    ·exact h3 m m1 (by omega)
   ·rintro⟨h1,h2,h3⟩;have hij:i≠j:=λq=>by subst q;omega
    exact⟨by omega,h2,λm m1 m2=>h3 m m1 (by omega)⟩
theorem Qjp{p:List Box}{i j:Nat}:Wm p j=some i↔up (p.map (·.deep)) ((p.map (·.deep)).getD j 0) j=.ofNat i:=by
 unfold Wm;cases up (p.map (·.deep)) ((p.map (·.deep)).getD j 0) j with
 | ofNat k=>
  constructor
  ·intro h;rw[Xc h]
  ·intro h;have h:(k:Int)=(i:Int):=h;have:k=i:=by omega
   rw[this]
 | negSucc k=>exact⟨λh=>(by cases h),λh=>(by cases h)⟩
def Qg0(p:List Box)(i:Nat):List Nat:=(Xs p.length).filter λj=>decide (Wm p j=some i)
theorem Qd4(a n:Nat):Xs (a+n)=Xs a++(Xs n).map λj=>a+j:=by
 rw[List.range_add]
theorem Qlt{p:List Box}(k:PK p){i:Nat}{b:Box}(h:p[i]?=some b):kidsOf p b.id=(Qg0 p i).map (Yy p):=by
 have hi:i<p.length:=(Xp.mp h).1;unfold kidsOf insideOf;rw[Qbe k.nodup h];show ((((p.dropWhile λx=>x.id != b.id).drop 1).takeWhile λx=>decide (b.deep<x.deep)).map (·.id)).filter _=_;rw[(Qb5 k.nodup h).2,Xak];generalize hrun:((p.drop (i+1)).takeWhile λx=>decide (b.deep<x.deep))=run;have hpre:∃JC,p.drop (i+1)=run++JC/\∀x,JC.head?=some x->¬b.deep<x.deep:=by
  refine⟨(p.drop (i+1)).dropWhile λx=>decide (b.deep<x.deep),by rw[<-hrun,List.takeWhile_append_dropWhile],λx hx=>?_⟩;have:=List.head?_dropWhile_not (λx:Box=>decide (b.deep<x.deep)) (p.drop (i+1));rw[hx] at this
  simpa using this
 obtain⟨JC,e,hrest⟩:=hpre;have hlen:p.length=i+1+(run.length+JC.length):=by
  have:=congrArg XO e;rw[XQ,Xi] at this;omega
 have hat:∀m,m<run.length->p[i+1+m]?=run[m]?:=by
  intro m hm;have:(p.drop (i+1))[m]?=p[i+1+m]?:=by rw[UY]
  rw[<-this,e,Uh hm]
 have hrunIx:run=(Xs run.length).map λm=>p.getD (i+1+m) X0:=by
  have:=JS run X0
  conv=>lhs;rw[<-this]
  refine XF λm hm=>?_
  rw[XR] at hm;rw[Xf,Xf,hat m hm]
 unfold Qg0;rw[hlen,Qd4 (i+1),Qd4 run.length,XL,UX,UX];have none1:(Xs (i+1)).filter (λj=>decide (Wm p j=some i))=[]:=by
  rw[Xae];intro j hj q;have:=QbN (of_decide_eq_true q);rw[XR] at hj;omega
 have none3:(((Xs JC.length).map λj=>run.length+j).map λj=>i+1+j).filter (λj=>decide (Wm p j=some i))=[]:=by
  rw[Xae];intro j hj q;obtain⟨j1,hj1,rfl⟩:=Xk.mp hj;obtain⟨j2,hj2,rfl⟩:=Xk.mp hj1;rw[XR] at hj2;obtain⟨u1,u2,u3⟩:=QlT.mp (Qjp.mp (of_decide_eq_true q));rw[QhG h] at u2;cases hr:JC with
  | nil=>rw[hr] at hj2;simp at hj2
  | cons x r=>
   have hx:p[i+1+run.length]?=some x:=by
    have:(p.drop (i+1))[run.length]?=p[i+1+run.length]?:=by rw[UY]
    rw[<-this,e,hr];simp
   have hnot:=hrest x (by rw[hr];rfl)
   by_cases h0:j2=0
   ·subst h0;rw[show i+1+(run.length+0)=i+1+run.length from rfl,QhG hx] at u2;exact hnot u2
   ·have:=u3 (i+1+run.length) (by omega) (by omega);rw[QhG hx] at this;omega
 rw[none1,none3,XG,UN,Uz,Uz,Xr]
 conv=>lhs;rw[hrunIx,Uz,Xr]
 have e2:(Xs run.length).filter (((λm=>parentOf p m==some b.id) ∘ λx=>x.id) ∘ λm=>p.getD (i+1+m) X0)=(Xs run.length).filter ((λj=>decide (Wm p j=some i)) ∘ λj=>i+1+j):=by
  refine UR λm hm=>?_
  rw[XR] at hm;have hm2:i+1+m<p.length:=by omega
  have hx:p[i+1+m]?=some p[i+1+m]:=Xe hm2;show (parentOf p (p.getD (i+1+m) X0).id==some b.id)=decide (Wm p (i+1+m)=some i);rw[Xf,hx];show (parentOf p p[i+1+m].id==some b.id)=_;rw[Qd0 k.nodup hx];cases q:Wm p (i+1+m) with
  | none=>rfl
  | some j=>
   have hj:j<p.length:=by have:=QbN q;omega
   show ((p[j]?).map (·.id)==some b.id)=_;rw[Xe hj];show (some p[j].id==some b.id)=decide (some j=some i);rw[UF];constructor
   ·intro hq;have hq:p[j].id=b.id:=by simpa using hq
    have:j=i:=QnA k.nodup hj hi (by rw[Zq (Xe hj),Zq h,hq])
    simpa using this
   ·intro hq;have:j=i:=by simpa using hq
    subst this;have:=Xc ((Xe hj).symm.trans h);simp[this]
 rw[e2];refine XF λm hm=>?_
 have hm:=XR.mp (XM.mp hm).1;have hx:p[i+1+m]?=some p[i+1+m]:=Xe (by omega);show (p.getD (i+1+m) X0).id=Yy p (i+1+m);rw[Zq hx,Xf,hx];rfl
end Sr
namespace Sr
open Vaacca (Kind Box Act kindText ids boxAt Now Source sourceText Rule)
open Vaaccb (Env fromSource firstOf textOf innerName inner foundOf said shownIn Found)
theorem Yk{p:List Box}(hn:(ids p).Nodup){i:Nat}{b:Box}(h:p[i]?=some b)(rules:List Rule)(w:Now):UQ ⟨p,rules,w⟩ b.id=b:=by
 unfold UQ;rw[Qbe hn h];rfl
def Yo(rs:List QF)(hs:List Bool)(i:Nat):List Nat:=(Xs rs.length).filter λj=>decide (JY rs j=(i:Int))&&!hs.getD j false
theorem QnF{p:List Box}{i j:Nat}(h:j ∈ Qg0 p i):j<p.length/\Wm p j=some i:=by
 unfold Qg0 at h;have:=XM.mp h;exact⟨XR.mp this.1,of_decide_eq_true this.2⟩
theorem Qok{p:List Box}(k:PK p){w:Now}{hs os:List Bool}(n:Ya p w hs os){i:Nat}{b:Box}(h:p[i]?=some b)(rules:List Rule):shownIn ⟨p,rules,w⟩ b.id=(Yo (p.map rb) hs i).map (Yy p):=by
 unfold shownIn Yo;show (Xcy p b.id).filter _=_;rw[Qlt k h,Uz];congr 1;unfold Qg0;rw[XbS,Xb];refine UR λj hj=>?_
 rw[XR] at hj;have hx:p[j]?=some p[j]:=Xe hj;show (!w.hidden.contains (Yy p j)&&decide (Wm p j=some i))=_;rw[n.hid,Zq hx,WL k.nodup n.hl hx,Xcw];congr 1;have e:JY (p.map rb) j=up (p.map (·.deep)) ((p.map (·.deep)).getD j 0) j:=by
  show up (Q6 (p.map rb)) ((Q6 (p.map rb)).getD j 0) j=_;rw[QeS]
 rw[e];rw[UF,decide_eq_true_eq,decide_eq_true_eq,Qjp];exact Iff.rfl
theorem Qbi{f g:Source->Qb}:∀{l:List Source},(∀s ∈ l,f s=g s)->firstOf f l=firstOf g l
 | [],_=>rfl
 | s::r,h=>by
  show (if f s=[] then firstOf f r else some ⟨s,f s⟩)=if g s=[] then firstOf g r else some ⟨s,g s⟩;rw[h s Xh,Qbi λx hx=>h x (Xn _ hx)]
theorem Qi4{p:List Box}{i j:Nat}{b x:Box}(h:p[i]?=some b)(hx:p[j]?=some x)(hj:j ∈ Qg0 p i):b.deep<x.deep:=Qdv hx (QnF hj).2 h
theorem Qhi{p:List Box}(k:PK p){w:Now}{rules:List Rule}{i:Nat}{b:Box}(h:p[i]?=some b){m:Qb}(hm:m ∈ shownIn ⟨p,rules,w⟩ b.id):QA λ(j:Nat) (x:Box)=>p[j]?=some x/\x.id=m/\b.deep<x.deep:=by
 unfold shownIn at hm;have hm:=(XM.mp hm).1;have hm:m ∈ Xcy p b.id:=hm;rw[Qlt k h] at hm;obtain⟨j,hj,rfl⟩:=Xk.mp hm;have hl:=(QnF hj).1;have hx:p[j]?=some p[j]:=Xe hl;exact⟨j,p[j],hx,(Zq hx).symm,Qi4 h hx hj⟩
theorem Qc1{e:Env}{t1 t2 i1 i2:Qb->Qb}{n:Qb}{s:Source}(h1:∀m,t1 m=t2 m)(h2:∀m ∈ shownIn e n,i1 m=i2 m):fromSource e t1 i1 n s=fromSource e t2 i2 n s:=by
 have:t1=t2:=funext h1;subst this;cases s with
 | kids=>
  show said ((shownIn e n).map i1)=said ((shownIn e n).map i2);rw[XF h2]
 | by_=>rfl
 | label=>rfl
 | text=>rfl
 | hint=>rfl
theorem Qe9{p:List Box}(k:PK p){w:Now}{rules:List Rule}:∀(f g i:Nat) (b:Box),p[i]?=some b->6<=f+b.deep->6<=g+b.deep->innerName ⟨p,rules,w⟩ f b.id=innerName ⟨p,rules,w⟩ g b.id
 | 0,g,i,b,h,hf,_=>by
  have:=k.deep b (Xo h);omega
 | f+1,0,i,b,h,_,hg=>by
  have:=k.deep b (Xo h);omega
 | f+1,g+1,i,b,h,hf,hg=>by
  unfold innerName;rw[Qbi λs _=>Qc1 (λ_=>rfl) λm hm=>?_];obtain⟨j,x,hx,rfl,hd⟩:=Qhi k h hm;exact Qe9 k f g j x hx (by omega) (by omega)
theorem QnD{p:List Box}(k:PK p){w:Now}{rules:List Rule}{i:Nat}{b:Box}(h:p[i]?=some b):inner ⟨p,rules,w⟩ b.id=textOf (firstOf (fromSource ⟨p,rules,w⟩ (λ_=>[]) (inner ⟨p,rules,w⟩) b.id) (X5 ⟨p,rules,w⟩ b.id).sources):=by
 show innerName _ (5+1) b.id=_
 conv=>lhs;unfold innerName
 rw[Qbi λs _=>Qc1 (λ_=>rfl) λm hm=>?_];obtain⟨j,x,hx,rfl,hd⟩:=Qhi k h hm;exact Qe9 k 5 6 j x hx (by omega) (by omega)
def QaF(s:Source):Bool:=s==.label||(s==.text||s==.kids)
theorem QdU{f:Source->Qb}(h1:f .by_=[])(h2:f .hint=[]):∀{l:List Source},firstOf f l=firstOf f (l.filter QaF)
 | []=>rfl
 | s::r=>by
  have ih:=QdU (f:=f) h1 h2 (l:=r);rw[Ur];show (if f s=[] then firstOf f r else some ⟨s,f s⟩)=_;cases s with
  | by_=>rw[if_pos h1,ih];rfl
  | hint=>rw[if_pos h2,ih];rfl
  | label=>show _=(if f .label=[] then firstOf f (r.filter QaF) else some ⟨.label,f .label⟩);rw[ih]
  | text=>show _=(if f .text=[] then firstOf f (r.filter QaF) else some ⟨.text,f .text⟩);rw[ih]
  | kids=>show _=(if f .kids=[] then firstOf f (r.filter QaF) else some ⟨.kids,f .kids⟩);rw[ih]
theorem Qhg(l:List Qb):said (l.map λ_=>([]:Qb))=[]:=by
 unfold said;have:(l.map λ_=>([]:Qb)).filter (λt=>!t.isEmpty)=[]:=by
  rw[Xae];intro t ht;obtain⟨_,_,rfl⟩:=Xk.mp ht;simp
 rw[this];rfl
end Sr
namespace Sr
open Vaacca (Kind Box Act kindText ids boxAt Now Source sourceText Rule)
open Vaaccb (Env fromSource firstOf textOf innerName inner foundOf said shownIn Found nameOf)
def QbZ(rs:List QF)(inn:List Qb)(r:QF):Qb:=if r.hint.isEmpty then [] else inn.getD ((QN rs).idxOf r.hint) []
def JG(rs:List QF)(hs:List Bool)(inn:List Qb)(i:Nat)(s:Qb):Qb:=
 if s=Xa "label" then (rAt rs i).label else if s=Xa "text" then (rAt rs i).text else if s=Xa "kids" then said ((Yo rs hs i).map λj=>inn.getD j []) else if s=Xa "by" then said ((rAt rs i).by_.map λt=>inn.getD ((QN rs).idxOf t) []) else QbZ rs inn (rAt rs i)
def Z3(f:Qb->Qb):List Qb->Nat × Qb
 | []=>(0,[])
 | s::r=>if f s=[] then Z3 f r else (ZO.idxOf s+1,f s)
def YZ(x:Option Found):Nat × Qb:=match x with
 | none=>(0,[])
 | some y=>(UT y.source,y.text)
theorem Qrq(s:Source):ZO.idxOf (sourceText s)+1=UT s:=by cases s<;>decide +kernel
theorem Qdi{f:Qb->Qb}{g:Source->Qb}:∀{l:List Source},(∀s ∈ l,f (sourceText s)=g s)->Z3 f (l.map sourceText)=YZ (firstOf g l)
 | [],_=>rfl
 | s::r,h=>by
  show (if f (sourceText s)=[] then Z3 f (r.map sourceText) else (ZO.idxOf (sourceText s)+1,f (sourceText s)))=YZ (if g s=[] then firstOf g r else some ⟨s,g s⟩);rw[h s Xh,Qdi λx hx=>h x (Xn _ hx),Qrq]
  by_cases q:g s=[]
  ·rw[if_pos q,if_pos q]
  ·rw[if_neg q,if_neg q];rfl
theorem WE(x:Option Found):(YZ x).2=textOf x:=by cases x<;>rfl
theorem Qkf{p:List Box}{t:Qb}(h:t ∈ ids p):∃b,p[(ids p).idxOf t]?=some b/\b.id=t:=by
 have hi:=XY.mpr h;have e1:(ids p)[(ids p).idxOf t]?=some t:=by rw[Xe hi,Xad]
 have e2:(p[(ids p).idxOf t]?).map (·.id)=some t:=by
  rw[<-Xg];exact e1
 obtain⟨b,hb,e⟩:=X6.mp e2;exact⟨b,hb,e⟩
theorem Qoi(t:Qb):said [t]=t:=by
 unfold said;cases t with
 | nil=>rfl
 | cons c r=>rfl
def QgA(p:List Box):Prop:=∀b ∈ p,(∀t ∈ b.by_,t ∈ ids p)/\(∀t ∈ b.hint,t ∈ ids p)/\(∀a ∈ b.press,a.id ∈ ids p)
theorem Qlo{p:List Box}(ok:∀b ∈ p,BOk b)(nm:QgA p){inn:List Qb}{told:Qb->Qb}(ht:∀j x,p[j]?=some x->inn.getD j []=told x.id){b:Box}(hb:b ∈ p):QbZ (p.map rb) inn (rb b)=said (b.hint.map told):=by
 unfold QbZ;show (if (b.hint.getD 0 []).isEmpty then [] else inn.getD ((QN (p.map rb)).idxOf (b.hint.getD 0 [])) [])=_;rw[Qca];have hl:=(ok b hb).hintl;have hi:=(ok b hb).hinti;have hn:=(nm b hb).2.1
 revert hl hi hn
 generalize b.hint=l;intro hl hi hn;cases l with
 | nil=>rfl
 | cons x r=>
  cases r with
  | cons y r=>simp at hl
  | nil=>
   rw[X4,Xd] at hi;have:=(ZS hi.1).1;show (if x.isEmpty then [] else inn.getD ((ids p).idxOf x) [])=said [told x];rw[if_neg λq=>this (UB.mp q),Qoi];obtain⟨y,hy,e⟩:=Qkf (hn x Xh);rw[ht _ y hy,e]
theorem QrO{p:List Box}(nm:QgA p){inn:List Qb}{told:Qb->Qb}(ht:∀j x,p[j]?=some x->inn.getD j []=told x.id){b:Box}(hb:b ∈ p):((rb b).by_.map λt=>inn.getD ((QN (p.map rb)).idxOf t) [])=b.by_.map told:=by
 rw[Qca];refine XF λt h=>?_
 obtain⟨y,hy,e⟩:=Qkf ((nm b hb).1 t h);rw[ht _ y hy,e]
theorem Qlu{p:List Box}(k:PK p){w:Now}{hs os:List Bool}(n:Ya p w hs os){i:Nat}{b:Box}(h:p[i]?=some b)(rules:List Rule){inn:List Qb}{inside:Qb->Qb}(hi:∀j x,i<j->p[j]?=some x->inn.getD j []=inside x.id):((Yo (p.map rb) hs i).map λj=>inn.getD j [])=(shownIn ⟨p,rules,w⟩ b.id).map inside:=by
 rw[Qok k n h,Xr];refine XF λj hj=>?_
 unfold Yo at hj;obtain⟨h1,h2⟩:=XM.mp hj;rw[XR,Xb] at h1;rw[Xd] at h2;have hx:p[j]?=some p[j]:=Xe h1;have hlt:=(Qau (Q6 (p.map rb)) ((Q6 (p.map rb)).getD j 0) j).2;have e:JY (p.map rb) j=(i:Int):=of_decide_eq_true h2.1;have hlt:JY (p.map rb) j<j:=hlt;rw[e] at hlt;show inn.getD j []=inside (Yy p j);rw[hi j p[j] (by omega) hx,Zq hx]
theorem Qe4{p:List Box}(k:PK p)(ok:∀b ∈ p,BOk b)(nm:QgA p){w:Now}{hs os:List Bool}(n:Ya p w hs os){i:Nat}{b:Box}(h:p[i]?=some b)(rules:List Rule){inn:List Qb}{told:Qb->Qb}(ht:∀j x,p[j]?=some x->inn.getD j []=told x.id)(s:Source):JG (p.map rb) hs inn i (sourceText s)=fromSource ⟨p,rules,w⟩ told told b.id s:=by
 have hb:=Xo h;unfold JG;rw[Zh h];cases s with
 | by_=>
  rw[if_neg (by decide +kernel),if_neg (by decide +kernel),if_neg (by decide +kernel),if_pos (by decide +kernel),QrO nm ht hb];show _=said ((UQ ⟨p,rules,w⟩ b.id).by_.map told);rw[Yk k.nodup h]
 | label=>
  rw[if_pos (by decide +kernel)];show _=(UQ ⟨p,rules,w⟩ b.id).label;rw[Yk k.nodup h];rfl
 | text=>
  rw[if_neg (by decide +kernel),if_pos (by decide +kernel)];show _=(UQ ⟨p,rules,w⟩ b.id).text;rw[Yk k.nodup h];rfl
 | kids=>
  rw[if_neg (by decide +kernel),if_neg (by decide +kernel),if_pos (by decide +kernel),Qlu k n h rules λj x _ hx=>ht j x hx];rfl
 | hint=>
  rw[if_neg (by decide +kernel),if_neg (by decide +kernel),if_neg (by decide +kernel),if_neg (by decide +kernel),Qlo ok nm ht hb];show _=said ((UQ ⟨p,rules,w⟩ b.id).hint.map told);rw[Yk k.nodup h]
theorem QiW{p:List Box}(k:PK p){w:Now}{hs os:List Bool}(n:Ya p w hs os){i:Nat}{b:Box}(h:p[i]?=some b)(rules:List Rule){inn:List Qb}{told inside:Qb->Qb}(hi:∀j x,i<j->p[j]?=some x->inn.getD j []=inside x.id){s:Source}(hs':QaF s=true):JG (p.map rb) hs inn i (sourceText s)=fromSource ⟨p,rules,w⟩ told inside b.id s:=by
 unfold JG;rw[Zh h];cases s with
 | by_=>cases hs'
 | hint=>cases hs'
 | label=>
  rw[if_pos (by decide +kernel)];show _=(UQ ⟨p,rules,w⟩ b.id).label;rw[Yk k.nodup h];rfl
 | text=>
  rw[if_neg (by decide +kernel),if_pos (by decide +kernel)];show _=(UQ ⟨p,rules,w⟩ b.id).text;rw[Yk k.nodup h];rfl
 | kids=>
  rw[if_neg (by decide +kernel),if_neg (by decide +kernel),if_pos (by decide +kernel),Qlu k n h rules hi];rfl
def ZL:List Qb:=["label","text","kids"].map Xa
def Qae(rs:List QF)(hs:List Bool)(src:Nat->List Qb)(inn:List Qb)(i:Nat):List Qb:=inn.set i (Z3 (JG rs hs inn i) ((src i).filter ZL.contains)).2
def JO(rs:List QF)(hs:List Bool)(src:Nat->List Qb):Nat->List Qb
 | 0=>UC rs.length []
 | m+1=>Qae rs hs src (JO rs hs src m) (rs.length-1-m)
theorem Yz(rs:List QF)(hs:List Bool)(src:Nat->List Qb):∀m,(JO rs hs src m).length=rs.length
 | 0=>List.length_replicate
 | m+1=>by
  unfold JO Qae;rw[Ud];exact Yz rs hs src m
theorem Qmh(l:List Source):(l.map sourceText).filter ZL.contains=(l.filter QaF).map sourceText:=by
 rw[Uz];congr 1;refine UR λs _=>?_
 show ZL.contains (sourceText s)=QaF s;cases s<;>decide +kernel
theorem QgY{p:List Box}(k:PK p){w:Now}{hs os:List Bool}(n:Ya p w hs os)(rules:List Rule){src:Nat->List Qb}(hsrc:∀i b,p[i]?=some b->src i=(X5 ⟨p,rules,w⟩ b.id).sources.map sourceText):∀m,m<=p.length->∀j x,p.length-m<=j->p[j]?=some x->(JO (p.map rb) hs src m).getD j []=inner ⟨p,rules,w⟩ x.id
 | 0,_,j,x,hj,hx=>by
  have:=(Xp.mp hx).1;omega
 | m+1,hm,j,x,hj,hx=>by
  have hjl:=(Xp.mp hx).1;have ih:=QgY k n rules hsrc m (by omega);unfold JO Qae;have hln:=Yz (p.map rb) hs src m;rw[Xb] at hln ⊢;rw[Xf,U2]
  by_cases hc:p.length-1-m=j
  ·rw[if_pos hc,if_pos (by omega),hc];show (Z3 _ _).2=_;rw[hsrc j x hx,Qmh,Qdi (g:=fromSource ⟨p,rules,w⟩ (λ_=>[]) (inner ⟨p,rules,w⟩) x.id) λs hs'=>QiW k n hx rules (λj' x' h1 h2=>ih j' x' (by omega) h2) (XM.mp hs').2];rw[WE,QnD k hx];exact congrArg textOf (QdU (f:=fromSource ⟨p,rules,w⟩ (λ_=>[]) (inner ⟨p,rules,w⟩) x.id) (Qhg _) (Qhg _)).symm
  ·rw[if_neg hc,<-Xf];exact ih j x (by omega) hx
abbrev QnB(rs:List QF)(hs:List Bool)(src:Nat->List Qb):List Qb:=JO rs hs src rs.length
theorem QhN{p:List Box}(k:PK p){w:Now}{hs os:List Bool}(n:Ya p w hs os)(rules:List Rule){src:Nat->List Qb}(hsrc:∀i b,p[i]?=some b->src i=(X5 ⟨p,rules,w⟩ b.id).sources.map sourceText):∀j x,p[j]?=some x->(QnB (p.map rb) hs src).getD j []=inner ⟨p,rules,w⟩ x.id:=by
 intro j x hx;show (JO (p.map rb) hs src (p.map rb).length).getD j []=_;rw[Xb];exact QgY k n rules hsrc p.length (Xy _) j x (by omega) hx
def QlA(rs:List QF)(hs:List Bool)(src:Nat->List Qb)(i:Nat):Nat × Qb:=Z3 (JG rs hs (QnB rs hs src) i) (src i)
theorem Qpl{p:List Box}(k:PK p)(ok:∀b ∈ p,BOk b)(nm:QgA p){w:Now}{hs os:List Bool}(n:Ya p w hs os)(rules:List Rule){src:Nat->List Qb}(hsrc:∀i b,p[i]?=some b->src i=(X5 ⟨p,rules,w⟩ b.id).sources.map sourceText){i:Nat}{b:Box}(h:p[i]?=some b):QlA (p.map rb) hs src i=YZ (foundOf ⟨p,rules,w⟩ b.id):=by
 unfold QlA foundOf;rw[hsrc i b h];exact Qdi λs _=>Qe4 k ok nm n h rules (QhN k n rules hsrc) s
theorem Qo6{p:List Box}(k:PK p)(ok:∀b ∈ p,BOk b)(nm:QgA p){w:Now}{hs os:List Bool}(n:Ya p w hs os)(rules:List Rule){src:Nat->List Qb}(hsrc:∀i b,p[i]?=some b->src i=(X5 ⟨p,rules,w⟩ b.id).sources.map sourceText){i:Nat}{b:Box}(h:p[i]?=some b):QbZ (p.map rb) (QnB (p.map rb) hs src) (rb b)=said ((UQ ⟨p,rules,w⟩ b.id).hint.map (inner ⟨p,rules,w⟩)):=by
 rw[Yk k.nodup h];exact Qlo ok nm (QhN k n rules hsrc) (Xo h)
end Sr
namespace Sr
open Vaacca (Kind Box Act kindText ids boxAt Now Source sourceText Rule isPage areRules opt spaced quoted digit)
open Vaaccb (Env State fromSource firstOf textOf inner foundOf said shownIn Found nameOf hintOf ownOf heardOf heardText heardWords isSaidAlone rowOf usersOf onOf levelOf labelled envOf)
structure SI(s:State)(hs os:List Bool):Prop where
 page:isPage s.page=true
 rules:areRules s.rules=true
 now:Ya s.page s.now hs os
theorem JK{p:List Box}(h:isPage p=true):PK p/\(∀b ∈ p,BOk b)/\QgA p/\1<=p.length/\p.length<=16:=by
 obtain⟨⟨h1,h2⟩,ok,h3⟩:=QfH.mp h;unfold Z6 at h3;rw[Xd,Xd,Xd,Qca] at h3;refine⟨⟨Yl.mp h3.1.1,λb hb=>(ok b hb).deep⟩,ok,λb hb=>?_,h1,h2⟩;have:=Xl.mp h3.2.1 (rb b) (Xk.mpr ⟨b,hb,rfl⟩);obtain⟨n1,n2,n3⟩:=(Qfp (ok b hb) _).mp this;refine⟨λt ht=>?_,λt ht=>?_,λa ha=>?_⟩
 ·simpa using Xl.mp n1 t ht
 ·simpa using Xl.mp n2 t ht
 ·simpa using Xl.mp n3 a ha
def Qdr:Jv:=⟨[],false,[]⟩
def ZV(l:List Jv)(k:Qb):Jv:=l.getD (QS.idxOf k) Qdr
theorem Qpg(k:Kind):QS.idxOf (kindText k)=XZ.idxOf k/\XZ.idxOf k<19:=by cases k<;>decide +kernel
theorem QlJ{p:List Box}(hn:(ids p).Nodup){l:List Rule}(hl:areRules l=true){w:Now}{i:Nat}{b:Box}(h:p[i]?=some b):ZV (l.map rr) (rb b).kind=rr (X5 ⟨p,l,w⟩ b.id):=by
 unfold X5 ZV;rw[Yk hn h];show (l.map rr).getD (QS.idxOf (kindText b.kind)) Qdr=rr (Xcu l b.kind);unfold areRules at hl;rw[Xd] at hl;have hlen:l.length=XZ.length:=by simpa using hl.1
 have hlen:l.length=19:=hlen;obtain⟨k1,k2⟩:=Qpg b.kind;unfold Xcu;have e:l[XZ.idxOf b.kind]?=some l[XZ.idxOf b.kind]:=Xe (by omega);rw[k1,Xf,Xf,Xg,e];rfl
def Qaq(rs:List QF)(l:List Jv)(i:Nat):List Qb:=(ZV l (rAt rs i).kind).sources
theorem QkX{p:List Box}(hn:(ids p).Nodup){l:List Rule}(hl:areRules l=true){w:Now}:∀i b,p[i]?=some b->Qaq (p.map rb) (l.map rr) i=(X5 ⟨p,l,w⟩ b.id).sources.map sourceText:=by
 intro i b h;unfold Qaq;rw[Zh h,QlJ hn hl (w:=w) h];rfl
abbrev nmP(rs:List QF)(l:List Jv)(hs:List Bool)(i:Nat):Nat × Qb:=QlA rs hs (Qaq rs l) i
abbrev inP(rs:List QF)(l:List Jv)(hs:List Bool):List Qb:=QnB rs hs (Qaq rs l)
def Q7(rs:List QF)(l:List Jv)(hs:List Bool)(i:Nat):Qb:=if (nmP rs l hs i).1=5 then [] else QbZ rs (inP rs l hs) (rAt rs i)
def Jm(rs:List QF)(l:List Jv)(hs:List Bool)(i:Nat):Qb:=if (ZV l (rAt rs i).kind).whole=true\/(nmP rs l hs i).1=3 then [] else (rAt rs i).text
def Qir(rs:List QF)(hs:List Bool)(i:Nat):Bool:=(i::QQ rs i).all λj=>!hs.getD j false
def WO(rs:List QF)(l:List Jv)(hs:List Bool)(i:Nat):Bool:=Qir rs hs i&&(QQ rs i).all λj=>!(ZV l (rAt rs j).kind).whole
def Zt(k:Qb):Nat:=if k=Xa "h1" then 1 else if k=Xa "h2" then 2 else if k=Xa "h3" then 3 else 0
def JX(Jg:List Qb)(t:Qb):List Qb:=if t=[] then [] else Jg++[quoted t]
def J8(rs:List QF)(l:List Jv)(hs os:List Bool)(i:Nat):List Qb:=
 [(ZV l (rAt rs i).kind).role]++((if Zt (rAt rs i).kind=0 then [] else [digit (Zt (rAt rs i).kind)])++(JX [] (nmP rs l hs i).2++((if (rAt rs i).off=true then [Xa "off"] else [])++((if (rAt rs i).kind=Xa "check" then [if os.getD i false=true then Xa "on" else Xa "not on"] else [])++(JX [Xa "hint"] (Q7 rs l hs i)++JX [Xa "text"] (Jm rs l hs i))))))
theorem Qe0(x:Option Found)(s:Source):(x.any λy=>y.source==s)=decide ((YZ x).1=UT s):=by
 cases x with
 | none=>cases s<;>decide
 | some y=>
  obtain⟨a,t⟩:=y;show (a==s)=decide (UT a=UT s);cases a<;>cases s<;>decide
section
variable {s:State} {hs os:List Bool}
theorem SI.name(h:SI s hs os){i:Nat}{b:Box}(hb:s.page[i]?=some b):nmP (s.page.map rb) (s.rules.map rr) hs i=YZ (foundOf (envOf s) b.id):=by
 obtain⟨pk,ok,nm,_⟩:=JK h.page;exact Qpl pk ok nm h.now s.rules (QkX pk.nodup h.rules) hb
theorem SI.inner(h:SI s hs os){i:Nat}{b:Box}(hb:s.page[i]?=some b):(inP (s.page.map rb) (s.rules.map rr) hs).getD i []=Xb1 (envOf s) b.id:=by
 obtain⟨pk,ok,nm,_⟩:=JK h.page;exact QhN pk h.now s.rules (QkX pk.nodup h.rules) i b hb
theorem SI.rule(h:SI s hs os){i:Nat}{b:Box}(hb:s.page[i]?=some b):ZV (s.rules.map rr) (rAt (s.page.map rb) i).kind=rr (X5 (envOf s) b.id):=by
 obtain⟨pk,_⟩:=JK h.page;rw[Zh hb];exact QlJ pk.nodup h.rules (w:=s.now) hb
theorem SI.hint(h:SI s hs os){i:Nat}{b:Box}(hb:s.page[i]?=some b):Q7 (s.page.map rb) (s.rules.map rr) hs i=hintOf (envOf s) b.id:=by
 obtain⟨pk,ok,nm,_⟩:=JK h.page;unfold Q7 hintOf;rw[h.name hb,Qe0,Zh hb,Qo6 pk ok nm h.now s.rules (QkX pk.nodup h.rules) hb]
 by_cases q:(YZ (foundOf (envOf s) b.id)).1=5
 ·rw[if_pos q,if_pos (by rw[decide_eq_true_eq];exact q)]
 ·rw[if_neg q,if_neg (by rw[decide_eq_true_eq];exact q)];rfl
theorem SI.own(h:SI s hs os){i:Nat}{b:Box}(hb:s.page[i]?=some b):Jm (s.page.map rb) (s.rules.map rr) hs i=ownOf (envOf s) b.id:=by
 obtain⟨pk,ok,nm,_⟩:=JK h.page;unfold Jm ownOf;rw[h.name hb,Qe0,h.rule hb,Zh hb];have e:UQ (envOf s) b.id=b:=Yk pk.nodup hb s.rules s.now;rw[e];have hc:((rr (X5 (envOf s) b.id)).whole=true\/(YZ (foundOf (envOf s) b.id)).1=3)↔((X5 (envOf s) b.id).whole=true\/decide ((YZ (foundOf (envOf s) b.id)).1=UT .text)=true):=by
  rw[decide_eq_true_eq];exact Iff.rfl
 by_cases q:((rr (X5 (envOf s) b.id)).whole=true\/(YZ (foundOf (envOf s) b.id)).1=3)
 ·rw[if_pos q,if_pos (hc.mp q)]
 ·rw[if_neg q,if_neg λx=>q (hc.mpr x)];rfl
theorem SI.alone(h:SI s hs os){i:Nat}{b:Box}(hb:s.page[i]?=some b):WO (s.page.map rb) (s.rules.map rr) hs i=isSaidAlone (envOf s) b.id:=by
 obtain⟨pk,ok,nm,_⟩:=JK h.page;unfold WO isSaidAlone;show _=(Vaacca.isVisible s.page s.now b.id&&(Vaacca.around s.page b.id).all _);rw[Qk3 pk h.now hb,Qdb pk.nodup hb (pk.deep b (Xo hb)),Ut];congr 1;rw[UF,Xl,Xl];refine forall_congr' λj=>forall_congr' λhj=>?_
 obtain⟨x,hx⟩:=Qdc hb hj;rw[h.rule hx];show _↔(!(X5 (envOf s) (Yy s.page j)).whole)=true;rw[Zq hx];exact Iff.rfl
theorem Qe6(c:UInt8)(x y:Qb):∀(a b:List Qb),XS [c] (a++(x::y::b))=XS [c] (a++((x++c::y)::b))
 | [],[]=>rfl
 | [],z::b=>by
  show x++([c]++(y++([c]++XS [c] (z::b))))=(x++c::y)++([c]++XS [c] (z::b));simp
 | [u],b=>by
  have:=Qe6 c x y [] b;show u++([c]++XS [c] (x::y::b))=u++([c]++XS [c] ((x++c::y)::b));rw[show XS [c] (x::y::b)=_ from this];rfl
 | u::v::a,b=>by
  have:=Qe6 c x y (v::a) b;show u++([c]++XS [c] (v::(a++(x::y::b))))=u++([c]++XS [c] (v::(a++((x++c::y)::b))));rw[show XS [c] (v::(a++(x::y::b)))=_ from this];rfl
theorem Qi7(k:Kind):Zt (kindText k)=levelOf k:=by cases k<;>decide +kernel
theorem Qf2(a:List Qb)(t:Qb):JX a t=opt (!t.isEmpty) (a++[quoted t]):=by
 cases t<;>rfl
theorem Qcx(k:Kind):(kindText k=Xa "check")↔k=.check:=⟨λq=>QcH (b:=.check) q,λq=>by rw[q];rfl⟩
theorem SI.said(h:SI s hs os){i:Nat}{b:Box}(hb:s.page[i]?=some b):spaced (J8 (s.page.map rb) (s.rules.map rr) hs os i)=heardText (heardOf (envOf s) b):=by
 obtain⟨pk,ok,nm,_⟩:=JK h.page;have hw:J8 (s.page.map rb) (s.rules.map rr) hs os i=([(X5 (envOf s) b.id).role]++(opt (levelOf b.kind != 0) [digit (levelOf b.kind)]++(opt (!(nameOf (envOf s) b.id).isEmpty) [quoted (nameOf (envOf s) b.id)]++opt b.off [Xa "off"])))++((if b.kind=.check then [if os.getD i false=true then Xa "on" else Xa "not on"] else [])++(opt (!(hintOf (envOf s) b.id).isEmpty) [Xa "hint",quoted (hintOf (envOf s) b.id)]++opt (!(ownOf (envOf s) b.id).isEmpty) [Xa "text",quoted (ownOf (envOf s) b.id)])):=by
  unfold J8;rw[h.rule hb,h.name hb,h.hint hb,h.own hb,Zh hb,WE,Qf2,Qf2,Qf2];show [(X5 (envOf s) b.id).role]++((if Zt (kindText b.kind)=0 then [] else [digit (Zt (kindText b.kind))])++(opt (!(nameOf (envOf s) b.id).isEmpty) [quoted (nameOf (envOf s) b.id)]++((if b.off=true then [Xa "off"] else [])++((if kindText b.kind=Xa "check" then [if os.getD i false=true then Xa "on" else Xa "not on"] else [])++_))))=_;rw[Qi7];have e1:(if levelOf b.kind=0 then [] else [digit (levelOf b.kind)])=opt (levelOf b.kind != 0) [digit (levelOf b.kind)]:=by
   cases b.kind<;>rfl
  have e2:(if kindText b.kind=Xa "check" then [if os.getD i false=true then Xa "on" else Xa "not on"] else [])=(if b.kind=.check then [if os.getD i false=true then Xa "on" else Xa "not on"] else []:List Qb):=by
   by_cases q:b.kind=.check
   ·rw[if_pos q,if_pos ((Qcx _).mpr q)]
   ·rw[if_neg q,if_neg λx=>q ((Qcx _).mp x)]
  rw[e1,e2];simp only[XH];rfl
 rw[hw];unfold heardText heardWords;show _=spaced ([(X5 (envOf s) b.id).role]++(opt (levelOf b.kind != 0) [digit (levelOf b.kind)]++(opt (!(nameOf (envOf s) b.id).isEmpty) [quoted (nameOf (envOf s) b.id)]++(opt b.off [Xa "off"]++(opt (onOf (envOf s) b==2) [Xa "on"]++(opt (onOf (envOf s) b==1) [Xa "not",Xa "on"]++(opt (!(hintOf (envOf s) b.id).isEmpty) [Xa "hint",quoted (hintOf (envOf s) b.id)]++opt (!(ownOf (envOf s) b.id).isEmpty) [Xa "text",quoted (ownOf (envOf s) b.id)])))))));have hon:onOf (envOf s) b=if b.kind=.check then (if os.getD i false=true then 2 else 1) else 0:=by
  unfold onOf;show (if b.kind=.check then (if s.now.on.contains b.id=true then 2 else 1) else 0)=_;rw[h.now.on,WL pk.nodup h.now.ol hb]
 rw[hon]
 by_cases q:b.kind=.check
 ·rw[if_pos q,if_pos q]
  by_cases ho:os.getD i false=true
  ·rw[if_pos ho,if_pos ho];simp only[XH];rfl
  ·rw[if_neg ho,if_neg ho];have:=Qe6 32 (Xa "not") (Xa "on") ([(X5 (envOf s) b.id).role]++(opt (levelOf b.kind != 0) [digit (levelOf b.kind)]++(opt (!(nameOf (envOf s) b.id).isEmpty) [quoted (nameOf (envOf s) b.id)]++opt b.off [Xa "off"]))) (opt (!(hintOf (envOf s) b.id).isEmpty) [Xa "hint",quoted (hintOf (envOf s) b.id)]++opt (!(ownOf (envOf s) b.id).isEmpty) [Xa "text",quoted (ownOf (envOf s) b.id)]);refine Eq.trans this.symm ?_;simp only[XH];rfl
 ·rw[if_neg q,if_neg q];simp only[XH];rfl
end
end Sr
namespace Sr
open Vaacca (Kind Box Act kindText ids boxAt Now Source sourceText Rule isPage areRules opt spaced quoted digit nests isBox isId isSaid)
open Vaaccb (Env State fromSource inner foundOf said Found nameOf heardOf heardText isSaidAlone rowOf usersOf labelled envOf)
theorem Ql9(p:List Box):Ya p (Xbm p) (p.map (·.hidden)) (p.map (·.on)):=⟨by simp,by simp,(QlN p _).symm,(QlN p _).symm⟩
theorem SI.newRules{s:State}{hs os:List Bool}(h:SI s hs os){l:List Rule}(hl:areRules l=true):SI { s with rules:=l } hs os:=⟨h.page,hl,h.now⟩
theorem Qg8{t:Qb}{p:List Box}(h:Uj t=some p):isPage p=true:=by
 unfold Uj at h;obtain⟨ls,_,g⟩:=XT.mp h;obtain⟨p',_,g⟩:=XT.mp g
 split at g
 ·rename_i hc
  rw[<-Xc g];rw[Xd] at hc;exact hc.1
 ·cases g
theorem Qd6{t:Qb}{l:List Rule}(h:X9 t=some l):areRules l=true:=by
 unfold X9 at h;obtain⟨ls,_,g⟩:=XT.mp h;obtain⟨p',_,g⟩:=XT.mp g
 split at g
 ·rename_i hc
  rw[<-Xc g];rw[Xd] at hc;exact hc.1
 ·cases g
def Yx(n t:Qb)(b:Box):Box:=if b.id=n then { b with label:=t } else b
theorem Wo(n t:Qb)(b:Box):(Yx n t b).deep=b.deep/\(Yx n t b).kind=b.kind/\(Yx n t b).id=b.id/\(Yx n t b).hidden=b.hidden/\(Yx n t b).on=b.on:=by
 unfold Yx
 split<;>exact⟨rfl,rfl,rfl,rfl,rfl⟩
theorem Qpa(p:List Box)(n t:Qb):ids (labelled p n t)=ids p:=by
 unfold ids labelled;rw[Xr];exact XF λb _=>(Wo n t b).2.2.1
theorem Qg6(n t:Qb):∀(r:List Box) (a:List Kind),nests a (r.map (Yx n t))=nests a r
 | [],a=>rfl
 | b::r,a=>by
  obtain⟨h1,h2,_⟩:=Wo n t b;rw[Xj];unfold nests;rw[h1,h2,Qg6 n t r]
theorem QnS{p:List Box}(h:isPage p=true)(n:Qb){t:Qb}(ht:t=[]\/isSaid t=true):isPage (labelled p n t)=true:=by
 cases p with
 | nil=>cases h
 | cons b r=>
  obtain⟨e1,e2,_,e4,_⟩:=Wo n t b;have hi:=Qpa (b::r) n t;have h:(b.deep==0&&(b.kind==.page&&(!b.hidden&&(nests [.page] r&&(decide ((b::r).length<=XbX)&&((b::r).all (λx=>decide (x.deep<=Xa3))&&(Xu (ids (b::r))&&(b::r).all (isBox (b::r)))))))))=true:=h;show ((Yx n t b).deep==0&&((Yx n t b).kind==.page&&(!(Yx n t b).hidden&&(nests [.page] (r.map (Yx n t))&&(decide ((labelled (b::r) n t).length<=XbX)&&((labelled (b::r) n t).all (λx=>decide (x.deep<=Xa3))&&(Xu (ids (labelled (b::r) n t))&&(labelled (b::r) n t).all (isBox (labelled (b::r) n t)))))))))=true;rw[e1,e2,e4,Qg6,hi];simp only[Xd] at h ⊢;obtain⟨h1,h2,h3,h4,h5,h6,h7,h8⟩:=h;refine⟨h1,h2,h3,h4,?_,?_,h7,?_⟩
  ·unfold labelled;rw[Xb];exact h5
  ·rw[Xl];intro x hx;obtain⟨y,hy,rfl⟩:=Xk.mp hx;have:=Xl.mp h6 y hy;show decide ((Yx n t y).deep<=Xa3)=true;rw[(Wo n t y).1];exact this
  ·rw[Xl];intro x hx;obtain⟨y,hy,rfl⟩:=Xk.mp hx;have:=Wa.mp (Xl.mp h8 y hy);show isBox (labelled (b::r) n t) (Yx n t y)=true;rw[Wa,hi];obtain⟨q1,q2,q3,q4⟩:=this;unfold Yx
   by_cases hc:y.id=n
   ·rw[if_pos hc];exact⟨q1,q2,ht,q4⟩
   ·rw[if_neg hc];exact⟨q1,q2,q3,q4⟩
theorem QlL(p:List Box)(n t:Qb)(fs:List Bool):sel (labelled p n t) fs=sel p fs:=by
 show sel (p.map (Yx n t)) fs=sel p fs
 induction p generalizing fs with
 | nil=>rfl
 | cons b p ih=>
  cases fs with
  | nil=>rfl
  | cons f fs=>rw[Xj,Qbz,Qbz,ih,(Wo n t b).2.2.1]
theorem SI.relabel{s:State}{hs os:List Bool}(h:SI s hs os)(n:Qb){t:Qb}(ht:t=[]\/isSaid t=true):SI { s with page:=labelled s.page n t } hs os:=by
 refine⟨QnS h.page n ht,h.rules,?_⟩;have hl:(labelled s.page n t).length=s.page.length:=by unfold labelled;rw[Xb]
 exact⟨h.now.hl.trans hl.symm,h.now.ol.trans hl.symm,h.now.hid.trans (QlL _ _ _ _).symm,h.now.on.trans (QlL _ _ _ _).symm⟩
theorem QqV{p:List Box}(hn:(ids p).Nodup){i:Nat}{b:Box}(h:p[i]?=some b)(t:Qb):labelled p b.id t=p.set i { b with label:=t }:=by
 show p.map (Yx b.id t)=_
 induction p generalizing i with
 | nil=>simp at h
 | cons a p ih=>
  obtain⟨n1,n2⟩:=Wi hn;cases i with
  | zero=>
   have:a=b:=Xc h;subst this;rw[Xj,List.set_cons_zero];have e:Yx a.id t a={ a with label:=t }:=if_pos rfl;rw[e];congr 1
   conv=>rhs;rw[<-List.map_id p]
   refine XF λx hx=>?_
   exact if_neg λq=>n1 (by rw[<-q];exact Xk.mpr ⟨x,hx,rfl⟩)
  | succ i=>
   have h:p[i]?=some b:=by simpa using h
   rw[Xj,List.set_cons_succ,ih n2 h];have e:Yx b.id t a=a:=if_neg λq=>n1 (by rw[q];exact Xk.mpr ⟨b,Xo h,rfl⟩)
   rw[e]
theorem SI.press{s:State}{hs os:List Bool}(h:SI s hs os){i:Nat}{b:Box}(hb:s.page[i]?=some b):SI { s with now:=UE s.page s.now b } ((rb b).acts.foldl (Qcu (ids s.page)) hs) (if (rb b).kind=Xa "check" then os.set i (!os.getD i false) else os):=by
 obtain⟨pk,ok,nm,_⟩:=JK h.page;exact⟨h.page,h.rules,Qn4 pk h.now hb (nm b (Xo hb)).2.2⟩
def JW(rs:List QF)(l:List Jv)(hs:List Bool):List Nat:=(Xs rs.length).filter (WO rs l hs)
theorem Qgk{p:List Box}{f:Box->Bool}{g:Nat->Bool}(h:∀i b,p[i]?=some b->f b=g i):p.filter f=((Xs p.length).filter g).map λi=>p.getD i X0:=by
 have e:p=(Xs p.length).map λi=>p.getD i (X0):=(JS p X0).symm
 conv=>lhs;rw[e,Uz]
 congr 1;refine UR λi hi=>?_
 rw[XR] at hi;have hb:p[i]?=some p[i]:=Xe hi;show f (p.getD i X0)=g i;rw[Xf,hb];exact h i p[i] hb
theorem SI.row{s:State}{hs os:List Bool}(h:SI s hs os):rowOf (envOf s)=(JW (s.page.map rb) (s.rules.map rr) hs).map λi=>heardOf (envOf s) (s.page.getD i X0):=by
 unfold rowOf JW;show (s.page.filter λb=>isSaidAlone (envOf s) b.id).map _=_;rw[Qgk (g:=WO (s.page.map rb) (s.rules.map rr) hs) λi b hb=>(h.alone hb).symm,Xr,Xb];rfl
theorem QkD{s:State}{l:List Jv}{hs:List Bool}{i:Nat}(h:i ∈ JW (s.page.map rb) l hs):∃b,s.page[i]?=some b/\s.page.getD i X0=b:=by
 unfold JW at h;have:=XR.mp (XM.mp h).1;rw[Xb] at this;have e:s.page[i]?=some s.page[i]:=Xe this;exact⟨s.page[i],e,by rw[Xf,e];rfl⟩
theorem SI.rowMap{α:Type}{s:State}{hs os:List Bool}(h:SI s hs os)(f:Vaaccb.Heard->α)(g:Nat->α)(hg:∀i b,s.page[i]?=some b->f (heardOf (envOf s) b)=g i):(rowOf (envOf s)).map f=(JW (s.page.map rb) (s.rules.map rr) hs).map g:=by
 rw[h.row,Xr];refine XF λi hi=>?_
 obtain⟨b,hb,e⟩:=QkD hi;show f (heardOf (envOf s) (s.page.getD i X0))=g i;rw[e];exact hg i b hb
theorem SI.rowFilter{s:State}{hs os:List Bool}(h:SI s hs os)(f:Vaaccb.Heard->Bool)(g:Nat->Bool)(hg:∀i b,s.page[i]?=some b->f (heardOf (envOf s) b)=g i):((rowOf (envOf s)).filter f).map (·.id)=((JW (s.page.map rb) (s.rules.map rr) hs).filter g).map (Yy s.page)/\((rowOf (envOf s)).filter f).length=((JW (s.page.map rb) (s.rules.map rr) hs).filter g).length:=by
 have e:(rowOf (envOf s)).filter f=((JW (s.page.map rb) (s.rules.map rr) hs).filter g).map λi=>heardOf (envOf s) (s.page.getD i X0):=by
  rw[h.row,Uz];congr 1;refine UR λi hi=>?_
  obtain⟨b,hb,e⟩:=QkD hi;show f (heardOf (envOf s) (s.page.getD i X0))=g i;rw[e];exact hg i b hb
 rw[e];refine⟨?_,Xb _⟩;rw[Xr];refine XF λi hi=>?_
 obtain⟨b,hb,e⟩:=QkD (XM.mp hi).1;show (heardOf (envOf s) (s.page.getD i X0)).id=_;rw[e,Zq hb];rfl
theorem SI.users{s:State}{hs os:List Bool}(h:SI s hs os)(n:Qb):usersOf (envOf s) n=((Xs s.page.length).filter λi=>(rAt (s.page.map rb) i).by_.contains n&&decide ((nmP (s.page.map rb) (s.rules.map rr) hs i).1=1)).map (Yy s.page):=by
 unfold usersOf;show (s.page.filter _).map _=_;refine QcD λi b hb=>?_
 rw[Zh hb,h.name hb,Qe0];rfl
end Sr
namespace Sr
open Vaaccb (said)
theorem QlF(q:Nat->Bool)(i:Nat)(h:∀j,q j=true->i<j):∀m,(((Xs (i+1+m)).filter q).map λj=>2 ^ (i+1+m-1-j)).sum+1<=2 ^ m
 | 0=>by
  have:(Xs (i+1+0)).filter q=[]:=by
   rw[Xae];intro j hj hq;have:=h j hq;rw[XR] at hj;omega
  rw[this];exact Xy _
 | m+1=>by
  have ih:=QlF q i h m;rw[show i+1+(m+1)=(i+1+m)+1 from rfl,Xax,UX,XL,Xcm];have e:(((Xs (i+1+m)).filter q).map λj=>2 ^ (i+1+m+1-1-j)).sum=2 * (((Xs (i+1+m)).filter q).map λj=>2 ^ (i+1+m-1-j)).sum:=by
   have key:∀l:List Nat,(∀j ∈ l,j<i+1+m)->(l.map λj=>2 ^ (i+1+m+1-1-j)).sum=2 * (l.map λj=>2 ^ (i+1+m-1-j)).sum:=by
    intro l
    induction l with
    | nil=>intro _;rfl
    | cons a l ih=>
     intro hl;have ha:=hl a Xh;rw[Xj,Xj,X1,X1,ih λj hj=>hl j (Xn _ hj),Xb9];congr 1;rw[show i+1+m+1-1-a=(i+1+m-1-a)+1 by omega,Nat.pow_succ,Nat.mul_comm]
   exact key _ λj hj=>XR.mp (XM.mp hj).1
  rw[e];have e2:(([i+1+m].filter q).map λj=>2 ^ (i+1+m+1-1-j)).sum<=1:=by
   rw[Ur]
   split
   ·show 2 ^ (i+1+m+1-1-(i+1+m))+0<=1;rw[show i+1+m+1-1-(i+1+m)=0 by omega];exact Xy _
   ·exact XC _
  rw[Nat.pow_succ];omega
theorem Qcn:∀l:List Qb,(XV l).length+1<=(l.map λt=>t.length+1).sum+1/\(l≠[]->(XV l).length+1=(l.map λt=>t.length+1).sum)
 | []=>⟨Xy _,λh=>absurd rfl h⟩
 | [t]=>⟨by show t.length+1<=(t.length+1+0)+1;omega,λ_=>by show t.length+1=t.length+1+0;omega⟩
 | t::x::r=>by
  have ih:=(Qcn (x::r)).2 (by simp);have e:(XV (t::x::r)).length+1=((t::x::r).map λt=>t.length+1).sum:=by
   rw[Xj,X1,<-ih];show (t++([32]++XV (x::r))).length+1=_;rw[Xi,Xi,XI];omega
  exact⟨by omega,λ_=>e⟩
theorem QjB(l:List Qb):(said l).length+1<=max 1 (l.map λt=>t.length+1).sum:=by
 unfold Vaaccb.said;have h1:((l.filter λt=>!t.isEmpty).map λt=>t.length+1).sum<=(l.map λt=>t.length+1).sum:=by
  induction l with
  | nil=>exact Xy _
  | cons a l ih=>
   rw[Ur]
   split
   ·rw[Xj,Xj,X1,X1];omega
   ·rw[Xj,X1];omega
 cases q:l.filter λt=>!t.isEmpty with
 | nil=>
  show 0+1<=_;omega
 | cons a r=>
  rw[q] at h1;have:=(Qcn (a::r)).2 (by simp);omega
abbrev bnd(n j:Nat):Nat:=22 * 2 ^ (n-1-j)
theorem QhA(n j:Nat):22<=bnd n j:=by
 have:=Nat.one_le_two_pow (n:=n-1-j);show 22<=22 * 2 ^ (n-1-j);omega
theorem Qj6{n j:Nat}(h:n<=16):bnd n j<=720896:=by
 have:=Nat.pow_le_pow_right (n:=2) (by decide) (show n-1-j<=15 by omega);show 22 * 2 ^ (n-1-j)<=720896;omega
def QeK(rs:List QF):Prop:=∀r ∈ rs,r.label.length<=20/\r.text.length<=20/\r.by_.length<=3
def Qcs(n:Nat)(inn:List Qb):Prop:=∀j,(inn.getD j []).length+1<=bnd n j
theorem Qi5{rs:List QF}{hs:List Bool}{inn:List Qb}(h:Qcs rs.length inn){i:Nat}(hi:i<rs.length):(said ((Yo rs hs i).map λj=>inn.getD j [])).length+1<=bnd rs.length i:=by
 have h1:=QjB ((Yo rs hs i).map λj=>inn.getD j []);rw[Xr] at h1;have q:∀j,(decide (JY rs j=(i:Int))&&!hs.getD j false)=true->i<j:=by
  intro j hj;rw[Xd] at hj;have e:JY rs j=(i:Int):=of_decide_eq_true hj.1;have hlt:JY rs j<j:=(Qau (Q6 rs) ((Q6 rs).getD j 0) j).2;rw[e] at hlt;omega
 have h2:=QlF _ i q (rs.length-1-i);rw[show i+1+(rs.length-1-i)=rs.length by omega] at h2;have h2:((Yo rs hs i).map λj=>2 ^ (rs.length-1-j)).sum+1<=2 ^ (rs.length-1-i):=h2;have h3:((Yo rs hs i).map ((λt=>t.length+1) ∘ λj=>inn.getD j [])).sum<=22 * ((Yo rs hs i).map λj=>2 ^ (rs.length-1-j)).sum:=by
  generalize Yo rs hs i=l
  induction l with
  | nil=>exact Xy _
  | cons a l ih=>
   rw[Xj,Xj,X1,X1,Xb9];have:=h a;have this:(inn.getD a []).length+1<=22 * 2 ^ (rs.length-1-a):=this;show (inn.getD a []).length+1+_<=_;omega
 show _<=22 * 2 ^ (rs.length-1-i);omega
theorem QaC(f:Qb->Qb):∀l:List Qb,(Z3 f l).2=[]\/∃s ∈ l,(Z3 f l).2=f s
 | []=>.inl rfl
 | s::r=>by
  unfold Z3
  by_cases q:f s=[]
  ·rw[if_pos q];rcases QaC f r with h | ⟨x,hx,h⟩
   ·exact .inl h
   ·exact .inr ⟨x,Xn _ hx,h⟩
  ·rw[if_neg q];exact .inr ⟨s,Xh,rfl⟩
theorem Qal{rs:List QF}(h:QeK rs)(i:Nat):(rAt rs i).label.length<=20/\(rAt rs i).text.length<=20/\(rAt rs i).by_.length<=3:=by
 by_cases hi:i<rs.length
 ·exact h _ (Xo (QU hi))
 ·have:rAt rs i=noR:=by
   show rs.getD i noR=noR;rw[Xf,Xby (by omega)];rfl
  rw[this];exact⟨by decide,by decide,by decide⟩
theorem Qeh{rs:List QF}{hs:List Bool}{inn:List Qb}(hb:QeK rs)(h:Qcs rs.length inn){i:Nat}(hi:i<rs.length){s:Qb}(hs':ZL.contains s=true):(JG rs hs inn i s).length+1<=bnd rs.length i:=by
 obtain⟨b1,b2,_⟩:=Qal hb i;have bp:=QhA rs.length i;have hm:s=Xa "label"\/s=Xa "text"\/s=Xa "kids":=by
  have:s ∈ ZL:=by simpa using hs'
  simpa [ZL] using this
 unfold JG
 split
 ·omega
 ·split
  ·omega
  ·split
   ·exact Qi5 h hi
   ·rename_i n1 n2 n3
    rcases hm with q | q | q
    ·exact absurd q n1
    ·exact absurd q n2
    ·exact absurd q n3
theorem QbJ{rs:List QF}{hs:List Bool}{src:Nat->List Qb}(hb:QeK rs):∀m,m<=rs.length->Qcs rs.length (JO rs hs src m)
 | 0,_,j=>by
  have bp:=QhA rs.length j;unfold JO;have:((UC rs.length ([]:Qb)).getD j []).length=0:=by
   rw[Xf,Xbp]
   split<;>rfl
  omega
 | m+1,hm,j=>by
  have ih:=QbJ (hs:=hs) (src:=src) hb m (by omega);unfold JO Qae;rw[Xf,U2];have hln:=Yz rs hs src m
  by_cases hc:rs.length-1-m=j
  ·rw[if_pos hc,if_pos (by omega),hc];show (Z3 _ _).2.length+1<=_;rcases QaC (JG rs hs (JO rs hs src m) j) ((src j).filter ZL.contains) with q | ⟨s,hs',q⟩
   ·rw[q];have bp:=QhA rs.length j;show 0+1<=_;omega
   ·rw[q];exact Qeh hb ih (by omega) (XM.mp hs').2
  ·rw[if_neg hc,<-Xf];exact ih j
theorem Qmb{rs:List QF}{hs:List Bool}{inn:List Qb}(hb:QeK rs)(h:Qcs rs.length inn)(hn:rs.length<=16){i:Nat}(hi:i<rs.length)(s:Qb):(JG rs hs inn i s).length<=2200000:=by
 obtain⟨b1,b2,b3⟩:=Qal hb i;have all:∀j,(inn.getD j []).length+1<=720896:=λj=>Uf (h j) (Qj6 hn)
 unfold JG
 split
 ·omega
 ·split
  ·omega
  ·split
   ·have:=Qi5 (hs:=hs) h hi;have:=Qj6 (j:=i) hn;omega
   ·split
    ·have h1:=QjB ((rAt rs i).by_.map λt=>inn.getD ((QN rs).idxOf t) []);have key:∀l:List Qb,((l.map λt=>inn.getD ((QN rs).idxOf t) []).map λt=>t.length+1).sum<=720896 * l.length:=by
      intro l
      induction l with
      | nil=>exact Xy _
      | cons a l ih=>
       rw[Xj,Xj,X1,Xw,Xb9];have:=all ((QN rs).idxOf a);omega
     have h2:=key (rAt rs i).by_;omega
    ·unfold QbZ
     split
     ·show 0<=_;omega
     ·have:=all ((QN rs).idxOf (rAt rs i).hint);omega
theorem Qfo{rs:List QF}{hs:List Bool}{l:List Jv}(hb:QeK rs)(hn:rs.length<=16){i:Nat}(hi:i<rs.length):(nmP rs l hs i).2.length<=2200000:=by
 unfold nmP QlA;rcases QaC (JG rs hs (QnB rs hs (Qaq rs l)) i) (Qaq rs l i) with q | ⟨s,_,q⟩
 ·rw[q];show 0<=_;omega
 ·rw[q];exact Qmb hb (QbJ hb _ (Xy _)) hn hi s
theorem Qoj{p:List UD}(ok:∀b ∈ p,BOk b):QeK (p.map rb):=by
 intro r hr;obtain⟨b,hb,rfl⟩:=Xk.mp hr;have o:=ok b hb;have sl:∀{t:Qb},t=[]\/Uv t=true->t.length<=20:=by
  intro t h;rcases h with h | h
  ·rw[h];exact XC _
  ·unfold Uv at h;rw[Xd] at h;exact of_decide_eq_true h.1
 exact⟨sl o.label,sl o.text,o.byl⟩
end Sr
namespace Sr
open PySem PySem.Spec PyProof.Rows L2 TL
variable {P:Program} {w:World} {K:Xt} {mg:Str->Option Value} {base:Heap} {C:Cs}
structure TS' where
 pg:Addr
 as:List Addr
 rs:List QF
 d:Addr
 ras:List Addr
 rl:List Jv
 lh:Addr
 lo:Addr
 hs:List Bool
 os:List Bool
structure QG(C:Cs)(H:Hp)(t:Addr)(x:TS'):Prop where
 obj:QA λdx fs=>H t=some (.ins C.Teller dx fs)/\fs.length<100/\lk fs "rules"=some (.ref x.d)/\lk fs "page"=some (.ref x.pg)/\lk fs "hidden"=some (.ref x.lh)/\lk fs "on"=some (.ref x.lo)
 page:J2 C H x.pg x.as x.rs
 rules:JI C H x.d x.ras x.rl
 rlen:x.rl.length=19
 hid:H x.lh=some (.lst (x.hs.map V.bl))
 on:H x.lo=some (.lst (x.os.map V.bl))
 apart:x.lh≠x.lo
 pos:1<=x.rs.length
 few:x.rs.length<=16
 hl:x.hs.length=x.rs.length
 ol:x.os.length=x.rs.length
 kinds:∀r ∈ x.rs,r.kind ∈ QS
theorem QG.mono{C:Cs}{H H':Hp}{t:Addr}{x:TS'}(h:QG C H t x)(s:Qe H H'):QG C H' t x:=by
 obtain⟨dx,fs,h1,h2⟩:=h.obj;exact⟨⟨dx,fs,s _ _ h1,h2⟩,h.page.mono s,h.rules.mono s,h.rlen,s _ _ h.hid,s _ _ h.on,h.apart,h.pos,h.few,h.hl,h.ol,h.kinds⟩
theorem QkE{as:List Addr}{i:Nat}{k:Qb}{a:Addr}(hk:QS[i]?=some k)(ha:as[i]?=some a):Jn (Zi as) (Sum.inr (S k))=some (.ref a):=by
 have key:∀(ks:List Qb) (as:List Addr) (i:Nat),ks.Nodup->ks[i]?=some k->as[i]?=some a->Jn ((ks.zip as).map λp=>((Sum.inr (S p.1):Key),V.ref p.2)) (Sum.inr (S k))=some (.ref a):=by
  intro ks
  induction ks with
  | nil=>intro as i _ h;simp at h
  | cons x ks ih=>
   intro as i hn h1 h2;rw[Ue] at hn;cases as with
   | nil=>simp at h2
   | cons y as=>
    cases i with
    | zero=>
     have e1:x=k:=Xc h1;have e2:y=a:=Xc h2;subst e1;subst e2;exact Jf rfl
    | succ i=>
     have h1:ks[i]?=some k:=by simpa using h1
     rw[Xa5,Xj,QY]
     ·exact ih as i hn.2 h1 (by simpa using h2)
     ·intro q;have:x=k:=YT (Sum.inr.inj q);exact hn.1 (by rw[this];exact Xo h1)
 exact key QS as i QeI hk ha
theorem JI.get{C:Cs}{H:Hp}{d:Addr}{as:List Addr}{rl:List Jv}(h:JI C H d as rl)(hl:rl.length=19){k:Qb}(hk:k ∈ QS):∃a,ZP H d (.str (S k)) (some (.ref a))/\ZN C H a (ZV rl k):=by
 have hi:QS.idxOf k<19:=XY.mpr hk;have e0:QS[QS.idxOf k]?=some k:=by rw[Xe (XY.mpr hk),Xad]
 have e1:rl[QS.idxOf k]?=some (ZV rl k):=by
  unfold ZV;rw[Xf,Xe (by omega)];rfl
 obtain⟨a,ha,hr⟩:=h.rule _ _ e1;have g:=ZP.k (k:=Sum.inr (S k)) h.dict;rw[QkE e0 ha] at g;exact⟨a,g,hr⟩
def Qou(C:Cs):Sp:=λvs H Q _=>JP λ(t:Addr) (x:TS') (i:Nat)=>vs=[.ref t,.int i]/\QG C H t x/\i<x.rs.length/\∀a,ZN C H a (ZV x.rl (rAt x.rs i).kind)->Q (.ref a) H
theorem QkM:Qm ["teller","place"] ["teller","place"] (Qg (top 63)):=Qsx
theorem YD(T:Pg P w K mg C):Ok P w K mg base 1 "rule_of" ["teller","place"] (Qou C):=by
 refine T.jC.ok QkM (λvs H Q E h=>?_) (λf cdv A outer s H vs Q E hr h=>?_)
 ·obtain⟨t,x,i,rfl,_⟩:=h;rfl
 ·obtain⟨t,x,i,rfl,hT,hi,k⟩:=h;intro X;refine⟨_,(Qi (Ql (Yq (Zp hr) (Qj (pv 0) rfl) (Qj (QV QJ (Qj (Qj (pv 0) rfl) rfl) (pv 1) (λ_ _=>rfl)) rfl) (λ_ _=>rfl)))),?_⟩;have cT:=T.qd.1;have cP:=T.qb.1;have cB:=T.qf.1;obtain⟨dx,fs,o1,o2,o3,o4,o5,o6⟩:=hT.obj;obtain⟨px,ps,lb,dp,lp,p1,p2,p3,p4,p5,p6,p7,p8⟩:=hT.page;obtain⟨a,bx,bs,la,aa,ys,b1,b2,b3,b4,b5,b6⟩:=p6.at (QU hi);obtain⟨r,r1,r2⟩:=hT.rules.get hT.rlen (hT.kinds _ (Xo (QU hi)));refine⟨_,rfl,t,C.Teller,dx,fs,_,rfl,o1,cT,T.qO,o3,_,rfl,t,C.Teller,dx,fs,_,rfl,o1,cT,T.qc,o4,x.pg,C.Page,px,ps,_,rfl,p1,cP,T.qe,p3,_,rfl,lb,_,_,_,rfl,rfl,SqL.of p6.lst,b1,a,C.Box,bx,bs,_,rfl,b2,cB,T.qg,b3.kind,_,_,rfl,r1,?_⟩;exact k r r2
def QmW(C:Cs):Sp:=λvs H Q _=>JP λ(t:Addr) (x:TS') (i:Nat)=>vs=[.ref t,.int i]/\QG C H t x/\i<x.rs.length/\∀H',Qe H H'->Q (.bl (Qir x.rs x.hs i)) H'
theorem Qdd(rs:List QF):∀(n i j:Nat),i<n->j ∈ QQ rs i->j<i
 | 0,i,j,h,_=>by omega
 | n+1,i,j,h,hj=>by
  rw[Yj] at hj;have hu:JY rs i<i:=(Qau (Q6 rs) ((Q6 rs).getD i 0) i).2
  split at hj
  ·rename_i k e
   rw[e] at hu;have hu:(k:Int)<i:=hu;rcases Xm.mp hj with q | q
   ·omega
   ·have:=Qdd rs n k j (by omega) q;omega
  ·simp at hj
theorem Qb8(rs:List QF):∀(n i:Nat),i<n->(QQ rs i).length<=i
 | 0,i,h=>by omega
 | n+1,i,h=>by
  rw[Yj];have hu:JY rs i<i:=(Qau (Q6 rs) ((Q6 rs).getD i 0) i).2
  split
  ·rename_i k e
   rw[e] at hu;have hu:(k:Int)<i:=hu;have:=Qb8 rs n k (by omega);rw[Xw];omega
  ·exact XC _
theorem QbE{hs:List Bool}{j:Nat}(h:j<hs.length):atI (hs.map V.bl) (j:Int)=some (.bl (hs.getD j false)):=JN (j:=j) rfl (by rw[Xg,Xe h,Xf,Xe h];rfl)
theorem W0:Qm ["teller","place","other"] ["teller","place"] (Qg (top 64)):=Qsx
theorem WV(T:Pg P w K mg C):Ok P w K mg base 2 "is_visible" ["teller","place"] (QmW C):=by
 refine T.jD.ok W0 (λvs H Q E h=>?_) (λf cdv A outer s H vs Q E hr h=>?_)
 ·obtain⟨t,x,i,rfl,_⟩:=h;rfl
 ·obtain⟨t,x,i,rfl,hT,hi,k⟩:=h;intro X;refine⟨_,(Qi (Ql (QfM (Qs (Qnm rfl) rfl T.q3 boot_any (Qa (JR rfl W0.nd (Q4 (J6 Qch (Q0 (Qa (pv 1) Qc)) (Qk (YB T) (Qp hr) rfl (Qa (Qj (pv 0) rfl) (Qa (pv 1) Qc))))) (own:=[("other",2)]) (QK (N:=["teller","place","other"]) (sc:=Qg (top 64)) (by decide +kernel)) (λ_ _ _ _ _=>(QH (i:=2) W0.nd rfl (by first|exact .inl rfl|exact .inr rfl))) (λ_ _ _ _ _=>Jo) (λ_ _ _ _ _=>(QV (We K) (Zr K (pv 0) rfl) (pv 2) (λ_ _=>rfl)))) Qc))))),?_⟩;have cT:=T.qd.1;refine tlc ?_;refine⟨_,rfl,XJ _,λl0 hl0=>?_⟩;have hT1:=hT.mono (Qe.new (o:=.lst [V.int (i:Int)]) hl0);obtain⟨dx,fs,o1,o2,o3,o4,o5,o6⟩:=hT1.obj;refine⟨_,rfl,t,C.Teller,dx,fs,_,rfl,o1,cT,T.qc,o4,_,rfl,x.pg,x.as,x.rs,i,rfl,hT1.page,hi,by have:=hT.few;omega,λH2 l1 s2 hl1 hd1=>?_⟩;have hl01:l0≠l1:=λq=>by
   rw[<-q,Qh] at hl1;cases hl1
  have e0:H2 l0=some (.lst [V.int (i:Int)]):=s2 _ _ Qh;have hal:=Qb8 x.rs (i+1) i (Ug _);have hfew:=hT.few;refine⟨l0,l1,_,_,rfl,rfl,e0,hd1,by rw[Xb,QI];show 1+_<=_;omega,λl2 hl2=>?_⟩;have s3:Qe H (upd H2 l2 (.lst ([V.int (i:Int)]++(QQ x.rs i).map λj=>V.int (j:Nat)))):=(Qe.new hl0).trans (s2.trans (Qe.new hl2));have hd3:(upd H2 l2 (.lst ([V.int (i:Int)]++(QQ x.rs i).map λj=>V.int (j:Nat)))) l2=some (.lst ((i::QQ x.rs i).map λj=>V.int (j:Nat))):=Qh;generalize upd H2 l2 (.lst ([V.int (i:Int)]++(QQ x.rs i).map λj=>V.int (j:Nat)))=H3 at s3 hd3 ⊢;refine⟨l2,rfl,⟨_,SqL.of hd3⟩,?_⟩;refine lcM (α:=Nat) (xs:=i::QQ x.rs i) (vf:=λj=>V.int (j:Nat)) 0 (Jw (QW (SqL.of hd3))) (by rw[Xw,QI];omega) (λj=>.bl (x.hs.getD j false)) (λj H5 hj s5 Qy Qn q1=>?_) λD H5 hD s5 hd5=>?_
  ·have hT5:=hT.mono (s3.trans s5);obtain⟨dx,fs,o1,o2,o3,o4,o5,o6⟩:=hT5.obj;have hjl:j<x.hs.length:=by
    rw[hT.hl];rcases Xm.mp hj with q | q
    ·omega
    ·have:=Qdd x.rs (i+1) i j (Ug _) q;omega
   refine⟨rfl,Qr ⟨_,rfl,t,C.Teller,dx,fs,_,rfl,o1,cT,T.qm,o5,_,rfl,x.lh,_,_,_,rfl,rfl,SqL.of hT5.hid,QbE hjl,q1 H5 (Qe.refl _)⟩⟩
  ·refine⟨D,(i::QQ x.rs i).map λj=>x.hs.getD j false,rfl,SqL.of (by rw[hd5,Xr];rfl),?_⟩;have e:Qir x.rs x.hs i=!((i::QQ x.rs i).map λj=>x.hs.getD j false).any id:=by
    unfold Qir;rw[List.any_map];generalize i::QQ x.rs i=l
    induction l with
    | nil=>rfl
    | cons a l ih=>
     rw[X4,XbJ,ih];show _=!(x.hs.getD a false||_);rw[Bool.not_or]
   have:=k H5 (s3.trans s5);rw[e] at this;exact⟨_,rfl,this⟩
def Qiw(t:Qb):PyData:=.tuple [.str (S (Qo t).1),.str (S (Qo t).2)]
theorem Qo1{H:Hp}{ys:List V}{ts:List Qb}(h:J0 H ys ts):QdK K H ys (ts.map Qiw):=by
 induction h with
 | nil=>exact .nil
 | cons a r ih=>
  obtain⟨p,rfl,e2⟩:=a;exact .cons (.tup (SqT.of e2) (.cons (.str _) (.cons (.str _) .nil))) ih
theorem QjH(ts:List Qb):SeqAt.shaped (.list (ts.map Qiw))=true:=by
 have h1:PyData.canLayAll0 (ts.map Qiw)=true:=by
  induction ts with
  | nil=>rfl
  | cons a r ih=>simp[PyData.canLayAll0,PyData.canLay0,Qiw,QlP] at ih ⊢;exact ih
 have h2:PyData.depthAll (ts.map Qiw)<=2:=by
  clear h1
  induction ts with
  | nil=>simp[PyData.depthAll]
  | cons a r ih=>
   rw[Xj];have e:PyData.depth (Qiw a)<=2:=by
    unfold Qiw;simp[PyData.depth,PyData.depthAll]
   simp only[PyData.depthAll] at ih ⊢;omega
 unfold SeqAt.shaped;rw[Xd];refine⟨by simpa [PyData.canLay0] using h1,decide_eq_true ?_⟩;simp only[PyData.depth];omega
theorem Qnr(ts:List Qb):PyData.eqv (.list (ts.map Qiw)) (.list [])=ts.isEmpty:=by
 cases ts<;>rfl
def Qre(C:Cs):Sp:=λvs H Q _=>QA λ(a:Addr) (r:QF)=>vs=[.ref a]/\Yg C H a r/\∀H',Qe H H'->Q (.bl (Qbh r)) H'
theorem QcX:Qm ["box"] ["box"] (Qg (top 66)):=Qsx
theorem WH(T:Pg P w K mg C):Ok P w K mg base 1 "does_something" ["box"] (Qre C):=by
 refine T.jF.ok QcX (λvs H Q E h=>?_) (λf cdv A outer s H vs Q E hr h=>?_)
 ·obtain⟨a,r,rfl,_⟩:=h;rfl
 ·obtain⟨a,r,rfl,hB,k⟩:=h;have cB:=T.qf.1;obtain⟨dx,fs,la,aa,ys,h1,F,h3,h4,h5⟩:=hB;intro X;refine⟨_,(Qi (Ql (Qn2 (QR Jt (Qj (pv 0) rfl) QB (Qz _)) (Zf (QR (Qh3 hr.units) (Qj (pv 0) rfl) (Q0 Qc) (Qz _)))))),?_⟩;refine⟨_,rfl,a,C.Box,dx,fs,_,rfl,h1,cB,T.qg,F.kind,rfl,_,rfl,?_⟩;unfold Qbh at k;rw[lit (s:="check") (a:=Xa "check") (by decide +kernel)];cases e:decide (r.kind=Xa "check") with
  | true=>
   rw[e] at k;exact Qr (k H (Qe.refl H))
  | false=>
   rw[e] at k;refine Qv ⟨_,rfl,a,C.Box,dx,fs,_,rfl,h1,cB,T.qD,F.acts,XC _,λp hp=>?_⟩;have s1:Qe H (upd H p (.lst [])):=Qe.new hp;refine⟨_,_,.lst (SqL.of (s1 _ _ h4)) (Qo1 (h5.mono (Yv.of s1))),.lst (SqL.of Qh) .nil,QjH r.acts,rfl,?_⟩;rw[Qnr];exact k _ s1
def Qfd(rs:List QF)(hs:List Bool)(i:Nat):Bool:=decide ((rAt rs i).kind=Xa "modal")&&Qir rs hs i
def WR(rs:List QF)(hs:List Bool)(n:Nat):Option Nat:=((Xs n).filter (Qfd rs hs)).getLast?
theorem Qja(rs:List QF)(hs:List Bool)(n:Nat):WR rs hs (n+1)=if Qfd rs hs n=true then some n else WR rs hs n:=by
 unfold WR;rw[Xax,UX,Ur]
 split
 ·show (_++[n]).getLast?=_;rw[List.getLast?_concat]
 ·show (_++[]).getLast?=_;rw[XG]
def Qps(o:Option Nat):V:=match o with
 | some m=>.int (m:Int)
 | none=>.non
def QpW(C:Cs):Sp:=λvs H Q _=>QA λ(t:Addr) (x:TS')=>vs=[.ref t]/\QG C H t x/\∀H',Qe H H'->Q (Qps (WR x.rs x.hs x.rs.length)) H'
theorem ZW:Qm ["teller","modal","place","box"] ["teller"] (Qg (top 65)):=Qsx
theorem Qgn(T:Pg P w K mg C):Ok P w K mg base 3 "find_modal" ["teller"] (QpW C):=by
 refine T.jE.ok ZW (λvs H Q E h=>?_) (λf cdv A outer s H vs Q E hr h=>?_)
 ·obtain⟨t,x,rfl,_⟩:=h;rfl
 ·obtain⟨t,x,rfl,hT,k⟩:=h;intro X;refine⟨_,(Qd (Qx (i:=1) ZW.nd rfl (by first|exact .inl rfl|exact .inr rfl) YE)
   (Qd (QaK PassesOwn.never rfl (QlE rfl T.q7 (Qa (Qj (Qj (pv 0) rfl) rfl) Qc)) (Qh9 K (n:=2) (Qak (QH (i:=2) ZW.nd rfl (by first|exact .inl rfl|exact .inr rfl)) (Qak (QH (i:=3) ZW.nd rfl (by first|exact .inl rfl|exact .inr rfl)) Qia)) rfl) (Qi (Q1 (PW.pt (QfQ (QE Jt (Qj (pv 3) rfl) QB (Qz _)) (QcW (Js (Qk (WV T) (Qp hr) rfl (Qa (pv 0) (Qa (pv 2) Qc))))))) (Qi (Qx (i:=1) ZW.nd rfl (by first|exact .inl rfl|exact .inr rfl) (pv 2))) QC)))
   (Qi (Ql (pv 1))))),?_⟩
  have cT:=T.qd.1;have cP:=T.qb.1;have cB:=T.qf.1;have hfew:=hT.few;obtain⟨dx,fs,o1,o2,o3,o4,o5,o6⟩:=hT.obj;obtain⟨px,ps,lb,dp,lp,p1,p2,p3,p4,p5,p6,p7,p8⟩:=hT.page;have W:=Qhu (K:=K) (SqL.of p6.lst);rw[Xb,p6.len] at W;refine⟨_,rfl,t,C.Teller,dx,fs,_,rfl,o1,cT,T.qc,o4,x.pg,C.Page,px,ps,_,rfl,p1,cP,T.qe,p3,lb,_,rfl,SqL.of p6.lst,QqN W (λi σ H'=>QA λ(v2 v3:Option V)=>σ=[some (.ref t),some (Qps (WR x.rs x.hs i)),v2,v3]/\Qe H H') ⟨none,none,rfl,Qe.refl H⟩ (λi σ H' ⟨_,_,_,s3⟩=>s3) ?_ ?_⟩
  ·rintro i y σ H3 H4 hi ⟨v2,v3,rfl,s3⟩ s4 ⟨q,v,rfl,ev,hq⟩;obtain⟨a,ea,hB⟩:=(p6.mono (s3.trans s4)).box i _ (QU hi);rw[Xg,ea] at ev;have ev:V.ref a=v:=Xc ev;subst ev;obtain⟨bx,bs,la,aa,ys,h1,F,h3,h4,h5⟩:=hB;refine⟨q,_,rfl,SqT.of hq,rfl,_,_,rfl,_,_,rfl,rfl,?_⟩;have hm:=Qja x.rs x.hs i;unfold Qfd at hm;refine⟨_,rfl,a,C.Box,bx,bs,_,rfl,h1,cB,T.qg,F.kind,rfl,_,rfl,?_⟩;rw[lit (s:="modal") (a:=Xa "modal") (by decide +kernel)];cases e:decide ((rAt x.rs i).kind=Xa "modal") with
   | false=>
    rw[e] at hm;refine Qv ?_;dsimp only;refine Qv (nX ⟨some (.int (i:Int)),some (.ref a),?_,s3.trans s4⟩);rw[hm];rfl
   | true=>
    rw[e] at hm;refine Qr ⟨_,rfl,_,rfl,t,x,i,rfl,hT.mono (s3.trans s4),hi,λH5 s5=>⟨_,rfl,?_⟩⟩;cases e2:Qir x.rs x.hs i with
    | false=>
     rw[e2] at hm;refine Qv (nX ⟨some (.int (i:Int)),some (.ref a),?_,(s3.trans s4).trans s5⟩);rw[hm];rfl
    | true=>
     rw[e2] at hm;refine Qr ⟨_,rfl,some (.int (i:Int)),some (.ref a),?_,(s3.trans s4).trans s5⟩;rw[hm];rfl
  ·rintro σ H' ⟨v2,v3,rfl,s3⟩;exact⟨_,rfl,k H' s3⟩
def Qc6(rs:List QF)(hs:List Bool)(i:Nat):Bool:=match WR rs hs rs.length with
 | none=>true
 | some m=>(QQ rs i).contains m
def QiD(rs:List QF)(hs:List Bool)(i:Nat):Bool:=Qbh (rAt rs i)&&(!(rAt rs i).off&&(Qir rs hs i&&Qc6 rs hs i))
theorem Qpb(m:Nat)(l:List Nat):inV (.int (m:Int)) (l.map λj=>V.int (j:Nat))=l.contains m:=by
 induction l with
 | nil=>rfl
 | cons a r ih=>
  rw[Xj,Xac];show (eqV _ _||inV _ _)=_;rw[ih];congr 1;show eqV (.int (a:Int)) (.int (m:Int))=_;show decide ((a:Int)=(m:Int))=(m==a);rw[UF];simp;omega
theorem Qnv(l:List Nat):(l.map λj=>V.int (j:Nat)).all Yw=true:=by
 rw[Ut];exact Xl.mpr λ_ _=>rfl
def Qsg(C:Cs):Sp:=λvs H Q _=>JP λ(t:Addr) (x:TS') (i:Nat)=>vs=[.ref t,.int i]/\QG C H t x/\i<x.rs.length/\∀H',Qe H H'->Q (.bl (QiD x.rs x.hs i)) H'
theorem Ys:Qm ["teller","place","box","modal"] ["teller","place"] (Qg (top 67)):=Qsx
theorem QcJ(T:Pg P w K mg C):Ok P w K mg base 4 "can_be_pressed" ["teller","place"] (Qsg C):=by
 refine T.jG.ok Ys (λvs H Q E h=>?_) (λf cdv A outer s H vs Q E hr h=>?_)
 ·obtain⟨t,x,i,rfl,_⟩:=h;rfl
 ·obtain⟨t,x,i,rfl,hT,hi,k⟩:=h;intro X;refine⟨_,(Qd (Qx (i:=2) Ys.nd rfl (by first|exact .inl rfl|exact .inr rfl) (QV QJ (Qj (Qj (pv 0) rfl) rfl) (pv 1) (λ_ _=>rfl)))
   (Qd (Q1 (PW.pt (Qa5 (Zg (Js (Qk (WH T) (Qp hr) rfl (Qa (pv 2) Qc)))) (Qa5 (Js (Qj (pv 2) rfl)) (WX (Zg (Js (Qk (WV T) (Qp hr) rfl (Qa (pv 0) (Qa (pv 1) Qc))))))))) (Qi (Ql Qd2)) QC)
   (Qd (Qx (i:=3) Ys.nd rfl (by first|exact .inl rfl|exact .inr rfl) (Qk (Qgn T) (Qp hr) rfl (Qa (pv 0) Qc)))
   (Qi (Ql (Qn2 (QfJ (QaJ (pv 3))) (Zf (QR Qai (pv 3) (Qk (YB T) (Qp hr) rfl (Qa (Qj (pv 0) rfl) (Qa (pv 1) Qc))) rfl)))))))),?_⟩
  have cT:=T.qd.1;have cP:=T.qb.1;have cB:=T.qf.1;have hfew:=hT.few;unfold QiD at k;obtain⟨dx,fs,o1,o2,o3,o4,o5,o6⟩:=hT.obj;obtain⟨px,ps,lb,dp,lp,p1,p2,p3,p4,p5,p6,p7,p8⟩:=hT.page;obtain⟨a,ea,hB⟩:=p6.box i _ (QU hi);refine⟨_,rfl,t,C.Teller,dx,fs,_,rfl,o1,cT,T.qc,o4,x.pg,C.Page,px,ps,_,rfl,p1,cP,T.qe,p3,_,rfl,lb,_,_,_,rfl,rfl,SqL.of p6.lst,JN (j:=i) (v:=.ref a) rfl (by rw[Xg,ea];rfl),?_⟩;refine⟨_,rfl,a,_,rfl,hB,λH2 s2=>⟨_,rfl,?_⟩⟩;cases e1:Qbh (rAt x.rs i) with
  | false=>
   rw[e1] at k;exact Qr (Qr (k H2 s2))
  | true=>
   rw[e1] at k;obtain⟨bx,bs,la,aa,ys,h1,F,h3,h4,h5⟩:=hB.mono s2;refine Qv ⟨_,rfl,a,C.Box,bx,bs,_,rfl,h1,cB,T.qC,F.off,_,rfl,?_⟩;cases e2:(rAt x.rs i).off with
   | true=>
    rw[e2] at k;exact Qr (Qr (k H2 s2))
   | false=>
    rw[e2] at k;refine Qv ⟨_,rfl,_,rfl,t,x,i,rfl,hT.mono s2,hi,λH3 s3=>⟨_,rfl,?_⟩⟩;have s23:=s2.trans s3;cases e3:Qir x.rs x.hs i with
    | false=>
     rw[e3] at k;exact Qr (k H3 s23)
    | true=>
     rw[e3] at k;have k:∀H',Qe H H'->Q (.bl (Qc6 x.rs x.hs i)) H':=k;refine Qv (nX ?_);refine⟨_,rfl,t,x,rfl,hT.mono s23,λH4 s4=>?_⟩;have s24:=s23.trans s4;unfold Qc6 at k;refine⟨_,rfl,_,rfl,?_⟩;cases e4:WR x.rs x.hs x.rs.length with
     | none=>
      rw[e4] at k;rw[show decide (Qps none=V.non)=true from decide_eq_true rfl];exact Qr (k H4 s24)
     | some m=>
      rw[e4] at k;rw[show decide (Qps (some m)=V.non)=false from decide_eq_false λq=>nomatch q];have hT4:=hT.mono s24;obtain⟨dx,fs,o1,o2,o3,o4,o5,o6⟩:=hT4.obj;refine Qv ⟨_,rfl,_,rfl,t,C.Teller,dx,fs,_,rfl,o1,cT,T.qc,o4,_,rfl,x.pg,x.as,x.rs,i,rfl,hT4.page,hi,by omega,λH5 l s5 hl hd=>?_⟩;refine⟨l,_,rfl,.inl (SqL.of hd),rfl,Qnv _,?_⟩;show Q (.bl (inV (.int (m:Int)) _)) H5;rw[Qpb];exact k H5 (s24.trans s5)
structure Fl(H H':Hp)(l:Addr)(hs:List Bool):Prop where
 at_:H l=some (.lst (hs.map V.bl))
 pos:1<=hs.length
 keep:∀b o,H b=some o->b≠l->H' b=some o
theorem Fl.ne{H H':Hp}{l b:Addr}{hs:List Bool}(f:Fl H H' l hs){o:HO}(h:H b=some o)(ho:∀zs,o=.lst zs->∀z ∈ zs,∀c,z≠V.bl c):H' b=some o:=by
 refine f.keep b o h λq=>?_
 subst q;have e:o=.lst (hs.map V.bl):=Xc (h.symm.trans f.at_);have hp:=f.pos;cases hs with
 | nil=>simp at hp
 | cons c r=>exact ho _ e (V.bl c) (by simp) c rfl
theorem Fl.acts{H H':Hp}{l:Addr}{hs:List Bool}(f:Fl H H' l hs){ys:List V}{ts:List Qb}(h:J0 H ys ts):J0 H' ys ts/\∀z ∈ ys,∀c,z≠V.bl c:=by
 refine⟨h.tups (λb xs hb=>f.ne hb (λzs q=>nomatch q)),?_⟩
 induction h with
 | nil=>intro z hz;simp at hz
 | cons a r ih=>
  obtain⟨p,rfl,_⟩:=a;intro z hz c q;rcases Xm.mp hz with e | e
  ·rw[e] at q;cases q
  ·exact ih z e c q
theorem Fl.box{C:Cs}{H H':Hp}{l:Addr}{hs:List Bool}(f:Fl H H' l hs){a:Addr}{r:QF}(h:Yg C H a r):Yg C H' a r:=by
 obtain⟨dx,fs,la,aa,ys,h1,h2,h3,h4,h5⟩:=h;obtain⟨a1,a2⟩:=f.acts h5;refine⟨dx,fs,la,aa,ys,f.ne h1 (λzs q=>nomatch q),h2,f.ne h3 (λzs q z hz c e=>?_),f.ne h4 (λzs q z hz c e=>?_),a1⟩
 ·have q:=HO.lst.inj q;rw[<-q] at hz;obtain⟨t,_,e2⟩:=Xk.mp hz;rw[<-e2] at e;cases e
 ·have q:=HO.lst.inj q;rw[<-q] at hz;exact a2 z hz c e
theorem Fl.page{C:Cs}{H H':Hp}{l:Addr}{hs:List Bool}(f:Fl H H' l hs){pg:Addr}{as:List Addr}{rs:List QF}(h:J2 C H pg as rs):J2 C H' pg as rs:=by
 obtain⟨dx,fs,lb,dp,lp,h1,h2,h3,h4,h5,h6,h7,h8⟩:=h;refine⟨dx,fs,lb,dp,lp,f.ne h1 (λzs q=>nomatch q),h2,h3,h4,h5,⟨f.ne h6.lst (λzs q z hz c e=>?_),h6.len,λi r e=>let ⟨a,e1,e2⟩:=h6.box i r e;⟨a,e1,f.box e2⟩⟩,f.ne h7 (λzs q=>nomatch q),f.ne h8 (λzs q z hz c e=>?_)⟩
 ·have q:=HO.lst.inj q;rw[<-q] at hz;obtain⟨t,_,e2⟩:=Xk.mp hz;rw[<-e2] at e;cases e
 ·have q:=HO.lst.inj q;rw[<-q] at hz;obtain⟨t,_,e2⟩:=Xk.mp hz;rw[<-e2] at e;cases e
theorem Fl.rule{C:Cs}{H H':Hp}{l:Addr}{hs:List Bool}(f:Fl H H' l hs){a:Addr}{r:Jv}(h:ZN C H a r):ZN C H' a r:=by
 obtain⟨dx,fs,la,h1,h2,h3⟩:=h;refine⟨dx,fs,la,f.ne h1 (λzs q=>nomatch q),h2,f.ne h3 (λzs q z hz c e=>?_)⟩;have q:=HO.lst.inj q;rw[<-q] at hz;obtain⟨t,_,e2⟩:=Xk.mp hz;rw[<-e2] at e;cases e
theorem Fl.rules{C:Cs}{H H':Hp}{l:Addr}{hs:List Bool}(f:Fl H H' l hs){d:Addr}{as:List Addr}{rl:List Jv}(h:JI C H d as rl):JI C H' d as rl:=
 ⟨f.ne h.dict (λzs q=>nomatch q),h.len,λi r e=>let ⟨a,e1,e2⟩:=h.rule i r e;⟨a,e1,f.rule e2⟩⟩
theorem Fl.upd{H:Hp}{l:Addr}{hs:List Bool}{o:HO}(h:H l=some (.lst (hs.map V.bl)))(hp:1<=hs.length):Fl H (L2.upd H l o) l hs:=⟨h,hp,λb o' hb hne=>by rw[Qq hne];exact hb⟩
theorem QG.setH{C:Cs}{H:Hp}{t:Addr}{x:TS'}(h:QG C H t x){hs:List Bool}(hl:hs.length=x.hs.length):QG C (L2.upd H x.lh (.lst (hs.map V.bl))) t { x with hs:=hs }:=by
 have f:Fl H (L2.upd H x.lh (.lst (hs.map V.bl))) x.lh x.hs:=Fl.upd h.hid (by rw[h.hl];exact h.pos);obtain⟨dx,fs,h1,h2⟩:=h.obj;exact⟨⟨dx,fs,f.ne h1 (λzs q=>nomatch q),h2⟩,f.page h.page,f.rules h.rules,h.rlen,Qh,f.keep _ _ h.on (Ne.symm h.apart),h.apart,h.pos,h.few,hl.trans h.hl,h.ol,h.kinds⟩
theorem QG.setO{C:Cs}{H:Hp}{t:Addr}{x:TS'}(h:QG C H t x){os:List Bool}(hl:os.length=x.os.length):QG C (L2.upd H x.lo (.lst (os.map V.bl))) t { x with os:=os }:=by
 have f:Fl H (L2.upd H x.lo (.lst (os.map V.bl))) x.lo x.os:=Fl.upd h.on (by rw[h.ol];exact h.pos);obtain⟨dx,fs,h1,h2⟩:=h.obj;exact⟨⟨dx,fs,f.ne h1 (λzs q=>nomatch q),h2⟩,f.page h.page,f.rules h.rules,h.rlen,f.keep _ _ h.hid h.apart,Qh,h.apart,h.pos,h.few,h.hl,hl.trans h.ol,h.kinds⟩
theorem Qet{l:List (Key × V)}{kv:Key × V}{k:Key}(h:Jn l k=none)(hne:kv.1≠k):Jn (l++[kv]) k=none:=by
 induction l with
 | nil=>exact QY hne
 | cons a l ih=>
  by_cases q:a.1=k
  ·rw[Jf q] at h;cases h
  ·rw[QY q] at h;rw[Uq,QY q];exact ih h
theorem Qg4:∀(more kvs:List (Key × V)),(more.map Prod.fst).Nodup->(∀k ∈ more.map Prod.fst,Jn kvs k=none)->Jj kvs more=kvs++more
 | [],kvs,_,_=>by
  rw[XG];rfl
 | kv::r,kvs,hn,h=>by
  rw[Xj,Ue] at hn;show Jj (Wn kvs kv.1 kv.2) r=_;rw[QcV _ (h kv.1 (by simp)),Qg4 r _ hn.2 λk hk=>?_]
  ·simp
  ·exact Qet (h k (by simp at hk ⊢;exact Or.inr hk)) λq=>hn.1 (by rw[show kv.1=k from q];exact hk)
theorem Qm7(ts:List Qb)(hn:ts.Nodup){t:Qb}(h:t ∈ ts):∀(n:Nat),Jn ((Xs ts.length).map λi=>((Sum.inr (S (ts.getD i [])):Key),V.int ((n+i:Nat):Int))) (Sum.inr (S t))=some (.int ((n+ts.idxOf t:Nat):Int)):=by
 induction ts with
 | nil=>simp at h
 | cons a r ih=>
  intro n;rw[Ue] at hn;rw[Xw,Xag,Xj,Xr]
  by_cases q:a=t
  ·subst q;rw[XbH];exact Jf rfl
  ·rw[QY λe=>q (YT (Sum.inr.inj e))];have hm:t ∈ r:=by
    rcases Xm.mp h with e | e
    ·exact absurd e.symm q
    ·exact e
   have:=ih hn.2 hm (n+1);rw[show (a::r).idxOf t=(r.idxOf t).succ by rw[Xcl,show (a==t)=false from beq_eq_false_iff_ne.mpr q];rfl];have e1:n+1+r.idxOf t=n+(r.idxOf t).succ:=by omega
   rw[e1] at this;rw[<-this];congr 1;refine XF λi _=>?_
   show ((Sum.inr (S ((a::r).getD (i+1) [])):Key),V.int ((n+(i+1):Nat):Int))=_;rw[show n+(i+1)=n+1+i by omega];rfl
theorem QbP{rs:List QF}(hn:(QN rs).Nodup){t:Qb}(h:t ∈ QN rs):Jn (JA rs) (Sum.inr (S t))=some (.int (((QN rs).idxOf t:Nat):Int)):=by
 unfold JA;rw[Qg4 _ _ (by rw[WW];exact Qfr.mpr hn) λk _=>rfl,UN];have:=Qm7 (QN rs) hn h 0;rw[Xb,XbV] at this;rw[<-this];unfold J7;congr 1;refine XF λi _=>?_
 rw[XbV]
def QpQ(C:Cs):Sp:=λvs H Q _=>YS λ(t p:Addr) (x:TS') (a:Qb)=>vs=[.ref t,.ref p]/\QG C H t x/\H p=some (.tup [.str (S (Qo a).1),.str (S (Qo a).2)])/\(QN x.rs).Nodup/\(Qo a).2 ∈ QN x.rs/\Q .non (upd H x.lh (.lst ((Qcu (QN x.rs) x.hs a).map V.bl)))
theorem QhQ{n j:Nat}(h:j<n):ixN n (j:Int)=some j:=by
 unfold ixN;simp;omega
theorem Qhh:Qm ["teller","act","place"] ["teller","act"] (Qg (top 69)):=Qsx
theorem QmB(T:Pg P w K mg C):Ok P w K mg base 1 "do_act" ["teller","act"] (QpQ C):=by
 refine T.jI.ok Qhh (λvs H Q E h=>?_) (λf cdv A outer s H vs Q E hr h=>?_)
 ·obtain⟨t,p,x,a,rfl,_⟩:=h;rfl
 ·obtain⟨t,p,x,a,rfl,hT,hp,hn,hm,k⟩:=h;intro X;refine⟨_,(Qd (Qx (i:=2) Qhh.nd rfl (by first|exact .inl rfl|exact .inr rfl) (Yq (Zp hr) (Qj (Qj (pv 0) rfl) rfl) (QV Qdm (pv 1) Qt (λ_ _=>rfl)) (λ_ _=>rfl)))
   (Qi (Q1 (QE Jt (QV Qdm (pv 1) Qt (λ_ _=>rfl)) QB (Qz _)) (Qi (Qic (QfM (QV QJ (Qj (pv 0) rfl) (pv 2) (λ_ _=>rfl))) (Qh8 (Qj (pv 0) rfl) (pv 2) QcZ))) (Qi (Qic (QR Jt (QV Qdm (pv 1) Qt (λ_ _=>rfl)) QB (Qz _)) (Qh8 (Qj (pv 0) rfl) (pv 2) QcZ)))))),?_⟩
  have cT:=T.qd.1;have cP:=T.qb.1;obtain⟨dx,fs,o1,o2,o3,o4,o5,o6⟩:=hT.obj;obtain⟨px,ps,lb,dp,lp,p1,p2,p3,p4,p5,p6,p7,p8⟩:=hT.page;have hg:=ZP.k (k:=Sum.inr (S (Qo a).2)) p7;rw[QbP hn hm] at hg;have hj:(QN x.rs).idxOf (Qo a).2<x.hs.length:=by
   rw[hT.hl];have:=XY.mpr hm;rw[Xb] at this;exact this
  unfold Qcu at k;generalize (QN x.rs).idxOf (Qo a).2=j at hg hj k;refine⟨_,rfl,t,C.Teller,dx,fs,_,rfl,o1,cT,T.qc,o4,x.pg,C.Page,px,ps,_,rfl,p1,cP,T.qh,p4,_,rfl,p,_,_,_,rfl,rfl,SqT.of hp,JN (j:=1) rfl rfl,dp,_,rfl,hg,?_⟩;refine⟨_,rfl,p,_,_,_,rfl,rfl,SqT.of hp,JN (j:=0) rfl rfl,rfl,_,rfl,?_⟩;rw[lit (s:="flip") (a:=Xa "flip") (by decide +kernel)]
  by_cases e:(Qo a).1=Xa "flip"
  ·rw[if_pos e] at k;rw[decide_eq_true e];refine Qr ⟨_,rfl,t,C.Teller,dx,fs,_,rfl,o1,cT,T.qm,o5,_,rfl,x.lh,_,_,_,rfl,rfl,SqL.of hT.hid,QbE hj,_,rfl,_,rfl,t,C.Teller,dx,fs,_,rfl,o1,cT,T.qm,o5,_,rfl,x.lh,_,_,_,rfl,rfl,hT.hid,QhQ (by rw[Xb];exact hj),?_⟩;rw[Xay] at k;exact k
  ·rw[if_neg e] at k;rw[decide_eq_false e];refine Qv ⟨_,rfl,p,_,_,_,rfl,rfl,SqT.of hp,JN (j:=0) rfl rfl,rfl,_,rfl,t,C.Teller,dx,fs,_,rfl,o1,cT,T.qm,o5,_,rfl,x.lh,_,_,_,rfl,rfl,hT.hid,QhQ (by rw[Xb];exact hj),?_⟩;rw[lit (s:="hide") (a:=Xa "hide") (by decide +kernel)];rw[Xay] at k;exact k
end Sr
namespace Sr
open Vaacca (Kind Box Act kindText ids boxAt Now Source sourceText Rule isPage areRules opt spaced quoted digit isBox isId isSaid boxWords gluedBy isRule ruleWords)
open Vaaccb (Env State fromSource inner foundOf said Found nameOf heardOf heardText isSaidAlone rowOf usersOf labelled envOf)
def Sg(t:Qb):Prop:=∀b ∈ t,Y3.contains b=true
theorem QnI{b:UInt8}(h:Y3.contains b=true):Ji b=b:=by
 unfold Ji;rw[if_pos h]
theorem Qmo{b:UInt8}(h:Y3.contains b=false):Ji b=63:=by
 unfold Ji;rw[if_neg (by rw[h];exact λq=>by cases q)]
theorem Sg.known{t:Qb}(h:Sg t):t.map Sr.Ji=t:=by
 induction t with
 | nil=>rfl
 | cons b r ih=>
  rw[Xj,QnI (h b Xh),ih λc hc=>h c (Xn _ hc)]
theorem Sg.of_known{t:Qb}(h:Sg (t.map Sr.Ji)):Sg t:=by
 intro b hb;cases e:Y3.contains b with
 | true=>rfl
 | false=>
  have:=h (Sr.Ji b) (XbQ hb);rw[Qmo e] at this
  revert this
  decide +kernel
theorem Qdp{α:Type}{f:Qb->Option α}(h:∀t x,f t=some x->Sg t)(t:Qb):f (t.map Ji)=f t:=by
 cases e:f (t.map Ji) with
 | some x=>
  rw[<-e,(Sg.of_known (h _ _ e)).known]
 | none=>
  cases e2:f t with
  | none=>rfl
  | some x=>
   rw[(h _ _ e2).known,e2] at e;cases e
theorem Qfe{f:Qb->Bool}(h:∀t,f t=true->Sg t)(t:Qb):f (t.map Ji)=f t:=by
 cases e:f (t.map Ji) with
 | true=>
  rw[<-e,(Sg.of_known (h _ e)).known]
 | false=>
  cases e2:f t with
  | false=>rfl
  | true=>
   rw[(h _ e2).known,e2] at e;cases e
theorem Sg.nil:Sg []:=λ_ h=>by simp at h
theorem Sg.app{a b:Qb}(h:Sg a)(k:Sg b):Sg (a++b):=λc hc=>by
 rcases Xx.mp hc with q | q
 ·exact h c q
 ·exact k c q
theorem Sg.cons{c:UInt8}{b:Qb}(h:Y3.contains c=true)(k:Sg b):Sg (c::b):=λd hd=>by
 rcases Xm.mp hd with q | q
 ·rw[q];exact h
 ·exact k d q
theorem Sg.glue{c:UInt8}(hc:Y3.contains c=true):∀{l:List Qb},(∀t ∈ l,Sg t)->Sg (gluedBy [c] l)
 | [],_=>Sg.nil
 | [t],h=>h t Xh
 | t::u::r,h=>(h t Xh).app (Sg.cons hc (Sg.glue hc λx hx=>h x (Xn _ hx)))
theorem Sg.quoted{t:Qb}(h:Sg t):Sg (quoted t):=Sg.cons (by decide +kernel) (h.app (Sg.cons (by decide +kernel) Sg.nil))
theorem QoM:∀b:UInt8,Uy b=true->Y3.contains b=true:=Qab (by decide +kernel)
theorem Qol:∀b:UInt8,X3 b=true->Y3.contains b=true:=Qab (by decide +kernel)
theorem Sg.small{t:Qb}(h:t.all X3=true):Sg t:=λb hb=>Qol b (Xl.mp h b hb)
theorem Sg.word{t:Qb}(h:t.all Uy=true):Sg t:=λb hb=>QoM b (Xl.mp h b hb)
theorem Sg.saying{t:Qb}(h:isSaid t=true):Sg t:=by
 unfold isSaid at h;rw[Xd] at h;rw[<-Mp.Qbj 32 t];refine Sg.glue (by decide +kernel) λw hw=>?_
 have:=Xl.mp h.2 w hw;rw[Xd] at this;exact Sg.word this.2
theorem Sg.id{t:Qb}(h:isId t=true):Sg t:=Sg.small (ZS h).2.1
theorem Sg.kind(k:Kind):Sg (kindText k):=by cases k<;>exact Sg.word (by decide +kernel)
theorem Z0{b:Bool}{l:List Qb}{w:Qb}(h:w ∈ opt b l):w ∈ l:=by
 unfold opt at h
 split at h
 ·exact h
 ·simp at h
theorem Qnp:∀n:Nat,n<=9->Sg (digit n):=by
 intro n hn;have:n=0\/n=1\/n=2\/n=3\/n=4\/n=5\/n=6\/n=7\/n=8\/n=9:=by omega
 rcases this with h | h | h | h | h | h | h | h | h | h<;>subst h<;>exact Sg.word (by decide +kernel)
theorem QqD{b:Box}(ok:BOk b):∀w ∈ boxWords b,Sg w:=by
 intro w hw;unfold boxWords at hw;rw[Xx] at hw;rcases hw with hw | hw
 ·rcases Xm.mp hw with q | q
  ·rw[q];exact Sg.kind _
  ·rcases Xm.mp q with q | q
   ·rw[q];exact Sg.id ok.id
   ·simp at q
 rw[Xx] at hw;rcases hw with hw | hw
 ·rcases Xm.mp (Z0 hw) with q | q
  ·rw[q];rcases ok.text with e | e
   ·rw[e];exact Sg.quoted Sg.nil
   ·exact (Sg.saying e).quoted
  ·simp at q
 rw[Xx] at hw;rcases hw with hw | hw
 ·rcases Xm.mp (Z0 hw) with q | q
  ·rw[q];exact Sg.word (by decide +kernel)
  ·rcases Xm.mp q with q | q
   ·rw[q];rcases ok.label with e | e
    ·rw[e];exact Sg.quoted Sg.nil
    ·exact (Sg.saying e).quoted
   ·simp at q
 rw[Xx] at hw;rcases hw with hw | hw
 ·rcases Xm.mp (Z0 hw) with q | q
  ·rw[q];exact Sg.word (by decide +kernel)
  ·exact Sg.id (Xl.mp ok.byi _ q)
 rw[Xx] at hw;rcases hw with hw | hw
 ·rcases Xm.mp (Z0 hw) with q | q
  ·rw[q];exact Sg.word (by decide +kernel)
  ·exact Sg.id (Xl.mp ok.hinti _ q)
 rw[Xx] at hw;rcases hw with hw | hw
 ·rcases Xm.mp (Z0 hw) with q | q
  ·rw[q];exact Sg.word (by decide +kernel)
  ·simp at q
 rw[Xx] at hw;rcases hw with hw | hw
 ·rcases Xm.mp (Z0 hw) with q | q
  ·rw[q];exact Sg.word (by decide +kernel)
  ·simp at q
 rw[Xx] at hw;rcases hw with hw | hw
 ·rcases Xm.mp (Z0 hw) with q | q
  ·rw[q];exact Sg.word (by decide +kernel)
  ·simp at q
 rw[Xx] at hw;rcases hw with hw | hw
 ·rcases Xm.mp (Z0 hw) with q | q
  ·rw[q];exact Sg.word (by decide +kernel)
  ·rcases Xm.mp q with q | q
   ·rw[q];exact Qnp _ ok.order
   ·simp at q
 ·rcases Xm.mp (Z0 hw) with q | q
  ·rw[q];exact Sg.word (by decide +kernel)
  ·obtain⟨a,ha,e⟩:=Xk.mp q;rw[<-e];refine Sg.app ?_ (Sg.cons (by decide +kernel) (Sg.id (Xl.mp ok.pressi a ha)));cases a.what<;>exact Sg.word (by decide +kernel)
theorem Qpt{p:List Box}(h:isPage p=true):Sg (Vaacca.pageText p):=by
 intro c hc;obtain⟨b,hb,hc⟩:=XaM.mp hc;have ok:=(JK h).2.1 b hb;refine Sg.app (Sg.app (λd hd=>?_) (Sg.glue (by decide +kernel) (QqD ok))) (Sg.cons (by decide +kernel) Sg.nil) c hc;rw[(List.mem_replicate.mp hd).2];decide +kernel
theorem Qkx(t:Qb):Uj (t.map Ji)=Uj t:=by
 refine Qdp (λt p h=>?_) t;have hp:=Qpt (Qg8 h);unfold Uj at h;obtain⟨ls,_,g⟩:=XT.mp h;obtain⟨p',_,g⟩:=XT.mp g
 split at g
 ·rename_i hc
  rw[Xd] at hc;rw[<-Xc g] at hp;rw[<-eq_of_beq hc.2];exact hp
 ·cases g
theorem QpI{k:Kind}{r:Rule}(h:isRule r=true):∀w ∈ ruleWords k r,Sg w:=by
 intro w hw;unfold ruleWords at hw;rw[Xx] at hw;rcases hw with hw | hw
 ·rcases Xm.mp hw with q | q
  ·rw[q];exact Sg.kind _
  ·rcases Xm.mp q with q | q
   ·rw[q];exact Sg.small (Qan h).2.2.1
   ·simp at q
 rw[Xx] at hw;rcases hw with hw | hw
 ·rcases Xm.mp (Z0 hw) with q | q
  ·rw[q];exact Sg.word (by decide +kernel)
  ·simp at q
 rw[Xx] at hw;rcases hw with hw | hw
 ·rcases Xm.mp (Z0 hw) with q | q
  ·rw[q];exact Sg.word (by decide +kernel)
  ·simp at q
 ·rcases Xm.mp (Z0 hw) with q | q
  ·rw[q];exact Sg.word (by decide +kernel)
  ·obtain⟨a,_,e⟩:=Xk.mp q;rw[<-e];exact Sg.small (Mp.QaS a).1
theorem Qof{l:List Rule}(h:areRules l=true):Sg (Us l):=by
 intro c hc;obtain⟨z,hz,hc⟩:=XaM.mp hc;have hr:isRule z.2=true:=by
  unfold areRules at h;rw[Xd] at h;exact Xl.mp h.2 _ (Xbu (a:=z.1) (b:=z.2) hz).2
 exact Sg.app (Sg.glue (by decide +kernel) (QpI hr)) (Sg.cons (by decide +kernel) Sg.nil) c hc
theorem Qjz(t:Qb):X9 (t.map Ji)=X9 t:=by
 refine Qdp (λt p h=>?_) t;have hp:=Qof (Qd6 h);unfold X9 at h;obtain⟨ls,_,g⟩:=XT.mp h;obtain⟨p',_,g⟩:=XT.mp g
 split at g
 ·rename_i hc
  rw[Xd] at hc;rw[<-Xc g] at hp;rw[<-eq_of_beq hc.2];exact hp
 ·cases g
theorem QkI(t:Qb):isSaid (t.map Ji)=isSaid t:=Qfe (λ_ h=>Sg.saying h) t
theorem QlZ{p:List Box}(ok:∀b ∈ p,BOk b)(t:Qb):boxAt p (t.map Ji)=boxAt p t:=by
 refine Qdp (λt b h=>?_) t;have e:=Xbt h;have hm:=Xaw h;rw[<-eq_of_beq e];exact Sg.id (ok b hm).id
def SgB(rs:List QF):Prop:=∀r ∈ rs,Sg r.label/\Sg r.text
def SgI(inn:List Qb):Prop:=∀j,Sg (inn.getD j [])
theorem Sg.said{l:List Qb}(h:∀t ∈ l,Sg t):Sg (said l):=Sg.glue (by decide +kernel) λt ht=>h t (XM.mp ht).1
theorem Qn6{rs:List QF}(h:SgB rs)(i:Nat):Sg (rAt rs i).label/\Sg (rAt rs i).text:=by
 by_cases q:i<rs.length
 ·exact h _ (Xo (QU q))
 ·unfold rAt;rw[Xf,Xby (by omega)];exact⟨Sg.nil,Sg.nil⟩
theorem QiX{rs:List QF}{hs:List Bool}{inn:List Qb}(hb:SgB rs)(h:SgI inn)(i:Nat)(s:Qb):Sg (JG rs hs inn i s):=by
 unfold JG
 split
 ·exact (Qn6 hb i).1
 split
 ·exact (Qn6 hb i).2
 split
 ·refine Sg.said λt ht=>?_
  obtain⟨j,_,e⟩:=Xk.mp ht;rw[<-e];exact h j
 split
 ·refine Sg.said λt ht=>?_
  obtain⟨j,_,e⟩:=Xk.mp ht;rw[<-e];exact h _
 ·unfold QbZ
  split
  ·exact Sg.nil
  ·exact h _
theorem QiT{f:Qb->Qb}(h:∀s,Sg (f s))(l:List Qb):Sg (Z3 f l).2:=by
 rcases QaC f l with q | ⟨s,_,q⟩
 ·rw[q];exact Sg.nil
 ·rw[q];exact h s
theorem Qfa{rs:List QF}{hs:List Bool}{src:Nat->List Qb}(hb:SgB rs):∀m,SgI (JO rs hs src m)
 | 0,j=>by
  unfold JO;rw[Xf,Xbp]
  split<;>exact Sg.nil
 | m+1,j=>by
  unfold JO Qae;rw[Xf,U2]
  split
  ·split
   ·exact QiT (QiX hb (Qfa hb m) _) _
   ·exact Sg.nil
  ·rw[<-Xf];exact Qfa hb m j
theorem Qpm{rs:List QF}{hs:List Bool}{l:List Jv}(hb:SgB rs)(i:Nat):Sg (nmP rs l hs i).2:=QiT (QiX hb (Qfa hb _) _) _
theorem Qra{p:List Box}(ok:∀b ∈ p,BOk b):SgB (p.map rb):=by
 intro r hr;obtain⟨b,hb,e⟩:=Xk.mp hr;rw[<-e];refine⟨?_,?_⟩
 ·show Sg b.label;rcases (ok b hb).label with q | q
  ·rw[q];exact Sg.nil
  ·exact Sg.saying q
 ·show Sg b.text;rcases (ok b hb).text with q | q
  ·rw[q];exact Sg.nil
  ·exact Sg.saying q
theorem Qkl{rs:List QF}{hs:List Bool}{l:List Jv}(hb:SgB rs)(i:Nat)(t:Qb):decide ((nmP rs l hs i).2=t.map Ji)=decide ((nmP rs l hs i).2=t):=by
 refine Qfe (f:=λt=>decide ((nmP rs l hs i).2=t)) (λt h=>?_) t;rw[<-of_decide_eq_true h];exact Qpm hb i
end Sr
namespace Sr
open Vaaccb (Call State)
abbrev ZT(t:Qb):List Int:=t.map λb=>(b.toNat:Int)
def enc:Call->List Int
 | .page t=>0::JQ t
 | .rules t=>1::JQ t
 | .press n=>2::JQ n
 | .name n=>3::JQ n
 | .role n=>4::JQ n
 | .hint n=>5::JQ n
 | .said n=>6::JQ n
 | .row=>[7]
 | .find t=>8::JQ t
 | .source n k=>9::k::JQ n
 | .label n t=>10::(JQ n++JQ t)
 | .users n=>11::JQ n
 | .size=>[12]
def Qa7:Call->Prop
 | .page t=>t.length<=4000
 | .rules t=>t.length<=4000
 | .press n=>n.length<=4000
 | .name n=>n.length<=4000
 | .role n=>n.length<=4000
 | .hint n=>n.length<=4000
 | .said n=>n.length<=4000
 | .row=>True
 | .find t=>t.length<=4000
 | .source n _=>n.length<=4000
 | .label n t=>n.length<=4000/\t.length<=4000
 | .users n=>n.length<=4000
 | .size=>True
theorem Qoc{r x s:List Int}(h:PyFlat.row r=some (x,s)):r=(x.length:Int)::(x++s):=by
 cases r with
 | nil=>cases h
 | cons n r=>
  have h:(if 0<=n/\n.toNat<=r.length then some (r.take n.toNat,r.drop n.toNat) else none)=some (x,s):=h
  by_cases hc:0<=n/\n.toNat<=r.length
  ·rw[if_pos hc] at h;have h:=Xc h;have e1:r.take n.toNat=x:=congrArg Prod.fst h;have e2:r.drop n.toNat=s:=congrArg Prod.snd h;rw[<-e1,<-e2,Xal,Xbf,UG hc.2];congr 1;omega
  ·rw[if_neg hc] at h;cases h
theorem Qod{r t:List Int}{xs:List (List Int)}(h:PyFlat.rows 1 r=some (xs,t)):∃x,xs=[x]/\r=(x.length:Int)::(x++t):=by
 unfold PyFlat.rows at h
 split at h
 ·cases h
 ·rename_i x s e
  have h:=Xc h;refine⟨x,(congrArg Prod.fst h).symm,?_⟩;rw[Qoc e,show s=t from congrArg Prod.snd h]
theorem Qsc{r t:List Int}{xs:List (List Int)}(h:PyFlat.rows 2 r=some (xs,t)):QA λx y=>xs=[x,y]/\r=((x.length:Int)::x)++((y.length:Int)::(y++t)):=by
 unfold PyFlat.rows at h
 split at h
 ·cases h
 ·rename_i x s e
  split at h
  ·cases h
  ·rename_i ys u e2
   obtain⟨y,e3,e4⟩:=Qod e2;have h:=Xc h;refine⟨x,y,?_,?_⟩
   ·rw[<-show x::ys=xs from congrArg Prod.fst h,e3]
   ·rw[Qoc e,e4,show u=t from congrArg Prod.snd h];simp
theorem QhP:∀{x:List Int},x.all (PyInside.within 0 255)=true->∃bs:Qb,x=ZT bs
 | [],_=>⟨[],rfl⟩
 | z::r,h=>by
  rw[X4,Xd] at h;obtain⟨bs,e⟩:=QhP h.2;have hz:=h.1;unfold PyInside.within at hz;rw[Xd,decide_eq_true_eq,decide_eq_true_eq] at hz;refine⟨Xa2 z.toNat::bs,?_⟩;rw[e];show z::ZT bs=((Xa2 z.toNat).toNat:Int)::ZT bs;congr 1;rw[XbW];omega
theorem QaU(bs:Qb):XW (ZT bs)=some bs:=by
 unfold XW;rw[if_pos,Xr]
 ·congr 1
  conv=>rhs;rw[<-List.map_id bs]
  refine XF λb _=>?_
  show Xa2 ((b.toNat:Int)).toNat=b;rw[Uw,UInt8.ofNat_toNat]
 ·unfold NeutralIO.bytes;rw[Xl];intro z hz;obtain⟨b,_,e⟩:=Xk.mp hz;have:=b.toNat_lt;rw[<-e];simp;omega
theorem QhO{x:List Int}(h:PyInside.lists [(0,255,0,4000)] [x]=true):∃bs:Qb,x=ZT bs/\bs.length<=4000:=by
 unfold PyInside.lists at h;rw[Xd,Xd,Xd] at h;obtain⟨bs,e⟩:=QhP h.1.2;refine⟨bs,e,?_⟩;have:=of_decide_eq_true h.1.1.2;rw[e,Xb] at this;exact this
theorem Qpc{x y:List Int}(h:PyInside.lists [(0,255,0,4000),(0,255,0,4000)] [x,y]=true):(∃bs:Qb,x=ZT bs/\bs.length<=4000)/\∃bs:Qb,y=ZT bs/\bs.length<=4000:=by
 unfold PyInside.lists at h;rw[Xd,Xd,Xd] at h;obtain⟨bs,e⟩:=QhP h.1.2;refine⟨⟨bs,e,?_⟩,QhO h.2⟩;have:=of_decide_eq_true h.1.1.2;rw[e,Xb] at this;exact this
theorem QjG{p:Int}{n k:Nat}(h:XaD p=some (n,k)):((p=0\/p=1\/p=2\/p=3\/p=4\/p=5\/p=6\/p=8\/p=11)/\n=0/\k=1)\/((p=7\/p=12)/\n=0/\k=0)\/(p=9/\n=1/\k=1)\/(p=10/\n=0/\k=2):=by
 unfold XaD at h
 by_cases h0:p=0
 ·rw[if_pos h0] at h;have e1:0=n:=congrArg Prod.fst (Xc h);have e2:1=k:=congrArg Prod.snd (Xc h);omega
 rw[if_neg h0] at h
 by_cases h1:p=1
 ·rw[if_pos h1] at h;have e1:0=n:=congrArg Prod.fst (Xc h);have e2:1=k:=congrArg Prod.snd (Xc h);omega
 rw[if_neg h1] at h
 by_cases h2:p=2
 ·rw[if_pos h2] at h;have e1:0=n:=congrArg Prod.fst (Xc h);have e2:1=k:=congrArg Prod.snd (Xc h);omega
 rw[if_neg h2] at h
 by_cases h3:p=3
 ·rw[if_pos h3] at h;have e1:0=n:=congrArg Prod.fst (Xc h);have e2:1=k:=congrArg Prod.snd (Xc h);omega
 rw[if_neg h3] at h
 by_cases h4:p=4
 ·rw[if_pos h4] at h;have e1:0=n:=congrArg Prod.fst (Xc h);have e2:1=k:=congrArg Prod.snd (Xc h);omega
 rw[if_neg h4] at h
 by_cases h5:p=5
 ·rw[if_pos h5] at h;have e1:0=n:=congrArg Prod.fst (Xc h);have e2:1=k:=congrArg Prod.snd (Xc h);omega
 rw[if_neg h5] at h
 by_cases h6:p=6
 ·rw[if_pos h6] at h;have e1:0=n:=congrArg Prod.fst (Xc h);have e2:1=k:=congrArg Prod.snd (Xc h);omega
 rw[if_neg h6] at h
 by_cases h7:p=7
 ·rw[if_pos h7] at h;have e1:0=n:=congrArg Prod.fst (Xc h);have e2:0=k:=congrArg Prod.snd (Xc h);omega
 rw[if_neg h7] at h
 by_cases h8:p=8
 ·rw[if_pos h8] at h;have e1:0=n:=congrArg Prod.fst (Xc h);have e2:1=k:=congrArg Prod.snd (Xc h);omega
 rw[if_neg h8] at h
 by_cases h9:p=9
 ·rw[if_pos h9] at h;have e1:1=n:=congrArg Prod.fst (Xc h);have e2:1=k:=congrArg Prod.snd (Xc h);omega
 rw[if_neg h9] at h
 by_cases h10:p=10
 ·rw[if_pos h10] at h;have e1:0=n:=congrArg Prod.fst (Xc h);have e2:2=k:=congrArg Prod.snd (Xc h);omega
 rw[if_neg h10] at h
 by_cases h11:p=11
 ·rw[if_pos h11] at h;have e1:0=n:=congrArg Prod.fst (Xc h);have e2:1=k:=congrArg Prod.snd (Xc h);omega
 rw[if_neg h11] at h
 by_cases h12:p=12
 ·rw[if_pos h12] at h;have e1:0=n:=congrArg Prod.fst (Xc h);have e2:0=k:=congrArg Prod.snd (Xc h);omega
 rw[if_neg h12] at h;cases h
theorem QbK(bs:Qb):((ZT bs).length:Int)::ZT bs=JQ bs:=by
 unfold JQ;rw[Xb]
theorem QoX{r t:List Int}{c:List (List Int)}(h:PyFlat.call XaD r=some (c,t))(hb:PyInside.call XbE c=true):∃k,Qa7 k/\r=enc k++t/\Xaq (Xct c)=some k:=by
 cases r with
 | nil=>cases h
 | cons p r=>
  rw[PyFlat.call] at h;cases hs:XaD p with
  | none=>
   rw[hs] at h;cases h
  | some nk=>
  obtain⟨n,k⟩:=nk;rw[hs] at h;have h:(if r.length<n then none else match PyFlat.rows k (r.drop n) with
   | none=>none
   | some (xs,t)=>some ((p::r.take n)::xs,t))=some (c,t):=h
  by_cases hlen:r.length<n
  ·rw[if_pos hlen] at h;cases h
  rw[if_neg hlen] at h;cases e:PyFlat.rows k (r.drop n) with
  | none=>
   rw[e] at h;cases h
  | some xu=>
  obtain⟨xs,u⟩:=xu;rw[e] at h;have h:some ((p::r.take n)::xs,u)=some (c,t):=h;have h:=Xc h;have ec:(p::r.take n)::xs=c:=congrArg Prod.fst h;have et:u=t:=congrArg Prod.snd h;subst et;subst ec;rcases QjG hs with ⟨hp,rfl,rfl⟩ | ⟨hp,rfl,rfl⟩ | ⟨rfl,rfl,rfl⟩ | ⟨rfl,rfl,rfl⟩
  ·obtain⟨x,rfl,er⟩:=Qod e;rw[XaY] at er;have hb:PyInside.lists (XbE p).2 [x]=true:=by
    have:=hb;unfold PyInside.call at this;rw[Xd] at this;exact this.2
   have hb2:PyInside.lists [(0,255,0,4000)] [x]=true:=by
    rcases hp with rfl | rfl | rfl | rfl | rfl | rfl | rfl | rfl | rfl<;>exact hb
   obtain⟨bs,rfl,hl⟩:=QhO hb2;rw[<-Uq,QbK] at er;have ht:=QaU bs;subst er;rcases hp with rfl | rfl | rfl | rfl | rfl | rfl | rfl | rfl | rfl
   ·exact⟨.page bs,hl,rfl,by show (XW (ZT bs)).map Call.page=_;rw[ht];rfl⟩
   ·exact⟨.rules bs,hl,rfl,by show (XW (ZT bs)).map Call.rules=_;rw[ht];rfl⟩
   ·exact⟨.press bs,hl,rfl,by show (XW (ZT bs)).map Call.press=_;rw[ht];rfl⟩
   ·exact⟨.name bs,hl,rfl,by show (XW (ZT bs)).map Call.name=_;rw[ht];rfl⟩
   ·exact⟨.role bs,hl,rfl,by show (XW (ZT bs)).map Call.role=_;rw[ht];rfl⟩
   ·exact⟨.hint bs,hl,rfl,by show (XW (ZT bs)).map Call.hint=_;rw[ht];rfl⟩
   ·exact⟨.said bs,hl,rfl,by show (XW (ZT bs)).map Call.said=_;rw[ht];rfl⟩
   ·exact⟨.find bs,hl,rfl,by show (XW (ZT bs)).map Call.find=_;rw[ht];rfl⟩
   ·exact⟨.users bs,hl,rfl,by show (XW (ZT bs)).map Call.users=_;rw[ht];rfl⟩
  ·have e:some (([]:List (List Int)),r.drop 0)=some (xs,u):=e;have e:=Xc e;have e1:[]=xs:=congrArg Prod.fst e;have e2:r.drop 0=u:=congrArg Prod.snd e;subst e1;rw[XaY] at e2;subst e2;rcases hp with rfl | rfl
   ·exact⟨.row,trivial,rfl,rfl⟩
   ·exact⟨.size,trivial,rfl,rfl⟩
  ·obtain⟨x,rfl,er⟩:=Qod e;cases r with
   | nil=>exact absurd (show ([]:List Int).length<1 by decide) hlen
   | cons z r=>
    have er:r=(x.length:Int)::(x++u):=er;have hb:PyInside.lists [(0,255,0,4000)] [x]=true:=by
     have:=hb;unfold PyInside.call at this;rw[Xd] at this;exact this.2
    obtain⟨bs,rfl,hl⟩:=QhO hb;rw[<-Uq,QbK] at er;subst er;exact⟨.source bs z,hl,rfl,by show (XW (ZT bs)).map (λa=>Call.source a z)=_;rw[QaU];rfl⟩
  ·obtain⟨x,y,rfl,er⟩:=Qsc e;rw[XaY] at er;have hb:PyInside.lists [(0,255,0,4000),(0,255,0,4000)] [x,y]=true:=by
    have:=hb;unfold PyInside.call at this;rw[Xd] at this;exact this.2
   obtain⟨⟨bs,rfl,hl⟩,cs,rfl,hl2⟩:=Qpc hb;rw[<-Uq,QbK,QbK,<-XH] at er;subst er;exact⟨.label bs cs,⟨hl,hl2⟩,rfl,by show (XW (ZT bs)).bind (λa=>(XW (ZT cs)).map λb=>Call.label a b)=_;rw[QaU,QaU];rfl⟩
theorem QiC:∀{f:Nat} {r:List Int} {cs:List (List (List Int))},PyFlat.calls XaD f r=some cs->PyInside.calls XbE cs=true->∃ks:List Call,(∀k ∈ ks,Qa7 k)/\r=ks.flatMap enc/\(cs.map Xct).map Xaq=ks.map some
 | f,[],cs,h,_=>by
  have h:some []=some cs:=by
   cases f<;>exact h
  rw[<-Xc h];exact⟨[],λk hk=>by simp at hk,rfl,rfl⟩
 | 0,p::r,cs,h,_=>by cases h
 | f+1,p::r,cs,h,hb=>by
  unfold PyFlat.calls at h
  split at h
  ·cases h
  rename_i c t e
  split at h
  ·cases h
  rename_i cs' e2
  rw[<-Xc h] at hb ⊢;unfold PyInside.calls at hb;rw[X4,Xd] at hb;obtain⟨k,hk,er,ek⟩:=QoX e hb.1;obtain⟨ks,h1,h2,h3⟩:=QiC e2 hb.2;refine⟨k::ks,λk' hk'=>?_,?_,?_⟩
  ·rcases Xm.mp hk' with q | q
   ·rw[q];exact hk
   ·exact h1 k' q
  ·rw[US,<-h2];exact er
  ·rw[Xj,Xj,Xj,ek,h3]
def Qen:State->List Call->List Int
 | _,[]=>[]
 | s,k::r=>((Ub (Ua s k).2).length:Int)::(Ub (Ua s k).2++Qen (Ua s k).1 r)
theorem QlC:∀{s:State} {cs:List (List (List Int))} {ks:List Call},cs.map Xaq=ks.map some->PyFlat.told (PyFlat.played UM s cs)=Qen s ks
 | s,[],[],_=>rfl
 | s,[],k::ks,h=>by cases h
 | s,c::cs,[],h=>by cases h
 | s,c::cs,k::ks,h=>by
  rw[Xj,Xj] at h;have h1:Xaq c=some k:=(Xaa h).1;have e:UM s c=((Ua s k).1,Ub (Ua s k).2):=by
   unfold UM;rw[h1]
  show PyFlat.told ((UM s c).2::PyFlat.played UM (UM s c).1 cs)=_;rw[e];show ((Ub (Ua s k).2).length:Int)::Ub (Ua s k).2++PyFlat.told (PyFlat.played UM (Ua s k).1 cs)=_;rw[QlC (Xaa h).2];rfl
theorem Qqf{l:List Int}(h:Xbx l=true):∃ks:List Call,(∀k ∈ ks,Qa7 k)/\l=ks.flatMap enc/\Xbk l=Qen UZ ks/\(Qen UZ ks).length<=10000000/\ks.length<=40:=by
 unfold Xbx at h
 split at h
 ·cases h
 rename_i raw e
 rw[Xd,Xd,Xd,Xd] at h;obtain⟨⟨⟨⟨_,h40⟩,hb⟩,_⟩,hs⟩:=h;obtain⟨ks,h1,h2,h3⟩:=QiC e hb;have e2:Xbk l=Qen UZ ks:=by
  unfold Xbk PyVaaccb.calls;rw[e];exact QlC h3
 refine⟨ks,h1,h2,e2,?_,?_⟩
 ·rw[<-e2];exact of_decide_eq_true hs
 ·have:=congrArg XO h3;rw[Xb,Xb,Xb] at this;rw[<-this];exact of_decide_eq_true h40
end Sr
namespace Sr
open PySem PySem.Spec PyProof.Rows L2 TL
variable {P:Program} {w:World} {K:Xt} {mg:Str->Option Value} {base:Heap} {C:Cs}
def Qgz(C:Cs)(o:HO):Prop:=(QA λdx fs=>o=.ins C.Teller dx fs)\/(QA λdx fs=>o=.ins C.Box dx fs)\/QA λb bs=>o=.lst (V.bl b::bs)
structure Kp(C:Cs)(H H':Hp):Prop where
 keep:∀b o,H b=some o->¬Qgz C o->H' b=some o
 dom:∀b,H' b=none->H b=none
theorem Qe.dom{H H':Hp}(s:Qe H H'):∀b,H' b=none->H b=none:=λb h=>by
 cases e:H b with
 | none=>rfl
 | some o=>
  have:=s b o e;rw[h] at this;cases this
theorem Kp.of{C:Cs}{H H':Hp}(s:Qe H H'):Kp C H H':=⟨λb o h _=>s b o h,Qe.dom s⟩
theorem Kp.trans{C:Cs}{H H1 H2:Hp}(a:Kp C H H1)(b:Kp C H1 H2):Kp C H H2:=⟨λc o h n=>b.keep c o (a.keep c o h n) n,λc h=>a.dom c (b.dom c h)⟩
theorem QlU{H:Hp}{l:Addr}{o:HO}(b:Addr)(h:L2.upd H l o b=none):H b=none:=by
 by_cases q:b=l
 ·subst q;rw[Qh] at h;cases h
 ·rw[Qq q] at h;exact h
theorem Kp.flags{C:Cs}{H:Hp}{l:Addr}{hs:List Bool}{o:HO}(h:H l=some (.lst (hs.map V.bl)))(hp:1<=hs.length):Kp C H (L2.upd H l o):=by
 refine⟨λb u e n=>?_,QlU⟩;rw[Qq]
 ·exact e
 ·intro q;subst q;have e2:u=.lst (hs.map V.bl):=Xc (e.symm.trans h);cases hs with
  | nil=>simp at hp
  | cons c r=>exact n (.inr (.inr ⟨c,r.map V.bl,e2⟩))
theorem Qj2{C:Cs}{H:Hp}{ys:List V}{ts:List Qb}(h:J0 H ys ts):¬Qgz C (.lst ys):=by
 rintro (⟨dx,fs,q⟩ | ⟨dx,fs,q⟩ | ⟨b,bs,q⟩)
 ·cases q
 ·cases q
 ·have q:=HO.lst.inj q;subst q;cases h with
  | cons a r=>
   obtain⟨p,e,_⟩:=a;cases e
theorem Qm2{C:Cs}{xs:List V}:¬Qgz C (.tup xs):=by
 rintro (⟨dx,fs,q⟩ | ⟨dx,fs,q⟩ | ⟨b,bs,q⟩)<;>cases q
theorem QrU{J:It}{n:Nat}{Rx:Nat->V->Prop}{g:TG}{tb:TS}{D:QeH}{σ:L2.St}{H:Hp}(Pv:Nat->L2.St->Hp->Prop)(h0:Pv 0 σ H)
  (go:∀i σ H,Pv i σ H->i<n->J.go i H) (yld:∀i σ H x H',Pv i σ H->i<n->J.yld i H x H'->H'=H/\Rx i x) (stop:∀σ H,Pv n σ H->J.stop n H)
  (turn:∀i x σ H,i<n->Pv i σ H->Rx i x->g x σ H fun σ2 H2=>tb { D with nx:=Pv (i+1),ct:=Pv (i+1),bk:=D.nx } σ2 H2) (fin:∀σ H,Pv n σ H->D.nx σ H) :
  ∃W:Nat->Nat->L2.St->Hp->Prop,(∃m,W 0 m σ H)/\∀i m σ H,W i m σ H->
   (J.stop i H/\D.nx σ H)\/(J.go i H/\∃N:L2.St->Hp->Prop,(∀σ' H',N σ' H'->∃m',m'<m/\W (i+1) m' σ' H')/\∀x H',J.yld i H x H'->g x σ H' fun σ2 H2=>tb { D with nx:=N,ct:=N,bk:=D.nx } σ2 H2):=by
 refine⟨λi m σ H=>m=n-i/\i<=n/\Pv i σ H,⟨n,by simp,XC _,h0⟩,?_⟩;rintro i m σ H ⟨rfl,hi,p⟩
 by_cases hlt:i<n
 ·refine .inr ⟨go i σ H p hlt,Pv (i+1),fun σ' H' p'=>⟨n-(i+1),by omega,rfl,hlt,p'⟩,λx H' y=>?_⟩;obtain⟨e,r⟩:=yld i σ H x H' p hlt y;subst e;exact turn i x σ _ hlt p r
 ·obtain rfl:i=n:=by omega
  exact .inl ⟨stop σ H p,fin σ H p⟩
theorem QqM{K:Xt}{a:Addr}{xs:List V}{g:TG}{tb:TS}{D:QeH}{σ:L2.St}{H:Hp}(Pv:Nat->L2.St->Hp->Prop)(h0:Pv 0 σ H)(hs:∀i σ H,Pv i σ H->SqL K H a xs)
  (turn:∀i x σ H,i<xs.length->Pv i σ H->xs[i]?=some x->g x σ H fun σ2 H2=>tb { D with nx:=Pv (i+1),ct:=Pv (i+1),bk:=D.nx } σ2 H2) (fin:∀σ H,Pv xs.length σ H->D.nx σ H) :
  ∃W:Nat->Nat->L2.St->Hp->Prop,(∃m,W 0 m σ H)/\∀i m σ H,W i m σ H->
   ((Itl K a).stop i H/\D.nx σ H)\/((Itl K a).go i H/\∃N:L2.St->Hp->Prop,(∀σ' H',N σ' H'->∃m',m'<m/\W (i+1) m' σ' H')/\∀x H',(Itl K a).yld i H x H'->g x σ H' fun σ2 H2=>tb { D with nx:=N,ct:=N,bk:=D.nx } σ2 H2):=
 QrU (n:=xs.length) (Rx:=λi x=>xs[i]?=some x) Pv h0 (λi σ H p hi=>⟨xs,xs[i],hs _ _ _ p,by simp[hi]⟩) (λi σ H x H' p hi y=>⟨y.1,y.2 xs (hs _ _ _ p)⟩) (fun σ H p=>⟨xs,hs _ _ _ p,Xy _⟩) turn fin
def TS'.pressed(x:TS')(i:Nat):TS':={ x with hs:=(rAt x.rs i).acts.foldl (Qcu (QN x.rs)) x.hs,os:=if (rAt x.rs i).kind=Xa "check" then x.os.set i (!x.os.getD i false) else x.os }
def QkR(C:Cs):Sp:=λvs H Q _=>JP λ(t:Addr) (x:TS') (i:Nat)=>vs=[.ref t,.int i]/\QG C H t x/\i<x.rs.length/\(QN x.rs).Nodup/\(∀a ∈ (rAt x.rs i).acts,(Qo a).2 ∈ QN x.rs)/\
 ∀H',QG C H' t (x.pressed i)->Kp C H H'->Q .non H'
theorem QaP:Qm ["teller","place","box","act"] ["teller","place"] (Qg (top 68)):=Qsx
theorem Qh0(T:Pg P w K mg C):Ok P w K mg base 2 "press_box" ["teller","place"] (QkR C):=by
 refine T.jH.ok QaP (λvs H Q E h=>?_) (λf cdv A outer s H vs Q E hr h=>?_)
 ·obtain⟨t,x,i,rfl,_⟩:=h;rfl
 ·obtain⟨t,x,i,rfl,hT,hi,hn,hm,k⟩:=h;intro X;refine⟨_,(Qd (Qx (i:=2) QaP.nd rfl (by first|exact .inl rfl|exact .inr rfl) (QV QJ (Qj (Qj (pv 0) rfl) rfl) (pv 1) (λ_ _=>rfl)))
   (Qd (Q1 (QE Jt (Qj (pv 2) rfl) QB (Qz _)) (Qi (Qic (QfM (QV QJ (Qj (pv 0) rfl) (pv 1) (λ_ _=>rfl))) (Qh8 (Qj (pv 0) rfl) (pv 1) QcZ))) QC)
   (Qi (QaK PassesOwn.never rfl (Q4 (Qj (pv 2) rfl)) (QH (i:=3) QaP.nd rfl (by first|exact .inl rfl|exact .inr rfl)) (Qi (JF (Qk (QmB T) (Qp hr) rfl (Qa (pv 0) (Qa (pv 3) Qc))))))))),?_⟩
  have cT:=T.qd.1;have cP:=T.qb.1;have cB:=T.qf.1;obtain⟨dx,fs,o1,o2,o3,o4,o5,o6⟩:=hT.obj;obtain⟨px,ps,lb,dp,lp,p1,p2,p3,p4,p5,p6,p7,p8⟩:=hT.page;obtain⟨a,ea,bx,bs,la,aa,ys,b2,b3,b4,b5,b6⟩:=p6.box i _ (QU hi);have b1:atI (x.as.map V.ref) (i:Int)=some (.ref a):=JN (j:=i) rfl (by rw[Xg,ea];rfl);have hj:i<x.os.length:=by rw[hT.ol];exact hi
  refine⟨_,rfl,t,C.Teller,dx,fs,_,rfl,o1,cT,T.qc,o4,x.pg,C.Page,px,ps,_,rfl,p1,cP,T.qe,p3,_,rfl,lb,_,_,_,rfl,rfl,SqL.of p6.lst,b1,?_⟩;refine gN ?_;dsimp only
  let x1:TS':={ x with os:=if (rAt x.rs i).kind=Xa "check" then x.os.set i (!x.os.getD i false) else x.os }
  refine QbA (fun σ' H1=>σ'=[some (.ref t),some (.int i),some (.ref a),none]/\QG C H1 t x1/\Kp C H H1) ?_ ?_
  ·rintro σ' H1 ⟨rfl,hT1,k1⟩;obtain⟨px,ps,lb,dp,lp,p1,p2,p3,p4,p5,p6,p7,p8⟩:=hT1.page;obtain⟨a',ea',hB'⟩:=p6.box i _ (QU hi);rw[show a'=a from Xc (ea'.symm.trans ea)] at hB';obtain⟨bx,bs,la,aa,ys,b2,b3,b4,b5,b6⟩:=hB';have hyl:=b6.len;refine⟨_,rfl,a,C.Box,bx,bs,_,rfl,b2,cB,T.qD,b3.acts,aa,rfl,⟨_,SqL.of b5⟩,QqM (xs:=ys) (λj σ H2=>∃v3:Option V,σ=[some (.ref t),some (.int i),some (.ref a),v3]/\QG C H2 t { x1 with hs:=((rAt x.rs i).acts.take j).foldl (Qcu (QN x.rs)) x.hs }/\Kp C H1 H2) ⟨none,rfl,hT1,Kp.of (Qe.refl _)⟩ (λj σ H2 ⟨_,_,_,s2⟩=>SqL.of (s2.keep _ _ b5 (Qj2 b6))) ?_ ?_⟩
   ·rintro j y σ H2 hjl ⟨v3,rfl,hT2,s2⟩ ey;obtain⟨at_,p,et,rfl,hp⟩:=b6.get ey;have hmem:at_ ∈ (rAt x.rs i).acts:=Xo et;refine⟨_,rfl,_,rfl,t,p,_,at_,rfl,hT2,s2.keep _ _ hp Qm2,hn,hm at_ hmem,some (.ref p),rfl,?_,?_⟩
    ·have:=hT2.setH (hs:=Qcu (QN x.rs) (((rAt x.rs i).acts.take j).foldl (Qcu (QN x.rs)) x.hs) at_) (by unfold Qcu;rw[Ud]);rw[Xbz,et];show QG C _ t { x1 with hs:=List.foldl (Qcu (QN x.rs)) x.hs (_++[at_]) };rw[Xa7];exact this
    ·exact s2.trans (Kp.flags hT2.hid (by rw[hT2.hl];exact hT2.pos))
   ·rintro σ H2 ⟨v3,rfl,hT2,s2⟩;rw[hyl,U6] at hT2;exact k H2 hT2 (k1.trans s2)
  ·intro nx' hnx;refine⟨_,rfl,a,C.Box,bx,bs,_,rfl,b2,cB,T.qg,b3.kind,rfl,_,rfl,?_⟩;rw[lit (s:="check") (a:=Xa "check") (by decide +kernel)]
   by_cases e:(rAt x.rs i).kind=Xa "check"
   ·rw[decide_eq_true e];refine Qr ⟨_,rfl,t,C.Teller,dx,fs,_,rfl,o1,cT,T.qq,o6,_,rfl,x.lo,_,_,_,rfl,rfl,SqL.of hT.on,QbE hj,_,rfl,_,rfl,t,C.Teller,dx,fs,_,rfl,o1,cT,T.qq,o6,_,rfl,x.lo,_,_,_,rfl,rfl,hT.on,QhQ (by rw[Xb];exact hj),hnx _ _ ⟨rfl,?_,?_⟩⟩
    ·have:=hT.setO (os:=x.os.set i (!x.os.getD i false)) (by rw[Ud]);rw[Xay] at this;show QG C _ t { x with os:=if (rAt x.rs i).kind=Xa "check" then x.os.set i (!x.os.getD i false) else x.os };rw[if_pos e];exact this
    ·exact Kp.flags hT.on (by rw[hT.ol];exact hT.pos)
   ·rw[decide_eq_false e];refine Qv (nX (hnx _ _ ⟨rfl,?_,Kp.of (Qe.refl _)⟩));show QG C _ t { x with os:=if (rAt x.rs i).kind=Xa "check" then x.os.set i (!x.os.getD i false) else x.os };rw[if_neg e];exact hT
structure Apt(C:Cs):Prop where
 BT:C.Box≠C.Teller
 PT:C.Page≠C.Teller
 RT:C.Rule≠C.Teller
 PB:C.Page≠C.Box
 RB:C.Rule≠C.Box
 TB:C.Teller≠C.Box
 DT:C.Reader≠C.Teller
 DB:C.Reader≠C.Box
 BD:C.Box≠C.Reader
 PD:C.Page≠C.Reader
 RD:C.Rule≠C.Reader
 TD:C.Teller≠C.Reader
theorem Pg.apt{P:Program}{w:World}{K:Xt}{mg:Str->Option Value}{C:Cs}(T:Pg P w K mg C):Apt C:=by
 have h:=T.zU;refine⟨?_,?_,?_,?_,?_,?_,?_,?_,?_,?_,?_,?_⟩<;>(intro q;rw[q] at h;simp at h)
def Yi(Y:Addr)(H H':Hp):Prop:=∀b o,H b=some o->(∀dx fs,o≠.ins Y dx fs)->H' b=some o
theorem Yi.of{Y:Addr}{H H':Hp}(s:Qe H H'):Yi Y H H':=λb o h _=>s b o h
theorem Yi.trans{Y:Addr}{H H1 H2:Hp}(a:Yi Y H H1)(b:Yi Y H1 H2):Yi Y H H2:=λc o h n=>b c o (a c o h n) n
theorem Yi.keep{Y:Addr}{H H':Hp}{t dx:Addr}{fs:List (Str × V)}(h:H t=some (.ins Y dx fs))(k:Zj t H H'):Yi Y H H':=λb o e n=>k b o e (Q8 e h (n dx fs))
theorem Yg.off{C:Cs}{Y:Addr}(n:C.Box≠Y){H H':Hp}{a:Addr}{r:QF}(h:Yg C H a r)(s:Yi Y H H'):Yg C H' a r:=by
 obtain⟨dx,fs,la,aa,ys,h1,h2,h3,h4,h5⟩:=h;exact⟨dx,fs,la,aa,ys,s _ _ h1 (λ_ _ q=>n (HO.ins.inj q).1),h2,s _ _ h3 (λ_ _ q=>nomatch q),s _ _ h4 (λ_ _ q=>nomatch q),h5.tups λb xs hb=>s _ _ hb (λ_ _ q=>nomatch q)⟩
theorem J2.off{C:Cs}{Y:Addr}(n:C.Box≠Y)(n2:C.Page≠Y){H H':Hp}{pg:Addr}{as:List Addr}{rs:List QF}(h:J2 C H pg as rs)(s:Yi Y H H'):J2 C H' pg as rs:=by
 obtain⟨dx,fs,lb,dp,lp,h1,h2,h3,h4,h5,h6,h7,h8⟩:=h;exact⟨dx,fs,lb,dp,lp,s _ _ h1 (λ_ _ q=>n2 (HO.ins.inj q).1),h2,h3,h4,h5,⟨s _ _ h6.lst (λ_ _ q=>nomatch q),h6.len,λi r e=>let ⟨a,e1,e2⟩:=h6.box i r e;⟨a,e1,e2.off n s⟩⟩,s _ _ h7 (λ_ _ q=>nomatch q),s _ _ h8 (λ_ _ q=>nomatch q)⟩
theorem ZN.off{C:Cs}{Y:Addr}(n:C.Rule≠Y){H H':Hp}{a:Addr}{r:Jv}(h:ZN C H a r)(s:Yi Y H H'):ZN C H' a r:=by
 obtain⟨dx,fs,la,h1,h2,h3⟩:=h;exact⟨dx,fs,la,s _ _ h1 (λ_ _ q=>n (HO.ins.inj q).1),h2,s _ _ h3 (λ_ _ q=>nomatch q)⟩
theorem JI.off{C:Cs}{Y:Addr}(n:C.Rule≠Y){H H':Hp}{d:Addr}{as:List Addr}{rl:List Jv}(h:JI C H d as rl)(s:Yi Y H H'):JI C H' d as rl:=
 ⟨s _ _ h.dict (λ_ _ q=>nomatch q),h.len,λi r e=>let ⟨a,e1,e2⟩:=h.rule i r e;⟨a,e1,e2.off n s⟩⟩
theorem QG.off{C:Cs}{Y:Addr}(nB:C.Box≠Y)(nP:C.Page≠Y)(nR:C.Rule≠Y)(nT:C.Teller≠Y){H H':Hp}{t:Addr}{x:TS'}(h:QG C H t x)(s:Yi Y H H'):QG C H' t x:=by
 obtain⟨dx,fs,o1,o2⟩:=h.obj;exact⟨⟨dx,fs,s _ _ o1 (λ_ _ q=>nT (HO.ins.inj q).1),o2⟩,h.page.off nB nP s,h.rules.off nR s,h.rlen,s _ _ h.hid (λ_ _ q=>nomatch q),s _ _ h.on (λ_ _ q=>nomatch q),h.apart,h.pos,h.few,h.hl,h.ol,h.kinds⟩
abbrev Zk(C:Cs)(H H':Hp):Prop:=Yi C.Teller H H'
theorem Zk.of{C:Cs}{H H':Hp}(s:Qe H H'):Zk C H H':=Yi.of s
theorem Zk.trans{C:Cs}{H H1 H2:Hp}(a:Zk C H H1)(b:Zk C H1 H2):Zk C H H2:=Yi.trans a b
theorem Zk.keep{C:Cs}{H H':Hp}{t dx:Addr}{fs:List (Str × V)}(h:H t=some (.ins C.Teller dx fs))(k:Zj t H H'):Zk C H H':=Yi.keep h k
theorem J2.tel{C:Cs}(A:Apt C){H H':Hp}{pg:Addr}{as:List Addr}{rs:List QF}(h:J2 C H pg as rs)(s:Zk C H H'):J2 C H' pg as rs:=h.off A.BT A.PT s
theorem JI.tel{C:Cs}(A:Apt C){H H':Hp}{d:Addr}{as:List Addr}{rl:List Jv}(h:JI C H d as rl)(s:Zk C H H'):JI C H' d as rl:=h.off A.RT s
theorem Yi.kp{C:Cs}{H H':Hp}(s:Zk C H H')(d:∀b,H' b=none->H b=none):Kp C H H':=⟨λb o h n=>s b o h λdx fs q=>n (.inl ⟨dx,fs,q⟩),d⟩
theorem Qbt{f:Str}{v:V}:∀{fs:List (Str × V)},(fs.lookup f).isSome=true->(Yr f v fs).length=fs.length
 | [],h=>by cases h
 | (g,x)::r,h=>by
  unfold Yr
  by_cases q:g=f
  ·rw[if_pos q];rfl
  ·rw[if_neg q];have h2:(r.lookup f).isSome=true:=by
    rw[List.lookup_cons] at h;rw[show (f==g)=false from beq_eq_false_iff_ne.mpr λe=>q e.symm] at h;exact h
   rw[Xw,Xw,Qbt h2]
theorem QcU{f:Str}{v u:V}{fs:List (Str × V)}(h:lk fs f=some u):(Yr f v fs).length=fs.length:=Qbt (by rw[show fs.lookup f=some u from h];rfl)
theorem Qaf{t:Addr}{H H':Hp}{o:HO}(k:Zj t H H')(h:H' t=some o):∀b,H' b=none->H b=none:=λb e=>by
 by_cases q:b=t
 ·subst q;rw[h] at e;cases e
 ·cases e2:H b with
  | none=>rfl
  | some u=>
   rw[k b u e2 q] at e;cases e
structure Qnh(C:Cs)(H H':Hp)(t dx:Addr)(fs fs':List (Str × V))(pg:Addr)(rs:List QF)(lh lo:Addr):Prop where
 same:Zk C H H'
 dom:∀b,H' b=none->H b=none
 obj:H' t=some (.ins C.Teller dx fs')
 few:fs'.length<=fs.length+(if (lk fs "page").isSome&&((lk fs "hidden").isSome&&(lk fs "on").isSome) then 0 else 3)
 page:lk fs' "page"=some (.ref pg)
 hidden:lk fs' "hidden"=some (.ref lh)
 on:lk fs' "on"=some (.ref lo)
 rules:lk fs' "rules"=lk fs "rules"
 newh:H lh=none
 newo:H lo=none
 apart:lh≠lo
 hs:H' lh=some (.lst ((rs.map (·.hidden)).map V.bl))
 os:H' lo=some (.lst ((rs.map (·.on)).map V.bl))
def QkU(C:Cs):Sp:=λvs H Q _=>Qj0 λ(t dx:Addr) (fs:List (Str × V)) (pg:Addr) (as:List Addr) (rs:List QF)=>vs=[.ref t,.ref pg]/\H t=some (.ins C.Teller dx fs)/\fs.length<100/\J2 C H pg as rs/\rs.length<=1000/\
 ∀H' fs' lh lo,Qnh C H H' t dx fs fs' pg rs lh lo->Q .non H'
theorem Yt:Qm ["teller","page","box"] ["teller","page"] (Qg (top 62)):=Qsx
theorem QcO(T:Pg P w K mg C):Ok P w K mg base 1 "take_page" ["teller","page"] (QkU C):=by
 have A0:=T.apt;refine T.jB.ok Yt (λvs H Q E h=>?_) (λf cdv A outer s H vs Q E hr h=>?_)
 ·obtain⟨t,dx,fs,pg,as,rs,rfl,_⟩:=h;rfl
 ·obtain⟨t,dx,fs,pg,as,rs,rfl,ht,hf,hP,hl,k⟩:=h;intro X;refine⟨_,(Qd (Ju (pv 0) (pv 1) rfl)
   (Qd (Ju (pv 0) (JR rfl Yt.nd (Q4 (Qj (pv 1) rfl)) (own:=[("box",2)]) (QK (N:=["teller","page","box"]) (sc:=Qg (top 62)) (by decide +kernel)) (λ_ _ _ _ _=>(QH (i:=2) Yt.nd rfl (by first|exact .inl rfl|exact .inr rfl))) (λ_ _ _ _ _=>Jo) (λ_ _ _ _ _=>(Zr K (pv 2) rfl))) rfl)
   (Qi (Ju (pv 0) (JR rfl Yt.nd (Q4 (Qj (pv 1) rfl)) (own:=[("box",2)]) (QK (N:=["teller","page","box"]) (sc:=Qg (top 62)) (by decide +kernel)) (λ_ _ _ _ _=>(QH (i:=2) Yt.nd rfl (by first|exact .inl rfl|exact .inr rfl))) (λ_ _ _ _ _=>Jo) (λ_ _ _ _ _=>(Zr K (pv 2) rfl))) rfl)))),?_⟩
  have cT:=T.qd.1;have cP:=T.qb.1;have cB:=T.qf.1;refine⟨_,rfl,QM rfl ht cT T.qc (by omega) λH1 f1 e1 K1 h1 l1=>?_⟩;have P1:=hP.tel A0 (Zk.keep ht K1);obtain⟨px,ps,lb,dp,lp,p1,p2,p3,p4,p5,p6,p7,p8⟩:=P1;dsimp only;refine tlc ?_;refine⟨_,rfl,pg,C.Page,px,ps,_,rfl,p1,cP,T.qe,p3,lb,rfl,⟨_,SqL.of p6.lst⟩,?_⟩;refine lcF (QW (SqL.of p6.lst)) (by rw[Xb,p6.len,QI];omega) (λ_=>true) (λi=>.bl (rAt rs i).hidden) (λi v H2 hi s2 rx Qy Qn q1 q2=>?_) λD H2 hD s2 hd=>?_
  ·rw[Xb,p6.len] at hi;obtain⟨a,ea,bx,bs,la,aa,ys,b2,b3,_⟩:=(p6.mono s2).box i _ (QU hi);rw[Xg,ea] at rx;have rx:V.ref a=v:=Xc rx;subst rx;exact⟨rfl,Qr ⟨_,rfl,a,C.Box,bx,bs,_,rfl,b2,cB,T.qL,b3.hidden,q1 rfl H2 (Qe.refl _)⟩⟩
  rw[X2.mpr (λ_ _=>rfl),Xb,p6.len,show (λi=>V.bl (rAt rs i).hidden)=(λi=>(V.bl ∘ (λr:QF=>r.hidden)) (rs.getD i noR)) from rfl,Qcj,<-Xr] at hd;refine QM rfl (s2 _ _ h1) cT T.qm (by omega) λH3 f3 e3 K3 h3 l3=>?_
  have hd3:H3 D=some (.lst ((rs.map (·.hidden)).map V.bl)):=K3 _ _ hd (Q8 hd (s2 _ _ h1) λq=>nomatch q);have S3:Zk C H1 H3:=(Zk.of s2).trans (Zk.keep (s2 _ _ h1) K3);have P3:=(hP.tel A0 (Zk.keep ht K1)).tel A0 S3;obtain⟨px,ps,lb,dp,lp,p1,p2,p3,p4,p5,p6,p7,p8⟩:=P3;dsimp only;refine tlc ?_;refine⟨_,rfl,pg,C.Page,px,ps,_,rfl,p1,cP,T.qe,p3,lb,rfl,⟨_,SqL.of p6.lst⟩,?_⟩;refine lcF (QW (SqL.of p6.lst)) (by rw[Xb,p6.len,QI];omega) (λ_=>true) (λi=>.bl (rAt rs i).on) (λi v H4 hi s4 rx Qy Qn q1 q2=>?_) λD2 H4 hD2 s4 hd4=>?_
  ·rw[Xb,p6.len] at hi;obtain⟨a,ea,bx,bs,la,aa,ys,b2,b3,_⟩:=(p6.mono s4).box i _ (QU hi);rw[Xg,ea] at rx;have rx:V.ref a=v:=Xc rx;subst rx;exact⟨rfl,Qr ⟨_,rfl,a,C.Box,bx,bs,_,rfl,b2,cB,T.q2,b3.on,q1 rfl H4 (Qe.refl _)⟩⟩
  rw[X2.mpr (λ_ _=>rfl),Xb,p6.len,show (λi=>V.bl (rAt rs i).on)=(λi=>(V.bl ∘ (λr:QF=>r.on)) (rs.getD i noR)) from rfl,Qcj,<-Xr] at hd4;refine QM rfl (s4 _ _ h3) cT T.qq (by omega) λH5 f5 e5 K5 h5 l5=>?_
  have S5:Zk C H3 H5:=(Zk.of s4).trans (Zk.keep (s4 _ _ h3) K5);have d13:∀b,H3 b=none->H1 b=none:=λb q=>Qe.dom s2 b (Qaf K3 h3 b q)
  have d01:∀b,H1 b=none->H b=none:=Qaf K1 h1;have d35:∀b,H5 b=none->H3 b=none:=λb q=>Qe.dom s4 b (Qaf K5 h5 b q)
  refine k H5 f5 D D2 ⟨((Zk.keep ht K1).trans S3).trans S5,λb q=>d01 b (d13 b (d35 b q)),h5,?_,?_,?_,?_,?_,d01 _ hD,d01 _ (d13 _ hD2),λq=>?_,?_,?_⟩
  ·split
   ·rename_i hc
    rw[Xd,Xd] at hc;have q1:f1.length=fs.length:=by rw[e1];exact Qbt hc.1
    have q3:f3.length=f1.length:=by rw[e3];exact Qbt (by rw[e1,QD (by decide +kernel)];exact hc.2.1)
    have q5:f5.length=f3.length:=by rw[e5];exact Qbt (by rw[e3,QD (by decide +kernel),e1,QD (by decide +kernel)];exact hc.2.2)
    omega
   ·omega
  ·show Xz _ _=_;rw[e5,QD (by decide +kernel),e3,QD (by decide +kernel),e1,JU]
  ·show Xz _ _=_;rw[e5,QD (by decide +kernel),e3,JU]
  ·show Xz _ _=_;rw[e5,JU]
  ·show Xz _ _=Xz _ _;rw[e5,QD (by decide +kernel),e3,QD (by decide +kernel),e1,QD (by decide +kernel)]
  ·subst q;rw[hd3] at hD2;cases hD2
  ·exact S5 _ _ hd3 (λ_ _ q=>nomatch q)
  ·exact K5 _ _ hd4 (Q8 hd4 (s4 _ _ h3) λq=>nomatch q)
theorem QnH{p:List UD}:∀r ∈ p.map rb,r.kind ∈ QS:=by
 intro r hr;obtain⟨b,_,e⟩:=Xk.mp hr;rw[<-e];show Xco b.kind ∈ QS;cases b.kind<;>decide +kernel
structure Zn(C:Cs)(H:Hp)(t:Addr)(s:Xb0)(x:TS'):Prop where
 tel:QG C H t x
 rs:x.rs=s.page.map rb
 rl:x.rl=s.rules.map rr
 si:SI s x.hs x.os
theorem Zn.mono{C:Cs}{H H':Hp}{t:Addr}{s:Xb0}{x:TS'}(h:Zn C H t s x)(q:Qe H H'):Zn C H' t s x:=⟨h.tel.mono q,h.rs,h.rl,h.si⟩
theorem Qnh.st(A:Apt C){H H':Hp}{t dx:Addr}{fs fs':List (Str × V)}{pg:Addr}{as:List Addr}{p:List UD}{lh lo:Addr}(h:Qnh C H H' t dx fs fs' pg (p.map rb) lh lo)(hP:J2 C H pg as (p.map rb))(hp:Vaacca.isPage p=true){d:Addr}{ras:List Addr}{l:List Xa4}(hR:JI C H d ras (l.map rr))(hl:UA l=true)(hd:lk fs "rules"=some (.ref d))(few:fs'.length<100) :
  Zn C H' t ⟨p,l,Xbm p⟩ ⟨pg,as,p.map rb,d,ras,l.map rr,lh,lo,p.map (·.hidden),p.map (·.on)⟩:=by
 obtain⟨_,_,_,q1,q2⟩:=JK hp;have e:∀f:QF->Bool,(p.map rb).map f=p.map λb=>f (rb b):=λf=>by rw[Xr];rfl
 have hlen:l.length=19:=by
  unfold UA at hl;rw[Xd] at hl;exact eq_of_beq hl.1
 have h1:=h.hs;have h2:=h.os;rw[e] at h1 h2;refine⟨⟨⟨dx,fs',h.obj,few,by rw[h.rules,hd],h.page,h.hidden,h.on⟩,hP.tel A h.same,hR.tel A h.same,by show (l.map rr).length=19;rw[Xb];exact hlen,h1,h2,h.apart,by show 1<=(p.map rb).length;rw[Xb];exact q1,by show (p.map rb).length<=16;rw[Xb];exact q2,by show (p.map _).length=(p.map rb).length;rw[Xb,Xb],by show (p.map _).length=(p.map rb).length;rw[Xb,Xb],QnH⟩,rfl,rfl,⟨hp,hl,Ql9 p⟩⟩
def QeJ:Qb:=Xa RS
theorem QaM:(RS:String)=String.ofList ['p','a','g','e',' ','p','a','g','e',' ','f','r','o','m',' ','b','y',' ','l','a','b','e','l','\n','p','a','r','t',' ','p','a','r','t',' ','f','r','o','m',' ','b','y',' ','l','a','b','e','l','\n','h','1',' ','h','e','a','d','i','n','g',' ','w','h','o','l','e',' ','f','r','o','m',' ','b','y',' ','l','a','b','e','l',' ','t','e','x','t',' ','k','i','d','s','\n','h','2',' ','h','e','a','d','i','n','g',' ','w','h','o','l','e',' ','f','r','o','m',' ','b','y',' ','l','a','b','e','l',' ','t','e','x','t',' ','k','i','d','s','\n','h','3',' ','h','e','a','d','i','n','g',' ','w','h','o','l','e',' ','f','r','o','m',' ','b','y',' ','l','a','b','e','l',' ','t','e','x','t',' ','k','i','d','s','\n','p',' ','t','e','x','t',' ','f','r','o','m',' ','t','e','x','t','\n','l','i','n','k',' ','l','i','n','k',' ','f','o','c','u','s',' ','w','h','o','l','e',' ','f','r','o','m',' ','b','y',' ','l','a','b','e','l',' ','t','e','x','t',' ','k','i','d','s',' ','h','i','n','t','\n','b','u','t','t','o','n',' ','b','u','t','t','o','n',' ','f','o','c','u','s',' ','w','h','o','l','e',' ','f','r','o','m',' ','b','y',' ','l','a','b','e','l',' ','t','e','x','t',' ','k','i','d','s',' ','h','i','n','t','\n','f','i','e','l','d',' ','f','i','e','l','d',' ','f','o','c','u','s',' ','f','r','o','m',' ','b','y',' ','l','a','b','e','l',' ','h','i','n','t','\n','c','h','e','c','k',' ','c','h','e','c','k',' ','f','o','c','u','s',' ','w','h','o','l','e',' ','f','r','o','m',' ','b','y',' ','l','a','b','e','l',' ','t','e','x','t',' ','k','i','d','s','\n','l','i','s','t',' ','l','i','s','t',' ','f','r','o','m',' ','b','y',' ','l','a','b','e','l','\n','i','t','e','m',' ','i','t','e','m',' ','f','r','o','m',' ','b','y',' ','l','a','b','e','l',' ','t','e','x','t','\n','t','a','b','l','e',' ','t','a','b','l','e',' ','f','r','o','m',' ','b','y',' ','l','a','b','e','l','\n','r','o','w',' ','r','o','w','\n','c','e','l','l',' ','c','e','l','l',' ','f','r','o','m',' ','t','e','x','t','\n','t','h',' ','h','e','a','d',' ','w','h','o','l','e',' ','f','r','o','m',' ','l','a','b','e','l',' ','t','e','x','t',' ','k','i','d','s','\n','i','m','a','g','e',' ','i','m','a','g','e',' ','w','h','o','l','e',' ','f','r','o','m',' ','b','y',' ','l','a','b','e','l','\n','l','i','v','e',' ','l','i','v','e',' ','f','r','o','m',' ','b','y',' ','l','a','b','e','l','\n','m','o','d','a','l',' ','m','o','d','a','l',' ','f','r','o','m',' ','b','y',' ','l','a','b','e','l','\n']:=by with_reducible rfl
theorem Qd5:QeJ=Us Xba:=by
 unfold QeJ Xa;rw[QaM,String.toList_ofList];decide +kernel
theorem QkH{l:List Xa4}(h:UA l=true):X9 (Us l)=some l:=by
 have h':=h;unfold UA at h';rw[Xd] at h';have hlen:l.length=XZ.length:=eq_of_beq h'.1;have hlines:Uc (Us l)=some (Zu XZ l):=Mp.Qag.mpr ⟨Qck l,Qfi h'.2⟩;unfold X9;rw[hlines];show (Xq ((Zu XZ l).map Xab)).bind _=_;rw[Qj3 hlen.symm h'.2];show (if (UA l&&Us l==Us l)=true then some l else none)=_;rw[if_pos];rw[h,beq_self_eq_true];rfl
theorem Qjy:X9 QeJ=some Xba:=by
 rw[Qd5];exact QkH (by decide +kernel)
theorem QkG:QeJ.length<=4000:=by
 rw[Qd5];decide +kernel
def Qqd:Qb:=Xa "page top\n"
theorem Qkw:Uj Qqd=some UZ.page:=by decide +kernel
def Qin(C:Cs):Sp:=λvs H Q _=>QA λ(p dx:Addr)=>vs=[.ref p]/\H p=some (.ins C.Teller dx [])/\∀H' x,Zn C H' p UZ x->Kp C H H'->Q .non H'
theorem QfW:Qm ["self"] ["self"] (Qg (Ze (top 61) 0)):=Qsx
theorem Qft(T:Pg P w K mg C):OkC P w K mg base 8 "Teller" C.Teller ["self"] (Qin C):=by
 have A0:=T.apt;refine T.qd.ok QfW (λvs H Q E h=>?_) (λf cdv A outer s H vs Q E hr h=>?_)
 ·obtain⟨p,dx,rfl,_⟩:=h;rfl
 ·obtain⟨p,dx,rfl,hp,k⟩:=h;intro X;refine⟨_,(Qd (Ju (pv 0) (Qk (Qb1 T) (Qp hr) rfl (Qa (QL rfl T.zA) Qc)) rfl)
   (Qi (JF (Qk (QcO T) (Qp hr) rfl (Qa (pv 0) (Qa (Qk (QcN T) (Qp hr) rfl (Qa (QL rfl T.zB) Qc)) Qc)))))),?_⟩
  have cT:=T.qd.1;refine⟨QeJ,rfl,QkG,?_⟩;rw[QfT];rw[Qjy];intro H1 d ras s1 hd hR;refine QM rfl (s1 _ _ hp) cT T.qO (by decide) λH2 f2 e2 K2 h2 l2=>?_
  refine⟨_,rfl,Qqd,rfl,by decide +kernel,?_⟩;rw[Qg9];rw[Qkw];intro H3 pg as s3 hpg hP;refine⟨p,dx,f2,pg,as,_,rfl,s3 _ _ h2,by rw[Uo] at l2;omega,hP,by decide +kernel,λH4 f4 lh lo tk=>?_⟩;have hR3:JI C H3 d ras (Xba.map rr):=(hR.tel A0 (Zk.keep (s1 _ _ hp) K2)).mono s3;have st:=tk.st A0 hP (by decide +kernel) hR3 (by decide +kernel) (by show Xz _ _=_;rw[e2,JU]) (by have:=tk.few;rw[Uo] at l2;split at this<;>omega);have kk:Kp C H H4:=((Kp.of s1).trans ((Zk.keep (s1 _ _ hp) K2).kp (Qaf K2 h2))).trans ((Kp.of s3).trans (tk.same.kp tk.dom));exact k H4 _ st kk
def Qhz(C:Cs)(H:Hp)(a:Addr)(n:Nat × Qb):Prop:=QA λdx fs=>H a=some (.ins C.Name dx fs)/\lk fs "number"=some (.int (n.1:Int))/\lk fs "text"=some (.str (S n.2))
theorem Qhm(l:List Qb){s:Qb}(h:s ∈ l):(l.map λt=>V.str (S t))[l.idxOf s]?=some (.str (S s))/\∀(m:Nat) (z':V),m<l.idxOf s->(l.map λt=>V.str (S t))[m]?=some z'->eqV z' (.str (S s))=false:=by
 induction l with
 | nil=>simp at h
 | cons a r ih=>
  by_cases q:a=s
  ·subst q;rw[XbH];exact⟨rfl,λm z' hm=>by omega⟩
  ·have e:(a::r).idxOf s=(r.idxOf s).succ:=by rw[Xcl,show (a==s)=false from beq_eq_false_iff_ne.mpr q];rfl
   have hm:s ∈ r:=by
    rcases Xm.mp h with z | z
    ·exact absurd z.symm q
    ·exact z
   obtain⟨h1,h2⟩:=ih hm;rw[e];refine⟨by simpa using h1,λm z' hm hz=>?_⟩;cases m with
   | zero=>
    have z:V.str (S a)=z':=Xc hz;rw[<-z];exact beq_eq_false_iff_ne.mpr λe=>q (YT e)
   | succ m=>exact h2 m z' (by omega) (by simpa using hz)
structure XOk(x:TS'):Prop where
 nodup:(QN x.rs).Nodup
 by_:∀r ∈ x.rs,∀t ∈ r.by_,t ∈ QN x.rs
 hint:∀r ∈ x.rs,r.hint=[]\/r.hint ∈ QN x.rs
 acts:∀r ∈ x.rs,∀a ∈ r.acts,(Qo a).2 ∈ QN x.rs
 short:QeK x.rs
 srcs:∀r ∈ x.rl,∀s ∈ r.sources,s ∈ ZO
 srcl:∀r ∈ x.rl,r.sources.length<=5
 roles:∀r ∈ x.rl,r.role.length<=8
 idl:∀r ∈ x.rs,r.ident.length<=6
theorem Qjx{l:List Jv}(h:l.length=19){k:Qb}(hk:k ∈ QS):ZV l k ∈ l:=by
 have hi:QS.idxOf k<19:=XY.mpr hk;unfold ZV;rw[Xf,Xe (by omega)];exact Xao _
def QkP(C:Cs):Sp:=λvs H Q _=>YS λ(p dx:Addr) (n:Nat) (t:Qb)=>vs=[.ref p,.int n,.str (S t)]/\H p=some (.ins C.Name dx [])/\∀H',Zj p H H'->Qhz C H' p (n,t)->Q .non H'
theorem Qig:Qm ["self","number","text"] ["self","number","text"] (Qg (Ze (top 72) 0)):=Qsx
theorem QcI(T:Pg P w K mg C):OkC P w K mg base 1 "Name" C.Name ["self","number","text"] (QkP C):=by
 refine T.qk.ok Qig (λvs H Q E h=>?_) (λf cdv A outer s H vs Q E hr h=>?_)
 ·obtain⟨p,dx,n,t,rfl,_⟩:=h;rfl
 ·obtain⟨p,dx,n,t,rfl,hp,k⟩:=h;have cN:=T.qk.1;intro X;refine⟨_,(Qd (Ju (pv 0) (pv 1) rfl)
   (Qi (Ju (pv 0) (pv 2) rfl))),?_⟩
  refine⟨_,rfl,QM rfl hp cN T.qP (by show 0<1000;decide) λH1 f1 e1 K1 h1 l1=>?_⟩;rw[Uo] at l1;refine⟨_,rfl,QM rfl h1 cN T.qr (by omega) λH2 f2 e2 K2 h2 l2=>?_⟩;exact k H2 (K1.trans K2) ⟨dx,f2,h2,by show Xz _ _=_;rw[e2,QD (by decide +kernel),e1,JU],by show Xz _ _=_;rw[e2,JU]⟩
def QpP(C:Cs):Sp:=λvs H Q _=>JP λ(a:Addr) (n:Nat × Qb) (s:Qb)=>vs=[.ref a,.str (S s)]/\Qhz C H a n/\s ∈ ZO/\Q (.bl (decide (n.1=ZO.idxOf s+1))) H
theorem Qgs:Qm ["name","source"] ["name","source"] (Qg (top 73)):=Qsx
theorem WT(T:Pg P w K mg C):Ok P w K mg base 1 "comes_from" ["name","source"] (QpP C):=by
 refine T.jJ.ok Qgs (λvs H Q E h=>?_) (λf cdv A outer s H vs Q E hr h=>?_)
 ·obtain⟨a,n,s,rfl,_⟩:=h;rfl
 ·obtain⟨a,n,src,rfl,⟨dx,fs,h1,h2,h3⟩,hs,k⟩:=h;have cN:=T.qk.1;intro X;refine⟨_,(Qi (Ql (QR Jt (Qj (pv 0) rfl) (J6 Qbq (J4 U7 UO U8 QbL (QL rfl T.qt) (Qa (pv 1) Qc)) Qt) (Qz _)))),?_⟩;obtain⟨t1,t2⟩:=Qhm ZO hs;refine⟨_,rfl,a,C.Name,dx,fs,_,rfl,h1,cN,T.qP,h2,T.ql.ty,_,rfl,C.SOURCES,ZO.map λt=>V.str (S t),_,ZO.idxOf src,_,rfl,rfl,T.ql.sq,rfl,Ym _,t1,?_,t2,?_⟩
  ·exact beq_self_eq_true _
  refine⟨_,_,rfl,rfl,rfl,?_⟩;show Q (V.bl (decide (V.int (n.1:Int)=V.int ((ZO.idxOf src+1:Nat):Int)))) H;rw[QiM];exact k
def Qrh(C:Cs):Sp:=λvs H Q _=>JP λ(t:Addr) (x:TS') (i:Nat)=>vs=[.ref t,.int i]/\QG C H t x/\∀H' p,Qe H H'->H p=none->H' p=some (.lst ((Yo x.rs x.hs i).map λj=>V.int (j:Nat)))->Q (.ref p) H'
theorem Qh4{rs:List QF}{j:Nat}(h:j<rs.length):atI ((Jx rs).map V.int) (j:Int)=some (.int (JY rs j)):=by
 refine JN (j:=j) rfl ?_;unfold Jx;rw[Xr,Xg,XbO h];rfl
theorem YQ:Qm ["teller","place","parents","kid"] ["teller","place"] (Qg (top 78)):=Qsx
theorem Qgo(T:Pg P w K mg C):Ok P w K mg base 1 "kids_shown" ["teller","place"] (Qrh C):=by
 refine T.jO.ok YQ (λvs H Q E h=>?_) (λf cdv A outer s H vs Q E hr h=>?_)
 ·obtain⟨t,x,i,rfl,_⟩:=h;rfl
 ·obtain⟨t,x,i,rfl,hT,k⟩:=h;intro X;refine⟨_,(Qd (Qx (i:=2) YQ.nd rfl (by first|exact .inl rfl|exact .inr rfl) (Qj (Qj (pv 0) rfl) rfl))
   (Qi (Ql (JR rfl YQ.nd (QbO rfl T.qs (Qa (Qs Qw rfl T.qa Xv (Qa (pv 2) Qc)) Qc)) (own:=[("kid",3)]) (QK (N:=["teller","place","parents","kid"]) (sc:=Qg (top 78)) (by decide +kernel)) (λ_ _ _ _ _=>(QH (i:=3) YQ.nd rfl (by first|exact .inl rfl|exact .inr rfl))) (λ_ _ _ _ _=>(YM (PW.pt (QfQ (QE Jt (QV (We K) (pv 2) (pv 3) (λ_ _=>rfl)) (pv 1) (Qz _)) (QcW (Zg (Js (QV (We K) (Zr K (pv 0) rfl) (pv 3) (λ_ _=>rfl))))))))) (λ_ _ _ _ _=>(pv 3)))))),?_⟩
  have cT:=T.qd.1;have cP:=T.qb.1;have hfew:=hT.few;obtain⟨dx,fs,o1,o2,o3,o4,o5,o6⟩:=hT.obj;obtain⟨px,ps,lb,dp,lp,p1,p2,p3,p4,p5,p6,p7,p8⟩:=hT.page;refine⟨_,rfl,t,C.Teller,dx,fs,_,rfl,o1,cT,T.qc,o4,x.pg,C.Page,px,ps,_,rfl,p1,cP,T.qy,p5,?_⟩;refine gN ?_;dsimp only;refine tlc ?_;have hpl:((Jx x.rs).map V.int).length=x.rs.length:=by rw[Xb];unfold Jx;rw[Xb,Xai]
  refine⟨_,rfl,lp,_,rfl,.inl (SqL.of p8),_,rfl,by omega,by rw[hpl];omega,?_⟩;rw[hpl,Uw];refine lcF WA (by rw[QI];omega) (λj=>decide (JY x.rs j=(i:Int))&&!x.hs.getD j false) (λj=>.int (j:Nat)) (λj v H2 hj s2 rx Qy Qn q1 q2=>?_) λD H2 hD s2 hd=>?_
  ·rw[Xbd] at rx;subst rx;have o1':=s2 _ _ o1;have hjl:j<x.hs.length:=by rw[hT.hl];exact hj
   refine⟨rfl,_,rfl,_,rfl,lp,_,_,_,rfl,rfl,SqL.of (s2 _ _ p8),Qh4 hj,_,rfl,rfl,_,rfl,?_⟩;rw[show decide (V.int (JY x.rs j)=V.int (i:Int))=decide (JY x.rs j=(i:Int)) by rw[Qey];rfl];cases e:decide (JY x.rs j=(i:Int)) with
   | false=>
    refine Qv ?_;dsimp only;exact Qv (q2 (by rw[e];rfl) H2 (Qe.refl _))
   | true=>
    refine Qr ⟨_,rfl,t,C.Teller,dx,fs,_,rfl,o1',cT,T.qm,o5,_,rfl,x.lh,_,_,_,rfl,rfl,SqL.of (s2 _ _ hT.hid),QbE hjl,_,rfl,?_⟩;cases e2:x.hs.getD j false with
    | true=>exact Qv (q2 (by rw[e,e2];rfl) H2 (Qe.refl _))
    | false=>exact Qr ⟨_,rfl,q1 (by rw[e,e2];rfl) H2 (Qe.refl _)⟩
  ·exact k H2 D s2 hD hd
def Qrg(C:Cs):Sp:=λvs H Q _=>Qj0 λ(t:Addr) (x:TS') (a:Addr) (i:Nat) (l:Addr) (inn:List Qb)=>vs=[.ref t,.ref a,.ref l]/\QG C H t x/\XOk x/\i<x.rs.length/\x.as[i]?=some a/\H l=some (.lst (inn.map λt=>V.str (S t)))/\inn.length=x.rs.length/\
 Q (.str (S (QbZ x.rs inn (rAt x.rs i)))) H
theorem Qj5{inn:List Qb}{j:Nat}(h:j<inn.length):atI (inn.map λt=>V.str (S t)) (j:Int)=some (.str (S (inn.getD j []))):=JN (j:=j) rfl (by rw[Xg,Xe h,Xf,Xe h];rfl)
theorem Qgt:Qm ["teller","box","inner"] ["teller","box","inner"] (Qg (top 79)):=Qsx
theorem Qb0(T:Pg P w K mg C):Ok P w K mg base 1 "hint_given" ["teller","box","inner"] (Qrg C):=by
 refine T.jP.ok Qgt (λvs H Q E h=>?_) (λf cdv A outer s H vs Q E hr h=>?_)
 ·obtain⟨t,x,a,i,l,inn,rfl,_⟩:=h;rfl
 ·obtain⟨t,x,a,i,l,inn,rfl,hT,hX,hi,ha,hl,hln,k⟩:=h;intro X;refine⟨_,(Qi (Ql (J5 (QE Qa4 (Qj (pv 1) rfl) QB (Qz _)) (QV QJ (pv 2) (Yq (Zp hr) (Qj (Qj (pv 0) rfl) rfl) (Qj (pv 1) rfl) (λ_ _=>rfl)) (λ_ _=>rfl)) QB))),?_⟩;have cT:=T.qd.1;have cP:=T.qb.1;have cB:=T.qf.1;obtain⟨dx,fs,o1,o2,o3,o4,o5,o6⟩:=hT.obj;obtain⟨px,ps,lb,dp,lp,p1,p2,p3,p4,p5,p6,p7,p8⟩:=hT.page;obtain⟨a',ea,bx,bs,la,aa,ys,b2,b3,b4,b5,b6⟩:=p6.box i _ (QU hi);have e0:a'=a:=Xc (ea.symm.trans ha);subst e0;refine⟨_,rfl,a',C.Box,bx,bs,_,rfl,b2,cB,T.qx,b3.hint,rfl,_,rfl,?_⟩;rw[QhS];unfold QbZ at k;have hh:=hX.hint _ (Xo (QU hi));cases e:(rAt x.rs i).hint.isEmpty with
  | true=>
   rw[e] at k;refine Qv ?_;rw[Wc];exact k
  | false=>
   rw[e] at k;have hm:(rAt x.rs i).hint ∈ QN x.rs:=by
    rcases hh with q | q
    ·rw[q] at e;cases e
    ·exact q
   have hg:=ZP.k (k:=Sum.inr (S (rAt x.rs i).hint)) p7;rw[QbP hX.nodup hm] at hg;have hj:(QN x.rs).idxOf (rAt x.rs i).hint<inn.length:=by
    rw[hln];have:=XY.mpr hm;rw[Xb] at this;exact this
   exact Qr ⟨_,rfl,_,rfl,t,C.Teller,dx,fs,_,rfl,o1,cT,T.qc,o4,x.pg,C.Page,px,ps,_,rfl,p1,cP,T.qh,p4,_,rfl,a',C.Box,bx,bs,_,rfl,b2,cB,T.qx,b3.hint,dp,_,rfl,hg,l,_,_,_,rfl,rfl,SqL.of hl,Qj5 hj,k⟩
theorem QlR{m:Nat}:∀{ts:List Qb},(∀t ∈ ts,t.length+1<=m)->(ts.map XO).sum+ts.length<=ts.length * m
 | [],_=>by simp
 | t::r,h=>by
  have h1:=h t Xh;have h2:=QlR λx hx=>h x (Xn _ hx)
  rw[Xj,X1,Xw,Nat.succ_mul];omega
theorem QnC{n:Nat}{inn:List Qb}(h:Qcs n inn)(hn:n<=16)(j:Nat):(inn.getD j []).length+1<=720896:=Uf (h j) (Qj6 hn)
theorem QgS{n:Nat}{inn:List Qb}(h:Qcs n inn)(hn:n<=16){l:List Nat}(hl:l.length<=16):(l.map λj=>inn.getD j []).length<=sizeLine/\((l.map λj=>inn.getD j []).map XO).sum+(l.map λj=>inn.getD j []).length<=sizeLine:=by
 have h1:=QlR (m:=720896) (ts:=l.map λj=>inn.getD j []) λt ht=>by
  obtain⟨j,_,e⟩:=Xk.mp ht;rw[<-e];exact QnC h hn j
 rw[Xb] at h1 ⊢;rw[QI];have:l.length * 720896<=16 * 720896:=Nat.mul_le_mul_right _ hl;omega
theorem Qmn(rs:List QF)(hs:List Bool)(i:Nat):(Yo rs hs i).length<=rs.length:=by
 unfold Yo;exact Uf (U0 _ _) (by rw[Xai];exact Xy _)
theorem QnG{rs:List QF}{hs:List Bool}{i j:Nat}(h:j ∈ Yo rs hs i):j<rs.length:=by
 unfold Yo at h;exact XR.mp (XM.mp h).1
def QpS(C:Cs):Sp:=λvs H Q _=>Qj0 λ(t:Addr) (x:TS') (i:Nat) (s:Qb) (l:Addr) (inn:List Qb)=>vs=[.ref t,.int i,.str (S s),.ref l]/\QG C H t x/\XOk x/\i<x.rs.length/\H l=some (.lst (inn.map λt=>V.str (S t)))/\inn.length=x.rs.length/\Qcs x.rs.length inn/\
 ∀H',Qe H H'->Q (.str (S (JG x.rs x.hs inn i s))) H'
theorem Qap:Qm ["teller","place","source","inner","box","kid","ident"] ["teller","place","source","inner"] (Qg (top 77)):=Qsx
theorem Qjj(T:Pg P w K mg C):Ok P w K mg base 2 "given" ["teller","place","source","inner"] (QpS C):=by
 refine T.jN.ok Qap (λvs H Q E h=>?_) (λf cdv A outer s H vs Q E hr h=>?_)
 ·obtain⟨t,x,i,s,l,inn,rfl,_⟩:=h;rfl
 ·obtain⟨t,x,i,src,l,inn,rfl,hT,hX,hi,hl,hln,hle,k⟩:=h;intro X;refine⟨_,(Qd (Qx (i:=4) Qap.nd rfl (by first|exact .inl rfl|exact .inr rfl) (QV QJ (Qj (Qj (pv 0) rfl) rfl) (pv 1) (λ_ _=>rfl)))
   (Qd (Q1 (QE Jt (pv 2) QB (Qz _)) (Qi (Ql (Qj (pv 4) rfl))) QC)
   (Qd (Q1 (QE Jt (pv 2) QB (Qz _)) (Qi (Ql (Qj (pv 4) rfl))) QC)
   (Qd (Q1 (QE Jt (pv 2) QB (Qz _)) (Qi (Ql (Qk (Qa2 T) (Qp hr) rfl (Qa (JR rfl Qap.nd (Q4 (Qk (Qgo T) (Qp hr) rfl (Qa (pv 0) (Qa (pv 1) Qc)))) (own:=[("kid",5)]) (QK (N:=["teller","place","source","inner","box","kid","ident"]) (sc:=Qg (top 77)) (by decide +kernel)) (λ_ _ _ _ _=>(QH (i:=5) Qap.nd rfl (by first|exact .inl rfl|exact .inr rfl))) (λ_ _ _ _ _=>Jo) (λ_ _ _ _ _=>(QV (We K) (pv 3) (pv 5) (λ_ _=>rfl)))) Qc)))) QC)
   (Qd (Q1 (QE Jt (pv 2) QB (Qz _)) (Qi (Ql (Qk (Qa2 T) (Qp hr) rfl (Qa (JR rfl Qap.nd (Q4 (Qj (pv 4) rfl)) (own:=[("ident",6)]) (QK (N:=["teller","place","source","inner","box","kid","ident"]) (sc:=Qg (top 77)) (by decide +kernel)) (λ_ _ _ _ _=>(QH (i:=6) Qap.nd rfl (by first|exact .inl rfl|exact .inr rfl))) (λ_ _ _ _ _=>Jo) (λ_ _ _ _ _=>(QV (We K) (pv 3) (Yq (Zp hr) (Zr K (Zr K (pv 0) rfl) rfl) (pv 6) (λ_ _=>rfl)) (λ_ _=>rfl)))) Qc)))) QC)
   (Qi (Ql (Qk (Qb0 T) (Qp hr) rfl (Qa (pv 0) (Qa (pv 4) (Qa (pv 3) Qc))))))))))),?_⟩
  have cT:=T.qd.1;have cP:=T.qb.1;have cB:=T.qf.1;have hfew:=hT.few;obtain⟨dx,fs,o1,o2,o3,o4,o5,o6⟩:=hT.obj;obtain⟨px,ps,lb,dp,lp,p1,p2,p3,p4,p5,p6,p7,p8⟩:=hT.page;obtain⟨a,ea,bx,bs,la,aa,ys,b2,b3,b4,b5,b6⟩:=p6.box i _ (QU hi);have b1:atI (x.as.map V.ref) (i:Int)=some (.ref a):=JN (j:=i) rfl (by rw[Xg,ea];rfl);refine⟨_,rfl,t,C.Teller,dx,fs,_,rfl,o1,cT,T.qc,o4,x.pg,C.Page,px,ps,_,rfl,p1,cP,T.qe,p3,_,rfl,lb,_,_,_,rfl,rfl,SqL.of p6.lst,b1,?_⟩;refine gN ?_;dsimp only;unfold JG at k;refine⟨_,rfl,rfl,_,rfl,?_⟩;rw[lit (s:="label") (a:=Xa "label") (by decide +kernel)]
  by_cases c1:src=Xa "label"
  ·rw[if_pos c1] at k;rw[decide_eq_true c1];exact Qr ⟨_,rfl,a,C.Box,bx,bs,_,rfl,b2,cB,T.qA,b3.label,k H (Qe.refl H)⟩
  rw[if_neg c1] at k;rw[decide_eq_false c1];refine Qv (nX ?_);refine⟨_,rfl,rfl,_,rfl,?_⟩;rw[lit (s:="text") (a:=Xa "text") (by decide +kernel)]
  by_cases c2:src=Xa "text"
  ·rw[if_pos c2] at k;rw[decide_eq_true c2];exact Qr ⟨_,rfl,a,C.Box,bx,bs,_,rfl,b2,cB,T.qK,b3.text,k H (Qe.refl H)⟩
  rw[if_neg c2] at k;rw[decide_eq_false c2];refine Qv (nX ?_);refine⟨_,rfl,rfl,_,rfl,?_⟩;rw[lit (s:="kids") (a:=Xa "kids") (by decide +kernel)]
  by_cases c3:src=Xa "kids"
  ·rw[if_pos c3] at k;rw[decide_eq_true c3];refine Qr ?_;refine tlc ?_;refine⟨_,rfl,_,rfl,t,x,i,rfl,hT,λH1 kl s1 hkl hk1=>?_⟩;have kle:=Qmn x.rs x.hs i;refine⟨kl,rfl,⟨_,SqL.of hk1⟩,?_⟩;refine lcM (α:=Nat) (xs:=Yo x.rs x.hs i) (vf:=λj=>V.int (j:Nat)) 0 (Jw (QW (SqL.of hk1))) (by rw[QI];omega) (λj=>.str (S (inn.getD j []))) (λj H2 hj s2 Qy Qn q1=>?_) λD H2 hD s2 hd=>?_
   ·have hjl:j<inn.length:=by rw[hln];exact QnG hj
    exact⟨rfl,Qr ⟨_,rfl,_,rfl,l,_,_,_,rfl,rfl,SqL.of (s2 _ _ (s1 _ _ hl)),Qj5 hjl,q1 H2 (Qe.refl _)⟩⟩
   ·obtain⟨f1,f2⟩:=QgS hle hfew (l:=Yo x.rs x.hs i) (by omega);exact⟨D,(Yo x.rs x.hs i).map λj=>inn.getD j [],rfl,SqL.of (by rw[hd,Xr];rfl),f1,f2,λH3 s3=>k H3 ((s1.trans s2).trans s3)⟩
  rw[if_neg c3] at k;rw[decide_eq_false c3];refine Qv (nX ?_);refine⟨_,rfl,rfl,_,rfl,?_⟩;rw[lit (s:="by") (a:=Xa "by") (by decide +kernel)]
  by_cases c4:src=Xa "by"
  ·rw[if_pos c4] at k;rw[decide_eq_true c4];refine Qr ?_;refine tlc ?_;refine⟨_,rfl,a,C.Box,bx,bs,_,rfl,b2,cB,T.qB,b3.by_,la,rfl,⟨_,SqL.of b4⟩,?_⟩;have bl:=(Qal hX.short i).2.2;refine lcM (α:=Qb) (xs:=(rAt x.rs i).by_) (vf:=λc=>V.str (S c)) [] (Jw (QW (SqL.of b4))) (by rw[QI];omega) (λc=>.str (S (inn.getD ((QN x.rs).idxOf c) []))) (λc H2 hc s2 Qy Qn q1=>?_) λD H2 hD s2 hd=>?_
   ·have hm:c ∈ QN x.rs:=hX.by_ _ (Xo (QU hi)) c hc;have hg:=ZP.k (k:=Sum.inr (S c)) (s2 _ _ p7);rw[QbP hX.nodup hm] at hg;have hj:(QN x.rs).idxOf c<inn.length:=by
     rw[hln];have:=XY.mpr hm;rw[Xb] at this;exact this
    exact⟨rfl,Qr ⟨_,rfl,_,rfl,t,C.Teller,dx,fs,_,rfl,s2 _ _ o1,cT,T.qc,o4,x.pg,C.Page,px,ps,_,rfl,s2 _ _ p1,cP,T.qh,p4,_,rfl,dp,_,rfl,hg,l,_,_,_,rfl,rfl,SqL.of (s2 _ _ hl),Qj5 hj,q1 H2 (Qe.refl _)⟩⟩
   ·obtain⟨f1,f2⟩:=QgS hle hfew (l:=(rAt x.rs i).by_.map λc=>(QN x.rs).idxOf c) (by rw[Xb];omega);have em:((rAt x.rs i).by_.map λc=>(QN x.rs).idxOf c).map (λj=>inn.getD j [])=(rAt x.rs i).by_.map λc=>inn.getD ((QN x.rs).idxOf c) []:=by rw[Xr];rfl
    rw[em] at f1 f2;exact⟨D,(rAt x.rs i).by_.map λc=>inn.getD ((QN x.rs).idxOf c) [],rfl,SqL.of (by rw[hd,Xr];rfl),f1,f2,λH3 s3=>k H3 (s2.trans s3)⟩
  rw[if_neg c4] at k;rw[decide_eq_false c4];refine Qv (nX ?_);exact⟨_,rfl,_,rfl,_,rfl,t,x,a,i,l,inn,rfl,hT,hX,hi,ea,hl,hln,k H (Qe.refl H)⟩
theorem QeY{f:Qb->Qb}:∀{l:List Qb} {j:Nat} {s:Qb},l[j]?=some s->(∀m s',m<j->l[m]?=some s'->f s'=[])->f s≠[]->Z3 f l=(ZO.idxOf s+1,f s)
 | [],j,s,h,_,_=>by simp at h
 | a::r,0,s,h,_,hs=>by
  have e:a=s:=Xc h;subst e;show (if f a=[] then _ else _)=_;rw[if_neg hs]
 | a::r,j+1,s,h,hb,hs=>by
  show (if f a=[] then _ else _)=_;rw[if_pos (hb 0 a (by omega) rfl)];exact QeY (by simpa using h) (λm s' hm he=>hb (m+1) s' (by omega) (by simpa using he)) hs
theorem QeZ{f:Qb->Qb}:∀{l:List Qb},(∀m s',m<l.length->l[m]?=some s'->f s'=[])->Z3 f l=(0,[])
 | [],_=>rfl
 | a::r,h=>by
  show (if f a=[] then _ else _)=_;rw[if_pos (h 0 a (by simp) rfl)];exact QeZ λm s' hm he=>h (m+1) s' (by simpa using hm) (by simpa using he)
def Qop(K:Xt)(C:Cs):Sp:=λvs H Q _=>Qqt λ(t:Addr) (x:TS') (i:Nat) (la:Addr) (ss:List Qb) (l:Addr) (inn:List Qb)=>vs=[.ref t,.int i,.ref la,.ref l]/\QG C H t x/\XOk x/\i<x.rs.length/\SqL K H la (ss.map λt=>V.str (S t))/\(∀s ∈ ss,s ∈ ZO)/\H l=some (.lst (inn.map λt=>V.str (S t)))/\inn.length=x.rs.length/\Qcs x.rs.length inn/\
 ∀H' p,Qe H H'->H p=none->Qhz C H' p (Z3 (JG x.rs x.hs inn i) ss)->Q (.ref p) H'
theorem Wu:Qm ["teller","place","sources","inner","source","text"] ["teller","place","sources","inner"] (Qg (top 76)):=Qsx
theorem Qbp(T:Pg P w K mg C):Ok P w K mg base 3 "first_given" ["teller","place","sources","inner"] (Qop K C):=by
 refine T.jM.ok Wu (λvs H Q E h=>?_) (λf cdv A outer s H vs Q E hr h=>?_)
 ·obtain⟨t,x,i,la,ss,l,inn,rfl,_⟩:=h;rfl
 ·obtain⟨t,x,i,la,ss,l,inn,rfl,hT,hX,hi,hla,hss,hl,hln,hle,k⟩:=h;intro X;refine⟨_,(Qd (QaK PassesOwn.never rfl (Q4 (pv 2)) (QH (i:=4) Wu.nd rfl (by first|exact .inl rfl|exact .inr rfl)) (Qd (Qx (i:=5) Wu.nd rfl (by first|exact .inl rfl|exact .inr rfl) (Qk (Qjj T) (Qp hr) rfl (Qa (pv 0) (Qa (pv 1) (Qa (pv 4) (Qa (pv 3) Qc))))))
   (Qi (Q1 (QE Qa4 (pv 5) QB (Qz _)) (Qi (Ql (Qdw (QcI T) (Qp hr) rfl (Qa (J6 Qbq (J4 U7 UO U8 QbL (QL rfl T.qt) (Qa (pv 4) Qc)) Qt) (Qa (pv 5) Qc))))) QC))))
   (Qi (Ql (Qdw (QcI T) (Qp hr) rfl (Qa Qt (Qa QB Qc)))))),?_⟩
  have W:=QW hla;rw[Xb] at W;refine⟨_,rfl,la,rfl,⟨_,hla⟩,QqN W (λj σ H'=>QA λ(v4 v5:Option V)=>σ=[some (.ref t),some (.int i),some (.ref la),some (.ref l),v4,v5]/\Qe H H'/\∀m s',m<j->ss[m]?=some s'->JG x.rs x.hs inn i s'=[]) ⟨none,none,rfl,Qe.refl H,λm s' hm=>by omega⟩ (λj σ H' ⟨_,_,_,s3,_⟩=>s3) ?_ ?_⟩
  ·rintro j y σ H3 H4 hj ⟨v4,v5,rfl,s3,hb⟩ s4 hy;rw[Xg,Xe hj] at hy;have hy:V.str (S ss[j])=y:=Xc hy;have es:ss[j]?=some ss[j]:=Xe hj;have hm:ss[j] ∈ ss:=Xao hj;subst hy;generalize ss[j]=sj at es hm;have s04:=s3.trans s4;refine gN ?_;dsimp only;refine⟨_,rfl,_,rfl,_,rfl,_,rfl,t,x,i,sj,l,inn,rfl,hT.mono s04,hX,hi,s04 _ _ hl,hln,hle,λH5 s5=>?_⟩;refine gN ?_;dsimp only;refine⟨_,rfl,rfl,_,rfl,?_⟩;rw[QhS];cases e:(JG x.rs x.hs inn i sj).isEmpty with
   | true=>
    refine Qv (nX ⟨some (.str (S sj)),some (.str (S (JG x.rs x.hs inn i sj))),rfl,s04.trans s5,λm s' hm' he=>?_⟩)
    by_cases q:m=j
    ·subst q;rw[es] at he;rw[<-Xc he];exact UB.mp e
    ·exact hb m s' (by omega) he
   | false=>
    obtain⟨t1,t2⟩:=Qhm ZO (hss sj hm);refine Qr ⟨T.ql.ty,_,rfl,C.SOURCES,ZO.map λt=>V.str (S t),_,ZO.idxOf sj,_,rfl,rfl,T.ql.sq,rfl,Ym _,t1,beq_self_eq_true _,t2,⟨_,_,rfl,rfl,?_⟩⟩;refine⟨_,rfl,?_⟩;intro z dz nz ndz ne;refine⟨z,dz,ZO.idxOf sj+1,JG x.rs x.hs inn i sj,?_,Qh,λH6 K6 hN=>⟨rfl,?_⟩⟩
    ·rw[Xci];rfl
    ·have hf:=QeY (f:=JG x.rs x.hs inn i) es hb (λq=>by rw[q] at e;cases e);refine k H6 z ((s04.trans s5).trans (Qe.made nz ndz K6)) (Qe.free (s04.trans s5) nz) ?_;rw[hf];exact hN
  ·rintro σ H3 ⟨v4,v5,rfl,s3,hb⟩;intro z dz nz ndz ne;refine⟨z,dz,0,[],?_,Qh,λH6 K6 hN=>⟨rfl,?_⟩⟩
   ·rw[Wc];rfl
   ·refine k H6 z (s3.trans (Qe.made nz ndz K6)) (Qe.free s3 nz) ?_;rw[QeZ hb];exact hN
def QpU(C:Cs):Sp:=λvs H Q _=>QA λ(t:Addr) (x:TS')=>vs=[.ref t]/\QG C H t x/\XOk x/\∀H' p,Qe H H'->H p=none->H' p=some (.lst ((inP x.rs x.rl x.hs).map λt=>V.str (S t)))->Q (.ref p) H'
theorem QoA{x:TS'}(hX:XOk x)(hl:x.rl.length=19)(hk:∀r ∈ x.rs,r.kind ∈ QS){i:Nat}(hi:i<x.rs.length):(∀s ∈ Qaq x.rs x.rl i,s ∈ ZO)/\(Qaq x.rs x.rl i).length<=5:=by
 have hm:=Qjx hl (hk _ (Xo (QU hi)));exact⟨hX.srcs _ hm,hX.srcl _ hm⟩
theorem Zw:Qm ["teller","inner","place","sources","source"] ["teller"] (Qg (top 75)):=Qsx
theorem Wj(T:Pg P w K mg C):Ok P w K mg base 4 "inner_names" ["teller"] (QpU C):=by
 refine T.jL.ok Zw (λvs H Q E h=>?_) (λf cdv A outer s H vs Q E hr h=>?_)
 ·obtain⟨t,x,rfl,_⟩:=h;rfl
 ·obtain⟨t,x,rfl,hT,hX,k⟩:=h;intro X;refine⟨_,(Qd (Qx (i:=1) Zw.nd rfl (by first|exact .inl rfl|exact .inr rfl) (J6 Qq1 (Q0 (Qa QB Qc)) (Qs Qw rfl T.qa Xv (Qa (Qj (Qj (pv 0) rfl) rfl) Qc))))
   (Qd (QaK PassesOwn.never rfl (QmH rfl T.qs (Qa (J6 QfG (Qs Qw rfl T.qa Xv (Qa (pv 1) Qc)) Qt) (Qa (Qhc QdF Qt) (Qa (Qhc QdF Qt) Qc)))) (QH (i:=2) Zw.nd rfl (by first|exact .inl rfl|exact .inr rfl)) (Qd (QcR (i:=3) rfl Zw.nd rfl rfl (by rfl) (Q4 (Qj (Qk (YD T) (Qp hr) rfl (Qa (pv 0) (Qa (pv 2) Qc))) rfl)) (own:=[("source",4)]) (QK (N:=["teller","inner","place","sources","source"]) (sc:=Qg (top 75)) (by decide +kernel)) (λ_ _ _ _ _=>(QH (i:=4) Zw.nd rfl (by first|exact .inl rfl|exact .inr rfl))) (λ_ _ _ _ _=>(YM (QE (QaH K) (pv 4) (QL rfl T.zC) rfl))) (λ_ _ _ _ _=>(pv 4)))
   (Qi (Qic (Qj (Qk (Qbp T) (Qp hr) rfl (Qa (pv 0) (Qa (pv 2) (Qa (pv 3) (Qa (pv 1) Qc))))) rfl) (Qh8 (pv 1) (pv 2) QcZ)))))
   (Qi (Ql (pv 1))))),?_⟩
  have cT:=T.qd.1;have cP:=T.qb.1;have cR:=T.qi.1;have cN:=T.qk.1;have hfew:=hT.few;obtain⟨dx,fs,o1,o2,o3,o4,o5,o6⟩:=hT.obj;obtain⟨px,ps,lb,dp,lp,p1,p2,p3,p4,p5,p6,p7,p8⟩:=hT.page;refine⟨XJ _,λl0 hl0=>?_⟩;have sa:=Qe.new (o:=.lst [V.str (Str.ofString "")]) hl0;have hbl:(x.as.map V.ref).length=x.rs.length:=by rw[Xb,p6.len]
  refine⟨_,rfl,t,C.Teller,dx,fs,_,rfl,sa _ _ o1,cT,T.qc,o4,x.pg,C.Page,px,ps,_,rfl,sa _ _ p1,cP,T.qe,p3,lb,_,rfl,.inl (SqL.of (sa _ _ p6.lst)),?_⟩;refine⟨l0,_,_,rfl,rfl,Qh,by rw[hbl];omega,by rw[hbl];omega,by rw[hbl,Uw,QI];show 1 * _<=_;omega,λl hl=>?_⟩;refine gN ?_;dsimp only;have s1:Qe H (upd (upd H l0 (.lst [V.str (Str.ofString "")])) l (.lst (UC ((((x.as.map V.ref).length:Nat):Int)).toNat [V.str (Str.ofString "")]).flatten)):=sa.trans (Qe.new hl);have hlH:H l=none:=Qe.free sa hl;have hd1:(upd (upd H l0 (.lst [V.str (Str.ofString "")])) l (.lst (UC ((((x.as.map V.ref).length:Nat):Int)).toNat [V.str (Str.ofString "")]).flatten)) l=some (.lst ((JO x.rs x.hs (Qaq x.rs x.rl) 0).map λt=>V.str (S t))):=by
   rw[Qh,hbl,Uw,List.flatten_replicate_singleton];unfold JO;rw[List.map_replicate,Wc]
  generalize upd (upd H l0 (.lst [V.str (Str.ofString "")])) l (.lst (UC ((((x.as.map V.ref).length:Nat):Int)).toNat [V.str (Str.ofString "")]).flatten)=H1 at s1 hd1 ⊢;have hil:∀m,((JO x.rs x.hs (Qaq x.rs x.rl) m).map λt=>V.str (S t)).length=x.rs.length:=λm=>by rw[Xb,Yz]
  have hg:RgC ((((JO x.rs x.hs (Qaq x.rs x.rl) 0).map λt=>V.str (S t)).length:Int)-1) (-1) (-1) x.rs.length:=by
   rw[hil];have:=RgC.neg (i:=(x.rs.length:Int)-1) (j:=-1) (by omega) (by omega) (by omega) (by omega);rw[show ((x.rs.length:Int)-1 - -1).toNat=x.rs.length by omega] at this;exact this
  refine⟨_,rfl,l,_,rfl,.inl (SqL.of hd1),_,_,rfl,rfl,_,rfl,_,rfl,_,_,_,_,rfl,hg,?_⟩;refine QrU (n:=x.rs.length) (Rx:=λm v=>m<x.rs.length->v=.int ((x.rs.length-1-m:Nat):Int)) (λm σ H'=>QA λ(v2 v3:Option V)=>σ=[some (.ref t),some (.ref l),v2,v3,none]/\Qe H H'/\H' l=some (.lst ((JO x.rs x.hs (Qaq x.rs x.rl) m).map λt=>V.str (S t)))) ⟨none,none,rfl,s1,hd1⟩ (λ_ _ _ _ hi=>hi) (λm σ H' v H'' _ hi y=>⟨y.1,λhm=>?_⟩) (λ_ _ _=>Xy _) ?_ ?_
  ·rw[y.2,hil];congr 1;omega
  ·rintro m v σ H2 hm ⟨v2,v3,rfl,s2,hl2⟩ rx;have rx:=rx hm;subst rx;have hi:x.rs.length-1-m<x.rs.length:=by omega
   have hst:JO x.rs x.hs (Qaq x.rs x.rl) (m+1)=(JO x.rs x.hs (Qaq x.rs x.rl) m).set (x.rs.length-1-m) (Z3 (JG x.rs x.hs (JO x.rs x.hs (Qaq x.rs x.rl) m) (x.rs.length-1-m)) ((Qaq x.rs x.rl (x.rs.length-1-m)).filter ZL.contains)).2:=rfl;generalize x.rs.length-1-m=i at hi hst;refine gN ?_;dsimp only;refine tlc ?_;refine⟨_,rfl,_,rfl,t,x,i,rfl,hT.mono s2,hi,λr hr'=>?_⟩;obtain⟨rx,rf,rl,r1,r2,r3⟩:=hr';refine⟨r,C.Rule,rx,rf,_,rfl,r1,cR,T.qN,r2.sources,rl,rfl,⟨_,SqL.of r3⟩,?_⟩;obtain⟨si1,si2⟩:=QoA hX hT.rlen hT.kinds hi;refine lcX (α:=Qb) (xs:=Qaq x.rs x.rl i) (vf:=λc=>V.str (S c)) [] (Jw (QW (SqL.of r3))) (by rw[QI];omega) ZL.contains (λc=>.str (S c)) (λc H3 hc s3 Qy Qn q1 q2=>?_) λD H3 hD s3 hd3=>?_
   ·refine⟨rfl,_,rfl,C.INNER_SOURCES,ZL.map λt=>V.str (S t),rfl,.inr T.zD.sq,rfl,Ym _,_,rfl,?_⟩;rw[show (if false=true then !inV (V.str (S c)) (ZL.map λt=>V.str (S t)) else inV (V.str (S c)) (ZL.map λt=>V.str (S t)))=ZL.contains c from Qa1 c ZL];cases e:ZL.contains c with
    | true=>exact Qr ⟨_,rfl,q1 e H3 (Qe.refl _)⟩
    | false=>exact Qv (q2 e H3 (Qe.refl _))
   refine gN ?_;dsimp only;have s23:=s2.trans s3;refine⟨_,rfl,_,rfl,_,rfl,_,rfl,t,x,i,D,(Qaq x.rs x.rl i).filter ZL.contains,l,JO x.rs x.hs (Qaq x.rs x.rl) m,rfl,hT.mono s23,hX,hi,SqL.of hd3,λc hc=>si1 c (XM.mp hc).1,s3 _ _ hl2,Yz _ _ _ _,QbJ hX.short m (by omega),λH4 p s4 hp hN=>?_⟩;obtain⟨nx,nf,n1,n2,n3⟩:=hN;have hl4:=s4 _ _ (s3 _ _ hl2);refine⟨p,C.Name,nx,nf,_,rfl,n1,cN,T.qr,n3,_,rfl,_,rfl,l,_,_,_,rfl,rfl,hl4,QhQ (by rw[hil];exact hi),some (.int (i:Int)),some (.ref D),rfl,Qe.updL (s23.trans s4) hlH,?_⟩;rw[Qh,hst,Xay]
  ·rintro σ H2 ⟨v2,v3,rfl,s2,hl2⟩;exact⟨_,rfl,k H2 l s2 hlH hl2⟩
theorem QqW{s:String}{a:Qb}{v:V}(h:Str.ofString s=S a):[v,V.str (Str.ofString s)]=[v,V.str (S a)]:=by rw[h]
theorem QhL(x:TS'):(inP x.rs x.rl x.hs).length=x.rs.length:=Yz _ _ _ _
theorem Qke{x:TS'}(hX:XOk x):Qcs x.rs.length (inP x.rs x.rl x.hs):=QbJ hX.short _ (Xy _)
def Qrj(C:Cs):Sp:=λvs H Q _=>JP λ(t:Addr) (x:TS') (i:Nat)=>vs=[.ref t,.int i]/\QG C H t x/\XOk x/\i<x.rs.length/\∀H' p,Qe H H'->H p=none->Qhz C H' p (nmP x.rs x.rl x.hs i)->Q (.ref p) H'
theorem QfZ:Qm ["teller","place","inner"] ["teller","place"] (Qg (top 74)):=Qsx
theorem Z5(T:Pg P w K mg C):Ok P w K mg base 5 "name_of" ["teller","place"] (Qrj C):=by
 refine T.jK.ok QfZ (λvs H Q E h=>?_) (λf cdv A outer s H vs Q E hr h=>?_)
 ·obtain⟨t,x,i,rfl,_⟩:=h;rfl
 ·obtain⟨t,x,i,rfl,hT,hX,hi,k⟩:=h;have cR:=T.qi.1;intro X;refine⟨_,(Qd (Qx (i:=2) QfZ.nd rfl (by first|exact .inl rfl|exact .inr rfl) (Qk (Wj T) (Qp hr) rfl (Qa (pv 0) Qc)))
   (Qi (Ql (Qk (Qbp T) (Qp hr) rfl (Qa (pv 0) (Qa (pv 1) (Qa (Qj (Qk (YD T) (Qp hr) rfl (Qa (pv 0) (Qa (pv 1) Qc))) rfl) (Qa (pv 2) Qc)))))))),?_⟩
  refine⟨_,rfl,t,x,rfl,hT,hX,λH1 l s1 hl hl1=>?_⟩;refine gN ?_;dsimp only;refine⟨_,rfl,_,rfl,_,rfl,_,rfl,t,x,i,rfl,hT.mono s1,hi,λr hr'=>?_⟩;obtain⟨rx,rf,rl,r1,r2,r3⟩:=hr';refine⟨r,C.Rule,rx,rf,_,rfl,r1,cR,T.qN,r2.sources,_,rfl,t,x,i,rl,Qaq x.rs x.rl i,l,inP x.rs x.rl x.hs,rfl,hT.mono s1,hX,hi,SqL.of r3,(QoA hX hT.rlen hT.kinds hi).1,hl1,QhL x,Qke hX,λH2 p s2 hp hN=>?_⟩;exact k H2 p (s1.trans s2) (Qe.free s1 hp) hN
def Qcm(C:Cs)(f:TS'->Nat->Qb):Sp:=λvs H Q _=>JP λ(t:Addr) (x:TS') (i:Nat)=>vs=[.ref t,.int i]/\QG C H t x/\XOk x/\i<x.rs.length/\∀H',Qe H H'->Q (.str (S (f x i))) H'
theorem Qii:Qm ["teller","place"] ["teller","place"] (Qg (top 87)):=Qsx
theorem QcK(T:Pg P w K mg C):Ok P w K mg base 6 "hint_said" ["teller","place"] (Qcm C λx i=>Q7 x.rs x.rl x.hs i):=by
 refine T.jU.ok Qii (λvs H Q E h=>?_) (λf cdv A outer s H vs Q E hr h=>?_)
 ·obtain⟨t,x,i,rfl,_⟩:=h;rfl
 ·obtain⟨t,x,i,rfl,hT,hX,hi,k⟩:=h;have cT:=T.qd.1;have cP:=T.qb.1;intro X;refine⟨_,(Qd (Q1 (Js (Qk (WT T) (Qp hr) rfl (Qa (Qk (Z5 T) (Qp hr) rfl (Qa (pv 0) (Qa (pv 1) Qc))) (Qa QB Qc)))) (Qi (Ql QB)) QC)
   (Qi (Ql (Qk (Qb0 T) (Qp hr) rfl (Qa (pv 0) (Qa (QV QJ (Qj (Qj (pv 0) rfl) rfl) (pv 1) (λ_ _=>rfl)) (Qa (Qk (Wj T) (Qp hr) rfl (Qa (pv 0) Qc)) Qc))))))),?_⟩
  refine⟨_,rfl,_,rfl,t,x,i,rfl,hT,hX,hi,λH1 p s1 hp hN=>?_⟩;refine⟨p,_,Xa "hint",QqW (by decide +kernel),hN,by decide +kernel,_,rfl,?_⟩;rw[show ZO.idxOf (Xa "hint")+1=5 by decide +kernel];replace k:∀H',Qe H H'->Q (.str (S (Q7 x.rs x.rl x.hs i))) H':=k;unfold Q7 at k
  by_cases e:(nmP x.rs x.rl x.hs i).1=5
  ·rw[if_pos e] at k;rw[decide_eq_true e];refine Qr ?_;rw[Wc];exact k H1 s1
  ·rw[if_neg e] at k;rw[decide_eq_false e];refine Qv (nX ?_);have hT1:=hT.mono s1;obtain⟨dx,fs,o1,o2,o3,o4,o5,o6⟩:=hT1.obj;obtain⟨px,ps,lb,dp,lp,p1,p2,p3,p4,p5,p6,p7,p8⟩:=hT1.page;obtain⟨a,ea,_⟩:=p6.box i _ (QU hi);have b1:atI (x.as.map V.ref) (i:Int)=some (.ref a):=JN (j:=i) rfl (by rw[Xg,ea];rfl);refine⟨_,rfl,_,rfl,t,C.Teller,dx,fs,_,rfl,o1,cT,T.qc,o4,x.pg,C.Page,px,ps,_,rfl,p1,cP,T.qe,p3,_,rfl,lb,_,_,_,rfl,rfl,SqL.of p6.lst,b1,_,rfl,t,x,rfl,hT1,hX,λH2 l s2 hl hl2=>?_⟩;exact⟨t,x,a,i,l,_,rfl,hT1.mono s2,hX,hi,ea,hl2,QhL x,k H2 (s1.trans s2)⟩
theorem Qes:Qm ["teller","place"] ["teller","place"] (Qg (top 88)):=Qsx
theorem Qa3(T:Pg P w K mg C):Ok P w K mg base 6 "text_besides" ["teller","place"] (Qcm C λx i=>Jm x.rs x.rl x.hs i):=by
 refine T.jV.ok Qes (λvs H Q E h=>?_) (λf cdv A outer s H vs Q E hr h=>?_)
 ·obtain⟨t,x,i,rfl,_⟩:=h;rfl
 ·obtain⟨t,x,i,rfl,hT,hX,hi,k⟩:=h;have cT:=T.qd.1;have cP:=T.qb.1;have cB:=T.qf.1;have cR:=T.qi.1;intro X;refine⟨_,(Qd (Q1 (PW.pt (Qa5 (Js (Qj (Qk (YD T) (Qp hr) rfl (Qa (pv 0) (Qa (pv 1) Qc))) rfl)) (WX (Js (Qk (WT T) (Qp hr) rfl (Qa (Qk (Z5 T) (Qp hr) rfl (Qa (pv 0) (Qa (pv 1) Qc))) (Qa QB Qc))))))) (Qi (Ql QB)) QC)
   (Qi (Ql (Qj (QV QJ (Qj (Qj (pv 0) rfl) rfl) (pv 1) (λ_ _=>rfl)) rfl)))),?_⟩
  refine⟨_,rfl,_,rfl,t,x,i,rfl,hT,hi,λr hr'=>?_⟩;obtain⟨rx,rf,rl,r1,r2,r3⟩:=hr';refine⟨r,C.Rule,rx,rf,_,rfl,r1,cR,T.qE,r2.whole,_,rfl,?_⟩;replace k:∀H',Qe H H'->Q (.str (S (Jm x.rs x.rl x.hs i))) H':=k;unfold Jm at k;cases e:(ZV x.rl (rAt x.rs i).kind).whole with
  | true=>
   rw[if_pos (.inl e)] at k;refine Qr ?_;dsimp only;refine Qr ?_;rw[Wc];exact k H (Qe.refl H)
  | false=>
   refine Qv ⟨_,rfl,_,rfl,t,x,i,rfl,hT,hX,hi,λH1 p s1 hp hN=>?_⟩;refine⟨p,_,Xa "text",QqW (by decide +kernel),hN,by decide +kernel,_,rfl,?_⟩;rw[show ZO.idxOf (Xa "text")+1=3 by decide +kernel]
   by_cases e3:(nmP x.rs x.rl x.hs i).1=3
   ·rw[if_pos (.inr e3)] at k;rw[decide_eq_true e3];refine Qr ?_;rw[Wc];exact k H1 s1
   ·rw[if_neg (by
     rintro (q | q)
     ·rw[e] at q;cases q
     ·exact e3 q)] at k
    rw[decide_eq_false e3];refine Qv (nX ?_);have hT1:=hT.mono s1;obtain⟨dx,fs,o1,o2,o3,o4,o5,o6⟩:=hT1.obj;obtain⟨px,ps,lb,dp,lp,p1,p2,p3,p4,p5,p6,p7,p8⟩:=hT1.page;obtain⟨a,ea,bx,bs,la,aa,ys,b2,b3,_⟩:=p6.box i _ (QU hi);have b1:atI (x.as.map V.ref) (i:Int)=some (.ref a):=JN (j:=i) rfl (by rw[Xg,ea];rfl);exact⟨_,rfl,t,C.Teller,dx,fs,_,rfl,o1,cT,T.qc,o4,x.pg,C.Page,px,ps,_,rfl,p1,cP,T.qe,p3,_,rfl,lb,_,_,_,rfl,rfl,SqL.of p6.lst,b1,a,C.Box,bx,bs,_,rfl,b2,cB,T.qK,b3.text,k H1 s1⟩
def QpN(C:Cs):Sp:=λvs H Q _=>JP λ(t:Addr) (x:TS') (i:Nat)=>vs=[.ref t,.int i]/\QG C H t x/\i<x.rs.length/\∀H',Qe H H'->Q (.bl (WO x.rs x.rl x.hs i)) H'
theorem Zx:Qm ["teller","place","other"] ["teller","place"] (Qg (top 89)):=Qsx
theorem YW(T:Pg P w K mg C):Ok P w K mg base 3 "is_said_by_itself" ["teller","place"] (QpN C):=by
 refine T.jW.ok Zx (λvs H Q E h=>?_) (λf cdv A outer s H vs Q E hr h=>?_)
 ·obtain⟨t,x,i,rfl,_⟩:=h;rfl
 ·obtain⟨t,x,i,rfl,hT,hi,k⟩:=h;have cT:=T.qd.1;have cR:=T.qi.1;have hfew:=hT.few;intro X;refine⟨_,(Qd (Q1 (Zg (Js (Qk (WV T) (Qp hr) rfl (Qa (pv 0) (Qa (pv 1) Qc))))) (Qi (Ql Qd2)) QC)
   (Qi (Ql (QfM (Qs (Qnm rfl) rfl T.q3 boot_any (Qa (JR rfl Zx.nd (Q4 (Qk (YB T) (Qp hr) rfl (Qa (Qj (pv 0) rfl) (Qa (pv 1) Qc)))) (own:=[("other",2)]) (QK (N:=["teller","place","other"]) (sc:=Qg (top 89)) (by decide +kernel)) (λ_ _ _ _ _=>(QH (i:=2) Zx.nd rfl (by first|exact .inl rfl|exact .inr rfl))) (λ_ _ _ _ _=>Jo) (λ_ _ _ _ _=>(Zr K (Qk (YD T) (Qp hr) rfl (Qa (pv 0) (Qa (pv 2) Qc))) rfl))) Qc)))))),?_⟩
  refine⟨_,rfl,_,rfl,t,x,i,rfl,hT,hi,λH1 s1=>⟨_,rfl,?_⟩⟩;unfold WO at k;cases e:Qir x.rs x.hs i with
  | false=>
   rw[e] at k;exact Qr (k H1 s1)
  | true=>
   rw[e] at k;refine Qv (nX ?_);have hT1:=hT.mono s1;obtain⟨dx,fs,o1,o2,o3,o4,o5,o6⟩:=hT1.obj;dsimp only;refine tlc ?_;refine⟨_,rfl,t,C.Teller,dx,fs,_,rfl,o1,cT,T.qc,o4,_,rfl,x.pg,x.as,x.rs,i,rfl,hT1.page,hi,by omega,λH2 l1 s2 hl1 hd1=>?_⟩;refine⟨l1,rfl,⟨_,SqL.of hd1⟩,?_⟩;have hal:=Qb8 x.rs (i+1) i (Ug _);refine lcM (α:=Nat) (xs:=QQ x.rs i) (vf:=λj=>V.int (j:Nat)) 0 (Jw (QW (SqL.of hd1))) (by rw[QI];omega) (λj=>.bl (ZV x.rl (rAt x.rs j).kind).whole) (λj H5 hj s5 Qy Qn q1=>?_) λD H5 hD s5 hd5=>?_
   ·have hjl:j<x.rs.length:=by
     have:=Qdd x.rs (i+1) i j (Ug _) hj;omega
    refine⟨rfl,Qr ⟨_,rfl,_,rfl,t,x,j,rfl,hT1.mono (s2.trans s5),hjl,λr hr'=>?_⟩⟩;obtain⟨rx,rf,rl,r1,r2,r3⟩:=hr';exact⟨r,C.Rule,rx,rf,_,rfl,r1,cR,T.qE,r2.whole,q1 H5 (Qe.refl _)⟩
   ·refine⟨D,(QQ x.rs i).map λj=>(ZV x.rl (rAt x.rs j).kind).whole,rfl,SqL.of (by rw[hd5,Xr];rfl),?_⟩;have e:((QQ x.rs i).all λj=>!(ZV x.rl (rAt x.rs j).kind).whole)=!((QQ x.rs i).map λj=>(ZV x.rl (rAt x.rs j).kind).whole).any id:=by
     rw[List.any_map];generalize QQ x.rs i=l
     induction l with
     | nil=>rfl
     | cons a l ih=>
      rw[X4,XbJ,ih];show _=!((ZV x.rl (rAt x.rs a).kind).whole||_);rw[Bool.not_or]
    have:=k H5 ((s1.trans s2).trans s5);rw[e] at this;exact⟨_,rfl,this⟩
def Qsh(C:Cs):Sp:=λvs H Q _=>QA λ(t:Addr) (x:TS')=>vs=[.ref t]/\QG C H t x/\∀H' p,Qe H H'->H p=none->H' p=some (.lst ((JW x.rs x.rl x.hs).map λj=>V.int (j:Nat)))->Q (.ref p) H'
theorem YI:Qm ["teller","place"] ["teller"] (Qg (top 90)):=Qsx
theorem YC(T:Pg P w K mg C):Ok P w K mg base 4 "places_in_row" ["teller"] (Qsh C):=by
 refine T.jX.ok YI (λvs H Q E h=>?_) (λf cdv A outer s H vs Q E hr h=>?_)
 ·obtain⟨t,x,rfl,_⟩:=h;rfl
 ·obtain⟨t,x,rfl,hT,k⟩:=h;have cT:=T.qd.1;have cP:=T.qb.1;have hfew:=hT.few;intro X;refine⟨_,(Qi (Ql (JR rfl YI.nd (QbO rfl T.qs (Qa (Qs Qw rfl T.qa Xv (Qa (Qj (Qj (pv 0) rfl) rfl) Qc)) Qc)) (own:=[("place",1)]) (QK (N:=["teller","place"]) (sc:=Qg (top 90)) (by decide +kernel)) (λ_ _ _ _ _=>(QH (i:=1) YI.nd rfl (by first|exact .inl rfl|exact .inr rfl))) (λ_ _ _ _ _=>(YM (Js (Qk (YW T) (Qp hr) rfl (Qa (pv 0) (Qa (pv 1) Qc)))))) (λ_ _ _ _ _=>(pv 1))))),?_⟩;obtain⟨dx,fs,o1,o2,o3,o4,o5,o6⟩:=hT.obj;obtain⟨px,ps,lb,dp,lp,p1,p2,p3,p4,p5,p6,p7,p8⟩:=hT.page;have hbl:(x.as.map V.ref).length=x.rs.length:=by rw[Xb,p6.len]
  refine tlc ?_;refine⟨_,rfl,t,C.Teller,dx,fs,_,rfl,o1,cT,T.qc,o4,x.pg,C.Page,px,ps,_,rfl,p1,cP,T.qe,p3,lb,_,rfl,.inl (SqL.of p6.lst),_,rfl,by omega,by rw[hbl];omega,?_⟩;rw[hbl,Uw];refine lcF WA (by rw[QI];omega) (λj=>WO x.rs x.rl x.hs j) (λj=>.int (j:Nat)) (λj v H2 hj s2 rx Qy Qn q1 q2=>?_) λD H2 hD s2 hd=>?_
  ·rw[Xbd] at rx;subst rx;refine⟨rfl,_,rfl,_,rfl,t,x,j,rfl,hT.mono s2,hj,λH3 s3=>⟨_,rfl,?_⟩⟩;cases e:WO x.rs x.rl x.hs j with
   | true=>exact Qr ⟨_,rfl,q1 e H3 s3⟩
   | false=>exact Qv (q2 e H3 s3)
  ·exact k H2 D s2 hD hd
abbrev Zs(l:List Qb):List V:=l.map λt=>V.str (S t)
theorem Qhp(a b:List Qb):Zs a++Zs b=Zs (a++b):=XL.symm
theorem Qom(W:List Qb){s:String}{a:Qb}(h:Str.ofString s=S a):some (HO.lst (Zs W++[V.str (Str.ofString s)]))=some (HO.lst (Zs (W++[a]))):=by
 rw[h];exact congrArg (λz=>some (HO.lst z)) (Qhp W [a])
def HLK:List (Key × V):=[(Sum.inr (S (Xa "h1")),.int (1)),(Sum.inr (S (Xa "h2")),.int (2)),(Sum.inr (S (Xa "h3")),.int (3))]
theorem Qg1(k:Qb):(Zt k=0/\Jn HLK (Sum.inr (S k))=none)\/∃n:Nat,1<=n/\n<=3/\Zt k=n/\Jn HLK (Sum.inr (S k))=some (.int (n:Int))/\(Str.ofString (toString ((n:Int))))=S (Xbl n):=by
 have inj:∀{a:Qb},a≠k->(Sum.inr (S a):Key)≠Sum.inr (S k):=λh q=>h (YT (Sum.inr.inj q))
 unfold Zt HLK
 by_cases h1:k=Xa "h1"
 ·rw[if_pos h1];exact .inr ⟨1,by decide,by decide,rfl,by rw[h1];exact Jf rfl,by decide +kernel⟩
 rw[if_neg h1]
 by_cases h2:k=Xa "h2"
 ·rw[if_pos h2];refine .inr ⟨2,by decide,by decide,rfl,?_,by decide +kernel⟩;rw[QY (inj (Ne.symm h1)),h2];exact Jf rfl
 rw[if_neg h2]
 by_cases h3:k=Xa "h3"
 ·rw[if_pos h3];refine .inr ⟨3,by decide,by decide,rfl,?_,by decide +kernel⟩;rw[QY (inj (Ne.symm h1)),QY (inj (Ne.symm h2)),h3];exact Jf rfl
 rw[if_neg h3];refine .inl ⟨rfl,?_⟩;rw[QY (inj (Ne.symm h1)),QY (inj (Ne.symm h2)),QY (inj (Ne.symm h3))];rfl
def tot(l:List Qb):Nat:=(l.map XO).sum+l.length
theorem QaV(a b:List Qb):tot (a++b)=tot a+tot b:=by
 unfold tot;rw[XL,Xcm,Xi];omega
theorem Qiq(t:Qb):tot [t]=t.length+1:=by
 unfold tot;simp
theorem QdE(a:List Qb)(t:Qb):tot (JX a t)<=tot a+(t.length+3):=by
 unfold JX
 split
 ·exact XC _
 ·rw[QaV,Qiq];have:(Xa6 t).length=t.length+2:=by unfold Xa6;simp
  omega
theorem QdB(a:List Qb)(t:Qb):(JX a t).length<=a.length+1:=by
 unfold JX
 split
 ·exact XC _
 ·rw[Xi];exact Xy _
theorem QaE{x:TS'}(hX:XOk x)(hn:x.rs.length<=16)(i:Nat):(Q7 x.rs x.rl x.hs i).length<=720896:=by
 unfold Q7 QbZ
 split
 ·exact XC _
 split
 ·exact XC _
 ·have:=QnC (Qke hX) hn ((QN x.rs).idxOf (rAt x.rs i).hint);omega
theorem Qbc{x:TS'}(hX:XOk x)(i:Nat):(Jm x.rs x.rl x.hs i).length<=20:=by
 unfold Jm
 split
 ·exact XC _
 ·exact (Qal hX.short i).2.1
theorem Qhf{x:TS'}(hX:XOk x)(hn:x.rs.length<=16)(hl:x.rl.length=19)(hk:∀r ∈ x.rs,r.kind ∈ QS){i:Nat}(hi:i<x.rs.length):tot (J8 x.rs x.rl x.hs x.os i)<=4000000:=by
 unfold J8;rw[QaV,QaV,QaV,QaV,QaV,QaV,Qiq];have h1:=hX.roles _ (Qjx hl (hk _ (Xo (QU hi))));have h2:tot (if Zt (rAt x.rs i).kind=0 then [] else [Xbl (Zt (rAt x.rs i).kind)])<=2:=by
  split
  ·exact XC _
  ·rw[Qiq];exact Xy _
 have h3:=QdE [] (nmP x.rs x.rl x.hs i).2;have h3':=Qfo (l:=x.rl) (hs:=x.hs) hX.short hn hi;have h4:tot (if (rAt x.rs i).off=true then [Xa "off"] else [])<=4:=by
  split
  ·decide +kernel
  ·exact XC _
 have h5:tot (if (rAt x.rs i).kind=Xa "check" then [if x.os.getD i false=true then Xa "on" else Xa "not on"] else [])<=7:=by
  split
  ·split<;>decide +kernel
  ·exact XC _
 have h6:=QdE [Xa "hint"] (Q7 x.rs x.rl x.hs i);have h6':=QaE hX hn i;have h7:=QdE [Xa "text"] (Jm x.rs x.rl x.hs i);have h7':=Qbc hX i;have e0:tot []=0:=rfl;have e1:tot [Xa "hint"]=5:=by decide +kernel
 have e2:tot [Xa "text"]=5:=by decide +kernel
 rw[e0] at h3;rw[e1] at h6;rw[e2] at h7;omega
theorem Qhe{x:TS'}(hX:XOk x)(hn:x.rs.length<=16)(hl:x.rl.length=19)(hk:∀r ∈ x.rs,r.kind ∈ QS){i:Nat}(hi:i<x.rs.length):(XV (J8 x.rs x.rl x.hs x.os i)).length<=4000000:=by
 have htot:=Qhf hX hn hl hk hi;have:=(Qcn (J8 x.rs x.rl x.hs x.os i)).1;have e2:((J8 x.rs x.rl x.hs x.os i).map λt=>t.length+1).sum=tot (J8 x.rs x.rl x.hs x.os i):=by
  unfold tot;generalize J8 x.rs x.rl x.hs x.os i=l
  induction l with
  | nil=>rfl
  | cons a r ih=>
   rw[Xj,X1,ih,Xj,X1,Xw];omega
 omega
def Qrn:Sp:=λvs H Q _=>JP λ(a:Addr) (Jg:List Qb) (t:Qb)=>vs=[.ref a,.str (S t)]/\H a=some (.lst (Zs Jg))/\Jg.length<=1000/\t.length<=4000000/\∀H' p,Qe H H'->H p=none->H' p=some (.lst (Zs (JX Jg t)))->Q (.ref p) H'
theorem Qa6:Qm ["ahead","text"] ["ahead","text"] (Qg (top 92)):=Qsx
theorem Zo(T:Pg P w K mg C):Ok P w K mg base 2 "words_if_something" ["ahead","text"] Qrn:=by
 refine T.jZ.ok Qa6 (λvs H Q E h=>?_) (λf cdv A outer s H vs Q E hr h=>?_)
 ·obtain⟨a,Jg,t,rfl,_⟩:=h;rfl
 ·obtain⟨a,Jg,t,rfl,ha,hal,htl,k⟩:=h;intro X;refine⟨_,(Qi (Ql (J5 (QE Qa4 (pv 1) QB (Qz _)) (J6 Qch (pv 0) (Q0 (Qa (Qk (QhY T) (Qp hr) rfl (Qa (pv 1) Qc)) Qc))) (Q0 Qc)))),?_⟩;refine⟨_,rfl,rfl,_,rfl,?_⟩;rw[QhS];unfold JX at k;cases e:t.isEmpty with
  | true=>
   rw[if_pos (UB.mp e)] at k;exact Qv ⟨XC _,λp hp=>k _ p (Qe.new hp) hp Qh⟩
  | false=>
   rw[if_neg (λq=>by rw[q] at e;cases e)] at k;refine Qr ⟨_,rfl,_,rfl,t,rfl,by rw[QI];omega,XJ _,λq hq=>⟨a,q,_,_,rfl,rfl,Qe.new hq _ _ ha,Qh,?_,λp hp=>k _ p ((Qe.new hq).trans (Qe.new hp)) (Qe.free (Qe.new hq) hp) ?_⟩⟩
   ·rw[Xb,QI];show Jg.length+1<=_;omega
   ·rw[Qh];exact congrArg (λz=>some (HO.lst z)) (Qhp Jg [Xa6 t])
theorem Qcl:Qm ["teller","place","box","words"] ["teller","place"] (Qg (top 91)):=Qsx
theorem Qcf(T:Pg P w K mg C):Ok P w K mg base 7 "said_of" ["teller","place"] (Qcm C λx i=>XV (J8 x.rs x.rl x.hs x.os i)):=by
 refine T.jY.ok Qcl (λvs H Q E h=>?_) (λf cdv A outer s H vs Q E hr h=>?_)
 ·obtain⟨t,x,i,rfl,_⟩:=h;rfl
 ·obtain⟨t,x,i,rfl,hT,hX,hi,k⟩:=h;have cT:=T.qd.1;have cP:=T.qb.1;have cB:=T.qf.1;have cR:=T.qi.1;have cN:=T.qk.1;have hfew:=hT.few;have htot:=Qhf hX hfew hT.rlen hT.kinds hi;have hnl:=Qfo (l:=x.rl) (hs:=x.hs) hX.short hfew hi;have hhl:=QaE hX hfew i;have htl:=Qbc hX i;intro X;refine⟨_,(Qd (Qx (i:=2) Qcl.nd rfl (by first|exact .inl rfl|exact .inr rfl) (QV QJ (Qj (Qj (pv 0) rfl) rfl) (pv 1) (λ_ _=>rfl)))
   (Qd (Qx (i:=3) Qcl.nd rfl (by first|exact .inl rfl|exact .inr rfl) (Q0 (Qa (Qj (Qk (YD T) (Qp hr) rfl (Qa (pv 0) (Qa (pv 1) Qc))) rfl) Qc)))
   (Qd (Q1 (Z7 (QeC T.qI (Qj (pv 2) rfl) (QL rfl T.qH)) (by rfl)) (Qi (JF (J4 XD X7 X8 ZD (pv 3) (Qa (Qaj QhB rfl T.zW boot_str (Qa (Qbr T.qI (QL rfl T.qH) (Qj (pv 2) rfl) (λ_ _=>rfl)) Qc)) Qc)))) QC)
   (Qd (JF (J4 XD Uk Ul YA (pv 3) (Qa (Qk (Zo T) (Qp hr) rfl (Qa (Q0 Qc) (Qa (Qj (Qk (Z5 T) (Qp hr) rfl (Qa (pv 0) (Qa (pv 1) Qc))) rfl) Qc))) Qc)))
   (Qd (Q1 (Js (Qj (pv 2) rfl)) (Qi (JF (J4 XD X7 X8 ZD (pv 3) (Qa QB Qc)))) QC)
   (Qd (Q1 (QE Jt (Qj (pv 2) rfl) QB (Qz _)) (Qi (JF (J4 XD X7 X8 ZD (pv 3) (Qa (J5 (Js (QV QJ (Qj (pv 0) rfl) (pv 1) (λ_ _=>rfl))) QB QB) Qc)))) QC)
   (Qd (JF (J4 XD Uk Ul YA (pv 3) (Qa (Qk (Zo T) (Qp hr) rfl (Qa (Q0 (Qa QB Qc)) (Qa (Qk (QcK T) (Qp hr) rfl (Qa (pv 0) (Qa (pv 1) Qc))) Qc))) Qc)))
   (Qd (JF (J4 XD Uk Ul YA (pv 3) (Qa (Qk (Zo T) (Qp hr) rfl (Qa (Q0 (Qa QB Qc)) (Qa (Qk (Qa3 T) (Qp hr) rfl (Qa (pv 0) (Qa (pv 1) Qc))) Qc))) Qc)))
   (Qi (Ql (Qh6 QB (pv 3)))))))))))),?_⟩
  obtain⟨dx,fs,o1,o2,o3,o4,o5,o6⟩:=hT.obj;obtain⟨px,ps,lb,dp,lp,p1,p2,p3,p4,p5,p6,p7,p8⟩:=hT.page;obtain⟨a,ea,bx,bs,la,aa,ys,b2,b3,b4,b5,b6⟩:=p6.box i _ (QU hi);have b1:atI (x.as.map V.ref) (i:Int)=some (.ref a):=JN (j:=i) rfl (by rw[Xg,ea];rfl);have hj:i<x.os.length:=by rw[hT.ol];exact hi
  refine⟨_,rfl,t,C.Teller,dx,fs,_,rfl,o1,cT,T.qc,o4,x.pg,C.Page,px,ps,_,rfl,p1,cP,T.qe,p3,_,rfl,lb,_,_,_,rfl,rfl,SqL.of p6.lst,b1,?_⟩;refine gN ?_;dsimp only;refine⟨_,rfl,_,rfl,t,x,i,rfl,hT,hi,λr hr'=>?_⟩;obtain⟨rx,rf,rl,r1,r2,r3⟩:=hr';refine⟨r,C.Rule,rx,rf,_,rfl,r1,cR,T.qM,r2.role,XJ _,λwl hwl=>?_⟩;refine gN ?_;dsimp only;replace k:∀H',Qe H H'->Q (.str (S (XV (J8 x.rs x.rl x.hs x.os i)))) H':=k;unfold J8 at k htot;generalize hR:(ZV x.rl (rAt x.rs i).kind).role=role at k htot ⊢;generalize hA:(if Zt (rAt x.rs i).kind=0 then [] else [Xbl (Zt (rAt x.rs i).kind)])=A1 at k htot;refine QbA (fun σ' H'=>σ'=[some (.ref t),some (.int i),some (.ref a),some (.ref wl)]/\Qe H H'/\H' wl=some (.lst (Zs ([role]++A1)))) ?_ ?_;rotate_left
  ·intro nx' hnx;refine⟨_,rfl,a,C.Box,bx,bs,_,rfl,Qe.new hwl _ _ b2,cB,T.qg,b3.kind,Sum.inr (S (rAt x.rs i).kind),rfl,_,rfl,?_⟩;rcases Qg1 (rAt x.rs i).kind with ⟨l0,lv⟩ | ⟨n,n1,n3,ln,lv,ls⟩
   ·rw[if_pos l0] at hA;subst hA;rw[show Jn [(Sum.inr (S (Xa "h1")),V.int (1)),(Sum.inr (S (Xa "h2")),V.int (2)),(Sum.inr (S (Xa "h3")),V.int (3))] (Sum.inr (S (rAt x.rs i).kind))=none from lv];exact Qv (nX (hnx _ _ ⟨rfl,Qe.new hwl,Qh⟩))
   ·rw[if_neg (by omega),ln] at hA;subst hA;rw[show Jn [(Sum.inr (S (Xa "h1")),V.int (1)),(Sum.inr (S (Xa "h2")),V.int (2)),(Sum.inr (S (Xa "h3")),V.int (3))] (Sum.inr (S (rAt x.rs i).kind))=some (.int (n:Int)) from lv];refine Qr ⟨_,rfl,.inl ⟨rfl,_,SqL.of Qh⟩,_,rfl,a,C.Box,bx,bs,_,rfl,Qe.new hwl _ _ b2,cB,T.qg,b3.kind,_,_,rfl,lv,(n:Int),rfl,?_,wl,_,_,rfl,rfl,Qh,by show 1<sizeLine;decide,hnx _ _ ⟨rfl,Qe.updL (Qe.new hwl) hwl,?_⟩⟩
    ·have:n=1\/n=2\/n=3:=by omega
     rcases this with q | q | q<;>subst q<;>decide +kernel
    ·rw[Qh,show (toString ((n:Int)):Str)=S (Xbl n) from ls];rfl
  rintro σ1 H1 ⟨rfl,s1,hw1⟩;have la:A1.length<=1:=by
   rw[<-hA]
   split
   ·exact XC _
   ·exact Xy _
  refine⟨_,rfl,.inl ⟨rfl,_,SqL.of hw1⟩,XC _,λq2 hq2=>?_⟩;have s12:=Qe.new (o:=.lst []) hq2;refine⟨_,rfl,_,rfl,t,x,i,rfl,hT.mono (s1.trans s12),hX,hi,λH2 p s2 hp hN=>?_⟩;obtain⟨nx,nf,n1,n2,n3⟩:=hN;refine⟨p,C.Name,nx,nf,_,rfl,n1,cN,T.qr,n3,q2,[],(nmP x.rs x.rl x.hs i).2,rfl,s2 _ _ Qh,by decide,by omega,λH3 pl s3 hpl hd3=>?_⟩;have s13:=(s12.trans s2).trans s3;have lb2:=QdB [] (nmP x.rs x.rl x.hs i).2;rw[Uo] at lb2;refine⟨wl,pl,_,_,rfl,rfl,s13 _ _ hw1,hd3,by rw[Xb,Xb,Xi,QI];simp only[XI];omega,?_⟩;rw[<-XL];have s4:Qe H (upd H3 wl (.lst (Zs (([role]++A1)++JX [] (nmP x.rs x.rl x.hs i).2)))):=Qe.updL (s1.trans s13) hwl;have hw4:(upd H3 wl (.lst (Zs (([role]++A1)++JX [] (nmP x.rs x.rl x.hs i).2)))) wl=some (.lst (Zs (([role]++A1)++JX [] (nmP x.rs x.rl x.hs i).2))):=Qh;generalize upd H3 wl (.lst (Zs (([role]++A1)++JX [] (nmP x.rs x.rl x.hs i).2)))=H4 at s4 hw4 ⊢;generalize JX [] (nmP x.rs x.rl x.hs i).2=A2 at hw4 k htot lb2;generalize hA3:(if (rAt x.rs i).off=true then [Xa "off"] else [])=A3 at k htot;have la3:A3.length<=1:=by rw[<-hA3];split<;>decide
  have l4:(([role]++A1)++A2).length<=10:=by simp only[Xi,XI];omega
  generalize hW4:([role]++A1)++A2=W4 at hw4 l4;dsimp only;refine QbA (fun σ' H'=>σ'=[some (.ref t),some (.int i),some (.ref a),some (.ref wl)]/\Qe H H'/\H' wl=some (.lst (Zs (W4++A3)))) ?_ ?_;rotate_left
  ·intro nx' hnx;refine⟨_,rfl,a,C.Box,bx,bs,_,rfl,s4 _ _ b2,cB,T.qC,b3.off,_,rfl,?_⟩;cases e:(rAt x.rs i).off with
   | false=>
    rw[e,if_neg (by decide)] at hA3;subst hA3;exact Qv (nX (hnx _ _ ⟨rfl,s4,by rw[XG];exact hw4⟩))
   | true=>
    rw[e,if_pos rfl] at hA3;subst hA3;refine Qr ⟨_,rfl,.inl ⟨rfl,_,SqL.of hw4⟩,wl,_,_,rfl,rfl,hw4,by rw[Xb,QI];omega,hnx _ _ ⟨rfl,Qe.updL s4 hwl,?_⟩⟩;rw[Qh];exact Qom W4 (by decide +kernel)
  rintro σ5 H5 ⟨rfl,s5,hw5⟩;have l5:(W4++A3).length<=12:=by rw[Xi];omega
  rw[show [role]++(A1++(A2++(A3++((if (rAt x.rs i).kind=Xa "check" then [if x.os.getD i false=true then Xa "on" else Xa "not on"] else [])++(JX [Xa "hint"] (Q7 x.rs x.rl x.hs i)++JX [Xa "text"] (Jm x.rs x.rl x.hs i))))))=(((([role]++A1)++A2)++A3)++((if (rAt x.rs i).kind=Xa "check" then [if x.os.getD i false=true then Xa "on" else Xa "not on"] else [])++(JX [Xa "hint"] (Q7 x.rs x.rl x.hs i)++JX [Xa "text"] (Jm x.rs x.rl x.hs i)))) by simp only[XH],hW4] at k htot;generalize W4++A3=W5 at hw5 l5 k htot;generalize hA6:(if (rAt x.rs i).kind=Xa "check" then [if x.os.getD i false=true then Xa "on" else Xa "not on"] else [])=A6 at k htot;have la6:A6.length<=1:=by rw[<-hA6];split<;>simp
  refine QbA (fun σ' H'=>σ'=[some (.ref t),some (.int i),some (.ref a),some (.ref wl)]/\Qe H H'/\H' wl=some (.lst (Zs (W5++A6)))) ?_ ?_;rotate_left
  ·intro nx' hnx;refine⟨_,rfl,a,C.Box,bx,bs,_,rfl,s5 _ _ b2,cB,T.qg,b3.kind,rfl,_,rfl,?_⟩;rw[lit (s:="check") (a:=Xa "check") (by decide +kernel)]
   by_cases e:(rAt x.rs i).kind=Xa "check"
   ·rw[if_pos e] at hA6;subst hA6;rw[decide_eq_true e];refine Qr ⟨_,rfl,.inl ⟨rfl,_,SqL.of hw5⟩,_,rfl,t,C.Teller,dx,fs,_,rfl,s5 _ _ o1,cT,T.qq,o6,_,rfl,x.lo,_,_,_,rfl,rfl,SqL.of (s5 _ _ hT.on),QbE hj,_,rfl,?_⟩;cases e2:x.os.getD i false with
    | true=>
     refine Qr ⟨wl,_,_,rfl,rfl,hw5,by rw[Xb,QI];omega,hnx _ _ ⟨rfl,Qe.updL s5 hwl,?_⟩⟩;rw[Qh,if_pos e2];exact Qom W5 (by decide +kernel)
    | false=>
     refine Qv ⟨wl,_,_,rfl,rfl,hw5,by rw[Xb,QI];omega,hnx _ _ ⟨rfl,Qe.updL s5 hwl,?_⟩⟩;rw[Qh,if_neg (by rw[e2];decide)];exact Qom W5 (by decide +kernel)
   ·rw[if_neg e] at hA6;subst hA6;rw[decide_eq_false e];exact Qv (nX (hnx _ _ ⟨rfl,s5,by rw[XG];exact hw5⟩))
  rintro σ6 H6 ⟨rfl,s6,hw6⟩;have l6:(W5++A6).length<=13:=by rw[Xi];omega
  rw[<-XH] at k htot;generalize W5++A6=W6 at hw6 l6 k htot;refine⟨_,rfl,.inl ⟨rfl,_,SqL.of hw6⟩,XJ _,λq7 hq7=>?_⟩;have s67:=Qe.new (o:=.lst [V.str (Str.ofString "hint")]) hq7;refine⟨_,rfl,_,rfl,t,x,i,rfl,hT.mono (s6.trans s67),hX,hi,λH7 s7=>?_⟩;have hq7':H7 q7=some (.lst (Zs [Xa "hint"])):=by
   rw[s7 _ _ Qh,show Str.ofString "hint"=S (Xa "hint") by decide +kernel];rfl
  refine⟨q7,[Xa "hint"],Q7 x.rs x.rl x.hs i,rfl,hq7',by decide,by omega,λH8 pl s8 hpl hd8=>?_⟩;have s68:=(s67.trans s7).trans s8;have lb8:=QdB [Xa "hint"] (Q7 x.rs x.rl x.hs i);rw[XI] at lb8;refine⟨wl,pl,_,_,rfl,rfl,s68 _ _ hw6,hd8,by rw[Xb,Xb,QI];omega,?_⟩;rw[<-XL];have s9:Qe H (upd H8 wl (.lst (Zs (W6++JX [Xa "hint"] (Q7 x.rs x.rl x.hs i))))):=Qe.updL (s6.trans s68) hwl;have hw9:(upd H8 wl (.lst (Zs (W6++JX [Xa "hint"] (Q7 x.rs x.rl x.hs i))))) wl=some (.lst (Zs (W6++JX [Xa "hint"] (Q7 x.rs x.rl x.hs i)))):=Qh;generalize upd H8 wl (.lst (Zs (W6++JX [Xa "hint"] (Q7 x.rs x.rl x.hs i))))=H9 at s9 hw9 ⊢;generalize JX [Xa "hint"] (Q7 x.rs x.rl x.hs i)=A9 at hw9 lb8 k htot;have l9:(W6++A9).length<=15:=by rw[Xi];omega
  rw[<-XH] at k htot;generalize W6++A9=W9 at hw9 l9 k htot;refine⟨_,rfl,.inl ⟨rfl,_,SqL.of hw9⟩,XJ _,λq10 hq10=>?_⟩;have s910:=Qe.new (o:=.lst [V.str (Str.ofString "text")]) hq10;refine⟨_,rfl,_,rfl,t,x,i,rfl,hT.mono (s9.trans s910),hX,hi,λH10 s10=>?_⟩;have hq10':H10 q10=some (.lst (Zs [Xa "text"])):=by
   rw[s10 _ _ Qh,show Str.ofString "text"=S (Xa "text") by decide +kernel];rfl
  refine⟨q10,[Xa "text"],Jm x.rs x.rl x.hs i,rfl,hq10',by decide,by omega,λH11 pl s11 hpl hd11=>?_⟩;have s911:=(s910.trans s10).trans s11;have lb11:=QdB [Xa "text"] (Jm x.rs x.rl x.hs i);rw[XI] at lb11;refine⟨wl,pl,_,_,rfl,rfl,s911 _ _ hw9,hd11,by rw[Xb,Xb,QI];omega,?_⟩;rw[<-XL];have s12':Qe H (upd H11 wl (.lst (Zs (W9++JX [Xa "text"] (Jm x.rs x.rl x.hs i))))):=Qe.updL (s9.trans s911) hwl;have hw12:(upd H11 wl (.lst (Zs (W9++JX [Xa "text"] (Jm x.rs x.rl x.hs i))))) wl=some (.lst (Zs (W9++JX [Xa "text"] (Jm x.rs x.rl x.hs i)))):=Qh;generalize upd H11 wl (.lst (Zs (W9++JX [Xa "text"] (Jm x.rs x.rl x.hs i))))=H12 at s12' hw12 ⊢;generalize W9++JX [Xa "text"] (Jm x.rs x.rl x.hs i)=W at hw12 k htot;refine⟨⟨_,rfl⟩,_,rfl,_,wl,W.map S,rfl,rfl,.inl (SqL.of (by rw[hw12];exact congrArg (λz=>some (HO.lst z)) (QbS W))),?_,?_⟩
  ·have e1:(W.map S).map (·.length)=W.map XO:=by
    rw[Xr];exact XF λx _=>Ja x
   rw[e1,Xb,show (Str.ofString " ").length=1 by decide +kernel];unfold tot at htot;omega
  ·rw[show Str.ofString " "=S [32] by decide +kernel,Qkg];exact k H12 s12'
def Qdl(l:List XaJ)(s:XaJ):Nat:=if l.contains s then 1 else 0
theorem QiP:∀l:List XaJ,Xu l=true->l.length<=Qdl l .by_+Qdl l .label+Qdl l .text+Qdl l .kids+Qdl l .hint
 | [],_=>by simp[Qdl]
 | a::r,h=>by
  unfold Xu at h;rw[Xd] at h;have ih:=QiP r h.2;have h1:r.contains a=false:=by
   have:=h.1;cases e:r.contains a with
   | false=>rfl
   | true=>rw[e] at this;cases this
  have e:∀s,Qdl (a::r) s=if s=a then 1 else Qdl r s:=by
   intro s;unfold Qdl;rw[Xac]
   by_cases q:s=a
   ·subst q;simp
   ·rw[if_neg q,show (s==a)=false from beq_eq_false_iff_ne.mpr q];rfl
  have z:Qdl r a=0:=by unfold Qdl;rw[h1];rfl
  rw[e,e,e,e,e,Xw];cases a<;>simp<;>omega
theorem Ql8(l:List XaJ)(h:Xu l=true):l.length<=5:=by
 have:=QiP l h;have b:∀s,Qdl l s<=1:=λs=>by unfold Qdl;split<;>decide
 have:=b .by_;have:=b .label;have:=b .text;have:=b .kids;have:=b .hint;omega
theorem Qoe{v:Xa4}(h:Xcx v=true):v.role.length<=8:=by
 unfold Xcx at h;rw[Xd,Xd] at h;exact of_decide_eq_true h.2.1
theorem Zn.ok{C:Cs}{H:Hp}{t:Addr}{s:Xb0}{x:TS'}(h:Zn C H t s x):XOk x:=by
 obtain⟨pk,ok,nm,_⟩:=JK h.si.page;have hr:=h.si.rules;unfold UA at hr;rw[Xd] at hr;have ids:QN x.rs=U4 s.page:=by rw[h.rs,Qca]
 refine⟨by rw[ids];exact pk.nodup,?_,?_,?_,by rw[h.rs];exact Qoj ok,?_,?_,?_,?_⟩
 ·intro r hr t ht;rw[h.rs] at hr;obtain⟨b,hb,rfl⟩:=Xk.mp hr;rw[ids];exact (nm b hb).1 t ht
 ·intro r hr;rw[h.rs] at hr;obtain⟨b,hb,rfl⟩:=Xk.mp hr;rw[ids];show b.hint.getD 0 []=[]\/b.hint.getD 0 [] ∈ U4 s.page;have:=(nm b hb).2.1;cases e:b.hint with
  | nil=>exact .inl rfl
  | cons y l=>
   rw[e] at this;exact .inr (this y Xh)
 ·intro r hr a ha;rw[h.rs] at hr;obtain⟨b,hb,rfl⟩:=Xk.mp hr;obtain⟨c,hc,rfl⟩:=Xk.mp ha;rw[ids,Qaa];exact (nm b hb).2.2 c hc
 ·intro r hr' z hz;rw[h.rl] at hr';obtain⟨v,hv,rfl⟩:=Xk.mp hr';obtain⟨c,hc,rfl⟩:=Xk.mp hz;cases c<;>decide +kernel
 ·intro r hr';rw[h.rl] at hr';obtain⟨v,hv,rfl⟩:=Xk.mp hr';show (v.sources.map _).length<=5;rw[Xb];exact Ql8 _ (Qan (Xl.mp hr.2 v hv)).2.1
 ·intro r hr';rw[h.rl] at hr';obtain⟨v,hv,rfl⟩:=Xk.mp hr';exact Qoe (Xl.mp hr.2 v hv)
 ·intro r hr;rw[h.rs] at hr;obtain⟨b,hb,rfl⟩:=Xk.mp hr;have:=(ok b hb).id;unfold XX at this;rw[Xd,Xd] at this;exact of_decide_eq_true this.2.1
def Jh(C:Cs)(H:Hp)(rd a:Addr)(p:Nat):Prop:=QA λdx fs=>H rd=some (.ins C.Reader dx fs)/\fs.length<100/\lk fs "numbers"=some (.ref a)/\lk fs "at"=some (.int (p:Int))
theorem Jh.mono{C:Cs}{H H':Hp}{rd a:Addr}{p:Nat}(h:Jh C H rd a p)(s:Qe H H'):Jh C H' rd a p:=by
 obtain⟨dx,fs,h1,h2⟩:=h;exact⟨dx,fs,s _ _ h1,h2⟩
theorem QcF{K:Xt}{H H':Hp}{rd a Cq dx:Addr}{fs:List (Str × V)}{xs:List V}(hr:H rd=some (.ins Cq dx fs))(k:Zj rd H H')(h:SqL K H a xs):SqL K H' a xs:=by
 rcases h with (h | ⟨o,h⟩) | h
 ·exact .inl (.inl (k _ _ h (Q8 h hr λq=>nomatch q)))
 ·exact .inl (.inr ⟨o,k _ _ h (Q8 h hr λq=>nomatch q)⟩)
 ·exact .inr h
def Qim(C:Cs):Sp:=λvs H Q _=>JP λ(p dx a:Addr)=>vs=[.ref p,.ref a]/\H p=some (.ins C.Reader dx [])/\∀H',Zj p H H'->Jh C H' p a 0->Q .non H'
theorem QfV:Qm ["self","numbers"] ["self","numbers"] (Qg (Ze (top 82) 0)):=Qsx
theorem Qfs(T:Pg P w K mg C):OkC P w K mg base 1 "Reader" C.Reader ["self","numbers"] (Qim C):=by
 refine T.qz.ok QfV (λvs H Q E h=>?_) (λf cdv A outer s H vs Q E hr h=>?_)
 ·obtain⟨p,dx,a,rfl,_⟩:=h;rfl
 ·obtain⟨p,dx,a,rfl,hp,k⟩:=h;have cN:=T.qz.1;intro X;refine⟨_,(Qd (Ju (pv 0) (pv 1) rfl)
   (Qi (Ju (pv 0) Qt rfl))),?_⟩
  refine⟨_,rfl,QM rfl hp cN T.qF (by show 0<1000;decide) λH1 f1 e1 K1 h1 l1=>?_⟩;rw[Uo] at l1;refine QM rfl h1 cN T.qn (by omega) λH2 f2 e2 K2 h2 l2=>?_
  exact k H2 (K1.trans K2) ⟨dx,f2,h2,by omega,by show Xz _ _=_;rw[e2,QD (by decide +kernel),e1,JU],by show Xz _ _=_;rw[e2,JU];rfl⟩
def QpO(K:Xt)(C:Cs):Sp:=λvs H Q _=>YS λ(rd a:Addr) (p:Nat) (l:List Int)=>vs=[.ref rd]/\Jh C H rd a p/\SqL K H a (l.map V.int)/\Q (.bl (decide (l.length<=p))) H
theorem Qik:Qm ["reader"] ["reader"] (Qg (top 83)):=Qsx
theorem QhZ(T:Pg P w K mg C):Ok P w K mg base 1 "is_at_end" ["reader"] (QpO K C):=by
 refine T.jR.ok Qik (λvs H Q E h=>?_) (λf cdv A outer s H vs Q E hr h=>?_)
 ·obtain⟨rd,a,p,l,rfl,_⟩:=h;rfl
 ·obtain⟨rd,a,p,l,rfl,⟨dx,fs,h1,h2,h3,h4⟩,hs,k⟩:=h;have cN:=T.qz.1;intro X;refine⟨_,(Qi (Ql (QR Qg7 (Qj (pv 0) rfl) (Qs Qw rfl T.qa Xv (Qa (Qj (pv 0) rfl) Qc)) (Qz _)))),?_⟩;refine⟨_,rfl,rd,C.Reader,dx,fs,_,rfl,h1,cN,T.qn,h4,_,rfl,rd,C.Reader,dx,fs,_,rfl,h1,cN,T.qF,h3,a,_,rfl,.inl hs,_,_,rfl,rfl,?_⟩;dsimp only;rw[Xb,show decide ((l.length:Int)<=(p:Int))=decide (l.length<=p) by by_cases q:l.length<=p;{ rw[decide_eq_true q,decide_eq_true (by omega)] };{ rw[decide_eq_false q,decide_eq_false (by omega)] }];exact k
def QmV(K:Xt)(C:Cs):Sp:=λvs H Q _=>QbT λ(rd a:Addr) (p:Nat) (l:List Int) (z:Int)=>vs=[.ref rd]/\Jh C H rd a p/\SqL K H a (l.map V.int)/\l[p]?=some z/\∀H',Zj rd H H'->Jh C H' rd a (p+1)->Q (.int z) H'
theorem Qby:Qm ["reader","number"] ["reader"] (Qg (top 84)):=Qsx
theorem Wk(T:Pg P w K mg C):Ok P w K mg base 1 "take_number" ["reader"] (QmV K C):=by
 refine T.jS.ok Qby (λvs H Q E h=>?_) (λf cdv A outer s H vs Q E hr h=>?_)
 ·obtain⟨rd,a,p,l,z,rfl,_⟩:=h;rfl
 ·obtain⟨rd,a,p,l,z,rfl,⟨dx,fs,h1,h2,h3,h4⟩,hs,hz,k⟩:=h;have cN:=T.qz.1;intro X;refine⟨_,(Qd (Qx (i:=1) Qby.nd rfl (by first|exact .inl rfl|exact .inr rfl) (QV QJ (Qj (pv 0) rfl) (Qj (pv 0) rfl) (λ_ _=>rfl)))
   (Qd (QmJ (pv 0) Qt QqO)
   (Qi (Ql (pv 1))))),?_⟩
  refine⟨_,rfl,rd,C.Reader,dx,fs,_,rfl,h1,cN,T.qF,h3,_,rfl,rd,C.Reader,dx,fs,_,rfl,h1,cN,T.qn,h4,a,_,_,_,rfl,rfl,hs,JN (j:=p) (v:=.int z) rfl (by rw[Xg,hz];rfl),?_⟩;refine gN ?_;dsimp only;refine⟨_,rfl,rd,C.Reader,dx,fs,_,rfl,h1,cN,T.qn,h4,_,_,rfl,rfl,dx,fs,h1,by omega,_,rfl,?_⟩;refine k _ ((Zj.refl rd H).upd) ⟨dx,_,Qh,?_,?_,?_⟩
  ·rw[QcU h4];exact h2
  ·show Xz _ _=_;rw[QD (by decide +kernel)];exact h3
  ·show Xz _ _=_;rw[JU];rfl
def QkV(K:Xt)(C:Cs):Sp:=λvs H Q _=>Qqt λ(rd a:Addr) (p:Nat) (l:List Int) (bs:Qb) (l1 l2:List Int)=>vs=[.ref rd]/\Jh C H rd a p/\SqL K H a (l.map V.int)/\l=l1++(JQ bs++l2)/\p=l1.length/\bs.length<=4000/\∀H',Zj rd H H'->Jh C H' rd a (p+(JQ bs).length)->Q (.str (S (bs.map Ji))) H'
theorem QoZ(l1 m l2:List V){lo hi:Int}(h1:lo=(l1.length:Int))(h2:hi=((l1.length+m.length:Nat):Int)):Qdg (l1++(m++l2)) (some lo) (some hi)=m:=by
 unfold Qdg;rw[h1,h2,HT.YN,HT.YN];have e:(l1++(m++l2)).length=l1.length+(m.length+l2.length):=by simp
 rw[e,UG (by omega),UG (by omega),Nat.add_sub_cancel_left,List.drop_left,Xcr]
theorem QaQ:Qm ["reader","count","start"] ["reader"] (Qg (top 85)):=Qsx
theorem QaG(T:Pg P w K mg C):Ok P w K mg base 2 "take_text" ["reader"] (QkV K C):=by
 refine T.jT.ok QaQ (λvs H Q E h=>?_) (λf cdv A outer s H vs Q E hr h=>?_)
 ·obtain⟨rd,a,p,l,bs,l1,l2,rfl,_⟩:=h;rfl
 ·obtain⟨rd,a,p,l,bs,l1,l2,rfl,hR,hs,hl,hp,hb,k⟩:=h;have cN:=T.qz.1;have hz:l[p]?=some (bs.length:Int):=by
   rw[hl,hp,Uu (Xy _),Xaz];rfl
  intro X;refine⟨_,(Qd (Qx (i:=1) QaQ.nd rfl (by first|exact .inl rfl|exact .inr rfl) (Qk (Wk T) (Qp hr) rfl (Qa (pv 0) Qc)))
   (Qd (Qx (i:=2) QaQ.nd rfl (by first|exact .inl rfl|exact .inr rfl) (Qj (pv 0) rfl))
   (Qd (Ju (pv 0) (J6 Qbq (pv 2) (pv 1)) rfl)
   (Qi (Ql (Qk (Qku T) (Qp hr) rfl (Qa (JV WM (Qj (pv 0) rfl) (JE (pv 2)) (JE (Qj (pv 0) rfl))) Qc))))))),?_⟩
  refine⟨_,rfl,rd,a,p,l,_,rfl,hR,hs,hz,λH1 K1 hR1=>?_⟩;obtain⟨dx0,fs0,z1,_⟩:=hR;have hs1:=QcF z1 K1 hs;obtain⟨dx,fs,h1,h2,h3,h4⟩:=hR1;refine gN ?_;dsimp only;refine⟨_,rfl,rd,C.Reader,dx,fs,_,rfl,h1,cN,T.qn,h4,?_⟩;refine gN ?_;dsimp only;refine⟨_,rfl,_,rfl,_,_,rfl,rfl,QM rfl h1 cN T.qn (by omega) λH2 f2 e2 K2 h5 l5=>?_⟩;have hs2:=QcF h1 K2 hs1;have g3:lk f2 "numbers"=some (.ref a):=by show Xz _ _=_;rw[e2,QD (by decide +kernel)];exact h3
  have g4:lk f2 "at"=some (.int (((p+1:Nat):Int)+(bs.length:Int))):=by show Xz _ _=_;rw[e2,JU]
  refine⟨_,rfl,rd,C.Reader,dx,f2,_,rfl,h5,cN,T.qF,g3,_,rfl,_,rfl,_,rfl,rd,C.Reader,dx,f2,_,rfl,h5,cN,T.qn,g4,_,rfl,a,_,rfl,hs2,λq hq=>?_⟩;have e:l.map V.int=((l1++[(bs.length:Int)]).map V.int)++((bs.map λb=>V.int b.toNat)++l2.map V.int):=by
   rw[hl];unfold JQ;simp
  have ec:Qdg (l.map V.int) (some ((p+1:Nat):Int)) (some (((p+1:Nat):Int)+(bs.length:Int)))=bs.map λb=>V.int b.toNat:=by
   rw[e];refine QoZ _ _ _ ?_ ?_
   ·simp[hp]
   ·simp[hp]
  refine⟨q,bs,rfl,SqL.of (by rw[Qh,ec]),by omega,λH3 s3=>?_⟩;have s2:=Qe.new (o:=.lst (Qdg (l.map V.int) (some ((p+1:Nat):Int)) (some (((p+1:Nat):Int)+(bs.length:Int))))) hq;refine k H3 ((K1.trans K2).same (s2.trans s3)) ⟨dx,f2,(s2.trans s3) _ _ h5,?_,g3,?_⟩
  ·have:f2.length=fs.length:=by rw[e2];exact QcU h4
   omega
  ·rw[g4];congr 2;unfold JQ;simp;omega
end Sr
namespace Sr
open PySem PySem.Spec PyProof.Rows L2 TL
open Vaaccb (Call State)
variable {P:Program} {w:World} {K:Xt} {mg:Str->Option Value} {base:Heap} {C:Cs}
abbrev Qa9(s:State)(c:Call):List Int:=Ub (Ua s c).2
def Ans(C:Cs)(t:Addr)(s:State)(c:Call)(H:Hp)(Q:VK):Prop:=(Qa9 s c).length<=10000000/\∀H' p x',Zn C H' t (Ua s c).1 x'->Kp C H H'->H p=none->H' p=some (.lst ((Qa9 s c).map V.int))->Q (.ref p) H'
abbrev Qah(l:List Nat):List V:=l.map λn=>V.int (n:Nat)
theorem Ans.pure{C:Cs}{t:Addr}{s:State}{c:Call}{H:Hp}{Q:VK}{l:List Nat}{x:TS'}(h:Ans C t s c H Q)(e:UW s c=.ok (s,l))(hS:Zn C H t s x):l.length<=10000000/\∀H' p,Qe H H'->H p=none->H' p=some (.lst (Qah l))->Q (.ref p) H':=by
 have e1:Ua s c=(s,.told l):=by unfold Ua;rw[e]
 unfold Ans Qa9 at h;rw[e1] at h;refine⟨by have:=h.1;rw[show Ub (.told l)=l.map Xan from rfl,Xb] at this;exact this,λH' p q hp hd=>h.2 H' p x (hS.mono q) (Kp.of q) hp ?_⟩;rw[hd,show Ub (.told l)=l.map Xan from rfl,Xr];rfl
theorem Ans.refused{C:Cs}{t:Addr}{s:State}{c:Call}{H:Hp}{Q:VK}{n:Nat}{x:TS'}(h:Ans C t s c H Q)(e:UW s c=.error n)(hS:Zn C H t s x):∀H' p,Qe H H'->H p=none->H' p=some (.lst [.int (-(n:Int))])->Q (.ref p) H':=by
 have e1:Ua s c=(s,.refused n):=by unfold Ua;rw[e]
 unfold Ans Qa9 at h;rw[e1] at h;exact λH' p q hp hd=>h.2 H' p x (hS.mono q) (Kp.of q) hp hd
def YX(C:Cs)(c:Qb->Call):Sp:=λvs H Q _=>QbT λ(t:Addr) (s:State) (x:TS') (i:Nat) (b:UD)=>vs=[.ref t,.int i]/\Zn C H t s x/\s.page[i]?=some b/\Ans C t s (c b.id) H Q
def QdC(C:Cs)(c:Call):Sp:=λvs H Q _=>JP λ(t:Addr) (s:State) (x:TS')=>vs=[.ref t]/\Zn C H t s x/\Ans C t s c H Q
def QbR(C:Cs)(c:Qb->Call):Sp:=λvs H Q _=>YS λ(t:Addr) (s:State) (x:TS') (n:Qb)=>vs=[.ref t,.str (S (n.map Ji))]/\Zn C H t s x/\n.length<=4000/\Ans C t s (c n) H Q
theorem Zn.lt{C:Cs}{H:Hp}{t:Addr}{s:State}{x:TS'}(h:Zn C H t s x){i:Nat}{b:UD}(hb:s.page[i]?=some b):i<x.rs.length:=by
 rw[h.rs,Xb];exact (Xp.mp hb).1
theorem Zn.box{C:Cs}{H:Hp}{t:Addr}{s:State}{x:TS'}(h:Zn C H t s x){i:Nat}{b:UD}(hb:s.page[i]?=some b):U9 s.page b.id=some b:=Qbe (JK h.si.page).1.nodup hb
theorem Wl{s:State}{n:Qb}{b:UD}(h:U9 s.page n=some b)(f:UD->Vaaccb.Out):UJ s n f=f b:=by
 unfold UJ Xbn;rw[h]
theorem Zm(t:Qb):Qah (XN t)=(JQ t).map V.int:=by
 show Xbg (λn:Nat=>V.int (n:Int)) (t.length::t.map λb=>b.toNat)=Xbg V.int ((t.length:Int)::t.map λb=>(b.toNat:Int));rw[Xj,Xj,Xr,Xr];rfl
theorem Qbo(a b:List Nat):Qah (a++b)=Qah a++Qah b:=XL
theorem Qmx(a:Nat)(b:List Nat):Qah (a::b)=V.int (a:Nat)::Qah b:=rfl
theorem Qas(t:Qb):(XN t).length=t.length+1:=by
 unfold XN;rw[Xw,Xb]
theorem YV(t:Qb):(JQ t).length=t.length+1:=by
 unfold JQ;rw[Xw,Xb]
theorem QkZ(y:Option Vaaccb.Found):Vaaccb.toldFound y=(YZ y).1::XN (YZ y).2:=by cases y<;>rfl
theorem Qbv:Qm ["teller","place","name"] ["teller","place"] (Qg (top 102)):=Qsx
theorem Qfw(T:Pg P w K mg C):Ok P w K mg base 6 "answer_name" ["teller","place"] (YX C .name):=by
 refine T.j3.ok Qbv (λvs H Q E h=>?_) (λf cdv A outer s H vs Q E hr h=>?_)
 ·obtain⟨t,s,x,i,b,rfl,_⟩:=h;rfl
 ·obtain⟨t,s,x,i,b,rfl,hS,hb,k⟩:=h;have cN:=T.qk.1;have hX:=hS.ok;have hi:=hS.lt hb;obtain⟨kl,k⟩:=k.pure (l:=(nmP x.rs x.rl x.hs i).1::XN (nmP x.rs x.rl x.hs i).2) (by
   show UJ s b.id _=_;rw[Wl (hS.box hb),QkZ,hS.rs,hS.rl,hS.si.name hb];rfl) hS
  have hnl:=Qfo (l:=x.rl) (hs:=x.hs) hX.short hS.tel.few hi;intro X;refine⟨_,(Qd (Qx (i:=2) Qbv.nd rfl (by first|exact .inl rfl|exact .inr rfl) (Qk (Z5 T) (Qp hr) rfl (Qa (pv 0) (Qa (pv 1) Qc))))
   (Qi (Ql (J6 Qch (Q0 (Qa (Qj (pv 2) rfl) Qc)) (Qk (Jq T) (Qp hr) rfl (Qa (Qj (pv 2) rfl) Qc)))))),?_⟩
  refine⟨_,rfl,_,rfl,t,x,i,rfl,hS.tel,hX,hi,λH1 p s1 hp hN=>?_⟩;obtain⟨nx,nf,n1,n2,n3⟩:=hN;refine gN ?_;dsimp only;refine⟨_,rfl,p,C.Name,nx,nf,_,rfl,n1,cN,T.qP,n2,XJ _,λq hq=>?_⟩;refine⟨_,rfl,p,C.Name,nx,nf,_,rfl,Qe.new hq _ _ n1,cN,T.qr,n3,_,rfl,by rw[QI];omega,λH2 r s2 hr' hd=>?_⟩;have s02:=(s1.trans (Qe.new hq)).trans s2;refine⟨q,r,_,_,rfl,rfl,s2 _ _ Qh,hd,?_,λz hz=>k _ z (s02.trans (Qe.new hz)) (Qe.free s02 hz) ?_⟩
  ·rw[Xb,YV,QI];show 1+_<=_;omega
  ·rw[Qh,Qmx,Zm];rfl
theorem QfX:Qm ["teller","place"] ["teller","place"] (Qg (top 104)):=Qsx
theorem Qfv(T:Pg P w K mg C):Ok P w K mg base 7 "answer_hint" ["teller","place"] (YX C .hint):=by
 refine T.j5.ok QfX (λvs H Q E h=>?_) (λf cdv A outer s H vs Q E hr h=>?_)
 ·obtain⟨t,s,x,i,b,rfl,_⟩:=h;rfl
 ·obtain⟨t,s,x,i,b,rfl,hS,hb,k⟩:=h;have hX:=hS.ok;have hi:=hS.lt hb;obtain⟨kl,k⟩:=k.pure (l:=XN (Q7 x.rs x.rl x.hs i)++XN (Jm x.rs x.rl x.hs i)) (by
   show UJ s b.id _=_;rw[Wl (hS.box hb),hS.rs,hS.rl,hS.si.hint hb,hS.si.own hb];rfl) hS
  have hhl:=QaE hX hS.tel.few i;have htl:=Qbc hX i;intro X;refine⟨_,(Qi (Ql (J6 Qch (Qk (Jq T) (Qp hr) rfl (Qa (Qk (QcK T) (Qp hr) rfl (Qa (pv 0) (Qa (pv 1) Qc))) Qc)) (Qk (Jq T) (Qp hr) rfl (Qa (Qk (Qa3 T) (Qp hr) rfl (Qa (pv 0) (Qa (pv 1) Qc))) Qc))))),?_⟩;refine⟨_,rfl,_,rfl,t,x,i,rfl,hS.tel,hX,hi,λH1 s1=>?_⟩;refine⟨Q7 x.rs x.rl x.hs i,rfl,by rw[QI];omega,λH2 q s2 hq hq2=>?_⟩;refine⟨_,rfl,_,rfl,t,x,i,rfl,hS.tel.mono (s1.trans s2),hX,hi,λH3 s3=>?_⟩;refine⟨Jm x.rs x.rl x.hs i,rfl,by rw[QI];omega,λH4 r s4 hr' hr4=>?_⟩;have s04:=(s1.trans s2).trans (s3.trans s4);refine⟨q,r,_,_,rfl,rfl,(s3.trans s4) _ _ hq2,hr4,?_,λz hz=>k _ z (s04.trans (Qe.new hz)) (Qe.free s04 hz) ?_⟩
  ·rw[Xb,Xb,YV,YV,QI];omega
  ·rw[Qh,Qbo,Zm,Zm]
theorem QfY:Qm ["teller","place"] ["teller","place"] (Qg (top 105)):=Qsx
theorem QfA(T:Pg P w K mg C):Ok P w K mg base 8 "answer_said" ["teller","place"] (YX C .said):=by
 refine T.j6.ok QfY (λvs H Q E h=>?_) (λf cdv A outer s H vs Q E hr h=>?_)
 ·obtain⟨t,s,x,i,b,rfl,_⟩:=h;rfl
 ·obtain⟨t,s,x,i,b,rfl,hS,hb,k⟩:=h;have hX:=hS.ok;have hi:=hS.lt hb;have hd:UW s (.said b.id)=if WO x.rs x.rl x.hs i=false then .error 6 else .ok (s,XN (XV (J8 x.rs x.rl x.hs x.os i))):=by
   show UJ s b.id _=_;rw[Wl (hS.box hb),hS.rs,hS.rl,hS.si.alone hb,hS.si.said hb];rfl
  intro X;refine⟨_,(Qd (Q1 (Zg (Js (Qk (YW T) (Qp hr) rfl (Qa (pv 0) (Qa (pv 1) Qc))))) (Qi (Ql (Q0 (Qa (QL rfl T.qV) Qc)))) QC)
   (Qi (Ql (Qk (Jq T) (Qp hr) rfl (Qa (Qk (Qcf T) (Qp hr) rfl (Qa (pv 0) (Qa (pv 1) Qc))) Qc))))),?_⟩
  refine⟨_,rfl,_,rfl,t,x,i,rfl,hS.tel,hi,λH1 s1=>⟨_,rfl,?_⟩⟩;cases e:WO x.rs x.rl x.hs i with
  | false=>
   rw[e,if_pos rfl] at hd;have k:=k.refused hd hS;exact Qr ⟨XJ _,λp hp=>k _ p (s1.trans (Qe.new hp)) (Qe.free s1 hp) Qh⟩
  | true=>
   rw[e,if_neg (by decide)] at hd;obtain⟨kl,k⟩:=k.pure hd hS;rw[Qas] at kl;refine Qv (nX ⟨_,rfl,_,rfl,t,x,i,rfl,hS.tel.mono s1,hX,hi,λH2 s2=>?_⟩);refine⟨XV (J8 x.rs x.rl x.hs x.os i),rfl,by rw[QI];omega,λH3 q s3 hq hq3=>k H3 q ((s1.trans s2).trans s3) (Qe.free (s1.trans s2) hq) (by rw[Zm];exact hq3)⟩
theorem QaD{α β:Type}(F:α->List β):∀{l:List α} {j:Nat} {y:α},l[j]?=some y->l.flatMap F=(l.take j).flatMap F++(F y++(l.drop (j+1)).flatMap F)/\(l.take (j+1)).flatMap F=(l.take j).flatMap F++F y
 | [],j,y,h=>by simp at h
 | a::r,0,y,h=>by
  have e:a=y:=Xc h;subst e;exact⟨rfl,by simp⟩
 | a::r,j+1,y,h=>by
  obtain⟨h1,h2⟩:=QaD F (l:=r) (j:=j) (y:=y) (by simpa using h);refine⟨?_,?_⟩
  ·rw[US,h1,XaX,US,XaW,XH]
  ·rw[XaX,XaX,US,US,h2,XH]
def QgV(rs:List QF)(js:List Nat):List Qb:=js.map λj=>(rAt rs j).ident
theorem QgW{rs:List QF}(h:∀r ∈ rs,r.ident.length<=6):∀(js:List Nat),(∀j ∈ js,j<rs.length)->(js.flatMap λj=>XN (rAt rs j).ident).length<=7 * js.length
 | [],_=>Xy _
 | j::r,hj=>by
  have h1:=h _ (Xo (QU (hj j Xh)));have h2:=QgW h r λj' hj'=>hj j' (Xn _ hj')
  rw[US,Xi,Qas,Xw];omega
def QmQ(C:Cs):Sp:=λvs H Q _=>YS λ(t:Addr) (x:TS') (l:Addr) (js:List Nat)=>vs=[.ref t,.ref l]/\QG C H t x/\XOk x/\H l=some (.lst (Qah js))/\(∀j ∈ js,j<x.rs.length)/\js.length<=16/\∀H' p,Qe H H'->H p=none->H' p=some (.lst (Qah (Xap (QgV x.rs js))))->Q (.ref p) H'
theorem QaN:Qm ["teller","places","answer","place"] ["teller","places"] (Qg (top 112)):=Qsx
theorem QcL(T:Pg P w K mg C):Ok P w K mg base 2 "idents_at" ["teller","places"] (QmQ C):=by
 refine T.zd.ok QaN (λvs H Q E h=>?_) (λf cdv A outer s H vs Q E hr h=>?_)
 ·obtain⟨t,x,l,js,rfl,_⟩:=h;rfl
 ·obtain⟨t,x,l,js,rfl,hT,hX,hl,hj,hjl,k⟩:=h;have cT:=T.qd.1;have cP:=T.qb.1;have cB:=T.qf.1;intro X;refine⟨_,(Qd (Qx (i:=2) QaN.nd rfl (by first|exact .inl rfl|exact .inr rfl) (Q0 (Qa (Qs Qw rfl T.qa Xv (Qa (pv 1) Qc)) Qc)))
   (Qd (QaK PassesOwn.never rfl (Q4 (pv 1)) (QH (i:=3) QaN.nd rfl (by first|exact .inl rfl|exact .inr rfl)) (Qi (JF (J4 XD Uk Ul YA (pv 2) (Qa (Qk (Jq T) (Qp hr) rfl (Qa (Qj (QV QJ (Qj (Qj (pv 0) rfl) rfl) (pv 3) (λ_ _=>rfl)) rfl) Qc)) Qc)))))
   (Qi (Ql (pv 2))))),?_⟩
  refine⟨_,rfl,l,_,rfl,.inl (SqL.of hl),XJ _,λq hq=>?_⟩;refine gN ?_;dsimp only;have sq:Qe H (upd H q (.lst [V.int (((Qah js).length:Nat):Int)])):=Qe.new hq
  let F:=λj:Nat=>XN (rAt x.rs j).ident
  refine⟨_,rfl,l,rfl,⟨_,SqL.of (sq _ _ hl)⟩,QqM (xs:=Qah js) (λj σ H'=>∃v3:Option V,σ=[some (.ref t),some (.ref l),some (.ref q),v3]/\Qe H H'/\H' q=some (.lst (Qah (js.length::(js.take j).flatMap F)))) ⟨none,rfl,sq,by rw[Qh,Xb];rfl⟩ (λj σ H' ⟨_,_,s3,_⟩=>SqL.of (s3 _ _ hl)) ?_ ?_⟩
  ·rintro j y σ H3 hjj ⟨v3,rfl,s3,hq3⟩ hy;rw[Xb] at hjj;rw[Xg,Xe hjj] at hy;have hy:V.int (js[j]:Int)=y:=Xc hy;subst hy;have ej:js[j]?=some js[j]:=Xe hjj;have hm:=hj _ (Xao hjj);generalize js[j]=n at ej hm;obtain⟨_,f2⟩:=QaD F ej;have hT3:=hT.mono s3;obtain⟨dx,fs,o1,o2,o3,o4,o5,o6⟩:=hT3.obj;obtain⟨px,ps,lb,dp,lp,p1,p2,p3,p4,p5,p6,p7,p8⟩:=hT3.page;obtain⟨a,ea,bx,bs,la,aa,ys,b2,b3,_⟩:=p6.box n _ (QU hm);have b1:atI (x.as.map V.ref) (n:Int)=some (.ref a):=JN (j:=n) rfl (by rw[Xg,ea];rfl);have il:=hX.idl _ (Xo (QU hm));refine⟨_,rfl,.inl ⟨rfl,_,SqL.of hq3⟩,_,rfl,t,C.Teller,dx,fs,_,rfl,o1,cT,T.qc,o4,x.pg,C.Page,px,ps,_,rfl,p1,cP,T.qe,p3,_,rfl,lb,_,_,_,rfl,rfl,SqL.of p6.lst,b1,a,C.Box,bx,bs,_,rfl,b2,cB,T.qw,b3.ident,_,rfl,by rw[QI];omega,λH4 r s4 hr' hr4=>?_⟩;have hfl:=QgW hX.idl (js.take j) λj' h'=>hj j' (List.mem_of_mem_take h')
   have htk:(js.take j).length<=16:=Uf (by rw[Xbf];exact Nat.min_le_right _ _) hjl;refine⟨q,r,_,_,rfl,rfl,s4 _ _ hq3,hr4,?_,some (.int (n:Int)),rfl,Qe.updL (s3.trans s4) hq,?_⟩
   ·rw[Xb,Xb,YV,Xw,QI];show (List.flatMap F (js.take j)).length+1+_<=_;have:(List.flatMap F (js.take j)).length<=7 * (js.take j).length:=hfl;omega
   ·rw[Qh,f2,<-Uq,Qbo,Zm]
  ·rintro σ H3 ⟨v3,rfl,s3,hq3⟩;refine⟨_,rfl,k H3 q s3 hq ?_⟩;rw[Xb,U6] at hq3;rw[hq3];unfold Xap QgV;rw[Xb,Xbe]
def QdG(x:TS')(i:Nat):List Nat:=(Xs x.rs.length).filter λj=>(rAt x.rs j).by_.contains (rAt x.rs i).ident&&decide ((nmP x.rs x.rl x.hs j).1=1)
def QpZ(C:Cs):Sp:=λvs H Q _=>JP λ(t:Addr) (x:TS') (i:Nat)=>vs=[.ref t,.int i]/\QG C H t x/\XOk x/\i<x.rs.length/\∀H' p,Qe H H'->H p=none->H' p=some (.lst (Qah (QdG x i)))->Q (.ref p) H'
theorem Ye:Qm ["teller","place","boxes","labelled","other"] ["teller","place"] (Qg (top 80)):=Qsx
theorem Qjm(T:Pg P w K mg C):Ok P w K mg base 6 "users_of" ["teller","place"] (QpZ C):=by
 refine T.jQ.ok Ye (λvs H Q E h=>?_) (λf cdv A outer s H vs Q E hr h=>?_)
 ·obtain⟨t,x,i,rfl,_⟩:=h;rfl
 ·obtain⟨t,x,i,rfl,hT,hX,hi,k⟩:=h;have cT:=T.qd.1;have cP:=T.qb.1;have cB:=T.qf.1;have hfew:=hT.few;intro X;refine⟨_,(Qd (Qx (i:=2) Ye.nd rfl (by first|exact .inl rfl|exact .inr rfl) (Qj (Qj (pv 0) rfl) rfl))
   (Qd (QcR (i:=3) rfl Ye.nd rfl rfl (by rfl) (QbO rfl T.qs (Qa (Qs Qw rfl T.qa Xv (Qa (pv 2) Qc)) Qc)) (own:=[("other",4)]) (QK (N:=["teller","place","boxes","labelled","other"]) (sc:=Qg (top 80)) (by decide +kernel)) (λ_ _ _ _ _=>(QH (i:=4) Ye.nd rfl (by first|exact .inl rfl|exact .inr rfl))) (λ_ _ _ _ _=>(YM (QE (QaH K) (Zr K (QV (We K) (pv 2) (pv 1) (λ_ _=>rfl)) rfl) (Zr K (QV (We K) (pv 2) (pv 4) (λ_ _=>rfl)) rfl) rfl))) (λ_ _ _ _ _=>(pv 4)))
   (Qi (Ql (JR rfl Ye.nd (Q4 (pv 3)) (own:=[("other",4)]) (QK (N:=["teller","place","boxes","labelled","other"]) (sc:=Qg (top 80)) (by decide +kernel)) (λ_ _ _ _ _=>(QH (i:=4) Ye.nd rfl (by first|exact .inl rfl|exact .inr rfl))) (λ_ _ _ _ _=>(YM (Js (Qk (WT T) (Qp hr) rfl (Qa (Qk (Z5 T) (Qp hr) rfl (Qa (pv 0) (Qa (pv 4) Qc))) (Qa QB Qc)))))) (λ_ _ _ _ _=>(pv 4))))))),?_⟩
  obtain⟨dx,fs,o1,o2,o3,o4,o5,o6⟩:=hT.obj;obtain⟨px,ps,lb,dp,lp,p1,p2,p3,p4,p5,p6,p7,p8⟩:=hT.page;have hbl:(x.as.map V.ref).length=x.rs.length:=by rw[Xb,p6.len]
  refine⟨_,rfl,t,C.Teller,dx,fs,_,rfl,o1,cT,T.qc,o4,x.pg,C.Page,px,ps,_,rfl,p1,cP,T.qe,p3,?_⟩;refine gN ?_;dsimp only;refine tlc ?_;refine⟨_,rfl,lb,_,rfl,.inl (SqL.of p6.lst),_,rfl,by omega,by rw[hbl];omega,?_⟩;rw[hbl,Uw];refine lcF WA (by rw[QI];omega) (λj=>(rAt x.rs j).by_.contains (rAt x.rs i).ident) (λj=>.int (j:Nat)) (λj v H2 hj s2 rx Qy Qn q1 q2=>?_) λD H2 hD s2 hd=>?_
  ·rw[Xbd] at rx;subst rx;obtain⟨a,ea,bx,bs,la,aa,ys,b2,b3,b4,_⟩:=(p6.mono s2).box i _ (QU hi);obtain⟨a',ea',bx',bs',la',aa',ys',c2,c3,c4,_⟩:=(p6.mono s2).box j _ (QU hj);have b1:atI (x.as.map V.ref) (i:Int)=some (.ref a):=JN (j:=i) rfl (by rw[Xg,ea];rfl);have b1':atI (x.as.map V.ref) (j:Int)=some (.ref a'):=JN (j:=j) rfl (by rw[Xg,ea'];rfl);refine⟨rfl,_,rfl,_,rfl,lb,_,_,_,rfl,rfl,SqL.of (s2 _ _ p6.lst),b1,a,C.Box,bx,bs,_,rfl,b2,cB,T.qw,b3.ident,_,rfl,_,rfl,lb,_,_,_,rfl,rfl,SqL.of (s2 _ _ p6.lst),b1',a',C.Box,bx',bs',_,rfl,c2,cB,T.qB,c3.by_,la',_,rfl,.inl (SqL.of c4),rfl,Ym _,_,rfl,?_⟩;rw[show (if false=true then !inV (V.str (S (rAt x.rs i).ident)) ((rAt x.rs j).by_.map λt=>V.str (S t)) else inV (V.str (S (rAt x.rs i).ident)) ((rAt x.rs j).by_.map λt=>V.str (S t)))=(rAt x.rs j).by_.contains (rAt x.rs i).ident from Qa1 _ _];cases e:(rAt x.rs j).by_.contains (rAt x.rs i).ident with
   | true=>exact Qr ⟨_,rfl,q1 e H2 (Qe.refl _)⟩
   | false=>exact Qv (q2 e H2 (Qe.refl _))
  refine gN ?_;dsimp only;refine tlc ?_;refine⟨_,rfl,D,rfl,⟨_,SqL.of hd⟩,?_⟩;have hfl:((Xs x.rs.length).filter λj=>(rAt x.rs j).by_.contains (rAt x.rs i).ident).length<=16:=Uf (U0 _ _) (by rw[Xai];exact hfew);refine lcX (α:=Nat) (xs:=(Xs x.rs.length).filter λj=>(rAt x.rs j).by_.contains (rAt x.rs i).ident) (vf:=λj=>V.int (j:Nat)) 0 (Jw (QW (SqL.of hd))) (by rw[QI];omega) (λj=>decide ((nmP x.rs x.rl x.hs j).1=1)) (λj=>.int (j:Nat)) (λj H3 hj s3 Qy Qn q1 q2=>?_) λD3 H3 hD3 s3 hd3=>?_
  ·have hjl:j<x.rs.length:=XR.mp (XM.mp hj).1;refine⟨rfl,_,rfl,_,rfl,t,x,j,rfl,hT.mono (s2.trans s3),hX,hjl,λH4 p s4 hp hN=>?_⟩;refine⟨p,_,Xa "by",QqW (by decide +kernel),hN,by decide +kernel,_,rfl,?_⟩;rw[show ZO.idxOf (Xa "by")+1=1 by decide +kernel];cases e:decide ((nmP x.rs x.rl x.hs j).1=1) with
   | true=>exact Qr ⟨_,rfl,q1 e H4 s4⟩
   | false=>exact Qv (q2 e H4 s4)
  ·refine k H3 D3 (s2.trans s3) (Qe.free s2 hD3) ?_;rw[hd3,XbS];unfold QdG;congr 3;refine UR λj _=>?_
   rw[Xcw]
theorem Qi0{s:State}{x:TS'}(h:x.rs=s.page.map rb){js:List Nat}(hj:∀j ∈ js,j<x.rs.length):js.map (Yy s.page)=QgV x.rs js:=by
 unfold QgV;refine XF λj hjj=>?_
 have hl:=hj j hjj;rw[h,Xb] at hl;have e:s.page[j]?=some s.page[j]:=Xe hl;rw[Zq e,h,Zh e];rfl
theorem Qer:Qm ["teller","place"] ["teller","place"] (Qg (top 110)):=Qsx
theorem Qel(T:Pg P w K mg C):Ok P w K mg base 7 "answer_users" ["teller","place"] (YX C .users):=by
 refine T.zb.ok Qer (λvs H Q E h=>?_) (λf cdv A outer s H vs Q E hr h=>?_)
 ·obtain⟨t,s,x,i,b,rfl,_⟩:=h;rfl
 ·obtain⟨t,s,x,i,b,rfl,hS,hb,k⟩:=h;have hX:=hS.ok;have hi:=hS.lt hb;have hin:∀j ∈ QdG x i,j<x.rs.length:=λj hj=>XR.mp (XM.mp hj).1
  obtain⟨kl,k⟩:=k.pure (l:=Xap (QgV x.rs (QdG x i))) (by
   show UJ s b.id _=_;rw[Wl (hS.box hb),hS.si.users,<-Qi0 hS.rs hin];unfold QdG;rw[hS.rs,hS.rl,Xb,Zh hb];rfl) hS
  intro X;refine⟨_,(Qi (Ql (Qk (QcL T) (Qp hr) rfl (Qa (pv 0) (Qa (Qk (Qjm T) (Qp hr) rfl (Qa (pv 0) (Qa (pv 1) Qc))) Qc))))),?_⟩;refine⟨_,rfl,_,rfl,_,rfl,t,x,i,rfl,hS.tel,hX,hi,λH1 l s1 hl hl1=>?_⟩;refine⟨t,x,l,QdG x i,rfl,hS.tel.mono s1,hX,hl1,hin,Uf (U0 _ _) (by rw[Xai];exact hS.tel.few),λH2 p s2 hp hd=>k H2 p (s1.trans s2) (Qe.free s1 hp) hd⟩
theorem Qdx{x:TS'}{j:Nat}(h:j ∈ JW x.rs x.rl x.hs):j<x.rs.length:=XR.mp (XM.mp h).1
theorem Qie{x:TS'}(h:x.rs.length<=16):(JW x.rs x.rl x.hs).length<=16:=Uf (U0 _ _) (by rw[Xai];exact h)
theorem Wq:Qm ["teller","text","place"] ["teller","text"] (Qg (top 107)):=Qsx
theorem Qfu(T:Pg P w K mg C):Ok P w K mg base 6 "answer_find" ["teller","text"] (QbR C .find):=by
 refine T.j8.ok Wq (λvs H Q E h=>?_) (λf cdv A outer s H vs Q E hr h=>?_)
 ·obtain⟨t,s,x,n,rfl,_⟩:=h;rfl
 ·obtain⟨t,s,x,n,rfl,hS,hn,k⟩:=h;have hX:=hS.ok;have cN:=T.qk.1;have hrow:=Qie (x:=x) hS.tel.few
  let js:=(JW x.rs x.rl x.hs).filter λj=>decide ((nmP x.rs x.rl x.hs j).2=n)
  have hin:∀j ∈ js,j<x.rs.length:=λj hj=>Qdx (XM.mp hj).1
  obtain⟨kl,k⟩:=k.pure (l:=Xap (QgV x.rs js)) (by
   show Xca s _=_;rw[(hS.si.rowFilter (λh=>h.name==n) (λj=>decide ((nmP (s.page.map rb) (s.rules.map rr) x.hs j).2=n)) λj b hb=>?_).1,<-Qi0 hS.rs hin]
   ·show _=Except.ok (s,Xap (Xbg (Yy s.page) ((JW x.rs x.rl x.hs).filter λj=>decide ((nmP x.rs x.rl x.hs j).2=n))));rw[hS.rs,hS.rl];rfl
   ·rw[hS.si.name hb,WE];show (XaK (Um s) b.id==n)=decide (XaK (Um s) b.id=n);rw[UF];simp) hS
  have hsg:SgB x.rs:=by rw[hS.rs];exact Qra (JK hS.si.page).2.1
  intro X;refine⟨_,(Qi (Ql (Qk (QcL T) (Qp hr) rfl (Qa (pv 0) (Qa (JR rfl Wq.nd (Q4 (Qk (YC T) (Qp hr) rfl (Qa (pv 0) Qc))) (own:=[("place",2)]) (QK (N:=["teller","text","place"]) (sc:=Qg (top 107)) (by decide +kernel)) (λ_ _ _ _ _=>(QH (i:=2) Wq.nd rfl (by first|exact .inl rfl|exact .inr rfl))) (λ_ _ _ _ _=>(YM (QE Jt (Zr K (Qk (Z5 T) (Qp hr) rfl (Qa (pv 0) (Qa (pv 2) Qc))) rfl) (pv 1) (Qz _)))) (λ_ _ _ _ _=>(pv 2))) Qc))))),?_⟩;refine⟨_,rfl,?_⟩;refine tlc ?_;refine⟨_,rfl,t,x,rfl,hS.tel,λH1 l s1 hl hl1=>?_⟩;refine⟨l,rfl,⟨_,SqL.of hl1⟩,?_⟩;refine lcX (α:=Nat) (xs:=JW x.rs x.rl x.hs) (vf:=λj=>V.int (j:Nat)) 0 (Jw (QW (SqL.of hl1))) (by rw[QI];omega) (λj=>decide ((nmP x.rs x.rl x.hs j).2=n)) (λj=>.int (j:Nat)) (λj H3 hj s3 Qy Qn q1 q2=>?_) λD3 H3 hD3 s3 hd3=>?_
  ·refine⟨rfl,_,rfl,_,rfl,t,x,j,rfl,hS.tel.mono (s1.trans s3),hX,Qdx hj,λH4 p s4 hp hN=>?_⟩;obtain⟨nx,nf,n1,n2,n3⟩:=hN;refine⟨p,C.Name,nx,nf,_,rfl,n1,cN,T.qr,n3,_,rfl,rfl,_,rfl,?_⟩;rw[show decide (V.str (S (nmP x.rs x.rl x.hs j).2)=V.str (S (n.map Ji)))=decide ((nmP x.rs x.rl x.hs j).2=n) by
    rw[<-Qkl hsg j n]
    by_cases q:(nmP x.rs x.rl x.hs j).2=n.map Ji
    ·rw[decide_eq_true q,q];exact decide_eq_true rfl
    ·rw[decide_eq_false q];exact decide_eq_false λz=>q (YT (V.str.inj z))]
   cases e:decide ((nmP x.rs x.rl x.hs j).2=n) with
   | true=>exact Qr ⟨_,rfl,q1 e H4 s4⟩
   | false=>exact Qv (q2 e H4 s4)
  ·refine⟨t,x,D3,js,rfl,hS.tel.mono (s1.trans s3),hX,hd3,hin,Uf (U0 _ _) hrow,λH4 p s4 hp hd=>k H4 p ((s1.trans s3).trans s4) (Qe.free (s1.trans s3) hp) hd⟩
theorem Qma(l:List Nat):l.foldl (·+·) 0=l.sum:=by
 have key:∀(l:List Nat) (a:Nat),l.foldl (·+·) a=a+l.sum:=by
  intro l
  induction l with
  | nil=>intro a;rfl
  | cons b r ih=>
   intro a;rw[List.foldl_cons,ih,X1,XbM]
 rw[key,XbV]
theorem QoC(l:List Nat):(l.map λn:Nat=>(n:Int)).sum=((l.sum:Nat):Int):=by
 induction l with
 | nil=>rfl
 | cons a r ih=>
  rw[Xj,X1,ih,X1,Xci]
theorem Zn.heard{H:Hp}{t:Addr}{s:State}{x:TS'}(h:Zn C H t s x):((Xbo (Um s)).map λh=>(XaO h).length)=(JW x.rs x.rl x.hs).map λj=>(XV (J8 x.rs x.rl x.hs x.os j)).length:=by
 rw[h.si.rowMap (λh=>(XaO h).length) (λj=>(XV (J8 (s.page.map rb) (s.rules.map rr) x.hs x.os j)).length) λj b hb=>?_,h.rs,h.rl];rw[h.si.said hb]
theorem Za:Qm ["teller","row","unnamed","place"] ["teller"] (Qg (top 111)):=Qsx
theorem QfB(T:Pg P w K mg C):Ok P w K mg base 8 "answer_size" ["teller"] (QdC C .size):=by
 refine T.zc.ok Za (λvs H Q E h=>?_) (λf cdv A outer s H vs Q E hr h=>?_)
 ·obtain⟨t,s,x,rfl,_⟩:=h;rfl
 ·obtain⟨t,s,x,rfl,hS,k⟩:=h;have hX:=hS.ok;have cN:=T.qk.1;have hrow:=Qie (x:=x) hS.tel.few;obtain⟨kl,k⟩:=k.pure (l:=[(JW x.rs x.rl x.hs).length,((JW x.rs x.rl x.hs).filter λj=>decide ((nmP x.rs x.rl x.hs j).2=[])).length,((JW x.rs x.rl x.hs).map λj=>(XV (J8 x.rs x.rl x.hs x.os j)).length).sum]) (by
   show Xca s _=_;have e1:(Xbo (Um s)).length=(JW x.rs x.rl x.hs).length:=by
    have:=congrArg XO hS.heard;rw[Xb,Xb] at this;exact this
   rw[e1,hS.heard,Qma,(hS.si.rowFilter (λh=>h.name.isEmpty) (λj=>decide ((nmP (s.page.map rb) (s.rules.map rr) x.hs j).2=[])) λj b hb=>?_).2,hS.rs,hS.rl]
   ·rfl
   ·rw[hS.si.name hb,WE];show (XaK (Um s) b.id).isEmpty=decide (XaK (Um s) b.id=[]);cases XaK (Um s) b.id<;>rfl) hS
  intro X;refine⟨_,(Qd (Qx (i:=1) Za.nd rfl (by first|exact .inl rfl|exact .inr rfl) (Qk (YC T) (Qp hr) rfl (Qa (pv 0) Qc)))
   (Qd (QcR (i:=2) rfl Za.nd rfl rfl (by rfl) (Q4 (pv 1)) (own:=[("place",3)]) (QK (N:=["teller","row","unnamed","place"]) (sc:=Qg (top 111)) (by decide +kernel)) (λ_ _ _ _ _=>(QH (i:=3) Za.nd rfl (by first|exact .inl rfl|exact .inr rfl))) (λ_ _ _ _ _=>(YM (QE Jt (Zr K (Qk (Z5 T) (Qp hr) rfl (Qa (pv 0) (Qa (pv 3) Qc))) rfl) QB (Qz _)))) (λ_ _ _ _ _=>(pv 3)))
   (Qi (Ql (Q0 (Qa (Qs Qw rfl T.qa Xv (Qa (pv 1) Qc)) (Qa (Qs Qw rfl T.qa Xv (Qa (pv 2) Qc)) (Qa (Qs (QqF rfl) rfl T.zV boot_sum (Qa (JR rfl Za.nd (Q4 (pv 1)) (own:=[("place",3)]) (QK (N:=["teller","row","unnamed","place"]) (sc:=Qg (top 111)) (by decide +kernel)) (λ_ _ _ _ _=>(QH (i:=3) Za.nd rfl (by first|exact .inl rfl|exact .inr rfl))) (λ_ _ _ _ _=>Jo) (λ_ _ _ _ _=>(Qs JJ rfl T.qa Xv (Qa (Qk (Qcf T) (Qp hr) rfl (Qa (pv 0) (Qa (pv 3) Qc))) Qc)))) Qc)) Qc)))))))),?_⟩
  refine⟨_,rfl,t,x,rfl,hS.tel,λH1 l s1 hl hl1=>?_⟩;refine gN ?_;dsimp only;refine tlc ?_;refine⟨_,rfl,l,rfl,⟨_,SqL.of hl1⟩,?_⟩;refine lcX (α:=Nat) (xs:=JW x.rs x.rl x.hs) (vf:=λj=>V.int (j:Nat)) 0 (Jw (QW (SqL.of hl1))) (by rw[QI];omega) (λj=>decide ((nmP x.rs x.rl x.hs j).2=[])) (λj=>.int (j:Nat)) (λj H3 hj s3 Qy Qn q1 q2=>?_) λD3 H3 hD3 s3 hd3=>?_
  ·refine⟨rfl,_,rfl,_,rfl,t,x,j,rfl,hS.tel.mono (s1.trans s3),hX,Qdx hj,λH4 p s4 hp hN=>?_⟩;obtain⟨nx,nf,n1,n2,n3⟩:=hN;refine⟨p,C.Name,nx,nf,_,rfl,n1,cN,T.qr,n3,rfl,_,rfl,?_⟩;rw[QhS,show (nmP x.rs x.rl x.hs j).2.isEmpty=decide ((nmP x.rs x.rl x.hs j).2=[]) by cases (nmP x.rs x.rl x.hs j).2<;>rfl];cases e:decide ((nmP x.rs x.rl x.hs j).2=[]) with
   | true=>exact Qr ⟨_,rfl,q1 e H4 s4⟩
   | false=>exact Qv (q2 e H4 s4)
  refine gN ?_;dsimp only;have hl3:=s3 _ _ hl1;refine⟨_,rfl,l,_,rfl,.inl (SqL.of hl3),_,rfl,D3,_,rfl,.inl (SqL.of hd3),?_⟩;refine tlc ?_;refine⟨_,rfl,l,rfl,⟨_,SqL.of hl3⟩,?_⟩;refine lcM (α:=Nat) (xs:=JW x.rs x.rl x.hs) (vf:=λj=>V.int (j:Nat)) 0 (Jw (QW (SqL.of hl3))) (by rw[QI];omega) (λj=>.int (((XV (J8 x.rs x.rl x.hs x.os j)).length:Nat):Int)) (λj H5 hj s5 Qy Qn q1=>?_) λD5 H5 hD5 s5 hd5=>?_
  ·refine⟨rfl,Qr ⟨_,rfl,_,rfl,t,x,j,rfl,hS.tel.mono ((s1.trans s3).trans s5),hX,Qdx hj,λH6 s6=>?_⟩⟩;have htl:=Qhe hX hS.tel.few hS.tel.rlen hS.tel.kinds (Qdx hj);refine⟨S (XV (J8 x.rs x.rl x.hs x.os j)),rfl,by rw[Ja,QI];omega,?_⟩
   ·rw[Ja];exact q1 H6 s6
  ·have s05:=(s1.trans s3).trans s5;refine⟨D5,(JW x.rs x.rl x.hs).map λj=>(((XV (J8 x.rs x.rl x.hs x.os j)).length:Nat):Int),rfl,SqL.of (by rw[hd5,Xr];rfl),by show 3<=sizeLine;decide,λp hp=>k _ p (s05.trans (Qe.new hp)) (Qe.free s05 hp) ?_⟩;have es:((JW x.rs x.rl x.hs).map λj=>(((XV (J8 x.rs x.rl x.hs x.os j)).length:Nat):Int)).sum=((((JW x.rs x.rl x.hs).map λj=>(XV (J8 x.rs x.rl x.hs x.os j)).length).sum:Nat):Int):=by
    rw[<-QoC,Xr];rfl
   rw[Qh,Xb,Xb,es];rfl
def Qep(x:TS')(j:Nat):List Nat:=XN (rAt x.rs j).ident++XN (XV (J8 x.rs x.rl x.hs x.os j))
theorem YO:Qm ["teller","row","answer","place"] ["teller"] (Qg (top 106)):=Qsx
theorem Qgm(T:Pg P w K mg C):Ok P w K mg base 8 "answer_row" ["teller"] (QdC C .row):=by
 refine T.j7.ok YO (λvs H Q E h=>?_) (λf cdv A outer s H vs Q E hr h=>?_)
 ·obtain⟨t,s,x,rfl,_⟩:=h;rfl
 ·obtain⟨t,s,x,rfl,hS,k⟩:=h;have hX:=hS.ok;have hT:=hS.tel;have cT:=T.qd.1;have cP:=T.qb.1;have cB:=T.qf.1;have hrow:=Qie (x:=x) hT.few;obtain⟨kl,k⟩:=k.pure (l:=(JW x.rs x.rl x.hs).length::(JW x.rs x.rl x.hs).flatMap (Qep x)) (by
   show Xca s _=_;have e1:(Xbo (Um s)).length=(JW x.rs x.rl x.hs).length:=by
    have:=congrArg XO hS.heard;rw[Xb,Xb] at this;exact this
   have e2:((Xbo (Um s)).flatMap λh=>XN h.id++XN (XaO h))=(JW x.rs x.rl x.hs).flatMap (Qep x):=by
    rw[Xcd,Xcd,hS.si.rowMap (λh=>XN h.id++XN (XaO h)) (λj=>XN (rAt (s.page.map rb) j).ident++XN (XV (J8 (s.page.map rb) (s.rules.map rr) x.hs x.os j))) λj b hb=>?_]
    ·unfold Qep;rw[hS.rs,hS.rl]
    ·rw[hS.si.said hb,Zh hb];rfl
   rw[e1,e2];rfl) hS
  rw[Xw] at kl;intro X;refine⟨_,(Qd (Qx (i:=1) YO.nd rfl (by first|exact .inl rfl|exact .inr rfl) (Qk (YC T) (Qp hr) rfl (Qa (pv 0) Qc)))
   (Qd (Qx (i:=2) YO.nd rfl (by first|exact .inl rfl|exact .inr rfl) (Q0 (Qa (Qs Qw rfl T.qa Xv (Qa (pv 1) Qc)) Qc)))
   (Qd (QaK PassesOwn.never rfl (Q4 (pv 1)) (QH (i:=3) YO.nd rfl (by first|exact .inl rfl|exact .inr rfl)) (Qd (JF (J4 XD Uk Ul YA (pv 2) (Qa (Qk (Jq T) (Qp hr) rfl (Qa (Qj (QV QJ (Qj (Qj (pv 0) rfl) rfl) (pv 3) (λ_ _=>rfl)) rfl) Qc)) Qc)))
   (Qi (JF (J4 XD Uk Ul YA (pv 2) (Qa (Qk (Jq T) (Qp hr) rfl (Qa (Qk (Qcf T) (Qp hr) rfl (Qa (pv 0) (Qa (pv 3) Qc))) Qc)) Qc))))))
   (Qi (Ql (pv 2)))))),?_⟩
  refine⟨_,rfl,t,x,rfl,hT,λH1 l s1 hl hl1=>?_⟩;refine gN ?_;dsimp only;refine⟨_,rfl,l,_,rfl,.inl (SqL.of hl1),XJ _,λq hq=>?_⟩;refine gN ?_;dsimp only;have sq:Qe H1 (upd H1 q (.lst [V.int ((((JW x.rs x.rl x.hs).map λj=>V.int (j:Nat)).length:Nat):Int)])):=Qe.new hq;refine⟨_,rfl,l,rfl,⟨_,SqL.of (sq _ _ hl1)⟩,QqM (xs:=Qah (JW x.rs x.rl x.hs)) (λj σ H'=>∃v3:Option V,σ=[some (.ref t),some (.ref l),some (.ref q),v3]/\Qe H1 H'/\H' q=some (.lst (Qah ((JW x.rs x.rl x.hs).length::((JW x.rs x.rl x.hs).take j).flatMap (Qep x))))) ⟨none,rfl,sq,by rw[Qh,Xb];rfl⟩ (λj σ H' ⟨_,_,s3,_⟩=>SqL.of (s3 _ _ hl1)) ?_ ?_⟩
  ·rintro j y σ H3 hjj ⟨v3,rfl,s3,hq3⟩ hy;rw[Xb] at hjj;rw[Xg,Xe hjj] at hy;have hy:V.int ((JW x.rs x.rl x.hs)[j]:Int)=y:=Xc hy;subst hy;have ej:(JW x.rs x.rl x.hs)[j]?=some (JW x.rs x.rl x.hs)[j]:=Xe hjj;have hm:=Qdx (Xao hjj);generalize (JW x.rs x.rl x.hs)[j]=n at ej hm;obtain⟨f1,f2⟩:=QaD (Qep x) ej;rw[f1,Xi,Xi] at kl;have kf:(Qep x n).length=(rAt x.rs n).ident.length+1+((XV (J8 x.rs x.rl x.hs x.os n)).length+1):=by
    unfold Qep;rw[Xi,Qas,Qas]
   have hT3:=hT.mono (s1.trans s3);obtain⟨dx,fs,o1,o2,o3,o4,o5,o6⟩:=hT3.obj;obtain⟨px,ps,lb,dp,lp,p1,p2,p3,p4,p5,p6,p7,p8⟩:=hT3.page;obtain⟨a,ea,bx,bs,la,aa,ys,b2,b3,_⟩:=p6.box n _ (QU hm);have b1:atI (x.as.map V.ref) (n:Int)=some (.ref a):=JN (j:=n) rfl (by rw[Xg,ea];rfl);have il:=hX.idl _ (Xo (QU hm));have sl:=Qhe hX hT.few hT.rlen hT.kinds hm;refine⟨_,rfl,.inl ⟨rfl,_,SqL.of hq3⟩,_,rfl,t,C.Teller,dx,fs,_,rfl,o1,cT,T.qc,o4,x.pg,C.Page,px,ps,_,rfl,p1,cP,T.qe,p3,_,rfl,lb,_,_,_,rfl,rfl,SqL.of p6.lst,b1,a,C.Box,bx,bs,_,rfl,b2,cB,T.qw,b3.ident,_,rfl,by rw[QI];omega,λH4 r s4 hr' hr4=>?_⟩;refine⟨q,r,_,_,rfl,rfl,s4 _ _ hq3,hr4,?_,?_⟩
   ·rw[Xb,Xb,YV,Xw,QI];omega
   have s5:Qe H1 (upd H4 q (.lst (Qah ((JW x.rs x.rl x.hs).length::((JW x.rs x.rl x.hs).take j).flatMap (Qep x))++(JQ (rAt x.rs n).ident).map V.int))):=Qe.updL (s3.trans s4) hq;have hq5:(upd H4 q (.lst (Qah ((JW x.rs x.rl x.hs).length::((JW x.rs x.rl x.hs).take j).flatMap (Qep x))++(JQ (rAt x.rs n).ident).map V.int))) q=some (.lst (Qah ((JW x.rs x.rl x.hs).length::((JW x.rs x.rl x.hs).take j).flatMap (Qep x))++(JQ (rAt x.rs n).ident).map V.int)):=Qh;generalize upd H4 q (.lst (Qah ((JW x.rs x.rl x.hs).length::((JW x.rs x.rl x.hs).take j).flatMap (Qep x))++(JQ (rAt x.rs n).ident).map V.int))=H5 at s5 hq5 ⊢;refine⟨_,rfl,.inl ⟨rfl,_,SqL.of hq5⟩,_,rfl,_,rfl,t,x,n,rfl,hT.mono (s1.trans s5),hX,hm,λH6 s6=>?_⟩;refine⟨XV (J8 x.rs x.rl x.hs x.os n),rfl,by rw[QI];omega,λH7 r7 s7 hr7 hr77=>?_⟩;refine⟨q,r7,_,_,rfl,rfl,(s6.trans s7) _ _ hq5,hr77,?_,some (.int (n:Int)),rfl,Qe.updL (s5.trans (s6.trans s7)) hq,?_⟩
   ·rw[Xi,Xb,Xb,Xb,YV,YV,Xw,QI];omega
   ·rw[Qh,f2,<-Uq,Qbo];unfold Qep;rw[Qbo,Zm,Zm,XH]
  ·rintro σ H3 ⟨v3,rfl,s3,hq3⟩;refine⟨_,rfl,k H3 q (s1.trans s3) (Qe.free s1 hq) ?_⟩;rw[Xb,U6] at hq3;exact hq3
theorem SI.source{s:State}{hs os:List Bool}(h:SI s hs os){i:Nat}{b:UD}(hb:s.page[i]?=some b)(src:XaJ):JG (s.page.map rb) hs (inP (s.page.map rb) (s.rules.map rr) hs) i (Xa9 src)=Vaaccb.fromSource (Um s) (Xb1 (Um s)) (Xb1 (Um s)) b.id src:=by
 obtain⟨pk,ok,nm,_⟩:=JK h.page;exact Qe4 pk ok nm h.now hb s.rules (λj x hx=>h.inner hx) src
def QjK(C:Cs):Sp:=λvs H Q _=>Qj0 λ(t:Addr) (s:State) (x:TS') (i:Nat) (b:UD) (k:Int)=>vs=[.ref t,.int i,.int k]/\Zn C H t s x/\s.page[i]?=some b/\Ans C t s (.source b.id k) H Q
theorem Qp1{n:Nat}(h:n<5):(ZO.map λt=>V.str (S t))[n]?=some (.str (S (Xa9 (Xcv.getD n .label)))):=by
 have:n=0\/n=1\/n=2\/n=3\/n=4:=by omega
 rcases this with q | q | q | q | q<;>subst q<;>rfl
theorem Qdy:Qm ["teller","place","k"] ["teller","place","k"] (Qg (top 108)):=Qsx
theorem Qdt(T:Pg P w K mg C):Ok P w K mg base 5 "answer_source" ["teller","place","k"] (QjK C):=by
 refine T.j9.ok Qdy (λvs H Q E h=>?_) (λf cdv A outer s H vs Q E hr h=>?_)
 ·obtain⟨t,s,x,i,b,z,rfl,_⟩:=h;rfl
 ·obtain⟨t,s,x,i,b,z,rfl,hS,hb,k⟩:=h;have hX:=hS.ok;have hT:=hS.tel;have hi:=hS.lt hb;have hd:UW s (.source b.id z)=if z<1\/(5:Int)<z then .error 5 else .ok (s,XN (JG x.rs x.hs (inP x.rs x.rl x.hs) i (Xa9 (Xcv.getD (z.toNat-1) .label)))):=by
   show UJ s b.id _=_;rw[Wl (hS.box hb),hS.rs,hS.rl,hS.si.source hb];rfl
  intro X;refine⟨_,(Qd (Q1 (Zg (QcT WI WI Qt (pv 2) (Qs Qw rfl T.qa Xv (Qa (QL rfl T.qt) Qc)))) (Qi (Ql (Q0 (Qa (QL rfl T.zG) Qc)))) QC)
   (Qi (Ql (Qk (Jq T) (Qp hr) rfl (Qa (Qk (Qjj T) (Qp hr) rfl (Qa (pv 0) (Qa (pv 1) (Qa (QV Qdm (QL rfl T.qt) (J6 QfG (pv 2) Qt) (λ_ _=>rfl)) (Qa (Qk (Wj T) (Qp hr) rfl (Qa (pv 0) Qc)) Qc))))) Qc))))),?_⟩
  refine⟨_,rfl,_,_,rfl,rfl,_,rfl,?_⟩;have bad:z<1\/(5:Int)<z->∀p,H p=none->Q (.ref p) (upd H p (.lst [V.int (-5)])):=λq p hp=>by
   rw[if_pos q] at hd;exact k.refused hd hS _ p (Qe.new hp) hp Qh
  by_cases h1:(1:Int)<=z
  ·rw[decide_eq_true h1];refine Qr ⟨C.SOURCES,_,rfl,.inr T.ql.sq,_,_,rfl,rfl,_,rfl,?_⟩
   by_cases h5:z<=5
   ·rw[if_neg (by omega)] at hd;obtain⟨kl,k⟩:=k.pure hd hS;rw[Qas] at kl;rw[show decide (z<=((XO [V.str (S (Xa "by")),V.str (S (Xa "label")),V.str (S (Xa "text")),V.str (S (Xa "kids")),V.str (S (Xa "hint"))]:Nat):Int))=true from decide_eq_true h5];refine Qv (nX ?_);have hn:z.toNat-1<5:=by omega
    refine⟨_,rfl,_,rfl,_,rfl,_,_,rfl,rfl,C.SOURCES,ZO.map λt=>V.str (S t),_,_,rfl,rfl,T.ql.sq,JN (j:=z.toNat-1) (by omega) (Qp1 hn),_,rfl,t,x,rfl,hT,hX,λH1 l s1 hl hl1=>?_⟩;refine⟨t,x,i,_,l,_,rfl,hT.mono s1,hX,hi,hl1,QhL x,Qke hX,λH2 s2=>?_⟩;refine⟨_,rfl,by rw[QI];omega,λH3 q s3 hq hq3=>k H3 q ((s1.trans s2).trans s3) (Qe.free (s1.trans s2) hq) (by rw[Zm];exact hq3)⟩
   ·rw[show decide (z<=((XO [V.str (S (Xa "by")),V.str (S (Xa "label")),V.str (S (Xa "text")),V.str (S (Xa "kids")),V.str (S (Xa "hint"))]:Nat):Int))=false from decide_eq_false h5];exact Qr ⟨XJ _,bad (.inr (by omega))⟩
  ·rw[decide_eq_false h1];exact Qv ⟨_,rfl,Qr ⟨XJ _,bad (.inl (by omega))⟩⟩
theorem J9:Qm ["teller","place","box","level","off","on"] ["teller","place"] (Qg (top 103)):=Qsx
theorem Qfz(T:Pg P w K mg C):Ok P w K mg base 2 "answer_role" ["teller","place"] (YX C .role):=by
 refine T.j4.ok J9 (λvs H Q E h=>?_) (λf cdv A outer s H vs Q E hr h=>?_)
 ·obtain⟨t,s,x,i,b,rfl,_⟩:=h;rfl
 ·obtain⟨t,s,x,i,b,rfl,hS,hb,k⟩:=h;have hX:=hS.ok;have hT:=hS.tel;have hi:=hS.lt hb;have cT:=T.qd.1;have cP:=T.qb.1;have cB:=T.qf.1;have cR:=T.qi.1;have hj:i<x.os.length:=by rw[hT.ol];exact hi
  obtain⟨pk,_⟩:=JK hS.si.page;obtain⟨kl,k⟩:=k.pure (l:=XN (ZV x.rl (rAt x.rs i).kind).role++[Zt (rAt x.rs i).kind,Vaacca.bit (rAt x.rs i).off,if (rAt x.rs i).kind=Xa "check" then (if x.os.getD i false=true then 2 else 1) else 0]) (by
   show UJ s b.id _=_;rw[Wl (hS.box hb),hS.rs,hS.rl,hS.si.rule hb,Zh hb];have e1:Vaaccb.onOf (Um s) b=if (rb b).kind=Xa "check" then (if x.os.getD i false=true then 2 else 1) else 0:=by
    unfold Vaaccb.onOf;have e2:(Um s).now.on.contains b.id=x.os.getD i false:=by
     show s.now.on.contains b.id=_;rw[hS.si.now.on,WL pk.nodup hS.si.now.ol hb]
    rw[e2]
    by_cases q:b.kind=.check
    ·rw[if_pos q,if_pos (show (rb b).kind=Xa "check" from (Qcx b.kind).mpr q)]
    ·rw[if_neg q,if_neg (show ¬(rb b).kind=Xa "check" from λz=>q ((Qcx b.kind).mp z))]
   rw[e1,show Zt (rb b).kind=Vaaccb.levelOf b.kind from Qi7 b.kind];rfl) hS
  rw[Xi,Qas] at kl;intro X;refine⟨_,(Qd (Qx (i:=2) J9.nd rfl (by first|exact .inl rfl|exact .inr rfl) (QV QJ (Qj (Qj (pv 0) rfl) rfl) (pv 1) (λ_ _=>rfl)))
   (Qd (Qx (i:=3) J9.nd rfl (by first|exact .inl rfl|exact .inr rfl) (QmF T.qI (QL rfl T.qH) (Qj (pv 2) rfl) Qt ⟨by rfl,by rfl,by rfl,by rfl⟩))
   (Qd (Qx (i:=4) J9.nd rfl (by first|exact .inl rfl|exact .inr rfl) (J5 (Js (Qj (pv 2) rfl)) Qt Qt))
   (Qd (Qx (i:=5) J9.nd rfl (by first|exact .inl rfl|exact .inr rfl) Qt)
   (Qd (Q1 (QE Jt (Qj (pv 2) rfl) QB (Qz _)) (Qi (Qx (i:=5) J9.nd rfl (by first|exact .inl rfl|exact .inr rfl) (J5 (Js (QV QJ (Qj (pv 0) rfl) (pv 1) (λ_ _=>rfl))) Qt Qt))) QC)
   (Qi (Ql (J6 Qch (Qk (Jq T) (Qp hr) rfl (Qa (Qj (Qk (YD T) (Qp hr) rfl (Qa (pv 0) (Qa (pv 1) Qc))) rfl) Qc)) (Q0 (Qa (pv 3) (Qa (pv 4) (Qa (pv 5) Qc)))))))))))),?_⟩
  obtain⟨dx,fs,o1,o2,o3,o4,o5,o6⟩:=hT.obj;obtain⟨px,ps,lb,dp,lp,p1,p2,p3,p4,p5,p6,p7,p8⟩:=hT.page;obtain⟨a,ea,bx,bs,la,aa,ys,b2,b3,b4,b5,b6⟩:=p6.box i _ (QU hi);have b1:atI (x.as.map V.ref) (i:Int)=some (.ref a):=JN (j:=i) rfl (by rw[Xg,ea];rfl);refine⟨_,rfl,t,C.Teller,dx,fs,_,rfl,o1,cT,T.qc,o4,x.pg,C.Page,px,ps,_,rfl,p1,cP,T.qe,p3,_,rfl,lb,_,_,_,rfl,rfl,SqL.of p6.lst,b1,?_⟩;refine gN ?_;dsimp only;refine⟨_,rfl,a,C.Box,bx,bs,_,rfl,b2,cB,T.qg,b3.kind,Sum.inr (S (rAt x.rs i).kind),rfl,?_⟩;have lv:(Jn HLK (Sum.inr (S (rAt x.rs i).kind))).getD (V.int 0)=V.int (Zt (rAt x.rs i).kind:Nat):=by
   rcases Qg1 (rAt x.rs i).kind with ⟨l0,lv⟩ | ⟨n,n1,n3,ln,lv,ls⟩
   ·rw[lv,l0];rfl
   ·rw[lv,ln];rfl
  rw[show (Jn [(Sum.inr (S (Xa "h1")),V.int (1)),(Sum.inr (S (Xa "h2")),V.int (2)),(Sum.inr (S (Xa "h3")),V.int (3))] (Sum.inr (S (rAt x.rs i).kind))).getD (V.int 0)=V.int (Zt (rAt x.rs i).kind:Nat) from lv];refine gN ?_;dsimp only;refine⟨_,rfl,a,C.Box,bx,bs,_,rfl,b2,cB,T.qC,b3.off,_,rfl,?_⟩;generalize hon:(if (rAt x.rs i).kind=Xa "check" then (if x.os.getD i false=true then 2 else 1) else 0)=nv at k kl;cases hof:(rAt x.rs i).off
  all_goals
   rw[hof] at k
   first | refine Qv (gN (i:=4) (v:=.int 0) ?_) | refine Qr (gN (i:=4) (v:=.int 1) ?_)
   dsimp only;refine gN (i:=5) (v:=.int 0) ?_;dsimp only;refine QbA (fun σ' H'=>σ'=[some (.ref t),some (.int i),some (.ref a),some (.int (Zt (rAt x.rs i).kind:Nat)),some (.int (Vaacca.bit (rAt x.rs i).off:Nat)),some (.int (nv:Nat))]/\H'=H) ?_ ?_;rotate_left
   ·intro nx' hnx;refine⟨_,rfl,a,C.Box,bx,bs,_,rfl,b2,cB,T.qg,b3.kind,rfl,_,rfl,?_⟩;rw[lit (s:="check") (a:=Xa "check") (by decide +kernel)]
    by_cases e:(rAt x.rs i).kind=Xa "check"
    ·rw[if_pos e] at hon;rw[decide_eq_true e];refine Qr ⟨_,rfl,t,C.Teller,dx,fs,_,rfl,o1,cT,T.qq,o6,_,rfl,x.lo,_,_,_,rfl,rfl,SqL.of hT.on,QbE hj,_,rfl,?_⟩;cases e2:x.os.getD i false with
     | true=>
      rw[e2,if_pos rfl] at hon;subst hon;exact Qr (hnx _ _ ⟨by rw[hof];rfl,rfl⟩)
     | false=>
      rw[e2,if_neg (by decide)] at hon;subst hon;exact Qv (hnx _ _ ⟨by rw[hof];rfl,rfl⟩)
    ·rw[if_neg e] at hon;subst hon;rw[decide_eq_false e];exact Qv (nX (hnx _ _ ⟨by rw[hof];rfl,rfl⟩))
   rintro σ1 H1 ⟨rfl,rfl⟩;refine⟨_,rfl,_,rfl,t,x,i,rfl,hT,hi,λr hr'=>?_⟩;obtain⟨rx,rf,rl,r1,r2,r3⟩:=hr';refine⟨r,C.Rule,rx,rf,_,rfl,r1,cR,T.qM,r2.role,_,rfl,by rw[QI];omega,λH2 q s2 hq hq2=>?_⟩;refine⟨_,rfl,_,rfl,_,rfl,by show 3<=sizeLine;decide,λq3 hq3=>?_⟩;refine⟨q,q3,_,_,rfl,rfl,Qe.new hq3 _ _ hq2,Qh,?_,λz hz=>k _ z ((s2.trans (Qe.new hq3)).trans (Qe.new hz)) (Qe.free (s2.trans (Qe.new hq3)) hz) ?_⟩
   ·rw[Xb,YV,QI];show _+3<=_;omega
   ·rw[Qh,Qbo,Zm,hof];rfl
theorem Ans.told{C:Cs}{t:Addr}{s s':State}{c:Call}{H:Hp}{Q:VK}{l:List Nat}(h:Ans C t s c H Q)(e:UW s c=.ok (s',l)):l.length<=10000000/\∀H' p x',Zn C H' t s' x'->Kp C H H'->H p=none->H' p=some (.lst (Qah l))->Q (.ref p) H':=by
 have e1:Ua s c=(s',.told l):=by unfold Ua;rw[e]
 unfold Ans Qa9 at h;rw[e1] at h;refine⟨by have:=h.1;rw[show Ub (.told l)=l.map Xan from rfl,Xb] at this;exact this,λH' p x' q kp hp hd=>h.2 H' p x' q kp hp ?_⟩;rw[hd,show Ub (.told l)=l.map Xan from rfl,Xr];rfl
theorem Qbx:Qm ["teller","text","page"] ["teller","text"] (Qg (top 99)):=Qsx
theorem Qfy(T:Pg P w K mg C):Ok P w K mg base 8 "answer_page" ["teller","text"] (QbR C .page):=by
 have A0:=T.apt;refine T.j0.ok Qbx (λvs H Q E h=>?_) (λf cdv A outer s H vs Q E hr h=>?_)
 ·obtain⟨t,s,x,n,rfl,_⟩:=h;rfl
 ·obtain⟨t,s,x,n,rfl,hS,hn,k⟩:=h;have hT:=hS.tel;have cP:=T.qb.1;obtain⟨dx,fs,o1,o2,o3,o4,o5,o6⟩:=hT.obj;intro X;refine⟨_,(Qd (Qx (i:=2) Qbx.nd rfl (by first|exact .inl rfl|exact .inr rfl) (Qk (QcN T) (Qp hr) rfl (Qa (pv 1) Qc)))
   (Qd (Q1 (Z7 (QaJ (pv 2))) (Qi (Ql (Q0 (Qa (QL rfl T.qJ) Qc)))) QC)
   (Qd (JF (Qk (QcO T) (Qp hr) rfl (Qa (pv 0) (Qa (pv 2) Qc))))
   (Qi (Ql (Q0 (Qa (Qs Qw rfl T.qa Xv (Qa (Qj (pv 2) rfl) Qc)) Qc))))))),?_⟩
  refine⟨_,rfl,n.map Ji,rfl,by rw[Xb];omega,?_⟩;rw[Qg9,Qkx];have hd:UW s (.page n)=Xbn (Uj n) 1 λp=>.ok ({ s with page:=p,now:=Xbm p },[p.length]):=rfl
  cases e:Uj n with
  | none=>
   rw[e] at hd;have k:=k.refused (n:=1) hd hS;intro H1 s1;exact⟨_,rfl,_,rfl,Qr ⟨XJ _,λp hp=>k _ p (s1.trans (Qe.new hp)) (Qe.free s1 hp) Qh⟩⟩
  | some pp=>
   rw[e] at hd;obtain⟨_,k⟩:=k.told (s':={ s with page:=pp,now:=Xbm pp }) (l:=[pp.length]) hd;have hpp:=Qg8 e;intro H1 pg as s1 hpg hP;have plen:(pp.map rb).length<=16:=by rw[Xb];exact (JK hpp).2.2.2.2
   refine⟨_,rfl,_,rfl,Qv (nX ?_)⟩;refine⟨_,rfl,_,rfl,t,dx,fs,pg,as,pp.map rb,rfl,s1 _ _ o1,o2,hP,by omega,λH2 f2 lh lo tk=>?_⟩;obtain⟨px,ps,lb,dp,lp,p1,p2,p3,p4,p5,p6,p7,p8⟩:=hP.tel A0 tk.same;have hR:JI C H1 x.d x.ras (s.rules.map rr):=by rw[<-hS.rl];exact hT.rules.mono s1
   have few2:f2.length<100:=by
    have:=tk.few;rw[o4,o5,o6] at this;exact Nat.lt_of_le_of_lt this o2
   have st:=tk.st A0 hP hpp hR hS.si.rules o3 few2;have kp:Kp C H H2:=(Kp.of s1).trans (tk.same.kp tk.dom);refine⟨_,rfl,pg,C.Page,px,ps,_,rfl,p1,cP,T.qe,p3,lb,_,rfl,.inl (SqL.of p6.lst),XJ _,λq hq=>k _ q _ (st.mono (Qe.new hq)) (kp.trans (Kp.of (Qe.new hq))) (kp.dom q hq) ?_⟩;rw[Qh,Xb,p6.len,Xb];rfl
theorem Qm9{d:Addr}{o:Obj}{kvs:List (Key × V)}{H:Hp}(h:H d=some (.frz o (.dK kvs))):QbV (Itd d o kvs) H kvs.length (λi x _=>∃k,kvs[i]?=some (k,x)) where
 go:=λi H' s hi=>⟨s _ _ h,hi⟩
 yld:=λi H1 x H2 s hi y=>by
  obtain⟨e,y⟩:=y;subst e;exact⟨Qe.refl _,y⟩
 stop:=λi H' s hi=>⟨s _ _ h,hi⟩
theorem Qkc{l:List Xa4}:((Xs l.length).filter λi=>((l.map rr).getD i Qdr).whole).length=(l.filter λr=>r.whole).length:=by
 have e:=Qam (l.map rr) Qdr (λr=>r.whole) (λr=>r);rw[Xb] at e;have e2:=congrArg XO e;rw[Xb,Xb,Uz,Xb] at e2;exact e2
theorem Z2:Qm ["teller","text","rules","rule"] ["teller","text"] (Qg (top 100)):=Qsx
theorem Qek(T:Pg P w K mg C):Ok P w K mg base 5 "answer_rules" ["teller","text"] (QbR C .rules):=by
 have A0:=T.apt;refine T.j1.ok Z2 (λvs H Q E h=>?_) (λf cdv A outer s H vs Q E hr h=>?_)
 ·obtain⟨t,s,x,n,rfl,_⟩:=h;rfl
 ·obtain⟨t,s,x,n,rfl,hS,hn,k⟩:=h;have hT:=hS.tel;have cT:=T.qd.1;have cR:=T.qi.1;obtain⟨dx,fs,o1,o2,o3,o4,o5,o6⟩:=hT.obj;intro X;refine⟨_,(Qd (Qx (i:=2) Z2.nd rfl (by first|exact .inl rfl|exact .inr rfl) (Qk (Qb1 T) (Qp hr) rfl (Qa (pv 1) Qc)))
   (Qd (Q1 (Z7 (QaJ (pv 2))) (Qi (Ql (Q0 (Qa (QL rfl T.qJ) Qc)))) QC)
   (Qd (Ju (pv 0) (pv 2) rfl)
   (Qi (Ql (Q0 (Qa (Qs Qw rfl T.qa Xv (Qa (Qpy (JR rfl Z2.nd (QmI (pv 2)) (own:=[("rule",3)]) (QK (N:=["teller","text","rules","rule"]) (sc:=Qg (top 100)) (by decide +kernel)) (λ_ _ _ _ _=>(QH (i:=3) Z2.nd rfl (by first|exact .inl rfl|exact .inr rfl))) (λ_ _ _ _ _=>(YM (Js (Zr K (pv 3) rfl)))) (λ_ _ _ _ _=>(pv 3)))) Qc)) Qc))))))),?_⟩
  refine⟨_,rfl,n.map Ji,rfl,by rw[Xb];omega,?_⟩;rw[QfT,Qjz];have hd:UW s (.rules n)=Xbn (X9 n) 1 λl=>.ok ({ s with rules:=l },[(l.filter λr=>r.whole).length]):=rfl
  cases e:X9 n with
  | none=>
   rw[e] at hd;have k:=k.refused (n:=1) hd hS;intro H1 s1;exact⟨_,rfl,_,rfl,Qr ⟨XJ _,λp hp=>k _ p (s1.trans (Qe.new hp)) (Qe.free s1 hp) Qh⟩⟩
  | some l=>
   rw[e] at hd;obtain⟨_,k⟩:=k.told (s':={ s with rules:=l }) (l:=[(l.filter λr:Xa4=>r.whole).length]) hd;have hl:=Qd6 e;have hlen:l.length=19:=by
    have:=hl;unfold UA at this;rw[Xd] at this;exact eq_of_beq this.1
   intro H1 d ras s1 hd1 hR;have hRl:(l.map rr).length=19:=by rw[Xb];exact hlen
   refine⟨_,rfl,_,rfl,Qv (nX ?_)⟩;refine⟨_,rfl,QM rfl (s1 _ _ o1) cT T.qO (by omega) λH2 f2 e2 K2 h2 l2=>?_⟩;have S2:Zk C H1 H2:=Zk.keep (s1 _ _ o1) K2;have d12:=Qaf K2 h2;have hR2:=hR.tel A0 S2;have fl:f2.length=fs.length:=by rw[e2];exact QcU o3
   have hS2:Zn C H2 t { s with rules:=l } { x with d:=d,ras:=ras,rl:=l.map rr }:=by
    refine⟨⟨⟨dx,f2,h2,by omega,by show Xz _ _=_;rw[e2,JU],by show Xz _ _=_;rw[e2,QD (by decide +kernel)];exact o4,by show Xz _ _=_;rw[e2,QD (by decide +kernel)];exact o5,by show Xz _ _=_;rw[e2,QD (by decide +kernel)];exact o6⟩,(hT.page.mono s1).tel A0 S2,hR2,hRl,S2 _ _ (s1 _ _ hT.hid) (λ_ _ q=>nomatch q),S2 _ _ (s1 _ _ hT.on) (λ_ _ q=>nomatch q),hT.apart,hT.pos,hT.few,hT.hl,hT.ol,hT.kinds⟩,hS.rs,rfl,hS.si.newRules hl⟩
   have kp2:Kp C H H2:=(Kp.of s1).trans (S2.kp d12);have klen:(Zi ras).length=19:=by
    unfold Zi;rw[Xb,XaQ,hR2.len,hRl];decide +kernel
   dsimp only;refine⟨d,_,hR2.dict,trivial,λod=>?_⟩;refine tlc ?_;refine⟨_,rfl,d,od,_,rfl,Qh,?_⟩;refine lcF (Qm9 Qh) (by rw[klen];decide) (λi=>((l.map rr).getD i Qdr).whole) (λi=>.ref (ras.getD i 0)) (λi v H3 hi s3 rx Qy Qn q1 q2=>?_) λD H3 hD s3 hd3=>?_
   ·rw[klen] at hi;obtain⟨kk,hk⟩:=rx;have er:(l.map rr)[i]?=some ((l.map rr).getD i Qdr):=by rw[Xf,Xe (by omega)];rfl
    obtain⟨a,ea,hRa⟩:=hR2.rule i _ er;have ev:v=.ref a:=by
     unfold Zi at hk;rw[Xg] at hk;obtain⟨pr,hp1,hp2⟩:=X6.mp hk;have:=(Xau.mp hp1).2;rw[ea] at this;have e3:=congrArg Prod.snd hp2;rw[<-Xc this] at e3;exact e3.symm
    subst ev;obtain⟨rx,rf,rl,r1,r2,r3⟩:=(hRa.updD hR2.dict (o:=.frz od (.dK (Zi ras)))).mono s3;refine⟨rfl,_,rfl,a,C.Rule,rx,rf,_,rfl,r1,cR,T.qE,r2.whole,_,rfl,?_⟩;have e4:ras.getD i 0=a:=by rw[Xf,ea];rfl
    rw[e4] at q1;cases e5:((l.map rr).getD i Qdr).whole with
    | true=>exact Qr ⟨_,rfl,q1 e5 H3 (Qe.refl _)⟩
    | false=>exact Qv (q2 e5 H3 (Qe.refl _))
   ·have hf3:H3 d=some (.frz od (.dK (Zi ras))):=s3 _ _ Qh;have nD:D≠d:=λq=>by
     rw[q,hf3] at hd3;cases hd3
    have s4:Qe H2 (upd H3 d (.dK (Zi ras))):=λb o hb=>by
     by_cases q:b=d
     ·subst q;rw[Qh,<-hb];exact hR2.dict.symm
     ·rw[Qq q];exact s3 _ _ (by rw[Qq q];exact hb)
    refine⟨hf3,D,_,rfl,.inl (SqL.of (by rw[Qq nD];exact hd3)),XJ _,λq hq=>k _ q _ (hS2.mono (s4.trans (Qe.new hq))) (kp2.trans (Kp.of (s4.trans (Qe.new hq)))) (kp2.dom q (Qe.free s4 hq)) ?_⟩;rw[Qh,Xb,klen,<-hlen,Qkc];rfl
theorem QdS(l:List Bool):(l.map V.bl).countP (λz=>eqV z (V.bl true))=l.count true:=by
 rw[List.countP_map,List.count];congr 1
theorem Qlk(l:List Bool):(l.map V.bl).all Yw=true:=by
 rw[Ut];exact Xl.mpr λ_ _=>rfl
theorem Qnl{p:List UD}{hs:List Bool}{i:Nat}:QoY p hs i=QiD (p.map rb) hs i:=by
 unfold QoY QiD;have e:Qc5 p hs i=Qc6 (p.map rb) hs i:=by
  unfold Qc5 Qc6;have:Qce p hs=WR (p.map rb) hs (p.map rb).length:=by
   unfold Qce WR;rw[Xb];rfl
  rw[this]<;>(cases WR (p.map rb) hs (p.map rb).length<;>rfl)
 rw[e];rfl
theorem Qeq:Qm ["teller","place"] ["teller","place"] (Qg (top 101)):=Qsx
theorem Qej(T:Pg P w K mg C):Ok P w K mg base 5 "answer_press" ["teller","place"] (YX C .press):=by
 refine T.j2.ok Qeq (λvs H Q E h=>?_) (λf cdv A outer s H vs Q E hr h=>?_)
 ·obtain⟨t,s,x,i,b,rfl,_⟩:=h;rfl
 ·obtain⟨t,s,x,i,b,rfl,hS,hb,k⟩:=h;have hT:=hS.tel;have hX:=hS.ok;have hi:=hS.lt hb;have cT:=T.qd.1;have cP:=T.qb.1;obtain⟨pk,ok,nm,_⟩:=JK hS.si.page;have eb:rAt x.rs i=rb b:=by rw[hS.rs,Zh hb]
  have hd:UW s (.press b.id)=if Qbh (rb b)=false then .error 5 else if QiD x.rs x.hs i=false then .error 6 else .ok ({ s with now:=UE s.page s.now b },[(UE s.page s.now b).hidden.length,(UE s.page s.now b).on.length]):=by
   have e1:Xa0 ⟨s.page,s.rules,s.now⟩ b.id=if Qbh (rb b)=false then .error 5 else if QiD x.rs x.hs i=false then .error 6 else .ok (({ page:=s.page,rules:=s.rules,now:=UE s.page s.now b }:XbY),[(UE s.page s.now b).hidden.length,(UE s.page s.now b).on.length]):=by
    unfold Xa0 Vaacca.given;rw[show U9 (XbY.mk s.page s.rules s.now).page b.id=some b from hS.box hb];show (if (b.kind==.check||(Vaacca.isPressable b.kind&&!b.press.isEmpty))=false then _ else if Vaacca.canPress s.page s.now b=false then _ else _)=_;rw[Qlj (ok b (Xo hb)),QqE pk ok hS.si.now hb,Qnl,<-hS.rs]
   show Xa1 s b.id=_;unfold Xa1;rw[e1]
   by_cases q1:Qbh (rb b)=false
   ·rw[if_pos q1,if_pos q1]
   ·rw[if_neg q1,if_neg q1]
    by_cases q2:QiD x.rs x.hs i=false
    ·rw[if_pos q2,if_pos q2]
    ·rw[if_neg q2,if_neg q2]
  intro X;refine⟨_,(Qd (Q1 (Zg (Js (Qk (WH T) (Qp hr) rfl (Qa (QV QJ (Qj (Qj (pv 0) rfl) rfl) (pv 1) (λ_ _=>rfl)) Qc)))) (Qi (Ql (Q0 (Qa (QL rfl T.zF) Qc)))) QC)
   (Qd (Q1 (Zg (Js (Qk (QcJ T) (Qp hr) rfl (Qa (pv 0) (Qa (pv 1) Qc))))) (Qi (Ql (Q0 (Qa (QL rfl T.qV) Qc)))) QC)
   (Qd (JF (Qk (Qh0 T) (Qp hr) rfl (Qa (pv 0) (Qa (pv 1) Qc))))
   (Qi (Ql (Q0 (Qa (J4 XD XaE Xbr Qg5 (Qj (pv 0) rfl) (Qa Qd2 Qc)) (Qa (J4 XD XaE Xbr Qg5 (Qj (pv 0) rfl) (Qa Qd2 Qc)) Qc)))))))),?_⟩
  obtain⟨dx,fs,o1,o2,o3,o4,o5,o6⟩:=hT.obj;obtain⟨px,ps,lb,dp,lp,p1,p2,p3,p4,p5,p6,p7,p8⟩:=hT.page;obtain⟨a,ea,hB⟩:=p6.box i _ (QU hi);have b1:atI (x.as.map V.ref) (i:Int)=some (.ref a):=JN (j:=i) rfl (by rw[Xg,ea];rfl);refine⟨_,rfl,t,C.Teller,dx,fs,_,rfl,o1,cT,T.qc,o4,x.pg,C.Page,px,ps,_,rfl,p1,cP,T.qe,p3,_,rfl,lb,_,_,_,rfl,rfl,SqL.of p6.lst,b1,a,_,rfl,hB,λH1 s1=>⟨_,rfl,?_⟩⟩;rw[eb];cases e1:Qbh (rb b) with
  | false=>
   rw[e1,if_pos rfl] at hd;have k:=k.refused hd hS;exact Qr ⟨XJ _,λp hp=>k _ p (s1.trans (Qe.new hp)) (Qe.free s1 hp) Qh⟩
  | true=>
   rw[e1,if_neg (by decide)] at hd;refine Qv (nX ⟨_,rfl,_,rfl,t,x,i,rfl,hT.mono s1,hi,λH2 s2=>⟨_,rfl,?_⟩⟩);cases e2:QiD x.rs x.hs i with
   | false=>
    rw[e2,if_pos rfl] at hd;have k:=k.refused hd hS;exact Qr ⟨XJ _,λp hp=>k _ p ((s1.trans s2).trans (Qe.new hp)) (Qe.free (s1.trans s2) hp) Qh⟩
   | true=>
    rw[e2,if_neg (by decide)] at hd;obtain⟨_,k⟩:=k.told hd;have ids:QN x.rs=U4 s.page:=by rw[hS.rs,Qca]
    refine Qv (nX ⟨_,rfl,_,rfl,t,x,i,rfl,hT.mono (s1.trans s2),hi,hX.nodup,λa ha=>hX.acts _ (Xo (QU hi)) a ha,λH3 hT3 k3=>?_⟩);have kp:Kp C H H3:=(Kp.of (s1.trans s2)).trans k3;have hS3:Zn C H3 t { s with now:=UE s.page s.now b } (x.pressed i):=by
     refine⟨hT3,hS.rs,hS.rl,?_⟩;have:=hS.si.press hb;rw[<-ids,<-eb] at this;exact this
    obtain⟨dx,fs,o1,o2,o3,o4,o5,o6⟩:=hT3.obj;refine⟨_,rfl,t,C.Teller,dx,fs,_,rfl,o1,cT,T.qm,o5,.inl ⟨rfl,_,SqL.of hT3.hid⟩,x.lh,_,_,rfl,rfl,SqL.of hT3.hid,rfl,Qlk _,_,rfl,t,C.Teller,dx,fs,_,rfl,o1,cT,T.qq,o6,.inl ⟨rfl,_,SqL.of hT3.on⟩,x.lo,_,_,rfl,rfl,SqL.of hT3.on,rfl,Qlk _,by show 2<=sizeLine;decide,λq hq=>k _ q _ (hS3.mono (Qe.new hq)) (kp.trans (Kp.of (Qe.new hq))) (kp.dom q hq) ?_⟩;rw[Qh,QdS,QdS];have n3:=hS3.si.now;have h1:(UE s.page s.now b).hidden=sel s.page (x.pressed i).hs:=n3.hid;have h2:(UE s.page s.now b).on=sel s.page (x.pressed i).os:=n3.on;rw[h1,h2,QlM n3.hl,QlM n3.ol];rfl
theorem QjF{α β:Type}(f:α->β){l:List α}{i:Nat}{v:α}{w:α}(h:l[i]?=some v)(e:f w=f v):(l.set i w).map f=l.map f:=by
 rw[Xay,e];apply List.ext_getElem?;intro j;rw[U2]
 split
 ·rename_i q
  subst q
  split
  ·rw[Xg,h];rfl
  ·rename_i q
   rw[Xb] at q;have:=(Xp.mp h).1;omega
 ·rfl
theorem QkB{rs:List QF}{i:Nat}{r:QF}(h:i<rs.length)(e1:r.ident=(rAt rs i).ident):JA (rs.set i r)=JA rs:=by
 unfold JA J7;rw[QjF (·.ident) (QU h) e1,Ud]
theorem Qjq{rs:List QF}{i:Nat}{r:QF}(h:i<rs.length)(e1:r.deep=(rAt rs i).deep):Jx (rs.set i r)=Jx rs:=by
 unfold Jx Q6;rw[QjF (·.deep) (QU h) e1,Ud]
def Qmq(r:QF)(n:Qb):QF:={ r with label:=n }
theorem QG.lab(A:Apt C){H:Hp}{t:Addr}{x:TS'}(h:QG C H t x)(hn:(QN x.rs).Nodup){i:Nat}(hi:i<x.rs.length){a bx:Addr}{bs:List (Str × V)}(ea:x.as[i]?=some a)(hb:H a=some (.ins C.Box bx bs))(n:Qb) :
  QG C (L2.upd H a (.ins C.Box bx (Yr "label" (.str (S n)) bs))) t { x with rs:=x.rs.set i (Qmq (rAt x.rs i) n) }:=by
 obtain⟨dx,fs,o1,o2⟩:=h.obj;obtain⟨px,ps,lb,dp,lp,p1,p2,p3,p4,p5,p6,p7,p8⟩:=h.page;have kp:Zj a H (L2.upd H a (.ins C.Box bx (Yr "label" (.str (S n)) bs))):=(Zj.refl a H).upd;have nl:∀{b:Addr} {zs:List V},H b=some (.lst zs)->b≠a:=λhz=>Q8 hz hb λq=>nomatch q
 have nt:∀{b:Addr} {zs:List V},H b=some (.tup zs)->b≠a:=λhz=>Q8 hz hb λq=>nomatch q
 have nd:∀{b:Addr} {zs:List (Key × V)},H b=some (.dK zs)->b≠a:=λhz=>Q8 hz hb λq=>nomatch q
 refine⟨⟨dx,fs,kp _ _ o1 (Q8 o1 hb λq=>A.TB (HO.ins.inj q).1),o2⟩,⟨px,ps,lb,dp,lp,kp _ _ p1 (Q8 p1 hb λq=>A.PB (HO.ins.inj q).1),p2,p3,p4,p5,⟨kp _ _ p6.lst (nl p6.lst),by show x.as.length=_;rw[Ud];exact p6.len,?_⟩,?_,?_⟩,⟨kp _ _ h.rules.dict (nd h.rules.dict),h.rules.len,?_⟩,h.rlen,kp _ _ h.hid (nl h.hid),kp _ _ h.on (nl h.on),h.apart,by show 1<=(x.rs.set i _).length;rw[Ud];exact h.pos,by show (x.rs.set i _).length<=16;rw[Ud];exact h.few,by show x.hs.length=(x.rs.set i _).length;rw[Ud];exact h.hl,by show x.os.length=(x.rs.set i _).length;rw[Ud];exact h.ol,?_⟩
 ·intro j r ej;rw[U2] at ej
  by_cases q:i=j
  ·subst q;rw[if_pos rfl,if_pos hi] at ej;have ej:=Xc ej;subst ej;obtain⟨a',ea',dx',fs',la,aa,ys,h1,F,h3,h4,h5⟩:=p6.box i _ (QU hi);have e0:a'=a:=Xc (ea'.symm.trans ea);subst e0;have e1:=HO.ins.inj (Xc (h1.symm.trans hb));obtain⟨_,e2,e3⟩:=e1;subst e2;subst e3;refine⟨a',ea,dx',_,la,aa,ys,Qh,⟨?_,?_,?_,?_,?_,?_,?_,?_,?_,?_,?_,?_⟩,kp _ _ h3 (nl h3),kp _ _ h4 (nl h4),h5.tups λb xs hb'=>kp _ _ hb' (nt hb')⟩
   ·rw[QcU F.label];exact F.few
   ·show Xz _ _=_;rw[QD (by decide +kernel)];exact F.depth
   ·show Xz _ _=_;rw[QD (by decide +kernel)];exact F.kind
   ·show Xz _ _=_;rw[QD (by decide +kernel)];exact F.ident
   ·show Xz _ _=_;rw[QD (by decide +kernel)];exact F.text
   ·show Xz _ _=_;rw[JU];rfl
   ·show Xz _ _=_;rw[QD (by decide +kernel)];exact F.by_
   ·show Xz _ _=_;rw[QD (by decide +kernel)];exact F.hint
   ·show Xz _ _=_;rw[QD (by decide +kernel)];exact F.hidden
   ·show Xz _ _=_;rw[QD (by decide +kernel)];exact F.off
   ·show Xz _ _=_;rw[QD (by decide +kernel)];exact F.on
   ·show Xz _ _=_;rw[QD (by decide +kernel)];exact F.acts
  ·rw[if_neg q] at ej;obtain⟨a',ea',dx',fs',la,aa,ys,h1,F,h3,h4,h5⟩:=p6.box j r ej;obtain⟨ai,eai,dxi,fsi,lai,aai,ysi,i1,Fi,_⟩:=p6.box i _ (QU hi);have e0:ai=a:=Xc (eai.symm.trans ea);subst e0;have na:a'≠ai:=λz=>by
    subst z;have e1:=(HO.ins.inj (Xc (h1.symm.trans i1))).2.2;subst e1;have e2:=F.ident.symm.trans Fi.ident;have e3:r.ident=(rAt x.rs i).ident:=YT (V.str.inj (Xc e2));refine q (QnP hn (x:=r.ident) (i:=i) (j:=j) ?_ ?_)
    ·rw[Xg,QU hi,e3];rfl
    ·rw[Xg,ej];rfl
   exact⟨a',ea',dx',fs',la,aa,ys,kp _ _ h1 na,F,kp _ _ h3 (nl h3),kp _ _ h4 (nl h4),h5.tups λb xs hb'=>kp _ _ hb' (nt hb')⟩
 ·show _=some (HO.dK (JA (x.rs.set i (Qmq (rAt x.rs i) n))));rw[QkB (r:=Qmq (rAt x.rs i) n) hi rfl];exact kp _ _ p7 (nd p7)
 ·show _=some (HO.lst ((Jx (x.rs.set i (Qmq (rAt x.rs i) n))).map V.int));rw[Qjq (r:=Qmq (rAt x.rs i) n) hi rfl];exact kp _ _ p8 (nl p8)
 ·intro j r ej;obtain⟨a',ea',dx',fs',la,h1,F,h3⟩:=h.rules.rule j r ej;exact⟨a',ea',dx',fs',la,kp _ _ h1 (Q8 h1 hb λq=>A.RB (HO.ins.inj q).1),F,kp _ _ h3 (nl h3)⟩
 ·intro r hr;rcases List.mem_or_eq_of_mem_set hr with q | q
  ·exact h.kinds r q
  ·rw[q];exact h.kinds (rAt x.rs i) (Xo (QU hi))
def QkO(C:Cs):Sp:=λvs H Q _=>Qj0 λ(t:Addr) (s:State) (x:TS') (i:Nat) (b:UD) (n:Qb)=>vs=[.ref t,.int i,.str (S (n.map Ji))]/\Zn C H t s x/\s.page[i]?=some b/\n.length<=4000/\Ans C t s (.label b.id n) H Q
theorem Y0:Qm ["teller","place","saying","box","label_before"] ["teller","place","saying"] (Qg (top 109)):=Qsx
theorem Qei(T:Pg P w K mg C):Ok P w K mg base 3 "answer_label" ["teller","place","saying"] (QkO C):=by
 have A0:=T.apt;refine T.za.ok Y0 (λvs H Q E h=>?_) (λf cdv A outer s H vs Q E hr h=>?_)
 ·obtain⟨t,s,x,i,b,n,rfl,_⟩:=h;rfl
 ·obtain⟨t,s,x,i,b,n,rfl,hS,hb,hn,k⟩:=h;have hT:=hS.tel;have hX:=hS.ok;have hi:=hS.lt hb;have cT:=T.qd.1;have cP:=T.qb.1;have cB:=T.qf.1;obtain⟨pk,ok,nm,_⟩:=JK hS.si.page;have eb:rAt x.rs i=rb b:=by rw[hS.rs,Zh hb]
  have hd:UW s (.label b.id n)=if (n.isEmpty||Uv n)=false then .error 1 else .ok ({ s with page:=Xbv s.page b.id n },XN b.label):=by
   show UJ s b.id _=_;rw[Wl (hS.box hb)]
  have em:(n.map Ji).isEmpty=n.isEmpty:=by cases n<;>rfl
  intro X;refine⟨_,(Qd (Q1 (PW.pt (QfQ (QE Qa4 (pv 2) QB (Qz _)) (QcW (Zg (Js (Qk (QcM T) (Qp hr) rfl (Qa (pv 2) Qc))))))) (Qi (Ql (Q0 (Qa (QL rfl T.qJ) Qc)))) QC)
   (Qd (Qx (i:=3) Y0.nd rfl (by first|exact .inl rfl|exact .inr rfl) (QV QJ (Qj (Qj (pv 0) rfl) rfl) (pv 1) (λ_ _=>rfl)))
   (Qd (Qx (i:=4) Y0.nd rfl (by first|exact .inl rfl|exact .inr rfl) (Qj (pv 3) rfl))
   (Qd (Ju (pv 3) (pv 2) rfl)
   (Qi (Ql (Qk (Jq T) (Qp hr) rfl (Qa (pv 4) Qc)))))))),?_⟩
  obtain⟨dx,fs,o1,o2,o3,o4,o5,o6⟩:=hT.obj;refine QbA (fun σ' H1=>σ'=[some (.ref t),some (.int i),some (.str (S (n.map Ji))),none,none]/\Qe H H1/\(n.isEmpty||Uv n)=true) ?_ ?_
  ·rintro σ' H1 ⟨rfl,s1,hc⟩;rw[hc,if_neg (by decide)] at hd;obtain⟨_,k⟩:=k.told hd;have hor:n=[]\/Uv n=true:=by
    rw[Xch] at hc;exact hc.imp UB.mp id
   have hkn:n.map Ji=n:=by
    rcases hor with q | q
    ·rw[q];rfl
    ·exact (Sg.saying q).known
   have hT1:=hT.mono s1;obtain⟨dx,fs,o1,o2,o3,o4,o5,o6⟩:=hT1.obj;obtain⟨px,ps,lb,dp,lp,p1,p2,p3,p4,p5,p6,p7,p8⟩:=hT1.page;obtain⟨a,ea,bx,bs,la,aa,ys,b2,b3,b4,b5,b6⟩:=p6.box i _ (QU hi);have b1:atI (x.as.map V.ref) (i:Int)=some (.ref a):=JN (j:=i) rfl (by rw[Xg,ea];rfl);have ll:=(Qal hX.short i).1;refine⟨_,rfl,t,C.Teller,dx,fs,_,rfl,o1,cT,T.qc,o4,x.pg,C.Page,px,ps,_,rfl,p1,cP,T.qe,p3,_,rfl,lb,_,_,_,rfl,rfl,SqL.of p6.lst,b1,?_⟩;refine gN ?_;dsimp only;refine⟨_,rfl,a,C.Box,bx,bs,_,rfl,b2,cB,T.qA,b3.label,?_⟩;refine gN ?_;dsimp only;refine⟨_,rfl,_,rfl,a,C.Box,bx,bs,rfl,b2,cB,T.qA,by have:=b3.few;omega,?_⟩;rw[hkn];have hT2:=hT1.lab A0 hX.nodup hi ea b2 n;have k2:Kp C H1 (upd H1 a (.ins C.Box bx (Yr "label" (.str (S n)) bs))):=⟨λc o hc' nl=>by
    rw[Qq]
    ·exact hc'
    ·intro q;subst q;exact nl (.inr (.inl ⟨_,_,Xc (hc'.symm.trans b2)⟩)),QlU⟩
   have hS2:Zn C (upd H1 a (.ins C.Box bx (Yr "label" (.str (S n)) bs))) t { s with page:=Xbv s.page b.id n } { x with rs:=x.rs.set i (Qmq (rAt x.rs i) n) }:=by
    refine⟨hT2,?_,hS.rl,hS.si.relabel b.id hor⟩;show x.rs.set i _=(Xbv s.page b.id n).map rb;rw[QqV pk.nodup hb n,Xay,eb,hS.rs];rfl
   generalize upd H1 a (.ins C.Box bx (Yr "label" (.str (S n)) bs))=H2 at k2 hS2 ⊢;have kp:Kp C H H2:=(Kp.of s1).trans k2;refine⟨_,rfl,_,rfl,by rw[QI];omega,λH3 q s3 hq hq3=>k H3 q _ (hS2.mono s3) (kp.trans (Kp.of s3)) (kp.dom q hq) ?_⟩;rw[hq3,eb,Zm];rfl
  ·intro nx' hnx;refine⟨_,rfl,rfl,_,rfl,?_⟩;rw[QhS,em];cases e:n.isEmpty with
   | true=>
    refine Qv ?_;dsimp only;exact Qv (nX (hnx _ _ ⟨rfl,Qe.refl _,by rw[e];rfl⟩))
   | false=>
    refine Qr ⟨_,rfl,n.map Ji,rfl,by rw[Xb,QI];omega,λH1 s1=>⟨_,rfl,?_⟩⟩;rw[QkI];cases e2:Uv n with
    | true=>exact Qv (nX (hnx _ _ ⟨rfl,s1,by rw[e,e2];rfl⟩))
    | false=>
     rw[e,e2,if_pos (show (false||false)=false from rfl)] at hd;have k:=k.refused hd hS;exact Qr ⟨XJ _,λp hp=>k _ p (s1.trans (Qe.new hp)) (Qe.free s1 hp) Qh⟩
def FOk(P:Program)(w:World)(K:Xt)(mg:Str->Option Value)(base:Heap)(kk:Nat)(v:V)(sp:Sp):Prop:=YS λ(k:Nat) (x:Str) (ps:List Str) (f:Addr)=>k<=kk/\v=.ref f/\mg x=some (.ref f)/\Ok P w K mg base k x ps sp
abbrev Qru(F:V->Sp->Prop)(tf:TE)(t:TA):TE:=fun σ H Q=>tf σ H λv H1=>∃sp,F v sp/\t σ H1 λvs H2=>sp vs H2 Q E0
section
variable {X:Cx} {o i e:Expr} {es:List Expr} {tf:TE} {t:TA} {spos pos:Pos} {kk:Nat}
theorem QfK(hr:ZM kk X.A)(hf:PE X (.Subscript o i spos) tf)(ha:PA X (e::es) t)
  (he:starEach (e::es) X.env=(false,eval e X.env)::starEach es X.env:=by rfl) (hpl:(backTo pos (starEach es X.env)).any (·.1)=false:=by rfl)
  (hev:eval (.Call (.Subscript o i spos) (e::es) [] pos) X.env=(do callWith pos (<-eval (.Subscript o i spos) X.env) [] (backTo pos (starEach (e::es) X.env)) (backToKw pos (keywordEach [] X.env))):=by rfl) :
  PE X (.Call (.Subscript o i spos) (e::es) [] pos) (Qru (FOk X.prog X.w X.K X.mg X.base kk) tf t):=by
 intro pins s σ H Q I h;rw[hev];refine wpAny_bind (thn (hf pins s σ H _ I h) λu s1 ⟨v,H1,I1,rv,sp,⟨k,x,ps,f,hk,ev,hm,F⟩,q⟩=>?_);subst ev;obtain rfl:u=Value.ref f:=rv;obtain⟨f',fd,G,b,m,kp⟩:=F;have e1:f'=f:=by
  have:=m.symm.trans hm;injection this with this;injection this
 subst e1;refine PySem.W.callWith_K (h₀:=X.base) I1.ok.mod.kin kp (thn (ha pos pins s1 σ H1 _ I1 q) λus s2 ⟨vs,H2,I2,r,q2⟩=>⟨I2.kIn,?_⟩) he hpl;exact Qog (dvs:=[]) G (hr.mono hk) b .nil QlD I2 r (by rw[XG];exact q2)
end
structure KpR(C:Cs)(rd:Addr)(H H':Hp):Prop where
 keep:∀b o,H b=some o->b≠rd->¬Qgz C o->H' b=some o
 dom:∀b,H' b=none->H b=none
theorem KpR.of{C:Cs}{rd:Addr}{H H':Hp}{o:HO}(k:Zj rd H H')(h:H' rd=some o):KpR C rd H H':=⟨λb o e n _=>k b o e n,Qaf k h⟩
theorem KpR.trans{C:Cs}{rd:Addr}{H H1 H2:Hp}(a:KpR C rd H H1)(b:KpR C rd H1 H2):KpR C rd H H2:=⟨λc o h n l=>b.keep c o (a.keep c o h n l) n l,λc h=>a.dom c (b.dom c h)⟩
theorem KpR.kp{C:Cs}{rd:Addr}{H H':Hp}(k:Kp C H H'):KpR C rd H H':=⟨λb o h _ l=>k.keep b o h l,k.dom⟩
theorem Kp.reader{C:Cs}(A:Apt C){H H':Hp}{rd a:Addr}{p:Nat}(k:Kp C H H')(h:Jh C H rd a p):Jh C H' rd a p:=by
 obtain⟨dx,fs,h1,h2⟩:=h;refine⟨dx,fs,k.keep _ _ h1 ?_,h2⟩;rintro (⟨dx',fs',q⟩ | ⟨dx',fs',q⟩ | ⟨b,bs,q⟩)
 ·exact A.DT (HO.ins.inj q).1
 ·exact A.DB (HO.ins.inj q).1
 ·cases q
theorem Zn.rd{C:Cs}(A:Apt C){H H':Hp}{t rd dx:Addr}{fs:List (Str × V)}{s:State}{x:TS'}(h:Zn C H t s x)(hr:H rd=some (.ins C.Reader dx fs))(k:Zj rd H H'):Zn C H' t s x:=⟨h.tel.off A.BD A.PD A.RD A.TD (Yi.keep hr k),h.rs,h.rl,h.si⟩
structure Qgh(K:Xt)(C:Cs)(H:Hp)(rd a:Addr)(p:Nat)(l l1 l2 m:List Int):Prop where
 rd:Jh C H rd a p
 sq:SqL K H a (l.map V.int)
 eq:l=l1++(m++l2)
 at_:p=l1.length
def QjY(C:Cs)(t rd a:Addr)(s:State)(c:Call)(p:Nat)(H:Hp)(Q:VK):Prop:=(Qa9 s c).length<=10000000/\∀H' q x',Zn C H' t (Ua s c).1 x'->KpR C rd H H'->Jh C H' rd a p->H q=none->H' q=some (.lst ((Qa9 s c).map V.int))->Q (.ref q) H'
theorem QjY.at{C:Cs}(A:Apt C){t rd a:Addr}{s:State}{c:Call}{p:Nat}{H H1:Hp}{Q:VK}(h:QjY C t rd a s c p H Q)(k:KpR C rd H H1)(hr:Jh C H1 rd a p):Ans C t s c H1 Q:=⟨h.1,λH' q x' st kp hq hd=>h.2 H' q x' st (k.trans (KpR.kp kp)) (kp.reader A hr) (k.dom q hq) hd⟩
def Qfc:Call->Bool
 | .press _=>true
 | .name _=>true
 | .role _=>true
 | .hint _=>true
 | .said _=>true
 | .source _ _=>true
 | .label _ _=>true
 | .users _=>true
 | _=>false
theorem Qgh.num{H H1:Hp}{rd a:Addr}{p:Nat}{l l1 l2 m:List Int}{z:Int}(h:Qgh K C H rd a p l l1 l2 (z::m))(k:Zj rd H H1)(r:Jh C H1 rd a (p+1)):Qgh K C H1 rd a (p+1) l (l1++[z]) l2 m:=by
 obtain⟨dx,fs,h1,_⟩:=h.rd;exact⟨r,QcF h1 k h.sq,by rw[h.eq];simp,by rw[h.at_];simp⟩
theorem Qgh.txt{H H1:Hp}{rd a:Addr}{p:Nat}{l l1 l2 m:List Int}{n:Qb}(h:Qgh K C H rd a p l l1 l2 (JQ n++m))(k:Zj rd H H1)(r:Jh C H1 rd a (p+(JQ n).length)):Qgh K C H1 rd a (p+(JQ n).length) l (l1++JQ n) l2 m:=by
 obtain⟨dx,fs,h1,_⟩:=h.rd;exact⟨r,QcF h1 k h.sq,by rw[h.eq];simp,by rw[h.at_];simp⟩
theorem Qgh.get{H:Hp}{rd a:Addr}{p:Nat}{l l1 l2 m:List Int}{z:Int}(h:Qgh K C H rd a p l l1 l2 (z::m)):l[p]?=some z:=by
 rw[h.eq,h.at_,Uu (Xy _),Xaz];rfl
theorem Zn.place{H:Hp}{t:Addr}{s:State}{x:TS'}(h:Zn C H t s x)(n:Qb):(U9 s.page n=none/\Jn (JA x.rs) (Sum.inr (S (n.map Ji)))=none)\/QA λ(i:Nat) (b:UD)=>s.page[i]?=some b/\b.id=n/\Jn (JA x.rs) (Sum.inr (S (n.map Ji)))=some (.int (i:Nat)):=by
 obtain⟨pk,ok,nm,_⟩:=JK h.si.page;have hX:=h.ok;have ids:QN x.rs=U4 s.page:=by rw[h.rs,Qca]
 cases e:U9 s.page n with
 | none=>
  refine .inl ⟨rfl,?_⟩;have hp:=QfP x.rs (n.map Ji);cases e2:Jn (JA x.rs) (Sum.inr (S (n.map Ji))) with
  | none=>rfl
  | some v=>
   rw[e2,ids] at hp;have hm:n.map Ji ∈ U4 s.page:=by simpa using hp.symm
   obtain⟨b,hb,eb⟩:=Qkf hm;have:=Qbe pk.nodup hb;rw[eb,QlZ ok,e] at this;cases this
 | some b=>
  right;have hbm:=Xaw e;have hid:b.id=n:=by
   have:=Xbt e;exact eq_of_beq this
  obtain⟨i,hi,eb⟩:=List.mem_iff_getElem.mp hbm;have hb:s.page[i]?=some b:=by rw[Xe hi,eb]
  refine⟨i,b,hb,hid,?_⟩;have kn:n.map Ji=n:=by rw[<-hid];exact (Sg.id (ok b hbm).id).known
  have hm:n ∈ QN x.rs:=by rw[ids,<-hid];exact XbQ hbm
  rw[kn,QbP hX.nodup hm,ids];congr 3;have h1:(U4 s.page)[i]?=some n:=by
   unfold U4;rw[Xg,hb,<-hid];rfl
  have h2:(U4 s.page)[(U4 s.page).idxOf n]?=some n:=by
   have hlt:=XY.mpr (by rw[ids] at hm;exact hm:n ∈ U4 s.page);rw[Xe hlt,Xad]
  exact QnP pk.nodup h2 h1
def idC:Call->Qb
 | .press n=>n
 | .name n=>n
 | .role n=>n
 | .hint n=>n
 | .said n=>n
 | .source n _=>n
 | .label n _=>n
 | .users n=>n
 | _=>[]
theorem Qkn{s:State}{c:Call}(hc:Qfc c=true)(h:U9 s.page (idC c)=none):UW s c=.error 3:=by
 have key:∀(n:Qb) (f:UD->Vaaccb.Out),U9 s.page n=none->UJ s n f=.error 3:=λn f h=>by
  unfold UJ Xbn;rw[h]
 cases c with
 | press n=>
  show Xa1 s n=_;unfold Xa1;have:Xa0 ⟨s.page,s.rules,s.now⟩ n=.error 3:=by
   unfold Xa0 Vaacca.given;rw[show U9 (XbY.mk s.page s.rules s.now).page n=none from h]
  rw[this]
 | name n=>exact key n _ h
 | role n=>exact key n _ h
 | hint n=>exact key n _ h
 | said n=>exact key n _ h
 | source n z=>exact key n _ h
 | label n t=>exact key n _ h
 | users n=>exact key n _ h
 | page _=>cases hc
 | rules _=>cases hc
 | row=>cases hc
 | find _=>cases hc
 | size=>cases hc
abbrev Qsz(C:Cs):List (Key × V):=[(Sum.inl (2),.ref C.F_answer_press),(Sum.inl (3),.ref C.F_answer_name),(Sum.inl (4),.ref C.F_answer_role),(Sum.inl (5),.ref C.F_answer_hint),(Sum.inl (6),.ref C.F_answer_said),(Sum.inl (11),.ref C.F_answer_users)]
theorem QqY(T:Pg P w K mg C){c:Call}(hc:Qfc c=true):(YS λ(z:Int) (g:Qb->Call) (n:Qb) (F:Addr)=>c=g n/\idC (g n)=n/\enc c=z::JQ n/\(z==9)=false/\(z==10)=false/\Jn (Qsz C) (Sum.inl z)=some (.ref F)/\FOk P w K mg base 8 (.ref F) (YX C g))\/(QA λn z=>c=.source n z)\/QA λn t=>c=.label n t:=by
 cases c with
 | press n=>exact .inl ⟨2,.press,n,C.F_answer_press,rfl,rfl,rfl,rfl,rfl,rfl,5,"answer_press",_,_,by decide,rfl,T.zO,Qej T⟩
 | name n=>exact .inl ⟨3,.name,n,C.F_answer_name,rfl,rfl,rfl,rfl,rfl,rfl,6,"answer_name",_,_,by decide,rfl,T.zP,Qfw T⟩
 | role n=>exact .inl ⟨4,.role,n,C.F_answer_role,rfl,rfl,rfl,rfl,rfl,rfl,2,"answer_role",_,_,by decide,rfl,T.zQ,Qfz T⟩
 | hint n=>exact .inl ⟨5,.hint,n,C.F_answer_hint,rfl,rfl,rfl,rfl,rfl,rfl,7,"answer_hint",_,_,by decide,rfl,T.zR,Qfv T⟩
 | said n=>exact .inl ⟨6,.said,n,C.F_answer_said,rfl,rfl,rfl,rfl,rfl,rfl,8,"answer_said",_,_,by decide,rfl,T.zS,QfA T⟩
 | users n=>exact .inl ⟨11,.users,n,C.F_answer_users,rfl,rfl,rfl,rfl,rfl,rfl,7,"answer_users",_,_,by decide,rfl,T.zT,Qel T⟩
 | source n z=>exact .inr (.inl ⟨n,z,rfl⟩)
 | label n t=>exact .inr (.inr ⟨n,t,rfl⟩)
 | page _=>cases hc
 | rules _=>cases hc
 | row=>cases hc
 | find _=>cases hc
 | size=>cases hc
theorem Ql1{c:Call}(hc:Qfc c=true)(h:Qa7 c):(idC c).length<=4000:=by
 cases c with
 | press n=>exact h
 | name n=>exact h
 | role n=>exact h
 | hint n=>exact h
 | said n=>exact h
 | users n=>exact h
 | source n z=>exact h
 | label n t=>exact h.1
 | page _=>cases hc
 | rules _=>cases hc
 | row=>cases hc
 | find _=>cases hc
 | size=>cases hc
def QpY(K:Xt)(C:Cs):Sp:=λvs H Q _=>Qqb λ(t rd a:Addr) (s:State) (x:TS') (p:Nat) (l l1 l2:List Int) (c:Call) (z:Int) (m:List Int)=>vs=[.ref t,.int z,.ref rd]/\Qfc c=true/\enc c=z::m/\Qa7 c/\Zn C H t s x/\Qgh K C H rd a p l l1 l2 m/\QjY C t rd a s c (p+m.length) H Q
theorem ZC{z:Int}{n:Int}{b:Bool}(h:(z==n)=b):decide (V.int z=V.int n)=b:=by rw[Qey];exact h
theorem ZG:Qm ["teller","number","reader","k","place","saying"] ["teller","number","reader"] (Qg (top 120)):=Qsx
theorem Qds(T:Pg P w K mg C):Ok P w K mg base 9 "answer_of_box" ["teller","number","reader"] (QpY K C):=by
 have A0:=T.apt;refine T.zf.ok ZG (λvs H Q E h=>?_) (λf cdv A outer s H vs Q E hr h=>?_)
 ·obtain⟨t,rd,a,s,x,p,l,l1,l2,c,z,m,rfl,_⟩:=h;rfl
 ·obtain⟨t,rd,a,s,x,p,l,l1,l2,c,z,m,rfl,hc,he,hok,hS,hh,k⟩:=h;have cT:=T.qd.1;have cP:=T.qb.1;have hT:=hS.tel;have hidl:=Ql1 hc hok;intro X;refine⟨_,(Qd (Qx (i:=3) ZG.nd rfl (by first|exact .inl rfl|exact .inr rfl) (J5 (QE Jt (pv 1) (QL rfl T.q0) (Qz _)) (Qk (Wk T) (Qp hr) rfl (Qa (pv 2) Qc)) Qt))
   (Qd (Qx (i:=4) ZG.nd rfl (by first|exact .inl rfl|exact .inr rfl) (QnY (Zp hr) (Qj (Qj (pv 0) rfl) rfl) (Qk (QaG T) (Qp hr) rfl (Qa (pv 2) Qc)) ⟨by rfl,by rfl,by rfl,by rfl⟩))
   (Qd (Qx (i:=5) ZG.nd rfl (by first|exact .inl rfl|exact .inr rfl) (J5 (QE Jt (pv 1) (QL rfl T.q1) (Qz _)) (Qk (QaG T) (Qp hr) rfl (Qa (pv 2) Qc)) QB))
   (Qd (Q1 (Z7 (QaJ (pv 4))) (Qi (Ql (Q0 (Qa (QL rfl T.zE) Qc)))) QC)
   (Qd (Q1 (QE Jt (pv 1) (QL rfl T.q0) (Qz _)) (Qi (Ql (Qk (Qdt T) (Qp hr) rfl (Qa (pv 0) (Qa (pv 4) (Qa (pv 3) Qc)))))) QC)
   (Qd (Q1 (QE Jt (pv 1) (QL rfl T.q1) (Qz _)) (Qi (Ql (Qk (Qei T) (Qp hr) rfl (Qa (pv 0) (Qa (pv 4) (Qa (pv 5) Qc)))))) QC)
   (Qi (Ql (QfK (kk:=8) (Qp hr) (Qbr T.zI (QL rfl T.zH) (pv 1) (λ_ _=>rfl)) (Qa (pv 0) (Qa (pv 4) Qc))))))))))),?_⟩
  obtain⟨dx,fs,o1,o2,o3,o4,o5,o6⟩:=hT.obj;obtain⟨px,ps,lb,dp,lp,p1,p2,p3,p4,p5,p6,p7,p8⟩:=hT.page;have hrd:=hh.rd;obtain⟨rx,rf,r1,r2,r3,r4⟩:=hh.rd;rcases QqY (P:=P) (w:=w) (base:=base) T hc with ⟨z',g,n,F,rfl,hgid,he',h9,h10,hv,hF⟩ | ⟨n,kz,rfl⟩ | ⟨n,tx,rfl⟩
  ·obtain⟨rfl,rfl⟩:=Xaa (he'.symm.trans he);rw[hgid] at hidl;refine⟨_,rfl,rfl,_,rfl,?_⟩;rw[ZC h9];refine Qv ?_;refine gN ?_;dsimp only;refine⟨_,rfl,t,C.Teller,dx,fs,_,rfl,o1,cT,T.qc,o4,x.pg,C.Page,px,ps,_,rfl,p1,cP,T.qh,p4,dp,rfl,.inl ⟨_,Rd.of p7⟩,_,rfl,rd,a,p,l,n,l1,l2,rfl,hrd,hh.sq,hh.eq,hh.at_,hidl,λH2 K2 rr2=>?_⟩;have st2:=hS.rd A0 r1 K2;have p7':=K2 _ _ p7 (Q8 p7 r1 λq=>nomatch q);obtain⟨rx2,rf2,r21,_⟩:=rr2;have kr:KpR C rd H H2:=KpR.of K2 r21;refine⟨_,ZP.k (k:=Sum.inr (S (n.map Ji))) p7',?_⟩;rcases hS.place n with ⟨e1,e2⟩ | ⟨i,b,hb,hid,e2⟩
   ·rw[e2];refine gN ?_;dsimp only;refine⟨_,rfl,rfl,_,rfl,?_⟩;rw[ZC h10];refine Qv ?_;refine gN ?_;dsimp only;have ka:=(k.at A0 kr ⟨rx2,rf2,r21,by assumption⟩).refused (Qkn hc (by rw[hgid];exact e1)) st2;exact⟨_,rfl,_,rfl,Qr ⟨XJ _,λq hq=>ka _ q (Qe.new hq) hq Qh⟩⟩
   ·rw[e2];refine gN ?_;dsimp only;refine⟨_,rfl,rfl,_,rfl,?_⟩;rw[ZC h10];refine Qv ?_;refine gN ?_;dsimp only;refine⟨_,rfl,_,rfl,Qv (nX ?_)⟩;refine⟨_,rfl,rfl,_,rfl,?_⟩;rw[ZC h9];refine Qv (nX ?_);refine⟨_,rfl,rfl,_,rfl,?_⟩;rw[ZC h10];refine Qv (nX ?_);have ka:=k.at A0 kr ⟨rx2,rf2,r21,by assumption⟩;refine⟨_,rfl,Sum.inl z',.ref F,rfl,hv,YX C g,hF,_,rfl,_,rfl,t,s,x,i,b,rfl,st2,hb,?_⟩;rw[hid];exact ka
  ·obtain⟨rfl,rfl⟩:=Xaa he;have hn:n.length<=4000:=hidl;have h9:((9:Int)==9)=true:=rfl;have h10:((9:Int)==10)=false:=rfl;refine⟨_,rfl,rfl,_,rfl,?_⟩;rw[ZC h9];refine Qr ⟨_,rfl,rd,a,p,l,kz,rfl,hrd,hh.sq,hh.get,λH1 K1 rr1=>?_⟩;have hh1:=hh.num K1 rr1;have st1:=hS.rd A0 r1 K1;refine gN ?_;dsimp only;obtain⟨rx1,rf1,r11,r12⟩:=rr1;have o1':=K1 _ _ o1 (Q8 o1 r1 λq=>A0.TD (HO.ins.inj q).1);have p1':=K1 _ _ p1 (Q8 p1 r1 λq=>A0.PD (HO.ins.inj q).1);have p7':=K1 _ _ p7 (Q8 p7 r1 λq=>nomatch q);refine⟨_,rfl,t,C.Teller,dx,fs,_,rfl,o1',cT,T.qc,o4,x.pg,C.Page,px,ps,_,rfl,p1',cP,T.qh,p4,dp,rfl,.inl ⟨_,Rd.of p7'⟩,_,rfl,rd,a,p+1,l,n,l1++[kz],l2,rfl,hh1.rd,hh1.sq,hh1.eq,hh1.at_,hn,λH2 K2 rr2=>?_⟩;have st2:=st1.rd A0 r11 K2;have p72:=K2 _ _ p7' (Q8 p7' r11 λq=>nomatch q);have rr2':Jh C H2 rd a (p+(kz::JQ n).length):=by
    rw[Xw,show p+((JQ n).length+1)=p+1+(JQ n).length by omega];exact rr2
   obtain⟨rx2,rf2,r21,_⟩:=rr2;have kr:KpR C rd H H2:=(KpR.of K1 r11).trans (KpR.of K2 r21);have ka:=k.at A0 kr rr2';refine⟨_,ZP.k (k:=Sum.inr (S (n.map Ji))) p72,?_⟩;rcases hS.place n with ⟨e1,e2⟩ | ⟨i,b,hb,hid,e2⟩
   ·rw[e2];refine gN ?_;dsimp only;refine⟨_,rfl,rfl,_,rfl,?_⟩;rw[ZC h10];refine Qv ?_;refine gN ?_;dsimp only;have ka:=ka.refused (Qkn hc e1) st2;exact⟨_,rfl,_,rfl,Qr ⟨XJ _,λq hq=>ka _ q (Qe.new hq) hq Qh⟩⟩
   ·rw[e2];refine gN ?_;dsimp only;refine⟨_,rfl,rfl,_,rfl,?_⟩;rw[ZC h10];refine Qv ?_;refine gN ?_;dsimp only;refine⟨_,rfl,_,rfl,Qv (nX ?_)⟩;refine⟨_,rfl,rfl,_,rfl,?_⟩;rw[ZC h9];refine Qr ⟨_,rfl,_,rfl,_,rfl,t,s,x,i,b,kz,rfl,st2,hb,?_⟩;rw[hid];exact ka
  ·obtain⟨rfl,rfl⟩:=Xaa he;have hn:n.length<=4000:=hidl;have ht:tx.length<=4000:=hok.2;have h9:((10:Int)==9)=false:=rfl;have h10:((10:Int)==10)=true:=rfl;refine⟨_,rfl,rfl,_,rfl,?_⟩;rw[ZC h9];refine Qv ?_;refine gN ?_;dsimp only;have hheq:l=l1++(JQ n++(JQ tx++l2)):=by rw[hh.eq,XH]
   refine⟨_,rfl,t,C.Teller,dx,fs,_,rfl,o1,cT,T.qc,o4,x.pg,C.Page,px,ps,_,rfl,p1,cP,T.qh,p4,dp,rfl,.inl ⟨_,Rd.of p7⟩,_,rfl,rd,a,p,l,n,l1,JQ tx++l2,rfl,hrd,hh.sq,hheq,hh.at_,hn,λH1 K1 rr1=>?_⟩;have hh1:=hh.txt K1 rr1;have st1:=hS.rd A0 r1 K1;obtain⟨rx1,rf1,r11,r12⟩:=rr1;have p7':=K1 _ _ p7 (Q8 p7 r1 λq=>nomatch q);refine⟨_,ZP.k (k:=Sum.inr (S (n.map Ji))) p7',?_⟩;refine gN ?_;dsimp only;refine⟨_,rfl,rfl,_,rfl,?_⟩;rw[ZC h10];refine Qr ⟨_,rfl,rd,a,p+(JQ n).length,l,tx,l1++JQ n,l2,rfl,hh1.rd,hh1.sq,hh1.eq,hh1.at_,ht,λH2 K2 rr2=>?_⟩;have st2:=st1.rd A0 r11 K2;have rr2':Jh C H2 rd a (p+(JQ n++JQ tx).length):=by
    rw[Xi,<-XbM];exact rr2
   obtain⟨rx2,rf2,r21,_⟩:=rr2;have kr:KpR C rd H H2:=(KpR.of K1 r11).trans (KpR.of K2 r21);have ka:=k.at A0 kr rr2';refine gN ?_;dsimp only;rcases hS.place n with ⟨e1,e2⟩ | ⟨i,b,hb,hid,e2⟩
   ·rw[e2];have ka:=ka.refused (Qkn hc e1) st2;exact⟨_,rfl,_,rfl,Qr ⟨XJ _,λq hq=>ka _ q (Qe.new hq) hq Qh⟩⟩
   ·rw[e2];refine⟨_,rfl,_,rfl,Qv (nX ?_)⟩;refine⟨_,rfl,rfl,_,rfl,?_⟩;rw[ZC h9];refine Qv (nX ?_);refine⟨_,rfl,rfl,_,rfl,?_⟩;rw[ZC h10];refine Qr ⟨_,rfl,_,rfl,_,rfl,t,s,x,i,b,tx,rfl,st2,hb,ht,?_⟩;rw[hid];exact ka
abbrev Qnf(C:Cs):List (Key × V):=[(Sum.inl (7),.ref C.F_answer_row),(Sum.inl (12),.ref C.F_answer_size)]
abbrev Qqe(C:Cs):List (Key × V):=[(Sum.inl (0),.ref C.F_answer_page),(Sum.inl (1),.ref C.F_answer_rules),(Sum.inl (8),.ref C.F_answer_find)]
theorem QpM(T:Pg P w K mg C)(c:Call):(QA λ(z:Int) (F:Addr)=>enc c=[z]/\Jn (Qnf C) (Sum.inl z)=some (.ref F)/\FOk P w K mg base 8 (.ref F) (QdC C c))\/
  (YS λ(z:Int) (g:Qb->Call) (n:Qb) (F:Addr)=>c=g n/\(Qa7 c->n.length<=4000)/\enc c=z::JQ n/\Jn (Qnf C) (Sum.inl z)=none/\Jn (Qqe C) (Sum.inl z)=some (.ref F)/\FOk P w K mg base 8 (.ref F) (QbR C g))\/
  (Qfc c=true/\QA λ(z:Int) (m:List Int)=>enc c=z::m/\Jn (Qnf C) (Sum.inl z)=none/\Jn (Qqe C) (Sum.inl z)=none):=by
 cases c with
 | row=>exact .inl ⟨7,C.F_answer_row,rfl,rfl,8,"answer_row",_,_,by decide,rfl,T.zJ,Qgm T⟩
 | size=>exact .inl ⟨12,C.F_answer_size,rfl,rfl,8,"answer_size",_,_,by decide,rfl,T.zK,QfB T⟩
 | page n=>exact .inr (.inl ⟨0,.page,n,C.F_answer_page,rfl,id,rfl,rfl,rfl,8,"answer_page",_,_,by decide,rfl,T.zL,Qfy T⟩)
 | rules n=>exact .inr (.inl ⟨1,.rules,n,C.F_answer_rules,rfl,id,rfl,rfl,rfl,5,"answer_rules",_,_,by decide,rfl,T.zM,Qek T⟩)
 | find n=>exact .inr (.inl ⟨8,.find,n,C.F_answer_find,rfl,id,rfl,rfl,rfl,6,"answer_find",_,_,by decide,rfl,T.zN,Qfu T⟩)
 | press n=>exact .inr (.inr ⟨rfl,2,_,rfl,rfl,rfl⟩)
 | name n=>exact .inr (.inr ⟨rfl,3,_,rfl,rfl,rfl⟩)
 | role n=>exact .inr (.inr ⟨rfl,4,_,rfl,rfl,rfl⟩)
 | hint n=>exact .inr (.inr ⟨rfl,5,_,rfl,rfl,rfl⟩)
 | said n=>exact .inr (.inr ⟨rfl,6,_,rfl,rfl,rfl⟩)
 | source n z=>exact .inr (.inr ⟨rfl,9,_,rfl,rfl,rfl⟩)
 | label n t=>exact .inr (.inr ⟨rfl,10,_,rfl,rfl,rfl⟩)
 | users n=>exact .inr (.inr ⟨rfl,11,_,rfl,rfl,rfl⟩)
def Qrk(K:Xt)(C:Cs):Sp:=λvs H Q _=>Qqa λ(t rd a:Addr) (s:State) (x:TS') (p:Nat) (l l1 l2:List Int) (c:Call)=>vs=[.ref t,.ref rd]/\Qa7 c/\Zn C H t s x/\Qgh K C H rd a p l l1 l2 (enc c)/\QjY C t rd a s c (p+(enc c).length) H Q
theorem QjY.from{t rd a:Addr}{s:State}{c:Call}{p:Nat}{H H1:Hp}{Q:VK}(h:QjY C t rd a s c p H Q)(k:KpR C rd H H1):QjY C t rd a s c p H1 Q:=⟨h.1,λH' q x' st kp hr hq hd=>h.2 H' q x' st (k.trans kp) hr (k.dom q hq) hd⟩
theorem Qbw:Qm ["teller","reader","number"] ["teller","reader"] (Qg (top 119)):=Qsx
theorem Qfx(T:Pg P w K mg C):Ok P w K mg base 10 "answer_next" ["teller","reader"] (Qrk K C):=by
 have A0:=T.apt;refine T.ze.ok Qbw (λvs H Q E h=>?_) (λf cdv A outer s H vs Q E hr h=>?_)
 ·obtain⟨t,rd,a,s,x,p,l,l1,l2,c,rfl,_⟩:=h;rfl
 ·obtain⟨t,rd,a,s,x,p,l,l1,l2,c,rfl,hok,hS,hh,k⟩:=h;intro X;refine⟨_,(Qd (Qx (i:=2) Qbw.nd rfl (by first|exact .inl rfl|exact .inr rfl) (Qk (Wk T) (Qp hr) rfl (Qa (pv 1) Qc)))
   (Qd (Q1 (Z7 (QeC T.qX (pv 2) (QL rfl T.qW)) (by rfl)) (Qi (Ql (QfK (kk:=8) (Qp hr) (Qbr T.qX (QL rfl T.qW) (pv 2) (λ_ _=>rfl)) (Qa (pv 0) Qc)))) QC)
   (Qd (Q1 (Z7 (QeC T.qZ (pv 2) (QL rfl T.qY)) (by rfl)) (Qi (Ql (QfK (kk:=8) (Qp hr) (Qbr T.qZ (QL rfl T.qY) (pv 2) (λ_ _=>rfl)) (Qa (pv 0) (Qa (Qk (QaG T) (Qp hr) rfl (Qa (pv 1) Qc)) Qc))))) QC)
   (Qi (Ql (Qk (Qds T) (Qp hr) rfl (Qa (pv 0) (Qa (pv 2) (Qa (pv 1) Qc))))))))),?_⟩
  obtain⟨rx,rf,r1,r2⟩:=hh.rd;rcases QpM (P:=P) (w:=w) (base:=base) T c with ⟨z,F,he,hv,hF⟩ | ⟨z,g,n,F,rfl,hn,he,hv0,hv,hF⟩ | ⟨hb,z,m,he,hv0,hv⟩
  ·rw[he] at hh k;refine⟨_,rfl,rd,a,p,l,z,rfl,hh.rd,hh.sq,hh.get,λH1 K1 rr1=>?_⟩;have st1:=hS.rd A0 r1 K1;have ka:=k.at A0 (let ⟨_,_,h,_⟩:=rr1;KpR.of K1 h) rr1;refine gN ?_;dsimp only;refine⟨_,rfl,Sum.inl z,rfl,_,rfl,?_⟩;rw[hv];exact Qr ⟨_,rfl,Sum.inl z,.ref F,rfl,hv,_,hF,_,rfl,t,s,x,rfl,st1,ka⟩
  ·rw[he] at hh k;refine⟨_,rfl,rd,a,p,l,z,rfl,hh.rd,hh.sq,hh.get,λH1 K1 rr1=>?_⟩;have st1:=hS.rd A0 r1 K1;have hh1:=hh.num K1 rr1;refine gN ?_;dsimp only;refine⟨_,rfl,Sum.inl z,rfl,_,rfl,?_⟩;rw[hv0];refine Qv (nX ?_);refine⟨_,rfl,Sum.inl z,rfl,_,rfl,?_⟩;rw[hv];obtain⟨rx1,rf1,r11,r12⟩:=rr1;refine Qr ⟨_,rfl,Sum.inl z,.ref F,rfl,hv,_,hF,_,rfl,_,rfl,rd,a,p+1,l,n,l1++[z],l2,rfl,hh1.rd,hh1.sq,hh1.eq,hh1.at_,hn hok,λH2 K2 rr2=>?_⟩;have rr2':Jh C H2 rd a (p+(z::JQ n).length):=by
    rw[Xw,show p+((JQ n).length+1)=p+1+(JQ n).length by omega];exact rr2
   have kr:KpR C rd H H2:=(KpR.of K1 r11).trans (let ⟨_,_,h,_⟩:=rr2;KpR.of K2 h);exact⟨t,s,x,n,rfl,st1.rd A0 r11 K2,hn hok,k.at A0 kr rr2'⟩
  ·have he':=he;rw[he] at hh k;refine⟨_,rfl,rd,a,p,l,z,rfl,hh.rd,hh.sq,hh.get,λH1 K1 rr1=>?_⟩;have st1:=hS.rd A0 r1 K1;have hh1:=hh.num K1 rr1;refine gN ?_;dsimp only;refine⟨_,rfl,Sum.inl z,rfl,_,rfl,?_⟩;rw[hv0];refine Qv (nX ?_);refine⟨_,rfl,Sum.inl z,rfl,_,rfl,?_⟩;rw[hv];refine Qv (nX ?_);refine⟨_,rfl,_,rfl,_,rfl,t,rd,a,s,x,p+1,l,l1++[z],l2,c,z,m,rfl,hb,he',hok,st1,hh1,?_⟩;have:=k.from (let ⟨_,_,h,_⟩:=rr1;KpR.of K1 h);rw[Xw,show p+(m.length+1)=p+1+m.length by omega] at this;exact this
def Qqc(H H':Hp):Prop:=∀b o,H b=some o->(∀od u,o≠.frz od u)->H' b=some o
theorem Yg.thaw{C:Cs}{H H':Hp}{a:Addr}{r:QF}(h:Yg C H a r)(s:Qqc H H'):Yg C H' a r:=by
 obtain⟨dx,fs,la,aa,ys,h1,h2,h3,h4,h5⟩:=h;exact⟨dx,fs,la,aa,ys,s _ _ h1 (λ_ _ q=>nomatch q),h2,s _ _ h3 (λ_ _ q=>nomatch q),s _ _ h4 (λ_ _ q=>nomatch q),h5.tups λb xs hb=>s _ _ hb (λ_ _ q=>nomatch q)⟩
theorem Zn.thaw{C:Cs}{H H':Hp}{t:Addr}{st:State}{x:TS'}(h:Zn C H t st x)(s:Qqc H H'):Zn C H' t st x:=by
 obtain⟨dx,fs,o1,o2⟩:=h.tel.obj;obtain⟨px,ps,lb,dp,lp,h1,h2,h3,h4,h5,h6,h7,h8⟩:=h.tel.page;have hr:=h.tel.rules;exact⟨⟨⟨dx,fs,s _ _ o1 (λ_ _ q=>nomatch q),o2⟩,⟨px,ps,lb,dp,lp,s _ _ h1 (λ_ _ q=>nomatch q),h2,h3,h4,h5,⟨s _ _ h6.lst (λ_ _ q=>nomatch q),h6.len,λi r e=>let ⟨a,e1,e2⟩:=h6.box i r e;⟨a,e1,e2.thaw s⟩⟩,s _ _ h7 (λ_ _ q=>nomatch q),s _ _ h8 (λ_ _ q=>nomatch q)⟩,
  ⟨s _ _ hr.dict (λ_ _ q=>nomatch q),hr.len,λi r e=>let ⟨a,e1,dx,fs,la,g1,g2,g3⟩:=hr.rule i r e;⟨a,e1,dx,fs,la,s _ _ g1 (λ_ _ q=>nomatch q),g2,s _ _ g3 (λ_ _ q=>nomatch q)⟩⟩,h.tel.rlen,s _ _ h.tel.hid (λ_ _ q=>nomatch q),s _ _ h.tel.on (λ_ _ q=>nomatch q),h.tel.apart,h.tel.pos,h.tel.few,h.tel.hl,h.tel.ol,h.tel.kinds⟩,h.rs,h.rl,h.si⟩
theorem Qfb{C:Cs}{l:List Int}:¬Qgz C (.lst (l.map V.int)):=by
 rintro (⟨dx,fs,q⟩ | ⟨dx,fs,q⟩ | ⟨b,bs,q⟩)
 ·cases q
 ·cases q
 ·have q:=HO.lst.inj q;cases l with
  | nil=>cases q
  | cons z r=>cases q
theorem Qdj{C:Cs}{od:Obj}{u:HO}:¬Qgz C (.frz od u):=by
 rintro (⟨dx,fs,q⟩ | ⟨dx,fs,q⟩ | ⟨b,bs,q⟩)<;>cases q
def CA(K:Xt)(H:Hp)(q a:Addr)(l:List Int):Prop:=(a≠q/\Rd H a (.lst (l.map V.int)))\/
 JP λ(o:Obj) (its:Array Value) (n:Nat)=>K.lookup a=some o/\o.cls=.type "list"/\o.dict=none/\o.data=.seq its n/\its.size<=sizeLine/\QP (l.map V.int) its.toList
theorem CA.sq{K:Xt}{H:Hp}{q a:Addr}{l:List Int}(h:CA K H q a l):SqL K H a (l.map V.int):=h.imp (λh=>h.2) λh=>h
theorem CA.upd{K:Xt}{H:Hp}{q a:Addr}{l:List Int}{o:HO}(h:CA K H q a l):CA K (L2.upd H q o) q a l:=by
 rcases h with ⟨n,h⟩ | h
 ·refine .inl ⟨n,?_⟩;rcases h with h | ⟨od,h⟩
  ·exact .inl (by rw[Qq n];exact h)
  ·exact .inr ⟨od,by rw[Qq n];exact h⟩
 ·exact .inr h
theorem CA.kp{K:Xt}{C:Cs}{H H':Hp}{q a rd dx:Addr}{fs:List (Str × V)}{l:List Int}(h:CA K H q a l)(hr:H rd=some (.ins C.Reader dx fs))(k:KpR C rd H H'):CA K H' q a l:=by
 rcases h with ⟨n,h⟩ | h
 ·refine .inl ⟨n,?_⟩;rcases h with h | ⟨od,h⟩
  ·exact .inl (k.keep _ _ h (Q8 h hr λq=>nomatch q) Qfb)
  ·exact .inr ⟨od,k.keep _ _ h (Q8 h hr λq=>nomatch q) Qdj⟩
 ·exact .inr h
theorem Qo3(c:Call):1<=(enc c).length:=by cases c<;>simp[enc]
theorem QmC(s:State)(c:Call)(r:List Call):Qen s (c::r)=(((Qa9 s c).length:Int)::Qa9 s c)++Qen (Ua s c).1 r:=rfl
def Qhj(K:Xt):Sp:=λvs H Q _=>QA λ(a:Addr) (ks:List Call)=>vs=[.ref a]/\SqL K H a ((ks.flatMap enc).map V.int)/\(∀k ∈ ks,Qa7 k)/\(Qen UZ ks).length<=10000000/\∀H' p,H' p=some (.lst ((Qen UZ ks).map V.int))->Q (.ref p) H'
theorem Wr:Qm ["calls","teller","reader","answered","answer"] ["calls"] (Qg (top 118)):=Qsx
theorem Qkp(T:Pg P w K mg C){fa:Addr}{fd:FuncData}(F:Fun K "answers" "answers" (top 118) fa fd):Qcr P w K mg base CX0 11 fa fd ["calls"] (Qhj K):=by
 have A0:=T.apt;refine F.ok Wr (λvs H Q E h=>?_) (λcdv A outer s H vs Q E hr h=>?_)
 ·obtain⟨a,ks,rfl,_⟩:=h;rfl
 ·obtain⟨a,ks,rfl,hs,hok,hlen,k⟩:=h;refine⟨_,(Qd (Qx (i:=1) Wr.nd rfl (by first|exact .inl rfl|exact .inr rfl) (QpA (Qft T) (Qp hr) rfl))
   (Qd (Qx (i:=2) Wr.nd rfl (by first|exact .inl rfl|exact .inr rfl) (Qdw (Qfs T) (Qp hr) rfl (Qa (pv 0) Qc)))
   (Qd (Qx (i:=3) Wr.nd rfl (by first|exact .inl rfl|exact .inr rfl) (Q0 Qc))
   (Qd (QcS PassesOwn.never (Zg (Js (Qk (QhZ T) (Qp hr) rfl (Qa (pv 2) Qc)))) (Qd (QpD (Qx (i:=4) Wr.nd rfl (by first|exact .inl rfl|exact .inr rfl) (Qk (Qfx T) (Qp hr) rfl (Qa (pv 1) (Qa (pv 2) Qc)))))
   (Qd (JF (J4 XD X7 X8 ZD (pv 3) (Qa (Qs Qw rfl T.qa Xv (Qa (pv 4) Qc)) Qc)))
   (Qi (JF (J4 XD Uk Ul YA (pv 3) (Qa (pv 4) Qc)))))))
   (Qi (Ql (pv 3))))))),?_⟩
  generalize hl:ks.flatMap enc=l at hs;intro t dt nt ndt net;refine⟨t,dt,rfl,Qh,λH1 x1 st1 kp1=>⟨rfl,?_⟩⟩;have sT:Qe H (upd (upd H dt (.own t)) t (.ins C.Teller dt [])):=(Qe.new ndt).trans (Qe.new (by rw[Qq (Ne.symm net)];exact nt));refine gN ?_;dsimp only;refine⟨_,rfl,?_⟩;intro rd dr nr ndr ner;refine⟨rd,dr,a,rfl,Qh,λH2 K2 hR2=>⟨rfl,?_⟩⟩;have s12:Qe H1 H2:=Qe.made nr ndr K2;refine gN ?_;dsimp only;refine⟨XC _,λq hq=>?_⟩;refine gN ?_;dsimp only;have hqH:H q=none:=Qe.dom sT q (kp1.dom q (Qe.dom s12 q hq));have ca0:CA K (upd H2 q (.lst [])) q a l:=by
   rcases hs with h | h
   ·have na:a≠q:=λz=>by
     subst z;rcases h with h | ⟨od,h⟩<;>(rw[hqH] at h;cases h)
    refine .inl ⟨na,?_⟩;rcases h with h | ⟨od,h⟩
    ·exact .inl (by rw[Qq na];exact s12 _ _ (kp1.keep _ _ (sT _ _ h) Qfb))
    ·exact .inr ⟨od,by rw[Qq na];exact s12 _ _ (kp1.keep _ _ (sT _ _ h) Qdj)⟩
   ·exact .inr h
  have sq:Qe H2 (upd H2 q (.lst [])):=Qe.new hq
  let Inv':Nat->L2.St->Hp->Prop:=λj σ H'=>YS λ(s:State) (x:TS') (v4:Option V) (acc:List Int)=>σ=[some (.ref a),some (.ref t),some (.ref rd),some (.ref q),v4]/\j<=ks.length/\(∀od u,Zn C (upd H' q (.frz od u)) t s x)/\Jh C H' rd a ((ks.take j).flatMap enc).length/\CA K H' q a l/\H' q=some (.lst (acc.map V.int))/\Qen UZ ks=acc++Qen s (ks.drop j)
  refine⟨λm σ H'=>∃j,m=ks.length-j/\Inv' j σ H',⟨ks.length,0,rfl,UZ,x1,none,[],rfl,XC _,λod u=>?_,hR2.mono sq,ca0,Qh,rfl⟩,?_⟩
  ·refine (st1.mono s12).thaw λb o hb _=>?_
   have nb:b≠q:=Q3 hb hq;rw[Qq nb,Qq nb];exact hb
  ·rintro m σ H' ⟨j,rfl,s,x,v4,acc,rfl,hj,st,hR,ca,hq',ho⟩;refine⟨_,rfl,rd,a,_,l,rfl,hR,ca.sq,_,rfl,?_⟩
   by_cases hjl:j<ks.length
   ·have ec:ks[j]?=some ks[j]:=Xe hjl;have hcok:=hok _ (Xao hjl);have hdrop:ks.drop j=ks[j]::ks.drop (j+1):=Xat hjl;generalize ks[j]=c at ec hcok hdrop;obtain⟨f1,f2⟩:=QaD enc ec;rw[hl] at f1;have epos:=Qo3 c;have hplt:((ks.take j).flatMap enc).length<l.length:=by
     rw[f1,Xi,Xi];omega
    rw[decide_eq_false (show ¬l.length<=((ks.take j).flatMap enc).length by omega)];refine Qr ⟨Inv' (j+1),fun σ' H'' i'=>⟨ks.length-(j+1),by omega,j+1,rfl,i'⟩,?_⟩;refine⟨q,_,hq',trivial,λod=>?_⟩;have hRo:=hR;obtain⟨rx,rf,r1,r2⟩:=hR;have nrq:rd≠q:=Q8 r1 hq' λz=>nomatch z
    have hRf:Jh C (upd H' q (.frz od (.lst (acc.map V.int)))) rd a ((ks.take j).flatMap enc).length:=⟨rx,rf,by rw[Qq nrq];exact r1,r2⟩;rw[hdrop,QmC] at ho;have hol:=congrArg XO ho;rw[Xi,Xi,Xw] at hol;refine⟨_,rfl,_,rfl,t,rd,a,s,x,_,l,(ks.take j).flatMap enc,(ks.drop (j+1)).flatMap enc,c,rfl,hcok,st od _,⟨hRf,ca.upd.sq,f1,rfl⟩,⟨by omega,λH3 p3 x3 st3 kp3 hR3 hp3 hd3=>?_⟩⟩;have hq3:H3 q=some (.frz od (.lst (acc.map V.int))):=kp3.keep _ _ Qh (Ne.symm nrq) Qdj;have npq:p3≠q:=λz=>by
     subst z;rw[Qh] at hp3;cases hp3
    refine gN ?_;dsimp only;refine⟨hq3,?_⟩;refine⟨_,rfl,.inl ⟨rfl,_,SqL.of Qh⟩,_,rfl,p3,_,rfl,.inl (SqL.of (by rw[Qq npq];exact hd3)),q,_,_,rfl,rfl,Qh,by rw[Xb,QI];omega,?_⟩;dsimp only;refine⟨_,rfl,.inl ⟨rfl,_,SqL.of Qh⟩,_,rfl,q,p3,_,_,rfl,rfl,Qh,by rw[Qq npq,Qq npq];exact hd3,by rw[Xi,Xb,Xb,QI];show acc.length+1+_<=_;omega,?_⟩;obtain⟨rx3,rf3,r31,r32⟩:=hR3;refine⟨(Ua s c).1,x3,some (.ref p3),acc++(((Qa9 s c).length:Int)::Qa9 s c),rfl,hjl,λod' u'=>?_,?_,?_,?_,?_⟩
    ·refine st3.thaw λb o hb nf=>?_
     have nb:b≠q:=λz=>by
      subst z;rw[hq3] at hb;exact nf _ _ (Xc hb).symm
     rw[Qq nb,Qq nb,Qq nb,Qq nb];exact hb
    ·refine⟨rx3,rf3,by rw[Qq nrq,Qq nrq,Qq nrq];exact r31,?_⟩;rw[f2,Xi];exact r32
    ·exact ((ca.upd.kp (by rw[Qq nrq];exact r1) kp3).upd).upd.upd
    ·rw[Qh];simp
    ·rw[ho,XH]
   ·have ej:j=ks.length:=by omega
    subst ej;rw[U6,hl,decide_eq_true (Xy _)];refine Qv ⟨_,rfl,?_⟩;rw[Xcc,show Qen s []=[] from rfl,XG] at ho;exact k H' q (by rw[hq',ho])
end Sr
namespace Sr
open PySem PySem.Spec PyProof.Rows L2 TL
section
variable {P:Program} {w:World} {K:Xt} {h:Heap} {mg:Str->Option Value}
theorem QsN{x:Str}{st:Stmt}{f:Addr}{ps:List Str}{oc:Value}{od an:Option Addr}{osl:Array (Option Value)}{kV doc pm cdv ct:Value}(X:K.In h)(G:h.Ns mainGlobals mg)(a:XaA K mainGlobals x=some (some (.ref f)))
  (l:K.lookup f=some ⟨oc,od,.func (XaS x x (Y5 st) (ZY st) (Qg st) .none kV doc pm an cdv ct),osl⟩) (c:XbD K cdv x=true) (k:XaC K (.ref f)=true)
  (b:∀(kV doc pm:Value) (an:Option Addr) (cdv ct:Value) (us:List Value),us.length=ps.length->bindArgs (XaS x x (Y5 st) (ZY st) (Qg st) .none kV doc pm an cdv ct) ⟨us,[]⟩=pure (ps.zip us)):Has K mg x st ps:=
 ⟨f,_,Qe1 l c k,(Qe1 l c k).binds b,Xar X G a⟩
theorem Qsw{x q:Str}{st:Stmt}{C f:Addr}{ps:List Str}{oc:Value}{od an:Option Addr}{osl:Array (Option Value)}{kV doc pm cdv ct:Value}(X:K.In h)(G:h.Ns mainGlobals mg)(hq:q=x++Str.ofString ".__init__")(aC:XaA K mainGlobals x=some (some (.ref C)))
  (a:Xcs K (.ref C) "__init__"=some (some (.ref f))) (i:PySem.W.isFn K (.ref f)=true) (l:K.lookup f=some ⟨oc,od,.func (XaS "__init__" q (Y5 st) (ZY st) (Qg st) .none kV doc pm an cdv ct),osl⟩) (c:XbD K cdv q=true) (k:XaC K (.ref f)=true)
  (pg:PySem.W.plainGet K C Str.empty=true) (hd:PySem.W.hasDictIn K C=true) (po:PySem.W.plainOver K C=true) (sa:Xcs K (.ref C) "__setattr__"=some (some (.builtin "object.__setattr__"))) (mk:PySem.W.makesIn K C=true) (kc:XaC K (.ref C)=true)
  (b:∀(kV doc pm:Value) (an:Option Addr) (cdv ct:Value) (us:List Value),us.length=ps.length->bindArgs (XaS "__init__" q (Y5 st) (ZY st) (Qg st) .none kV doc pm an cdv ct) ⟨us,[]⟩=pure (ps.zip us)):Qhy K mg x C st ps:=by
 subst hq;exact⟨⟨pg,hd,po,sa⟩,Xar X G aC,f,_,⟨mk,a,i,kc⟩,Qe1 l c k,(Qe1 l c k).binds b⟩
theorem QsL{x:Str}{a:Addr}(X:K.In h)(G:h.Ns mainGlobals mg)(e:XaA K mainGlobals x=some (some (.ref a))):GV mg x (.ref a):=⟨_,Xar X G e,rfl⟩
theorem QsK{x:Str}{i:Int}{t:Tok}(X:K.In h)(G:h.Ns mainGlobals mg)(e:XaA K mainGlobals x=some (some (.int i t))):GV mg x (.int i):=⟨_,Xar X G e,t,rfl⟩
theorem QsM{x:Str}{s:String}{a:Qb}{t:Tok}(X:K.In h)(G:h.Ns mainGlobals mg)(e:XaA K mainGlobals x=some (some (.str (Str.ofString s) t)))(q:Str.ofString s=S a):GV mg x (.str (S a)):=⟨_,Xar X G e,t,by rw[q]⟩
theorem Qsy{s:String}{a:Qb}{t:Tok}(q:Str.ofString s=S a):QZ (.str (S a)) (.str (Str.ofString s) t):=⟨t,by rw[q]⟩
theorem Qtc{a:Addr}{xs:List V}{its:Array Value}{n:Nat}{sl:Array (Option Value)}(l:K.lookup a=some ⟨.type "tuple",none,.seq its n,sl⟩)(hs:its.size<=sizeLine)(v:QP xs its.toList):KT K a xs:=⟨_,its,n,l,rfl,rfl,hs,v,rfl⟩
def Qlb(P:Program)(w:World)(e:DictEntry)(kv:Key × V):Prop:=(QT P w).is kv.1 e.key=true/\e.hash=(QT P w).hash kv.1/\QZ kv.2 e.val
theorem Qsv{s:String}{a:Qb}{t:Tok}{u:Value}{v:V}(q:Str.ofString s=S a)(r:QZ v u):Qlb P w ⟨PyData.keyHash w.params (Str.ofString s),.str (Str.ofString s) t,u⟩ (Sum.inr (S a),v):=by
 rw[q];exact⟨beq_self_eq_true (S a),rfl,r⟩
theorem Qsu{i z:Int}{t:Tok}{u:Value}{v:V}(q:z=hashInt i)(r:QZ v u):Qlb P w ⟨z,.int i t,u⟩ (Sum.inl i,v):=⟨beq_self_eq_true i,q,r⟩
theorem QeW:∀{l:List DictEntry} {kvs:List (Key × V)},Paired (Qlb P w) l kvs->(∀e ∈ l,∃k,(QT P w).is k e.key=true/\e.hash=(QT P w).hash k)/\∃vs,Pairs (QT P w) l vs/\KV kvs vs/\vs.map (·.1)=kvs.map (·.1)
 | _,_,.nil=>⟨λe he=>by simp at he,[],.nil,.nil,rfl⟩
 | _,_,.cons (a:=e) (b:=kv) (l₁:=l) (l₂:=kvs) h r=>by
  obtain⟨h1,vs,h2,h3,h4⟩:=QeW r;refine⟨λe' he=>?_,(kv.1,e.val)::vs,.cons h.1 rfl h2,.cons ⟨rfl,h.2.2⟩ h3,?_⟩
  ·rcases Xm.mp he with q | q
   ·rw[q];exact⟨kv.1,h.1,h.2.1⟩
   ·exact h1 e' q
  ·rw[Xj,Xj,h4]
theorem Qtb{a:Addr}{kvs:List (Key × V)}{l:List DictEntry}{n:Nat}(lk:K.lookup a=some ⟨.type "dict",none,.dict l.toArray n,#[]⟩)(hs:(a==sysModules)=false)(pr:Paired (Qlb P w) l kvs)(nd:(kvs.map (·.1)).Nodup):KD P w K a kvs:=by
 obtain⟨h1,vs,h2,h3,h4⟩:=QeW pr;exact⟨vs,h3,hs,λh' X=>Heap.dictOf_iff.mpr ⟨_,X a _ lk,l.toArray,n,⟨rfl,rfl,rfl⟩,rfl,λe he=>h1 e (by simpa using he),by simpa using h2,by rw[h4];exact nd⟩⟩
theorem QsG{C:Cs}{f fa:Addr}{oc:Value}{od an:Option Addr}{osl:Array (Option Value)}{kV doc pm cdv ct:Value}(X:K.In h)(G:h.Ns mainGlobals mg)(hmg:mg "answers"=some (.ref fa))(a:XaA K mainGlobals "answers"=some (some (.ref f)))
  (l:K.lookup f=some ⟨oc,od,.func (XaS "answers" "answers" (Y5 (top 118)) (ZY (top 118)) (Qg (top 118)) .none kV doc pm an cdv ct),osl⟩) (c:XbD K cdv "answers"=true) (k:XaC K (.ref f)=true) (T:Pg P w K mg C) :
  ∃fd:FuncData,(∀(s:Shared) (us:List Value),us.length=(["calls"]:List Str).length->BindsTo s fd ⟨us,[]⟩ ((["calls"]:List Str).zip us))/\∀base:Heap,K.In base->base.Ns mainGlobals mg->Qcr P w K mg base CX0 11 fa fd ["calls"] (Qhj K):=by
 have e:=hmg.symm.trans (Xar X G a);cases e;exact⟨_,λs us hu=>match us,hu with | [_],_=>.of_eq rfl,λbase _ _=>Qkp T (Qe1 l c k)⟩
theorem Qrs(s:String)(h:∀c ∈ s.toList,c.toNat<256):Str.ofString s=S (Xa s):=by
 have e:s.toList.map Char.toNat=(Xa s).map XU:=by
  unfold Xa;rw[Xr];refine XF λc hc=>?_
  have:=h c hc;show c.toNat=(Xa2 c.toNat).toNat;rw[XbW];omega
 rw[Str.ofString_eq_toList,e];rfl
theorem QrG:Str.ofString RS=S (Xa RS):=Qrs _ (by
 rw[QaM,String.toList_ofList];decide +kernel)
end
abbrev LK0:PySem.W.Look:=⟨false,none,false,none,false,false,false,false,[],none⟩
theorem QfS(k:PySem.W.Look):∀a b:List Stmt,Ux k (a++b)=(Ux k a&&Ux k b)
 | [],b=>rfl
 | s::a,b=>by
  show (Xcg k s&&Ux k (a++b))=(Xcg k s&&Ux k a&&Ux k b);rw[QfS k a b,Xcp]
theorem Qob{x n:Str}{i:Nat}{p q r:Pos}(h:Xcf LK0 x=true)(h2:Xb6 LK0 n=true):Ux LK0 [.Assign [.Name n p] (.Constant (.str x) i q) r]=true:=by
 have e:Ux LK0 [.Assign [.Name n p] (.Constant (.str x) i q) r]=((Xb6 LK0 n&&true&&Xcf LK0 x)&&true):=by kernel_rfl
 rw[e,h,h2];rfl
theorem Qoa:Ux LK0 PySem.Challenge.pw_saidrow_s01_answers.main.body=true:=by
 rw[<-Xal 53 (PySem.Challenge.pw_saidrow_s01_answers.main.body),QfS,<-Xal 1 (List.drop 53 _),QfS];refine XbF.mpr ⟨by decide +kernel,XbF.mpr ⟨Qob (x:=Str.ofString RS) ?_ (by decide +kernel),by decide +kernel⟩⟩;rw[QaM,PySem.W.Fast.ofString_ofList];decide +kernel
theorem QrH:PySem.Challenge.rw_saidrow_s01_answers.wellSaid=true:=by
 have a:(["vars","dir","locals"]:List Str).filter (PySem.W.readsOut PySem.Challenge.pw_saidrow_s01_answers PySem.Challenge.pw_saidrow_s01_answers.main.body)=[]:=UB.mp (by decide +kernel);have b:(!(importedModules PySem.Challenge.pw_saidrow_s01_answers.main.body).all PySem.W.cThrough.contains)=false:=by decide +kernel
 have c:Xa8 PySem.Challenge.pw_saidrow_s01_answers=true:=by
  unfold Xa8;rw[a,b,Qoa,show PySem.W.namesResolve PySem.Challenge.pw_saidrow_s01_answers=true by decide +kernel];decide +kernel
 unfold PySem.W.OpenSpec.wellSaid;rw[show Xa8 PySem.Challenge.rw_saidrow_s01_answers.prog=true from c];decide +kernel
end Sr
end

namespace Sr
abbrev C0 : Cs := ⟨84, 103, 234, 281, 355, 424, 15, 17, 64, 65, 66, 67, 69, 217, 338, 16, 68, 580, 581, 582, 541, 572, 494, 499, 546, 506, 513, 520, 527, 534, 567⟩
end Sr
def twinless (n : Lean.Name) : Lean.MacroM Lean.Syntax := do
  return (← `(theorem $(Lean.mkIdent (.str `PySem.W.Fast s!"tw{n.hash}")) : True := trivial)).raw
local macro_rules
  | `(#version) => do
    let b (s : String) (i : Nat) := twinless (.str `PySem.Challenge.cw_saidrow_s01_answers_holds s!"{s}_{i}")
    let mut r := #[← twinless `PySem.Challenge.pw_saidrow_s01_answers, ← b "view" 1]
    for i in [10, 63, 72, 93, 147, 226, 275, 336, 393, 445, 513, 600] do r := r.push (← b "sts" i)
    for i in [8, 60, 69, 92, 146, 225, 274, 335, 392, 444, 512, 599, 625] do r := r.push (← b "tree" i)
    for i in [1, 7, 628] do r := r.push (← b "heap" i)
    for i in [3:628] do r := r.push (← b "o" i)
    return Lean.mkNullNode r
#version
open PySem PySem.Spec PySem.W PyProof.Rows L2 TL Sr
set_option maxRecDepth 100000 in
set_option maxHeartbeats 0 in
theorem PySem.Challenge.cw_saidrow_s01_answers_holds : PySem.Challenge.rw_saidrow_s01_answers.Holds := by
  have k1 := Sr.QrH
  w_on; k_headS; (case hw => exact ⟨[.list [.int 12]], by decide +kernel, by decide +kernel⟩)
  k_fillS
  refine L2.QrE (r := PySem.Challenge.rw_saidrow_s01_answers) (k := 11) (CX := L2.CX0) (ps := ["calls"]) (sp := Sr.Qhj) Sr.QrH rfl rfl ⟨rfl, by decide, by decide⟩ (fun w h Y => PySem.W.kIn_of Y) ?F ?S (fun _ _ _ _ z => z)
  case F =>
    intro w mg fa h Y KX G hmg
    refine' Sr.QsG (C := Sr.C0) KX G hmg ?a ?l ?c ?k ?T
    (case a => k_is); (case l => k_is); (case c => k_is); (case k => k_is)
    case T =>
      constructor
      case qf =>
        show Qhy _ mg _ 84 _ _
        refine' Qsw (q := "Box.__init__") KX G (by decide +kernel) ?aC ?a ?i ?l ?c ?k ?pg ?hd ?po ?sa ?mk ?kc (fun _ _ _ _ _ _ us hl => match us, hl with | [_, _, _], _ => rfl)
        (case aC => k_is); (case a => k_is); (case i => k_is); (case l => k_is); (case c => k_is); (case k => k_is); (case pg => k_is); (case hd => k_is); (case po => k_is); (case sa => k_is); (case mk => k_is); (case kc => k_is)
      case qb =>
        show Qhy _ mg _ 103 _ _
        refine' Qsw (q := "Page.__init__") KX G (by decide +kernel) ?aC ?a ?i ?l ?c ?k ?pg ?hd ?po ?sa ?mk ?kc (fun _ _ _ _ _ _ us hl => match us, hl with | [_, _], _ => rfl)
        (case aC => k_is); (case a => k_is); (case i => k_is); (case l => k_is); (case c => k_is); (case k => k_is); (case pg => k_is); (case hd => k_is); (case po => k_is); (case sa => k_is); (case mk => k_is); (case kc => k_is)
      case qi =>
        show Qhy _ mg _ 234 _ _
        refine' Qsw (q := "Rule.__init__") KX G (by decide +kernel) ?aC ?a ?i ?l ?c ?k ?pg ?hd ?po ?sa ?mk ?kc (fun _ _ _ _ _ _ us hl => match us, hl with | [_, _, _, _], _ => rfl)
        (case aC => k_is); (case a => k_is); (case i => k_is); (case l => k_is); (case c => k_is); (case k => k_is); (case pg => k_is); (case hd => k_is); (case po => k_is); (case sa => k_is); (case mk => k_is); (case kc => k_is)
      case qd =>
        show Qhy _ mg _ 281 _ _
        refine' Qsw (q := "Teller.__init__") KX G (by decide +kernel) ?aC ?a ?i ?l ?c ?k ?pg ?hd ?po ?sa ?mk ?kc (fun _ _ _ _ _ _ us hl => match us, hl with | [_], _ => rfl)
        (case aC => k_is); (case a => k_is); (case i => k_is); (case l => k_is); (case c => k_is); (case k => k_is); (case pg => k_is); (case hd => k_is); (case po => k_is); (case sa => k_is); (case mk => k_is); (case kc => k_is)
      case qk =>
        show Qhy _ mg _ 355 _ _
        refine' Qsw (q := "Name.__init__") KX G (by decide +kernel) ?aC ?a ?i ?l ?c ?k ?pg ?hd ?po ?sa ?mk ?kc (fun _ _ _ _ _ _ us hl => match us, hl with | [_, _, _], _ => rfl)
        (case aC => k_is); (case a => k_is); (case i => k_is); (case l => k_is); (case c => k_is); (case k => k_is); (case pg => k_is); (case hd => k_is); (case po => k_is); (case sa => k_is); (case mk => k_is); (case kc => k_is)
      case qz =>
        show Qhy _ mg _ 424 _ _
        refine' Qsw (q := "Reader.__init__") KX G (by decide +kernel) ?aC ?a ?i ?l ?c ?k ?pg ?hd ?po ?sa ?mk ?kc (fun _ _ _ _ _ _ us hl => match us, hl with | [_, _], _ => rfl)
        (case aC => k_is); (case a => k_is); (case i => k_is); (case l => k_is); (case c => k_is); (case k => k_is); (case pg => k_is); (case hd => k_is); (case po => k_is); (case sa => k_is); (case mk => k_is); (case kc => k_is)
      case zA => exact QsM KX G (by k_is) QrG
      all_goals first
        | (refine' QsN KX G ?a ?l ?c ?k ?b; (case a => k_is); (case l => k_is); (case c => k_is); (case k => k_is); (case b => first | exact (fun _ _ _ _ _ _ us hl => match us, hl with | [_], _ => rfl) | exact (fun _ _ _ _ _ _ us hl => match us, hl with | [_, _], _ => rfl) | exact (fun _ _ _ _ _ _ us hl => match us, hl with | [_, _, _], _ => rfl) | exact (fun _ _ _ _ _ _ us hl => match us, hl with | [_, _, _, _], _ => rfl)))
        | exact QsL KX G (by k_is)
        | exact QsK KX G (by k_is)
        | exact QsM KX G (by k_is) (by decide +kernel)
        | (refine' Qtc ?l ?s ?v; (case l => k_is); (case s => decide); (case v => repeat' first | exact Paired.nil | refine Paired.cons (Qsy (by decide +kernel)) ?_))
        | (refine' Qtb ?l ?h ?pr ?nd; (case l => k_is); (case h => decide); (case nd => decide +kernel); (case pr => repeat' first | exact Paired.nil | apply Paired.cons | exact Qsv (by decide +kernel) ⟨_, rfl⟩ | exact Qsv (by decide +kernel) (Qsy (by decide +kernel)) | exact Qsu (by decide +kernel) rfl))
        | exact PySem.W.mg_of KX G (by k_is)
        | exact PySem.W.mg_none_of KX G (by k_is)
        | (unfold Jc; k_is)
        | decide
  case S =>
    intro K H xs a hO hwi hask hx
    cases hx with
    | cons h1 h2 =>
      cases h2
      cases h1 with
      | lst hs ha =>
        have e := L2.Qpd a.1 _ ha
        subst e
        obtain ⟨ks, c1, c2, c3, c4, c5⟩ := Sr.Qqf (l := a.1) hask
        refine ⟨_, ks, rfl, by rw [← c2]; exact hs, c1, c4, fun H' p hp => ?_⟩
        have e2 : PySem.Challenge.rw_saidrow_s01_answers.ret.enc (Codec.app PySem.Challenge.rw_saidrow_s01_answers.args PySem.Challenge.rw_saidrow_s01_answers.f a) = PySem.Challenge.rw_saidrow_s01_answers.ret.enc (PyVaaccb.answers a.1) := rfl
        rw [e2, c3]
        exact .lst (L2.SqL.of hp) (L2.Qo2 _)
