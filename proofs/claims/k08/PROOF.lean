import PyProof.Rows.All
import Wide.All
import OpenK.AllK
import Wide.FinOn
import Lean
import PyProof.EqAt
import PyProof.EqKinds
import PyProof.TupleCall
import PyProof.WalksEnum
import PyProof.EnumMake
import PyProof.ZipIter
import PyProof.ReprStr
import PyProof.StrBlockG
import PyProof.StrWalks
import PyProof.FString5
import PyProof.ConsumeWalk
import PyProof.SumAny
import PyProof.StrCalls2
import KE.KDictList
import PyProof.Draws
import PyProof.StrBlock2
import PyProof.DictIter
import PyProof.ExcInit
import PyProof.ExcClass3
import PyProof.FString
import PyProof.FitsInt
import PyProof.StrLawsRepr
import PyProof.Rows.Range3
import PyProof.StrCalls
import PyProof.ListRange
import PyProof.AttrMissHeap
import KE.KDictOf
import PyProof.StrCalls3
import PyProof.FactsAll.dict_2
import PyProof.MeetsIn
import PyProof.Cells
import KE.KDictSum
import PyProof.DictWalks
import KE.KRevIter
import PyProof.FactsAll.subtypes_3
import PyProof.Rows.SortWalk
import KE.KSortedM
import PyProof.Rows.SortStr
import PyProof.MinMaxWalk
import PyProof.WalkInts
import PyProof.SeqI3
import PyProof.Rows.CallKwBuiltin
import KE.KUnpack
import PyProof.Rows.SeqMore2
import PyProof.LongRange
import KE.KRevIter
import PyProof.FactsAll.range_2
import PyProof.StrCalls6
import PySem.Challenge.RW_strokegrow_k08_grown_once
theorem jpp (h:True:=by rfl):True:=h
def jp:Lean.Syntax:=jpp._auto_1
theorem xzp (h:True:=by decide):True:=h
def xz:Lean.Syntax:=xzp._auto_1
theorem xLp (h:True:=by first | exact .inl rfl | exact .inr rfl | assumption):True:=h
def xL:Lean.Syntax:=xLp._auto_1
theorem vap (h:True:=by intro _;rfl):True:=h
def va:Lean.Syntax:=vap._auto_1
theorem v0p (h:True:=by first | exact GL rfl | exact GB rfl):True:=h
def v0:Lean.Syntax:=v0p._auto_1
theorem v2p (h:True:=by first | exact GL rfl | exact GB (GL rfl) | exact GB (GB rfl)):True:=h
def v2:Lean.Syntax:=v2p._auto_1
theorem v6p (h:True:=by intro _ _;rfl):True:=h
def v6:Lean.Syntax:=v6p._auto_1
theorem khp (h:True:=by with_unfolding_all rfl):True:=h
def kh:Lean.Syntax:=khp._auto_1
theorem wfp (h:True:=by first | exact .inl rfl | exact .inr rfl):True:=h
def wf:Lean.Syntax:=wfp._auto_1
theorem AA3 {a b:Nat}(h:autoParam (Nat.ble a b=true) jp):a<=b:=Nat.le_of_ble_eq_true h
set_option Elab.async false
set_option linter.all false
set_option maxRecDepth 100000
section
open Exists renaming elim→ou
open List renaming getElem?_eq_getElem→AV, length_map→Bn, getElem?_set_ne→Cq, getElem?_set_self→FG, getD_eq_getElem?_getD→F2, getElem?_eq_some_iff→F6, replicate→Ga, getElem?_map→Gb, getElem?_append_left→Gf, mem_cons_of_mem→Gg, getElem?_append_right→Gh, getElem?_eq_none→Gi, mem_cons_self→Gj, size_toArray→Gm, length_append→Gn, mem_append_right→Gq, map_cons→Gs, append_nil→Gu, length_take→Gv, mem_cons→Gy, getElem_mem→Gz, map_map→GA, mem_append→GC, find?_cons→GD, range→GG, length_cons→GH, getElem?_replicate→GI, lookup_cons→GK, mem_map→GN, getElem_map→GP, pairwise_iff_getElem→GQ, mem_of_getElem?→GR, length_range→GS, mem_iff_getElem→GU, length_drop→GV, take_of_length_le→GX, map_append→GY, flatten_cons→G3, take_length→G5, any_cons→G7, nodup_cons→G8, lookup→Hc, take_add_one→He, getElem_take→Hg, all_cons→Hi, mem_append_left→Hj, mem_of_mem_take→Hk, of_mem_zip→Hm, filterMap_cons→Hn, filter_eq_self→Hq, replicate_succ→Hr
open Nat renaming le_refl→DU, lt_of_lt_of_le→F1, ne_of_lt→Gd, le_trans→Ge, zero_le→GO, lt_irrefl→GZ, le_of_ble_eq_true→G0, lt_succ_self→G4, lt_of_le_of_lt→G9, le_succ→Hd, le_of_not_lt→Hh, le_of_lt→Hs
open PySem.Heap renaming lt_size→FK, get?_push_of_some→F0, get?_push_size→Gp, size_push→Ht
open Bool renaming false_ne_true→Gk, and_eq_true→GJ, false_eq_true→GW, eq_iff_iff→Hl
open Int renaming emod_nonneg→Gw, emod_lt_of_pos→Gx, toNat_natCast→G2
open Or renaming inr→GB, inl→GL
open Option renaming isSome_iff_exists→G6
open Array renaming length_toList→Ho
theorem zn {α:Sort u}{p q r:α->Prop}(h:∃ x,p x∧q x)(f:∀ x,p x->q x->r x):∃ x,p x∧r x:=Exists.elim h fun x h=>⟨x,h.1,f x h.1 h.2⟩
namespace L2
open PySem PySem.Spec PyProof.Rows
noncomputable abbrev Key:=Sum Int Str
noncomputable def iE:Key->Value->Bool
 | .inl k,v=>Value.isInt k v
 | .inr x,v=>Value.isStrOf x v
noncomputable def A8 (w:World):Key->Int
 | .inl k=>hashInt k
 | .inr x=>hashStr w x
theorem aQ:∀ {k:Key} {v:Value},iE k v=true->(∃ i t,k=Sum.inl i/\v=Value.int i t)\/(∃ x t,k=Sum.inr x/\v=Value.str x t)
 | .inl i,v,h=>by
   obtain⟨t,e⟩:=Value.isInt_shape (k:=i) (v:=v) h;exact .inl ⟨i,t,rfl,e⟩
 | .inr x,v,h=>by
   obtain⟨t,e⟩:=Value.isStrOf_shape (x:=x) (v:=v) h;exact .inr ⟨x,t,rfl,e⟩
theorem n6 (i:Int)(t:Tok):iE (.inl i) (.int i t)=true:=by simp[iE,Value.isInt]
theorem n8 (x:Str)(t:Tok):iE (.inr x) (.str x t)=true:=by simp[iE,Value.isStrOf]
theorem vV (a b:Int):decide ((Sum.inl a:Key)=Sum.inl b)=(a == b):=by
 by_cases e:a=b
 . subst e;simp
 . have h:¬ (Sum.inl a:Key)=Sum.inl b:=fun q=>e (Sum.inl.inj q)
   rw[decide_eq_false h];exact(beq_eq_false_iff_ne.mpr e).symm
theorem vW (a b:Str):decide ((Sum.inr a:Key)=Sum.inr b)=decide (a=b):=by
 by_cases e:a=b
 . subst e;simp
 . have h:¬ (Sum.inr a:Key)=Sum.inr b:=fun q=>e (Sum.inr.inj q)
   rw[decide_eq_false h,decide_eq_false e]
theorem vX (a:Int)(b:Str):decide ((Sum.inl a:Key)=Sum.inr b)=false:=decide_eq_false (fun q=>nomatch q)
theorem vY (a:Str)(b:Int):decide ((Sum.inr a:Key)=Sum.inl b)=false:=decide_eq_false (fun q=>nomatch q)
noncomputable def bb (prog:Program)(w:World):PySem.KeyKind prog w Key where
 is:=iE
 hash:=A8 w
 inj:=fun v a b ha hb=>by
   rcases aQ ha with⟨i,t,rfl,rfl⟩ | ⟨x,t,rfl,rfl⟩
   . rcases aQ hb with⟨j,u,rfl,e⟩ | ⟨y,u,rfl,e⟩
     . injection e with e1 _;rw[e1]
     . exact nomatch e
   . rcases aQ hb with⟨j,u,rfl,e⟩ | ⟨y,u,rfl,e⟩
     . exact nomatch e
     . injection e with e1 _;rw[e1]
 byValue:=fun k v h=>by
   rcases aQ h with⟨i,t,rfl,rfl⟩ | ⟨x,t,rfl,rfl⟩ <;> rfl
 pyHash:=fun hv h=>by
   rcases aQ hv with⟨i,t,rfl,rfl⟩ | ⟨x,t,rfl,rfl⟩
   . exact wpAny_pyHash_int h
   . exact wpAny_pyHash_str h
 eqBool:=fun hu hv h=>by
   rcases aQ hu with⟨i,t,rfl,rfl⟩ | ⟨x,t,rfl,rfl⟩
   . rcases aQ hv with⟨j,u,rfl,rfl⟩ | ⟨y,u,rfl,rfl⟩
     . rw[vV] at h;exact wpAny_eqBool_int h
     . rw[vX] at h;exact SeqAt.EqAt.int_str i t y u _ _ _ _ h
   . rcases aQ hv with⟨j,u,rfl,rfl⟩ | ⟨y,u,rfl,rfl⟩
     . rw[vY] at h;exact SeqAt.EqAt.str_int x t j u _ _ _ _ h
     . rw[vW] at h;exact wpAny_eqBool_str h
 «strs»:=fun k x t v h=>by
   rcases aQ h with⟨i,u,rfl,e⟩ | ⟨y,u,rfl,e⟩
   . exact nomatch e
   . injection e with e1 _
     subst e1;cases v <;> rfl
theorem km (prog:Program)(w:World)(i:Int)(t:Tok):(bb prog w).is (.inl i) (.int i t)=true:=n6 i t
theorem ko (prog:Program)(w:World)(x:Str)(t:Tok):(bb prog w).is (.inr x) (.str x t)=true:=n8 x t
inductive V where
 | a7 | bl (b:Bool) | int (i:Int) | str (x:Str) | pO (b:Array UInt8) | vx (b:UInt64) | ref (a:Addr) | ty (n:String)
 deriving DecidableEq
def RelV:V->Value->Prop
 | .a7,u=>u=Value.none
 | .bl b,u=>u=Value.bool b
 | .int i,u=>∃ t,u=Value.int i t
 | .str x,u=>∃ t,u=Value.str x t
 | .pO b,u=>∃ t,u=Value.bytes b t
 | .vx b,u=>∃ t,u=Value.float b t
 | .ref a,u=>u=Value.ref a
 | .ty n,u=>u=Value.type n
abbrev Vals:List V->List Value->Prop:=Paired RelV
theorem Vals.length {xs:List V}{us:List Value}(r:Vals xs us):xs.length=us.length:=Paired.length r
theorem Vals.get:∀ {xs:List V} {us:List Value} {i:Nat} {x:V},Vals xs us->xs[i]?=some x->∃ u,us[i]?=some u/\RelV x u
 | _,_,_,_,.nil,e=>by simp at e
 | _,_,0,_,.cons r _,e=>by simp at e;subst e;exact⟨_,rfl,r⟩
 | _,_,i+1,x,.cons _ t,e=>by
   obtain⟨u,h1,h2⟩:=Vals.get (i:=i) (x:=x) t (by simpa using e);exact⟨u,by simpa using h1,h2⟩
theorem Vals.append:∀ {xs ys:List V} {us ws:List Value},Vals xs us->Vals ys ws->Vals (xs ++ ys) (us ++ ws)
 | _,_,_,_,.nil,s=>s
 | _,_,_,_,.cons r t,s=>.cons r (Vals.append t s)
theorem Vals.take:∀ {xs:List V} {us:List Value} (n:Nat),Vals xs us->Vals (xs.take n) (us.take n)
 | _,_,0,_=>.nil
 | _,_,_+1,.nil=>.nil
 | _,_,n+1,.cons r t=>.cons r (Vals.take n t)
theorem Vals.drop:∀ {xs:List V} {us:List Value} (n:Nat),Vals xs us->Vals (xs.drop n) (us.drop n)
 | _,_,0,r=>r
 | _,_,_+1,.nil=>.nil
 | _,_,n+1,.cons _ t=>Vals.drop n t
def dJ:Option V->Option Value->Prop
 | some v,some u=>RelV v u
 | none,none=>True
 | _,_=>False
def KV {κ:Type}:List (κ×V)->List (κ×Value)->Prop:=Paired fun(p:κ×V) (q:κ×Value)=>p.1=q.1/\RelV p.2 q.2
noncomputable def kV:Key->V
 | .inl i=>.int i
 | .inr x=>.str x
inductive FD where
 | int (i:Int)
 | bW (kds:List (Key×Int))
 | lst (ns:List Int)
 | tup (K:W.Frag) (ns:List Int)
 | obj (C:Addr) (fs:List (Str×FD))
noncomputable abbrev ki:=List (Addr×(Nat->List (Key×FD)))
inductive HO where
   | lst (xs:List V)
   | tup (xs:List V)
   | dK (kvs:List (Key×V)) | dT (kvs:List (List Key×V))
   | set (S:Int->Bool) (n:Nat)
   | ins (C dx:Addr) (fs:List (Str×V))
   | own (x:Addr)
   | xd (fs:List (Str×V))
   | met (f x:Addr)
   | AE (lo hi:Int)
   | a6 (o:Obj) (u:HO)
   | vy (ps:Array Value)
   | ext (φ:Heap->Prop)
   | memo (ls:ki)
 | eh (ls:ki) (ns:List Nat)
   | part (p:Addr)
   | kd (tg:Option (Addr×Nat)) (o:Obj) (kvs:List (Key×V))
   | kx (o:Obj) (u:HO)
noncomputable abbrev Hp:=Addr->Option HO
noncomputable def upd (H:Hp)(a:Addr)(o:HO):Hp:=fun b=>if b=a then some o else H b
theorem aj {H:Hp}{a:Addr}{o:HO}:upd H a o a=some o:=by unfold upd;rw[if_pos rfl]
theorem ah {H:Hp}{a b:Addr}{o:HO}(h:b≠a):upd H a o b=H b:=by unfold upd;rw[if_neg h]
theorem yU {H:Hp}{a b:Addr}{o u:HO}(h:H a=some o)(h':H b=some u)(d:o≠u):a≠b:=by
 intro e;subst e;rw[h] at h';exact d (Option.some.inj h')
theorem ao {H:Hp}{a b:Addr}{o:HO}(h:H a=some o)(h':H b=none):a≠b:=by
 intro e;subst e;rw[h] at h';cases h'
def fb:Option HO->Prop
 | some (.memo _)=>True
 | some (.eh _ _)=>True
 | some (.part _)=>True
 | _=>False
def Kept:HO->Prop
 | .kd _ _ _=>True
 | .kx _ _=>True
 | .tup _=>True
 | _=>False
def TupAt (K:W.Frag)(H:Hp)(a:Addr)(xs:List V):Prop:=
 H a=some (.tup xs) \/
   ∃ (o:Obj) (aB:Array Value) (n:Nat),K.lookup a=some o/\o.cls=.type "tuple"/\o.data=.seq aB n/\aB.size<=sizeLine/\Vals xs aB.toList
mutual
inductive Fz (H:Hp):V->FD->Prop
 | int (i:Int):Fz H (.int i) (.int i)
 | bW {a:Addr} {tg:Option (Addr×Nat)} {o:Obj} {kds:List (Key×Int)}:H a=some (.kd tg o (kds.map fun kd=>(kd.1,V.int kd.2)))->Fz H (.ref a) (.bW kds)
 | lst {a:Addr} {o:Obj} {ns:List Int}:H a=some (.kx o (.lst (ns.map V.int)))->Fz H (.ref a) (.lst ns)
 | tup {a:Addr} {K:W.Frag} {ns:List Int}:TupAt K H a (ns.map V.int)->Fz H (.ref a) (.tup K ns)
 | obj {a C dx:Addr} {o:Obj} {fv:List (Str×V)} {fs:List (Str×FD)}:H a=some (.kx o (.ins C dx fv))->sR H fv fs->Fz H (.ref a) (.obj C fs)
inductive sR (H:Hp):List (Str×V)->List (Str×FD)->Prop
 | nil:sR H [] []
 | cons {k:Str} {v:V} {d:FD} {vs:List (Str×V)} {ds:List (Str×FD)}:Fz H v d->sR H vs ds->sR H ((k,v)::vs) ((k,d)::ds)
end
inductive sW (H:Hp):List (Key×V)->List (Key×FD)->Prop
 | nil:sW H [] []
 | cons {k:Key} {v:V} {d:FD} {kvs:List (Key×V)} {kds:List (Key×FD)}:Fz H v d->sW H kvs kds->sW H ((k,v)::kvs) ((k,d)::kds)
def vZ (H:Hp)(p:Addr)(i:Nat)(aB:List Value)(fd:List (Key×FD)):Prop:=∃ q o kvs,aB[i]?=some (.ref q)/\H q=some (.kd (some (p,i)) o kvs)/\sW H kvs fd
def mX (H:Hp)(h:Heap)(p:Addr)(f:Nat->List (Key×FD))(n:Nat):Prop:=∃ aB c,h.get? p=some { cls:=.type "list",data:=.seq (aB:List Value).toArray c}/\aB.length=n/\∀ i,i < n->vZ H p i aB (f i)
def gG (H:Hp)(h:Heap)(a:Addr)(ls:ki)(ns:List Nat):Prop:=(∃ f,ls[0]?=some (a,f))/\ls.length=ns.length/\(∀ (j:Nat) (p:Addr) (f:Nat->List (Key×FD)),ls[j]?=some (p,f)->(p=a\/H p=some (.part a)))/\(ls.map (·.1)).Nodup/\(∀ n∈ns,n<=10000)/\∀ (j:Nat) (p:Addr) (f:Nat->List (Key×FD)) (n:Nat),ls[j]?=some (p,f)->ns[j]?=some n->mX H h p f n
section
variable (P:Program)(w:World)
def aD (H:Hp)(h:Heap)(a:Addr):HO->Prop
 | .lst xs=>xs.length<=sizeLine/\∃ (aB:List Value) (n:Nat),Vals xs aB/\h.get? a=some { cls:=.type "list",data:=.seq aB.toArray n}
 | .tup xs=>xs.length<=sizeLine/\∃ aB:List Value,Vals xs aB/\IsTup h a aB.toArray
 | .dK kvs=>kvs.length<=sizeLine/\(a == sysModules)=false/\∃ vs,KV kvs vs/\h.DictOf (bb P w) a vs
 | .dT kvs=>kvs.length<=sizeLine/\(a == sysModules)=false/\∃ xs:List (List Key×Addr×Value),
     Paired (fun(p:List Key×V) (q:List Key×Addr×Value)=>p.1=q.1/\H q.2.1=some (.tup (p.1.map kV))/\RelV p.2 q.2.2) kvs xs /\
     ∃ o es ep,h.get? a=some o/\o.ExactDict/\o.data=.dict es ep/\es.toList=xs.map (entryOfKey (tupleKind (bb P w)))/\(xs.map (·.1)).Nodup
 | .set S n=>h.SetOf (intKind P w) a S n
 | .ins C dx fs=>H dx=some (.own a)/\fs.length<=1000/\dx≠a/\h.get? a=some (W.instObj C dx) /\
     ∃ mA,h.Ns1 dx mA/\(∀ f,dJ (fs.lookup f) (mA f))/\PySem.Within mA (fs.map (·.1))
 | .own _=>∃ o,h.get? a=some o
 | .xd fs=>∃ mA,h.Ns1 a mA/\∀ f,dJ (fs.lookup f) (mA f)
 | .AE lo hi=>∃ t u v,h.get? a=some { cls:=.type "range",data:=.fields #[.int lo t,.int hi u,.int 1 v]}
 | .a6 o u=>h.get? a=some o/\aD H h a u
 | .vy ps=>h.get? a=some { cls:=.none,data:=.fields ps}
 | .met f x=>h.get? a=some (W.methodObj (.ref f) (.ref x))
 | .ext φ=>φ h/\(∃ o,h.get? a=some o)/\∀ h1 h2:Heap,φ h1->(∀ o,h1.get? a=some o->h2.get? a=some o)->φ h2
 | .memo ls=>(∃ o,h.get? a=some o)/\∃ n,0 < n/\gG H h a ls (Ga ls.length n)
 | .eh ls ns=>(∃ o,h.get? a=some o)/\gG H h a ls ns
 | .part _=>∃ o,h.get? a=some o
 | .kd tg o kvs=>h.get? a=some o/\(kvs.length<=sizeLine/\(a == sysModules)=false/\∃ vs,KV kvs vs/\h.DictOf (bb P w) a vs) /\
     ∀ p i,tg=some (p,i)->fb (H p)/\∃ aB c,h.get? p=some { cls:=.type "list",data:=.seq (aB:List Value).toArray c}/\aB[i]?=some (.ref a)
 | .kx o u=>h.get? a=some o/\aD H h a u
def dv (H:Hp)(h:Heap):Prop:=∀ a o,H a=some o->aD P w H h a o
end
section
variable {P:Program}{w:World}{H H':Hp}{h h':Heap}{a:Addr}{o:HO}
theorem aD.lt (x:aD P w H h a o):a < h.objs.size:=by
 cases o with
 | lst xs=>obtain⟨_,_,_,_,e⟩:=x;exact FK e
 | tup xs=>obtain⟨_,_,_,p⟩:=x;exact p.lt
 | dK kvs=>obtain⟨_,_,_,_,o,_,_,e,_⟩:=x;exact FK e
 | dT kvs=>obtain⟨_,_,_,_,o,_,_,e,_⟩:=x;exact FK e
 | set S n=>obtain⟨o,_,_,_,e,_⟩:=x;exact FK e
 | ins C dx fs=>obtain⟨_,_,_,e,_⟩:=x;exact FK e
 | own y=>obtain⟨_,e⟩:=x;exact FK e
 | xd fs=>obtain⟨_,⟨_,_,_,e,_⟩,_⟩:=x;exact FK e
 | AE lo hi=>obtain⟨_,_,_,e⟩:=x;exact FK e
 | a6 ob u=>obtain⟨e,_⟩:=x;exact FK e
 | vy ps=>exact FK (show h.get? a=some _ from x)
 | met f y=>exact FK (show h.get? a=some _ from x)
 | ext φ=>obtain⟨_,⟨_,e⟩,_⟩:=x;exact FK e
 | memo ls=>obtain⟨⟨_,e⟩,_⟩:=x;exact FK e
 | eh ls ns=>obtain⟨⟨_,e⟩,_⟩:=x;exact FK e
 | part y=>obtain⟨_,e⟩:=x;exact FK e
 | kd tg ob kvs=>exact FK x.1
 | kx ob u=>exact FK x.1
theorem Paired.v3 {α β:Type}{F G:α->β->Prop}:∀ {l₁:List α} {l₂:List β},Paired F l₁ l₂->(∀ a b,F a b->G a b)->Paired G l₁ l₂
 | _,_,.nil,_=>.nil
 | _,_,.cons r t,f=>.cons (f _ _ r) (Paired.v3 t f)
structure Kp (H H':Hp):Prop where
 st:∀ b u,H b=some u->Kept u->H' b=some u
 mem:∀ b,fb (H b)->fb (H' b)
 part:∀ b x,H b=some (.part x)->H' b=some (.part x)
theorem Kp.kd (kp:Kp H H')(b:Addr)(tg:Option (Addr×Nat))(o:Obj)(kvs:List (Key×V))(e:H b=some (.kd tg o kvs)):H' b=some (.kd tg o kvs):=kp.st b _ e trivial
theorem Kp.refl:Kp H H:=⟨fun _ _ e _=>e,fun _ e=>e,fun _ _ e=>e⟩
theorem Kp.of (s:∀ b u,H b=some u->H' b=some u):Kp H H':=⟨fun _ _ e _=>s _ _ e,fun b e=>by
 cases q:H b with
 | none=>rw[q] at e;exact e.elim
 | some u=>rw[s b u q,<- q];exact e,fun _ _ e=>s _ _ e⟩
theorem TupAt.kp {K:W.Frag}{xs:List V}(k:∀ b u,H b=some u->Kept u->H' b=some u)(h:TupAt K H a xs):TupAt K H' a xs:=h.imp (fun e=>k _ _ e trivial) id
mutual
theorem Fz.st (k:∀ b u,H b=some u->Kept u->H' b=some u):∀ {v:V} {d:FD},Fz H v d->Fz H' v d
 | _,_,.int i=>.int i
 | _,_,.bW e=>.bW (k _ _ e trivial)
 | _,_,.lst e=>.lst (k _ _ e trivial)
 | _,_,.tup e=>.tup (e.kp k)
 | _,_,.obj e f=>.obj (k _ _ e trivial) (sR.st k f)
theorem sR.st (k:∀ b u,H b=some u->Kept u->H' b=some u):∀ {v:List (Str×V)} {d:List (Str×FD)},sR H v d->sR H' v d
 | _,_,.nil=>.nil
 | _,_,.cons h t=>.cons (Fz.st k h) (sR.st k t)
end
theorem Fz.kp (kp:Kp H H'){v:V}{d:FD}(h:Fz H v d):Fz H' v d:=h.st kp.st
theorem sW.kp (kp:Kp H H'):∀ {kvs:List (Key×V)} {kds:List (Key×FD)},sW H kvs kds->sW H' kvs kds
 | _,_,.nil=>.nil
 | _,_,.cons h t=>.cons (h.kp kp) (sW.kp kp t)
theorem mX.kp {p:Addr}{f:Nat->List (Key×FD)}{n:Nat}(kp:Kp H H')(x:mX H h p f n)(k:∀ u,h.get? p=some u->h'.get? p=some u):mX H' h' p f n:=by
 obtain⟨aB,c,e,hl,hi⟩:=x;exact⟨aB,c,k _ e,hl,fun i hn=>let ⟨q,o,kvs,h1,h2,h3⟩:=hi i hn;⟨q,o,kvs,h1,kp.kd _ _ _ _ h2,h3.kp kp⟩⟩
theorem gG.kp {ls:ki}{ns:List Nat}(kp:Kp H H')(x:gG H h a ls ns)(k:∀ b u,b=a\/H b=some (.part a)->h.get? b=some u->h'.get? b=some u):gG H' h' a ls ns:=by
 obtain⟨h1,h2,h3,h4,h5,h6⟩:=x;exact⟨h1,h2,fun j p f e=>(h3 j p f e).imp id fun z=>kp.part _ _ z,h4,h5,fun j p f n e1 e2=>(h6 j p f n e1 e2).kp kp fun u e=>k p u (h3 j p f e1) e⟩
def CK (h:Heap)(p:Addr)(i:Nat)(c:Addr):Prop:=∃ aB n,h.get? p=some { cls:=.type "list",data:=.seq (aB:List Value).toArray n}/\aB[i]?=some (.ref c)
theorem aD.yV (x:aD P w H h a o)(k:∀ b u,(b=a\/H b=some (.own a)\/H b=some (.part a))->h.get? b=some u->h'.get? b=some u)(ho:∀ b,H b=some (.own a)->H' b=some (.own a))(ht:∀ b xs,H b=some (.tup xs)->H' b=some (.tup xs))(kp:Kp H H')(hl:∀ p i c,fb (H p)->CK h p i c->CK h' p i c):aD P w H' h' a o:=by
 induction o with
 | lst xs=>obtain⟨z,aB,n,r,e⟩:=x;exact⟨z,aB,n,r,k _ _ (.inl rfl) e⟩
 | tup xs=>obtain⟨z,aB,r,ob,e,c⟩:=x;exact⟨z,aB,r,ob,k _ _ (.inl rfl) e,c⟩
 | dK kvs=>obtain⟨z,y,vs,r,ob,es,ep,e,c⟩:=x;exact⟨z,y,vs,r,ob,es,ep,k _ _ (.inl rfl) e,c⟩
 | dT kvs=>
   obtain⟨z,y,xs,r,ob,es,ep,e,c⟩:=x;exact⟨z,y,xs,Paired.v3 r fun p q z=>⟨z.1,ht _ _ z.2.1,z.2.2⟩,ob,es,ep,k _ _ (.inl rfl) e,c⟩
 | set S n=>obtain⟨ob,es,ep,t,e,c⟩:=x;exact⟨ob,es,ep,t,k _ _ (.inl rfl) e,c⟩
 | ins C dx fs=>
   obtain⟨d,z,ne,e,mA,⟨od,es,ep,e2,c⟩,r⟩:=x;exact⟨ho _ d,z,ne,k _ _ (.inl rfl) e,mA,⟨od,es,ep,k _ _ (.inr (.inl d)) e2,c⟩,r⟩
 | own y=>obtain⟨ob,e⟩:=x;exact⟨ob,k _ _ (.inl rfl) e⟩
 | xd fs=>obtain⟨mA,⟨od,es,ep,e,c⟩,r⟩:=x;exact⟨mA,⟨od,es,ep,k _ _ (.inl rfl) e,c⟩,r⟩
 | AE lo hi=>obtain⟨t,u,v,e⟩:=x;exact⟨t,u,v,k _ _ (.inl rfl) e⟩
 | a6 ob u ih=>obtain⟨e,q⟩:=x;exact⟨k _ _ (.inl rfl) e,ih q⟩
 | vy ps=>
   have e:h.get? a=some { cls:=.none,data:=.fields ps}:=x;show h'.get? a=some { cls:=.none,data:=.fields ps};exact k a _ (.inl rfl) e
 | met f y=>
   have e:h.get? a=some (W.methodObj (.ref f) (.ref y)):=x;show h'.get? a=some (W.methodObj (.ref f) (.ref y));exact k a _ (.inl rfl) e
 | ext φ=>obtain⟨p,⟨o,e⟩,st⟩:=x;exact⟨st _ _ p fun o q=>k _ _ (.inl rfl) q,⟨o,k _ _ (.inl rfl) e⟩,st⟩
 | memo ls=>
   obtain⟨⟨o,e⟩,n,hn,q⟩:=x;refine⟨⟨o,k _ _ (.inl rfl) e⟩,n,hn,q.kp kp fun b u hb=>k b u ?_⟩;rcases hb with z | z
   . exact .inl z
   . exact .inr (.inr z)
 | eh ls ns=>
   obtain⟨⟨o,e⟩,q⟩:=x;refine⟨⟨o,k _ _ (.inl rfl) e⟩,q.kp kp fun b u hb=>k b u ?_⟩;rcases hb with z | z
   . exact .inl z
   . exact .inr (.inr z)
 | part y=>obtain⟨o,e⟩:=x;exact⟨o,k _ _ (.inl rfl) e⟩
 | kd tg ob kvs=>
   obtain⟨e,⟨z,y,vs,r,DN,es,ep,e',c⟩,q⟩:=x;refine⟨k _ _ (.inl rfl) e,⟨z,y,vs,r,DN,es,ep,k _ _ (.inl rfl) e',c⟩,fun p i ht=>?_⟩;obtain⟨q1,q2⟩:=q p i ht;exact⟨kp.mem _ q1,hl p i _ q1 q2⟩
 | kx ob u ih=>obtain⟨e,q⟩:=x;exact⟨k _ _ (.inl rfl) e,ih q⟩
theorem aD.iw (x:aD P w H h a o)(k:∀ b u,(b=a\/H b=some (.own a)\/fb (H b))->h.get? b=some u->h'.get? b=some u)(ho:∀ b,H b=some (.own a)->H' b=some (.own a))(ht:∀ b xs,H b=some (.tup xs)->H' b=some (.tup xs))(kp:Kp H H'):aD P w H' h' a o:=
 x.yV (fun b u hb=>k b u (by
   rcases hb with z | z | z
   . exact .inl z
   . exact .inr (.inl z)
   . exact .inr (.inr (by rw[z];trivial)))) ho ht kp fun p i c hm ⟨aB,n,e,q⟩=>⟨aB,n,k p _ (.inr (.inr hm)) e,q⟩
theorem dv.lt (x:dv P w H h)(e:H a=some o):a < h.objs.size:=(x a o e).lt
theorem dv.fresh (x:dv P w H h)(e:h.objs.size<=a):H a=none:=by
 cases q:H a with
 | none=>rfl
 | some u=>exact absurd (F1 (x.lt q) e) (GZ _)
theorem dv.kept (x:dv P w H h)(k:∀ b u,h.get? b=some u->h'.get? b=some u):dv P w H h':=fun a o e=>
 (x a o e).iw (fun b u _ q=>k b u q) (fun _ q=>q) (fun _ _ q=>q) .refl
theorem dv.laid (x:dv P w H h)(k:∀ b u,h.get? b=some u->h'.get? b=some u)(hp:h.objs.size<=a)(new:aD P w (upd H a o) h' a o):dv P w (upd H a o) h':=fun b u e=>by
 have hn:=x.fresh hp;by_cases hb:b=a
 . subst hb;rw[aj] at e;cases e;exact new
 . rw[ah hb] at e
   exact(x b u e).iw (fun c v _ q=>k c v q) (fun c q=>by rw[ah (ao q hn)];exact q) (fun c xs q=>by rw[ah (ao q hn)];exact q) (.of fun c u q=>by rw[ah (ao q hn)];exact q)
end
def Rd (H:Hp)(a:Addr)(u:HO):Prop:=H a=some u\/(∃ o,H a=some (.a6 o u))\/(∃ tg o kvs,H a=some (.kd tg o kvs)/\u=.dK kvs)\/∃ o,H a=some (.kx o u)
theorem Rd.of {H:Hp}{a:Addr}{u:HO}(h:H a=some u):Rd H a u:=.inl h
theorem Rd.ok {P:Program}{w:World}{H:Hp}{h:Heap}{a:Addr}{u:HO}(r:Rd H a u)(x:dv P w H h):aD P w H h a u:=by
 rcases r with r | ⟨o,r⟩ | ⟨tg,o,kvs,r,rfl⟩ | ⟨o,r⟩
 . exact x a u r
 . obtain⟨_,q⟩:=x a _ r
   exact q
 . obtain⟨_,q,_⟩:=x a _ r
   exact q
 . obtain⟨_,q⟩:=x a _ r
   exact q
def yI:Option HO->Prop
 | some (.lst _)=>True
 | some (.dK _)=>True
 | some (.dT _)=>True
 | some (.set _ _)=>True
 | some (.ins _ _ _)=>True
 | some (.ext _)=>True
 | _=>False
section
variable {P:Program}{w:World}{H:Hp}{h h':Heap}{x e:Addr}{o':HO}
theorem dv.write (ok:dv P w H h)(mu:yI (H x))(he:e=x\/H e=some (.own x))(k:∀ b u,b≠e->h.get? b=some u->h'.get? b=some u)(yJ:∃ u,h'.get? e=some u)(new:aD P w (upd H x o') h' x o'):dv P w (upd H x o') h':=fun b u q=>by
 have jc:∀ c y,H c=some (.own y)->c≠x:=fun c y r z=>by subst z;rw[r] at mu;exact mu
 have A9:∀ c xs,H c=some (.tup xs)->c≠x:=fun c xs r z=>by subst z;rw[r] at mu;exact mu
 by_cases hb:b=x
 . subst hb;rw[aj] at q;cases q;exact new
 . rw[ah hb] at q
   by_cases lO:b=e
   . have q':H b=some (.own x):=by
       rcases he with z | z
       . exact absurd (lO.trans z) hb
       . rw[lO];exact z
     rw[q] at q';cases q';obtain⟨v,hv⟩:=yJ;exact⟨v,by rw[lO];exact hv⟩
   . have CL:∀ c u,H c=some u->¬ yI (some u)->c≠x:=fun c u r nm z=>by subst z;rw[r] at mu;exact nm mu
     have CM:∀ c,fb (H c)->c≠x:=fun c r z=>by
       subst z;cases qq:H c with
       | none=>rw[qq] at r;exact r
       | some u=>rw[qq] at r mu;cases u <;> first | exact mu | exact r
     refine(ok b u q).iw (fun c v hc r=>k c v ?_ r) (fun c r=>by rw[ah (jc c b r)];exact r) (fun c xs r=>by rw[ah (A9 c xs r)];exact r) ⟨fun c u r kq=>by rw[ah (CL c _ r (by cases u <;> first | exact(show False from kq).elim | exact fun z=>z))];exact r,fun c r=>by rw[ah (CM c r)];exact r,fun c y r=>by rw[ah (CL c _ r fun z=>z)];exact r⟩;rcases hc with rfl | hc | hc
     . exact lO
     . rintro rfl
       rcases he with z | z
       . exact jc c b hc z
       . rw[hc] at z;cases z;exact hb rfl
     . rintro rfl
       rcases he with z | z
       . exact CM c hc z
       . rw[z] at hc;exact hc
end
structure Un (fs ex:List Addr)(H H':Hp)(h h':Heap):Prop where
 keep:∀ b o,h.get? b=some o->H b=none->b ∉ fs->b ∉ ex->h'.get? b=some o
 slot:∀ b o,h.get? b=some o->H b=none->b∈fs->b ∉ ex->∃ sl,h'.get? b=some { o with slots:=sl}
 free:∀ b o,h.get? b=some o->H b=none->b ∉ ex->H' b=none
 there:∀ b o,h.get? b=some o->b ∉ ex->∃ o',h'.get? b=some o'
 fX:∀ b xs,H b=some (.tup xs)->H' b=some (.tup xs)
 ff:∀ b o u,H b=some (.a6 o u)->H' b=some (.a6 o u)
 fY:∀ b ps,H b=some (.vy ps)->∃ more,H' b=some (.vy (ps ++ more))
section
variable {fs ex:List Addr}{H H1:Hp}{h h1 h':Heap}{a x e:Addr}{o:HO}
theorem Un.any (u:Un fs ex H H1 h h1){b:Addr}{ob:Obj}(q:h.get? b=some ob)(n:H b=none)(hx:b ∉ ex):∃ sl,h1.get? b=some { ob with slots:=sl}:=by
 by_cases hb:b∈fs
 . exact u.slot b ob q n hb hx
 . exact⟨ob.slots,u.keep b ob q n hb hx⟩
theorem Un.kept (k:∀ b u,h.get? b=some u->h'.get? b=some u):Un fs ex H H h h':=
 ⟨fun b ob q _ _ _=>k b ob q,fun b ob q _ _ _=>⟨ob.slots,k b ob q⟩,fun _ _ _ n _=>n,fun b ob q _=>⟨ob,k b ob q⟩,fun _ _ q=>q,fun _ _ _ q=>q,fun _ ps q=>⟨#[],by rw[q];simp⟩⟩
theorem Un.refl:Un fs ex H H h h:=Un.kept fun _ _ q=>q
theorem Un.laid (k:∀ b u,h.get? b=some u->h'.get? b=some u)(hp:h.objs.size<=a)(hn:H a=none):Un fs ex H (upd H a o) h h' where
 keep:=fun b u q _ _ _=>k b u q
 slot:=fun b u q _ _ _=>⟨u.slots,k b u q⟩
 free:=fun b u q n _=>by rw[ah (Gd (F1 (FK q) hp))];exact n
 there:=fun b u q _=>⟨u,k b u q⟩
 fX:=fun b xs q=>by rw[ah (ao q hn)];exact q
 ff:=fun b u xs q=>by rw[ah (ao q hn)];exact q
 fY:=fun b ps q=>⟨#[],by rw[ah (ao q hn),q];simp⟩
theorem Un.write (mu:yI (H x))(he:e=x\/H e=some (.own x))(k:∀ b u,b≠e->h.get? b=some u->h'.get? b=some u)(yJ:∃ u,h'.get? e=some u):Un fs ex H (upd H x o) h h':=by
 have hx:∀ b,H b=none->b≠x:=fun b n z=>by subst z;rw[n] at mu;exact mu
 have hb:∀ b,H b=none->b≠e:=fun b n z=>by
   subst z;rcases he with r | r
   . exact hx b n r
   . rw[n] at r;cases r
 have hm:∀ b u,H b=some u->¬ yI (some u)->b≠x:=fun b u q nm z=>by subst z;rw[q] at mu;exact nm mu
 refine⟨fun b u q n _ _=>k b u (hb b n) q,fun b u q n _ _=>⟨u.slots,k b u (hb b n) q⟩,fun b u q n _=>by rw[ah (hx b n)];exact n,fun b u q _=>?_,
   fun b xs q=>by rw[ah (hm b _ q fun z=>z)];exact q,fun b u xs q=>by rw[ah (hm b _ q fun z=>z)];exact q,fun b ps q=>⟨#[],by rw[ah (hm b _ q fun z=>z),q];simp⟩⟩
 by_cases lO:b=e
 . subst lO;exact yJ
 . exact⟨u,k b u lO q⟩
end
noncomputable def ir (h:Heap)(H:Hp):List Addr:=(GG h.objs.size).filter fun a=>(H a).isSome
noncomputable def jd (h:Heap)(H:Hp):Heap:=PySem.W.hideAll h (ir h H)
theorem n9 (h:Heap)(H:Hp):(jd h H).objs.size=h.objs.size:=W.hideAll_size _ _
theorem pP {h:Heap}{H:Hp}{b:Addr}{o:Obj}(e:h.get? b=some o)(n:H b=none):(jd h H).get? b=some o:=
 W.hideAll_get _ e fun hm=>by
   have q:(H b).isSome=true:=(List.mem_filter.mp hm).2;rw[n] at q;simp at q
theorem sX {h:Heap}{H:Hp}{b:Addr}{o:Obj}(e:(jd h H).get? b=some o):h.get? b=some o/\H b=none:=by
 have e':h.get? b=some o:=W.of_hideAll (ir h H) e;refine⟨e',?_⟩;cases q:H b with
 | none=>rfl
 | some x=>
   have hm:b∈ir h H:=List.mem_filter.mpr ⟨List.mem_range.mpr (FK e'),by simp[q]⟩;have z:(jd h H).get? b=none:=W.hideAll_none (ir h H) hm;rw[z] at e;cases e
noncomputable def sY (g h:Heap)(L:Addr):List (Addr×Obj):=(GG h.objs.size).filterMap fun a=>if a=L\/(g.get? a).isSome=true then none else (h.get? a).map fun o=>(a,o)
noncomputable def rest (g h:Heap)(L d:Addr):List (Addr×Obj):=(sY g h L).filter fun p=>decide (p.1≠d)
structure Mod (K:W.Frag)(mg:Str->Option Value)(base:Heap):Prop where
 sZ:K.In base
 glob:base.Ns mainGlobals mg
 blt:∃ mb,base.Ns builtinsNs mb/\∀ x:Str,x≠"__name__"->mb x=bootBuiltins x
 nolimit:base.NoLimit
structure Cx where
 prog:Program
 w:World
 K:W.Frag
 mg:Str->Option Value
 base:Heap
 A:Around
 N:List Str
 s₀:Shared
 H₀:Hp
 env:Env
 outer:List Env
 stack:List Env
 ex:List Addr
 fn:Str->Bool
 calm:Bool
 pn:List (Addr×Obj)
 xe:Value->Shared->Prop
noncomputable def cC (l:List Env):List Addr:=l.filterMap (·.frame)
noncomputable abbrev Cx.fs (X:Cx):List Addr:=cC X.outer
def pQ (sc:Scope)(x:Str):Prop:=sc.names.lookup x=some .local\/sc.names.lookup x=some .cell\/sc.names.lookup x=some .free
def Loc (sc:Scope)(x:Str):Prop:=sc.names.lookup x=some .local\/sc.names.lookup x=some .cell
def Look (env:Env)(h:Heap)(m:Str->Option Value)(x:Str)(u:Value):Prop:=
 (env.kindOf x=some .local/\m x=some u)\/((env.kindOf x=some .cell\/env.kindOf x=some .free)/\∃ c,env.cells.lookup x=some c/\h.IsCell c (some u))
structure Cx.Ok (X:Cx):Prop where
 mod:Mod X.K X.mg X.base
 kind:X.env.scope.kind=.function
 glob:X.env.globals=mainGlobals
 blt:X.env.builtins=builtinsNs
 above:X.s₀.heap.objs.size<=X.env.locals
 inj:∀ x y c,X.env.cells.lookup x=some c->X.env.cells.lookup y=some c->x=y
 has:∀ x,(X.env.kindOf x=some .cell\/X.env.kindOf x=some .free)->∃ c,X.env.cells.lookup x=some c
 v5:∀ x c,X.fn x=true->X.env.cells.lookup x=some c->X.s₀.heap.objs.size<=c
 hd:X.calm=true->X.A.handled=none
 frames:X.A.frames=some X.stack
 yK:X.stack=X.outer\/(X.stack=X.env::X.outer/\X.env.frame=some X.env.locals)
 yL:∀ b∈X.ex,b≠X.env.locals/\∀ x c,X.env.cells.lookup x=some c->c≠b
 bs:∀ b o,X.base.get? b=some o->X.s₀.heap.get? b=some o/\X.H₀ b=none
 pR:X.base.objs.size<=X.s₀.heap.objs.size
 lP:∀ b o,X.base.get? b=some o->b ∉ X.ex
 lQ:∀ b∈X.ex,b ∉ X.fs
 dY:X.s₀.heap.FunFrames X.base X.outer
 pM:∀ b∈X.fs,X.H₀ b=none
structure Inv (X:Cx)(pins:List (Addr×Obj))(σ:List (Option V))(H:Hp)(s:Shared):Prop where
 ok:X.Ok
 os:s.os=X.s₀.os
 bare:AllBare s.gens
 base:Un X.fs X.ex X.H₀ H X.s₀.heap s.heap
 loc:∃ m,s.heap.Ns X.env.locals m/\∀ (i:Nat) (x:Str) (v:V),X.N[i]?=some x->σ[i]?=some (some v)->pQ X.env.scope x->∃ u,RelV v u/\Look X.env s.heap m x u
 cell:∀ x c,X.env.cells.lookup x=some c->∃ v,s.heap.IsCell c v
 free:H X.env.locals=none
 cD:∀ x c,X.env.cells.lookup x=some c->H c=none
 pin:∀ p∈X.pn ++ pins,s.heap.get? p.1=some p.2/\H p.1=none/\p.1≠X.env.locals/\p.1 ∉ X.fs/\∀ v,p.2.data≠.cell v
 aF:dv X.prog X.w H s.heap
 len:σ.length=X.N.length
section
variable {X:Cx}{pins:List (Addr×Obj)}{σ:List (Option V)}{H H':Hp}{s:Shared}{h':Heap}
theorem Cx.Ok.yW (ok:X.Ok){b:Addr}{o:Obj}(e:X.base.get? b=some o):b ∉ X.fs:=fun hb=>by
 have:=(ok.dY.mem hb).1;rw[e] at this;cases this
theorem Inv.bs (I:Inv X pins σ H s):∀ b o,X.base.get? b=some o->s.heap.get? b=some o/\H b=none:=fun b o e=>
 ⟨I.base.keep b o (I.ok.bs b o e).1 (I.ok.bs b o e).2 (I.ok.yW e) (I.ok.lP b o e),I.base.free b o (I.ok.bs b o e).1 (I.ok.bs b o e).2 (I.ok.lP b o e)⟩
theorem Inv.bk (I:Inv X pins σ H s):∀ b o,X.base.get? b=some o->s.heap.get? b=some o:=fun b o e=>(I.bs b o e).1
theorem Inv.mod (I:Inv X pins σ H s):Mod X.K X.mg X.base:=I.ok.mod
theorem Inv.cw (I:Inv X pins σ H s):X.K.In s.heap:=I.ok.mod.sZ.keeps I.bk
theorem Inv.lt (I:Inv X pins σ H s):X.env.locals < s.heap.objs.size:=let ⟨_,hn,_⟩:=I.loc;hn.lt
theorem Inv.sz (I:Inv X pins σ H s):X.s₀.heap.objs.size<=s.heap.objs.size:=Ge I.ok.above (Hs I.lt)
theorem Inv.Bb (I:Inv X pins σ H s){a:Addr}(h:s.heap.objs.size<=a):a ∉ X.fs:=fun hb=>by
 obtain⟨_,o,ho,_⟩:=I.ok.dY.mem hb;exact absurd (F1 (FK ho) (Ge I.sz h)) (GZ _)
theorem Inv.mY (I:Inv X pins σ H s):∀ x c,X.env.cells.lookup x=some c->c≠X.env.locals:=fun x c e z=>by
 obtain⟨v,o,ho,hd⟩:=I.cell x c e;obtain⟨m,⟨o',es,ep,pS,Bc,_⟩,_⟩:=I.loc;rw[z,pS] at ho;cases ho;rw[Bc] at hd;cases hd
theorem Inv.dY (I:Inv X pins σ H s):s.heap.FunFrames X.base X.outer:=by
 have all:∀ (l:List Env),(∀ b∈cC l,b∈X.fs)->X.s₀.heap.FunFrames X.base l->s.heap.FunFrames X.base l:=by
   intro l
   induction l with
   | nil=>intro _ _;trivial
   | cons env r ih=>
     intro hs hl;obtain⟨hk,⟨L,o,hf,hn,ho,hd⟩,hr⟩:=hl;have hL:L∈X.fs:=hs L (by unfold cC;rw[Hn,hf];exact Gj);obtain⟨sl,e⟩:=I.base.slot L o ho (I.ok.pM L hL) hL fun z=>I.ok.lQ L z hL
     exact⟨hk,⟨L,_,hf,hn,e,hd⟩,ih (fun b hb=>hs b (by unfold cC;rw[Hn,hf];exact Gg _ hb)) hr⟩
 exact all X.outer (fun _ hb=>hb) I.ok.dY
theorem Inv.stack (I:Inv X pins σ H s):s.heap.FunFrames X.base X.stack:=by
 rcases I.ok.yK with e | ⟨e,hf⟩
 . rw[e];exact I.dY
 . rw[e]
   obtain⟨m,hn,_⟩:=I.loc;refine .cons (by rw[I.ok.kind];decide) hf hn ?_ I.dY;exact Heap.get?_none_of_le (Ge I.ok.pR I.ok.above)
theorem Inv.lR (I:Inv X pins σ H s):∀ b∈cC X.stack,b∈X.env.locals::X.fs:=fun b hb=>by
 rcases I.ok.yK with e | ⟨e,hf⟩
 . rw[e] at hb;exact Gg _ hb
 . rw[e] at hb
   unfold cC at hb;rw[Hn,hf] at hb;exact hb
theorem Inv.ei (I:Inv X pins σ H s):∀ b∈cC X.stack,H b=none:=fun b hb=>by
 rcases Gy.mp (I.lR b hb) with e | hb
 . rw[e];exact I.free
 . obtain⟨_,o,ho,_⟩:=I.ok.dY.mem hb
   exact I.base.free b o ho (I.ok.pM b hb) fun z=>I.ok.lQ b z hb
theorem Inv.step {g':Array GenState}{t':Nat}{d':Drawn}{ch:List Addr}(I:Inv X pins σ H s)(kj:∀ b∈ch,(b∈X.ex\/X.s₀.heap.objs.size<=b)/\b≠X.env.locals/\(∀ x c,X.env.cells.lookup x=some c->c≠b)/\∀ p∈X.pn ++ pins,p.1≠b)(keep:∀ b o,b≠X.env.locals->b ∉ X.fs->b ∉ ch->s.heap.get? b=some o->H b=none->h'.get? b=some o)(slot:∀ b o,b≠X.env.locals->b∈X.fs->b ∉ ch->s.heap.get? b=some o->H b=none->∃ sl,h'.get? b=some { o with slots:=sl})(free:∀ b o,b ∉ ch->s.heap.get? b=some o->H b=none->H' b=none)(there:∀ b o,b ∉ ch->s.heap.get? b=some o->∃ o',h'.get? b=some o')(fX:∀ b xs,H b=some (.tup xs)->H' b=some (.tup xs))(ff:∀ b o u,H b=some (.a6 o u)->H' b=some (.a6 o u))(fY:∀ b ps,H b=some (.vy ps)->∃ more,H' b=some (.vy (ps ++ more)))(ns:∀ m,s.heap.Ns X.env.locals m->h'.Ns X.env.locals m)(aF:dv X.prog X.w H' h')(hg:AllBare g'):Inv X pins σ H' { s with heap:=h',gens:=g',drawn:=d',toks:=t'}:=by
 have CN:∀ b o,X.s₀.heap.get? b=some o->b≠X.env.locals:=fun b o e=>Gd (F1 (FK e) I.ok.above)
 have AF:∀ b o,X.s₀.heap.get? b=some o->b ∉ X.ex->b ∉ ch:=fun b o e hx hb=>by
   rcases (kj b hb).1 with z | z
   . exact hx z
   . exact absurd (F1 (FK e) z) (GZ _)
 have cellK:∀ x c,X.env.cells.lookup x=some c->∀ v,s.heap.IsCell c v->h'.IsCell c v:=fun x c e v ⟨o,ho,hd⟩=>by
   have yX:c ∉ ch:=fun z=>(kj c z).2.2.1 x c e rfl
   by_cases hc:c∈X.fs
   . obtain⟨sl,q⟩:=slot c o (I.mY x c e) hc yX ho (I.cD x c e)
     exact⟨_,q,hd⟩
   . exact⟨o,keep c o (I.mY x c e) hc yX ho (I.cD x c e),hd⟩
 refine⟨I.ok,I.os,hg,⟨fun b o e n hb hx=>?_,fun b o e n hb hx=>?_,fun b o e n hx=>?_,fun b o e hx=>?_,fun b xs e=>fX b xs (I.base.fX b xs e),fun b o xs e=>ff b o xs (I.base.ff b o xs e),fun b ps e=>?_⟩,?_,fun x c e=>?_,?_,fun x c e=>?_,fun p hp=>?_,aF,I.len⟩
 . exact keep b o (CN b o e) hb (AF b o e hx) (I.base.keep b o e n hb hx) (I.base.free b o e n hx)
 . obtain⟨sl,e1⟩:=I.base.slot b o e n hb hx
   obtain⟨DO,e2⟩:=slot b _ (CN b o e) hb (AF b o e hx) e1 (I.base.free b o e n hx);exact⟨DO,e2⟩
 . obtain⟨o',e1⟩:=I.base.there b o e hx
   exact free b o' (AF b o e hx) e1 (I.base.free b o e n hx)
 . obtain⟨o',e1⟩:=I.base.there b o e hx
   exact there b o' (AF b o e hx) e1
 . obtain⟨m1,e1⟩:=I.base.fY b ps e
   obtain⟨m2,e2⟩:=fY b _ e1;exact⟨m1 ++ m2,by rw[e2,Array.append_assoc]⟩
 . obtain⟨m,hn,hl⟩:=I.loc
   refine⟨m,ns m hn,fun i x v e1 e2 e3=>?_⟩;obtain⟨u,r,l⟩:=hl i x v e1 e2 e3;refine⟨u,r,?_⟩;rcases l with l | ⟨k,c,e,z⟩
   . exact .inl l
   . exact .inr ⟨k,c,e,cellK x c e _ z⟩
 . obtain⟨v,z⟩:=I.cell x c e
   exact⟨v,cellK x c e v z⟩
 . obtain⟨m,⟨o,_,_,ho,_⟩,_⟩:=I.loc
   exact free _ o (fun z=>(kj _ z).2.1 rfl) ho I.free
 . obtain⟨v,o,ho,hd⟩:=I.cell x c e
   exact free c o (fun z=>(kj c z).2.2.1 x c e rfl) ho (I.cD x c e)
 . obtain⟨e,n,ne,nf,d⟩:=I.pin p hp
   have yX:p.1 ∉ ch:=fun z=>(kj p.1 z).2.2.2 p hp rfl
   exact⟨keep p.1 p.2 ne nf yX e n,free p.1 p.2 yX e n,ne,nf,d⟩
theorem Inv.un {t':Nat}(I:Inv X pins σ H s)(u:Un X.fs [] H H' s.heap h')(aF:dv X.prog X.w H' h'):Inv X pins σ H' { s with heap:=h',toks:=t'}:=by
 obtain⟨m,⟨o,es,ep,ho,r⟩,_⟩:=id I.loc;obtain⟨sl,hL⟩:=u.any ho I.free (by simp);exact I.step (g':=s.gens) (d':=s.drawn) (ch:=[]) (fun _ z=>nomatch z) (fun b o _ hb _ e n=>u.keep b o e n hb (by simp)) (fun b o _ hb _ e n=>u.slot b o e n hb (by simp)) (fun b o _ e n=>u.free b o e n (by simp)) (fun b o _ e=>u.there b o e (by simp)) u.fX u.ff u.fY (fun m' hm=>by
   obtain⟨o',Bd,Be,pS,r'⟩:=hm;rw[ho] at pS;cases pS;exact⟨_,Bd,Be,hL,r'⟩) aF I.bare
theorem Inv.call {g':Array GenState}{t':Nat}{d':Drawn}{ch:List Addr}(I:Inv X pins σ H s)(u:Un (cC X.stack) ch H H' s.heap h')(aF:dv X.prog X.w H' h')(hg:AllBare g')(kj:∀ b∈ch,(b∈X.ex\/X.s₀.heap.objs.size<=b)/\b≠X.env.locals/\(∀ x c,X.env.cells.lookup x=some c->c≠b)/\∀ p∈X.pn ++ pins,p.1≠b):Inv X pins σ H' { s with heap:=h',gens:=g',drawn:=d',toks:=t'}:=by
 obtain⟨m,⟨o,es,ep,ho,r⟩,_⟩:=id I.loc;obtain⟨sl,hL⟩:=u.any ho I.free fun z=>(kj _ z).2.1 rfl
 exact I.step (ch:=ch) kj (fun b o hL hb hc e n=>u.keep b o e n (fun z=>(Gy.mp (I.lR b z)).elim hL hb) hc) (fun b o _ _ hc e n=>u.any e n hc) (fun b o hc e n=>u.free b o e n hc) (fun b o hc e=>u.there b o e hc) u.fX u.ff u.fY (fun m' hm=>by
   obtain⟨o',Bd,Be,pS,r'⟩:=hm;rw[ho] at pS;cases pS;exact⟨_,Bd,Be,hL,r'⟩) aF hg
theorem Inv.turned {t':Nat}{it:Addr}(I:Inv X pins σ H s)(k:∀ b o,b≠it->s.heap.get? b=some o->h'.get? b=some o)(hn:H it=none)(hL:it≠X.env.locals)(h1:it∈X.ex\/X.s₀.heap.objs.size<=it)(h2:∀ x c,X.env.cells.lookup x=some c->c≠it)(h3:∀ p∈X.pn ++ pins,p.1≠it):Inv X pins σ H { s with heap:=h',toks:=t'}:=by
 have yY:∀ b u,H b=some u->b≠it:=fun b u e z=>by rw[z,hn] at e;cases e
 refine I.step (g':=s.gens) (d':=s.drawn) (ch:=[it]) (fun b hb=>?_) (fun b o _ _ hc e _=>k b o (fun z=>hc (by simp[z])) e) (fun b o _ _ hc e _=>⟨o.slots,k b o (fun z=>hc (by simp[z])) e⟩) (fun _ _ _ _ n=>n)
   (fun b o hc e=>⟨o,k b o (fun z=>hc (by simp[z])) e⟩) (fun _ _ e=>e) (fun _ _ _ e=>e) (fun b ps e=>⟨#[],by rw[e];simp⟩) (fun m hm=>?_) (fun b u e=>?_) I.bare
 . have e:b=it:=by simpa using hb
   subst e;exact⟨h1,hL,h2,h3⟩
 . obtain⟨o,es,ep,ho,r⟩:=hm
   exact⟨o,es,ep,k _ o (Ne.symm hL) ho,r⟩
 . refine(I.aF b u e).iw (fun c v hc q=>k c v ?_ q) (fun _ q=>q) (fun _ _ q=>q) .refl
   rcases hc with z | z | z
   . rw[z];exact yY b u e
   . exact yY c _ z
   . exact fun z'=>by rw[z',hn] at z;exact z
theorem Inv.tok (I:Inv X pins σ H s)(t:Nat):Inv X pins σ H { s with toks:=t}:=I.un (h':=s.heap) (t':=t) Un.refl I.aF
theorem Inv.kept {t':Nat}(I:Inv X pins σ H s)(k:∀ b u,s.heap.get? b=some u->h'.get? b=some u):Inv X pins σ H { s with heap:=h',toks:=t'}:=I.un (Un.kept k) (I.aF.kept k)
theorem Inv.laid {a:Addr}{o:HO}{t':Nat}(I:Inv X pins σ H s)(k:∀ b u,s.heap.get? b=some u->h'.get? b=some u)(hp:s.heap.objs.size<=a)(new:aD X.prog X.w (upd H a o) h' a o):Inv X pins σ (upd H a o) { s with heap:=h',toks:=t'}:=I.un (Un.laid k hp (I.aF.fresh hp)) (I.aF.laid k hp new)
theorem Inv.write {x e:Addr}{o:HO}{t':Nat}(I:Inv X pins σ H s)(mu:yI (H x))(he:e=x\/H e=some (.own x))(k:∀ b u,b≠e->s.heap.get? b=some u->h'.get? b=some u)(yJ:∃ u,h'.get? e=some u)(new:aD X.prog X.w (upd H x o) h' x o):Inv X pins σ (upd H x o) { s with heap:=h',toks:=t'}:=I.un (Un.write mu he k yJ) (I.aF.write mu he k yJ new)
theorem Inv.mZ {kr:List (Addr×Obj)}(I:Inv X pins σ H s)(h:∀ p∈kr,s.heap.get? p.1=some p.2/\H p.1=none/\p.1≠X.env.locals/\p.1 ∉ X.fs/\∀ v,p.2.data≠.cell v):Inv X kr σ H s:=
 ⟨I.ok,I.os,I.bare,I.base,I.loc,I.cell,I.free,I.cD,fun p hp=>(GC.mp hp).elim (fun z=>I.pin p (Hj _ z)) (h p),I.aF,I.len⟩
theorem gH {N:List Str}(hN:N.Nodup){i j:Nat}{x:Str}(a:N[i]?=some x)(b:N[j]?=some x):i=j:=by
 obtain⟨h1,e1⟩:=F6.mp a;obtain⟨h2,e2⟩:=F6.mp b;exact(List.getElem_inj hN).mp (e1.trans e2.symm)
theorem iF {M:Model}{A:Around}{E:Value->Shared->Prop}{i:Nat}{x:Str}{v:V}{u:Value}{Q:Unit->Shared->Prop}(I:Inv X pins σ H s)(hN:X.N.Nodup)(hi:X.N[i]?=some x)(hx:Loc X.env.scope x)(r:RelV v u)(h:∀ s',Inv X pins (σ.set i (some v)) H s'->(∃ a,Heap.SameBut a s.heap s'.heap/\(a=X.env.locals\/X.env.cells.lookup x=some a))->Q () s')(hf:autoParam (X.fn x=true\/X.env.scope.names.lookup x=some .local) xL):wpAny M A (storeName X.env x u) Q E s:=by
 obtain⟨m,hn,hl⟩:=id I.loc;have v7:(X.env.scope.kind == .class || (X.env.scope.kind == .module && X.env.locals != X.env.globals))=false:=by rw[I.ok.kind];rfl
 have AG:i < σ.length:=by rw[I.len];exact(F6.mp hi).1
 have mY:=I.mY;have tracked:∀ {a:Addr} {h':Heap},(∃ o,s.heap.get? a=some o/\H a=none)->Heap.SameBut a s.heap h'->dv X.prog X.w H h':=fun {a h'} ha hs b ob e=>by
   obtain⟨_,_,pT⟩:=ha;refine(I.aF b ob e).iw (fun c w' hc q=>(hs.2 c ?_).trans q) (fun _ q=>q) (fun _ _ q=>q) .refl
   rintro rfl
   rcases hc with rfl | hc | hc
   . rw[pT] at e;cases e
   . rw[pT] at hc;cases hc
   . rw[pT] at hc;exact hc
 rcases hx with hk | hk
 . refine wpAny_storeName_local hk hn (fun h' pN hs=>?_) v7
   obtain⟨oL,_,_,CO,_⟩:=id hn;refine h _ ⟨I.ok,I.os,I.bare,⟨fun b o e n hb hx=>?_,fun b o e n hb hx=>?_,I.base.free,fun b o e hx=>?_,I.base.fX,I.base.ff,I.base.fY⟩,⟨_,pN,fun j y v' e1 e2 e3=>?_⟩,fun y c e=>?_,I.free,I.cD,fun p hp=>?_,tracked ⟨oL,CO,I.free⟩ hs,by simpa using I.len⟩ ⟨_,hs,.inl rfl⟩
   . exact(hs.2 b (Gd (F1 (FK e) I.ok.above))).trans (I.base.keep b o e n hb hx)
   . obtain⟨sl,e1⟩:=I.base.slot b o e n hb hx
     exact⟨sl,(hs.2 b (Gd (F1 (FK e) I.ok.above))).trans e1⟩
   . obtain⟨o',e1⟩:=I.base.there b o e hx
     exact⟨o',(hs.2 b (Gd (F1 (FK e) I.ok.above))).trans e1⟩
   . by_cases hj:j=i
     . subst hj
       rw[hi] at e1;cases e1;rw[FG AG] at e2;cases e2;exact⟨u,r,.inl ⟨hk,by simp⟩⟩
     . rw[Cq (Ne.symm hj)] at e2
       obtain⟨u',r',q⟩:=hl j y v' e1 e2 e3;refine⟨u',r',?_⟩;rcases q with⟨k,e⟩ | ⟨k,c,e,z⟩
       . refine .inl ⟨k,?_⟩
         have:y≠x:=fun e=>hj (gH hN e1 (e ▸ hi))
         simp[this,e]
       . exact .inr ⟨k,c,e,z.sameBut hs (mY y c e)⟩
   . obtain⟨w',z⟩:=I.cell y c e
     exact⟨w',z.sameBut hs (mY y c e)⟩
   . obtain⟨e,n,ne,nf,d⟩:=I.pin p hp
     exact⟨(hs.2 p.1 ne).trans e,n,ne,nf,d⟩
 . have Bf:X.fn x=true:=by
     rcases hf with z | z
     . exact z
     . rw[z] at hk;cases hk
   obtain⟨c,hc⟩:=I.ok.has x (.inl hk);obtain⟨w',z⟩:=I.cell x c hc;refine wpAny_storeName_cell I.ok.kind hk hc z (fun h' yZ hs=>?_);obtain⟨oc,yM,Bg⟩:=id z;refine h { s with heap:=h'} ⟨I.ok,I.os,I.bare,⟨fun b o e n hb hx=>?_,fun b o e n hb hx=>?_,I.base.free,fun b o e hx=>?_,I.base.fX,I.base.ff,I.base.fY⟩,⟨m,hn.sameBut hs (Ne.symm (mY x c hc)),fun j y v' e1 e2 e3=>?_⟩,fun y c' e=>?_,I.free,I.cD,fun p hp=>?_,tracked ⟨oc,yM,I.cD x c hc⟩ hs,by simpa using I.len⟩ ⟨c,hs,.inr hc⟩
   . exact(hs.2 b (Gd (F1 (FK e) (I.ok.v5 x c Bf hc)))).trans (I.base.keep b o e n hb hx)
   . obtain⟨sl,e1⟩:=I.base.slot b o e n hb hx
     exact⟨sl,(hs.2 b (Gd (F1 (FK e) (I.ok.v5 x c Bf hc)))).trans e1⟩
   . obtain⟨o',e1⟩:=I.base.there b o e hx
     exact⟨o',(hs.2 b (Gd (F1 (FK e) (I.ok.v5 x c Bf hc)))).trans e1⟩
   . by_cases hj:j=i
     . subst hj
       rw[hi] at e1;cases e1;rw[FG AG] at e2;cases e2;exact⟨u,r,.inr ⟨.inl hk,c,hc,yZ⟩⟩
     . rw[Cq (Ne.symm hj)] at e2
       obtain⟨u',r',q⟩:=hl j y v' e1 e2 e3;refine⟨u',r',?_⟩;rcases q with q | ⟨k,c',e,z'⟩
       . exact .inl q
       . refine .inr ⟨k,c',e,z'.sameBut hs ?_⟩
         rintro rfl
         exact hj (gH hN e1 (I.ok.inj _ _ _ e hc ▸ hi))
   . by_cases CP:c'=c
     . subst CP;exact⟨_,yZ⟩
     . obtain⟨w2,z2⟩:=I.cell y c' e
       exact⟨w2,z2.sameBut hs CP⟩
   . obtain⟨e,n,ne,nf,d⟩:=I.pin p hp
     refine⟨(hs.2 p.1 ?_).trans e,n,ne,nf,d⟩;intro q;rw[q,yM] at e;have q':oc=p.2:=Option.some.inj e;exact d w' (by rw[<- q'];exact Bg)
theorem eo {M:Model}{A:Around}{E:Value->Shared->Prop}{i:Nat}{x:Str}{v:V}{u:Value}{Q:Unit->Shared->Prop}(I:Inv X pins σ H s)(hN:X.N.Nodup)(hi:X.N[i]?=some x)(hx:Loc X.env.scope x)(r:RelV v u)(h:∀ s',Inv X pins (σ.set i (some v)) H s'->Q () s')(hf:autoParam (X.fn x=true\/X.env.scope.names.lookup x=some .local) xL):wpAny M A (storeName X.env x u) Q E s:=
 iF I hN hi hx r (fun s' I' _=>h s' I') hf
theorem Inv.m3 {s':Shared}{ch:List Addr}(I:Inv X pins σ H s)(ho:s'.os=s.os)(u:Un (cC X.stack) ch H H' s.heap s'.heap)(aF:dv X.prog X.w H' s'.heap)(hg:AllBare s'.gens)(kj:∀ b∈ch,(b∈X.ex\/X.s₀.heap.objs.size<=b)/\b≠X.env.locals/\(∀ x c,X.env.cells.lookup x=some c->c≠b)/\∀ p∈X.pn ++ pins,p.1≠b):Inv X pins σ H' s':=by
 obtain⟨h',g',d',t',o'⟩:=s';have e:o'=s.os:=ho;subst e;exact I.call (g':=g') (t':=t') (d':=d') u aF hg kj
end
abbrev XK:=Value->Option Addr->Hp->Prop
noncomputable abbrev St:=List (Option V)
abbrev VK:=V->Hp->Prop
abbrev TE:=St->Hp->VK->Prop
abbrev TT:=St->Hp->(Bool->Hp->Prop)->Prop
abbrev TA:=St->Hp->(List V->Hp->Prop)->Prop
structure Ends where
 nx:St->Hp->Prop
 rt:VK
 bk:St->Hp->Prop:=fun _ _=>False
 ct:St->Hp->Prop:=fun _ _=>False
abbrev TS:=Ends->St->Hp->Prop
def EP (X:Cx)(pins:List (Addr×Obj))(σ:St)(Q:VK)(u:Value)(s':Shared):Prop:=∃ v H',Inv X pins σ H' s'/\RelV v u/\Q v H'
def TP (X:Cx)(pins:List (Addr×Obj))(σ:St)(Q:Bool->Hp->Prop)(b:Bool)(s':Shared):Prop:=∃ H',Inv X pins σ H' s'/\Q b H'
def AP (X:Cx)(pins:List (Addr×Obj))(σ:St)(Q:List V->Hp->Prop)(us:List Value)(s':Shared):Prop:=∃ vs H',Inv X pins σ H' s'/\Vals vs us/\Q vs H'
def SP (X:Cx)(pins:List (Addr×Obj))(D:Ends)(f:Flow)(s':Shared):Prop:=
 match f with
 | .next=>∃ σ' H',Inv X pins σ' H' s'/\D.nx σ' H'
 | .brk=>∃ σ' H',Inv X pins σ' H' s'/\D.bk σ' H'
 | .cont=>∃ σ' H',Inv X pins σ' H' s'/\D.ct σ' H'
 | .ret u=>∃ v σ' H',Inv X pins σ' H' s'/\RelV v u/\D.rt v H'
def PE (X:Cx)(e:Expr)(t:TE):Prop:=
 ∀ (pins:List (Addr×Obj)) (s:Shared) (σ:St) (H:Hp) (Q:VK),Inv X pins σ H s->t σ H Q->wpAny (model X.prog X.w) X.A (eval e X.env) (EP X pins σ Q) X.xe s
def PT (X:Cx)(e:Expr)(t:TT):Prop:=
 ∀ (pins:List (Addr×Obj)) (s:Shared) (σ:St) (H:Hp) (Q:Bool->Hp->Prop),Inv X pins σ H s->t σ H Q->wpAny (model X.prog X.w) X.A (isTrue e X.env (eval e X.env)) (TP X pins σ Q) X.xe s
def PW (X:Cx)(e:Expr)(t:TT):Prop:=
 ∀ (whole:Sem Value) (pins:List (Addr×Obj)) (s:Shared) (σ:St) (H:Hp) (Q:Bool->Hp->Prop),Inv X pins σ H s->t σ H Q->wpAny (model X.prog X.w) X.A (isTrue e X.env whole) (TP X pins σ Q) X.xe s
theorem PW.pt {X:Cx}{e:Expr}{t:TT}(h:PW X e t):PT X e t:=h _
def PA (X:Cx)(es:List Expr)(t:TA):Prop:=
 ∀ (pos:Pos) (pins:List (Addr×Obj)) (s:Shared) (σ:St) (H:Hp) (Q:List V->Hp->Prop),Inv X pins σ H s->t σ H Q->wpAny (model X.prog X.w) X.A (spliced (backTo pos (starEach es X.env))) (AP X pins σ Q) X.xe s
def PS (X:Cx)(st:Stmt)(t:TS):Prop:=
 ∀ (pins:List (Addr×Obj)) (s:Shared) (σ:St) (H:Hp) (D:Ends),Inv X pins σ H s->t D σ H->wpAny (model X.prog X.w) X.A (exec st X.env) (SP X pins D) X.xe s
def oe (X:Cx)(st:List Stmt)(t:TS):Prop:=
 ∀ (pins:List (Addr×Obj)) (s:Shared) (σ:St) (H:Hp) (D:Ends),Inv X pins σ H s->t D σ H->wpAny (model X.prog X.w) X.A (execs st X.env) (SP X pins D) X.xe s
theorem aS {α:Type}{t:Sem α}{Q Q':α->Shared->Prop}{M:Model}{A:Around}{E:Value->Shared->Prop}{s:Shared}(h:wpAny M A t Q E s)(hQ:∀ a s,Q a s->Q' a s):wpAny M A t Q' E s:=wpAny_mono h hQ fun _ _ x=>x
section
variable {X:Cx}
def Bh (i:Nat):TE:=fun σ H Q=>∃ v,σ[i]?=some (some v)/\Q v H
def tC (v:V):TE:=fun _ H Q=>Q v H
theorem gI {i:Nat}{x:Str}{pos:Pos}(hN:X.N[i]?=some x)(hv:pQ X.env.scope x)(hd:autoParam ((x == ("__debug__":Str))=false) xz)(ee:autoParam ((x == ("__classdict__":Str))=false) xz):PE X (.Name x pos) (Bh i):=by
 intro pins s σ H Q I h;obtain⟨v,e,h⟩:=h;obtain⟨m,hn,hl⟩:=I.loc;obtain⟨u,r,l⟩:=hl i x v hN e hv;have fin:EP X pins σ Q u s:=⟨v,H,I,r,h⟩
 rcases l with⟨hk,hm⟩ | ⟨hk,c,hc,vz⟩
 . exact wpAny_Name (wpAny_loadName_local I.ok.kind hk hn hm fin) hd
 . rcases hk with hk | hk
   . exact wpAny_Name (wpAny_loadName_cell I.ok.kind hk hc vz fin) hd
   . exact wpAny_Name (wpAny_loadName_free I.ok.kind hk hc vz fin ee) hd
theorem v8 {i j pos}:PE X (.Constant (.int i) j pos) (tC (.int i)):=fun _ _ _ H _ I h=>wpAny_Constant_int ⟨.int i,H,I.tok _,⟨_,rfl⟩,h⟩
theorem y8 {b j pos}:PE X (.Constant (.bool b) j pos) (tC (.bl b)):=fun _ _ _ H _ I h=>Constant_bool ⟨.bl b,H,I,rfl,h⟩
theorem v9 {j pos}:PE X (.Constant .none j pos) (tC .a7):=fun _ _ _ H _ I h=>Constant_none ⟨.a7,H,I,rfl,h⟩
theorem wa {x j pos}:PE X (.Constant (.str x) j pos) (tC (.str x)):=fun _ _ _ H _ I h=>Calls.Constant_str ⟨.str x,H,I.tok _,⟨_,rfl⟩,h⟩
def Gl (X:Cx)(x:Str):Prop:=X.env.kindOf x=some .globalImplicit
theorem cq {E:Value->Shared->Prop}{pins:List (Addr×Obj)}{s:Shared}{σ:St}{H:Hp}{x:Str}{u:Value}{pos:Pos}{Q:Value->Shared->Prop}(I:Inv X pins σ H s)(hg:Gl X x)(hm:X.mg x=some u)(h:Q u s)(hd:autoParam ((x == ("__debug__":Str))=false) xz):wpAny (model X.prog X.w) X.A (eval (.Name x pos) X.env) Q E s:=
 Calls.Name_function_global I.ok.kind hg (Calls.loadGlobal_global (by rw[I.ok.glob];exact I.mod.glob.keeps I.bk) hm h) hd
theorem gJ {E:Value->Shared->Prop}{pins:List (Addr×Obj)}{s:Shared}{σ:St}{H:Hp}{x:Str}{u:Value}{pos:Pos}{Q:Value->Shared->Prop}(I:Inv X pins σ H s)(hg:Gl X x)(hm:X.mg x=none)(hv:bootBuiltins x=some u)(h:Q u s)(hn:autoParam (x≠"__name__") xz)(hd:autoParam ((x == ("__debug__":Str))=false) xz):wpAny (model X.prog X.w) X.A (eval (.Name x pos) X.env) Q E s:=by
 obtain⟨mb,h1,h2⟩:=I.mod.blt;exact Calls.Name_function_global I.ok.kind hg (Calls.loadGlobal_builtin (by rw[I.ok.glob];exact I.mod.glob.keeps I.bk) hm (by rw[I.ok.blt];exact h1.keeps I.bk) ((h2 x hn).trans hv) h) hd
theorem m4 {x:Str}{v:V}{u:Value}{pos:Pos}(hg:Gl X x)(hm:X.mg x=some u)(r:RelV v u)(hd:autoParam ((x == ("__debug__":Str))=false) xz):PE X (.Name x pos) (tC v):=
 fun _ _ _ H _ I h=>cq I hg hm ⟨v,H,I,r,h⟩ hd
theorem tf {x:Str}{v:V}{u:Value}{pos:Pos}(hg:Gl X x)(hm:X.mg x=none)(hv:bootBuiltins x=some u)(r:RelV v u)(hn:autoParam (x≠"__name__") xz)(hd:autoParam ((x == ("__debug__":Str))=false) xz):PE X (.Name x pos) (tC v):=
 fun _ _ _ H _ I h=>gJ I hg hm hv ⟨v,H,I,r,h⟩ hn hd
variable {a b:Expr}{ta tb:TE}{pos:Pos}
def PC (X:Cx)(op:CmpOp)(a b:Expr)(t:TE):Prop:=
 ∀ (pins:List (Addr×Obj)) (s:Shared) (σ:St) (H:Hp) (Q:VK),Inv X pins σ H s->t σ H Q ->
   wpAny (model X.prog X.w) X.A (eval a X.env) (fun v s₁=>wpAny (model X.prog X.w) X.A (eval b X.env) (fun u s₂=>wpAny (model X.prog X.w) X.A (compareOp op v u) (EP X pins σ Q) X.xe s₂) X.xe s₁) X.xe s
theorem ku (b:Expr){op:CmpOp}(h:op≠.In)(h2:op≠.NotIn):behindInMarks op b=false:=by
 have e1:(op == CmpOp.In)=false:=by cases op <;> first | rfl | exact absurd rfl h
 have e2:(op == CmpOp.NotIn)=false:=by cases op <;> first | rfl | exact absurd rfl h2
 cases b <;> simp[behindInMarks,e1,e2]
def Bi (ta:TE):TE:=fun σ H Q=>ta σ H fun x H1=>Q (.bl (decide (x=.a7))) H1
theorem RelV.pU {x:V}{v:Value}(r:RelV x v):(v == Value.none)=decide (x=.a7):=by
 cases x with
 | a7=>cases r;rfl
 | bl _=>cases r;rfl
 | int _=>obtain⟨t,rfl⟩:=r;rfl
 | str _=>obtain⟨t,rfl⟩:=r;rfl
 | pO _=>obtain⟨t,rfl⟩:=r;rfl
 | vx _=>obtain⟨t,rfl⟩:=r;rfl
 | ref _=>cases r;rfl
 | ty _=>cases r;rfl
theorem wb {j pos'}(ha:PE X a ta):PC X .Is a (.Constant .none j pos') (Bi ta):=by
 intro pins s σ H Q I h;refine aS (ha pins s σ H _ I h) fun v s1 zq=>?_;obtain⟨x,H1,I1,r1,q1⟩:=zq
 exact Constant_none (is_none_gen ⟨.bl _,H1,I1,by rw[r1.pU];rfl,q1⟩)
def tB (t:TE):TT:=fun σ H Q=>t σ H fun x H1=>∃ c,x=.bl c/\Q c H1
theorem wc {op:CmpOp}{t:TE}(h:PC X op a b t)(h1:behindInMarks op b=false:=by first | exact ku _ (by decide) (by decide) | rfl):PE X (.Compare a [op] [b] pos) t:=fun pins s σ H Q I hw=>wpAny_Compare1 (h pins s σ H Q I hw) h1
theorem we {op:CmpOp}{t:TE}(h:PC X op a b t)(h1:behindInMarks op b=false:=by first | exact ku _ (by decide) (by decide) | rfl):PT X (.Compare a [op] [b] pos) (tB t):=by
 intro pins s σ H Q I hw;refine wpAny_isTrue_Compare1 (aS (h pins s σ H _ I hw) fun v s1 h1=>aS h1 fun u s2 h2=>aS h2 fun c s3 zq=>?_) h1;obtain⟨x,H1,I1,r1,q1⟩:=zq;obtain⟨d,rfl,q⟩:=q1;cases r1;exact wpAny_truthy_bool ⟨H1,I1,q⟩
theorem wg {e:Expr}{t:TE}(h:PE X e t)(he:autoParam (∀ whole,isTrue e X.env whole=(do let v <- whole;standAt e.pos;holding [v] (truthy v))) va):PT X e (tB t):=by
 intro pins s σ H Q I hw;refine isTrue_plain (aS (h pins s σ H _ I hw) fun v s1 zq=>?_) (he _);obtain⟨x,H1,I1,r1,q1⟩:=zq;obtain⟨d,rfl,q⟩:=q1;cases r1;exact wpAny_truthy_bool ⟨H1,I1,q⟩
variable {tA CQ:TT}{rest:List Expr}
def Bj (t u:TT):TT:=fun σ H Q=>t σ H fun c H1=>if c=true then u σ H1 Q else Q false H1
def Bk (t:TT):TT:=fun σ H Q=>t σ H fun c H1=>Q (!c) H1
theorem pw_and1 (ha:PT X a tA):PW X (.BoolOp .And [a] pos) tA:=by
 intro wh pins s σ H Q I h;refine isTrue_and (aS (ha pins s σ H Q I h) fun c s1 e=>?_);cases c with
 | true=>exact isTrue_and_nil e
 | false=>exact e
theorem pw_and (ha:PT X a tA)(hb:PW X (.BoolOp .And (b::rest) pos) CQ):PW X (.BoolOp .And (a::b::rest) pos) (Bj tA CQ):=by
 intro wh pins s σ H Q I h;refine isTrue_and (aS (ha pins s σ H _ I h) fun c s1 ⟨H1,I1,q1⟩=>?_);cases c with
 | true=>exact hb wh pins s1 σ H1 Q I1 q1
 | false=>exact⟨H1,I1,q1⟩
theorem wj (ha:PT X a tA):PT X (.UnaryOp .Not a pos) (Bk tA):=by
 intro pins s σ H Q I h;exact isTrue_not (ha pins s σ H (fun c H1=>Q (!c) H1) I h)
def y9 (ta tb:TE):TE:=fun σ H Q=>ta σ H fun x H1=>∃ c,x=.bl c/\if c=true then tb σ H1 Q else Q (.bl false) H1
def za (ta:TE):TE:=fun σ H Q=>ta σ H fun x H1=>∃ c,x=.bl c/\Q (.bl (!c)) H1
theorem wk {op}{t:TE}(h:PE X a t):PE X (.BoolOp op [a] pos) t:=fun pins s σ H Q I hw=>BoolOp_one (h pins s σ H Q I hw)
theorem pV (ha:PE X a ta)(hb:PE X (.BoolOp .And (b::rest) pos) tb):PE X (.BoolOp .And (a::b::rest) pos) (y9 ta tb):=by
 intro pins s σ H Q I h;refine BoolOp_and (aS (ha pins s σ H _ I h) fun v s1 zq=>?_);obtain⟨x,H1,I1,r1,q1⟩:=zq;obtain⟨c,rfl,q1⟩:=q1;cases r1;refine wpAny_truthy_bool ?_;cases c with
 | true=>exact hb pins s1 σ H1 Q I1 q1
 | false=>exact⟨.bl false,H1,I1,rfl,q1⟩
theorem wm (ha:PE X a ta):PE X (.UnaryOp .Not a pos) (za ta):=by
 intro pins s σ H Q I h;refine UnaryOp_ (aS (ha pins s σ H _ I h) fun v s1 zq=>?_);obtain⟨x,H1,I1,r1,q1⟩:=zq;obtain⟨c,rfl,q1⟩:=q1;cases r1;exact not_of (wpAny_truthy_bool ⟨.bl (!c),H1,I1,rfl,q1⟩)
end
def dN (K:PySem.W.Frag)(H:Hp)(a:Addr)(xs:List V):Prop:=
 Rd H a (.lst xs) \/
   ∃ (o:Obj) (aB:Array Value) (n:Nat),K.lookup a=some o/\o.cls=.type "list"/\o.dict=none/\o.data=.seq aB n/\aB.size<=sizeLine/\Vals xs aB.toList
abbrev iG (K:PySem.W.Frag)(H:Hp)(a:Addr)(xs:List V):Prop:=TupAt K H a xs
noncomputable def Bl:Value->Option V
 | .none=>some .a7
 | .bool b=>some (.bl b)
 | .int i _=>some (.int i)
 | .str x _=>some (.str x)
 | .bytes b _=>some (.pO b)
 | .float b _=>some (.vx b)
 | .ref a=>some (.ref a)
 | .type n=>some (.ty n)
 | _=>none
theorem RelV.abs {x:V}{u:Value}(r:RelV x u):Bl u=some x:=by
 cases x with
 | a7=>cases r;rfl
 | bl _=>cases r;rfl
 | int _=>obtain⟨t,rfl⟩:=r;rfl
 | str _=>obtain⟨t,rfl⟩:=r;rfl
 | pO _=>obtain⟨t,rfl⟩:=r;rfl
 | vx _=>obtain⟨t,rfl⟩:=r;rfl
 | ref _=>cases r;rfl
 | ty _=>cases r;rfl
theorem RelV.inj {x y:V}{u:Value}(r:RelV x u)(q:RelV y u):x=y:=Option.some.inj (r.abs.symm.trans q.abs)
theorem Vals.inj:∀ {xs ys:List V} {us:List Value},Vals xs us->Vals ys us->xs=ys
 | _,_,_,.nil,.nil=>rfl
 | _,_,_,.cons r t,.cons r' t'=>by rw[r.inj r',Vals.inj t t']
section
variable {X:Cx}{pins:List (Addr×Obj)}{σ:St}{H:Hp}{s:Shared}{a:Addr}{xs ys:List V}
theorem dN.of {K:W.Frag}(h:H a=some (.lst xs)):dN K H a xs:=.inl (.inl h)
theorem iG.of {K:W.Frag}(h:H a=some (.tup xs)):iG K H a xs:=.inl h
theorem Inv.list (I:Inv X pins σ H s)(h:dN X.K H a xs):∃ aB:List Value,Vals xs aB/\PlainL s.heap a aB.toArray/\xs.length<=sizeLine:=by
 rcases h with h | ⟨o,aB,n,hk,hc,hd,hs,hz,r⟩
 . obtain⟨z,aB,n,r,e⟩:=h.ok I.aF
   exact⟨aB,r,⟨_,n,e,rfl,rfl,rfl⟩,z⟩
 . refine⟨aB.toList,r,⟨o,n,I.cw a o hk,hc,hd,by simpa using hs⟩,?_⟩
   have e:=r.length;simp only[Ho] at e;omega
theorem Inv.tuple (I:Inv X pins σ H s)(h:iG X.K H a xs):∃ aB:List Value,Vals xs aB/\IsTup s.heap a aB.toArray/\xs.length<=sizeLine:=by
 rcases h with h | ⟨o,aB,n,hk,hc,hs,hz,r⟩
 . obtain⟨z,aB,r,p⟩:=(show aD X.prog X.w H s.heap a (.tup xs) from I.aF a _ h)
   exact⟨aB,r,p,z⟩
 . refine⟨aB.toList,r,⟨o,I.cw a o hk,hc,n,by simpa using hs⟩,?_⟩
   have e:=r.length;simp only[Ho] at e;omega
theorem Inv.ky (I:Inv X pins σ H s)(h:dN X.K H a xs)(h':dN X.K H a ys):xs=ys:=by
 obtain⟨aB,r,⟨o,n,e,_,_,d⟩,_⟩:=I.list h;obtain⟨its',r',⟨o',n',e',_,_,d'⟩,_⟩:=I.list h';rw[e] at e';cases e';rw[d] at d';injection d' with d1 _
 have:aB=its':=by simpa using congrArg Array.toList d1
 subst this;exact r.inj r'
theorem Inv.og (I:Inv X pins σ H s)(h:iG X.K H a xs)(h':iG X.K H a ys):xs=ys:=by
 obtain⟨aB,r,⟨o,e,_,n,d⟩,_⟩:=I.tuple h;obtain⟨its',r',⟨o',e',_,n',d'⟩,_⟩:=I.tuple h';rw[e] at e';cases e';rw[d] at d';injection d' with d1 _
 have:aB=its':=by simpa using congrArg Array.toList d1
 subst this;exact r.inj r'
end
section
variable {X:Cx}{st:Stmt}{rest:List Stmt}{t u:TS}{e:Expr}{te:TE}{pos:Pos}
def zb:TS:=fun D σ H=>D.nx σ H
def Bm (t u:TS):TS:=fun D σ H=>t { D with nx:=u D} σ H
theorem tm:oe X [] zb:=fun _ _ σ H _ I h=>wpAny_execs_nil ⟨σ,H,I,h⟩
theorem gK (h1:PS X st t)(h2:oe X rest u):oe X (st::rest) (Bm t u):=by
 intro pins s σ H D I h;refine wpAny_execs_cons (aS (h1 pins s σ H { D with nx:=u D} I h) fun f s1 q=>?_);cases f with
 | next=>
   obtain⟨σ',H',I',q⟩:=q;exact h2 pins s1 σ' H' D I' q
 | ret v=>exact q
 | brk=>exact q
 | cont=>exact q
theorem je (h1:PS X st t):oe X [st] t:=by
 intro pins s σ H D I h;refine wpAny_execs_cons (aS (h1 pins s σ H D I h) fun f s1 q=>?_);cases f with
 | next=>exact wpAny_execs_nil q
 | ret v=>exact q
 | brk=>exact q
 | cont=>exact q
theorem Inv.quiet {pins:List (Addr×Obj)}{σ:St}{H:Hp}{s:Shared}(I:Inv X pins σ H s):interactive X.env=false:=by simp[interactive,I.ok.kind]
def zc (te:TE):TS:=fun D σ H=>te σ H fun _ H1=>D.nx σ H1
theorem jf (he:PE X e te)(hs:autoParam (swapsWith e none pos.line X.env=pure false) jp):PS X (.Expr e pos) (zc te):=by
 intro pins s σ H D I h;exact wpAny_Expr_any (aS (he pins s σ H _ I h) fun v s1 ⟨x,H1,I1,r1,q1⟩=>⟨σ,H1,I1,q1⟩) I.quiet hs
def Bo (te:TE):TS:=fun D σ H=>te σ H D.rt
theorem pW (he:PE X e te):PS X (.Return (some e) pos) (Bo te):=by
 intro pins s σ H D I h;exact wpAny_Return_some (aS (he pins s σ H _ I h) fun v s1 ⟨x,H1,I1,r1,q1⟩=>⟨x,σ,H1,I1,r1,q1⟩)
def Bp (c:TT)(t u:TS):TS:=fun D σ H=>c σ H fun b H1=>if b=true then t D σ H1 else u D σ H1
theorem vA {c:Expr}{a b:List Stmt}{tc:TT}(hc:PT X c tc)(ha:oe X a t)(hb:oe X b u):PS X (.If c a b pos) (Bp tc t u):=by
 intro pins s σ H D I h;refine wpAny_If (aS (hc pins s σ H _ I h) fun d s1 ⟨H1,I1,q1⟩=>?_);cases d with
 | true=>exact ha pins s1 σ H1 D I1 q1
 | false=>exact hb pins s1 σ H1 D I1 q1
def wq:TS:=fun _ _ _=>False
theorem fg {sts:List Stmt}:oe X sts wq:=fun _ _ _ _ _ _ h=>h.elim
end
abbrev TG:=V->St->Hp->(St->Hp->Prop)->Prop
abbrev wt:=List V->St->Hp->(St->Hp->Prop)->Prop
def PG (X:Cx)(target:Expr)(t:TG):Prop:=
 ∀ (pins:List (Addr×Obj)) (s:Shared) (σ:St) (H:Hp) (v:V) (u:Value) (Q:St->Hp->Prop),Inv X pins σ H s->RelV v u->t v σ H Q ->
   wpAny (model X.prog X.w) X.A (assign target X.env u) (fun _ s'=>∃ σ' H',Inv X pins σ' H' s'/\Q σ' H') X.xe s
def AH (X:Cx)(ts:List Expr)(t:wt):Prop:=
 ∀ (pins:List (Addr×Obj)) (s:Shared) (σ:St) (H:Hp) (vs:List V) (us:List Value) (Q:St->Hp->Prop),Inv X pins σ H s->Vals vs us->t vs σ H Q ->
   wpAny (model X.prog X.w) X.A (assignInOrder ((assignEach ts X.env).map (·.2)) us) (fun _ s'=>∃ σ' H',Inv X pins σ' H' s'/\Q σ' H') X.xe s
section
variable {X:Cx}{pos:Pos}
def dO (i:Nat):TG:=fun v σ H Q=>Q (σ.set i (some v)) H
theorem bc {i:Nat}{x:Str}(hN:X.N.Nodup)(hi:X.N[i]?=some x)(hx:Loc X.env.scope x)(hf:autoParam (X.fn x=true\/X.env.scope.names.lookup x=some .local) xL):PG X (.Name x pos) (dO i):=by
 intro pins s σ H v u Q I r h;exact wpAny_assign_Name (eo I hN hi hx r (fun s' I'=>⟨_,H,I',h⟩) hf)
def wu:wt:=fun vs σ H Q=>vs=[]/\Q σ H
def iH (t:TG)(u:wt):wt:=fun vs σ H Q=>∃ v r,vs=v::r/\t v σ H fun σ' H'=>u r σ' H' Q
theorem jg:AH X [] wu:=by
 intro pins s σ H vs us Q I r h;obtain⟨e,h⟩:=h;subst e;cases r;exact assignInOrder_nil ⟨σ,H,I,h⟩
theorem bU {e:Expr}{es:List Expr}{t:TG}{u:wt}(h1:PG X e t)(h2:AH X es u)(hs:autoParam ((assignEach (e::es) X.env).map (·.2)=assign e X.env::(assignEach es X.env).map (·.2)) jp):AH X (e::es) (iH t u):=by
 intro pins s σ H vs us Q I r h;obtain⟨v,vr,e1,h⟩:=h;subst e1;cases r with
 | cons r rr=>
   rw[hs];refine assignInOrder_cons (aS (h1 pins s σ H _ _ _ I r h) fun _ s1 zq=>?_);obtain⟨σ1,H1,I1,q1⟩:=zq;exact h2 pins s1 σ1 H1 _ _ Q I1 rr q1
def wx (K:W.Frag)(n:Nat)(t:wt):TG:=fun v σ H Q=>∃ a xs,v=.ref a/\iG K H a xs/\xs.length=n/\t xs σ H Q
theorem lS {es:List Expr}{k:Nat}{t:wt}{n:Nat}(hc:X.calm=true)(h:AH X es t)(hn:autoParam ((assignEach es X.env).length=n) jp)(e7:autoParam ((assignEach es X.env).findIdx? (·.1)=none) jp):PG X (.Tuple es k pos) (wx X.K n t):=by
 intro pins s σ H v u Q I r hw;obtain⟨a,xs,e1,hq,hl,hw⟩:=hw;subst e1;cases r;obtain⟨aB,rv,ht,hz⟩:=I.tuple hq;refine assign_Tuple_tuple (I.ok.hd hc) ht (by simp[hn,<- hl,rv.length]) e7 fun h' hx=>?_
 have I1:Inv X pins σ H { s with heap:=h'}:=I.kept (t':=s.toks) fun b o e=>hx b o (Gd (FK e)) e
 exact h pins _ σ H xs _ Q I1 (by simpa using rv) hw
def zd (te:TE)(g:TG):TS:=fun D σ H=>te σ H fun x H1=>g x σ H1 D.nx
theorem wz {tg e:Expr}{te:TE}{g:TG}(he:PE X e te)(hg:PG X tg g)(hs:autoParam (swapsWithSole [tg] e pos.line X.env=pure false) jp)(hw:autoParam (swappedStores [tg] e X.env=pure none) jp)(h1:autoParam ((assignEach [tg] X.env).map (·.2)=[assign tg X.env]) jp):PS X (.Assign [tg] e pos) (zd te g):=by
 intro pins s σ H D I h;refine wpAny_Assign_stores (aS (he pins s σ H _ I h) fun v s1 zq=>?_) hs hw;obtain⟨x,H1,I1,r1,q1⟩:=zq;rw[h1];exact aS (hg pins s1 σ H1 x v _ I1 r1 q1) fun _ s2 q=>q
theorem pX {i:Nat}{x:Str}{e:Expr}{te:TE}{pos':Pos}(hN:X.N.Nodup)(hi:X.N[i]?=some x)(hx:Loc X.env.scope x)(he:PE X e te)(hs:autoParam (swapsWith e (some (.Name x pos')) pos.line X.env=pure false) jp)(hf:autoParam (X.fn x=true\/X.env.scope.names.lookup x=some .local) xL):PS X (.Assign [.Name x pos'] e pos) (zd te (dO i)):=by
 intro pins s σ H D I h;refine wpAny_Assign_Name (aS (he pins s σ H _ I h) fun v s1 zq=>?_) hs;obtain⟨y,H1,I1,r1,q1⟩:=zq;exact eo I1 hN hi hx r1 (fun s2 I2=>⟨_,H1,I2,q1⟩) hf
end
structure It where
 go:Nat->Hp->Prop
 wA:Nat->Hp->V->Hp->Prop
 stop:Nat->Hp->Prop
def fZ (X:Cx)(pins:List (Addr×Obj))(H:Hp)(b:Addr):Prop:=
 H b=none/\b≠X.env.locals/\b ∉ X.fs/\(b∈X.ex\/X.s₀.heap.objs.size<=b)/\(∀ x c,X.env.cells.lookup x=some c->c≠b)/\∀ p∈X.pn ++ pins,p.1≠b
theorem Inv.oh {X:Cx}{pins:List (Addr×Obj)}{σ:St}{H H':Hp}{s:Shared}{b:Addr}(I:Inv X pins σ H s)(hb:s.heap.objs.size<=b)(hn:H' b=none):fZ X pins H' b:=by
 refine⟨hn,Nat.ne_of_gt (F1 I.lt hb),I.Bb hb,.inr (Ge I.sz hb),fun x c e z=>?_,fun p hp z=>?_⟩
 . obtain⟨v,q⟩:=I.cell x c e
   exact absurd (F1 q.lt (by rw[z];exact hb)) (GZ _)
 . exact absurd (F1 (FK (I.pin p hp).1) (by rw[z];exact hb)) (GZ _)
structure Turn (P:Program)(w:World)(K:W.Frag)(tg:Expr)(J:It)(fp:List Addr)(it:Addr)(tn:Nat->Heap->Prop):Prop where
 mem:it∈fp
 obj:∀ i h,tn i h->∀ b∈fp,∃ o,h.get? b=some o/\∀ v,o.data≠.cell v
 keep:∀ i h h',tn i h->(∀ b∈fp,∀ o,h.get? b=some o->h'.get? b=some o)->tn i h'
 item:∀ (X:Cx),X.prog=P->X.w=w->X.K=K->X.calm=true->∀ (i:Nat) (pins:List (Addr×Obj)) (s:Shared) (σ:St) (H:Hp) (E:Value->Shared->Prop),Inv X pins σ H s->(∀ b∈fp,fZ X pins H b)->tn i s.heap->J.go i H ->
   wpAny (model P w) X.A (pyNext (.ref it)) (fun r s1=>∃ u,r=some u /\
     wpAny (model P w) X.A (letOwnedTupleGo tg (.ref it) u) (fun _ s2=>∃ x H',Inv X pins σ H' s2/\RelV x u/\J.wA i H x H'/\tn (i+1) s2.heap/\∀ b∈fp,H' b=none) E s1) E s
 done:∀ (X:Cx),X.prog=P->X.w=w->X.K=K->X.calm=true->∀ (i:Nat) (pins:List (Addr×Obj)) (s:Shared) (σ:St) (H:Hp) (E:Value->Shared->Prop),Inv X pins σ H s->(∀ b∈fp,fZ X pins H b)->tn i s.heap->J.stop i H ->
   wpAny (model P w) X.A (pyNext (.ref it)) (fun r s1=>r=none/\Inv X pins σ H s1) E s
 self:∀ (A:Around) (i:Nat) (s:Shared) (Q:Value->Shared->Prop) (E:Value->Shared->Prop),tn i s.heap->Q (.ref it) s->wpAny (model P w) A (pyIter (.ref it)) Q E s
abbrev TI:=St->Hp->(It->Hp->Prop)->Prop
def CS (X:Cx)(pins:List (Addr×Obj))(σ:St)(tg:Expr)(R:It->Hp->Prop)(AI:Value)(s2:Shared):Prop:=
 ∃ (it:Addr) (fp:List Addr) (tn:Nat->Heap->Prop) (J:It) (H':Hp),AI=.ref it/\Inv X pins σ H' s2/\Turn X.prog X.w X.K tg J fp it tn/\tn 0 s2.heap/\(∀ b∈fp,fZ X pins H' b)/\R J H'
def PI (X:Cx)(tg iter:Expr)(wi:TI):Prop:=
 ∀ (pins:List (Addr×Obj)) (s:Shared) (σ:St) (H:Hp) (R:It->Hp->Prop),Inv X pins σ H s->wi σ H R ->
   wpAny (model X.prog X.w) X.A (eval iter X.env) (fun v s1=>wpAny (model X.prog X.w) X.A (pyIter v) (CS X pins σ tg R) X.xe s1) X.xe s
theorem m5 {M:Model}{A:Around}{E:Value->Shared->Prop}{s:Shared}{tg:Expr}{it:Addr}{u:Value}{o:Obj}{n:String}{vs:Array Value}{Q:Unit->Shared->Prop}(ho:s.heap.get? it=some o)(hc:o.cls=.type n)(hd:o.data=.fields vs)(hn:["enumerate","zip","dict_itemiterator","dict_reverseitemiterator","odict_iterator","itertools.zip_longest","itertools.pairwise"].contains n=false)(hQ:Q () s):wpAny M A (letOwnedTupleGo tg (.ref it) u) Q E s:=by
 unfold letOwnedTupleGo;cases tg <;> first
   | exact wpAny_pure hQ
   | (cases u <;> first
       | exact wpAny_pure hQ
       | (refine wpAny_bind (wpAny_load ho ?_)
          rw[hc,hd];show wpAny M A (if (["enumerate","zip","dict_itemiterator","dict_reverseitemiterator","odict_iterator","itertools.zip_longest","itertools.pairwise"].contains n && vs[0]? == some (rawInt _))=true then _ else _) Q E s;rw[if_neg (by intro h;rw[hn,Bool.false_and] at h;cases h)];exact wpAny_pure hQ))
noncomputable def ze (K:W.Frag)(a:Addr):It:=
 ⟨fun i H=>∃ xs x,dN K H a xs/\xs[i]?=some x,fun i H x H'=>H'=H/\∀ xs,dN K H a xs->xs[i]?=some x,fun i H=>∃ xs,dN K H a xs/\xs.length<=i⟩
noncomputable def CT (K:W.Frag)(a:Addr):It:=
 ⟨fun i H=>∃ xs x,iG K H a xs/\xs[i]?=some x,fun i H x H'=>H'=H/\∀ xs,iG K H a xs->xs[i]?=some x,fun i H=>∃ xs,iG K H a xs/\xs.length<=i⟩
noncomputable def wB (lo:Int)(n:Nat):It:=⟨fun i _=>i < n,fun i H x H'=>H'=H/\x=.int (lo+i),fun i _=>n<=i⟩
theorem oi {P:Program}{w:World}{K:W.Frag}{tg:Expr}(a it:Addr):Turn P w K tg (ze K a) [it] it (fun i h=>h.IsListIter it a i) where
 mem:=by simp
 obj:=fun i h st b hb=>by
   have e:b=it:=by simpa using hb
   subst e;obtain⟨o,e,c,d⟩:=st;exact⟨o,e,fun v z=>by rw[d] at z;cases z⟩
 keep:=fun i h h' st k=>st.at fun o e=>k it (by simp) o e
 item:=by
   intro X hP hw hK hc i pins s σ H E I hf st hg;subst hP hw hK;obtain⟨xs,x,hq,hx⟩:=hg;obtain⟨aB,rv,p,hz⟩:=I.list hq;obtain⟨u,hu,ru⟩:=rv.get hx;obtain⟨f0,f1,f2,f3,f4,f5⟩:=hf it (by simp);refine wpAny_pyNext_list_item st p.isList (x:=u) (by simpa using hu) fun h' dw sb=>?_
   have I1:Inv X pins σ H { s with heap:=h'}:=I.turned (t':=s.toks) (fun b o hb e=>(sb.2 b hb).trans e) f0 f1 f3 f4 f5;obtain⟨o,e,c,d⟩:=id dw;exact⟨u,rfl,m5 (s:={ s with heap:=h'}) e c d (by decide) ⟨x,H,I1,ru,⟨rfl,fun ys hy=>by rw[I.ky hy hq];exact hx⟩,dw,fun b hb=>(hf b hb).1⟩⟩
 done:=by
   intro X hP hw hK hc i pins s σ H E I hf st hg;subst hP hw hK;obtain⟨xs,hq,hx⟩:=hg;obtain⟨aB,rv,p,hz⟩:=I.list hq;obtain⟨f0,f1,f2,f3,f4,f5⟩:=hf it (by simp);have hl:=rv.length;exact wpAny_pyNext_list_end (I.ok.hd hc) st p.isList (by simp;omega) fun h' eb=>⟨rfl,I.turned (t':=s.toks) (fun b o hb e=>eb b o hb e) f0 f1 f3 f4 f5⟩
 self:=fun _ _ _ _ _ st h=>wpAny_pyIter_listiter st h
theorem lT {P:Program}{w:World}{K:W.Frag}{tg:Expr}(a it:Addr):Turn P w K tg (CT K a) [it] it (fun i h=>h.IsTupleIter it a i) where
 mem:=by simp
 obj:=fun i h st b hb=>by
   have e:b=it:=by simpa using hb
   subst e;obtain⟨o,e,c,d⟩:=st;exact⟨o,e,fun v z=>by rw[d] at z;cases z⟩
 keep:=fun i h h' st k=>st.at fun o e=>k it (by simp) o e
 item:=by
   intro X hP hw hK hc i pins s σ H E I hf st hg;subst hP hw hK;obtain⟨xs,x,hq,hx⟩:=hg;obtain⟨aB,rv,p,hz⟩:=I.tuple hq;obtain⟨u,hu,ru⟩:=rv.get hx;obtain⟨f0,f1,f2,f3,f4,f5⟩:=hf it (by simp);refine wpAny_pyNext_tuple_item st (show s.heap.IsTuple a aB.toArray from p) (x:=u) (by simpa using hu) fun h' dw sb=>?_
   have I1:Inv X pins σ H { s with heap:=h'}:=I.turned (t':=s.toks) (fun b o hb e=>(sb.2 b hb).trans e) f0 f1 f3 f4 f5;obtain⟨o,e,c,d⟩:=id dw;exact⟨u,rfl,m5 (s:={ s with heap:=h'}) e c d (by decide) ⟨x,H,I1,ru,⟨rfl,fun ys hy=>by rw[I.og hy hq];exact hx⟩,dw,fun b hb=>(hf b hb).1⟩⟩
 done:=by
   intro X hP hw hK hc i pins s σ H E I hf st hg;subst hP hw hK;obtain⟨xs,hq,hx⟩:=hg;obtain⟨aB,rv,p,hz⟩:=I.tuple hq;obtain⟨f0,f1,f2,f3,f4,f5⟩:=hf it (by simp);have hl:=rv.length;exact wpAny_pyNext_tuple_end (I.ok.hd hc) st (show s.heap.IsTuple a aB.toArray from p) (by simp;omega) fun h' eb=>⟨rfl,I.turned (t':=s.toks) (fun b o hb e=>eb b o hb e) f0 f1 f3 f4 f5⟩
 self:=fun _ _ _ _ _ st h=>wpAny_pyIter_tupleiter st h
theorem lU {P:Program}{w:World}{K:PySem.W.Frag}{tg:Expr}(it:Addr)(lo:Int)(n:Nat):Turn P w K tg (wB lo n) [it] it (fun i h=>IsRangeIter h it (lo+(i:Nat) * 1) ((n:Int) - (i:Nat)) 1) where
 mem:=by simp
 obj:=fun i h st b hb=>by
   have e:b=it:=by simpa using hb
   subst e;exact⟨_,st,fun v z=>by
     have z':Data.fields _=Data.cell v:=z;cases z'⟩
 keep:=fun i h h' st k=>k it (by simp) _ st
 item:=by
   intro X hP hw hK hc i pins s σ H E I hf st hg;subst hP hw hK;obtain⟨f0,f1,f2,f3,f4,f5⟩:=hf it (by simp);have W:=Walks.range (prog:=X.prog) (w:=X.w) (I.ok.hd hc) it lo 1 n;refine W.item i s _ _ hg st fun v h' tk hv dw kk=>?_
   obtain⟨t,rfl⟩:=hv;have I1:Inv X pins σ H { s with heap:=h',toks:=tk}:=I.turned (fun b o hb e=>kk b o (by simpa using hb) e) f0 f1 f3 f4 f5;refine⟨_,rfl,m5 (s:={ s with heap:=h',toks:=tk}) (n:="range_iterator") dw rfl rfl (by decide) ⟨.int (lo+i),H,I1,⟨t,?_⟩,⟨rfl,rfl⟩,dw,fun b hb=>(hf b hb).1⟩⟩;rw[Int.mul_one]
 done:=by
   intro X hP hw hK hc i pins s σ H E I hf st hg;subst hP hw hK;obtain⟨f0,f1,f2,f3,f4,f5⟩:=hf it (by simp);exact wpAny_pyNext_range_end (I.ok.hd hc) st (by have:n<=i:=hg;omega) fun h' eb=>⟨rfl,I.turned (t':=s.toks) (fun b o hb e=>eb b o hb e) f0 f1 f3 f4 f5⟩
 self:=fun _ _ _ _ _ st h=>wpAny_pyIter_rangeiter st h
section
variable {X:Cx}{tg:Expr}
def vB (K:W.Frag)(tl:TE):TI:=fun σ H R=>tl σ H fun x H1=>∃ a,x=.ref a/\(∃ xs,dN K H1 a xs)/\R (ze K a) H1
def zf (K:W.Frag)(tl:TE):TI:=fun σ H R=>tl σ H fun x H1=>∃ a,x=.ref a/\(∃ xs,iG K H1 a xs)/\R (CT K a) H1
theorem gk {l:Expr}{tl:TE}(hl:PE X l tl):PI X tg l (vB X.K tl):=by
 intro pins s σ H R I h;refine aS (hl pins s σ H _ I h) fun v s1 zq=>?_;obtain⟨x,H1,I1,r1,q1⟩:=zq
 obtain⟨a,e,⟨xs,hq⟩,q⟩:=q1;subst e;cases r1;obtain⟨aB,rv,p,hz⟩:=I1.list hq;refine wpAny_pyIter_list p.isList ?_;refine⟨s1.heap.objs.size,[s1.heap.objs.size],_,_,H1,rfl,I1.kept (t':=s1.toks) fun b o e=>F0 _ e,oi a _,⟨_,Gp _ rfl,rfl,rfl⟩,fun b hb=>?_,q⟩;have e:b=s1.heap.objs.size:=by simpa using hb
 subst e;exact I1.oh (DU _) (I1.aF.fresh (DU _))
theorem pY {l:Expr}{tl:TE}(hl:PE X l tl):PI X tg l (zf X.K tl):=by
 intro pins s σ H R I h;refine aS (hl pins s σ H _ I h) fun v s1 zq=>?_;obtain⟨x,H1,I1,r1,q1⟩:=zq
 obtain⟨a,e,⟨xs,hq⟩,q⟩:=q1;subst e;cases r1;obtain⟨aB,rv,p,hz⟩:=I1.tuple hq;refine wpAny_pyIter_tuple (show s1.heap.IsTuple a aB.toArray from p) ?_;refine⟨s1.heap.objs.size,[s1.heap.objs.size],_,_,H1,rfl,I1.kept (t':=s1.toks) fun b o e=>F0 _ e,lT a _,⟨_,Gp _ rfl,rfl,rfl⟩,fun b hb=>?_,q⟩;have e:b=s1.heap.objs.size:=by simpa using hb
 subst e;exact I1.oh (DU _) (I1.aF.fresh (DU _))
theorem pZ {pins:List (Addr×Obj)}{σ:St}{H:Hp}{s:Shared}{R:It->Hp->Prop}{E:Value->Shared->Prop}{lo hi:Int}{t u v:Tok}{tk:Nat}(I:Inv X pins σ H s)(h1:-(2 ^ 62)<=lo)(h2:lo < 2 ^ 62)(h3:-(2 ^ 62)<=hi)(h4:hi < 2 ^ 62)(q:R (wB lo (hi - lo).toNat) H):wpAny (model X.prog X.w) X.A (pyIter (.ref s.heap.objs.size)) (CS X pins σ tg R) E { s with heap:=s.heap.push { cls:=.type "range",data:=.fields #[.int lo t,.int hi u,.int 1 v]},toks:=tk}:=by
 refine wpAny_pyIter_range (IsRange.new ..) (small_one h1 h2 h3 h4) ?_;have I1:Inv X pins σ H { s with heap:=s.heap.push { cls:=.type "range",data:=.fields #[.int lo t,.int hi u,.int 1 v]},toks:=tk}:=I.kept fun b o e=>F0 _ e
 refine⟨(s.heap.push { cls:=.type "range",data:=.fields #[.int lo t,.int hi u,.int 1 v]}).objs.size,[(s.heap.push { cls:=.type "range",data:=.fields #[.int lo t,.int hi u,.int 1 v]}).objs.size],_,_,H,rfl,
   I1.kept (t':=tk) fun b o e=>F0 _ e,lU _ lo (hi - lo).toNat,?_,fun b hb=>?_,q⟩
 . have e1:lo+((0:Nat):Int) * 1=lo:=by simp
   have e2:(((hi - lo).toNat:Nat):Int) - ((0:Nat):Int)=Builtin.Range.rangeSize lo hi 1:=by rw[rangeSize_one];split <;> omega
   show IsRangeIter _ _ (lo+((0:Nat):Int) * 1) ((((hi - lo).toNat:Nat):Int) - ((0:Nat):Int)) 1;rw[e1,e2];exact Gp _ rfl
 . have e:b=(s.heap.push { cls:=.type "range",data:=.fields #[.int lo t,.int hi u,.int 1 v]}).objs.size:=by simpa using hb
   subst e;exact I1.oh (DU _) (I1.aF.fresh (DU _))
def zg (ta:TA):TI:=fun σ H R=>ta σ H fun vs H1=>∃ j:Int,vs=[.int j]/\-(2 ^ 62)<=j/\j < 2 ^ 62/\R (wB 0 j.toNat) H1
theorem oj {a:Expr}{ta:TA}{p pos:Pos}(hg:Gl X "range")(hm:X.mg "range"=none)(ha:PA X [a] ta)(hs:autoParam (starEach [a] X.env=[(false,eval a X.env)]) jp):PI X tg (.Call (.Name "range" p) [a] [] pos) (zg ta):=by
 intro pins s σ H R I h;refine Call_ (gJ I hg hm boot_range (PyProof.Rows.callWith_type1 (aS (ha pos pins s σ H _ I h) fun us s1 zq=>?_) hs rfl));obtain⟨vs,H1,I1,r1,q1⟩:=zq;obtain⟨j,e,q1,q2,q⟩:=q1;subst e;cases r1 with
 | cons r rr=>
   cases rr;obtain⟨t,rfl⟩:=r;exact call_range_1 (pZ I1 (by omega) (by omega) q1 q2 (by simpa using q))
def Bq (wi:TI)(g:TG)(tb:TS):TS:=fun D σ H=>wi σ H fun J H1=>∃ W:Nat->Nat->St->Hp->Prop,(∃ m,W 0 m σ H1)/\∀ i m σ H,W i m σ H ->
 (J.stop i H/\D.nx σ H)\/(J.go i H/\∃ N:St->Hp->Prop,(∀ σ' H',N σ' H'->∃ m',m' < m/\W (i+1) m' σ' H')/\∀ x H',J.wA i H x H'->g x σ H' fun σ2 H2=>tb { D with nx:=N,ct:=N,bk:=D.nx} σ2 H2)
noncomputable def gL (fp:List Addr)(h:Heap):List (Addr×Obj):=fp.filterMap fun b=>(h.get? b).map fun o=>(b,o)
theorem cK {fp:List Addr}{h:Heap}{b:Addr}{o:Obj}(hb:b∈fp)(e:h.get? b=some o):(b,o)∈gL fp h:=List.mem_filterMap.mpr ⟨b,hb,by rw[e];rfl⟩
theorem om {fp:List Addr}{h:Heap}{p:Addr×Obj}(hp:p∈gL fp h):p.1∈fp/\h.get? p.1=some p.2:=by
 obtain⟨b,hb,e⟩:=List.mem_filterMap.mp hp;cases q:h.get? b with
 | none=>rw[q] at e;cases e
 | some o=>
   rw[q] at e;have e':(b,o)=p:=Option.some.inj e;subst e';exact⟨hb,q⟩
theorem Inv.pinned {pins:List (Addr×Obj)}{σ:St}{H:Hp}{s:Shared}{fp:List Addr}(I:Inv X pins σ H s)(hf:∀ b∈fp,fZ X pins H b)(ho:∀ b∈fp,∃ o,s.heap.get? b=some o/\∀ v,o.data≠.cell v):Inv X (pins ++ gL fp s.heap) σ H s:=
 I.mZ fun p hp=>(GC.mp hp).elim (fun z=>I.pin p (Gq _ z)) fun z=>by
   obtain⟨hb,e⟩:=om z;obtain⟨f0,f1,f2,_⟩:=hf p.1 hb;obtain⟨o,e',d⟩:=ho p.1 hb;rw[e] at e';cases e';exact⟨e,f0,f1,f2,d⟩
theorem Inv.c0 {pins pl:List (Addr×Obj)}{σ:St}{H:Hp}{s:Shared}(I:Inv X (pins ++ pl) σ H s):Inv X pins σ H s:=I.mZ fun p hp=>I.pin p (Gq _ (Hj _ hp))
theorem lV {iter:Expr}{body:List Stmt}{wi:TI}{g:TG}{tb:TS}{pos:Pos}(hp:PassesOwn (model X.prog X.w) X.A X.env X.xe)(hc:X.calm=true)(hi:PI X tg iter wi)(hg:PG X tg g)(hb:oe X body tb)(hs:autoParam (∀ x,foldedSetIterable iter X.env x=pure x) va):PS X (.For tg iter body [] pos) (Bq wi g tb):=by
 intro pins s σ H D I h;refine wpAny_For (aS (hi pins s σ H _ I h) fun v s1 h1=>aS h1 fun AI s2 h2=>?_) hs;obtain⟨it,fp,tn,J,H2,e,I2,T,yN,f2,W,⟨m0,w0⟩,turn⟩:=h2;subst e;have lW:∀ {H':Hp},(∀ b∈fp,H' b=none)->∀ b∈fp,fZ X pins H' b:=fun hn b hb=>⟨hn b hb,(f2 b hb).2⟩
 refine codeAny_forLoop_any (fun n s'=>∃ i σ' H',Inv X pins σ' H' s'/\tn i s'.heap/\(∀ b∈fp,H' b=none)/\W i n σ' H') ?_ m0 ⟨0,σ,H2,I2,yN,fun b hb=>(f2 b hb).1,w0⟩
 rintro n s3 ⟨i,σ3,H3,I3,CU,CV,w3⟩
 rcases turn i n σ3 H3 w3 with⟨stop,qn⟩ | ⟨go,N,hN,step⟩
 . refine wpAny_passesOwn hp (aS (T.done X rfl rfl rfl hc i pins s3 σ3 H3 X.xe I3 (lW CV) CU stop) fun r s4 ⟨hr,I4⟩=>?_)
   subst hr;exact wpAny_execs_nil ⟨σ3,H3,I4,qn⟩
 . refine wpAny_passesOwn hp (aS (T.item X rfl rfl rfl hc i pins s3 σ3 H3 X.xe I3 (lW CV) CU go) fun r s4 ⟨u,hr,h4⟩=>?_)
   subst hr;refine wpAny_passesOwn hp (aS h4 fun _ s5 zq=>?_);obtain⟨x,H5,I5,r5,y5,yO,AJ⟩:=zq;have DP:=I5.pinned (lW AJ) (T.obj _ _ yO);refine wpAny_passesOwn hp (aS (hg _ s5 σ3 H5 x u _ DP r5 (step x H5 y5)) fun _ s6 zq=>?_);obtain⟨σ6,H6,I6,q6⟩:=zq;refine wpAny_passesOwn hp (aS (hb _ s6 σ6 H6 _ I6 q6) fun f s7 q7=>?_);have again:∀ {σ7:St} {H7:Hp},Inv X (pins ++ gL fp s5.heap) σ7 H7 s7->N σ7 H7->∃ m,m < n/\∃ i σ' H',Inv X pins σ' H' s7/\tn i s7.heap/\(∀ b∈fp,H' b=none)/\W i m σ' H':=fun {σ7 H7} I7 n7=>by
     obtain⟨m',hm,w7⟩:=hN σ7 H7 n7;refine⟨m',hm,i+1,σ7,H7,I7.c0,T.keep _ _ _ yO fun b hb o e=>(I7.pin (b,o) (Gq _ (Gq _ (cK hb e)))).1,fun b hb=>?_,w7⟩;obtain⟨o,e,d⟩:=T.obj _ _ yO b hb;exact(I7.pin (b,o) (Gq _ (Gq _ (cK hb e)))).2.1
   cases f with
   | next=>obtain⟨σ7,H7,I7,n7⟩:=q7;exact again I7 n7
   | cont=>obtain⟨σ7,H7,I7,n7⟩:=q7;exact again I7 n7
   | brk=>obtain⟨σ7,H7,I7,q7⟩:=q7;exact⟨σ7,H7,I7.c0,q7⟩
   | ret v=>obtain⟨x7,σ7,H7,I7,r7,q7⟩:=q7;exact⟨x7,σ7,H7,I7.c0,r7,q7⟩
end
theorem p7 {K:PySem.W.Frag}{a:Addr}{xs:List V}{g:TG}{tb:TS}{D:Ends}{σ:St}{H:Hp}(Pv:Nat->St->Hp->Prop)(h0:Pv 0 σ H)(hl:∀ i σ H,i<=xs.length->Pv i σ H->dN K H a xs)(hs:∀ i x σ H,xs[i]?=some x->Pv i σ H->g x σ H fun σ2 H2=>tb { D with nx:=Pv (i+1),ct:=Pv (i+1),bk:=D.nx} σ2 H2)(hd:∀ σ H,Pv xs.length σ H->D.nx σ H):∃ W:Nat->Nat->St->Hp->Prop,(∃ m,W 0 m σ H)/\∀ i m σ H,W i m σ H->((ze K a).stop i H/\D.nx σ H)\/((ze K a).go i H/\∃ N:St->Hp->Prop,(∀ σ' H',N σ' H'->∃ m',m' < m/\W (i+1) m' σ' H')/\∀ x H',(ze K a).wA i H x H'->g x σ H' fun σ2 H2=>tb { D with nx:=N,ct:=N,bk:=D.nx} σ2 H2):=by
 refine⟨fun i m σ H=>m=xs.length - i/\i<=xs.length/\Pv i σ H,⟨xs.length,by simp,GO _,h0⟩,?_⟩
 rintro i m σ H ⟨rfl,hi,p⟩
 have q:=hl i σ H hi p;by_cases cf:i < xs.length
 . refine .inr ⟨⟨xs,xs[i],q,by simp[cf]⟩,Pv (i+1),fun σ' H' p'=>⟨xs.length - (i+1),by omega,rfl,cf,p'⟩,fun x H' y=>?_⟩
   obtain⟨e,y⟩:=y;subst e;exact hs i x σ _ (y xs q) p
 . have e:i=xs.length:=by omega
   subst e;exact .inl ⟨⟨xs,q,DU _⟩,hd σ H p⟩
theorem oo {lo:Int}{n:Nat}{g:TG}{tb:TS}{D:Ends}{σ:St}{H:Hp}(Pv:Nat->St->Hp->Prop)(h0:Pv 0 σ H)(hs:∀ i σ H,i < n->Pv i σ H->g (.int (lo+i)) σ H fun σ2 H2=>tb { D with nx:=Pv (i+1),ct:=Pv (i+1),bk:=D.nx} σ2 H2)(hd:∀ σ H,Pv n σ H->D.nx σ H):∃ W:Nat->Nat->St->Hp->Prop,(∃ m,W 0 m σ H)/\∀ i m σ H,W i m σ H->((wB lo n).stop i H/\D.nx σ H)\/((wB lo n).go i H/\∃ N:St->Hp->Prop,(∀ σ' H',N σ' H'->∃ m',m' < m/\W (i+1) m' σ' H')/\∀ x H',(wB lo n).wA i H x H'->g x σ H' fun σ2 H2=>tb { D with nx:=N,ct:=N,bk:=D.nx} σ2 H2):=by
 refine⟨fun i m σ H=>m=n - i/\i<=n/\Pv i σ H,⟨n,by simp,GO _,h0⟩,?_⟩
 rintro i m σ H ⟨rfl,hi,p⟩
 by_cases cf:i < n
 . refine .inr ⟨cf,Pv (i+1),fun σ' H' p'=>⟨n - (i+1),by omega,rfl,cf,p'⟩,fun x H' y=>?_⟩
   obtain⟨e,y⟩:=y;subst e y;exact hs i σ _ cf p
 . have e:i=n:=by omega
   subst e;exact .inl ⟨DU _,hd σ H p⟩
abbrev R2:=V->V->Hp->VK->Prop
def e9 (X:Cx)(f:Value->Value->Sem Value)(r:R2):Prop:=
 ∀ (pins:List (Addr×Obj)) (s:Shared) (σ:St) (H:Hp) (x y:V) (v u:Value) (Q:VK),Inv X pins σ H s->RelV x v->RelV y u->r x y H Q ->
   wpAny (model X.prog X.w) X.A (f v u) (EP X pins σ Q) X.xe s
def fQ (X:Cx)(f:Value)(r:List V->Hp->VK->Prop):Prop:=
 ∀ (pins:List (Addr×Obj)) (s:Shared) (σ:St) (H:Hp) (xs:List V) (us:List Value) (Q:VK),Inv X pins σ H s->Vals xs us->r xs H Q ->
   wpAny (model X.prog X.w) X.A (call f us) (EP X pins σ Q) X.xe s
def yP (r:R2)(ta tb:TE):TE:=fun σ H Q=>ta σ H fun x H1=>tb σ H1 fun y H2=>r x y H2 Q
def rI (C:Int->Int->Prop)(g:Int->Int->V):R2:=fun x y H Q=>∃ i j,x=.int i/\y=.int j/\C i j/\Q (g i j) H
def vC (g:Int->Int->V):R2:=fun x y H Q=>∃ i j,x=.int i/\y=.int j/\Q (g i j) H
section
variable {X:Cx}{a b:Expr}{ta tb:TE}{pos:Pos}
theorem wC (ha:PE X a ta)(hb:PE X b tb){pins:List (Addr×Obj)}{s:Shared}{σ:St}{H:Hp}{R:V->V->Hp->Prop}(I:Inv X pins σ H s)(h:ta σ H fun x H1=>tb σ H1 fun y H2=>R x y H2){Q:Value->Shared->Prop}{f:Value->Value->Sem Value}(hf:∀ v u s2 x y H2,Inv X pins σ H2 s2->RelV x v->RelV y u->R x y H2->wpAny (model X.prog X.w) X.A (f v u) Q X.xe s2):wpAny (model X.prog X.w) X.A (eval a X.env) (fun v s₁=>wpAny (model X.prog X.w) X.A (eval b X.env) (fun u s₂=>wpAny (model X.prog X.w) X.A (f v u) Q X.xe s₂) X.xe s₁) X.xe s:=by
 refine aS (ha pins s σ H _ I h) fun v s1 zq=>?_;obtain⟨x,H1,I1,r1,q1⟩:=zq
 refine aS (hb pins s1 σ H1 _ I1 q1) fun u s2 zq=>?_;obtain⟨y,H2,I2,r2,q2⟩:=zq
 exact hf v u s2 x y H2 I2 r1 r2 q2
theorem zh {op:Operator}{r:R2}(ho:e9 X (binaryOp op) r)(ha:PE X a ta)(hb:PE X b tb):PE X (.BinOp a op b pos) (yP r ta tb):=by
 intro pins s σ H Q I h;exact wpAny_BinOp (wC ha hb I h fun v u s2 x y H2 I2 rx ry q=>ho pins s2 σ H2 x y v u Q I2 rx ry q)
theorem AK {f:Value->Value->Sem Value}{C:Int->Int->Prop}{g:Int->Int->Int}(rule:∀ (i j:Int) (t u:Tok) (s:Shared) (Q:Value->Shared->Prop) (E:Value->Shared->Prop),C i j->Q (.int (g i j) s.toks) { s with toks:=s.toks+1}->wpAny (model X.prog X.w) X.A (f (.int i t) (.int j u)) Q E s):e9 X f (rI C fun i j=>.int (g i j)):=by
 intro pins s σ H x y v u Q I rx ry h;obtain⟨i,j,rfl,rfl,hc,q⟩:=h;obtain⟨t,rfl⟩:=rx;obtain⟨t',rfl⟩:=ry;exact rule i j t t' s _ _ hc ⟨.int (g i j),H,I.tok _,⟨_,rfl⟩,q⟩
theorem zi {f:Value->Value->Sem Value}{g:Int->Int->Int}(rule:∀ (i j:Int) (t u:Tok) (s:Shared) (Q:Value->Shared->Prop) (E:Value->Shared->Prop),Q (.int (g i j) s.toks) { s with toks:=s.toks+1}->wpAny (model X.prog X.w) X.A (f (.int i t) (.int j u)) Q E s):e9 X f (vC fun i j=>.int (g i j)):=by
 intro pins s σ H x y v u Q I rx ry h;obtain⟨i,j,rfl,rfl,q⟩:=h;obtain⟨t,rfl⟩:=rx;obtain⟨t',rfl⟩:=ry;exact rule i j t t' s _ _ ⟨.int (g i j),H,I.tok _,⟨_,rfl⟩,q⟩
theorem wD {f:Value->Value->Sem Value}{g:Int->Int->Bool}(rule:∀ (i j:Int) (t u:Tok) (s:Shared) (Q:Value->Shared->Prop) (E:Value->Shared->Prop),Q (.bool (g i j)) s->wpAny (model X.prog X.w) X.A (f (.int i t) (.int j u)) Q E s):e9 X f (vC fun i j=>.bl (g i j)):=by
 intro pins s σ H x y v u Q I rx ry h;obtain⟨i,j,rfl,rfl,q⟩:=h;obtain⟨t,rfl⟩:=rx;obtain⟨t',rfl⟩:=ry;exact rule i j t t' s _ _ ⟨.bl (g i j),H,I,rfl,q⟩
def zj (i j:Int):Prop:=0<=j/\j<=1000000/\i.natAbs < 2 ^ 64
def kz (i j:Int):Prop:=(-(2 ^ 64) < i/\i < 2 ^ 64)\/(-(2 ^ 64) < j/\j < 2 ^ 64)
theorem kz.ok {i j:Int}(h:kz i j):IntMulOk i j:=by
 rcases h with⟨h1,h2⟩ | ⟨h1,h2⟩
 . exact .of_left (intBits_le_64 h1 h2)
 . exact .of_right (intBits_le_64 h1 h2)
theorem wF:e9 X (binaryOp .Add) (vC fun i j=>.int (i+j)):=zi fun _ _ _ _ _ _ _ q=>add_int q
theorem wG:e9 X (binaryOp .Sub) (vC fun i j=>.int (i - j)):=zi fun _ _ _ _ _ _ _ q=>sub_int q
theorem wH:e9 X (binaryOp .Mod) (rI (fun _ j=>0 < j) fun i j=>.int (i % j)):=AK fun i j _ _ _ _ _ hc q=>by
 have h1:(0:Int) < j:=hc;exact mod_int' (by omega) (by rw[Int.fmod_eq_emod_of_nonneg i (by omega)];exact q)
theorem wI:e9 X (binaryOp .Pow) (rI zj fun i j=>.int (i ^ j.toNat)):=AK fun _ _ _ _ _ _ _ hc q=>pow_int_small hc.1 hc.2.1 hc.2.2 q
end
noncomputable def wJ:V->V->Bool
 | .a7,.a7=>true | .a7,.int _=>true | .int _,.a7=>true | .a7,.bl _=>true | .bl _,.a7=>true | .a7,.str _=>true | .str _,.a7=>true
 | .int _,.int _=>true | .bl _,.bl _=>true | .str _,.str _=>true | .pO _,.pO _=>true
 | .int _,.str _=>true | .str _,.int _=>true | .bl _,.str _=>true | .str _,.bl _=>true
 | _,_=>false
def DQ:R2:=fun x y H Q=>wJ x y=true/\Q (.bl (decide (x=y))) H
theorem gm {i j:Int}:decide (V.int i=V.int j)=(i == j):=by
 rw[Hl];simp
theorem wK {i j:Bool}:decide (V.bl i=V.bl j)=(i == j):=by
 rw[Hl];simp
theorem jh {i j:Str}:decide (V.str i=V.str j)=(i == j):=by
 rw[Hl];simp
theorem tq {i j:Array UInt8}:decide (V.pO i=V.pO j)=(i.toList == j.toList):=by
 rw[Hl];cases i;cases j;simp
section
variable {X:Cx}{a b c:Expr}{ta tb tc:TE}{pos:Pos}
theorem bu {pins:List (Addr×Obj)}{σ:St}{H:Hp}{s:Shared}{Q:VK}{k k':Bool}(I:Inv X pins σ H s)(q:Q (.bl k) H)(e:k=k'):EP X pins σ Q (.bool k') s:=by
 subst e;exact⟨.bl k,H,I,rfl,q⟩
theorem p8:e9 X (compareOp .Eq) DQ:=by
 intro pins s σ H x y v u Q I rx ry h;obtain⟨hs,q⟩:=h;cases x with
 | a7=>
   cases rx;cases y with
   | a7=>cases ry;exact PySem.EqNone.eq_none_none (bu I q (by simp))
   | bl j=>cases ry;exact PySem.EqNone.eq_none_bool (bu I q (by simp))
   | int j=>obtain⟨t',rfl⟩:=ry;exact PySem.EqNone.eq_none_int (bu I q (by simp))
   | str j=>obtain⟨t',rfl⟩:=ry;exact PySem.EqNone.eq_none_str (bu I q (by simp))
   | _=>exact absurd (show false=true from hs) Gk
 | bl i=>
   cases rx;cases y with
   | a7=>cases ry;exact PySem.EqNone.eq_bool_none (bu I q (by simp))
   | bl j=>cases ry;exact eq_bool (bu I q wK)
   | str j=>obtain⟨t',rfl⟩:=ry;exact PySem.EqMixed.eq_bool_str (bu I q (by simp))
   | _=>exact absurd (show false=true from hs) Gk
 | int i=>
   obtain⟨t,rfl⟩:=rx;cases y with
   | a7=>cases ry;exact PySem.EqNone.eq_int_none (bu I q (by simp))
   | int j=>obtain⟨t',rfl⟩:=ry;exact eq_int (bu I q gm)
   | str j=>obtain⟨t',rfl⟩:=ry;exact PySem.EqMixed.eq_int_str (bu I q (by simp))
   | _=>exact absurd (show false=true from hs) Gk
 | str i=>
   obtain⟨t,rfl⟩:=rx;cases y with
   | a7=>cases ry;exact PySem.EqNone.eq_str_none (bu I q (by simp))
   | bl j=>cases ry;exact PySem.EqMixed.eq_str_bool (bu I q (by simp))
   | int j=>obtain⟨t',rfl⟩:=ry;exact PySem.EqMixed.eq_str_int (bu I q (by simp))
   | str j=>obtain⟨t',rfl⟩:=ry;exact eq_str (bu I q jh)
   | _=>exact absurd (show false=true from hs) Gk
 | pO i=>
   obtain⟨t,rfl⟩:=rx;cases y with
   | pO j=>obtain⟨t',rfl⟩:=ry;exact W.eq_bytes (bu I q tq)
   | _=>exact absurd (show false=true from hs) Gk
 | _=>cases y <;> exact absurd (show false=true from hs) Gk
theorem zk:e9 X (compareOp .Lt) (vC fun i j=>.bl (decide (i < j))):=wD fun _ _ _ _ _ _ _ q=>lt_int q
theorem vD:e9 X (compareOp .LtE) (vC fun i j=>.bl (decide (i<=j))):=wD fun _ _ _ _ _ _ _ q=>le_int q
theorem zl:e9 X (compareOp .Gt) (vC fun i j=>.bl (decide (j < i))):=wD fun _ _ _ _ _ _ _ q=>gt_int q
theorem gM (b:Expr){op:CmpOp}(h:autoParam (op≠.In) xz)(h2:autoParam (op≠.NotIn) xz):behindInMarks op b=false:=by
 have e1:(op == CmpOp.In)=false:=by cases op <;> first | rfl | exact absurd rfl h
 have e2:(op == CmpOp.NotIn)=false:=by cases op <;> first | rfl | exact absurd rfl h2
 cases b <;> simp[behindInMarks,e1,e2]
theorem tu {op:CmpOp}{r:R2}(ho:e9 X (compareOp op) r)(ha:PE X a ta)(hb:PE X b tb)(hm:behindInMarks op b=false):PE X (.Compare a [op] [b] pos) (yP r ta tb):=by
 intro pins s σ H Q I h;exact wpAny_Compare1 (wC ha hb I h fun v u s2 x y H2 I2 rx ry q=>ho pins s2 σ H2 x y v u Q I2 rx ry q) hm
def zm (t:TE):TT:=fun σ H Q=>t σ H fun x H'=>∃ k,x=.bl k/\Q k H'
theorem tw {op:CmpOp}{r:R2}(ho:e9 X (compareOp op) r)(ha:PE X a ta)(hb:PE X b tb)(hm:behindInMarks op b=false):PT X (.Compare a [op] [b] pos) (zm (yP r ta tb)):=by
 intro pins s σ H Q I h;refine wpAny_isTrue_Compare1 (aS (ha pins s σ H _ I h) fun v s1 ⟨x,H1,I1,r1,q1⟩=>aS (hb pins s1 σ H1 _ I1 q1) fun u s2 ⟨y,H2,I2,r2,q2⟩=>
   aS (ho pins s2 σ H2 x y v u _ I2 r1 r2 q2) fun c s3 zq=>?_) hm;obtain⟨z,H3,I3,r3,k,e,q3⟩:=zq
 subst e;cases r3;exact wpAny_truthy_bool ⟨H3,I3,q3⟩
def wL (r r':R2)(ta tb tc:TE):TE:=fun σ H Q=>ta σ H fun x H1=>tb σ H1 fun y H2=>r x y H2 fun z H3=>∃ k,z=.bl k /\
 (if k=true then tc σ H3 fun w' H4=>r' y w' H4 Q else Q (.bl false) H3)
theorem p9 {op wM:CmpOp}{r r':R2}(ho:e9 X (compareOp op) r)(pS:e9 X (compareOp wM) r')(ha:PE X a ta)(hb:PE X b tb)(hc:PE X c tc)(hm:autoParam (lastMarks [op,wM] [b,c]=false) kh):PE X (.Compare a [op,wM] [b,c] pos) (wL r r' ta tb tc):=by
 intro pins s σ H Q I h;refine Compare_chain (aS (ha pins s σ H _ I h) fun v s1 ⟨x,H1,I1,r1,q1⟩=>chain_link (aS (hb pins s1 σ H1 _ I1 q1) fun u s2 ⟨y,H2,I2,r2,q2⟩=>
   aS (ho pins s2 σ H2 x y v u _ I2 r1 r2 q2) fun d s3 zq=>?_)) hm;obtain⟨z,H3,I3,r3,k,e,q3⟩:=zq
 subst e;cases r3;refine wpAny_truthy_bool ?_;cases k with
 | false=>exact ite_ff ⟨.bl false,H3,I3,rfl,q3⟩
 | true=>exact ite_tt (chain_last (aS (hc pins s3 σ H3 _ I3 q3) fun w' s4 ⟨z',H4,I4,r4,q4⟩=>pS pins s4 σ H4 y z' u w' Q I4 r2 r4 q4))
theorem fh:(sizeLine:Nat) < 2 ^ 63:=by rw[sizeLine_eq];decide
theorem lX:e9 X (binaryOp .Add) (fun x y H Q=>∃ i j,x=.str i/\y=.str j/\i.length+j.length<=sizeLine/\Q (.str (i ++ j)) H):=by
 intro pins s σ H x y v u Q I rx ry h;obtain⟨i,j,rfl,rfl,hz,q⟩:=h;obtain⟨t,rfl⟩:=rx;obtain⟨t',rfl⟩:=ry;exact add_str (fun t' tk=>⟨.str (i ++ j),H,I.tok _,⟨_,rfl⟩,q⟩) hz
theorem vals1 {x:V}{us:List Value}(r:Vals [x] us):∃ u,us=[u]/\RelV x u:=by
 cases r with
 | cons r1 r2=>cases r2;exact⟨_,rfl,r1⟩
end
structure lY (h:Heap)(x dx C:Addr)(mA:Str->Option Value):Prop where
 obj:h.get? x=some (W.instObj C dx)
 ns:h.Ns1 dx mA
 ne:dx≠x
theorem oq {h:Heap}{dx:Addr}{mA:Str->Option Value}(n:h.Ns1 dx mA):∃ od,h.get? dx=some od/\∀ name,W.lookIn name od=some (mA name):=by
 obtain⟨o,es,ep,ho,hd,hk,_,hm⟩:=n;refine⟨o,ho,fun name=>?_⟩;have e:=hm name;unfold nsFind findBy at e;rw[<- Array.find?_toList] at e;unfold W.lookIn;rw[hd];dsimp only
 split
 . rename_i y q
   rw[q] at e;exact congrArg some e
 . rename_i q
   rw[q] at e;have a:es.toList.any (·.refKey)=false:=by
     rw[List.any_eq_false];intro y hy;obtain⟨z,t,Br⟩:=hk y (Array.mem_toList_iff.mp hy);simp[DictEntry.refKey,Br]
   have a':¬ es.toList.any (·.refKey)=true:=by rw[a];exact Gk
   rw[if_neg a'];exact congrArg some e
theorem lY.look {h:Heap}{x dx C:Addr}{mA:Str->Option Value}(I:lY h x dx C mA):∃ od,W.InstAt h x (W.instObj C dx) C (some od)/\∀ name,W.lookIn name od=some (mA name):=
 let ⟨od,ho,hl⟩:=oq I.ns
 ⟨od,⟨I.obj,rfl,rfl,ho⟩,hl⟩
section
variable {prog:Program}{w:World}{A:Around}{E:Value->Shared->Prop}{s:Shared}{K:W.Frag}{x dx C f:Addr}{mA:Str->Option Value}{name:Str}{v:Value}
theorem get_map {expr:Bool}{Q:Value->Shared->Prop}(X:K.In s.heap)(I:lY s.heap x dx C mA)(hg:W.plainGet K C name=true)(hh:W.hasDictIn K C=true)(ha:W.findIn K (.ref C) name=some none)(hv:mA name=some v)(AL:W.handedIn v=true)(h:Q v { s with toks:=s.toks+1}):wpAny (model prog w) A (getAttr (.ref x) name expr) Q E s:=by
 obtain⟨od,J,hl⟩:=I.look;exact W.get_value X J (W.plainGet_of hg).1 (W.findObj_own hh ha rfl (by rw[hl,hv])) AL h
theorem qa {pl:Sem Bool}{Q:Value×List Value->Shared->Prop}(X:K.In s.heap)(I:lY s.heap x dx C mA)(hg:W.plainGet K C name=true)(hf:W.findIn K (.ref C) name=some (some (.ref f)))(ht:W.isFn K (.ref f)=true)(hv:mA name=none)(h:Q (.ref f,[.ref x]) s):wpAny (model prog w) A (getMethod (.ref x) name pl) Q E s:=by
 obtain⟨od,J,hl⟩:=I.look;exact W.method_fn X J (W.plainGet_of hg).1 (W.plainGet_of hg).2 hf (beq_iff_eq.mp ht) (by show(W.lookIn name od).map (·.isSome)=some false;rw[hl,hv];rfl) h
theorem tE {ns:List Str}{Q:Unit->Shared->Prop}(X:K.In s.heap)(I:lY s.heap x dx C mA)
   (hs:W.findIn K (.ref C) "__setattr__"=some (some (.builtin "object.__setattr__"))) (hp:W.plainOver K C=true) (ht:W.takerIn K C name=some none) (hh:W.hasDictIn K C=true)
   (hw:PySem.Within mA ns) (hsz:ns.length<=sizeLine)
   (h:∀ h',lY h' x dx C (fun y=>if y=name then some v else mA y)->Heap.SameBut dx s.heap h'->Q () { s with heap:=h',toks:=s.toks+2}) :
   wpAny (model prog w) A (setAttr (.ref x) name v) Q E s:=by
 obtain⟨od,J,hl⟩:=I.look;refine W.set_plain X J hs (W.osa_open (s:={ s with toks:=s.toks+1}) (r:=none) X J hp ht fun b=>?_);obtain⟨cd,hc,Bc⟩:=W.any_some hh;have hx:s.heap.get? x=some ⟨.ref C,some dx,.plain,#[]⟩:=I.obj;refine wpAny_bind (wpAny_pure (wpAny_bind (wpAny_bind (wpAny_loadPart hx (wpAny_bind (W.Looks.here (s:={ s with toks:=s.toks+1}) (W.looks_clsIn X hc) ?_))))));rw[Bc];refine wpAny_pure (a:=some dx) (wpAny_bind (wpAny_pure (wpAny_bind ?_)));refine wpAny_nsSet1 (s:={ s with toks:=s.toks+1}) I.ns fun h' yQ vE=>?_
 obtain⟨oD,FH,FI,DR,DS,tF⟩:=yQ.count (PySem.Within.cons name v hw);refine wpAny_bind (wpAny_lookBehind DR (by rw[DS];exact pastItsLine_dict (Ge tF (by rw[GH];omega))) ?_);exact wpAny_pure (h _ ⟨(vE.2 _ (Ne.symm I.ne)).trans I.obj,yQ,I.ne⟩ vE)
theorem qb {R:Result->Shared->Prop}{vs:List Value}{kw:List (Str×Value)}(X:K.In s.heap)(hm:W.makesIn K C=true)(hi:W.findIn K (.ref C) "__init__"=some (some (.ref f)))(hf:W.typeIn K (.ref f)=some (.type "function"))(h:codeAny (model prog w) (A.under (.builtin "type.__call__" ⟨.ref C::vs,kw⟩)) (.call (.ref f) ⟨.ref (s.heap.objs.size+1)::vs,kw⟩) (W.InitBack (s.heap.objs.size+1) R) { s with heap:=(s.heap.push W.emptyDict).push (W.instObj C s.heap.objs.size)}):codeAny (model prog w) A (.call (.ref C) ⟨vs,kw⟩) R s:=by
 obtain⟨hh,g,d,t,os⟩:=s;exact W.make_core (W.makes_of X hm) (W.looks_findIn X hi) (fun self=>W.bind_fn X self hf) (.inl rfl) h
theorem ot {R:Result->Shared->Prop}(X:K.In s.heap)(hm:W.makesIn K C=true)(hi:W.findIn K (.ref C) "__init__"=some (some (.builtin "object.__init__")))(hb:∀ self,W.Looks (model prog w) s.heap (bindSpecial (.builtin "object.__init__") self) (.builtin "object.__init__",[self]))(h:codeAny (model prog w) (A.under (.builtin "type.__call__" ⟨[.ref C],[]⟩)) (.call (.builtin "object.__init__") ⟨[.ref (s.heap.objs.size+1)],[]⟩) (W.InitBack (s.heap.objs.size+1) R) { s with heap:=(s.heap.push W.emptyDict).push (W.instObj C s.heap.objs.size)}):codeAny (model prog w) A (.call (.ref C) ⟨[],[]⟩) R s:=by
 obtain⟨hh,g,d,t,os⟩:=s;exact W.make_core (W.makes_of X hm) (W.looks_findIn X hi) hb (.inr ⟨rfl,rfl⟩) h
end
noncomputable def cy (f:Str)(v:V):List (Str×V)->List (Str×V)
 | []=>[(f,v)]
 | (g,x)::r=>if g=f then (g,v)::r else (g,x)::cy f v r
theorem da (f g:Str)(v:V):∀ fs:List (Str×V),(cy f v fs).lookup g=if g=f then some v else fs.lookup g
 | []=>by
   show Hc g [(f,v)]=_;by_cases h:g=f
   . have hb:(g == f)=true:=beq_iff_eq.mpr h
     simp only[Hc,hb,if_pos h]
   . have hb:(g == f)=false:=beq_eq_false_iff_ne.mpr h
     simp only[Hc,hb,if_neg h]
 | (k,x)::r=>by
   have ih:=da f g v r;rw[show cy f v ((k,x)::r)=(if k=f then (k,v)::r else (k,x)::cy f v r) from rfl];by_cases hk:k=f
   . rw[if_pos hk]
     by_cases h:g=k
     . have hb:(g == k)=true:=beq_iff_eq.mpr h
       simp only[Hc,hb,if_pos (h.trans hk)]
     . have hb:(g == k)=false:=beq_eq_false_iff_ne.mpr h
       simp only[Hc,hb,if_neg (fun e:g=f=>h (e.trans hk.symm))]
   . rw[if_neg hk]
     by_cases h:g=k
     . have hb:(g == k)=true:=beq_iff_eq.mpr h
       simp only[Hc,hb,if_neg (fun e:g=f=>hk (h.symm.trans e))]
     . have hb:(g == k)=false:=beq_eq_false_iff_ne.mpr h
       simp only[Hc,hb];exact ih
theorem fi (f:Str)(v:V):∀ fs:List (Str×V),f∈(cy f v fs).map (·.1)/\∀ g,g∈fs.map (·.1)->g∈(cy f v fs).map (·.1)
 | []=>⟨by simp[cy],fun g h=>by simp at h⟩
 | (k,x)::r=>by
   obtain⟨i1,i2⟩:=fi f v r;rw[show cy f v ((k,x)::r)=(if k=f then (k,v)::r else (k,x)::cy f v r) from rfl];by_cases hk:k=f
   . rw[if_pos hk]
     subst hk;exact⟨by simp,fun g h=>by simpa using h⟩
   . rw[if_neg hk]
     refine⟨?_,fun g h=>?_⟩
     . rw[Gs]
       exact Gg _ i1
     . rw[Gs] at h ⊢
       rcases Gy.mp h with e | e
       . exact Gy.mpr (.inl e)
       . exact Gg _ (i2 g e)
theorem fR (f:Str)(v:V):∀ fs:List (Str×V),(cy f v fs).length<=fs.length+1
 | []=>by simp[cy]
 | (k,x)::r=>by
   have ih:=fR f v r;rw[show cy f v ((k,x)::r)=(if k=f then (k,v)::r else (k,x)::cy f v r) from rfl];by_cases hk:k=f
   . rw[if_pos hk,GH,GH];omega
   . rw[if_neg hk,GH,GH];omega
theorem dJ.some_of {v:V}{o:Option Value}(r:dJ (some v) o):∃ u,o=some u/\RelV v u:=by
 cases o with
 | none=>exact(show False from r).elim
 | some u=>exact⟨u,rfl,r⟩
theorem dJ.none_of {o:Option Value}(r:dJ none o):o=none:=by
 cases o with
 | none=>rfl
 | some u=>exact(show False from r).elim
theorem ow {v:V}{u:Value}(r:RelV v u):W.handedIn u=true:=by
 cases v with
 | a7=>cases (show u=Value.none from r);rfl
 | bl b=>cases (show u=Value.bool b from r);rfl
 | int i=>obtain⟨t,e⟩:=(show ∃ t,u=Value.int i t from r);cases e;rfl
 | str x=>obtain⟨t,e⟩:=(show ∃ t,u=Value.str x t from r);cases e;rfl
 | pO b=>obtain⟨t,e⟩:=(show ∃ t,u=Value.bytes b t from r);cases e;rfl
 | vx b=>obtain⟨t,e⟩:=(show ∃ t,u=Value.float b t from r);cases e;rfl
 | ref a=>cases (show u=Value.ref a from r);rfl
 | ty n=>cases (show u=Value.type n from r);rfl
section
variable {P:Program}{w:World}{H:Hp}{h:Heap}{a C dx:Addr}{fs:List (Str×V)}
theorem gq (aF:dv P w H h)(e:Rd H a (.ins C dx fs)):∃ mA,lY h a dx C mA/\(∀ f,dJ (fs.lookup f) (mA f))/\PySem.Within mA (fs.map (·.1))/\fs.length<=1000/\H dx=some (.own a):=by
 obtain⟨d,z,ne,ob,mA,n,r,q⟩:=(show aD P w H h a (.ins C dx fs) from e.ok aF)
 exact⟨mA,⟨ob,n,ne⟩,r,q,z,d⟩
end
structure kA (K:W.Frag)(C:Addr):Prop where
 pg:W.plainGet K C Str.empty=true
 hd:W.hasDictIn K C=true
 po:W.plainOver K C=true
 sa:W.findIn K (.ref C) "__setattr__"=some (some (.builtin "object.__setattr__"))
theorem kA.get {K:W.Frag}{C:Addr}(c:kA K C)(f:Str):W.plainGet K C f=true:=c.pg
def ck (K:W.Frag)(C:Addr)(f:Str):Prop:=W.findIn K (.ref C) f=some none
theorem ck.zo {K:W.Frag}{C:Addr}{f:Str}(n:ck K C f):W.takerIn K C f=some none:=by
 unfold W.takerIn;rw[show W.findIn K (.ref C) f=some none from n];rfl
structure FJ (K:W.Frag)(C:Addr)(f:Str)(v:V)(u:Value):Prop where
 at_:W.findIn K (.ref C) f=some (some u)
 rel:RelV v u
 get:W.specialIn K u "__get__"=some none
 cp:W.copiedNames.contains f=false
structure Meth (K:W.Frag)(C:Addr)(m:Str)(f:Addr):Prop where
 at_:W.findIn K (.ref C) m=some (some (.ref f))
 fn:W.isFn K (.ref f)=true
 kp:W.keepIn K (.ref f)=true
section
variable {X:Cx}{pins:List (Addr×Obj)}{σ:St}{H:Hp}{s:Shared}{a C dx:Addr}{fs:List (Str×V)}{f:Str}{v:V}{A:Around}{E:Value->Shared->Prop}
theorem lZ {b:Bool}{Q:Value->Shared->Prop}(I:Inv X pins σ H s)(e:Rd H a (.ins C dx fs))(c:kA X.K C)(n:ck X.K C f)(l:fs.lookup f=some v)(h:∀ u s',Inv X pins σ H s'->RelV v u->Q u s'):wpAny (model X.prog X.w) A (getAttr (.ref a) f b) Q E s:=by
 obtain⟨mA,O,r,_,_,_⟩:=gq I.aF e;obtain⟨u,hu,ru⟩:=dJ.some_of (v:=v) (o:=mA f) (by rw[<- l];exact r f);exact get_map I.cw O (c.get f) c.hd n hu (ow ru) (h u _ (I.tok _) ru)
theorem l1 {m:Str}{g:Addr}{pl:Sem Bool}{Q:Value×List Value->Shared->Prop}(I:Inv X pins σ H s)(e:Rd H a (.ins C dx fs))(c:kA X.K C)(k:Meth X.K C m g)(l:fs.lookup m=none)(h:Q (.ref g,[.ref a]) s):wpAny (model X.prog X.w) A (getMethod (.ref a) m pl) Q E s:=by
 obtain⟨mA,O,r,_,_,_⟩:=gq I.aF e;have hn:mA m=none:=dJ.none_of (by rw[<- l];exact r m);exact qa I.cw O (c.get m) k.at_ k.fn hn h
theorem l2 {y:V}{u:Value}{Q:Unit->Shared->Prop}(I:Inv X pins σ H s)(e:H a=some (.ins C dx fs))(c:kA X.K C)(n:ck X.K C f)(hl:fs.length < 1000)(ry:RelV y u)(h:∀ s',Inv X pins σ (upd H a (.ins C dx (cy f y fs))) s'->Q () s'):wpAny (model X.prog X.w) A (setAttr (.ref a) f u) Q E s:=by
 obtain⟨mA,O,r,wi,_,ho⟩:=gq I.aF (.of e);have hz:(fs.map (·.1)).length<=sizeLine:=by rw[Bn,sizeLine_eq];omega
 refine tE I.cw O c.sa c.po n.zo c.hd wi hz fun h' O' sb=>h _ ?_
 have hd:∃ o,h'.get? dx=some o:=let ⟨o,_,_,e',_⟩:=O'.ns;⟨o,e'⟩;refine I.write (x:=a) (e:=dx) (by rw[e];exact True.intro) (.inr ho) (fun b q hb z=>(sb.2 b hb).trans z) hd ?_;refine⟨by rw[ah O.ne];exact ho,?_,O.ne,O'.obj,_,O'.ns,fun g=>?_,fun g hg=>?_⟩
 . have:=fR f y fs;omega
 . show dJ ((cy f y fs).lookup g) (if g=f then some u else mA g)
   rw[da];by_cases q:g=f
   . rw[if_pos q,if_pos q];exact ry
   . rw[if_neg q,if_neg q];exact r g
 . by_cases q:g=f
   . rw[q];exact(fi f y fs).1
   . refine(fi f y fs).2 g (wi g fun z=>hg ?_)
     show(if g=f then some u else mA g)=none;rw[if_neg q];exact z
theorem Inv.made (I:Inv X pins σ H s):Inv X pins σ (upd (upd H s.heap.objs.size (.own (s.heap.objs.size+1))) (s.heap.objs.size+1) (.ins C s.heap.objs.size [])) { s with heap:=(s.heap.push W.emptyDict).push (W.instObj C s.heap.objs.size)}:=by
 have e1:(s.heap.push W.emptyDict).get? s.heap.objs.size=some W.emptyDict:=Gp s.heap rfl;have e2:((s.heap.push W.emptyDict).push (W.instObj C s.heap.objs.size)).get? (s.heap.objs.size+1)=some (W.instObj C s.heap.objs.size):=by
   have:=Gp (s.heap.push W.emptyDict) (o:=W.instObj C s.heap.objs.size) rfl
   rwa [Ht] at this
 have e3:(s.heap.push W.emptyDict).Ns s.heap.objs.size (fun _=>none):=⟨W.emptyDict,#[],_,e1,rfl,(fun e he=>absurd he (by simp)),fun _=>rfl⟩
 have I1:=I.laid (a:=s.heap.objs.size) (o:=.own (s.heap.objs.size+1)) (h':=s.heap.push W.emptyDict) (t':=s.toks) (fun b u q=>F0 _ q) (DU _) ⟨_,e1⟩;refine I1.laid (a:=s.heap.objs.size+1) (o:=.ins C s.heap.objs.size []) (t':=s.toks) (fun b u q=>F0 _ q) (Nat.le_of_eq (Ht _ _)) ?_;have ne:s.heap.objs.size≠s.heap.objs.size+1:=Gd (G4 _);refine⟨by rw[ah ne,aj],GO _,ne,e2,fun _=>none,(Heap.Ns1.of_empty e3).at fun o q=>F0 _ q,fun _=>True.intro,fun y hy=>absurd rfl hy⟩
theorem tG {prog:Program}{w:World}{env:Env}{e:Expr}{f:Str}{pos:Pos}{s:Shared}{Q:Value->Shared->Prop}(hb:attributeBase e f env (eval e env)=eval e env)(h:wpAny (model prog w) A (eval e env) (fun o s₁=>wpAny (model prog w) A (getAttr o f true) Q E s₁) E s):wpAny (model prog w) A (eval (.Attribute e f pos) env) Q E s:=
 Attribute_any_ h (by rw[arm_eval_Attribute,hb])
end
def Bs (K:PySem.W.Frag)(ta:TE)(f:Str):TE:=fun σ H Q=>ta σ H fun x H1=>∃ a C dx fs v,x=.ref a/\Rd H1 a (.ins C dx fs)/\kA K C/\ck K C f/\fs.lookup f=some v/\Q v H1
def Bt (K:PySem.W.Frag)(ta tv:TE)(f:Str):TS:=fun D σ H=>tv σ H fun y H1=>ta σ H1 fun x H2=>∃ a C dx fs,x=.ref a/\H2 a=some (.ins C dx fs)/\kA K C/\ck K C f/\fs.length < 1000 /\
 D.nx σ (upd H2 a (.ins C dx (cy f y fs)))
section
variable {X:Cx}{o e value:Expr}{f:Str}{pos pos':Pos}{ta tv:TE}
theorem qd (he:PE X e ta)(hb:attributeBase e f X.env (eval e X.env)=eval e X.env):PE X (.Attribute e f pos) (Bs X.K ta f):=by
 intro pins s σ H Q I h;refine tG hb (aS (he pins s σ H _ I h) fun u s1 zq=>?_);obtain⟨x,H1,I1,rx,a,C,dx,fs,v,ex,ea,c,n,l,q⟩:=zq;subst ex;obtain rfl:u=Value.ref a:=rx;exact lZ I1 ea c n l fun u' s2 I2 ru=>⟨v,H1,I2,ru,q⟩
theorem qe (ha:PE X o ta)(hv:PE X value tv)(hs:swapsWith value (some (.Attribute o f pos')) pos.line X.env=pure false):PS X (.Assign [.Attribute o f pos'] value pos) (Bt X.K ta tv f):=by
 intro pins s σ H D I h;refine plainObj_wpAny_Assign_Attribute (aS (hv pins s σ H _ I h) fun u s1 ⟨y,H1,I1,ry,q⟩=>aS (ha pins s1 σ H1 _ I1 q) fun ov s2 zq=>?_) hs;obtain⟨x,H2,I2,rx,a,C,dx,fs,ex,ea,c,n,l,q2⟩:=zq;subst ex;obtain rfl:ov=Value.ref a:=rx;exact l2 I2 ea c n l ry fun s3 I3=>⟨σ,_,I3,q2⟩
end
section
variable {X:Cx}{pins:List (Addr×Obj)}{σ:St}{H:Hp}{s:Shared}{A:Around}{E:Value->Shared->Prop}{Q:Value->Shared->Prop}{c:Value}{b:Bool}
inductive f6 (K:W.Frag)(H:Hp):V->Value->Prop where
 | a7:f6 K H .a7 (.type "NoneType")
 | bl (x:Bool):f6 K H (.bl x) (.type "bool")
 | int (i:Int):f6 K H (.int i) (.type "int")
 | str (x:Str):f6 K H (.str x) (.type "str")
 | vx (x:UInt64):f6 K H (.vx x) (.type "float")
 | lst {a:Addr} {xs:List V} (e:H a=some (.lst xs)):f6 K H (.ref a) (.type "list")
 | a6 {a:Addr} {o:Obj} {xs:List V} (e:H a=some (.a6 o (.lst xs))):f6 K H (.ref a) (.type "list")
 | tup {a:Addr} {xs:List V} (e:H a=some (.tup xs)):f6 K H (.ref a) (.type "tuple")
 | dK {a:Addr} {kvs:List (Key×V)} (e:H a=some (.dK kvs)):f6 K H (.ref a) (.type "dict")
 | dT {a:Addr} {kvs:List (List Key×V)} (e:H a=some (.dT kvs)):f6 K H (.ref a) (.type "dict")
 | ins {a C dx:Addr} {fs:List (Str×V)} (e:Rd H a (.ins C dx fs)) (cl:kA K C) (ha:W.findIn K (.ref C) "__class__"=some (some (.builtin "object.__class__")))
     (hn:W.specialIn K (.builtin "object.__class__") "__get__"=some (some (.builtin "getset_descriptor.__get__"))) (wN:W.takesIn K (.builtin "object.__class__")=some true)
     (hm:W.mroIn K C (.type "object")=some true):f6 K H (.ref a) (.ref C)
theorem fj {x:V}{u t:Value}(I:Inv X pins σ H s)(rx:RelV x u)(ty:f6 X.K H x t)(e:W.kitOne X.K t c=some b)(h:∀ tk,Q (.bool b) { s with toks:=tk}):wpAny (model X.prog X.w) A (call (.builtin "isinstance") [u,c]) Q E s:=by
 cases ty with
 | a7=>cases (show u=Value.none from rx);exact W.kia_one W.kitx_none I.cw True.intro e (fun z=>nomatch z) h
 | bl y=>cases (show u=Value.bool y from rx);exact W.kia_one W.kitx_bool I.cw True.intro e (fun z=>nomatch z) h
 | int i=>obtain⟨t,q⟩:=(show ∃ t,u=Value.int i t from rx);cases q;exact W.kia_one W.kitx_int I.cw True.intro e (fun z=>nomatch z) h
 | str y=>obtain⟨t,q⟩:=(show ∃ t,u=Value.str y t from rx);cases q;exact W.kia_one W.kitx_str I.cw True.intro e (fun z=>nomatch z) h
 | vx y=>obtain⟨t,q⟩:=(show ∃ t,u=Value.float y t from rx);cases q;exact W.kia_one W.kitx_float I.cw True.intro e (fun z=>nomatch z) h
 | @lst a xs ea=>
   cases (show u=Value.ref a from rx);obtain⟨_,_,n,_,h1⟩:=(show aD X.prog X.w H s.heap a (.lst xs) from I.aF a _ ea)
   exact W.kia_one W.kitx_list I.cw ⟨_,h1,rfl⟩ e (fun z=>nomatch z) h
 | @a6 a ob xs ea=>
   cases (show u=Value.ref a from rx);obtain⟨_,_,_,n,_,h1⟩:=(show aD X.prog X.w H s.heap a (.a6 ob (.lst xs)) from I.aF a _ ea)
   exact W.kia_one W.kitx_list I.cw ⟨_,h1,rfl⟩ e (fun z=>nomatch z) h
 | @tup a xs ea=>
   cases (show u=Value.ref a from rx);obtain⟨_,_,_,p⟩:=(show aD X.prog X.w H s.heap a (.tup xs) from I.aF a _ ea)
   obtain⟨o,h1,h2,_⟩:=p;exact W.kia_one W.kitx_tuple I.cw ⟨o,h1,h2⟩ e (fun z=>nomatch z) h
 | @dK a kvs ea=>
   cases (show u=Value.ref a from rx);obtain⟨_,_,vs,_,p⟩:=(show aD X.prog X.w H s.heap a (.dK kvs) from I.aF a _ ea)
   obtain⟨o,es,ep,h1,h2,_⟩:=p;exact W.kia_one W.kitx_dict I.cw ⟨o,h1,h2.1⟩ e (fun z=>nomatch z) h
 | @dT a kvs ea=>
   cases (show u=Value.ref a from rx);obtain⟨_,_,xs,_,o,es,ep,h1,h2,_⟩:=(show aD X.prog X.w H s.heap a (.dT kvs) from I.aF a _ ea)
   exact W.kia_one W.kitx_dict I.cw ⟨o,h1,h2.1⟩ e (fun z=>nomatch z) h
 | @ins a C dx fs ea cl ha hn wN hm=>
   cases (show u=Value.ref a from rx);obtain⟨mA,O,_⟩:=gq I.aF ea;obtain⟨od,J,_⟩:=O.look;exact W.kia_one (W.kitx_own (cl.get _) cl.hd ha hn wN hm) I.cw J e (fun z=>nomatch z) h
end
structure aV (k:Nat)(A:Around):Prop where
 hd:A.handled=none
 dp:A.depth+3 * k+5 < recursionLimit
 un:A.units+16 * k+200 < cLine
theorem aV.mono {j k:Nat}{A:Around}(r:aV k A)(h:j<=k):aV j A:=⟨r.hd,by have:=r.dp;omega,by have:=r.un;omega⟩
theorem aV.deeper {k:Nat}{A:Around}(r:aV (k+1) A)(env:Env):aV k (A.deeper env):=
 ⟨r.hd,by have:=r.dp;show A.depth+1+3 * k+5 < _;omega,by have:=r.un;show A.units+3+16 * k+200 < _;omega⟩
theorem l3 {A:Around}{C:Addr}{us:List Value}{kw:List (Str×Value)}:(A.under (.builtin "type.__call__" ⟨.ref C::us,kw⟩)).depth=A.depth+1:=by
 first | rfl | simp[Around.under,Code.weight,Code.isCreation,Code.isGuard,Code.isCaller,Code.frames,Code.isFrame,guardIds]
theorem l4 {A:Around}{C:Addr}{us:List Value}{kw:List (Str×Value)}:(A.under (.builtin "type.__call__" ⟨.ref C::us,kw⟩)).units=A.units+1:=by
 first | rfl | simp[Around.under,Code.cUnits,Code.frames,Code.isFrame]
theorem aV.make {k:Nat}{A:Around}(r:aV (k+1) A)(C:Addr)(us:List Value)(kw:List (Str×Value)):aV k (A.under (.builtin "type.__call__" ⟨.ref C::us,kw⟩)):=
 ⟨r.hd,by have:=r.dp;rw[l3];omega,by have:=r.un;rw[l4];omega⟩
theorem aV.depth {k:Nat}{A:Around}(r:aV k A):A.depth < recursionLimit:=by have:=r.dp;omega
theorem aV.units {k:Nat}{A:Around}(r:aV k A):A.units+64 < cLine:=by have:=r.un;omega
def Bu:TA:=fun _ H Q=>Q [] H
def qf (ta:TE)(tr:TA):TA:=fun σ H Q=>ta σ H fun x H1=>tr σ H1 fun xs H2=>Q (x::xs) H2
section
variable {X:Cx}{e:Expr}{es:List Expr}{te:TE}{t:TA}{pos:Pos}
theorem wO:PA X [] Bu:=fun _ _ _ _ H Q I h=>Calls.spliced_nil ⟨[],H,I,.nil,h⟩
theorem tH (ha:PE X e te)(hr:PA X es t)(hs:autoParam (starEach (e::es) X.env=(false,eval e X.env)::starEach es X.env) jp):PA X (e::es) (qf te t):=by
 intro pos pins s σ H Q I h;rw[hs];show wpAny _ _ (spliced ((false,eval e X.env)::backTo pos (starEach es X.env))) _ _ s;refine Calls.spliced_cons (aS (ha pins s σ H _ I h) fun u s1 zq=>?_);obtain⟨x,H1,I1,r1,q1⟩:=zq;exact aS (hr pos pins s1 σ H1 _ I1 q1) fun us s2 ⟨xs,H2,I2,r2,q2⟩=>⟨x::xs,H2,I2,.cons r1 r2,q2⟩
def Bv (t:TA):TE:=fun σ H Q=>t σ H fun xs H1=>xs.length<=sizeLine/\∀ p,H1 p=none->Q (.ref p) (upd H1 p (.tup xs))
def Bw (t:TA):TE:=fun σ H Q=>t σ H fun xs H1=>xs.length<=sizeLine/\∀ p,H1 p=none->Q (.ref p) (upd H1 p (.lst xs))
theorem wQ {x1}(h:PA X es t):PE X (.Tuple es x1 pos) (Bv t):=by
 intro pins s σ H Q I hq;refine wpAny_Tuple_spliced (aS (h pos pins s σ H _ I hq) fun us s1 ⟨xs,H1,I1,r,z,q⟩=>⟨by rw[<- r.length];exact z,?_⟩);have hf:H1 s1.heap.objs.size=none:=I1.aF.fresh (DU _);refine⟨.ref s1.heap.objs.size,upd H1 s1.heap.objs.size (.tup xs),I1.laid (t':=s1.toks) (fun b u e=>F0 _ e) (DU _) ?_,rfl,q _ hf⟩;exact⟨z,us,r,⟨_,Gp _ rfl,rfl,_,rfl⟩⟩
theorem qg (h:PA X es t):PE X (.List es pos) (Bw t):=by
 intro pins s σ H Q I hq;refine wpAny_List_spliced (aS (h pos pins s σ H _ I hq) fun us s1 ⟨xs,H1,I1,r,z,q⟩=>⟨by rw[<- r.length];exact z,?_⟩);have hf:H1 s1.heap.objs.size=none:=I1.aF.fresh (DU _);refine⟨.ref s1.heap.objs.size,upd H1 s1.heap.objs.size (.lst xs),I1.laid (t':=s1.toks) (fun b u e=>F0 _ e) (DU _) ?_,rfl,q _ hf⟩;exact⟨z,us,0,r,Gp _ rfl⟩
end
abbrev Sp:=List V->Hp->VK->XK->Prop
abbrev cW:=List Env->Hp->Shared->XK->Value->Shared->Prop
structure ji (P:Program)(w:World)(K:W.Frag)(mg:Str->Option Value)(base:Heap)(A:Around)(outer:List Env)(s:Shared)(H:Hp):Prop where
 frames:A.frames=some outer
 mod:Mod K mg base
 bs:∀ b o,base.get? b=some o->s.heap.get? b=some o/\H b=none
 pR:base.objs.size<=s.heap.objs.size
 dY:s.heap.FunFrames base outer
 pM:∀ b∈cC outer,H b=none
 aF:dv P w H s.heap
 bare:AllBare s.gens
def CE (outer:List Env)(P:Program)(w:World)(H:Hp)(s:Shared)(Q:VK)(u:Value)(s':Shared):Prop:=
 ∃ v H',s'.os=s.os/\AllBare s'.gens/\Un (cC outer) [] H H' s.heap s'.heap/\dv P w H' s'.heap/\RelV v u/\Q v H'
def CR (CX:cW)(outer:List Env)(P:Program)(w:World)(H:Hp)(s:Shared)(Q:VK)(E:XK)(r:Result)(s':Shared):Prop:=
 match r with
 | .ok (.ret u)=>CE outer P w H s Q u s'
 | .ok _=>False
 | .error e=>CX outer H s E e s'
structure cz (P:Program)(w:World)(K:W.Frag)(mg:Str->Option Value)(base:Heap)(CX:cW)(k:Nat)(f:Addr)(fd:FuncData)(ps:List Str)(sp:Sp):Prop where
 len:∀ vs H Q E,sp vs H Q E->vs.length=ps.length
 run:∀ (A:Around) (outer:List Env) (s:Shared) (H:Hp) (args:Args) (us:List Value) (vs:List V) (Q:VK) (E:XK),aV k A->ji P w K mg base A outer s H->BindsTo s fd args (ps.zip us)->Vals vs us->sp vs H Q E ->
   codeAny (model P w) A (.call (.ref f) args) (CR CX outer P w H s Q E) s
theorem ji.make {P:Program}{w:World}{K:W.Frag}{mg:Str->Option Value}{base:Heap}{A:Around}{outer:List Env}{s:Shared}{H:Hp}(e:ji P w K mg base A outer s H)(C:Addr)(us:List Value)(kw:List (Str×Value)):ji P w K mg base (A.under (.builtin "type.__call__" ⟨.ref C::us,kw⟩)) outer s H:=⟨by first | exact e.frames | (simpa [Around.under,Code.envs,Code.isFrame,pushEnvs] using e.frames),e.mod,e.bs,e.pR,e.dY,e.pM,e.aF,e.bare⟩
section
variable {X:Cx}{pins:List (Addr×Obj)}{σ:St}{H:Hp}{s s':Shared}
theorem Inv.tJ (I:Inv X pins σ H s):ji X.prog X.w X.K X.mg X.base X.A X.stack s H:=
 ⟨I.ok.frames,I.ok.mod,I.bs,Ge I.ok.pR I.sz,I.stack,I.ei,I.aF,I.bare⟩
theorem Inv.after {Q:VK}{u:Value}(I:Inv X pins σ H s)(h:CE X.stack X.prog X.w H s Q u s'):EP X pins σ Q u s':=by
 obtain⟨v,H',os,bare,un,aF,r,q⟩:=h;obtain⟨hh,g,d,t,DT⟩:=s';obtain rfl:DT=s.os:=os;exact⟨v,H',I.call (h':=hh) (g':=g) (d':=d) (t':=t) (ch:=[]) un aF bare (fun b z=>absurd z (by simp)),r,q⟩
end
def qh (sp:Sp)(dvs:List V)(E:XK)(t:TA):TE:=fun σ H Q=>t σ H fun vs H1=>sp (vs ++ dvs) H1 Q E
def zp (C:Addr)(m:Str)(sp:Sp)(dvs:List V)(E:XK)(ta:TE)(t:TA):TE:=fun σ H Q=>ta σ H fun x H1=>∃ a dx fs,x=.ref a/\Rd H1 a (.ins C dx fs)/\fs.lookup m=none /\
 t σ H1 fun vs H2=>sp (x::(vs ++ dvs)) H2 Q E
def zr (C:Addr)(sp:Sp)(dvs:List V)(E:XK)(t:TA):TE:=fun σ H Q=>t σ H fun vs H1=>∀ x dx,H1 x=none->H1 dx=none->dx≠x ->
 sp (.ref x::(vs ++ dvs)) (upd (upd H1 dx (.own x)) x (.ins C dx [])) (fun v H2=>v=.a7/\Q (.ref x) H2) E
def Binds (K:PySem.W.Frag)(fd:FuncData)(ps:List Str)(ds:List Value):Prop:=
 ∀ (s:Shared) (us:List Value),K.In s.heap->(us ++ ds).length=ps.length->BindsTo s fd ⟨us,[]⟩ (ps.zip (us ++ ds))
theorem Binds.all {K:W.Frag}{fd:FuncData}{ps:List Str}(h:∀ us:List Value,us.length=ps.length->bindArgs fd ⟨us,[]⟩=pure (ps.zip us)):Binds K fd ps []:=fun s us _ hl=>by
 rw[Gu] at hl ⊢;exact .of_eq (h us hl)
def Passes (CX:cW)(X:Cx)(E:XK):Prop:=∀ (pins:List (Addr×Obj)) (σ:St) (H:Hp) (s:Shared) (e:Value) (s':Shared),Inv X pins σ H s->CX X.stack H s E e s'->X.xe e s'
section
variable {X:Cx}{CX:cW}{k:Nat}{f C:Addr}{fd:FuncData}{ps:List Str}{sp:Sp}{dvs:List V}{ds:List Value}{E:XK}{x m:Str}{p pos apos:Pos}{e o:Expr}{es:List Expr}{ta:TE}{t:TA}
theorem qi {pins:List (Addr×Obj)}{σ:St}{H:Hp}{s:Shared}{Q:VK}{us:List Value}{vs:List V}(F:cz X.prog X.w X.K X.mg X.base CX k f fd ps sp)(hr:aV k X.A)(hb:Binds X.K fd ps ds)(hd:Vals dvs ds)(hx:Passes CX X E)(I:Inv X pins σ H s)(r:Vals vs us)(h:sp (vs ++ dvs) H Q E):wpAny (model X.prog X.w) X.A (call (.ref f) us) (EP X pins σ Q) X.xe s:=by
 have r2:Vals (vs ++ dvs) (us ++ ds):=r.append hd;have hl:(us ++ ds).length=ps.length:=by rw[<- r2.length];exact F.len _ _ _ _ h
 refine wpAny_call (codeAny_mono (F.run X.A X.stack s H ⟨us,[]⟩ (us ++ ds) (vs ++ dvs) Q E hr I.tJ (hb s us I.cw hl) r2 h) fun r s' hq=>?_);cases r with
 | error e=>exact hx pins σ H s e s' I hq
 | ok fl=>
   cases fl with
   | ret u=>exact I.after hq
   | next=>exact False.elim hq
   | brk=>exact False.elim hq
   | cont=>exact False.elim hq
theorem jj (F:cz X.prog X.w X.K X.mg X.base CX k f fd ps sp)(hr:aV k X.A)(hg:Gl X x)(hm:X.mg x=some (.ref f))(hk:W.keepIn X.K (.ref f)=true)(hb:Binds X.K fd ps ds)(hd:Vals dvs ds)(hx:Passes CX X E)(ha:PA X (e::es) t)(cL:autoParam ((x == ("__debug__":Str))=false) xz)(he:autoParam (starEach (e::es) X.env=(false,eval e X.env)::starEach es X.env) jp)(cZ:autoParam ((backTo pos (starEach es X.env)).any (·.1)=false) jp):PE X (.Call (.Name x p) (e::es) [] pos) (qh sp dvs E t):=by
 intro pins s σ H Q I h;refine wpAny_Call_Name_kw (cq I hg hm ?_ cL);refine W.callWith_K (h₀:=X.base) I.ok.mod.sZ hk (aS (ha pos pins s σ H _ I h) fun us s1 ⟨vs,H1,I1,r,q⟩=>⟨I1.cw,?_⟩) he cZ;exact qi F hr hb hd hx I1 r q
theorem tK {pl:Sem Bool}(he:PE X o ta)(c:kA X.K C)(hm:Meth X.K C m f)(F:cz X.prog X.w X.K X.mg X.base CX k f fd ps sp)(hr:aV k X.A)(hb:Binds X.K fd ps ds)(hd:Vals dvs ds)(hx:Passes CX X E)(ha:PA X (e::es) t)
   (e7:autoParam (starEach (e::es) X.env=(false,eval e X.env)::starEach es X.env) jp) (cZ:autoParam ((backTo pos (starEach es X.env)).any (·.1)=false) jp)
   (ht:autoParam (eval (.Call (.Attribute o m apos) (e::es) [] pos) X.env=(do
     let ov <- eval o X.env
     standAt apos.atName
     let (f,first) <- holding [ov] (getMethod ov m pl)
     callWith pos f first (backTo pos (starEach (e::es) X.env)) (backToKw pos (keywordEach [] X.env)))) jp) :
   PE X (.Call (.Attribute o m apos) (e::es) [] pos) (zp C m sp dvs E ta t):=by
 intro pins s σ H Q I h;refine W.methodCall_KW (pl:=pl) (aS (he pins s σ H _ I h) fun u s1 zq=>?_) ht;obtain⟨x,H1,I1,rx,a,dx,fs,ex,ea,l,q⟩:=zq;subst ex;obtain rfl:u=Value.ref a:=rx;refine l1 I1 ea c hm l ?_;refine W.callWith_K (first:=[.ref a]) (h₀:=X.base) I.ok.mod.sZ hm.kp (aS (ha pos pins s1 σ H1 _ I1 q) fun us s2 ⟨vs,H2,I2,r,q2⟩=>⟨I2.cw,?_⟩) e7 cZ;exact qi (us:=.ref a::us) (vs:=.ref a::vs) F hr hb hd hx I2 (.cons rfl r) q2
structure Mk (K:W.Frag)(C f:Addr):Prop where
 makes:W.makesIn K C=true
 init:W.findIn K (.ref C) "__init__"=some (some (.ref f))
 fn:W.isFn K (.ref f)=true
 kp:W.keepIn K (.ref C)=true
theorem qj {pins:List (Addr×Obj)}{σ:St}{H:Hp}{s:Shared}{Q:VK}{us:List Value}{vs:List V}(M:Mk X.K C f)(F:cz X.prog X.w X.K X.mg X.base CX k f fd ps sp)(hr:aV (k+1) X.A)(hb:Binds X.K fd ps ds)(hd:Vals dvs ds)(hx:Passes CX X E)(I:Inv X pins σ H s)(r:Vals vs us)(h:∀ x dx,H x=none->H dx=none->dx≠x->sp (.ref x::(vs ++ dvs)) (upd (upd H dx (.own x)) x (.ins C dx [])) (fun v H2=>v=.a7/\Q (.ref x) H2) E):wpAny (model X.prog X.w) X.A (call (.ref C) us) (EP X pins σ Q) X.xe s:=by
 have hq:=h (s.heap.objs.size+1) s.heap.objs.size (I.aF.fresh (Hd _)) (I.aF.fresh (DU _)) (Gd (G4 _));have I2:=Inv.made (C:=C) I;have r2:Vals (V.ref (s.heap.objs.size+1)::(vs ++ dvs)) (Value.ref (s.heap.objs.size+1)::(us ++ ds)):=.cons rfl (r.append hd);have hl:(Value.ref (s.heap.objs.size+1)::us ++ ds).length=ps.length:=by
   have e:=r2.length;rw[F.len _ _ _ _ hq] at e;exact e.symm
 refine wpAny_call (qb (f:=f) I.cw M.makes M.init (beq_iff_eq.mp M.fn) (codeAny_mono (F.run _ X.stack _ _ ⟨Value.ref (s.heap.objs.size+1)::us,[]⟩ (Value.ref (s.heap.objs.size+1)::(us ++ ds)) _ _ E (hr.make C us [])
   (I2.tJ.make C us []) (hb _ (Value.ref (s.heap.objs.size+1)::us) I2.cw hl) r2 hq) fun r s' zt=>?_))
 cases r with
 | error e=>exact hx pins σ _ _ e s' I2 zt
 | ok fl=>
   cases fl with
   | ret u=>
     obtain⟨v,H',I3,rv,ev,q3⟩:=I2.after zt;subst ev;exact⟨rv,⟨V.ref (s.heap.objs.size+1),H',I3,rfl,q3⟩⟩
   | next=>exact False.elim zt
   | brk=>exact False.elim zt
   | cont=>exact False.elim zt
theorem tL (M:Mk X.K C f)(F:cz X.prog X.w X.K X.mg X.base CX k f fd ps sp)(hr:aV (k+1) X.A)(hg:Gl X x)(hm:X.mg x=some (.ref C))(hb:Binds X.K fd ps ds)(hd:Vals dvs ds)(hx:Passes CX X E)(ha:PA X (e::es) t)(cL:autoParam ((x == ("__debug__":Str))=false) xz)(he:autoParam (starEach (e::es) X.env=(false,eval e X.env)::starEach es X.env) jp)(cZ:autoParam ((backTo pos (starEach es X.env)).any (·.1)=false) jp):PE X (.Call (.Name x p) (e::es) [] pos) (zr C sp dvs E t):=by
 intro pins s σ H Q I h;refine wpAny_Call_Name_kw (cq I hg hm ?_ cL);refine W.callWith_K (h₀:=X.base) I.ok.mod.sZ M.kp (aS (ha pos pins s σ H _ I h) fun us s1 ⟨vs,H1,I1,r,q⟩=>⟨I1.cw,?_⟩) he cZ;exact qj M F hr hb hd hx I1 r q
end
section
variable {fd:FuncData}{ps ks:List Str}
structure Bx (K:W.Frag)(fd:FuncData)(ps ks:List Str)(g:List Value->List Value->List Value)(gV:List V->List V->List V):Prop where
 to:∀ (s:Shared) (us ws:List Value),K.In s.heap->(g us ws).length=ps.length->BindsTo s fd ⟨us,ks.zip ws⟩ (ps.zip (g us ws))
 rel:∀ {vs:List V} {us:List Value} {zs:List V} {ws:List Value},Vals vs us->Vals zs ws->Vals (gV vs zs) (g us ws)
end
structure aA (N P:List Str)(sc:Scope):Prop where
 kind:sc.kind=.function
 co:sc.isCoroutine=false
 gen:sc.isGenerator=false
 nd:N.Nodup
 pre:N.take P.length=P
 par:∀ x∈P,sc.names.lookup x=some .local\/sc.names.lookup x=some .cell
 wR:∀ y∈sc.names,y.2≠.free
theorem iI {kindOf:Str->Option NameKind}{x:Str}:∀ {binds:List (Str×Value)} {m:Str->Option Value},(∀ v,(x,v) ∉ binds)->bindL kindOf binds m x=m x
 | [],_,_=>rfl
 | (n,v)::r,m,h=>by
   unfold bindL;rw[iI fun w hw=>h w (Gg _ hw)]
   split
   . have:x≠n:=by rintro rfl;exact h v Gj
     simp[this]
   . rfl
theorem iJ {kindOf:Str->Option NameKind}{x:Str}:∀ {binds:List (Str×Value)} {m:Str->Option Value},(∀ v,(x,v) ∉ binds)->bindC kindOf binds m x=m x
 | [],_,_=>rfl
 | (n,v)::r,m,h=>by
   unfold bindC;rw[iJ fun w hw=>h w (Gg _ hw)]
   split
   . rfl
   . have:x≠n:=by rintro rfl;exact h v Gj
     simp[this]
theorem fk {kindOf:Str->Option NameKind}{x:Str}{v:Value}:∀ {P:List Str} {vs:List Value} {i:Nat} {m:Str->Option Value},P.Nodup->P[i]?=some x->vs[i]?=some v->kindOf x=some .local->bindL kindOf (P.zip vs) m x=some v
 | [],_,_,_,_,h,_,_=>by simp at h
 | _::_,[],_,_,_,_,h,_=>by simp at h
 | p::P,w::vs,0,m,nd,h1,h2,hk=>by
   simp at h1 h2;subst h1;subst h2;show bindL kindOf ((p,w)::P.zip vs) m p=_;unfold bindL;rw[iI fun v hv=>(G8.mp nd).1 (Hm hv).1,if_pos hk];simp
 | p::P,w::vs,i+1,m,nd,h1,h2,hk=>by
   show bindL kindOf ((p,w)::P.zip vs) m x=_;unfold bindL;exact fk (i:=i) (G8.mp nd).2 (by simpa using h1) (by simpa using h2) hk
theorem iK {kindOf:Str->Option NameKind}{x:Str}{v:Value}:∀ {P:List Str} {vs:List Value} {i:Nat} {m:Str->Option Value},P.Nodup->P[i]?=some x->vs[i]?=some v->kindOf x≠some .local->bindC kindOf (P.zip vs) m x=some v
 | [],_,_,_,_,h,_,_=>by simp at h
 | _::_,[],_,_,_,_,h,_=>by simp at h
 | p::P,w::vs,0,m,nd,h1,h2,hk=>by
   simp at h1 h2;subst h1;subst h2;show bindC kindOf ((p,w)::P.zip vs) m p=_;unfold bindC;rw[iJ fun v hv=>(G8.mp nd).1 (Hm hv).1,if_neg hk];simp
 | p::P,w::vs,i+1,m,nd,h1,h2,hk=>by
   show bindC kindOf ((p,w)::P.zip vs) m x=_;unfold bindC;exact iK (i:=i) (G8.mp nd).2 (by simpa using h1) (by simpa using h2) hk
noncomputable def start (N:List Str)(vs:List V):St:=vs.map some ++ Ga (N.length - vs.length) none
noncomputable def cE (CX:cW)(P:Program)(w:World)(K:W.Frag)(mg:Str->Option Value)(base:Heap)(N:List Str)(qual:Str)(scope:Scope)(f:Addr)(cd:Value)(A:Around)(outer:List Env)(s:Shared)(H:Hp)(E:XK):Cx where
 prog:=P
 w:=w
 K:=K
 mg:=mg
 base:=base
 A:=A.deeper (envOfC qual scope s.heap.objs.size f cd)
 N:=N
 s₀:=s
 H₀:=H
 env:=envOfC qual scope s.heap.objs.size f cd
 outer:=outer
 stack:=envOfC qual scope s.heap.objs.size f cd::outer
 ex:=[]
 calm:=true
 fn:=fun _=>true
 pn:=[]
 xe:=fun e s'=>wpAny (model P w) (A.deeper (envOfC qual scope s.heap.objs.size f cd)) (leaving (envOfC qual scope s.heap.objs.size f cd) e) (fun _ zu=>CX outer H s E e zu) (fun e' zu=>CX outer H s E e' zu) s'
theorem kB {sc:Scope}{n:Nat}{x:Str}(h:sc.names.lookup x=some .cell):∃ c,(cellsFrom n sc.names []).lookup x=some c:=by
 have q:=W.cellsFrom_some sc.names n [] (.inl h);exact G6.mp q
theorem iL {CX:cW}{P:Program}{w:World}{K:W.Frag}{mg:Str->Option Value}{base:Heap}{N ps:List Str}{qual:Str}{scope:Scope}{f:Addr}{cd:Value}{A:Around}{outer:List Env}{s s1:Shared}{H:Hp}{E:XK}{us:List Value}{vs:List V}(S:aA N ps scope)(hd:A.handled=none)(e0:ji P w K mg base A outer s H)(hl:vs.length=ps.length)(r:Vals vs us)(x:InCallC s s.heap.objs.size (bindL (envOfC qual scope s.heap.objs.size f cd).kindOf (ps.zip us) fun _=>none) (cellsFrom (s.heap.objs.size+1) scope.names []) (bindC (envOfC qual scope s.heap.objs.size f cd).kindOf (ps.zip us) fun _=>none) s1):Inv (cE CX P w K mg base N qual scope f cd A outer s H E) [] (start N vs) H s1:=by
 have cZ:ps.length<=N.length:=by have:=congrArg List.length S.pre;rw[Gv] at this;omega
 obtain⟨h1,tk,rfl,hk⟩:=x.done;have zv:∀ b:Addr,b ∉ (cE CX P w K mg base N qual scope f cd A outer s H E).ex:=fun b z=>absurd (show b∈([]:List Addr) from z) (by simp)
 refine⟨⟨e0.mod,S.kind,rfl,rfl,DU _,fun y z c h1 h2=>?_,fun y hy=>?_,fun y c _ h=>?_,fun _=>hd,Around.frames_deeper e0.frames,.inr ⟨rfl,rfl⟩,fun b z=>absurd z (zv b),e0.bs,e0.pR,fun b _ _=>zv b,fun b z=>absurd z (zv b),e0.dY,e0.pM⟩,
   rfl,e0.bare,Un.kept hk,⟨_,x.toInCall.ns,fun i y v h1 h2 h3=>?_⟩,fun y c h=>⟨_,x.cell y c h⟩,e0.aF.fresh (DU _),fun y c h=>?_,fun p hp=>absurd (show p∈([]:List (Addr×Obj)) from hp) (by simp),e0.aF.kept hk,?_⟩
 . exact name_of_addr x.apart (PySem.mem_of_lookup h1) (PySem.mem_of_lookup h2)
 . have hy:scope.names.lookup y=some .cell\/scope.names.lookup y=some .free:=hy
   rcases hy with hy | hy
   . exact kB hy
   . exact absurd rfl (S.wR _ (PySem.mem_of_lookup hy))
 . exact Hs (x.above y c (PySem.mem_of_lookup h))
 . have hi:i < vs.length:=by
     unfold start at h2;by_cases hi:i < vs.length
     . exact hi
     . rw[Gh (by simpa using hi)] at h2
       rw[GI] at h2
       split at h2 <;> cases h2
   have ha:vs[i]?=some v:=by
     unfold start at h2;rw[Gf (by simpa using hi),Gb] at h2;cases e:vs[i]? with
     | none=>rw[e] at h2;cases h2
     | some a=>rw[e] at h2;cases h2;rfl
   obtain⟨u,hu,rv⟩:=r.get ha;have hp:ps[i]?=some y:=by
     rw[<- S.pre,List.getElem?_take_of_lt (by omega)];exact h1
   have AM:ps.Nodup:=by rw[<- S.pre];exact S.nd.sublist (List.take_sublist _ _)
   refine⟨u,rv,?_⟩;rcases S.par y (GR hp) with k | k
   . exact .inl ⟨k,fk AM hp hu k⟩
   . obtain⟨c,e⟩:=kB (n:=s.heap.objs.size+1) k
     refine .inr ⟨.inl k,c,e,?_⟩;have q:=x.cell y c e;rw[iK AM hp hu (by show scope.names.lookup y≠_;rw[k];decide)] at q;exact q
 . exact e0.aF.fresh (Hs (x.above y c (PySem.mem_of_lookup h)))
 . unfold start
   show _=N.length;rw[Gn,Bn,List.length_replicate];omega
theorem vF {CX:cW}{P:Program}{w:World}{K:W.Frag}{mg:Str->Option Value}{base:Heap}{k:Nat}{f:Addr}{name qual:Str}{params:Arguments}{body:List Stmt}{scope:Scope}{dV kV doc pm aR ct oc:Value}{an od:Option Addr}{iu:Array (Option Value)}{N ps:List Str}{sp:Sp}(lk:K.lookup f=some ⟨oc,od,.func (W.fnOf name qual params body scope dV kV doc pm an aR ct),iu⟩)(ee:W.codeIn K aR qual=true)(S:aA N ps scope)(len:∀ vs H Q E,sp vs H Q E->vs.length=ps.length)(dc:∀ (A:Around) (outer:List Env) (s:Shared) (H:Hp) (vs:List V) (Q:VK) (E:XK),aV k (A.deeper (envOfC qual scope s.heap.objs.size f aR))->sp vs H Q E->∃ t,oe (cE CX P w K mg base N qual scope f aR A outer s H E) body t/\t { nx:=fun _ H'=>Q .a7 H',rt:=Q} (start N vs) H):cz P w K mg base CX (k+1) f (W.fnOf name qual params body scope dV kV doc pm an aR ct) ps sp:=by
 refine⟨len,fun A outer s H args us vs Q E hr e0 hb r qk=>?_⟩;have hl:=len _ _ _ _ qk;have KX:K.In s.heap:=e0.mod.sZ.keeps fun b o e=>(e0.bs b o e).1
 have lim:s.heap.NoLimit:=e0.mod.nolimit.keeps fun b o e=>(e0.bs b o e).1
 have ql:∀ y∈ps.zip us,scope.names.lookup y.1=some .local\/(scope.names.lookup y.1=some .cell/\((cellsFrom (s.heap.objs.size+1) scope.names []).lookup y.1).isSome=true):=fun⟨n,v⟩ hy=>by
   rcases S.par n (Hm hy).1 with q | q
   . exact .inl q
   . exact .inr ⟨q,W.cellsFrom_some _ _ _ (.inl q)⟩
 refine codeAny_call_function hr.depth (KX _ _ lk) rfl S.co S.gen rfl (W.codeRec_of KX ee) (hb _ _ _ _ ?_);refine wpAny_newFunctionEnv_cells S.kind ql fun env he s1 x=>?_
 subst he;refine⟨lim.keeps x.toInCall.keep,codeAny_func ?_⟩;obtain⟨t,ht,hq⟩:=dc A outer s H vs Q E (hr.deeper _) qk;have I:Inv (cE CX P w K mg base N qual scope f aR A outer s H E) [] (start N vs) H s1:=iL S hr.hd e0 hl r x;refine wpAny_mono (ht [] s1 (start N vs) H _ I hq) (fun fl s' hs=>?_) fun e s' hs=>hs
 have fin:∀ {σ':St} {H':Hp} {v:V} {u:Value},Inv (cE CX P w K mg base N qual scope f aR A outer s H E) [] σ' H' s'->RelV v u->Q v H'->CE outer P w H s Q u s':=
   fun {σ' H' v u} J rv q=>⟨v,H',J.os,J.bare,J.base,J.aF,rv,q⟩
 cases fl with
 | ret u=>
   obtain⟨v,σ',H',J,rv,q⟩:=hs;exact fin J rv q
 | next=>
   obtain⟨σ',H',J,q⟩:=hs;exact fin (v:=V.a7) (u:=Value.none) J rfl q
 | brk=>
   obtain⟨_,_,_,q⟩:=hs;exact False.elim q
 | cont=>
   obtain⟨_,_,_,q⟩:=hs;exact False.elim q
section
variable {X:Cx}{x:Str}{p pos:Pos}{e:Expr}{es:List Expr}{t:TA}{id T:String}{r:List V->Hp->VK->Prop}
def CW (r:List V->Hp->VK->Prop)(t:TA):TE:=fun σ H Q=>t σ H fun vs H1=>r vs H1 Q
theorem de (hc:fQ X (.builtin id) r)(hg:Gl X x)(hm:X.mg x=none)(hv:bootBuiltins x=some (.builtin id))(ha:PA X (e::es) t)(hn:autoParam (x≠"__name__") xz)(cL:autoParam ((x == ("__debug__":Str))=false) xz)(he:autoParam (starEach (e::es) X.env=(false,eval e X.env)::starEach es X.env) jp)(cZ:autoParam ((backTo pos (starEach es X.env)).any (·.1)=false) jp):PE X (.Call (.Name x p) (e::es) [] pos) (CW r t):=by
 intro pins s σ H Q I h;refine wpAny_Call_Name_kw (gJ I hg hm hv ?_ hn cL);exact PyProof.Rows.callWith_builtin1 (aS (ha pos pins s σ H _ I h) fun us s1 ⟨vs,H1,I1,r1,q1⟩=>hc pins s1 σ H1 vs us Q I1 r1 q1) he cZ
theorem iM (hc:fQ X (.type T) r)(hg:Gl X x)(hm:X.mg x=none)(hv:bootBuiltins x=some (.type T))(ha:PA X (e::es) t)(hn:autoParam (x≠"__name__") xz)(cL:autoParam ((x == ("__debug__":Str))=false) xz)(he:autoParam (starEach (e::es) X.env=(false,eval e X.env)::starEach es X.env) jp)(cZ:autoParam ((backTo pos (starEach es X.env)).any (·.1)=false) jp):PE X (.Call (.Name x p) (e::es) [] pos) (CW r t):=by
 intro pins s σ H Q I h;refine wpAny_Call_Name_kw (gJ I hg hm hv ?_ hn cL);exact PyProof.Rows.callWith_type1 (aS (ha pos pins s σ H _ I h) fun us s1 ⟨vs,H1,I1,r1,q1⟩=>hc pins s1 σ H1 vs us Q I1 r1 q1) he cZ
end
end L2
namespace HT
open PySem PyProof.Rows
section
noncomputable def kC (n d:Nat):Option Int->Nat
 | none=>d
 | some v=>if v < 0 then (v+(n:Int)).toNat else min v.toNat n
theorem kD (n d:Nat):kC n d none=d:=rfl
theorem m6 (n d k:Nat):kC n d (some (k:Int))=min k n:=by
 show(if (k:Int) < 0 then ((k:Int)+(n:Int)).toNat else min (k:Int).toNat n)=min k n;rw[if_neg (by omega),G2]
end
end HT
namespace L2
open PySem PySem.Spec PyProof.Rows
abbrev TO:=St->Hp->(Option Int->Hp->Prop)->Prop
def PO (X:Cx)(e:Option Expr)(t:TO):Prop:=
 ∀ (pins:List (Addr×Obj)) (s:Shared) (σ:St) (H:Hp) (Q:Option Int->Hp->Prop),Inv X pins σ H s->t σ H Q ->
   wpAny (model X.prog X.w) X.A (evalPart e X.env) (fun u s'=>∃ o H',Inv X pins σ H' s'/\IsPart u o/\Q o H') X.xe s
def tM:TO:=fun _ H Q=>Q none H
def zw (t:TE):TO:=fun σ H Q=>t σ H fun x H1=>∃ i,x=.int i/\Q (some i) H1
section
variable {X:Cx}{e:Expr}{te:TE}{lo hi:Option Expr}{tl th:TO}{pos p2:Pos}
theorem jl:PO X none tM:=by
 intro pins s σ H Q I h;rw[evalPart_none];exact wpAny_pure ⟨none,H,I,.none,h⟩
theorem jm (h:PE X e te):PO X (some e) (zw te):=by
 intro pins s σ H Q I hw;rw[evalPart_some];refine aS (h pins s σ H _ I hw) fun u s1 zq=>?_;obtain⟨x,H1,I1,r1,q1⟩:=zq
 obtain⟨i,rfl,q⟩:=q1;obtain⟨t,rfl⟩:=r1;exact⟨some i,H1,I1,.int i t,q⟩
def By (X:Cx)(r:V->Option Int->Option Int->Hp->VK->Prop):Prop:=
 ∀ (pins:List (Addr×Obj)) (s:Shared) (σ:St) (H:Hp) (x:V) (v vl vu:Value) (lo hi:Option Int) (sl:Addr) (Q:VK),Inv X pins σ H s->RelV x v->s.heap.IsSliceOf sl vl vu .none->IsPart vl lo->IsPart vu hi->r x lo hi H Q ->
   ∃ T id,typeLookup (.type T) "__getitem__"=pure (some (.builtin id))/\s.TypeIs v T/\wpAny (model X.prog X.w) X.A (getItem v (.ref sl)) (EP X pins σ Q) X.xe s
def DV (r:V->Option Int->Option Int->Hp->VK->Prop)(te:TE)(tl th:TO):TE:=fun σ H Q=>te σ H fun x H1=>tl σ H1 fun l H2=>th σ H2 fun u H3=>r x l u H3 Q
theorem gN {r:V->Option Int->Option Int->Hp->VK->Prop}(hr:By X r)(he:PE X e te)(hl:PO X lo tl)(hu:PO X hi th):PE X (.Subscript e (.Slice lo hi none p2) pos) (DV r te tl th):=by
 intro pins s σ H Q I h;refine Subscript_ (aS (he pins s σ H _ I h) fun v s1 zq=>?_);obtain⟨x,H1,I1,r1,q1⟩:=zq;refine wpAny_Slice (aS (hl pins s1 σ H1 _ I1 q1) fun vl s2 ⟨l,H2,I2,pl,q2⟩=>aS (hu pins s2 σ H2 _ I2 q2) fun vu s3 zq=>?_);obtain⟨u,H3,I3,pu,q3⟩:=zq;rw[evalPart_none];refine wpAny_pure ?_;have I4:Inv X pins σ H3 { s3 with heap:=s3.heap.push { cls:=.type "slice",data:=.fields #[vl,vu,.none]}}:=I3.kept (t':=s3.toks) fun b ob q=>F0 _ q
 obtain⟨T,id,hT,ht,hg⟩:=hr pins { s3 with heap:=s3.heap.push { cls:=.type "slice",data:=.fields #[vl,vu,.none]}} σ H3 x v vl vu l u s3.heap.objs.size Q I4 r1 (Heap.IsSliceOf.new ..) pl pu q3;show wpAny (model X.prog X.w) X.A (subscriptTail e (.Slice lo hi none p2) v (.ref s3.heap.objs.size)) (EP X pins σ Q) X.xe { s3 with heap:=s3.heap.push { cls:=.type "slice",data:=.fields #[vl,vu,.none]}};exact tail_any (ops:=[.ref s3.heap.objs.size,v]) ht hT hg (by with_unfolding_all rfl)
noncomputable def kE (xs:List V)(lo hi:Option Int):List V:=(xs.drop (HT.kC xs.length 0 lo)).take (HT.kC xs.length xs.length hi - HT.kC xs.length 0 lo)
theorem kF (xs:List V)(lo hi:Option Int):(kE xs lo hi).length<=xs.length:=by
 unfold kE;rw[Gv,GV];omega
theorem kG:fQ X (.type "tuple") (fun xs H Q=>∃ a ys,xs=[.ref a]/\iG X.K H a ys/\Q (.ref a) H):=by
 intro pins s σ H xs us Q I r h;obtain⟨a,ys,rfl,ha,q⟩:=h;obtain⟨u,rfl,ru⟩:=vals1 r;cases ru;obtain⟨aB,_,p1,_⟩:=I.tuple ha;exact call_tuple_same (items:=aB.toArray) p1 ⟨.ref a,H,I,rfl,q⟩
end
noncomputable def vG (n:Nat)(i:Int):Option Nat:=if 0<=i then (if i < n then some i.toNat else none) else if -(n:Int)<=i then some (i+n).toNat else none
noncomputable def fm {α:Type}(xs:List α)(i:Int):Option α:=(vG xs.length i).bind fun j=>xs[j]?
theorem tN {n:Nat}{i:Int}{j:Nat}(h:vG n i=some j):seqIndex? i n=some j/\j < n/\-(n:Int)<=i/\i < n:=by
 unfold vG at h;by_cases h0:0<=i
 . rw[if_pos h0] at h
   by_cases h1:i < n
   . rw[if_pos h1] at h
     have e:i.toNat=j:=Option.some.inj h;exact⟨by rw[seqIndex_of h0 h1,e],by omega,by omega,h1⟩
   . rw[if_neg h1] at h;cases h
 . rw[if_neg h0] at h
   by_cases h1:-(n:Int)<=i
   . rw[if_pos h1] at h
     have e:(i+n).toNat=j:=Option.some.inj h;exact⟨by rw[seqIndex_neg (by omega) h1,e],by omega,h1,by omega⟩
   . rw[if_neg h1] at h;cases h
theorem gu {α:Type}{xs:List α}{i:Int}{v:α}(h:fm xs i=some v):∃ j,seqIndex? i xs.length=some j/\xs[j]?=some v/\j < xs.length/\-(xs.length:Int)<=i/\i < xs.length:=by
 unfold fm at h;cases e:vG xs.length i with
 | none=>rw[e] at h;cases h
 | some j=>
   rw[e] at h;obtain⟨h1,h2,h3,h4⟩:=tN e;exact⟨j,h1,h,h2,h3,h4⟩
theorem gv {α:Type}{xs:List α}{j:Nat}{v:α}(h:xs[j]?=some v):fm xs (j:Int)=some v:=by
 have hj:j < xs.length:=(F6.mp h).1;have e:vG xs.length (j:Int)=some j:=by
   unfold vG;rw[if_pos (by omega),if_pos (by omega)];simp
 unfold fm;rw[e];exact h
def bS (b:Expr):Prop:=∀ o i,subscripted b false o i=operate [o,i] (getItem o i)
def AN (X:Cx)(r:R2):Prop:=
 ∀ (value slice:Expr) (pins:List (Addr×Obj)) (s:Shared) (σ:St) (H:Hp) (x y:V) (v u:Value) (Q:VK),Inv X pins σ H s->RelV x v->RelV y u->r x y H Q ->
   subscripted slice false v u=operate [v,u] (getItem v u)->wpAny (model X.prog X.w) X.A (subscriptTail value slice v u) (EP X pins σ Q) X.xe s
def CY (X:Cx)(id:String)(r:V->List V->Hp->VK->Prop):Prop:=
 ∀ (pins:List (Addr×Obj)) (s:Shared) (σ:St) (H:Hp) (x:V) (xs:List V) (v:Value) (us:List Value) (Q:VK),Inv X pins σ H s->RelV x v->Vals xs us->r x xs H Q ->
   wpAny (model X.prog X.w) X.A (call (.builtin id) (v::us)) (EP X pins σ Q) X.xe s
section
variable {X:Cx}{a b:Expr}{ta tb:TE}{pos:Pos}
theorem m7 {r:R2}(hr:AN X r)(ha:PE X a ta)(hb:PE X b tb)(hs:bS b):PE X (.Subscript a b pos) (yP r ta tb):=by
 intro pins s σ H Q I h;exact Subscript_ (wC ha hb I h fun v u s2 x y H2 I2 rx ry q=>hr a b pins s2 σ H2 x y v u Q I2 rx ry q (hs _ _))
def Bz (K:W.Frag):R2:=fun x y H Q=>∃ p xs i v,x=.ref p/\y=.int i/\dN K H p xs/\fm xs i=some v/\Q v H
def BA (K:W.Frag):R2:=fun x y H Q=>∃ p xs i v,x=.ref p/\y=.int i/\iG K H p xs/\fm xs i=some v/\Q v H
def tP:R2:=fun x y H Q=>∃ z i c,x=.str z/\y=.int i/\z.length<=sizeLine/\fm z.cps.toList i=some c/\Q (.str ⟨#[c]⟩) H
theorem m8:AN X (Bz X.K):=by
 intro value slice pins s σ H x y v u Q I rx ry h hs;obtain⟨p,xs,i,z,rfl,rfl,hq,he,q⟩:=h;cases rx;obtain⟨t,rfl⟩:=ry;obtain⟨aB,r,pl,hz⟩:=I.list hq;obtain⟨j,h1,h2,h3,h4,h5⟩:=gu he;obtain⟨w,ew,tQ⟩:=r.get h2;have hl:=r.length;have hn:=fh;have fin:EP X pins σ Q w s:=⟨z,H,I,tQ,q⟩
 by_cases h0:0<=i
 . have hj:i.toNat=j:=by
     rw[seqIndex_of h0 h5] at h1;exact Option.some.inj h1
   exact item_listR pl.isList h0 (by omega) (by rw[hj];simpa using ew) fin hs
 . have hj:(i+(aB.toArray.size:Int)).toNat=j:=by
     rw[seqIndex_neg (by omega) h4] at h1;rw[Gm,<- hl];exact Option.some.inj h1
   exact subscriptTail_builtinR (x:=w) pl.isList.typeIs slot_list_getitem.lookup
     (wpAny_getItem_list_neg (Q:=fun r s'=>r=w/\EP X pins σ Q r s') pl.isList (by omega) (by rw[Gm] <;> omega) (by omega) (by rw[hj];simpa using ew) ⟨rfl,fin⟩) hs
theorem wU:AN X (BA X.K):=by
 intro value slice pins s σ H x y v u Q I rx ry h hs;obtain⟨p,xs,i,z,rfl,rfl,hq,he,q⟩:=h;cases rx;obtain⟨t,rfl⟩:=ry;obtain⟨aB,r,pl,hz⟩:=I.tuple hq;obtain⟨j,h1,h2,h3,h4,h5⟩:=gu he;obtain⟨w,ew,tQ⟩:=r.get h2;have hl:=r.length;have hn:=fh;have fin:EP X pins σ Q w s:=⟨z,H,I,tQ,q⟩
 exact subscriptTail_builtinR (x:=w) pl.typeIs slot_tuple_getitem.lookup
   (getItem_tuple (j:=j) (Q:=fun r s'=>r=w/\EP X pins σ Q r s') pl (by omega) (by omega) (by rw[Gm,<- hl];exact h1) (by simpa using ew) ⟨rfl,fin⟩) hs
theorem qm:AN X tP:=by
 intro value slice pins s σ H x y v u Q I rx ry h hs;obtain⟨z,i,c,rfl,rfl,hz,he,q⟩:=h;obtain⟨t,rfl⟩:=rx;obtain⟨t',rfl⟩:=ry;obtain⟨j,h1,h2,h3,h4,h5⟩:=gu he;have hl:z.cps.toList.length=z.length:=by simp[Str.length]
 rw[hl] at h1 h4 h5;have hn:=fh;exact tail_any (typeIs_str s z t) slot_str_getitem.lookup (getItem_str (c:=c) (by
   have e1:decide (i < -(2 ^ 63:Int))=false:=decide_eq_false (by omega);have e2:decide (i >= 2 ^ 63)=false:=decide_eq_false (by omega);rw[e1,e2,Bool.or_false]) (by rw[h1];simpa using h2) ⟨.str ⟨#[c]⟩,H,I.tok _,⟨_,rfl⟩,q⟩) hs
theorem jn (lo hi:Option Int)(n:Nat):(sliceBounds lo hi none n).1=((HT.kC n 0 lo:Nat):Int)/\(sliceBounds lo hi none n).2.1=((HT.kC n n hi:Nat):Int)/\(sliceBounds lo hi none n).2.2=1:=by
 refine⟨?_,?_,rfl⟩
 . cases lo with
   | none=>simp[sliceBounds,HT.kC]
   | some i=>
     simp only[sliceBounds,HT.kC,Option.getD_none,show(1:Int) > 0 by decide,if_true];by_cases h:i < 0
     . simp only[h,if_true] <;> omega
     . simp only[h,if_false] <;> omega
 . cases hi with
   | none=>simp[sliceBounds,HT.kC]
   | some i=>
     simp only[sliceBounds,HT.kC,Option.getD_none,show(1:Int) > 0 by decide,if_true];by_cases h:i < 0
     . simp only[h,if_true] <;> omega
     . simp only[h,if_false] <;> omega
theorem iy (aB:List Value)(lo hi:Option Int):slicePick aB.toArray lo hi none=((aB.drop (HT.kC aB.length 0 lo)).take (HT.kC aB.length aB.length hi - HT.kC aB.length 0 lo)).toArray:=by
 obtain⟨h1,h2,h3⟩:=jn lo hi aB.toArray.size;unfold slicePick;rw[h1,h2,h3];simp only[sliceRange_one,pick_run,Gm] <;> rfl
def BB (K:W.Frag):V->Option Int->Option Int->Hp->VK->Prop:=fun x lo hi H Q=>∃ a xs,x=.ref a/\dN K H a xs/\∀ p,H p=none->Q (.ref p) (upd H p (.lst (kE xs lo hi)))
theorem m9:By X (BB X.K):=by
 intro pins s σ H x v vl vu lo hi sl Q I rx hs pl pu h;obtain⟨a,xs,rfl,hx,q⟩:=h;cases rx;obtain⟨aB,r,ht,hz⟩:=I.list hx;have hlen:=r.length;refine⟨"list",_,slot_list_getitem.lookup,ht.isList.typeIs,?_⟩;refine wpAny_getItem_list_slice ht.isList hs pl pu .none (by simp) ?_ (by rw[Gm] <;> omega);rw[iy,<- hlen];refine⟨.ref s.heap.objs.size,_,I.laid (t':=s.toks) (o:=.lst (kE xs lo hi)) (fun b ob q=>F0 _ q) (DU _) ?_,rfl,q _ (I.aF.fresh (DU _))⟩;exact⟨Ge (kF xs lo hi) hz,_,0,(r.drop (HT.kC xs.length 0 lo)).take (HT.kC xs.length xs.length hi - HT.kC xs.length 0 lo),Gp _ rfl⟩
noncomputable def eA:V->Bool
 | .a7=>true
 | .bl _=>true
 | .int _=>true
 | .str _=>true
 | _=>false
noncomputable def sS:V->V->Bool
 | .a7,.a7=>true
 | .bl a,.bl b=>a == b
 | .bl a,.int b=>(if a then 1 else 0) == b
 | .int a,.bl b=>a == (if b then 1 else 0)
 | .int a,.int b=>a == b
 | .str a,.str b=>a == b
 | _,_=>false
theorem wV {A:Around}{s:Shared}{y x:V}{u v:Value}(ry:RelV y u)(rx:RelV x v)(fy:eA y=true)(fx:eA x=true):SeqAt.EqAt A s u v (sS y x):=by
 cases y with
 | a7=>
   cases ry;cases x with
   | a7=>cases rx;exact SeqAt.EqAt.same _
   | bl b=>cases rx;exact SeqAt.EqAt.none_bool b
   | int b=>obtain⟨t,rfl⟩:=rx;exact SeqAt.EqAt.none_int b t
   | str b=>obtain⟨t,rfl⟩:=rx;exact SeqAt.EqAt.none_str b t
   | _=>exact absurd (show false=true from fx) Gk
 | bl a=>
   cases ry;cases x with
   | a7=>cases rx;exact SeqAt.EqAt.bool_none a
   | bl b=>cases rx;exact SeqAt.EqAt.bool_bool a b
   | int b=>obtain⟨t,rfl⟩:=rx;exact SeqAt.EqAt.bool_int a b t
   | str b=>obtain⟨t,rfl⟩:=rx;exact SeqAt.EqAt.bool_str a b t
   | _=>exact absurd (show false=true from fx) Gk
 | int a=>
   obtain⟨t',rfl⟩:=ry;cases x with
   | a7=>cases rx;exact SeqAt.EqAt.int_none a t'
   | bl b=>cases rx;exact SeqAt.EqAt.int_bool a t' b
   | int b=>obtain⟨t,rfl⟩:=rx;exact SeqAt.EqAt.int_int a t' b t
   | str b=>obtain⟨t,rfl⟩:=rx;exact SeqAt.EqAt.int_str a t' b t
   | _=>exact absurd (show false=true from fx) Gk
 | str a=>
   obtain⟨t',rfl⟩:=ry;cases x with
   | a7=>cases rx;exact SeqAt.EqAt.str_none a t'
   | bl b=>cases rx;exact SeqAt.EqAt.str_bool a t' b
   | int b=>obtain⟨t,rfl⟩:=rx;exact SeqAt.EqAt.str_int a t' b t
   | str b=>obtain⟨t,rfl⟩:=rx;exact SeqAt.EqAt.str_str a t' b t
   | _=>exact absurd (show false=true from fx) Gk
 | _=>exact absurd (show false=true from fy) Gk
noncomputable def l5 (x:V)(u:Value):Bool:=match u with
 | .none=>sS .a7 x
 | .bool b=>sS (.bl b) x
 | .int i _=>sS (.int i) x
 | .str z _=>sS (.str z) x
 | _=>false
theorem qo {x y:V}{u:Value}(r:RelV y u)(f:eA y=true):l5 x u=sS y x:=by
 cases y with
 | a7=>cases r;rfl
 | bl b=>cases r;rfl
 | int i=>obtain⟨t,rfl⟩:=r;rfl
 | str z=>obtain⟨t,rfl⟩:=r;rfl
 | _=>exact absurd (show false=true from f) Gk
theorem eB {x:V}:∀ {xs:List V} {us:List Value},Vals xs us->xs.all eA=true->us.any (l5 x)=xs.any fun y=>sS y x
 | _,_,.nil,_=>rfl
 | y::xs,u::us,.cons r t,f=>by
   rw[Hi,GJ] at f;rw[G7,G7,qo r f.1,eB t f.2]
theorem df {A:Around}{s:Shared}{x:V}{v:Value}(rx:RelV x v)(fx:eA x=true):∀ {xs:List V} {us:List Value},Vals xs us->xs.all eA=true->∀ u∈us,SeqAt.EqAt A s u v (l5 x u)
 | _,_,.nil,_=>fun u hu=>by cases hu
 | y::xs,u::us,.cons r t,f=>fun u' hu=>by
   rw[Hi,GJ] at f;rcases Gy.mp hu with rfl | hu
   . rw[qo r f.1];exact wV r rx f.1 fx
   . exact df rx fx t f.2 u' hu
noncomputable def zx (x:V)(xs:List V):Bool:=xs.any fun y=>sS y x
def AO (K:W.Frag)(neg:Bool):R2:=fun x y H Q=>∃ p xs,y=.ref p/\(dN K H p xs\/iG K H p xs)/\eA x=true/\xs.all eA=true/\Q (.bl (if neg then !zx x xs else zx x xs)) H
theorem iN:e9 X (compareOp .In) (AO X.K false):=by
 intro pins s σ H x y v u Q I rx ry h;obtain⟨p,xs,rfl,hq,fx,fs,q⟩:=h;cases ry;rcases hq with hq | hq
 . obtain⟨aB,r,pl,hz⟩:=I.list hq
   refine SeqAt.in_listAt (l5 x) pl.isList (fun w hw=>df rx fx r fs w (by simpa using hw)) ⟨.bl _,H,I,rfl,?_⟩;rw[show aB.toArray.any (l5 x)=aB.any (l5 x) by simp,eB r fs];exact q
 . obtain⟨aB,r,pl,hz⟩:=I.tuple hq
   refine SeqAt.in_tupleAt (l5 x) pl (fun w hw=>df rx fx r fs w (by simpa using hw)) ⟨.bl _,H,I,rfl,?_⟩;rw[show aB.toArray.any (l5 x)=aB.any (l5 x) by simp,eB r fs];exact q
theorem jo:e9 X (compareOp .NotIn) (AO X.K true):=by
 intro pins s σ H x y v u Q I rx ry h;obtain⟨p,xs,rfl,hq,fx,fs,q⟩:=h;cases ry;rcases hq with hq | hq
 . obtain⟨aB,r,pl,hz⟩:=I.list hq
   refine SeqAt.notIn_listAt (l5 x) pl.isList (fun w hw=>df rx fx r fs w (by simpa using hw)) ⟨.bl _,H,I,rfl,?_⟩;rw[show aB.toArray.any (l5 x)=aB.any (l5 x) by simp,eB r fs];exact q
 . obtain⟨aB,r,pl,hz⟩:=I.tuple hq
   refine SeqAt.notIn_tupleAt (l5 x) pl (fun w hw=>df rx fx r fs w (by simpa using hw)) ⟨.bl _,H,I,rfl,?_⟩;rw[show aB.toArray.any (l5 x)=aB.any (l5 x) by simp,eB r fs];exact q
theorem eC:fQ X (.builtin "len") (fun xs H Q=>∃ p ys,xs=[.ref p]/\(dN X.K H p ys\/iG X.K H p ys)/\Q (.int ys.length) H):=by
 intro pins s σ H xs us Q I r h;obtain⟨p,ys,rfl,hq,q⟩:=h;obtain⟨u,rfl,rx⟩:=vals1 r;cases rx;have hn:=fh;rcases hq with hq | hq
 . obtain⟨aB,r',pl,hz⟩:=I.list hq
   have hlen:=r'.length;exact Calls.call_len_list pl.isList (by simp only[Gm] <;> omega) ⟨.int ys.length,H,I.tok _,⟨s.toks+1,by rw[Gm,hlen]⟩,q⟩
 . obtain⟨aB,r',pl,hz⟩:=I.tuple hq
   have hlen:=r'.length;exact len_tuple pl (by simp only[Gm] <;> omega) ⟨.int ys.length,H,I.tok _,⟨s.toks+1,by rw[Gm,hlen]⟩,q⟩
theorem jq:fQ X (.builtin "len") (fun xs H Q=>∃ z,xs=[.str z]/\z.length<=sizeLine/\Q (.int z.length) H):=by
 intro pins s σ H xs us Q I r h;obtain⟨z,rfl,hz,q⟩:=h;obtain⟨u,rfl,t,rfl⟩:=vals1 r;have hn:=fh;exact len_str (by omega) ⟨.int z.length,H,I.tok _,⟨_,rfl⟩,q⟩
theorem jr:fQ X (.type "list") (fun xs H Q=>∃ p ys,xs=[.ref p]/\(dN X.K H p ys\/iG X.K H p ys)/\∀ l,H l=none->Q (.ref l) (upd H l (.lst ys))):=by
 intro pins s σ H xs us Q I r h;obtain⟨p,ys,rfl,hq,q⟩:=h;obtain⟨u,rfl,rx⟩:=vals1 r;cases rx;have fin:∀ (aB:List Value),Vals ys aB->ys.length<=sizeLine->∀ (h':Heap) (c':Nat),(∀ b o',s.heap.get? b=some o'->h'.get? b=some o') ->
     h'.get? s.heap.objs.size=some { cls:=.type "list",dict:=none,data:=.seq aB.toArray c',slots:=#[]}->EP X pins σ Q (.ref s.heap.objs.size) { s with heap:=h'}:=fun aB r' hz h' c' kp e=>
   ⟨.ref s.heap.objs.size,_,I.laid (t':=s.toks) kp (DU _) (show aD X.prog X.w _ h' _ (.lst ys) from⟨hz,aB,c',r',e⟩),rfl,q _ (I.aF.fresh (DU _))⟩
 rcases hq with hq | hq
 . obtain⟨aB,r',pl,hz⟩:=I.list hq
   have hlen:=r'.length;obtain⟨o,ho,hc,n,hd⟩:=pl.isList;exact call_list_seq p (.inl rfl) ho hc hd (fun h' c' kp e=>fin aB r' hz h' c' kp e) (by simp only[Gm] <;> omega)
 . obtain⟨aB,r',pl,hz⟩:=I.tuple hq
   have hlen:=r'.length;obtain⟨o,ho,hc,n,hd⟩:=pl;exact call_list_seq p (.inr rfl) ho hc hd (fun h' c' kp e=>fin aB r' hz h' c' kp e) (by simp only[Gm] <;> omega)
def CZ (K:W.Frag)(T:String)(x:V)(H:Hp):Prop:=match x with
 | .str _=>T="str"
 | .int _=>T="int"
 | .ref p=>(T="list"/\∃ xs,dN K H p xs)\/(T="tuple"/\∃ o,K.lookup p=some o/\o.cls=.type "tuple"/\o.dict=none) \/
     (T="dict"/\((∃ kvs,H p=some (.dK kvs))\/(∃ kvs,H p=some (.dT kvs))\/∃ tg o kvs,H p=some (.kd tg o kvs)))\/(T="set"/\∃ S n,H p=some (.set S n)) \/
     (T="list"/\∃ (a:Addr) (ls:ki) (ns:List Nat) (j:Nat) (f:Nat->List (Key×FD)) (N:Nat),H a=some (.eh ls ns)/\ls[j]?=some (p,f)/\ns[j]?=some N)
 | _=>False
theorem qp {pins:List (Addr×Obj)}{σ:St}{H:Hp}{s:Shared}{T:String}{x:V}{v:Value}(I:Inv X pins σ H s)(r:RelV x v)(ty:CZ X.K T x H):s.TypeIs v T/\∀ a,v=.ref a->∃ ob,s.heap.get? a=some ob/\ob.dict=none:=by
 cases x with
 | str z=>
   obtain⟨t,rfl⟩:=r;cases (show T="str" from ty);exact⟨typeIs_str s z t,fun _ e=>nomatch e⟩
 | int i=>
   obtain⟨t,rfl⟩:=r;cases (show T="int" from ty);exact⟨typeIs_int s i t,fun _ e=>nomatch e⟩
 | ref p=>
   cases r;rcases ty with⟨rfl,xs,hq⟩ | ⟨rfl,o,hk,hc,hd⟩ | ⟨rfl,hk⟩ | ⟨rfl,S,n,hk⟩ | ⟨rfl,a,ls,ns,j,f,N,h1,h2,h3⟩
   . obtain⟨aB,_,pl,_⟩:=I.list hq
     refine⟨pl.isList.typeIs,fun a e=>?_⟩;cases e;obtain⟨o,n,e,c,hd,_⟩:=pl;exact⟨o,e,hd⟩
   . refine⟨⟨o,I.cw p o hk,hc⟩,fun a e=>?_⟩
     cases e;exact⟨o,I.cw _ o hk,hd⟩
   . have z:∃ o,s.heap.get? p=some o/\o.ExactDict:=by
       rcases hk with⟨kvs,hk⟩ | ⟨kvs,hk⟩ | ⟨tg,ob,kvs,hk⟩
       . obtain⟨_,_,_,_,o,_,_,e,ex,_⟩:=I.aF p _ hk
         exact⟨o,e,ex⟩
       . obtain⟨_,_,_,_,o,_,_,e,ex,_⟩:=I.aF p _ hk
         exact⟨o,e,ex⟩
       . obtain⟨_,⟨_,_,_,_,o,_,_,e,ex,_⟩,_⟩:=I.aF p _ hk
         exact⟨o,e,ex⟩
     obtain⟨o,e,ex⟩:=z;refine⟨⟨o,e,ex.1⟩,fun a e2=>?_⟩;cases e2;exact⟨o,e,ex.2.1⟩
   . obtain⟨o,_,_,_,e,ex,_⟩:=I.aF p _ hk
     refine⟨⟨o,e,ex.1⟩,fun a e2=>?_⟩;cases e2;exact⟨o,e,ex.2.1⟩
   . obtain⟨_,_,_,_,_,_,h6⟩:=(show aD X.prog X.w H s.heap a (.eh ls ns) from I.aF a _ h1)
     obtain⟨aB,c,e1,e2,e3⟩:=h6 j p f N h2 h3;refine⟨⟨_,e1,rfl⟩,fun a' e4=>?_⟩;cases e4;exact⟨_,e1,rfl⟩
 | _=>exact False.elim ty
def DW (K:W.Frag)(T:String)(r:V->List V->Hp->VK->Prop)(to:TE)(t:TA):TE:=fun σ H Q=>to σ H fun x H1=>CZ K T x H1/\t σ H1 fun xs H2=>r x xs H2 Q
variable {o e:Expr}{es:List Expr}{to:TE}{t:TA}{name:Str}{apos aE:Pos}{T id:String}{r:V->List V->Hp->VK->Prop}
theorem vH (pa:PlainAttrs T)(slot:Slot T name id)(DX:typeOf (.builtin id)=pure (.type "method_descriptor"))(hm:CY X id r)(ho:PE X o to)(ha:PA X (e::es) t)
   (cF:autoParam (attributeBase o name X.env (eval o X.env)=eval o X.env) jp)
   (fo:autoParam (((backTo aE (starEach (e::es) X.env)).all (fun x=>!x.1) && (backToKw aE (keywordEach [] X.env)).all (fun x=>x.1.isSome)
     && decide ((e::es).length+([]:List Keyword).length+(if ([]:List Keyword).isEmpty then 0 else 1) < 30))=true) jp)
   (cG:autoParam ((apos.endLine == aE.line)=true) jp) (hs:autoParam (starEach (e::es) X.env=(false,eval e X.env)::starEach es X.env) jp) (wW:autoParam ((backTo aE (starEach es X.env)).any (·.1)=false) jp) :
   PE X (.Call (.Attribute o name apos) (e::es) [] aE) (DW X.K T r to t):=by
 intro pins s σ H Q I h;refine wpAny_Call_method_late cF fo cG rfl (aS (ho pins s σ H _ I h) fun v s1 zq=>?_);obtain⟨x,H1,I1,r1,ty,q1⟩:=zq;obtain⟨h1,h2⟩:=qp I1 r1 ty;refine⟨T,id,pa,slot,DX,h1,h2,?_⟩;have hA:=ha aE pins s1 σ H1 _ I1 q1;rw[hs] at hA ⊢;refine Calls.callWith_builtin (by show(false || (backTo aE (starEach es X.env)).any (·.1))=false;rw[wW] <;> rfl) (Calls.evalArgs_plain ?_);exact aS hA fun us s2 ⟨vs,H2,I2,r2,q2⟩=>hm pins s2 σ H2 x vs v us Q I2 r1 r2 q2
end
def DY (X:Cx)(id:String)(r:V->List V->Hp->VK->Prop):Prop:=
 ∀ (pins:List (Addr×Obj)) (s:Shared) (σ:St) (H:Hp) (x:V) (xs:List V) (v:Value) (us:List Value) (Q:VK),Inv X pins σ H s->RelV x v->Vals xs us->r x xs H Q ->
   wpAny (model X.prog X.w) X.A (call (.builtin id) (v::us)) (EP X pins σ Q) X.xe s
theorem Vals.one:∀ {x:V} {us:List Value},Vals [x] us->∃ u,us=[u]/\RelV x u
 | _,_,.cons r .nil=>⟨_,rfl,r⟩
section
variable {X:Cx}{pins:List (Addr×Obj)}{σ:St}{H:Hp}{s:Shared}{l:Addr}{xs ys:List V}
theorem Inv.BC {aB its':List Value}{n:Nat}{f:Array Value->Array Value}{t':Nat}(I:Inv X pins σ H s)(hH:H l=some (.lst xs))(e:s.heap.get? l=some { cls:=.type "list",data:=.seq aB.toArray n})(hf:f aB.toArray=its'.toArray)(hv:Vals ys its')(hz:ys.length<=sizeLine):Inv X pins σ (upd H l (.lst ys)) { s with heap:=s.heap.update l (Obj.mapSeq f),toks:=t'}:=by
 have q:=PySem.IsL.update e f;rw[hf] at q;refine I.write (x:=l) (e:=l) (by rw[hH];exact trivial) (.inl rfl) (fun b' u hb hu=>(Heap.get?_update_other s.heap (Obj.mapSeq f) (Ne.symm hb)).trans hu) ⟨_,q⟩ ?_;exact⟨hz,its',_,hv,q⟩
theorem Inv.BD (I:Inv X pins σ H s)(hH:H l=some (.lst xs)):xs.length<=sizeLine/\∃ (aB:List Value) (n:Nat),Vals xs aB/\xs.length=aB.length/\s.heap.get? l=some { cls:=.type "list",data:=.seq aB.toArray n}:=by
 obtain⟨z,aB,n,r,e⟩:=I.aF l _ hH;exact⟨z,aB,n,r,r.length,e⟩
end
section
variable {X:Cx}
def tR:V->List V->Hp->VK->Prop:=fun x vs H Q=>∃ l xs y,x=.ref l/\vs=[y]/\H l=some (.lst xs)/\xs.length < sizeLine/\Q .a7 (upd H l (.lst (xs ++ [y])))
theorem iO:DY X "list.append" tR:=by
 intro pins s σ H x vs v us Q I rx rv h;obtain⟨l,xs,y,rfl,rfl,hH,hz,q⟩:=h;cases rx;obtain⟨u,rfl,ru⟩:=rv.one;obtain⟨z,aB,n,r,hl,e⟩:=I.BD hH;refine call_meets F.slot_list_append ⟨_,e,rfl⟩ F.entry_list_append (F.args_list_append_2 _ _) (PySem.list_append l aB.toArray n u (by rw[Gm];omega)) ⟨e,?_⟩;refine⟨.a7,_,I.BC (its':=aB ++ [u]) hH e (by simp) (r.append (.cons ru .nil)) ?_,rfl,q⟩;rw[Gn,List.length_singleton];omega
end
section
variable {κ:Type}[DecidableEq κ]
noncomputable def dZ (kvs:List (κ×V))(k:κ):Option V:=(kvs.find? fun kv=>decide (kv.1=k)).map (·.2)
noncomputable def putK (kvs:List (κ×V))(k:κ)(v:V):List (κ×V):=
 if (kvs.any fun kv=>decide (kv.1=k))=true then kvs.map (fun kv=>if kv.1=k then (kv.1,v) else kv) else kvs ++ [(k,v)]
theorem dg {p:κ×V}{r:List (κ×V)}{k:κ}(e:p.1=k):dZ (p::r) k=some p.2:=by simp[dZ,GD,e]
theorem dh {p:κ×V}{r:List (κ×V)}{k:κ}(e:¬ p.1=k):dZ (p::r) k=dZ r k:=by simp[dZ,GD,e]
theorem eD (k:κ):∀ kvs:List (κ×V),(kvs.any fun kv=>decide (kv.1=k))=(dZ kvs k).isSome
 | []=>rfl
 | p::r=>by
   rw[G7];by_cases e:p.1=k
   . simp only[dg e,decide_eq_true e,Bool.true_or,Option.isSome_some]
   . rw[dh e,decide_eq_false e,Bool.false_or];exact eD k r
theorem fS (kvs:List (κ×V))(k:κ)(v:V):(putK kvs k v).length<=kvs.length+1:=by
 unfold putK
 split
 . rw[Bn];omega
 . rw[Gn,GH,List.length_nil];omega
theorem dJ.fq {o:Option V}{u:Option Value}(r:dJ o u):o.isSome=u.isSome:=by
 cases o with
 | none=>cases u with
   | none=>rfl
   | some _=>exact(show False from r).elim
 | some _=>cases u with
   | none=>exact(show False from r).elim
   | some _=>rfl
theorem KV.val {kvs:List (κ×V)}{vs:List (κ×Value)}(r:KV kvs vs)(k:κ):dJ (dZ kvs k) (valueAt vs k):=by
 unfold KV at r
 induction r with
 | nil=>exact True.intro
 | @cons p q ps qs h t ih=>
   obtain⟨h1,h2⟩:=h;by_cases e:p.1=k
   . have e':q.1=k:=h1.symm.trans e
     have b:valueAt (q::qs) k=some q.2:=by simp[valueAt,GD,e']
     rw[dg e,b];exact h2
   . have e':¬ q.1=k:=fun z=>e (h1.trans z)
     have b:valueAt (q::qs) k=valueAt qs k:=by simp[valueAt,GD,e']
     rw[dh e,b];exact ih
theorem KV.any {kvs:List (κ×V)}{vs:List (κ×Value)}(r:KV kvs vs)(k:κ):(kvs.any fun kv=>decide (kv.1=k))=vs.any fun kv=>decide (kv.1=k):=by
 unfold KV at r
 induction r with
 | nil=>rfl
 | cons h t ih=>rw[G7,G7,ih,h.1]
theorem KV.wX {kvs:List (κ×V)}{vs:List (κ×Value)}(r:KV kvs vs)(k:κ){y:V}{u:Value}(ry:RelV y u):KV (kvs.map fun kv=>if kv.1=k then (kv.1,y) else kv) (vs.map fun kv=>if kv.1=k then (kv.1,u) else kv):=by
 unfold KV at r ⊢
 induction r with
 | nil=>exact .nil
 | @cons p q ps qs h t ih=>
   rw[Gs,Gs];refine .cons ?_ ih;obtain⟨h1,h2⟩:=h;by_cases e:p.1=k
   . rw[if_pos e,if_pos (h1.symm.trans e)];exact⟨h1,ry⟩
   . rw[if_neg e,if_neg (fun z=>e (h1.trans z))];exact⟨h1,h2⟩
theorem KV.put {kvs:List (κ×V)}{vs:List (κ×Value)}(r:KV kvs vs)(k:κ){y:V}{u:Value}(ry:RelV y u):KV (putK kvs k y) (stored vs k u):=by
 unfold putK stored;rw[r.any k];by_cases e:(vs.any fun kv=>decide (kv.1=k))=true
 . rw[if_pos e,if_pos e];exact r.wX k ry
 . rw[if_neg e,if_neg e];exact Paired.snoc r ⟨rfl,ry⟩
theorem KV.length {kvs:List (κ×V)}{vs:List (κ×Value)}(r:KV kvs vs):kvs.length=vs.length:=Paired.length r
end
theorem nc {P:Program}{w:World}{k:Key}{u:Value}(r:RelV (kV k) u):(bb P w).is k u=true:=by
 cases k with
 | inl i=>obtain⟨t,e⟩:=(show ∃ t,u=Value.int i t from r);subst e;exact km P w i t
 | inr x=>obtain⟨t,e⟩:=(show ∃ t,u=Value.str x t from r);subst e;exact ko P w x t
theorem iP {P:Program}{w:World}:∀ {ks:List Key} {us:List Value},Vals (ks.map kV) us->ItemsAre (bb P w) ks us
 | [],_,r=>by rw[List.map_nil] at r;cases r;exact .nil
 | k::ks,_,r=>by
   rw[Gs] at r;cases r with
   | cons h t=>exact .cons (nc h) (iP t)
abbrev KT (H:Hp):List (List Key×V)->List (List Key×Addr×Value)->Prop:=Paired fun p q=>p.1=q.1/\H q.2.1=some (.tup (p.1.map kV))/\RelV p.2 q.2.2
theorem KT.val {H:Hp}{kvs:List (List Key×V)}{xs:List (List Key×Addr×Value)}(r:KT H kvs xs)(k:List Key):dJ (dZ kvs k) ((atKey xs k).map (·.2)):=by
 induction r with
 | nil=>exact True.intro
 | @cons p q ps qs h t ih=>
   obtain⟨h1,_,h2⟩:=h;by_cases e:p.1=k
   . have e':q.1=k:=h1.symm.trans e
     have b:atKey (q::qs) k=some q.2:=by simp[atKey,GD,e']
     rw[dg e,b];exact h2
   . have e':¬ q.1=k:=fun z=>e (h1.trans z)
     have b:atKey (q::qs) k=atKey qs k:=by simp[atKey,GD,e']
     rw[dh e,b];exact ih
theorem KT.wX {H:Hp}{kvs:List (List Key×V)}{xs:List (List Key×Addr×Value)}(r:KT H kvs xs)(k:List Key){y:V}{u:Value}(ry:RelV y u):KT H (kvs.map fun kv=>if kv.1=k then (kv.1,y) else kv) (xs.map (putAt k u)):=by
 induction r with
 | nil=>exact .nil
 | @cons p q ps qs h t ih=>
   rw[Gs,Gs];refine .cons ?_ ih;obtain⟨h1,h2,h3⟩:=h;unfold putAt;by_cases e:p.1=k
   . rw[if_pos e,if_pos (h1.symm.trans e)];exact⟨h1,h2,ry⟩
   . rw[if_neg e,if_neg (fun z=>e (h1.trans z))];exact⟨h1,h2,h3⟩
theorem KT.put {H:Hp}{kvs:List (List Key×V)}{xs:List (List Key×Addr×Value)}(r:KT H kvs xs)(k:List Key){b:Addr}{y:V}{u:Value}(hb:H b=some (.tup (k.map kV)))(ry:RelV y u):KT H (putK kvs k y) (storedH xs k b u):=by
 have e:(kvs.any fun kv=>decide (kv.1=k))=(atKey xs k).isSome:=by
   rw[eD,(r.val k).fq,Option.isSome_map]
 unfold putK storedH;rw[e];by_cases q:(atKey xs k).isSome=true
 . rw[if_pos q,if_pos q];exact r.wX k ry
 . rw[if_neg q,if_neg q];exact Paired.snoc r ⟨rfl,hb,ry⟩
theorem KT.keeps {H H':Hp}{kvs:List (List Key×V)}{xs:List (List Key×Addr×Value)}(r:KT H kvs xs)(ht:∀ b ys,H b=some (.tup ys)->H' b=some (.tup ys)):KT H' kvs xs:=
 Paired.v3 r fun _ _ z=>⟨z.1,ht _ _ z.2.1,z.2.2⟩
section
variable {P:Program}{w:World}{H:Hp}{h:Heap}{a:Addr}
theorem vI {u:HO}(ok:dv P w H h)(e:Rd H a u):aD P w H h a u:=e.ok ok
theorem iQ {kvs:List (Key×V)}(ok:dv P w H h)(e:Rd H a (.dK kvs)):kvs.length<=sizeLine/\(a == sysModules)=false/\∃ vs,KV kvs vs/\h.DictOf (bb P w) a vs:=
 show aD P w H h a (.dK kvs) from vI ok e
theorem zy {kvs:List (Key×V)}(ok:dv P w H h)(e:H a=some (.dK kvs)):kvs.length<=sizeLine/\(a == sysModules)=false/\∃ vs,KV kvs vs/\h.DictOf (bb P w) a vs:=iQ ok (.inl e)
theorem js {ks:List Key}(ok:dv P w H h)(e:H a=some (.tup (ks.map kV))):(tupleKind (bb P w)).is h ks a:=by
 obtain⟨_,aB,r,o,h1,h2,n,h3⟩:=(show aD P w H h a (.tup (ks.map kV)) from ok a _ e)
 exact⟨o,aB.toArray,n,h1,h2,h3,by simpa using iP r⟩
theorem ng {kvs:List (List Key×V)}(ok:dv P w H h)(e:Rd H a (.dT kvs)):kvs.length<=sizeLine/\(a == sysModules)=false/\∃ xs,KT H kvs xs/\h.DictOfH (tupleKind (bb P w)) a xs:=by
 obtain⟨z,y,xs,r,o,es,ep,h1,h2,h3,h4,h5⟩:=(show aD P w H h a (.dT kvs) from vI ok e)
 refine⟨z,y,xs,r,o,es,ep,h1,h2,h3,h4,fun x hx=>?_,h5⟩;have all:∀ {l:List (List Key×V)} {m:List (List Key×Addr×Value)},KT H l m->∀ x∈m,(tupleKind (bb P w)).is h x.1 x.2.1:=by
   intro l m q
   induction q with
   | nil=>intro x hx;exact nomatch hx
   | @cons p q ps qs hq t ih=>
     intro x hx;rcases Gy.mp hx with e | hx
     . subst e
       exact js ok (by rw[<- hq.1];exact hq.2.1)
     . exact ih x hx
 exact all r x hx
theorem zz {kvs:List (List Key×V)}(ok:dv P w H h)(e:H a=some (.dT kvs)):kvs.length<=sizeLine/\(a == sysModules)=false/\∃ xs,KT H kvs xs/\h.DictOfH (tupleKind (bb P w)) a xs:=ng ok (.inl e)
end
def gO (H:Hp)(a:Addr)(y:V)(r:Option V):Prop:=
 (∃ kvs k,Rd H a (.dK kvs)/\y=kV k/\r=dZ kvs k)\/∃ kvs k b,Rd H a (.dT kvs)/\y=.ref b/\H b=some (.tup (k.map kV))/\r=dZ kvs k
def oy (H:Hp)(a:Addr)(y v:V)(H':Hp):Prop:=
 (∃ kvs k,H a=some (.dK kvs)/\y=kV k/\kvs.length < sizeLine/\H'=upd H a (.dK (putK kvs k v))) \/
 ∃ kvs k b,H a=some (.dT kvs)/\y=.ref b/\H b=some (.tup (k.map kV))/\kvs.length < sizeLine/\H'=upd H a (.dT (putK kvs k v))
theorem gO.k {H:Hp}{a:Addr}{kvs:List (Key×V)}{k:Key}(e:H a=some (.dK kvs)):gO H a (kV k) (dZ kvs k):=.inl ⟨kvs,k,.inl e,rfl,rfl⟩
theorem oy.k {H:Hp}{a:Addr}{kvs:List (Key×V)}{k:Key}{v:V}(e:H a=some (.dK kvs))(hl:kvs.length < sizeLine):oy H a (kV k) v (upd H a (.dK (putK kvs k v))):=.inl ⟨kvs,k,e,rfl,hl,rfl⟩
section
variable {X:Cx}{pins:List (Addr×Obj)}{σ:St}{H:Hp}{s:Shared}{a:Addr}{y v:V}{u r:Value}{o:Option V}{A:Around}{E:Value->Shared->Prop}
theorem Inv.big (I:Inv X pins σ H s):sysModules < s.heap.objs.size:=by
 have h:mainGlobals < s.heap.objs.size:=(I.mod.glob.keeps I.bk).lt;exact Nat.lt_trans (by decide) h
theorem oA {Q:Value->Shared->Prop}(hu:A.units+1 < cLine)(I:Inv X pins σ H s)(g:gO H a y (some v))(ry:RelV y u)(h:∀ w' s',Inv X pins σ H s'->RelV v w'->Q w' s'):wpAny (model X.prog X.w) A (getItem (.ref a) u) Q E s:=by
 rcases g with⟨kvs,k,e,ey,l⟩ | ⟨kvs,k,b,e,ey,eb,l⟩
 . subst ey
   obtain⟨z,hd,vs,rel,dd⟩:=iQ I.aF e;obtain⟨w',hw,tQ⟩:=dJ.some_of (v:=v) (o:=valueAt vs k) (by rw[l];exact rel.val k);exact wpAny_getItem_of (nc ry) dd.mapOf hw (h w' _ (I.tok _) tQ)
 . subst ey
   cases (show u=Value.ref b from ry);obtain⟨z,hd,xs,rel,dd⟩:=ng I.aF e;obtain⟨w',hw,tQ⟩:=dJ.some_of (v:=v) (o:=(atKey xs k).map (·.2)) (by rw[l];exact rel.val k);obtain⟨p,hp,BE⟩:=Option.map_eq_some_iff.mp hw;refine wpAny_getItem_heap (tupleKind_room_in1 hu) (js I.aF eb) dd hp ?_;rw[BE];exact h w' _ (I.tok _) tQ
theorem tS {Q:Value->Shared->Prop}(hu:A.units+1 < cLine)(I:Inv X pins σ H s)(g:gO H a y o)(ry:RelV y u)(h:∀ s',Inv X pins σ H s'->Q (.bool (!o.isSome)) s'):wpAny (model X.prog X.w) A (compareOp .NotIn u (.ref a)) Q E s:=by
 rcases g with⟨kvs,k,e,ey,l⟩ | ⟨kvs,k,b,e,ey,eb,l⟩
 . subst ey
   obtain⟨z,hd,vs,rel,dd⟩:=iQ I.aF e;refine wpAny_notIn_of (nc ry) hd dd.mapOf ?_;rw[<- (rel.val k).fq,<- l];exact h _ (I.tok _)
 . subst ey
   cases (show u=Value.ref b from ry);obtain⟨z,hd,xs,rel,dd⟩:=ng I.aF e;refine wpAny_notIn_heap (tupleKind_room_in1 hu) (js I.aF eb) hd dd ?_;have q:=(rel.val k).fq;rw[Option.isSome_map] at q;rw[<- q,<- l];exact h _ (I.tok _)
theorem jt {h':Heap}{t':Nat}{ob:HO}(I:Inv X pins σ H s)(mu:yI (H a))(hs:Heap.SameBut a s.heap h')(he:∃ q,h'.get? a=some q)(new:aD X.prog X.w (upd H a ob) h' a ob):Inv X pins σ (upd H a ob) { s with heap:=h',toks:=t'}:=
 I.write (x:=a) (e:=a) mu (.inl rfl) (fun b q hb z=>(hs.2 b hb).trans z) he new
theorem wY {P:Program}{w:World}{H':Hp}{h':Heap}{kvs:List (Key×V)}{vs:List (Key×Value)}(z:kvs.length<=sizeLine)(hd:(a == sysModules)=false)(rel:KV kvs vs)(dd:h'.DictOf (bb P w) a vs):aD P w H' h' a (.dK kvs):=⟨z,hd,vs,rel,dd⟩
theorem oB {H':Hp}{Q:Unit->Shared->Prop}(hu:A.units+1 < cLine)(I:Inv X pins σ H s)(g:oy H a y v H')(ry:RelV y u)(rv:RelV v r)(h:∀ s',Inv X pins σ H' s'->Q () s'):wpAny (model X.prog X.w) A (setItem (.ref a) u r) Q E s:=by
 rcases g with⟨kvs,k,e,ey,l,eH⟩ | ⟨kvs,k,b,e,ey,eb,l,eH⟩
 . subst ey eH
   obtain⟨z,hd,vs,rel,dd⟩:=zy I.aF e;have hz:vs.length<=sizeLine:=by rw[<- rel.length];exact z
   have hl:(putK kvs k v).length<=sizeLine:=by have:=fS kvs k v;omega
   refine wpAny_setItem_pairs (hsz:=hz) (nc ry) dd fun h' AQ hs=>h _ ?_
   have he:∃ q,h'.get? a=some q:=let ⟨q,_,_,hq,_⟩:=AQ;⟨q,hq⟩;exact jt I (by rw[e];exact True.intro) hs he (wY hl hd (rel.put k rv) AQ)
 . subst ey eH
   cases (show u=Value.ref b from ry);obtain⟨z,hd,xs,rel,dd⟩:=zz I.aF e;have hz:xs.length<=sizeLine:=by rw[<- Paired.length rel];exact z
   have hl:(putK kvs k v).length<=sizeLine:=by have:=fS kvs k v;omega
   refine wpAny_setItem_heap (hsz:=hz) (tupleKind_room_in1 hu) (js I.aF eb) dd fun h' AQ hs=>h _ ?_
   obtain⟨q,es,ep,hq,h2,h3,h4,_,h5⟩:=AQ;refine jt I (by rw[e];exact True.intro) hs ⟨q,hq⟩ ⟨hl,hd,_,(rel.put k eb rv).keeps fun c ys ec=>?_,q,es,ep,hq,h2,h3,h4,h5⟩;rw[ah (yU ec e (fun z=>nomatch z))];exact ec
end
def wZ (i:Expr):Prop:=∀ ov iv,subscripted i false ov iv=operate [ov,iv] (getItem ov iv)
theorem tT {prog:Program}{w:World}{A:Around}{E:Value->Shared->Prop}{s:Shared}{env:Env}{value slice:Expr}{pos:Pos}{T id:String}{Q:Value->Shared->Prop}(hl:typeLookup (.type T) "__getitem__"=pure (some (.builtin id)))(hs:wZ slice)(h:wpAny (model prog w) A (eval value env) (fun o s₁=>wpAny (model prog w) A (eval slice env) (fun i s₂=>s₂.TypeIs o T/\wpAny (model prog w) A (getItem o i) Q E s₂) E s₁) E s):wpAny (model prog w) A (eval (.Subscript value slice pos) env) Q E s:=by
 refine Subscript_ (wpAny_mono h (fun o s₁ h₁=>wpAny_mono h₁ (fun i s₂ h₂=>?_) fun _ _ x=>x) fun _ _ x=>x);obtain⟨hT,h₂⟩:=h₂;unfold subscriptTail;refine wpAny_bind ?_;rw[getitemInPython_of_ne hT.not_modules];refine wpAny_bind (wpAny_specialOf hT hl ?_);have fin:wpAny (model prog w) A (subscripted slice false o i) (fun r s₃=>wpAny (model prog w) A (letTemporaryGo value o r >>= fun _=>pure r) Q E s₃) E s₂:=by
   rw[hs o i];exact wpAny_operating (wpAny_mono h₂ (fun r s₃ h₃=>wpAny_bind (wpAny_letTemporaryGo (wpAny_pure h₃))) fun _ _ x=>x)
 first
   | exact wpAny_pure (wpAny_bind fin)
   | exact wpAny_bind (wpAny_pure (wpAny_bind fin))
   | exact wpAny_bind fin
theorem kH {X:Cx}{pins:List (Addr×Obj)}{σ:St}{H:Hp}{s:Shared}{a:Addr}{y:V}{o:Option V}(I:Inv X pins σ H s)(g:gO H a y o):s.TypeIs (.ref a) "dict":=by
 rcases g with⟨kvs,k,e,_,_⟩ | ⟨kvs,k,b,e,_,_,_⟩
 . obtain⟨_,_,vs,_,dd⟩:=iQ I.aF e
   exact dd.typeIs
 . obtain⟨_,_,xs,_,dd⟩:=ng I.aF e
   exact dd.typeIs
def zA (td ty:TE):TE:=fun σ H Q=>td σ H fun x H1=>ty σ H1 fun y H2=>∃ a v,x=.ref a/\gO H2 a y (some v)/\Q v H2
def BF (ty td:TE):TE:=fun σ H Q=>ty σ H fun y H1=>td σ H1 fun x H2=>∃ a o,x=.ref a/\gO H2 a y o/\Q (.bl o.isSome) H2
def nh (ty td:TE):TE:=fun σ H Q=>ty σ H fun y H1=>td σ H1 fun x H2=>∃ a o,x=.ref a/\gO H2 a y o/\Q (.bl (!o.isSome)) H2
def zB (td ty tv:TE):TS:=fun D σ H=>tv σ H fun v H1=>td σ H1 fun x H2=>ty σ H2 fun y H3=>∃ a H4,x=.ref a/\oy H3 a y v H4/\D.nx σ H4
section
variable {X:Cx}{o i value:Expr}{pos pos':Pos}{td ty tv:TE}
theorem tU (hu:X.A.units+1 < cLine)(ho:PE X o td)(hi:PE X i ty)(hs:wZ i):PE X (.Subscript o i pos) (zA td ty):=by
 intro pins s σ H Q I h;refine tT PySem.F.slot_dict_getitem.lookup hs (aS (ho pins s σ H _ I h) fun u s1 ⟨x,H1,I1,rx,q1⟩=>aS (hi pins s1 σ H1 _ I1 q1) fun iv s2 zq=>?_);obtain⟨y,H2,I2,ry,a,v,ex,g,q2⟩:=zq;subst ex;obtain rfl:u=Value.ref a:=rx;exact⟨kH I2 g,oA hu I2 g ry fun w' s3 I3 tQ=>⟨v,H2,I3,tQ,q2⟩⟩
theorem oC (hu:X.A.units+1 < cLine)(hi:PE X i ty)(ho:PE X o td):PC X .NotIn i o (nh ty td):=by
 intro pins s σ H Q I h;refine aS (hi pins s σ H _ I h) fun iv s1 ⟨y,H1,I1,ry,q1⟩=>aS (ho pins s1 σ H1 _ I1 q1) fun u s2 zq=>?_;obtain⟨x,H2,I2,rx,a,ov,ex,g,q2⟩:=zq
 subst ex;obtain rfl:u=Value.ref a:=rx;exact tS hu I2 g ry fun s3 I3=>⟨.bl (!ov.isSome),H2,I3,rfl,q2⟩
theorem ni (hu:X.A.units+1 < cLine)(ho:PE X o td)(hi:PE X i ty)(hv:PE X value tv)(hs:swapsWith value (some (.Subscript o i pos')) pos.line X.env=pure false):PS X (.Assign [.Subscript o i pos'] value pos) (zB td ty tv):=by
 intro pins s σ H D I h;refine wpAny_Assign_Subscript (aS (hv pins s σ H _ I h) fun r s1 ⟨v,H1,I1,rv,q1⟩=>aS (ho pins s1 σ H1 _ I1 q1) fun u s2 ⟨x,H2,I2,rx,q2⟩=>aS (hi pins s2 σ H2 _ I2 q2) fun iv s3 zq=>?_) hs;obtain⟨y,H3,I3,ry,a,H4,ex,g,q3⟩:=zq;subst ex;obtain rfl:u=Value.ref a:=rx;exact oB hu I3 g ry rv fun s4 I4=>⟨σ,H4,I4,q3⟩
end
theorem qr {P:Program}{w:World}{H:Hp}(h:Heap)(hb:sysModules < h.objs.size):aD P w H (h.push { cls:=.type "dict",data:=.dict #[]}) h.objs.size (.dK []):=
 ⟨GO _,beq_eq_false_iff_ne.mpr (Ne.symm (Gd hb)),[],.nil,Heap.DictOf.new h⟩
def w4:TE:=fun _ H Q=>∀ p,H p=none->Q (.ref p) (upd H p (.dK []))
section
variable {X:Cx}{pos:Pos}
theorem kI:PE X (.Dict [] [] pos) w4:=fun pins s σ H Q I h=>
 wpAny_Dict_empty ⟨.ref s.heap.objs.size,_,I.laid (a:=s.heap.objs.size) (o:=.dK []) (t':=s.toks) (fun _ _ q=>F0 _ q) (DU _) (qr s.heap I.big),rfl,h _ (I.aF.fresh (DU _))⟩
end
structure M1 (X:Cx)(o:Expr)(m:Str)(apos:Pos)(e:Expr)(aE:Pos):Prop where
 base:attributeBase o m X.env (eval o X.env)=eval o X.env
 DZ:((backTo aE (starEach [e] X.env)).all (fun x=>!x.1) && (backToKw aE (keywordEach [] X.env)).all (fun x=>x.1.isSome)
   && decide (([e]:List Expr).length+([]:List Keyword).length+(if ([]:List Keyword).isEmpty then 0 else 1) < 30))=true
 line:(apos.endLine == aE.line)=true
 trees:backTo aE (starEach [e] X.env)=[(false,eval e X.env)]
structure M2 (X:Cx)(o:Expr)(m:Str)(apos:Pos)(e f:Expr)(aE:Pos):Prop where
 base:attributeBase o m X.env (eval o X.env)=eval o X.env
 DZ:((backTo aE (starEach [e,f] X.env)).all (fun x=>!x.1) && (backToKw aE (keywordEach [] X.env)).all (fun x=>x.1.isSome)
   && decide (([e,f]:List Expr).length+([]:List Keyword).length+(if ([]:List Keyword).isEmpty then 0 else 1) < 30))=true
 line:(apos.endLine == aE.line)=true
 trees:backTo aE (starEach [e,f] X.env)=[(false,eval e X.env),(false,eval f X.env)]
end L2
namespace Att
open PySem PySem.W PySem.Calls PyProof.Rows
theorem f7 {P:Params}{h:Heap}:∀ (ns:List Int) (vs:List Value),WellAll P h vs (ns.map WData.int)->IntsAre vs ns:=by
 intro ns
 induction ns with
 | nil=>
   intro vs w;rw[List.map_nil] at w;cases w;exact .nil
 | cons n ns ih=>
   intro vs w;rw[Gs] at w;cases w with
   | cons a b=>
     cases a;exact .cons _ _ (ih _ b)
theorem oE {l:OpenLaw}{n:Nat}(hn:l.most=some n){P:Params}{h:Heap}{args:List WData}{vals:List Value}(oF:l.row.toRowW.claim.pre args=true)(sT:WellAll P h vals args):∃ a vs ns,vals=[Value.ref a]/\args=[WData.list (ns.map WData.int)]/\h.get? a=some { cls:=.type "list",data:=.seq vs.toArray}/\IntsAre vs ns/\ns.length<=n:=by
 have D1:WShape.hasAll [] args [.list .int]=true:=(pre_splitW oF).1;have hc:l.pre.holds [] { args:=args}=true:=(pre_splitW oF).2;obtain⟨d,r,rfl,h1,h2⟩:=hasAllW_cons D1;obtain rfl:=hasAllW_nil h2;obtain⟨xs,rfl,h3⟩:=hasW_list h1;obtain⟨ns,rfl⟩:=items_int h3;have hlen:ns.length<=n:=by
   unfold OpenLaw.pre at hc;have h4:(WTm.not (.lt (.lit (.int (n:Int))) (.len (.arg 0)))).holds [] { args:=[.list (ns.map .int)]}=true:=by
     have h4:=(holds_andW hc).1;rw[hn] at h4;exact h4
   have h5:=condW_of h4 (w_not (w_lt w_lit (w_len_list (w_arg rfl))));rw[Bn] at h5;refine Hh fun q=>?_
   have q':(n:Int) < ((ns.length:Nat):Int):=by omega
   first
     | (rw[decide_eq_true q'] at h5;exact absurd h5 (by decide))
     | (simp at h5;omega)
 cases sT with
 | cons w1 w2=>
   cases w2;cases w1 with
   | list ho BG=>exact⟨_,_,ns,rfl,rfl,ho,f7 ns _ BG,hlen⟩
theorem oG (l:OpenLaw)(args:List WData):l.row.toRowW.claim.post args (.bool true) args=true:=
 postW_of (r:=l.row.toRowW) (X:=(true == true))
   (show WShape.has [] (.bool true) .bool=true by first | rfl | decide | simp[WShape.has,WShape.arms,WShape.armsAll])
   (show(WTm.eq .res (.lit (.bool true))).value [] { args:=args,res:=some (.bool true),after:=args}=some (.bool (true == true)) from w_eq_bool (w_res rfl) w_lit) rfl
theorem kJ {l:OpenLaw}{n:Nat}{q:Program}{loose:List Str}{XP:(Str->Option Value)->Heap->Prop}{YP:World->Heap->Prop}{d:DefRec}(hn:l.most=some n)(w6:d.params.defaults=[])(call:∀ (w:World) (s₀ s₁:Shared) (mg mb:Str->Option Value) (fa:Addr) (o:Obj) (pm cd doc:Value) (a:Addr) (vs:List Value) (ns:List Int),Ground q loose [] XP w s₀ mg mb s₁.heap->YP w s₁.heap->s₁.heap.get? fa=some o->o.data=.func (docDef d.name d.params d.body d.scope pm cd doc)->s₁.heap.CodeRec cd d.name->mg d.name=some (.ref fa)->s₁.heap.get? a=some { cls:=.type "list",data:=.seq vs.toArray}->IntsAre vs ns->ns.length<=n->s₁.gens=#[]->codeAny (model l.prog w) callerA (.call (.ref fa) ⟨[.ref a],[]⟩) (fun r s'=>r=.ok (.ret (.bool true))/\OldK s₁.heap s'.heap/\s'.os=s₁.os/\AllBare s'.gens) s₁):WalkO q loose XP YP l.row.toRowW d [] (fun f vs=>PySem.call f vs):=by
 intro w s₀ s₁ mg mb G Y fa o pm cd doc dV kV ho hd ee hD zC hg args vals as oF D2 FL sT FN;obtain rfl:dV=.none:=Dflts.none hD w6;obtain rfl:kV=.none:=Dflts.noKw hD;obtain⟨a,vs,ns,rfl,rfl,xa,hints,hlen⟩:=oE hn oF sT;refine enter_call (codeAny_mono (call w s₀ s₁ mg mb fa o pm cd doc a vs ns G Y ho (fd_plain hd) ee zC xa hints hlen hg) fun r s' hq=>?_);obtain⟨rfl,h2,h3,h4⟩:=hq;exact⟨.inl ⟨.bool true,.bool true,[],rfl,fun _=>rfl,.bool true,oG l _,fun _=>⟨List.Pairwise.nil,fun _ hm=>(nomatch hm)⟩⟩,h2,h3,h4⟩
end Att
namespace L2
open PySem PySem.Spec PyProof.Rows
theorem dy:∀ {vs:List Value} {ns:List Int},IntsAre vs ns->Vals (ns.map V.int) vs
 | _,_,.nil=>.nil
 | _,_,.cons n t h=>.cons ⟨t,rfl⟩ (dy h)
def tV (H:Hp):Prop:=∀ b,H b=none\/∃ o xs,H b=some (.a6 o (.lst xs))
theorem qt {P:Program}{w:World}{K:W.Frag}{mg mb:Str->Option Value}{CX:cW}{k:Nat}{fa a:Addr}{fd:FuncData}{x:Str}{sp:Sp}{s₁:Shared}{vs:List Value}{ns:List Int}(KX:K.In s₁.heap)(vJ:s₁.heap.Ns mainGlobals mg)(hb:s₁.heap.Ns builtinsNs mb)(D3:∀ x:Str,x≠"__name__"->mb x=bootBuiltins x)(BH:s₁.heap.NoLimit)(hg:s₁.gens=#[])(ha:s₁.heap.get? a=some { cls:=.type "list",data:=.seq vs.toArray})(hi:IntsAre vs ns)(hl:ns.length<=sizeLine)(hr:aV k callerA)(F:∀ base:Heap,K.In base->base.Ns mainGlobals mg->cz P w K mg base CX k fa fd [x] sp)(zD:∀ (s:Shared) (u:Value),BindsTo s fd ⟨[u],[]⟩ [(x,u)])(qk:∀ H:Hp,tV H->dN K H a (ns.map V.int)->sp [.ref a] H (fun v _=>v=.bl true) fun _ _ _=>False)(zE:∀ H e s',CX [] H s₁ (fun _ _ _=>False) e s'->False):codeAny (model P w) callerA (.call (.ref fa) ⟨[.ref a],[]⟩) (fun r s'=>r=.ok (.ret (.bool true))/\OldK s₁.heap s'.heap/\s'.os=s₁.os/\AllBare s'.gens) s₁:=by
 have rv:=dy hi;have BI:=hi.length;have core:∀ H:Hp,tV H->dN K H a (ns.map V.int)->dv P w H s₁.heap->(∀ b,H b≠none->b=a)->(H a≠none->K.lookup a=none) ->
     codeAny (model P w) callerA (.call (.ref fa) ⟨[.ref a],[]⟩) (fun r s'=>r=.ok (.ret (.bool true))/\OldK s₁.heap s'.heap/\s'.os=s₁.os/\AllBare s'.gens) s₁:=by
   intro H hO hS aF hA hK;have nq:∀ {b:Addr} {o:Obj},s₁.heap.get? b=some o->H b=none->(jd s₁.heap H).get? b=some o:=fun e n=>pP e n
   have zv:∀ {b:Addr} {o:Obj} {es:Array DictEntry} {ep:Nat},s₁.heap.get? b=some o->o.data=.dict es ep->H b=none:=fun {b o es ep} e d=>by
     cases q:H b with
     | none=>rfl
     | some u=>
       have e':b=a:=hA b (by rw[q];simp);subst e';rw[ha] at e;cases e;have d':Data.seq vs.toArray _=Data.dict es ep:=d;cases d'
   have AR:∀ {b:Addr} {m:Str->Option Value},s₁.heap.Ns b m->(jd s₁.heap H).Ns b m:=fun {b m} ⟨o,es,ep,e,d,r⟩=>⟨o,es,ep,nq e (zv e d),d,r⟩
   have C0:K.In (jd s₁.heap H):=fun b o e=>nq (KX b o e) (by
     cases q:H b with
     | none=>rfl
     | some u=>
       have e':b=a:=hA b (by rw[q];simp);subst e';rw[hK (by rw[q];simp)] at e;cases e)
   have hM:Mod K mg (jd s₁.heap H):=⟨C0,AR vJ,⟨mb,AR hb,D3⟩,let ⟨mc,h1,h2⟩:=BH;⟨mc,AR h1,h2⟩⟩
   have e0:ji P w K mg (jd s₁.heap H) callerA [] s₁ H:=⟨rfl,hM,fun b o e=>sX e,Nat.le_of_eq (n9 _ _),trivial,fun b hb=>absurd (show b∈([]:List Addr) from hb) (by simp),aF,.of_eq hg⟩
   refine codeAny_mono ((F _ C0 (AR vJ)).run callerA [] s₁ H ⟨[.ref a],[]⟩ [.ref a] [.ref a] _ _ hr e0 (zD s₁ (.ref a)) (.cons rfl .nil) (qk H hO hS)) fun r s' h=>?_
   cases r with
   | error e=>exact(zE H e s' h).elim
   | ok fl=>
     cases fl with
     | next=>exact False.elim h
     | brk=>exact False.elim h
     | cont=>exact False.elim h
     | ret u=>
       obtain⟨v,H',os,bare,un,BJ,r',q⟩:=h;have q':v=.bl true:=q;subst q';obtain rfl:u=Value.bool true:=r';refine⟨rfl,OldK.of_keep fun b o e=>?_,os,bare⟩;cases q:H b with
       | none=>exact un.keep b o e q (by intro z;exact absurd (show b∈([]:List Addr) from z) (by simp)) (by simp)
       | some u=>
         rcases hO b with z | ⟨ob,xs,z⟩
         . rw[q] at z;cases z
         . have z2:=un.ff b ob _ z
           obtain⟨e1,_⟩:=aF b _ z;obtain⟨e2,_⟩:=BJ b _ z2;rw[e] at e1;cases e1;exact e2
 cases hk:K.lookup a with
 | some o=>
   have e:=KX a o hk;rw[ha] at e;cases e;refine core (fun _=>none) (fun _=>.inl rfl) (.inr ⟨_,vs.toArray,_,hk,rfl,rfl,rfl,by rw[Gm,BI];exact hl,by simpa using rv⟩) (fun b u z=>by have z':(none:Option HO)=some u:=z;cases z') (fun b z=>absurd rfl z) fun z=>absurd rfl z
 | none=>
   refine core (fun b=>if b=a then some (.a6 { cls:=.type "list",data:=.seq vs.toArray} (.lst (ns.map V.int))) else none) (fun b=>?_) (.inl (.inr (.inl ⟨{ cls:=.type "list",data:=.seq vs.toArray},if_pos rfl⟩))) (fun b u z=>?_) (fun b z=>?_) fun _=>hk
   . by_cases hb:b=a
     . exact .inr ⟨_,_,if_pos hb⟩
     . exact .inl (if_neg hb)
   . by_cases hb:b=a
     . have z':=(if_pos hb).symm.trans z
       cases z';subst hb;exact⟨ha,by rw[Bn];exact hl,vs,_,rv,ha⟩
     . have z':=(if_neg hb).symm.trans z
       cases z'
   . by_cases hb:b=a
     . exact hb
     . exact absurd (if_neg hb) z
noncomputable abbrev C1 {K:W.Frag}{h:Heap}(_:K.In h):W.Frag:=K
theorem tW {l:W.OpenLaw}{n k:Nat}{q:Program}{loose:List Str}{XP:(Str->Option Value)->Heap->Prop}{YP:World->Heap->Prop}{d:DefRec}{K:Params->W.Frag}{CX:World->cW}{sp:World->Sp}{x:Str}(hn:l.most=some n)(yQ:n<=sizeLine)(w6:d.params.defaults=[])(hr:aV k callerA)(hY:∀ (w:World) (h:Heap),YP w h->(K w.params).In h)(F:∀ (w:World) (mg:Str->Option Value) (fa:Addr) (h:Heap),(K w.params).In h->h.Ns mainGlobals mg->mg d.name=some (.ref fa)->∃ fd:FuncData,(∀ (s:Shared) (u:Value),BindsTo s fd ⟨[u],[]⟩ [(x,u)])/\∀ base:Heap,(K w.params).In base->base.Ns mainGlobals mg->cz l.prog w (K w.params) mg base (CX w) k fa fd [x] (sp w))(qk:∀ (w:World) (H:Hp) (a:Addr) (ns:List Int),ns.length<=n->tV H->dN (K w.params) H a (ns.map V.int)->sp w [.ref a] H (fun v _=>v=.bl true) fun _ _ _=>False)(zE:∀ (w:World) (H:Hp) (s:Shared) (e:Value) (s':Shared),CX w [] H s (fun _ _ _=>False) e s'->False):W.WalkO q loose XP YP l.row.toRowW d [] (fun f vs=>PySem.call f vs):=by
 refine Att.kJ hn w6 fun w s₀ s₁ mg mb fa o pm cd doc a vs ns G Y ho hd ee zC xa hints hlen hg=>?_
 have KX:=hY w _ Y;obtain⟨fd,hb,hF⟩:=F w mg fa _ KX G.T.g zC;exact qt KX G.T.g G.T.b G.T.builtins G.T.nolimit hg xa hints (Ge hlen yQ) hr hF hb (fun H hO hS=>qk w H a ns hlen hO hS) fun H e s'=>zE w H s₁ e s'
theorem qu {l:W.OpenLaw}{n k:Nat}{q:Program}{loose:List Str}{XP:(Str->Option Value)->Heap->Prop}{YP:World->Heap->Prop}{d:DefRec}{K:Params->W.Frag}{CX:cW}{sp:W.Frag->Sp}{x:Str}(hn:l.most=some n)(yQ:n<=sizeLine)(w6:d.params.defaults=[])(hr:aV k callerA)(hY:∀ (w:World) (h:Heap),YP w h->(K w.params).In h)(F:∀ (w:World) (mg:Str->Option Value) (fa:Addr) (h:Heap),(K w.params).In h->h.Ns mainGlobals mg->mg d.name=some (.ref fa)->∃ fd:FuncData,(∀ (s:Shared) (u:Value),BindsTo s fd ⟨[u],[]⟩ [(x,u)])/\∀ base:Heap,(K w.params).In base->base.Ns mainGlobals mg->cz l.prog w (K w.params) mg base CX k fa fd [x] (sp (K w.params)))(qk:∀ (K:W.Frag) (H:Hp) (a:Addr) (ns:List Int),ns.length<=n->tV H->dN K H a (ns.map V.int)->sp K [.ref a] H (fun v _=>v=.bl true) fun _ _ _=>False)(zE:∀ (H:Hp) (s:Shared) (e:Value) (s':Shared),CX [] H s (fun _ _ _=>False) e s'->False):W.WalkO q loose XP YP l.row.toRowW d [] (fun f vs=>PySem.call f vs):=
 tW (K:=K) (CX:=fun _=>CX) (sp:=fun w=>sp (K w.params)) hn yQ w6 hr hY F (fun w H a ns h1 h2 h3=>qk (K w.params) H a ns h1 h2 h3) fun _ H s e s'=>zE H s e s'
noncomputable def inClass (s:Stmt)(j:Nat):Stmt:=match s with
 | .ClassDef _ _ _ body _ _ _ _ _ _ _=>body.getD j (.Pass ⟨0,0,0,0⟩)
 | _=>.Pass ⟨0,0,0,0⟩
noncomputable def bf (s:Stmt):Arguments:=match s with
 | .FunctionDef _ a _ _ _ _ _ _ _ _=>a
 | _=>{ posonlyargs:=[],args:=[],vararg:=none,kwonlyargs:=[],kw_defaults:=[],kwarg:=none,defaults:=[]}
noncomputable def aH (s:Stmt):List Stmt:=match s with
 | .FunctionDef _ _ b _ _ _ _ _ _ _=>b
 | _=>[]
noncomputable def af (s:Stmt):Scope:=match s with
 | .FunctionDef _ _ _ _ _ _ sc _ _ _=>sc
 | _=>{ kind:=.function,names:=[],isGenerator:=false,isCoroutine:=false}
abbrev C3:cW:=fun _ _ _ _ _ _=>False
abbrev E0:XK:=fun _ _ _=>False
structure xb (K:W.Frag)(x qual:Str)(st:Stmt)(f:Addr)(fd:FuncData):Prop where
 ex:∃ (oc:Value) (od:Option Addr) (kV doc pm:Value) (an:Option Addr) (aR ct:Value) (iu:Array (Option Value)),
   fd=W.fnOf x qual (bf st) (aH st) (af st) .none kV doc pm an aR ct/\K.lookup f=some ⟨oc,od,.func fd,iu⟩/\W.codeIn K aR qual=true
 kp:W.keepIn K (.ref f)=true
section
variable {K:W.Frag}
theorem xb.binds {x qual:Str}{st:Stmt}{f:Addr}{fd:FuncData}{ps:List Str}(F:xb K x qual st f fd)(h:∀ (kV doc pm:Value) (an:Option Addr) (aR ct:Value) (us:List Value),us.length=ps.length->bindArgs (W.fnOf x qual (bf st) (aH st) (af st) .none kV doc pm an aR ct) ⟨us,[]⟩=pure (ps.zip us)):Binds K fd ps []:=by
 obtain⟨oc,od,kV,doc,pm,an,aR,ct,iu,rfl,lk,ee⟩:=F.ex;exact .all (h kV doc pm an aR ct)
theorem gP {x qual:Str}{st:Stmt}{f:Addr}{oc:Value}{od an:Option Addr}{iu:Array (Option Value)}{kV doc pm aR ct:Value}(l:K.lookup f=some ⟨oc,od,.func (W.fnOf x qual (bf st) (aH st) (af st) .none kV doc pm an aR ct),iu⟩)(c:W.codeIn K aR qual=true)(k:W.keepIn K (.ref f)=true):xb K x qual st f (W.fnOf x qual (bf st) (aH st) (af st) .none kV doc pm an aR ct):=⟨⟨oc,od,kV,doc,pm,an,aR,ct,iu,rfl,l,c⟩,k⟩
end
theorem tX {A B:Prop}(h:B):if false=true then A else B:=by
 rw[if_neg Gk];exact h
theorem tY {A B:Prop}(h:A):if true=true then A else B:=by
 rw[if_pos rfl];exact h
def ax (H H':Hp):Prop:=∀ b o,H b=some o->H' b=some o
theorem ax.refl (H:Hp):ax H H:=fun _ _ h=>h
theorem ax.trans {H H1 H2:Hp}(a:ax H H1)(b:ax H1 H2):ax H H2:=fun c o h=>b c o (a c o h)
theorem ax.free {H H':Hp}(e:ax H H'){l:Addr}(h:H' l=Option.none):H l=Option.none:=by
 cases q:H l with
 | none=>rfl
 | some o=>
   rw[e l o q] at h;cases h
theorem ax.seq {K:W.Frag}{H H':Hp}{a:Addr}{xs:List V}(e:ax H H')(h:dN K H a xs):dN K H' a xs:=by
 rcases h with(h | ⟨o,h⟩ | ⟨_,_,_,_,h⟩ | ⟨o,h⟩) | h
 . exact .inl (.inl (e _ _ h))
 . exact .inl (.inr (.inl ⟨o,e _ _ h⟩))
 . cases h
 . exact .inl (.inr (.inr (.inr ⟨o,e _ _ h⟩)))
 . exact .inr h
end L2
set_option maxHeartbeats 4000000
namespace Sg
open PySem PySem.Spec PyProof.Rows L2 PySem.Builtin PySem.Builtin.Getset_descriptor
def d0 (h:Heap)(x D:Addr):Prop:=∃ ox,h.get? x=some ox/\ox.cls=.ref D
theorem d0.ty {M:Model}{h:Heap}{x D:Addr}(I:d0 h x D):W.Looks M h (typeOf (.ref x)) (.ref D):=by
 obtain⟨ox,h1,h2⟩:=I;rw[<- h2];exact(W.Looks.ld h1).andThen .now
theorem xc {prog:Program}{w:World}{A:Around}{E:Value->Shared->Prop}{K:W.Frag}{s:Shared}{x D:Addr}{name:Str}{tk:Tok}{fill expr:Bool}{Q:Value->Shared->Prop}{r:Builtin.ObjectAttr.Found}(X:K.In s.heap)(I:d0 s.heap x D)
   (D4:W.findIn K (.ref D) "__getattribute__"=some (some (.builtin "BaseException.__getattribute__"))) (C4:W.findIn K (.ref D) "__getattr__"=some none) (lO:W.mroIn K D (.type "BaseException")=some true)
   (hf:W.Looks (model prog w) s.heap (Builtin.ObjectAttr.find (.ref x) (.ref D) name) r)
   (h:match r with
     | .bind g a=>wpAny (model prog w) A.in1 (call g [a,.ref x,.ref D]) (fun v s'=>wpAny (model prog w) A (handedOut v) Q E s') (fun _ _=>False) s
     | .value v=>wpAny (model prog w) A (handedOut v) Q E s
     | .missing=>False) :
   wpAny (model prog w) A (getAttrBy (.ref x) (.str name tk) fill expr) Q E s:=by
 obtain⟨hh,gg,d,t,os⟩:=s;have L0:=I.ty (M:=model prog w);have L1:=W.looks_findIn (M:=model prog w) X D4;have BK:=W.looks_findIn (M:=model prog w) X C4;have L4:=W.looks_mroIn (M:=model prog w) X lO;have f3:=PySem.F.excAttr_ValueError.ga.bind (.ref x);unfold getAttrBy;refine wpAny_holding (wpAny_bind (L0.at (wpAny_bind (L1.at ?_))));have BL:(Value.builtin "BaseException.__getattribute__" == Value.builtin "object.__getattribute__")=false:=by
   decide +kernel
 simp only[BL,Bool.and_false,GW,if_false];unfold getAttrByItsOwn hookBefore;refine wpAny_bind (BK.at ?_);refine wpAny_bind (wpAny_attempt (wpAny_holding ?_));unfold callGetattribute boundAndCalled;have D5:(expr && onTheHeap (Value.builtin "BaseException.__getattribute__"))=false:=by
   cases expr <;> rfl
 rw[D5,f3];simp only[GW,if_false];refine wpAny_bind (wpAny_pure ?_);have D6:W.Looks (model prog w) hh (isInstance (.ref x) (.type "BaseException")) true:=L0.andThen L4;refine wpAny_call (codeAny_call_builtin PySem.F.excAttr_ValueError.ga.plain PySem.F.entry_bexc_ga (@W.check_slot (model prog w) _ _ _ "BaseException.__getattribute__" "BaseException" "__getattribute__" (.ref x) [.str name tk] [] _ (by decide +kernel) (by decide +kernel) D6 (PySem.F.args_bexc_ga _ _) ?_));unfold Builtin.«object.__getattribute__»;refine wpAny_bind (wpAny_pure ?_);show wpAny (model prog w) A.in1 (Builtin.ObjectAttr.attrName (.str name tk) >>= _) _ _ _;unfold Builtin.ObjectAttr.attrName;refine wpAny_bind (wpAny_pure (wpAny_bind (L0.at (wpAny_bind (hf.at ?_)))));cases r with
 | bind g a=>
   show wpAny (model prog w) A.in1 (Builtin.ObjectAttr.bindTo g a (.ref x) (.ref D)) _ _ _;unfold Builtin.ObjectAttr.bindTo;show wpAny (model prog w) A.in1 (holding [a] (call g [a,.ref x,.ref D]) >>= ret) _ _ _;exact wpAny_bind (wpAny_holding (wpAny_mono h (fun v s' z=>wpAny_pure z) fun _ _ z=>z.elim))
 | value v=>
   show wpAny (model prog w) A.in1 (ret v) _ _ _;exact wpAny_pure h
 | missing=>exact h.elim
theorem tZ {prog:Program}{w:World}{A:Around}{K:W.Frag}{s:Shared}{x D:Addr}{tp:Value}{R:Result->Shared->Prop}(X:K.In s.heap)(I:d0 s.heap x D)(hm:W.mroIn K D (.type "object")=some true)(hR:R (.ok (.ret (.ref D))) s):codeAny (model prog w) A (.call (.builtin "getset_descriptor.__get__") ⟨[.builtin "object.__class__",.ref x,tp],[]⟩) R s:=by
 obtain⟨hh,g,dr,t,os⟩:=s;have L0:=I.ty (M:=model prog w);have L1:=W.looks_mroIn (M:=model prog w) X hm;have pl:=W.KF.slot_gs.plain;have ent:=W.KF.entry_gs;refine codeAny_call_builtin pl ent (W.KF.slot_gs.check _ _ _ _ _ _ _ _ W.KF.type_class (W.KF.args_gs _ _ _) ?_);unfold Builtin.«getset_descriptor.__get__» descrGet;rw[W.dga_obj];refine wpAny_bind (wpAny_pure ?_);unfold descrGetter descrCheckInstance descrNameAndClass isInstance;simp only[W.KF.owner_class]
 repeat lk
 refine⟨Code.quiet_builtin _ (by decide +kernel),codeAny_builtin W.KF.entry_class ?_⟩;unfold Builtin.«object.__class__» shownTypeOf
 repeat lk
 exact hR
structure vK (K:W.Frag)(C:Addr):Prop where
 hc:(W.clsIn K C).isSome=true
 ga:W.findIn K (.ref C) "__getattribute__"=some (some (.builtin "BaseException.__getattribute__"))
 gt:W.findIn K (.ref C) "__getattr__"=some none
 be:W.mroIn K C (.type "BaseException")=some true
 ha:W.findIn K (.ref C) "__class__"=some (some (.builtin "object.__class__"))
 hn:W.specialIn K (.builtin "object.__class__") "__get__"=some (some (.builtin "getset_descriptor.__get__"))
 wN:W.takesIn K (.builtin "object.__class__")=some true
 hm:W.mroIn K C (.type "object")=some true
theorem qv {M:Model}{K:W.Frag}{h:Heap}{x C:Addr}(X:K.In h)(T:vK K C):W.Looks M h (Builtin.ObjectAttr.find (.ref x) (.ref C) "__class__") (.bind (.builtin "getset_descriptor.__get__") (.builtin "object.__class__")):=by
 refine(W.looks_findIn X T.ha).andThen ?_;refine(W.looks_specialIn X T.hn:W.Looks M h (Builtin.ObjectAttr.getOf (some (.builtin "object.__class__"))) _).andThen ?_;refine((W.looks_takesIn X T.wN).andThen .now:W.Looks M h (Builtin.ObjectAttr.dataDescriptor? (some (.builtin "object.__class__")) (some (.builtin "getset_descriptor.__get__"))) (some (.builtin "getset_descriptor.__get__",.builtin "object.__class__"))).andThen ?_;exact W.Looks.tag .now
theorem kK {K:W.Frag}{x D:Addr}(T:vK K D):W.KitX K (.ref x) (.ref D) (fun h=>d0 h x D) where
 ty:=fun _ _ _ I=>I.ty
 it:=fun M h X _=>by
   obtain⟨D7,tF⟩:=G6.mp T.hc;unfold W.clsIn at tF
   split at tF
   . rename_i u1 u2 u3 u4 BM
     intro A' Q' E' s' k q;unfold isType loadHead;exact wpAny_bind (wpAny_loadPart (k _ _ (X _ _ BM)) (wpAny_pure q))
   . cases tF
 ne:=fun h tp dd aB n sl X D8=>by
   obtain⟨D7,tF⟩:=G6.mp T.hc;refine Bool.eq_false_iff.mpr fun q=>?_
   have e:D=tp:=Value.ref.inj (beq_iff_eq.mp q);subst e;unfold W.clsIn at tF
   split at tF
   . rename_i u1 u2 u3 u4 BM
     have z:=(X _ _ BM).symm.trans D8;cases z
   . cases tF
 ca:=fun {prog w A E Q s} X I k=>by
   unfold getAttr? getAttrBy?;refine wpAny_bind (wpAny_mkText (wpAny_bind (wpAny_attempt ?_)));refine xc (s:={ s with toks:=s.toks+1}) X I T.ga T.gt T.be (qv X T) ?_;refine wpAny_call (tZ (s:={ s with toks:=s.toks+1}) X I T.hm ?_);exact W.handed_on rfl (wpAny_pure k)
end Sg
namespace Sg
open PySem PySem.Spec PyProof.Rows L2
noncomputable abbrev St:=L2.St
def qw (h:Heap)(x C dx:Addr):Prop:=∃ ox,h.get? x=some ox/\ox.cls=.ref C/\ox.dict=some dx/\∃ vs,ox.data=.fields vs
theorem qw.of {h:Heap}{x C dx:Addr}(I:qw h x C dx):d0 h x C:=let ⟨ox,h1,h2,_⟩:=I;⟨ox,h1,h2⟩
inductive Dt where
 | a7
 | bl (b:Bool)
 | int (i:Int)
 | str (x:Str)
 | tup (ds:List Dt)
 | lst (ds:List Dt)
 | fT (ns:List Int)
 | bW (kvs:List (Key×Dt))
 | obj (C:Addr) (fs:List (Str×Dt))
 | ty (n:String)
 | cls (C:Addr)
 | xo (C:Addr)
 | iz (kvs:List (Key×Dt))
 | qx (C:Addr) (fs:List (Str×Dt))
 | f9 (kvs:List (Key×Dt))
 | memo (a:Addr) (ls:ki) (j n:Nat)
 | dP (a:Addr) (ls:ki) (j n:Nat)
 | sU (a:Addr) (ls:ki) (n:Nat)
 | l6 (C:Addr) (fs:List (Str×Dt)) (gs:List (Nat->List (Key×FD))) (nm:List Str) (n:Nat)
 | iR (fd:FD)
 | cX (vL:List (List Key×Int))
noncomputable def BN (fs:List (Str×Dt))(nm:List Str)(a:Addr)(ls:ki)(n:Nat):List (Str×Dt):=fs ++ (GG nm.length).map fun j=>(nm.getD j "",.memo a ls j n)
def Known (H:Hp)(p:Addr)(f:Nat->List (Key×FD))(n:Nat):Prop:=∀ i,i < n->∃ q o kvs,H q=some (.kd (some (p,i)) o kvs)/\sW H kvs (f i)
def ju (H:Hp)(a:Addr)(ls:ki):Prop:=H a=some (.memo ls)\/∃ ns,H a=some (.eh ls ns)
theorem Known.mono {H H':Hp}{p:Addr}{f:Nat->List (Key×FD)}{n:Nat}(e:∀ b u,H b=some u->H' b=some u)(h:Known H p f n):Known H' p f n:=fun i hi=>let ⟨q,o,kvs,h1,h2⟩:=h i hi;⟨q,o,kvs,e _ _ h1,h2.kp (.of e)⟩
theorem ju.mono {H H':Hp}{a:Addr}{ls:ki}(e:∀ b u,H b=some u->H' b=some u)(h:ju H a ls):ju H' a ls:=h.imp (e _ _) fun⟨ns,z⟩=>⟨ns,e _ _ z⟩
mutual
inductive Rep (K:W.Frag)(H:Hp):V->Dt->Prop
 | a7:Rep K H .a7 .a7
 | bl (b:Bool):Rep K H (.bl b) (.bl b)
 | int (i:Int):Rep K H (.int i) (.int i)
 | str (x:Str):Rep K H (.str x) (.str x)
 | tup {a:Addr} {vs:List V} {ds:List Dt}:iG K H a vs->aN K H vs ds->Rep K H (.ref a) (.tup ds)
 | lst {a:Addr} {vs:List V} {ds:List Dt}:H a=some (.lst vs)->aN K H vs ds->Rep K H (.ref a) (.lst ds)
 | fT {a:Addr} {ns:List Int}:dN K H a (ns.map V.int)->Rep K H (.ref a) (.fT ns)
 | bW {a:Addr} {kvs:List (Key×V)} {kds:List (Key×Dt)}:H a=some (.dK kvs)->aW K H kvs kds->Rep K H (.ref a) (.bW kds)
 | obj {a C dx:Addr} {fs:List (Str×V)} {ds:List (Str×Dt)}:Rd H a (.ins C dx fs)->bA K H fs ds->Rep K H (.ref a) (.obj C ds)
 | ty (n:String):Rep K H (.ty n) (.ty n)
 | cls (C:Addr):Rep K H (.ref C) (.cls C)
 | xo {a C:Addr} {ph:Heap->Prop}:H a=some (.ext ph)->(∀ h,ph h->d0 h a C)->Rep K H (.ref a) (.xo C)
 | iz {a:Addr} {ob:Obj} {kvs:List (Key×V)} {kds:List (Key×Dt)}:H a=some (.a6 ob (.dK kvs))->aW K H kvs kds->Rep K H (.ref a) (.iz kds)
 | qx {a C dx:Addr} {ph:Heap->Prop} {fs:List (Str×V)} {ds:List (Str×Dt)}:H a=some (.ext ph)->(∀ h,ph h->qw h a C dx)->H dx=some (.xd fs)->bA K H fs ds->Rep K H (.ref a) (.qx C ds)
 | f9 {a:Addr} {tg:Option (Addr×Nat)} {ob:Obj} {kvs:List (Key×V)} {kds:List (Key×Dt)}:H a=some (.kd tg ob kvs)->aW K H kvs kds->Rep K H (.ref a) (.f9 kds)
 | memo {a p:Addr} {ls:ki} {j n:Nat} {f:Nat->List (Key×FD)}:ls[j]?=some (p,f)->H a=some (.memo ls)->(p=a\/H p=some (.part a))->Known H p f n->Rep K H (.ref p) (.memo a ls j n)
 | dP {a p:Addr} {ls:ki} {j n:Nat} {f:Nat->List (Key×FD)}:ls[j]?=some (p,f)->ju H a ls->(p=a\/H p=some (.part a))->Known H p f n->Rep K H (.ref p) (.dP a ls j n)
 | sU {a:Addr} {ls:ki} {n:Nat}:(∀ (j:Nat) (p:Addr) (f:Nat->List (Key×FD)),ls[j]?=some (p,f)->Known H p f n)->Rep K H .a7 (.sU a ls n)
 | l6 {s a C dx:Addr} {fv:List (Str×V)} {fs:List (Str×Dt)} {gs:List (Nat->List (Key×FD))} {nm:List Str} {n:Nat} {ls:ki}:ls.map (·.2)=gs->Rd H s (.ins C dx fv)->bA K H fv (BN fs nm a ls n)->Rep K H (.ref s) (.l6 C fs gs nm n)
 | iR {v:V} {fd:FD}:Fz H v fd->Rep K H v (.iR fd)
 | cX {a:Addr} {vL:List (List Key×Int)}:H a=some (.dT (vL.map fun k=>(k.1,V.int k.2)))->Rep K H (.ref a) (.cX vL)
inductive aN (K:W.Frag)(H:Hp):List V->List Dt->Prop
 | nil:aN K H [] []
 | cons {v:V} {d:Dt} {vs:List V} {ds:List Dt}:Rep K H v d->aN K H vs ds->aN K H (v::vs) (d::ds)
inductive aW (K:W.Frag)(H:Hp):List (Key×V)->List (Key×Dt)->Prop
 | nil:aW K H [] []
 | cons {k:Key} {v:V} {d:Dt} {vs:List (Key×V)} {ds:List (Key×Dt)}:Rep K H v d->aW K H vs ds->aW K H ((k,v)::vs) ((k,d)::ds)
inductive bA (K:W.Frag)(H:Hp):List (Str×V)->List (Str×Dt)->Prop
 | nil:bA K H [] []
 | cons {k:Str} {v:V} {d:Dt} {vs:List (Str×V)} {ds:List (Str×Dt)}:Rep K H v d->bA K H vs ds->bA K H ((k,v)::vs) ((k,d)::ds)
end
theorem cM {H H':Hp}{a:Addr}{u:HO}(e:ax H H')(h:Rd H a u):Rd H' a u:=by
 rcases h with h | ⟨o,h⟩ | ⟨tg,o,kvs,h,z⟩ | ⟨o,h⟩
 . exact .inl (e _ _ h)
 . exact .inr (.inl ⟨o,e _ _ h⟩)
 . exact .inr (.inr (.inl ⟨tg,o,kvs,e _ _ h,z⟩))
 . exact .inr (.inr (.inr ⟨o,e _ _ h⟩))
theorem aT {K:W.Frag}{H H':Hp}{a:Addr}{xs:List V}(e:ax H H')(h:iG K H a xs):iG K H' a xs:=by
 rcases h with h | h
 . exact .inl (e _ _ h)
 . exact .inr h
theorem Rep.mono {K:W.Frag}{H H':Hp}(e:ax H H'):∀ {v:V} {d:Dt},Rep K H v d->Rep K H' v d:=@fun v d zq=>@Rep.rec K H (fun v d _=>Rep K H' v d) (fun v d _=>aN K H' v d) (fun v d _=>aW K H' v d) (fun v d _=>bA K H' v d) .a7 (fun b=>.bl b) (fun i=>.int i) (fun x=>.str x) (fun h r zi=>.tup (aT e h) zi) (fun h r zi=>.lst (e _ _ h) zi) (fun h=>.fT (e.seq h)) (fun h r zi=>.bW (e _ _ h) zi) (fun h r zi=>.obj (cM e h) zi) (fun n=>.ty n) (fun C=>.cls C) (fun h r=>.xo (e _ _ h) r) (fun h r zi=>.iz (e _ _ h) zi) (fun h q g r zi=>.qx (e _ _ h) q (e _ _ g) zi) (fun h r zi=>.f9 (e _ _ h) zi) (fun h1 h2 h3 h4=>.memo h1 (e _ _ h2) (h3.imp id fun z=>e _ _ z) (h4.mono e)) (fun h1 h2 h3 h4=>.dP h1 (h2.mono e) (h3.imp id fun z=>e _ _ z) (h4.mono e)) (fun h=>.sU fun j p f z=>(h j p f z).mono e) (fun h1 h2 h3 zi=>.l6 h1 (cM e h2) zi) (fun h=>.iR (h.st fun b u q _=>e b u q)) (fun h=>.cX (e _ _ h)) .nil (fun _ _ h r=>.cons h r) .nil (fun _ _ h r=>.cons h r) .nil (fun _ _ h r=>.cons h r) _ _ zq
theorem aN.mono {K:W.Frag}{H H':Hp}(e:ax H H'):∀ {v:List V} {d:List Dt},aN K H v d->aN K H' v d:=by
 intro v d q;induction d generalizing v with
 | nil=>cases q;exact .nil
 | cons _ _ ih=>cases q with|cons h r=>exact .cons (Rep.mono e h) (ih r)
theorem aW.mono {K:W.Frag}{H H':Hp}(e:ax H H'):∀ {v:List (Key×V)} {d:List (Key×Dt)},aW K H v d->aW K H' v d:=by
 intro v d q;induction d generalizing v with
 | nil=>cases q;exact .nil
 | cons _ _ ih=>cases q with|cons h r=>exact .cons (Rep.mono e h) (ih r)
theorem bA.mono {K:W.Frag}{H H':Hp}(e:ax H H'):∀ {v:List (Str×V)} {d:List (Str×Dt)},bA K H v d->bA K H' v d:=by
 intro v d q;induction d generalizing v with
 | nil=>cases q;exact .nil
 | cons _ _ ih=>cases q with|cons h r=>exact .cons (Rep.mono e h) (ih r)
theorem aN.length {K:W.Frag}{H:Hp}:∀ {v:List V} {d:List Dt},aN K H v d->v.length=d.length
 | _,_,.nil=>rfl
 | _,_,.cons _ r=>congrArg (·+1) (aN.length r)
theorem aN.get {K:W.Frag}{H:Hp}:∀ {v:List V} {d:List Dt} {i:Nat} {x:Dt},aN K H v d->d[i]?=some x->∃ y,v[i]?=some y/\Rep K H y x
 | _,_,_,_,.nil,e=>by simp at e
 | _,_,0,_,.cons h _,e=>by simp at e;subst e;exact⟨_,rfl,h⟩
 | _,_,i+1,x,.cons _ r,e=>by
   obtain⟨y,h1,h2⟩:=aN.get (i:=i) (x:=x) r (by simpa using e);exact⟨y,by simpa using h1,h2⟩
theorem aN.get' {K:W.Frag}{H:Hp}{v:List V}{d:List Dt}{i:Nat}{y:V}(r:aN K H v d)(e:v[i]?=some y):∃ x,d[i]?=some x/\Rep K H y x:=by
 have hi:i < v.length:=(F6.mp e).1;have AS:i < d.length:=by rw[<- r.length];exact hi
 obtain⟨z,h1,h2⟩:=r.get (AV AS);rw[e] at h1;cases h1;exact⟨_,AV AS,h2⟩
theorem aN.append {K:W.Frag}{H:Hp}:∀ {v:List V} {d:List Dt} {v':List V} {d':List Dt},aN K H v d->aN K H v' d'->aN K H (v ++ v') (d ++ d')
 | _,_,_,_,.nil,s=>s
 | _,_,_,_,.cons h r,s=>.cons h (aN.append r s)
theorem aN.take {K:W.Frag}{H:Hp}:∀ {v:List V} {d:List Dt} (n:Nat),aN K H v d->aN K H (v.take n) (d.take n)
 | _,_,0,_=>.nil
 | _,_,_+1,.nil=>.nil
 | _,_,n+1,.cons h r=>.cons h (aN.take n r)
theorem bA.lookup {K:W.Frag}{H:Hp}{f:Str}:∀ {v:List (Str×V)} {d:List (Str×Dt)} {x:Dt},bA K H v d->d.lookup f=some x->∃ y,v.lookup f=some y/\Rep K H y x
 | _,_,_,.nil,e=>by simp at e
 | (k,v)::r,(_,d)::s,x,.cons h t,e=>by
   rw[GK] at e ⊢;cases q:(f == k) with
   | true=>rw[q] at e;cases e;exact⟨v,rfl,h⟩
   | false=>rw[q] at e;exact bA.lookup t e
theorem bA.none_of {K:W.Frag}{H:Hp}{f:Str}:∀ {v:List (Str×V)} {d:List (Str×Dt)},bA K H v d->d.lookup f=none->v.lookup f=none
 | _,_,.nil,_=>rfl
 | (k,v)::r,(_,d)::s,.cons h t,e=>by
   rw[GK] at e ⊢;cases q:(f == k) with
   | true=>rw[q] at e;cases e
   | false=>rw[q] at e;exact bA.none_of t e
theorem bA.length {K:W.Frag}{H:Hp}:∀ {v:List (Str×V)} {d:List (Str×Dt)},bA K H v d->v.length=d.length
 | _,_,.nil=>rfl
 | _,_,.cons _ r=>congrArg (·+1) (bA.length r)
theorem aW.length {K:W.Frag}{H:Hp}:∀ {v:List (Key×V)} {d:List (Key×Dt)},aW K H v d->v.length=d.length
 | _,_,.nil=>rfl
 | _,_,.cons _ r=>congrArg (·+1) (aW.length r)
structure aK (Hf H au H':Hp):Prop where
 big:ax H H'
 a6:ax Hf au
 sub:ax au H'
 new:∀ a o,au a=some o->(∃ o,Hf a=some o)\/H a=Option.none\/Kept o
theorem aK.refl {Hf H:Hp}(s:ax Hf H):aK Hf H Hf H:=⟨ax.refl _,ax.refl _,s,fun a o h=>.inl ⟨o,h⟩⟩
theorem aK.trans {Hf H ar H1 a8 H2:Hp}(a:aK Hf H ar H1)(b:aK ar H1 a8 H2):aK Hf H a8 H2:=
 ⟨a.big.trans b.big,a.a6.trans b.a6,b.sub,fun x o h=>by
   rcases b.new x o h with⟨o',h'⟩ | h' | h'
   . have e:=b.a6 _ _ h'
     rw[h] at e;cases e;exact a.new x o h'
   . exact .inr (.inl (a.big.free h'))
   . exact .inr (.inr h')⟩
theorem aK.l7 {Hf H au H':Hp}(g:aK Hf H au H'){a:Addr}{u o:HO}(h:H a=some u)(nk:¬ Kept u)(q:au a=some o):∃ o,Hf a=some o:=by
 rcases g.new a o q with z | z | z
 . exact z
 . rw[h] at z;cases z
 . have e:=g.big _ _ h
   rw[g.sub _ _ q] at e;cases e;exact absurd z nk
theorem aL {H:Hp}{p:Addr}{o:HO}(n:H p=Option.none):ax H (upd H p o):=fun b u e=>by
 rw[ah (ao e n)];exact e
theorem iS {Hf H:Hp}{p:Addr}{o:HO}(s:ax Hf H):ax (upd Hf p o) (upd H p o):=fun b u e=>by
 by_cases hb:b=p
 . subst hb;rw[aj] at e ⊢;exact e
 . rw[ah hb] at e ⊢;exact s _ _ e
theorem iT {Hf H:Hp}{p:Addr}{o:HO}(s:ax Hf H)(n:Hf p=Option.none):ax Hf (upd H p o):=fun b u e=>by
 rw[ah (ao e n)];exact s _ _ e
theorem aK.alloc {Hf H:Hp}{p:Addr}{o:HO}(s:ax Hf H)(n:H p=Option.none):aK Hf H (upd Hf p o) (upd H p o):=
 ⟨aL n,aL (s.free n),iS s,fun a u h=>by
   by_cases hb:a=p
   . subst hb;exact .inr (.inl n)
   . rw[ah hb] at h;exact .inl ⟨u,h⟩⟩
theorem aK.cN {Hf H:Hp}{p:Addr}{o:HO}(s:ax Hf H)(n:H p=Option.none):aK Hf H Hf (upd H p o):=
 ⟨aL n,ax.refl _,iT s (s.free n),fun a u h=>.inl ⟨u,h⟩⟩
inductive Own where
 | lst (ds:List Dt)
 | bW (kds:List (Key×Dt))
 | obj (C:Addr) (fs:List (Str×Dt))
 | oH (x:Addr) (C:Addr) (fs:List (Str×Dt))
 | kL (C:Addr) (fs:List (Str×Dt)) (gs:List (Nat->List (Key×FD))) (nm:List Str) (n:Nat)
 | l8 (x:Addr) (C:Addr) (fs:List (Str×Dt)) (gs:List (Nat->List (Key×FD))) (nm:List Str) (n:Nat)
 | cX (vL:List (List Key×Int))
inductive Slot where
 | bX
 | val (d:Dt)
 | own (o:Own)
def bP (K:W.Frag)(Hf H:Hp)(a:Addr):Own->Prop
 | .lst ds=>∃ vs,H a=some (.lst vs)/\aN K Hf vs ds
 | .bW kds=>∃ kvs,H a=some (.dK kvs)/\aW K Hf kvs kds
 | .obj C ds=>∃ dx fs,H a=some (.ins C dx fs)/\bA K Hf fs ds
 | .oH x C ds=>a=x/\∃ dx fs,H a=some (.ins C dx fs)/\bA K Hf fs ds
 | .kL C ds gs nm n=>∃ dx fs b ls,(ls:ki).map (·.2)=gs/\H a=some (.ins C dx fs)/\bA K Hf fs (BN ds nm b ls n)
 | .l8 x C ds gs nm n=>a=x/\∃ dx fs b ls,(ls:ki).map (·.2)=gs/\H a=some (.ins C dx fs)/\bA K Hf fs (BN ds nm b ls n)
 | .cX vL=>H a=some (.dT (vL.map fun k=>(k.1,V.int k.2)))
theorem bP.zF {K:W.Frag}{Hf H:Hp}{a:Addr}:∀ {o:Own},bP K Hf H a o->∃ u,H a=some u/\¬ Kept u
 | .lst _,⟨_,h,_⟩=>⟨_,h,fun z=>z⟩
 | .bW _,⟨_,h,_⟩=>⟨_,h,fun z=>z⟩
 | .obj _ _,⟨_,_,h,_⟩=>⟨_,h,fun z=>z⟩
 | .oH _ _ _,⟨_,_,_,h,_⟩=>⟨_,h,fun z=>z⟩
 | .kL _ _ _ _ _,⟨_,_,_,_,_,h,_⟩=>⟨_,h,fun z=>z⟩
 | .l8 _ _ _ _ _ _,⟨_,_,_,_,_,_,h,_⟩=>⟨_,h,fun z=>z⟩
 | .cX _,h=>⟨_,h,fun z=>z⟩
theorem bP.some {K:W.Frag}{Hf H:Hp}{a:Addr}:∀ {o:Own},bP K Hf H a o->∃ u,H a=some u
 | .lst _,⟨_,h,_⟩=>⟨_,h⟩
 | .bW _,⟨_,h,_⟩=>⟨_,h⟩
 | .obj _ _,⟨_,_,h,_⟩=>⟨_,h⟩
 | .oH _ _ _,⟨_,_,_,h,_⟩=>⟨_,h⟩
 | .kL _ _ _ _ _,⟨_,_,_,_,_,h,_⟩=>⟨_,h⟩
 | .l8 _ _ _ _ _ _,⟨_,_,_,_,_,_,h,_⟩=>⟨_,h⟩
 | .cX _,h=>⟨_,h⟩
theorem bP.grow {K:W.Frag}{Hf H au H':Hp}{a:Addr}(e:H' a=H a)(f:ax Hf au):∀ {o:Own},bP K Hf H a o->bP K au H' a o
 | .lst _,⟨vs,h,r⟩=>⟨vs,by rw[e];exact h,r.mono f⟩
 | .bW _,⟨vs,h,r⟩=>⟨vs,by rw[e];exact h,r.mono f⟩
 | .obj _ _,⟨dx,fs,h,r⟩=>⟨dx,fs,by rw[e];exact h,r.mono f⟩
 | .oH _ _ _,⟨q,dx,fs,h,r⟩=>⟨q,dx,fs,by rw[e];exact h,r.mono f⟩
 | .kL _ _ _ _ _,⟨dx,fs,b,ls,q,h,r⟩=>⟨dx,fs,b,ls,q,by rw[e];exact h,r.mono f⟩
 | .l8 _ _ _ _ _ _,⟨q0,dx,fs,b,ls,q,h,r⟩=>⟨q0,dx,fs,b,ls,q,by rw[e];exact h,r.mono f⟩
 | .cX vL,h=>(show H' a=Option.some (HO.dT (vL.map fun k=>(k.1,V.int k.2))) from by rw[e];exact h)
structure Gr where
 Hf:Hp
 H:Hp
structure bE (K:W.Frag)(G:Gr)(st:L2.St)(Hf H:Hp)(dl:List Slot):Prop where
 gr:aK G.Hf G.H Hf H
 len:st.length=dl.length
 val:∀ (i:Nat) d,dl[i]?=some (.val d)->∃ v,st[i]?=some (some v)/\Rep K Hf v d
 own:∀ (i:Nat) o,dl[i]?=some (.own o)->∃ a,st[i]?=some (some (.ref a))/\Hf a=Option.none/\G.H a=Option.none/\bP K Hf H a o
 t4:∀ (i j:Nat) o o' a,dl[i]?=some (.own o)->dl[j]?=some (.own o')->st[i]?=some (some (.ref a))->st[j]?=some (some (.ref a))->i=j
section
variable {K:W.Frag}{G:Gr}{st:L2.St}{Hf H au H':Hp}{dl dl':List Slot}
theorem bE.sub (S:bE K G st Hf H dl):ax Hf H:=S.gr.sub
theorem bE.grow (S:bE K G st Hf H dl)(g:aK Hf H au H'):bE K G st au H' dl:=by
 refine⟨S.gr.trans g,S.len,fun i d h=>let ⟨v,h1,h2⟩:=S.val i d h;⟨v,h1,h2.mono g.a6⟩,fun i o h=>?_,S.t4⟩;obtain⟨a,h1,h2,h3,h4⟩:=S.own i o h;obtain⟨u,hu,nk⟩:=h4.zF;refine⟨a,h1,?_,h3,h4.grow (by rw[hu];exact g.big _ _ hu) g.a6⟩;cases q:au a with
 | none=>rfl
 | some u'=>
   obtain⟨o',z⟩:=g.l7 hu nk q;rw[h2] at z;cases z
theorem bE.set (S:bE K G st Hf H dl){i:Nat}{v:V}{d:Dt}(r:Rep K Hf v d):bE K G (st.set i (some v)) Hf H (dl.set i (.val d)):=by
 have ln:=S.len;refine⟨S.gr,by simp[S.len],fun j x h=>?_,fun j o h=>?_,fun j k o o' a h1 h2 h3 h4=>?_⟩
 . by_cases e:i=j
   . subst e
     by_cases hl:i < dl.length
     . rw[FG hl] at h;cases h
       exact⟨v,FG (by omega),r⟩
     . rw[Gi (by simp;omega)] at h;cases h
   . rw[Cq e] at h ⊢;exact S.val j x h
 . by_cases e:i=j
   . subst e
     by_cases hl:i < dl.length
     . rw[FG hl] at h;cases h
     . rw[Gi (by simp;omega)] at h;cases h
   . rw[Cq e] at h ⊢;exact S.own j o h
 . have nj:i≠j:=fun e=>by
     subst e;by_cases hl:i < dl.length
     . rw[FG hl] at h1;cases h1
     . rw[Gi (by simp;omega)] at h1;cases h1
   have nk:i≠k:=fun e=>by
     subst e;by_cases hl:i < dl.length
     . rw[FG hl] at h2;cases h2
     . rw[Gi (by simp;omega)] at h2;cases h2
   rw[Cq nj] at h1 h3;rw[Cq nk] at h2 h4;exact S.t4 j k o o' a h1 h2 h3 h4
theorem bE.xf (S:bE K G st Hf H dl){i:Nat}{p:Addr}{o:HO}{w w':Own}(hi:dl[i]?=some (.own w))(hp:st[i]?=some (some (.ref p)))(r:bP K Hf (upd H p o) p w'):bE K G st Hf (upd H p o) (dl.set i (.own w')):=by
 have ln:=S.len;obtain⟨p',q1,q2,q3,q4⟩:=S.own i w hi;rw[hp] at q1;cases q1;have hl:i < dl.length:=(F6.mp hi).1;have g:aK G.Hf G.H Hf (upd H p o):=⟨fun b u e=>by rw[ah (ao e q3)];exact S.gr.big _ _ e,S.gr.a6,iT S.sub q2,S.gr.new⟩
 refine⟨g,by simp[S.len],fun j x h=>?_,fun j o' h=>?_,fun j k o1 o2 a h1 h2 h3 h4=>?_⟩
 . by_cases e:i=j
   . subst e;rw[FG hl] at h;cases h
   . rw[Cq e] at h;exact S.val j x h
 . by_cases e:i=j
   . subst e;rw[FG hl] at h;cases h
     exact⟨p,hp,q2,q3,r⟩
   . rw[Cq e] at h
     obtain⟨a,z1,z2,z3,z4⟩:=S.own j o' h;have:a≠p:=fun q=>by subst q;exact e (S.t4 i j _ _ _ hi h hp z1)
     exact⟨a,z1,z2,z3,z4.grow (ah this) (ax.refl _)⟩
 . have tr:∀ (j:Nat) o',(dl.set i (.own w'))[j]?=some (.own o')->∃ D9,dl[j]?=some (.own D9):=fun j o' h=>by
     by_cases e:i=j
     . subst e;exact⟨_,hi⟩
     . rw[Cq e] at h;exact⟨_,h⟩
   obtain⟨_,t1⟩:=tr j o1 h1;obtain⟨_,t2⟩:=tr k o2 h2;exact S.t4 j k _ _ a t1 t2 h3 h4
def Le (dl dl':List Slot):Prop:=dl.length=dl'.length/\∀ (i:Nat) s,dl[i]?=some s->s≠.bX->dl'[i]?=some s
theorem Le.refl (dl:List Slot):Le dl dl:=⟨rfl,fun _ _ h _=>h⟩
theorem bE.weak (S:bE K G st Hf H dl')(l:Le dl dl'):bE K G st Hf H dl:=
 ⟨S.gr,by rw[S.len,l.1],fun i d h=>S.val i d (l.2 i _ h (by intro z;cases z)),fun i o h=>S.own i o (l.2 i _ h (by intro z;cases z)),
  fun i j o o' a h1 h2=>S.t4 i j o o' a (l.2 i _ h1 (by intro z;cases z)) (l.2 j _ h2 (by intro z;cases z))⟩
def zG:List Slot->List Slot->Prop
 | [],[]=>True
 | .bX::r,_::s=>zG r s
 | x::r,y::s=>x=y/\zG r s
 | _,_=>False
theorem Le.of:∀ {dl dl':List Slot},zG dl dl'->Le dl dl'
 | [],[],_=>Le.refl _
 | .bX::r,y::s,h=>by
   have q:=Le.of (dl:=r) (dl':=s) h;refine⟨congrArg (·+1) q.1,fun i x e n=>?_⟩;cases i with
   | zero=>simp at e;exact absurd e.symm n
   | succ i=>exact q.2 i x (by simpa using e) n
 | .val d::r,y::s,h=>by
   obtain⟨h1,h2⟩:=(show Slot.val d=y/\zG r s from h)
   subst h1;have q:=Le.of h2;refine⟨congrArg (·+1) q.1,fun i x e n=>?_⟩;cases i with
   | zero=>exact e
   | succ i=>exact q.2 i x (by simpa using e) n
 | .own d::r,y::s,h=>by
   obtain⟨h1,h2⟩:=(show Slot.own d=y/\zG r s from h)
   subst h1;have q:=Le.of h2;refine⟨congrArg (·+1) q.1,fun i x e n=>?_⟩;cases i with
   | zero=>exact e
   | succ i=>exact q.2 i x (by simpa using e) n
end
def tD (K:PySem.W.Frag)(G:Gr)(dl:List Slot)(d:Dt):TE:=fun st H Q=>∃ Hf,bE K G st Hf H dl/\∀ v au H',aK Hf H au H'->Rep K au v d->Q v H'
def C5 (K:PySem.W.Frag)(G:Gr)(dl:List Slot)(ds:List Dt):TA:=fun st H Q=>∃ Hf,bE K G st Hf H dl/\∀ vs au H',aK Hf H au H'->aN K au vs ds->Q vs H'
def BO (K:PySem.W.Frag)(G:Gr)(dl:List Slot)(b:Bool):TT:=fun st H Q=>∃ Hf,bE K G st Hf H dl/\∀ au H',aK Hf H au H'->Q b H'
abbrev EE (X:Cx)(G:Gr)(dl:List Slot)(e:Expr)(d:Dt):Prop:=PE X e (tD X.K G dl d)
abbrev EA (X:Cx)(G:Gr)(dl:List Slot)(es:List Expr)(ds:List Dt):Prop:=PA X es (C5 X.K G dl ds)
abbrev EB (X:Cx)(G:Gr)(dl:List Slot)(e:Expr)(b:Bool):Prop:=PT X e (BO X.K G dl b)
def ExcAt (K:PySem.W.Frag)(Hf:Hp)(od:Option Addr)(fs:List (Str×Dt)):Prop:=match od with
 | none=>fs=[]
 | some dx=>∃ fv,Hf dx=some (.xd fv)/\bA K Hf fv fs
inductive Out where
 | nx (dl:List Slot)
 | rt (d:Dt)
 | ro (w:Own)
 | bk (dl:List Slot)
 | ct (dl:List Slot)
 | ex (c:Value) (fs:List (Str×Dt))
 | raw (R:L2.St->Hp->Prop)
def iA (K:W.Frag)(G:Gr)(E:XK)(D:Ends)(Hf:Hp):Out->Prop
 | .nx dl=>∀ st au H,ax Hf au->bE K G st au H dl->D.nx st H
 | .bk dl=>∀ st au H,ax Hf au->bE K G st au H dl->D.bk st H
 | .ct dl=>∀ st au H,ax Hf au->bE K G st au H dl->D.ct st H
 | .rt d=>∀ v au H,aK G.Hf G.H au H->Rep K au v d->D.rt v H
 | .ro o=>∀ p au H,aK G.Hf G.H au H->G.H p=none->au p=none->bP K au H p o->D.rt (.ref p) H
 | .ex c fs=>∀ od au H,aK G.Hf G.H au H->ExcAt K au od fs->E c od H
 | .raw R=>∀ st H,R st H->D.nx st H
theorem iA.mono {K:W.Frag}{G:Gr}{E:XK}{D:Ends}{Hf ar:Hp}(s:ax Hf ar):∀ {o:Out},iA K G E D Hf o->iA K G E D ar o
 | .nx _,k=>fun st au H s' S=>k st au H (s.trans s') S
 | .bk _,k=>fun st au H s' S=>k st au H (s.trans s') S
 | .ct _,k=>fun st au H s' S=>k st au H (s.trans s') S
 | .rt _,k=>k
 | .ro _,k=>k
 | .ex _ _,k=>k
 | .raw _,k=>k
def tO (K:W.Frag)(G:Gr)(E:XK)(dl:List Slot)(o:Out):TS:=fun D st H=>∃ Hf,bE K G st Hf H dl/\iA K G E D Hf o
abbrev ES (X:Cx)(G:Gr)(E:XK)(dl:List Slot)(s:Stmt)(o:Out):Prop:=PS X s (tO X.K G E dl o)
abbrev gQ (X:Cx)(G:Gr)(E:XK)(dl:List Slot)(s:List Stmt)(o:Out):Prop:=oe X s (tO X.K G E dl o)
theorem cu {X:Cx}{e:Expr}{t t':TE}(h:PE X e t)(i:∀ st H Q,t' st H Q->t st H Q):PE X e t':=fun pins s st H Q I q=>h pins s st H Q I (i st H Q q)
theorem AU {X:Cx}{e:Expr}{t t':TT}(h:PT X e t)(i:∀ st H Q,t' st H Q->t st H Q):PT X e t':=fun pins s st H Q I q=>h pins s st H Q I (i st H Q q)
theorem C6 {X:Cx}{e:List Expr}{t t':TA}(h:PA X e t)(i:∀ st H Q,t' st H Q->t st H Q):PA X e t':=fun pos pins s st H Q I q=>h pos pins s st H Q I (i st H Q q)
theorem l9 {X:Cx}{e:Stmt}{t t':TS}(h:PS X e t)(i:∀ D st H,t' D st H->t D st H):PS X e t':=fun pins s st H D I q=>h pins s st H D I (i D st H q)
theorem qy {X:Cx}{e:List Stmt}{t t':TS}(h:oe X e t)(i:∀ D st H,t' D st H->t D st H):oe X e t':=fun pins s st H D I q=>h pins s st H D I (i D st H q)
section
variable {X:Cx}{G:Gr}{dl:List Slot}{a b e:Expr}{i j:Int}{d d1 d2:Dt}{pos:Pos}{x y:Str}{u v:Bool}
theorem aa (n:Nat){x:Str}{pos:Pos}(hd:autoParam (dl[n]?=some (.val d)) jp)(hN:autoParam (X.N[n]?=some x) jp)(hv:autoParam (pQ X.env.scope x) v2)(hb:autoParam ((x == ("__debug__":Str))=false) xz)(ee:autoParam ((x == ("__classdict__":Str))=false) xz):EE X G dl (.Name x pos) d:=
 cu (gI hN hv hb ee) fun st H Q zq=>ou zq fun Hf zq=>have S:=zq.1;have k:=zq.2;let ⟨v,h1,h2⟩:=S.val n d hd;⟨v,h1,k v Hf H (.refl S.sub) h2⟩
theorem ai {z:Int}{j pos}:EE X G dl (.Constant (.int z) j pos) (.int z):=cu v8 fun st H Q zq=>ou zq fun Hf zq=>have S:=zq.1;have k:=zq.2;k _ Hf H (.refl S.sub) (.int z)
theorem zH {z:Bool}{j pos}:EE X G dl (.Constant (.bool z) j pos) (.bl z):=cu y8 fun st H Q zq=>ou zq fun Hf zq=>have S:=zq.1;have k:=zq.2;k _ Hf H (.refl S.sub) (.bl z)
theorem a9 {z:Str}{j pos}:EE X G dl (.Constant (.str z) j pos) (.str z):=cu wa fun st H Q zq=>ou zq fun Hf zq=>have S:=zq.1;have k:=zq.2;k _ Hf H (.refl S.sub) (.str z)
theorem jv {j pos}:EE X G dl (.Constant .none j pos) .a7:=cu v9 fun st H Q zq=>ou zq fun Hf zq=>have S:=zq.1;have k:=zq.2;k _ Hf H (.refl S.sub) .a7
def oI (K:W.Frag)(r:R2)(d1 d2 d:Dt):Prop:=∀ v w Hf H Q,ax Hf H->Rep K Hf v d1->Rep K Hf w d2->(∀ u au H',aK Hf H au H'->Rep K au u d->Q u H')->r v w H Q
theorem gR {r:R2}(h:oI X.K r d1 d2 d):∀ st H Q,tD X.K G dl d st H Q->yP r (tD X.K G dl d1) (tD X.K G dl d2) st H Q:=fun st H Q zq=>ou zq fun Hf zq=>have S:=zq.1;have k:=zq.2;
 ⟨Hf,S,fun v ar H1 g1 r1=>⟨ar,S.grow g1,fun w a8 H2 g2 r2=>h v w a8 H2 Q g2.sub (r1.mono g2.a6) r2 fun u kl H3 g3 r3=>k u kl H3 ((g1.trans g2).trans g3) r3⟩⟩
theorem fU {op:Operator}{r:R2}(ho:e9 X (binaryOp op) r)(h:oI X.K r d1 d2 d)(ha:EE X G dl a d1)(hb:EE X G dl b d2):EE X G dl (.BinOp a op b pos) d:=cu (zh ho ha hb) (gR h)
theorem jw {op:CmpOp}{r:R2}(ho:e9 X (compareOp op) r)(h:oI X.K r d1 d2 d)(hm:behindInMarks op b=false)(ha:EE X G dl a d1)(hb:EE X G dl b d2):EE X G dl (.Compare a [op] [b] pos) d:=cu (tu ho ha hb hm) (gR h)
theorem jx {op:CmpOp}{r:R2}(ho:e9 X (compareOp op) r)(h:oI X.K r d1 d2 (.bl u))(hm:behindInMarks op b=false)(ha:EE X G dl a d1)(hb:EE X G dl b d2):EB X G dl (.Compare a [op] [b] pos) u:=
 AU (tw ho ha hb hm) fun st H Q zq=>ou zq fun Hf zq=>have S:=zq.1;have k:=zq.2;gR h st H _ ⟨Hf,S,fun v au H' g r=>by cases r;exact⟨u,rfl,k au H' g⟩⟩
theorem iU {K:W.Frag}{g:Int->Int->V}{g':Int->Int->Dt}(h:∀ K H i j,Rep K H (g i j) (g' i j)):oI K (vC g) (.int i) (.int j) (g' i j):=fun v w Hf H Q s r1 r2 k=>by
 cases r1;cases r2;exact⟨i,j,rfl,rfl,k _ Hf H (.refl s) (h _ _ _ _)⟩
theorem t5 {K:W.Frag}{C:Int->Int->Prop}{g:Int->Int->V}{g':Int->Int->Dt}(h:∀ K H i j,Rep K H (g i j) (g' i j))(hc:C i j):oI K (rI C g) (.int i) (.int j) (g' i j):=fun v w Hf H Q s r1 r2 k=>by
 cases r1;cases r2;exact⟨i,j,rfl,rfl,hc,k _ Hf H (.refl s) (h _ _ _ _)⟩
theorem cO (ha:EE X G dl a (.int i))(hb:EE X G dl b (.int j)):EE X G dl (.BinOp a .Add b pos) (.int (i+j)):=fU wF (iU (g':=fun i j=>.int (i+j)) fun _ _ _ _=>.int _) ha hb
theorem qz (ha:EE X G dl a (.int i))(hb:EE X G dl b (.int j)):EE X G dl (.BinOp a .Sub b pos) (.int (i - j)):=fU wG (iU (g':=fun i j=>.int (i - j)) fun _ _ _ _=>.int _) ha hb
theorem t6:e9 X (binaryOp .Mult) (rI IntMulOk fun i j=>.int (i * j)):=AK fun _ _ _ _ _ _ _ hc q=>mul_int q hc
theorem d5 (ha:EE X G dl a (.int i))(hb:EE X G dl b (.int j))(hc:IntMulOk i j):EE X G dl (.BinOp a .Mult b pos) (.int (i * j)):=fU t6 (t5 (g':=fun i j=>.int (i * j)) (fun _ _ _ _=>.int _) hc) ha hb
theorem qA:e9 X (binaryOp .FloorDiv) (rI (fun _ j=>0 < j/\j.natAbs.log2 < 9000) fun i j=>.int (i / j)):=AK fun i j _ _ _ _ _ hc q=>by
 refine floordiv_int (Int.ne_of_gt hc.1) ?_ (.inl (PyProof.noPylong_of_log2 hc.2));rw[Int.fdiv_eq_ediv_of_nonneg _ (Int.le_of_lt hc.1)];exact q
theorem bT (ha:EE X G dl a (.int i))(hb:EE X G dl b (.int j))(hc:0 < j/\j.natAbs.log2 < 9000):EE X G dl (.BinOp a .FloorDiv b pos) (.int (i / j)):=fU qA (t5 (g':=fun i j=>.int (i / j)) (fun _ _ _ _=>.int _) hc) ha hb
theorem bw (ha:EE X G dl a (.int i))(hb:EE X G dl b (.int j))(hc:0 < j):EE X G dl (.BinOp a .Mod b pos) (.int (i % j)):=fU wH (t5 (g':=fun i j=>.int (i % j)) (fun _ _ _ _=>.int _) hc) ha hb
theorem xg (ha:EE X G dl a (.int i))(hb:EE X G dl b (.int j))(hc:zj i j):EE X G dl (.BinOp a .Pow b pos) (.int (i ^ j.toNat)):=fU wI (t5 (g':=fun i j=>.int (i ^ j.toNat)) (fun _ _ _ _=>.int _) hc) ha hb
theorem xh {K:W.Frag}(h:x.length+y.length<=sizeLine):oI K (fun a b H Q=>∃ i j,a=.str i/\b=.str j/\i.length+j.length<=sizeLine/\Q (.str (i ++ j)) H) (.str x) (.str y) (.str (x ++ y)):=fun v w Hf H Q s r1 r2 k=>by
 cases r1;cases r2;exact⟨x,y,rfl,rfl,h,k _ Hf H (.refl s) (.str _)⟩
theorem qB (ha:EE X G dl a (.str x))(hb:EE X G dl b (.str y))(h:x.length+y.length<=sizeLine):EE X G dl (.BinOp a .Add b pos) (.str (x ++ y)):=fU lX (xh h) ha hb
theorem kM (h:EE X G dl e (.bl u))(he:autoParam (∀ whole,isTrue e X.env whole=(do let v <- whole;standAt e.pos;holding [v] (truthy v))) va):EB X G dl e u:=
 AU (wg h he) fun st H Q zq=>zn zq fun Hf S k=>fun v ar H1 g1 r1=>by cases r1;exact⟨u,rfl,k ar H1 g1⟩
end
section
variable {X:Cx}{G:Gr}{E:XK}{dl dl1:List Slot}{a b c e:Expr}{es:List Expr}{i j:Int}{d d1:Dt}{ds:List Dt}{pos:Pos}{o o':Out}{x:Str}{u v:Bool}{rest:List Expr}{sts oJ:List Stmt}{s:Stmt}
theorem xi:PE X e fun _ _ _=>False:=fun _ _ _ _ _ _ h=>h.elim
theorem pw_nev:PW X e fun _ _ _=>False:=fun _ _ _ _ _ _ _ h=>h.elim
abbrev EW (X:Cx)(G:Gr)(dl:List Slot)(e:Expr)(b:Bool):Prop:=PW X e (BO X.K G dl b)
theorem C7 {e:Expr}{t t':TT}(h:PW X e t)(i:∀ st H Q,t' st H Q->t st H Q):PW X e t':=fun wh pins s st H Q I q=>h wh pins s st H Q I (i st H Q q)
theorem t7 (ha:EB X G dl a u):EW X G dl (.BoolOp .And [a] pos) u:=pw_and1 ha
theorem qC (ha:EB X G dl a u)(hb:u=true->EW X G dl (.BoolOp .And (b::rest) pos) v):EW X G dl (.BoolOp .And (a::b::rest) pos) (u && v):=by
 cases u with
 | true=>exact C7 (pw_and ha (hb rfl)) fun st H Q zq=>zn zq fun Hf S k=>fun ar H1 g1=>tY ⟨ar,S.grow g1,fun a8 H2 g2=>k a8 H2 (g1.trans g2)⟩
 | false=>exact C7 (pw_and ha pw_nev) fun st H Q zq=>zn zq fun Hf S k=>fun ar H1 g1=>tX (k ar H1 g1)
theorem BP (h:EW X G dl e u):EB X G dl e u:=h.pt
theorem ma (ha:EB X G dl a u):EB X G dl (.UnaryOp .Not a pos) (!u):=AU (wj ha) fun st H Q zq=>zn zq fun Hf S k=>fun ar H1 g1=>k ar H1 g1
theorem eE (ha:EE X G dl a (.bl u)):EE X G dl (.BoolOp .And [a] pos) (.bl u):=wk ha
theorem ft (ha:EE X G dl a (.bl u))(hb:u=true->EE X G dl (.BoolOp .And (b::rest) pos) (.bl v)):EE X G dl (.BoolOp .And (a::b::rest) pos) (.bl (u && v)):=by
 cases u with
 | true=>exact cu (pV ha (hb rfl)) fun st H Q zq=>zn zq fun Hf S k=>fun w ar H1 g1 r1=>by cases r1;exact⟨true,rfl,tY ⟨ar,S.grow g1,fun w a8 H2 g2 r2=>k w a8 H2 (g1.trans g2) r2⟩⟩
 | false=>exact cu (pV ha xi) fun st H Q zq=>zn zq fun Hf S k=>fun w ar H1 g1 r1=>by cases r1;exact⟨false,rfl,tX (k _ ar H1 g1 (.bl _))⟩
theorem xj (ha:EE X G dl a (.bl u)):EE X G dl (.UnaryOp .Not a pos) (.bl (!u)):=cu (wm ha) fun st H Q zq=>zn zq fun Hf S k=>fun w ar H1 g1 r1=>by cases r1;exact⟨u,rfl,k _ ar H1 g1 (.bl _)⟩
theorem fV (h:EB X G dl e u)(q:u=v):EB X G dl e v:=by subst q;exact h
theorem aX (h:EE X G dl e d)(q:d=d1):EE X G dl e d1:=by subst q;exact h
theorem ak:EA X G dl [] []:=C6 wO fun st H Q zq=>ou zq fun Hf zq=>have S:=zq.1;have k:=zq.2;k [] Hf H (.refl S.sub) .nil
theorem ae (ha:EE X G dl e d)(hr:EA X G dl es ds)(hs:autoParam (starEach (e::es) X.env=(false,eval e X.env)::starEach es X.env) jp):EA X G dl (e::es) (d::ds):=
 C6 (tH ha hr hs) fun st H Q zq=>zn zq fun Hf S k=>fun v ar H1 g1 r1=>⟨ar,S.grow g1,fun vs a8 H2 g2 r2=>k _ a8 H2 (g1.trans g2) (.cons (r1.mono g2.a6) r2)⟩
theorem fu {x1}(h:EA X G dl es ds)(hl:autoParam (ds.length<=sizeLine) xz):EE X G dl (.Tuple es x1 pos) (.tup ds):=
 cu (wQ h) fun st H Q zq=>zn zq fun Hf S k=>fun vs ar H1 g1 r1=>⟨by rw[r1.length];exact hl,fun p hp=>k _ (upd ar p (.tup vs)) _ (g1.trans (.alloc g1.sub hp)) (.tup (.of aj) (r1.mono (aL (g1.sub.free hp))))⟩
theorem md (h:EA X G dl es ds)(hl:autoParam (ds.length<=sizeLine) xz):EE X G dl (.List es pos) (.lst ds):=
 cu (qg h) fun st H Q zq=>zn zq fun Hf S k=>fun vs ar H1 g1 r1=>⟨by rw[r1.length];exact hl,fun p hp=>k _ (upd ar p (.lst vs)) _ (g1.trans (.alloc g1.sub hp)) (.lst aj (r1.mono (aL (g1.sub.free hp))))⟩
theorem aN.fm {K:W.Frag}{H:Hp}{vs:List V}{ds:List Dt}{i:Int}{d:Dt}(r:aN K H vs ds)(h:L2.fm ds i=some d):∃ v,L2.fm vs i=some v/\Rep K H v d:=by
 unfold L2.fm at h ⊢;rw[r.length];cases q:vG ds.length i with
 | none=>rw[q] at h;cases h
 | some n=>
   rw[q] at h;exact r.get h
theorem d6 (ha:EE X G dl a (.tup ds))(hb:EE X G dl b (.int i))(h:fm ds i=some d)(hs:autoParam (bS b) v6):EE X G dl (.Subscript a b pos) d:=
 cu (m7 wU ha hb hs) (gR fun v w Hf H Q s r1 r2 k=>by
   cases r1 with
   | tup q r=>
     cases r2;obtain⟨v,h1,h2⟩:=r.fm h;exact⟨_,_,i,v,rfl,rfl,aT s q,h1,k v Hf H (.refl s) h2⟩)
theorem qD (ha:EE X G dl a (.lst ds))(hb:EE X G dl b (.int i))(h:fm ds i=some d)(hs:autoParam (bS b) v6):EE X G dl (.Subscript a b pos) d:=
 cu (m7 m8 ha hb hs) (gR fun v w Hf H Q s r1 r2 k=>by
   cases r1 with
   | lst q r=>
     cases r2;obtain⟨v,h1,h2⟩:=r.fm h;exact⟨_,_,i,v,rfl,rfl,.of (s _ _ q),h1,k v Hf H (.refl s) h2⟩)
theorem xk {ns:List Int}{z:Int}(ha:EE X G dl a (.fT ns))(hb:EE X G dl b (.int i))(h:fm ns i=some z)(hs:autoParam (bS b) v6):EE X G dl (.Subscript a b pos) (.int z):=
 cu (m7 m8 ha hb hs) (gR fun v w Hf H Q s r1 r2 k=>by
   cases r1 with
   | fT q=>
     cases r2;have h':L2.fm (ns.map V.int) i=some (.int z):=by
       unfold L2.fm at h ⊢;rw[Bn];cases q2:vG ns.length i with
       | none=>rw[q2] at h;cases h
       | some n=>
         rw[q2] at h;show(ns.map V.int)[n]?=_;rw[Gb,show ns[n]?=some z from h];rfl
     exact⟨_,_,i,_,rfl,rfl,s.seq q,h',k _ Hf H (.refl s) (.int z)⟩)
theorem xm {z:Nat}(ha:EE X G dl a (.str x))(hb:EE X G dl b (.int i))(h:fm x.cps.toList i=some z)(hl:x.length<=sizeLine)(hs:autoParam (bS b) v6):EE X G dl (.Subscript a b pos) (.str ⟨#[z]⟩):=
 cu (m7 qm ha hb hs) (gR fun v w Hf H Q s r1 r2 k=>by
   cases r1;cases r2;exact⟨x,i,z,rfl,rfl,hl,h,k _ Hf H (.refl s) (.str _)⟩)
theorem cA:gQ X G E dl [] (.nx dl):=qy tm fun D st H zq=>ou zq fun Hf zq=>have S:=zq.1;have k:=zq.2;k st Hf H (ax.refl _) S
theorem ag (h1:ES X G E dl s (.nx dl1))(h2:gQ X G E dl1 sts o):gQ X G E dl (s::sts) o:=
 qy (gK h1 h2) fun D st H zq=>zn zq fun Hf S k=>fun dw au H' s' S'=>⟨au,S',k.mono s'⟩
theorem ay (h1:ES X G E dl s o):gQ X G E dl [s] o:=je h1
theorem iA.stop {K:W.Frag}{D D':Ends}{Hf:Hp}(h:(∀ dl,o≠.nx dl)/\∀ R,o≠.raw R)(hr:D'.rt=D.rt)(hb:D'.bk=D.bk)(hc:D'.ct=D.ct)(k:iA K G E D Hf o):iA K G E D' Hf o:=by
 cases o with
 | nx dl=>exact absurd rfl (h.1 dl)
 | raw R=>exact absurd rfl (h.2 R)
 | rt d=>show ∀ v Hf H,_->_->D'.rt v H;rw[hr];exact k
 | ro d=>show ∀ v Hf H,_->_->_->_->D'.rt _ H;rw[hr];exact k
 | bk d=>show ∀ v Hf H,_->_->D'.bk v H;rw[hb];exact k
 | ct d=>show ∀ v Hf H,_->_->D'.ct v H;rw[hc];exact k
 | ex c fs=>exact k
theorem gw (h1:ES X G E dl s o)(h:(∀ dl,o≠.nx dl)/\(∀ R,o≠.raw R):=by exact⟨(fun _ z=>nomatch z),(fun _ z=>nomatch z)⟩):gQ X G E dl (s::sts) o:=
 qy (gK h1 (fg (sts:=sts))) fun D st H zq=>zn zq fun Hf S k=>iA.stop (D:=D) h rfl rfl rfl k
theorem cv (hc:EB X G dl c u)(h1:u=true->gQ X G E dl sts o)(h2:u=false->gQ X G E dl oJ o):ES X G E dl (.If c sts oJ pos) o:=by
 cases u with
 | true=>exact l9 (vA hc (h1 rfl) (fg (sts:=oJ))) fun D st H zq=>zn zq fun Hf S k=>fun ar H1 g1=>tY ⟨ar,S.grow g1,k.mono g1.a6⟩
 | false=>exact l9 (vA hc (fg (sts:=sts)) (h2 rfl)) fun D st H zq=>zn zq fun Hf S k=>fun ar H1 g1=>tX ⟨ar,S.grow g1,k.mono g1.a6⟩
theorem bp (h:EE X G dl e d):ES X G E dl (.Return (some e) pos) (.rt d):=l9 (pW h) fun D st H zq=>zn zq fun Hf S k=>fun v ar H1 g1 r1=>k v ar H1 (S.gr.trans g1) r1
theorem nr (h:EE X G dl e d)(hs:autoParam (swapsWith e none pos.line X.env=pure false) jp):ES X G E dl (.Expr e pos) (.nx dl):=
 l9 (jf h hs) fun D st H zq=>zn zq fun Hf S k=>fun v ar H1 g1 r1=>k st ar H1 g1.a6 (S.grow g1)
theorem aq (n:Nat){x:Str}{pos':Pos}(hN:X.N.Nodup)(he:EE X G dl e d)(hi:autoParam (X.N[n]?=some x) jp)(hx:autoParam (Loc X.env.scope x) v0)(hs:autoParam (swapsWith e (some (.Name x pos')) pos.line X.env=pure false) jp)(hf:autoParam (X.fn x=true\/X.env.scope.names.lookup x=some .local) xL):ES X G E dl (.Assign [.Name x pos'] e pos) (.nx (dl.set n (.val d))):=
 l9 (pX hN hi hx he hs hf) fun D st H zq=>zn zq fun Hf S k=>fun v ar H1 g1 r1=>k _ ar H1 g1.a6 ((S.grow g1).set r1)
inductive eF (X:Cx)(G:Gr)(E:XK)(body:List Stmt)(S:Nat->List Slot)(pre:Nat->List Slot)(n m:Nat):Out->Prop
 | all (h:m=n):eF X G E body S pre n m (.nx (S n))
 | rt {d:Dt} (h:m < n) (hb:gQ X G E (pre m) body (.rt d)):eF X G E body S pre n m (.rt d)
 | ro {d:Own} (h:m < n) (hb:gQ X G E (pre m) body (.ro d)):eF X G E body S pre n m (.ro d)
 | bk {dl':List Slot} (h:m < n) (hb:gQ X G E (pre m) body (.bk dl')):eF X G E body S pre n m (.nx dl')
 | ex {c:Value} {fs:List (Str×Dt)} (h:m < n) (hb:gQ X G E (pre m) body (.ex c fs)):eF X G E body S pre n m (.ex c fs)
inductive Goes (X:Cx)(G:Gr)(E:XK)(body:List Stmt)(pre post:List Slot):Prop
 | nx {dl':List Slot} (hb:gQ X G E pre body (.nx dl')) (l:Le post dl')
 | ct {dl':List Slot} (hb:gQ X G E pre body (.ct dl')) (l:Le post dl')
def qE (X:Cx)(G:Gr)(E:XK)(body:List Stmt):TS:=fun D st H=>∃ pre o,gQ X G E pre body o/\tO X.K G E pre o D st H
theorem kN {body:List Stmt}:oe X body (qE X G E body):=fun pins s st H D J ⟨pre,o,h,q⟩=>h pins s st H D J q
theorem iV {body:List Stmt}{pre post:List Slot}{D:Ends}{st:L2.St}{Hf H:Hp}(g:Goes X G E body pre post)(S:bE X.K G st Hf H pre)(hn:∀ st au H,ax Hf au->bE X.K G st au H post->D.nx st H)(hc:∀ st au H,ax Hf au->bE X.K G st au H post->D.ct st H):qE X G E body D st H:=by
 cases g with
 | nx hb l=>exact⟨_,_,hb,Hf,S,fun dw au H' s' S'=>hn dw au H' s' (S'.weak l)⟩
 | ct hb l=>exact⟨_,_,hb,Hf,S,fun dw au H' s' S'=>hc dw au H' s' (S'.weak l)⟩
theorem iW {body:List Stmt}{S pre:Nat->List Slot}{n m:Nat}{D D':Ends}{st:L2.St}{Hf H:Hp}(e:eF X G E body S pre n m o)(hm:m < n)(S':bE X.K G st Hf H (pre m))(k:iA X.K G E D Hf o)(hr:D'.rt=D.rt)(oK:D'.bk=D.nx):qE X G E body D' st H:=by
 cases e with
 | all h=>omega
 | rt h hb=>exact⟨_,_,hb,Hf,S',by show ∀ v Hf H,_->_->D'.rt v H;rw[hr];exact k⟩
 | ro h hb=>exact⟨_,_,hb,Hf,S',by show ∀ v Hf H,_->_->_->_->D'.rt _ H;rw[hr];exact k⟩
 | bk h hb=>exact⟨_,_,hb,Hf,S',by show ∀ v Hf H,_->_->D'.bk v H;rw[oK];exact k⟩
 | ex h hb=>exact⟨_,_,hb,Hf,S',k⟩
theorem qF (nN:Nat){x:Str}{px:Pos}{body:List Stmt}{lo:Int}{n m:Nat}(S:Nat->List Slot)(hN:X.N.Nodup)(eG:X.calm=true)(hp:PassesOwn (model X.prog X.w) X.A X.env X.xe){wi:TI}{iter:Expr}(hI:PI X (.Name x px) iter wi)(hw:∀ st Hf H R,bE X.K G st Hf H dl->(∀ au H',aK Hf H au H'->R (wB lo n) H')->wi st H R)(h0:Le (S 0) dl)(BQ:m<=n)(hb:∀ k,k < m->Goes X G E body ((S k).set nN (.val (.int (lo+k)))) (S (k+1)))(he:eF X G E body S (fun k=>(S k).set nN (.val (.int (lo+k)))) n m o)(hi:autoParam (X.N[nN]?=some x) jp)(hx:autoParam (Loc X.env.scope x) v0)(hf:autoParam (X.fn x=true\/X.env.scope.names.lookup x=some .local) xL)(hs:autoParam (∀ x,foldedSetIterable iter X.env x=pure x) va):ES X G E dl (.For (.Name x px) iter body [] pos) o:=by
 refine l9 (lV hp eG hI (bc hN hi hx hf) (kN (G:=G) (E:=E)) hs) fun D st H ⟨Hf,S0,k⟩=>hw st Hf H _ S0 fun au H' g=>?_
 refine oo (lo:=lo) (n:=n) (fun j st H=>j<=m/\∃ ar,ax Hf ar/\bE X.K G st ar H (S j)) ⟨GO _,au,g.a6,(S0.grow g).weak h0⟩ (fun j st H hj ⟨FO,ar,s1,Sj⟩=>?_) (fun st H ⟨FP,ar,s1,Sn⟩=>?_)
 . have Sp:bE X.K G (st.set nN (some (.int (lo+j)))) ar H ((S j).set nN (.val (.int (lo+j)))):=Sj.set (.int _)
   by_cases cf:j < m
   . exact iV (hb j cf) Sp (fun st a8 H s2 S'=>⟨cf,a8,s1.trans s2,S'⟩) (fun st a8 H s2 S'=>⟨cf,a8,s1.trans s2,S'⟩)
   . have e:j=m:=by omega
     subst e;exact iW he hj Sp (k.mono s1) rfl rfl
 . have e:m=n:=by omega
   subst e;cases he with
   | all _=>exact k st ar H s1 Sn
   | rt h _=>omega
   | ro h _=>omega
   | bk h _=>omega
   | ex h _=>omega
theorem dA (nN:Nat){x:Str}{p px pc:Pos}{body:List Stmt}{n:Int}{m:Nat}(S:Nat->List Slot)(hN:X.N.Nodup)(eG:X.calm=true)(hp:PassesOwn (model X.prog X.w) X.A X.env X.xe)(zI:X.mg "range"=none)(ha:EA X G dl [a] [.int n])(hn:-(2 ^ 62)<=n/\n < 2 ^ 62)(h0:Le (S 0) dl)(BQ:m<=n.toNat)(hb:∀ k:Nat,k < m->Goes X G E body ((S k).set nN (.val (.int k))) (S (k+1)))(he:eF X G E body S (fun k=>(S k).set nN (.val (.int k))) n.toNat m o)(hg:autoParam (Gl X "range") jp)(hi:autoParam (X.N[nN]?=some x) jp)(hx:autoParam (Loc X.env.scope x) v0)(hf:autoParam (X.fn x=true\/X.env.scope.names.lookup x=some .local) xL)(BR:autoParam (starEach [a] X.env=[(false,eval a X.env)]) jp)(hs:autoParam (∀ z,foldedSetIterable (.Call (.Name "range" p) [a] [] pc) X.env z=pure z) va):ES X G E dl (.For (.Name x px) (.Call (.Name "range" p) [a] [] pc) body [] pos) o:=by
 have ez:∀ k:Nat,(0:Int)+k=k:=fun k=>Int.zero_add _
 have eS:(fun k:Nat=>(S k).set nN (.val (.int ((0:Int)+k))))=fun k:Nat=>(S k).set nN (.val (.int k)):=by funext k;rw[ez]
 refine qF nN (lo:=0) (n:=n.toNat) (m:=m) S hN eG hp (oj hg zI ha BR) (fun st Hf H R S0 h=>⟨Hf,S0,fun vs ar H1 g1 r1=>?_⟩) h0 BQ (fun k hk=>by rw[ez];exact hb k hk) (by rw[eS];exact he) hi hx hf hs;cases r1 with
 | cons r t=>cases t;cases r;exact⟨n,rfl,hn.1,hn.2,h ar H1 g1⟩
inductive Res where
 | ret (d:Dt)
 | own (w:Own)
 | exc (c:Value) (fs:List (Str×Dt))
def xn (K:W.Frag)(Hf H:Hp)(Q:VK)(E:XK):Res->Prop
 | .ret d=>∀ v au H',aK Hf H au H'->Rep K au v d->Q v H'
 | .own w=>∀ p au H',aK Hf H au H'->H p=none->au p=none->bP K au H' p w->Q (.ref p) H'
 | .exc c fs=>∀ od au H',aK Hf H au H'->ExcAt K au od fs->E c od H'
def qG (K:W.Frag)(n:Nat)(R:List Dt->Res->Prop):Sp:=fun vs H Q E=>∃ Hf ds r,ax Hf H/\aN K Hf vs ds/\ds.length=n/\R ds r/\xn K Hf H Q E r
def qH (CX:cW):Prop:=∀ outer H s e s',CX outer H s E0 e s'->False
theorem bY:qH C3:=fun _ _ _ _ _ h=>h
theorem qH.passes {CX:cW}(n:qH CX):Passes CX X E0:=fun _ _ _ _ _ _ _ h=>(n _ _ _ _ _ h).elim
noncomputable def slots (N:List Str)(ds:List Dt):List Slot:=ds.map Slot.val ++ Ga (N.length - ds.length) .bX
theorem iX {K:W.Frag}{N:List Str}{Hf H:Hp}{vs:List V}{ds:List Dt}(s:ax Hf H)(r:aN K Hf vs ds):bE K ⟨Hf,H⟩ (start N vs) Hf H (slots N ds):=by
 have hl:=r.length;have jc:∀ (i:Nat) o,(slots N ds)[i]?≠some (.own o):=fun i o h=>by
   unfold slots at h;by_cases hi:i < ds.length
   . rw[Gf (by simpa using hi),Gb] at h
     cases e:ds[i]? with
     | none=>rw[e] at h;cases h
     | some a=>rw[e] at h;cases h
   . rw[Gh (by simpa using hi),GI] at h
     split at h <;> cases h
 refine⟨.refl s,?_,fun i d h=>?_,fun i o h=>absurd h (jc i o),fun i j o o' a h=>absurd h (jc i o)⟩
 . unfold L2.start slots
   simp[hl]
 . unfold slots at h
   by_cases hi:i < ds.length
   . rw[Gf (by simpa using hi),Gb] at h
     cases e:ds[i]? with
     | none=>rw[e] at h;cases h
     | some a=>
       rw[e] at h;cases h;obtain⟨v,h1,h2⟩:=r.get e;refine⟨v,?_,h2⟩;unfold L2.start;rw[Gf (by simp;omega),Gb,h1];rfl
   . rw[Gh (by simpa using hi),GI] at h
     split at h <;> cases h
inductive Comes:Out->Res->Prop
 | rt (d:Dt):Comes (.rt d) (.ret d)
 | ro (d:Own):Comes (.ro d) (.own d)
 | nx (dl:List Slot):Comes (.nx dl) (.ret .a7)
 | kn {dl:List Slot} {d:Dt} (h:∀ K G st Hf H,bE K G st Hf H dl->Rep K Hf .a7 d):Comes (.nx dl) (.ret d)
 | ex (c:Value) (fs:List (Str×Dt)):Comes (.ex c fs) (.exc c fs)
theorem Comes.ends {K:W.Frag}{Hf H:Hp}{Q:VK}{o:Out}{r:Res}(h:Comes o r)(k:xn K Hf H Q E r):iA K ⟨Hf,H⟩ E { nx:=fun _ H'=>Q .a7 H',rt:=Q} Hf o:=by
 cases h with
 | rt d=>exact k
 | ro d=>exact k
 | nx dl=>exact fun st au H' s' S=>k _ au H' S.gr .a7
 | kn h=>exact fun st au H' s' S=>k _ au H' S.gr (h _ _ _ _ _ S)
 | ex c fs=>exact k
theorem kP {P:Program}{w:World}{K:W.Frag}{mg:Str->Option Value}{base:Heap}{CX:cW}{x qual:Str}{st:Stmt}{f:Addr}{fd:FuncData}{N ps:List Str}{k n:Nat}{R:List Dt->Res->Prop}(F:xb K x qual st f fd)(S:aA N ps (af st))(hn:ps.length=n)(dc:∀ (aR:Value) (A:Around) (outer:List Env) (s:Shared) (H:Hp) (E:XK) (G:Gr) (ds:List Dt) (r:Res),aV k (A.deeper (envOfC qual (af st) s.heap.objs.size f aR))->ds.length=n->R ds r->∃ o,Comes o r/\gQ (cE CX P w K mg base N qual (af st) f aR A outer s H E) G E (slots N ds) (aH st) o):cz P w K mg base CX (k+1) f fd ps (qG K n R):=by
 obtain⟨oc,od,kV,doc,pm,an,aR,ct,iu,rfl,lk,ee⟩:=F.ex;refine vF lk ee S (fun vs H Q E zq=>by obtain⟨Hf,ds,r,s,rp,hl,_⟩:=zq;rw[rp.length,hl,hn]) fun A outer s H vs Q E hr zq=>?_;obtain⟨Hf,ds,r,sm,rp,hl,hR,hk⟩:=zq
 obtain⟨o,hc,hb⟩:=dc aR A outer s H E ⟨Hf,H⟩ ds r hr hl hR;exact⟨_,hb,Hf,iX sm rp,hc.ends hk⟩
section
variable {CX:cW}{k n:Nat}{f C:Addr}{fd:FuncData}{ps:List Str}{R:List Dt->Res->Prop}{m:Str}{p apos:Pos}{ob:Expr}{dvs:List Dt}{vds:List V}{xp:List Value}{fs:List (Str×Dt)}
theorem t8 (F:cz X.prog X.w X.K X.mg X.base CX k f fd ps (qG X.K n R))(nx:qH CX)(hr:aV k X.A)(hm:X.mg x=some (.ref f))(hk:W.keepIn X.K (.ref f)=true)(hb:Binds X.K fd ps xp)(hd:Vals vds xp)(BS:∀ H,aN X.K H vds dvs)(ha:EA X G dl (e::es) ds)(hl:(ds ++ dvs).length=n)(h:R (ds ++ dvs) (.ret d))(hg:autoParam (Gl X x) jp)(cL:autoParam ((x == ("__debug__":Str))=false) xz)(he:autoParam (starEach (e::es) X.env=(false,eval e X.env)::starEach es X.env) jp)(cZ:autoParam ((backTo pos (starEach es X.env)).any (·.1)=false) jp):EE X G dl (.Call (.Name x p) (e::es) [] pos) d:=
 cu (jj (E:=E0) F hr hg hm hk hb hd nx.passes ha cL he cZ) fun st H Q zq=>zn zq fun Hf S k=>fun vs ar H1 g1 r1=>⟨ar,ds ++ dvs,.ret d,g1.sub,r1.append (BS _),hl,h,fun v a8 H2 g2 r2=>k v a8 H2 (g1.trans g2) r2⟩
theorem t9 {pl:Sem Bool}(he:EE X G dl ob (.obj C fs))(c:kA X.K C)(hm:Meth X.K C m f)(F:cz X.prog X.w X.K X.mg X.base CX k f fd ps (qG X.K n R))(nx:qH CX)(hr:aV k X.A)(hb:Binds X.K fd ps xp)(hd:Vals vds xp)(BS:∀ H,aN X.K H vds dvs)
   (ha:EA X G dl (e::es) ds) (hl:(.obj C fs::(ds ++ dvs)).length=n) (h:R (.obj C fs::(ds ++ dvs)) (.ret d)) (lM:fs.lookup m=none)
   (e7:autoParam (starEach (e::es) X.env=(false,eval e X.env)::starEach es X.env) jp) (cZ:autoParam ((backTo pos (starEach es X.env)).any (·.1)=false) jp)
   (ht:autoParam (eval (.Call (.Attribute ob m apos) (e::es) [] pos) X.env=(do
     let ov <- eval ob X.env
     standAt apos.atName
     let (f,first) <- holding [ov] (getMethod ov m pl)
     callWith pos f first (backTo pos (starEach (e::es) X.env)) (backToKw pos (keywordEach [] X.env)))) jp):EE X G dl (.Call (.Attribute ob m apos) (e::es) [] pos) d:=
 cu (tK (pl:=pl) (E:=E0) he c hm F hr hb hd nx.passes ha e7 cZ ht) fun st H Q zq=>zn zq fun Hf S k=>fun v ar H1 g1 r1=>by
   cases r1 with
   | @obj a _ dx fv _ q r=>
     exact⟨a,dx,fv,rfl,cM g1.sub q,r.none_of lM,ar,S.grow g1,fun vs a8 H2 g2 r2=>⟨a8,_,.ret d,g2.sub,.cons (.obj (cM g2.a6 q) (r.mono g2.a6)) (r2.append (BS _)),hl,h,fun v kl H3 g3 r3=>k v kl H3 ((g1.trans g2).trans g3) r3⟩⟩
end
end
section
variable {X:Cx}{G:Gr}{dl:List Slot}{a b c e:Expr}{i j:Int}{d d1 d2:Dt}{ds:List Dt}{pos p:Pos}{o:Out}{x y f:Str}{v:Bool}{s:Stmt}{C:Addr}{fs:List (Str×Dt)}
theorem zJ {T:String}(hm:X.mg x=none)(hv:bootBuiltins x=some (.type T))(hg:autoParam (Gl X x) jp)(hn:autoParam (x≠"__name__") xz)(hd:autoParam ((x == ("__debug__":Str))=false) xz):EE X G dl (.Name x pos) (.ty T):=
 cu (tf (v:=.ty T) hg hm hv rfl hn hd) fun st H Q zq=>ou zq fun Hf zq=>have S:=zq.1;have k:=zq.2;k _ Hf H (.refl S.sub) (.ty T)
theorem qI (hm:X.mg x=some (.ref C))(hg:autoParam (Gl X x) jp)(hd:autoParam ((x == ("__debug__":Str))=false) xz):EE X G dl (.Name x pos) (.cls C):=
 cu (m4 (v:=.ref C) hg hm rfl hd) fun st H Q zq=>ou zq fun Hf zq=>have S:=zq.1;have k:=zq.2;k _ Hf H (.refl S.sub) (.cls C)
theorem eI {w:V}{z:Value}(hm:X.mg x=some z)(r:RelV w z)(hr:∀ H,Rep X.K H w d)(hg:autoParam (Gl X x) jp)(hd:autoParam ((x == ("__debug__":Str))=false) xz):EE X G dl (.Name x pos) d:=
 cu (m4 hg hm r hd) fun st H Q zq=>ou zq fun Hf zq=>have S:=zq.1;have k:=zq.2;k _ Hf H (.refl S.sub) (hr _)
theorem boot_str:bootBuiltins "str"=some (.type "str"):=by decide +kernel
theorem boot_list:bootBuiltins "list"=some (.type "list"):=by decide +kernel
structure xq (K:W.Frag)(C:Addr):Prop where
 makes:W.makesIn K C=true
 init:W.findIn K (.ref C) "__init__"=some (some (.builtin "object.__init__"))
 kp:W.keepIn K (.ref C)=true
theorem oM {pins:List (Addr×Obj)}{st:L2.St}{H:Hp}{s:Shared}{Q:VK}(M:xq X.K C)(I:L2.Inv X pins st H s)(h:∀ x dx,H x=none->H dx=none->dx≠x->Q (.ref x) (upd (upd H dx (.own x)) x (.ins C dx []))):wpAny (model X.prog X.w) X.A (call (.ref C) []) (EP X pins st Q) X.xe s:=by
 have hq:=h (s.heap.objs.size+1) s.heap.objs.size (I.aF.fresh (Hd _)) (I.aF.fresh (DU _)) (Gd (G4 _));have I2:=L2.Inv.made (C:=C) I;refine wpAny_call (ot (s:=s) I.cw M.makes M.init (fun self=>W.Looks.of_pure (W.oi_bind self)) ?_);obtain⟨hh,g,d,t,os⟩:=s;have Y:=W.makes_of (M:=model X.prog X.w) I.cw M.makes;have t1:W.Looks (model X.prog X.w) ((hh.push W.emptyDict).push (W.instObj C hh.objs.size)) (typeOf (.ref (hh.objs.size+1))) (.ref C):=by
   have e2:=Gp (hh.push W.emptyDict) (o:=W.instObj C hh.objs.size) rfl;rw[Ht] at e2;exact(W.Looks.ld e2).andThen .now
 have t2:W.Looks (model X.prog X.w) ((hh.push W.emptyDict).push (W.instObj C hh.objs.size)) (isInstance (.ref (hh.objs.size+1)) (.type "object")) true:=t1.andThen (Y.top.keeps fun b o e=>F0 _ (F0 _ e));refine codeAny_call_builtin W.oi_plain W.entry_oi (@W.check_slot (model X.prog X.w) _ _ _ "object.__init__" "object" "__init__" (.ref (hh.objs.size+1)) [] [] _ W.oi_kind W.oi_split t2 (W.oi_args (.ref (hh.objs.size+1))) ?_);rw[W.oi_run];exact wpAny_pure (And.intro rfl ⟨V.ref (hh.objs.size+1),_,I2,rfl,hq⟩)
theorem qJ (he:EE X G dl e (.obj C fs))(c:kA X.K C)(n:ck X.K C f)(h:fs.lookup f=some d)(hb:autoParam (attributeBase e f X.env (eval e X.env)=eval e X.env) jp):EE X G dl (.Attribute e f pos) d:=
 cu (qd he hb) fun st H Q zq=>zn zq fun Hf S k=>fun v ar H1 g1 r1=>by
   cases r1 with
   | @obj a _ dx fv _ q r=>
     obtain⟨y,h1,h2⟩:=r.lookup h;exact⟨a,C,dx,fv,y,rfl,cM g1.sub q,c,n,h1,k y ar H1 g1 h2⟩
theorem nu (hm:X.mg "len"=none)(ha:EE X G dl a (.lst ds))(hg:autoParam (Gl X "len") jp)(he:autoParam (starEach [a] X.env=[(false,eval a X.env)]) jp):EE X G dl (.Call (.Name "len" p) [a] [] pos) (.int ds.length):=
 cu (de eC hg hm PySem.boot_len (ae ha ak he) (he:=he)) fun st H Q zq=>zn zq fun Hf S k=>fun vs ar H1 g1 r1=>by
   cases r1 with
   | cons r t=>cases t;cases r with
     | @lst q vs _ z w=>exact⟨q,vs,rfl,.inl (.of (g1.sub _ _ z)),by rw[w.length];exact k _ ar H1 g1 (.int _)⟩
theorem ua {ns:List Int}(hm:X.mg "len"=none)(ha:EE X G dl a (.fT ns))(hg:autoParam (Gl X "len") jp)(he:autoParam (starEach [a] X.env=[(false,eval a X.env)]) jp):EE X G dl (.Call (.Name "len" p) [a] [] pos) (.int ns.length):=
 cu (de eC hg hm PySem.boot_len (ae ha ak he) (he:=he)) fun st H Q zq=>zn zq fun Hf S k=>fun vs ar H1 g1 r1=>by
   cases r1 with
   | cons r t=>cases t;cases r with
     | @fT q _ z=>exact⟨q,_,rfl,.inl (g1.sub.seq z),by rw[Bn];exact k _ ar H1 g1 (.int _)⟩
theorem gx (hm:X.mg "len"=none)(ha:EE X G dl a (.str x))(hl:x.length<=sizeLine)(hg:autoParam (Gl X "len") jp)(he:autoParam (starEach [a] X.env=[(false,eval a X.env)]) jp):EE X G dl (.Call (.Name "len" p) [a] [] pos) (.int x.length):=
 cu (de jq hg hm PySem.boot_len (ae ha ak he) (he:=he)) fun st H Q zq=>zn zq fun Hf S k=>fun vs ar H1 g1 r1=>by
   cases r1 with
   | cons r t=>cases t;cases r;exact⟨x,rfl,hl,k _ ar H1 g1 (.int _)⟩
noncomputable def BU:Dt->Value
 | .a7=>.type "NoneType"
 | .bl _=>.type "bool"
 | .int _=>.type "int"
 | .str _=>.type "str"
 | .tup _=>.type "tuple"
 | .lst _=>.type "list"
 | .fT _=>.type "list"
 | .bW _=>.type "dict"
 | .obj C _=>.ref C
 | .ty _=>.type "type"
 | .cls _=>.type "type"
 | .xo C=>.ref C
 | .iz _=>.type "dict"
 | .qx C _=>.ref C
 | .f9 _=>.type "dict"
 | .memo _ _ _ _=>.type "list"
 | .dP _ _ _ _=>.type "list"
 | .sU _ _ _=>.type "NoneType"
 | .l6 C _ _ _ _=>.ref C
 | _=>.type "object"
structure AW (K:W.Frag)(C:Addr):Prop where
 cl:kA K C
 ha:W.findIn K (.ref C) "__class__"=some (some (.builtin "object.__class__"))
 hn:W.specialIn K (.builtin "object.__class__") "__get__"=some (some (.builtin "getset_descriptor.__get__"))
 wN:W.takesIn K (.builtin "object.__class__")=some true
 hm:W.mroIn K C (.type "object")=some true
def xr (K:W.Frag):Dt->Prop
 | .obj C _=>AW K C
 | .xo C=>vK K C
 | .qx C _=>vK K C
 | .memo _ _ _ _=>False
 | .dP _ _ _ _=>False
 | .sU _ _ _=>False
 | .l6 C _ _ _ _=>AW K C
 | .iR _=>False
 | .cX _=>False
 | .ty _=>False
 | .cls _=>False
 | _=>True
noncomputable def zK:Dt->Option Value
 | .ty n=>some (.type n)
 | .cls C=>some (.ref C)
 | _=>none
theorem qK {pins:List (Addr×Obj)}{st:L2.St}{Hf H:Hp}{s:Shared}{Q:Value->Shared->Prop}{w:V}{z c:Value}{r:Bool}(I:L2.Inv X pins st H s)(sm:ax Hf H)(rp:Rep X.K Hf w d)(rx:RelV w z)(t:xr X.K d)(e:W.kitOne X.K (BU d) c=some r)(h:∀ tk,Q (.bool r) { s with toks:=tk}):wpAny (model X.prog X.w) X.A (call (.builtin "isinstance") [z,c]) Q X.xe s:=by
 cases rp with
 | a7=>cases (show z=Value.none from rx);exact W.kia_one W.kitx_none I.cw True.intro e (fun z=>nomatch z) h
 | bl y=>cases (show z=Value.bool y from rx);exact W.kia_one W.kitx_bool I.cw True.intro e (fun z=>nomatch z) h
 | int i=>obtain⟨t,q⟩:=(show ∃ t,z=Value.int i t from rx);cases q;exact W.kia_one W.kitx_int I.cw True.intro e (fun z=>nomatch z) h
 | str y=>obtain⟨t,q⟩:=(show ∃ t,z=Value.str y t from rx);cases q;exact W.kia_one W.kitx_str I.cw True.intro e (fun z=>nomatch z) h
 | @tup a vs ds q rr=>
   cases (show z=Value.ref a from rx);obtain⟨aB,_,⟨o,h1,h2,_⟩,_⟩:=I.tuple (aT sm q);exact W.kia_one W.kitx_tuple I.cw ⟨o,h1,h2⟩ e (fun z=>nomatch z) h
 | @lst a vs ds q rr=>
   cases (show z=Value.ref a from rx);obtain⟨aB,_,⟨o,n,h1,h2,_⟩,_⟩:=I.list (.of (sm _ _ q));exact W.kia_one W.kitx_list I.cw ⟨o,h1,h2⟩ e (fun z=>nomatch z) h
 | @fT a ns q=>
   cases (show z=Value.ref a from rx);obtain⟨aB,_,⟨o,n,h1,h2,_⟩,_⟩:=I.list (sm.seq q);exact W.kia_one W.kitx_list I.cw ⟨o,h1,h2⟩ e (fun z=>nomatch z) h
 | @bW a kvs kds q rr=>
   cases (show z=Value.ref a from rx);exact fj (x:=.ref a) I rfl (.dK (sm _ _ q)) e h
 | @obj a C dx fv fs q rr=>
   cases (show z=Value.ref a from rx);have t:AW X.K C:=t;exact fj (x:=.ref a) I rfl (.ins (cM sm q) t.cl t.ha t.hn t.wN t.hm) e h
 | ty n=>exact t.elim
 | cls C=>exact t.elim
 | @xo a C ph q hp=>
   cases (show z=Value.ref a from rx);have t:vK X.K C:=t;have ok:aD X.prog X.w H s.heap a (.ext ph):=I.aF a _ (sm _ _ q);exact W.kia_one (kK t) I.cw (hp _ ok.1) e (fun z=>nomatch z) h
 | @iz a ob kvs kds q rr=>
   cases (show z=Value.ref a from rx);obtain⟨_,_,vs,_,D⟩:=iQ (kvs:=kvs) I.aF (.inr (.inl ⟨ob,sm _ _ q⟩));exact W.kia_one W.kitx_dict I.cw D.typeIs e (fun z=>nomatch z) h
 | @qx a C dx ph fv fs q hp g rr=>
   cases (show z=Value.ref a from rx);have t:vK X.K C:=t;have ok:aD X.prog X.w H s.heap a (.ext ph):=I.aF a _ (sm _ _ q);exact W.kia_one (kK t) I.cw (hp _ ok.1).of e (fun z=>nomatch z) h
 | @f9 a tg ob kvs kds q rr=>
   cases (show z=Value.ref a from rx);obtain⟨_,_,vs,_,D⟩:=iQ (kvs:=kvs) I.aF (.inr (.inr (.inl ⟨tg,ob,kvs,sm _ _ q,rfl⟩)));exact W.kia_one W.kitx_dict I.cw D.typeIs e (fun z=>nomatch z) h
 | memo=>exact t.elim
 | dP=>exact t.elim
 | iR=>exact t.elim
 | cX=>exact t.elim
 | sU=>exact t.elim
 | @l6 a _ C dx fv fs gs nm n ls _ q rr=>
   cases (show z=Value.ref a from rx);have t:AW X.K C:=t;exact fj (x:=.ref a) I rfl (.ins (cM sm q) t.cl t.ha t.hn t.wN t.hm) e h
theorem boot_isinstance:bootBuiltins "isinstance"=some (.builtin "isinstance"):=by decide +kernel
def BV (K:W.Frag)(d d2:Dt)(r:Bool):List V->Hp->VK->Prop:=fun xs H Q=>∃ Hf w c,xs=[w,c]/\ax Hf H/\Rep K Hf w d/\Rep K Hf c d2/\Q (.bl r) H
theorem qL {r:Bool}{z:Value}(hc:zK d2=some z)(t:xr X.K d)(h:W.kitOne X.K (BU d) z=some r):fQ X (.builtin "isinstance") (BV X.K d d2 r):=by
 intro pins s st H xs us Q I rv zq;obtain⟨Hf,w,c,e,sm,r1,r2,q⟩:=zq;subst e;cases rv with
 | cons q1 t1=>
   cases t1 with
   | cons q2 t2=>
     cases t2;rename_i ud uc;have ez:uc=z:=by
       cases r2 with
       | ty n=>cases hc;exact q2
       | cls C=>cases hc;exact q2
       | _=>cases hc
     subst ez;exact qK I sm r1 q1 t h fun tk=>⟨.bl r,H,I.tok _,rfl,q⟩
theorem me {r:Bool}{z:Value}(hm:X.mg "isinstance"=none)(ha:EE X G dl a d)(hb:EE X G dl b d2)(hc:zK d2=some z)(t:xr X.K d)(h:W.kitOne X.K (BU d) z=some r)(hg:autoParam (Gl X "isinstance") jp)(he:autoParam (starEach [a,b] X.env=(false,eval a X.env)::starEach [b] X.env) jp)(BW:autoParam (starEach [b] X.env=[(false,eval b X.env)]) jp)(cZ:autoParam ((backTo pos (starEach [b] X.env)).any (·.1)=false) jp):EE X G dl (.Call (.Name "isinstance" p) [a,b] [] pos) (.bl r):=
 cu (de (qL hc t h) hg hm boot_isinstance (ae ha (ae hb ak BW) he) (by decide) (by decide) he cZ) fun st H Q zq=>zn zq fun Hf S k=>fun vs ar H1 g1 r1=>by
   cases r1 with
   | cons r1 t1=>cases t1 with
     | cons r2 t2=>cases t2;exact⟨ar,_,_,rfl,g1.sub,r1,r2,k _ ar H1 g1 (.bl _)⟩
mutual
noncomputable def pd:Dt->PyData
 | .a7=>.none
 | .bl b=>.bool b
 | .int i=>.int i
 | .str x=>.str x
 | .tup ds=>.tuple (BX ds)
 | .lst ds=>.list (BX ds)
 | .fT _=>.none
 | .bW _=>.none
 | .obj _ _=>.none
 | .ty _=>.none
 | .cls _=>.none
 | .xo _=>.none
 | .iz _=>.none
 | .qx _ _=>.none
 | .f9 _=>.none
 | .memo _ _ _ _=>.none
 | .dP _ _ _ _=>.none
 | .sU _ _ _=>.none
 | .l6 _ _ _ _ _=>.none
 | .iR _=>.none
 | .cX _=>.none
noncomputable def BX:List Dt->List PyData
 | []=>[]
 | d::r=>pd d::BX r
end
mutual
noncomputable def plain:Dt->Bool
 | .tup ds=>mf ds
 | .lst ds=>mf ds
 | .fT _=>false
 | .bW _=>false
 | .obj _ _=>false
 | .ty _=>false
 | .cls _=>false
 | .xo _=>false
 | .iz _=>false
 | .qx _ _=>false
 | .f9 _=>false
 | .memo _ _ _ _=>false
 | .dP _ _ _ _=>false
 | .sU _ _ _=>false
 | .l6 _ _ _ _ _=>false
 | .iR _=>false
 | .cX _=>false
 | .a7=>true
 | .bl _=>true
 | .int _=>true
 | .str _=>true
noncomputable def mf:List Dt->Bool
 | []=>true
 | d::r=>plain d && mf r
end
theorem zL (ha:EE X G dl a (.int i))(hb:EE X G dl b (.int j)):EB X G dl (.Compare a [.Lt] [b] pos) (decide (i < j)):=jx zk (iU (g':=fun i j=>.bl (decide (i < j))) fun _ _ _ _=>.bl _) (gM _) ha hb
theorem kQ (ha:EE X G dl a (.int i))(hb:EE X G dl b (.int j)):EB X G dl (.Compare a [.Gt] [b] pos) (decide (j < i)):=jx zl (iU (g':=fun i j=>.bl (decide (j < i))) fun _ _ _ _=>.bl _) (gM _) ha hb
theorem mh {K:W.Frag}{w1 w2:V}{g:Bool->Bool}(h1:∀ H w,Rep K H w d1->w=w1)(h2:∀ H w,Rep K H w d2->w=w2)(hs:wJ w1 w2=true):oI K (fun x y H Q=>wJ x y=true/\Q (.bl (g (decide (x=y)))) H) d1 d2 (.bl (g (decide (w1=w2)))):=fun v w Hf H Q s r1 r2 k=>by
 cases h1 _ _ r1;cases h2 _ _ r2;exact⟨hs,k _ Hf H (.refl s) (.bl _)⟩
theorem gm (i j:Int):decide (V.int i=V.int j)=decide (i=j):=by simp
theorem jh (i j:Str):decide (V.str i=V.str j)=decide (i=j):=by simp
theorem xu (ha:EE X G dl a (.int i))(hb:EE X G dl b (.int j)):EE X G dl (.Compare a [.Eq] [b] pos) (.bl (decide (i=j))):=by
 rw[<- gm];exact jw p8 (mh (g:=id) (fun _ _ r=>by cases r;rfl) (fun _ _ r=>by cases r;rfl) rfl) (gM _) ha hb
theorem jy (ha:EE X G dl a (.int i))(hb:EE X G dl b (.int j)):EB X G dl (.Compare a [.Eq] [b] pos) (decide (i=j)):=by
 rw[<- gm];exact jx p8 (mh (g:=id) (fun _ _ r=>by cases r;rfl) (fun _ _ r=>by cases r;rfl) rfl) (gM _) ha hb
theorem xv (ha:EE X G dl a (.str x))(hb:EE X G dl b (.str y)):EE X G dl (.Compare a [.Eq] [b] pos) (.bl (decide (x=y))):=by
 rw[<- jh];exact jw p8 (mh (g:=id) (fun _ _ r=>by cases r;rfl) (fun _ _ r=>by cases r;rfl) rfl) (gM _) ha hb
end
structure GF (P:Program)(w:World)(K:W.Frag)(mg:Str->Option Value)(base:Heap)(CX:cW)(k:Nat)(x:Str)(n:Nat)(R:List Dt->Res->Prop):Prop where
 ex:∃ f fd ps,cz P w K mg base CX k f fd ps (qG K n R)/\mg x=some (.ref f)/\W.keepIn K (.ref f)=true/\Binds K fd ps []
structure MF (P:Program)(w:World)(K:W.Frag)(mg:Str->Option Value)(base:Heap)(CX:cW)(k:Nat)(C:Addr)(m:Str)(n:Nat)(R:List Dt->Res->Prop):Prop where
 cl:kA K C
 ex:∃ f fd ps,cz P w K mg base CX k f fd ps (qG K n R)/\Meth K C m f/\Binds K fd ps []
section
variable {X:Cx}{G:Gr}{dl:List Slot}{e:Expr}{es:List Expr}{d:Dt}{ds:List Dt}{pos p apos:Pos}{x m:Str}{C:Addr}{fs:List (Str×Dt)}{CX:cW}{k k' n:Nat}{R:List Dt->Res->Prop}{ob:Expr}
theorem bF (F:GF X.prog X.w X.K X.mg X.base CX k x n R)(nx:qH CX)(hr:aV k' X.A)(ha:EA X G dl (e::es) ds)(h:R ds (.ret d))(oN:autoParam (k<=k') xz)(hl:autoParam (ds.length=n) jp)(hg:autoParam (Gl X x) jp)(cL:autoParam ((x == ("__debug__":Str))=false) xz)(he:autoParam (starEach (e::es) X.env=(false,eval e X.env)::starEach es X.env) jp)(cZ:autoParam ((backTo pos (starEach es X.env)).any (·.1)=false) jp):EE X G dl (.Call (.Name x p) (e::es) [] pos) d:=by
 obtain⟨f,fd,ps,F,hm,hk,hb⟩:=F.ex;refine t8 (dvs:=[]) (vds:=[]) F nx (hr.mono oN) hm hk hb .nil (fun _=>.nil) ha (by rw[Gu];exact hl) (by rw[Gu];exact h) hg cL he cZ
theorem qM {pl:Sem Bool}(he:EE X G dl ob (.obj C fs))(F:MF X.prog X.w X.K X.mg X.base CX k C m n R)(nx:qH CX)(hr:aV k' X.A)(ha:EA X G dl (e::es) ds)(h:R (.obj C fs::ds) (.ret d))(oN:autoParam (k<=k') xz)(hl:autoParam ((Dt.obj C fs::ds).length=n) jp)(lM:autoParam (fs.lookup m=none) jp)
   (e7:autoParam (starEach (e::es) X.env=(false,eval e X.env)::starEach es X.env) jp) (cZ:autoParam ((backTo pos (starEach es X.env)).any (·.1)=false) jp)
   (ht:autoParam (eval (.Call (.Attribute ob m apos) (e::es) [] pos) X.env=(do
     let ov <- eval ob X.env
     standAt apos.atName
     let (f,first) <- holding [ov] (getMethod ov m pl)
     callWith pos f first (backTo pos (starEach (e::es) X.env)) (backToKw pos (keywordEach [] X.env)))) jp):EE X G dl (.Call (.Attribute ob m apos) (e::es) [] pos) d:=by
 obtain⟨f,fd,ps,Fo,hm,hb⟩:=F.ex;refine t9 (dvs:=[]) (vds:=[]) (pl:=pl) he F.cl hm Fo nx (hr.mono oN) hb .nil (fun _=>.nil) ha (by rw[Gu];exact hl) (by rw[Gu];exact h) lM e7 cZ ht
end
def KD (h h':Heap):Prop:=∀ (b:Addr) o,h.objs[b]?=some o->∃ o',h'.objs[b]?=some o'/\o'.dict=o.dict
theorem KD.refl (h:Heap):KD h h:=fun _ o e=>⟨o,e,rfl⟩
theorem KD.trans {h1 h2 h3:Heap}(a:KD h1 h2)(b:KD h2 h3):KD h1 h3:=fun x o e=>
 let ⟨o1,e1,d1⟩:=a x o e;let ⟨o2,e2,d2⟩:=b x o1 e1;⟨o2,e2,d2.trans d1⟩
def Calm {α:Type}:Sem α->Prop
 | .pure _=>True
 | .raise _=>True
 | .unsupported _=>True
 | .finish _=>True
 | .rule _ k=>Calm (k ())
 | .at _ k=>Calm (k ())
 | .load _ _ k=>∀ o,Calm (k o)
 | .update _ _ f k=>(∀ o,(f o).dict=o.dict)/\Calm (k ())
 | .alloc _ k=>∀ n,Calm (k n)
 | .loadIfAlive _ k=>∀ o,Calm (k o)
 | .point _ k=>Calm (k ())
 | .fresh k=>∀ n,Calm (k n)
 | .stack k=>∀ l,Calm (k l)
 | .ask k=>∀ l,Calm (k l)
 | .handled _ k=>∀ l,Calm (k l)
 | _=>False
theorem oO (h:Heap)(a:Addr){g:Obj->Obj}(hg:∀ o,(g o).dict=o.dict):KD h (h.update a g):=fun b o e=>by
 obtain⟨objs,l⟩:=h;show ∃ o',(objs.modify a g)[b]?=some o'/\_;rw[Array.getElem?_modify,show objs[b]?=some o from e];by_cases q:a=b
 . rw[if_pos q];exact⟨_,rfl,hg o⟩
 . rw[if_neg q];exact⟨_,rfl,rfl⟩
theorem ub (h:Heap)(o:Obj):KD h (h.push o):=fun b u e=>⟨u,by
 obtain⟨objs,l⟩:=h;show(objs.push o)[b]?=some u;rw[Array.getElem?_push,if_neg (Gd (Array.getElem?_eq_some_iff.mp e).1)];exact e,rfl⟩
theorem ue {α:Type}{M:Model}{Γ:PySem.Ctx}{Q:α->Pos->Shared->Prop}{E:Value->Pos->Shared->Prop}{h0:Heap}(t:Sem α)(c:Calm t)(p:Pos)(s:Shared)(k:KD h0 s.heap)(h:Sem.wp M Γ t Q E p s):Sem.wp M Γ t (fun a p s=>Q a p s/\KD h0 s.heap) E p s:=by
 induction t generalizing p s with
 | pure a=>simp only[Sem.wp_pure] at h ⊢;exact⟨h,k⟩
 | raise e=>simp only[Sem.wp_raise] at h ⊢;exact h
 | unsupported w=>simp only[Sem.wp_unsupported] at h
 | finish w=>simp only[Sem.wp_finish] at h
 | rule t f ih=>rw[Sem.wp] at h ⊢;exact ih () c p s k h
 | «at» t f ih=>rw[Sem.wp] at h ⊢;exact ih () c _ s k h
 | load a q f ih=>rw[Sem.wp] at h ⊢;obtain⟨o,e,h⟩:=h;exact⟨o,e,ih o (c o) p s k h⟩
 | update a q g f ih=>rw[Sem.wp] at h ⊢;exact⟨h.1,ih () c.2 p _ (k.trans (oO _ a c.1)) h.2⟩
 | alloc o f ih=>rw[Sem.wp] at h ⊢;exact ih _ (c _) p _ (k.trans (ub _ o)) h
 | loadIfAlive a f ih=>rw[Sem.wp] at h ⊢;exact ih _ (c _) p s k h
 | point a f ih=>rw[Sem.wp] at h ⊢;exact ih () c p s k h
 | fresh f ih=>rw[Sem.wp] at h ⊢;exact ih _ (c _) p _ k h
 | stack f ih=>rw[Sem.wp] at h ⊢;exact ih _ (c _) p s k h
 | ask f ih=>rw[Sem.wp] at h ⊢;exact ih _ (c _) p s k h
 | handled a f ih=>rw[Sem.wp] at h ⊢;exact ih _ (c _) p s k h
 | _=>exact c.elim
theorem kR {α:Type}{M:Model}{A:Around}{t:Sem α}{Q:α->Shared->Prop}{E:Value->Shared->Prop}{s:Shared}(c:Calm t)(h:wpAny M A t Q E s):wpAny M A t (fun a s'=>Q a s'/\KD s.heap s'.heap) E s:=
 fun Γ p hΓ=>ue t c p s (KD.refl _) (h Γ p hΓ)
theorem mi {α β:Type}{f:α->Sem β}(m:Sem α)(c:Calm m)(h:∀ a,Calm (f a)):Calm (Sem.bind m f):=by
 induction m with
 | pure a=>exact h a
 | raise e=>exact trivial
 | unsupported w=>exact trivial
 | finish w=>exact trivial
 | rule t f ih=>exact ih () c
 | «at» t f ih=>exact ih () c
 | load a q f ih=>exact fun o=>ih o (c o)
 | update a q g f ih=>exact⟨c.1,ih () c.2⟩
 | alloc o f ih=>exact fun o=>ih o (c o)
 | loadIfAlive a f ih=>exact fun o=>ih o (c o)
 | point a f ih=>exact ih () c
 | fresh f ih=>exact fun o=>ih o (c o)
 | stack f ih=>exact fun o=>ih o (c o)
 | ask f ih=>exact fun o=>ih o (c o)
 | handled a f ih=>exact fun o=>ih o (c o)
 | _=>exact c.elim
theorem aG {α β:Type}{m:Sem α}{f:α->Sem β}(c:Calm m)(h:∀ a,Calm (f a)):Calm (m >>= f):=mi m c h
theorem cg (a:Addr):Calm (load a):=fun _=>trivial
theorem d7 (o:Obj):Calm (alloc o):=fun _=>trivial
theorem fW (a:Addr){f:Obj->Obj}(h:∀ o,(f o).dict=o.dict):Calm (update a f):=⟨h,trivial⟩
theorem cm:Calm stack:=fun _=>trivial
theorem iB (v:Value):Calm (fieldsOf v):=by
 unfold fieldsOf
 split
 . refine aG (cg _) fun o=>?_
   split <;> trivial
 . trivial
theorem cn (v:Value)(i:Nat):Calm (field v i):=by
 unfold field;refine aG (iB v) fun vs=>?_
 split <;> trivial
theorem gS (f:Array Value->Array Value)(o:Obj):(Obj.mapFields f o).dict=o.dict:=by
 unfold Obj.mapFields
 split <;> rfl
theorem bB (v:Value)(i:Nat)(x:Value):Calm (setField v i x):=by
 unfold setField
 split
 . unfold updateField
   refine aG (cg _) fun o=>?_
   split
   . split
     . exact fW _ (gS _)
     . trivial
   . trivial
 . trivial
theorem bG (e:Value)(f:Option Addr):Calm (setFlight e f):=by
 unfold setFlight;refine aG (cn _ _) fun tb=>?_
 split
 . exact bB _ _ _
 . trivial
theorem kS (env:Env)(outer:List Env):Calm (behindIsImport env outer):=by
 unfold behindIsImport
 repeat' (first | exact cn _ _ | exact cg _ | exact cm | exact d7 _ | exact bB _ _ _ | exact bG _ _ | exact trivial | refine aG ?_ ?_ | intro _ | split | dsimp only)
theorem gT (ty:String)(vs:List Value):Calm (newFields ty vs):=by
 unfold newFields newObj
 repeat' (first | exact cn _ _ | exact cg _ | exact cm | exact d7 _ | exact bB _ _ _ | exact bG _ _ | exact trivial | refine aG ?_ ?_ | intro _ | split | dsimp only)
theorem gb (f:Addr)(b:Bool):Calm (entryPlaceOf f b):=by
 unfold entryPlaceOf;refine aG cm fun l=>?_
 split <;> trivial
theorem oP (env:Env)(i:Bool)(l:List Env):Calm (keptBack env i l):=by
 cases l with
 | nil=>
   unfold keptBack underTheClaimsCaller
   repeat' (first | exact cn _ _ | exact cg _ | exact cm | exact d7 _ | exact bB _ _ _ | exact bG _ _ | exact trivial | refine aG ?_ ?_ | intro _ | split | dsimp only)
 | cons a l=>trivial
theorem gU:∀ l:List Env,Calm (readyFrames l)
 | []=>trivial
 | env::outer=>by
   unfold readyFrames
   repeat' (first | exact gU outer | exact kS _ _ | exact oP _ _ _ | exact fW _ (fun _=>rfl) | exact cg _ | exact trivial | refine aG ?_ ?_ | intro _ | split)
theorem jz (env:Env):Calm (PySem.frameOf env):=by
 unfold PySem.frameOf;refine aG (aG cm fun _=>trivial) fun l=>aG ?_ fun r=>?_
 . generalize l.dropWhile _=m
   cases m with
   | nil=>trivial
   | cons a m=>exact aG (gU _) fun _=>trivial
 . split <;> trivial
theorem oQ (e:Value)(env:Env):Calm (noteFrame e env):=by
 unfold noteFrame;unfold EntryCells.newEntry
 repeat' (first | exact jz _ | exact gb _ _ | exact gT _ _ | exact bB _ _ _ | exact cn _ _ | exact trivial | refine aG ?_ ?_ | intro _ | split | dsimp only)
theorem eJ (env:Env)(e:Value):Calm (leaving env e):=by
 unfold leaving;exact aG (oQ _ _) fun _=>bG _ _
def fw (h:Heap)(e:Addr)(od:Option Addr):Prop:=∃ o,h.get? e=some o/\o.dict=od
theorem kT {h:Heap}{e:Addr}{o:Obj}(q:h.get? e=some o):h.objs[e]?=some o:=by
 unfold Heap.get? at q
 split at q
 . cases q
 . exact q
theorem fw.keep {h h':Heap}{e:Addr}{od:Option Addr}(d:fw h e od)(k:KD h h')(t:∃ o,h'.get? e=some o):fw h' e od:=by
 obtain⟨o,q,rfl⟩:=d;obtain⟨o1,q1⟩:=t;obtain⟨o2,q2,e2⟩:=k e o (kT q);rw[kT q1] at q2;cases q2;exact⟨o1,q1,e2⟩
def oR (P:Program)(w:World):cW:=fun outer H s E e s'=>∃ (ea:Addr) (C:Value) (od:Option Addr) (H':Hp) (B:Heap) (t:Addr),
 e=.ref ea/\s'.os=s.os/\AllBare s'.gens/\Un (cC outer) [] H H' s.heap s'.heap/\dv P w H' s'.heap/\Heap.FlyingW B outer ea C (.ref t) s'.heap /\
 (∀ b o,s.heap.get? b=some o->H b=none->b ∉ cC outer->B.get? b=some o)/\(∀ b o,s.heap.get? b=some o->b ∉ cC outer->∃ o',B.get? b=some o') /\
 (∀ a o,H' a=some o->∃ ob,B.get? a=some ob)/\s.heap.get? ea=none/\H' ea=none/\fw s'.heap ea od/\E C od H'
theorem zM {P:Program}{w:World}:qH (oR P w):=fun _ _ _ _ _ ⟨_,_,_,_,_,_,_,_,_,_,_,_,_,_,_,_,_,_,h⟩=>h
theorem gW {P:Program}{w:World}{H:Hp}{h:Heap}{a:Addr}:∀ {o:HO},aD P w H h a o->∃ u,h.get? a=some u
 | .lst _,⟨_,_,_,_,e⟩=>⟨_,e⟩
 | .tup _,⟨_,_,_,_,e,_⟩=>⟨_,e⟩
 | .dK _,⟨_,_,_,_,_,_,_,e,_⟩=>⟨_,e⟩
 | .dT _,⟨_,_,_,_,_,_,_,e,_⟩=>⟨_,e⟩
 | .set _ _,x=>by obtain⟨_,_,_,_,e,_⟩:=x;exact⟨_,e⟩
 | .ins _ _ _,⟨_,_,_,e,_⟩=>⟨_,e⟩
 | .own _,⟨_,e⟩=>⟨_,e⟩
 | .xd _,⟨_,x,_⟩=>by obtain⟨_,_,_,e,_⟩:=x;exact⟨_,e⟩
 | .met _ _,e=>⟨_,e⟩
 | .AE _ _,⟨_,_,_,e⟩=>⟨_,e⟩
 | .a6 _ _,⟨e,_⟩=>⟨_,e⟩
 | .vy _,e=>⟨_,e⟩
 | .ext _,⟨_,e,_⟩=>e
 | .memo _,x=>x.1
 | .eh _ _,x=>x.1
 | .part _,e=>e
 | .kd _ _ _,x=>⟨_,x.1⟩
 | .kx _ _,x=>⟨_,x.1⟩
section
variable {P:Program}{w:World}{K:W.Frag}{mg:Str->Option Value}{base:Heap}{N:List Str}{qual:Str}{scope:Scope}{f:Addr}{cd:Value}{A:Around}{outer:List Env}{s0:Shared}{H0:Hp}{E:XK}{CX:cW}
theorem oS:cC (envOfC qual scope s0.heap.objs.size f cd::outer)=s0.heap.objs.size::cC outer:=rfl
theorem vM {pins:List (Addr×Obj)}{st:L2.St}{H1 H':Hp}{s1 s':Shared}{g h' B:Heap}{ea t:Addr}{C:Value}{od:Option Addr}(I:L2.Inv (cE CX P w K mg base N qual scope f cd A outer s0 H0 E) pins st H1 s1)(os:s'.os=s1.os)(bare:AllBare s'.gens)(un:Un (cC (envOfC qual scope s0.heap.objs.size f cd::outer)) [] H1 H' s1.heap g)(aF:dv P w H' g)(fl:Heap.FlyingW B outer ea C (.ref t) h')(bg:∀ b o,B.get? b=some o->g.get? b=some o)(qN:∀ b o,s1.heap.get? b=some o->H1 b=none->b ∉ cC (envOfC qual scope s0.heap.objs.size f cd::outer)->B.get? b=some o)(qO:∀ b o,s1.heap.get? b=some o->b ∉ cC (envOfC qual scope s0.heap.objs.size f cd::outer)->b≠ea->∃ o',B.get? b=some o')(ir:∀ a o,H' a=some o->∃ ob,B.get? a=some ob)(ups:∀ b o,b∈cC outer->g.get? b=some o->(∀ vs,o.data≠.fields vs)->∃ sl,h'.get? b=some { o with slots:=sl})(hn:s0.heap.get? ea=none)(pN:H' ea=none)(di:fw h' ea od)(hE:E C od H'):oR P w outer H0 s0 E (.ref ea) { s' with heap:=h'}:=by
 have J:=L2.Inv.m3 (s':={ s' with heap:=g}) (ch:=[]) I os un aF bare (fun b z=>absurd z (by simp));have bn:∀ b o,s0.heap.get? b=some o->b ∉ cC outer->b ∉ cC (envOfC qual scope s0.heap.objs.size f cd::outer):=fun b o e0 hf z=>by
   rw[oS] at z;rcases Gy.mp z with z | z
   . exact absurd z (Gd (FK e0))
   . exact hf z
 have vN:Un (cC outer) [] H0 H1 s0.heap s1.heap:=I.base;have zN:Un (cC outer) [] H0 H' s0.heap g:=J.base;have slot:∀ b o,s0.heap.get? b=some o->H0 b=none->b∈cC outer->∃ sl,h'.get? b=some { o with slots:=sl}:=fun b o e0 gc hf=>by
   obtain⟨sl,e1⟩:=zN.slot b o e0 gc hf (by simp);obtain⟨_,o2,e2,hd⟩:=I.ok.dY.mem hf;have e2:s0.heap.get? b=some o2:=e2;rw[e0] at e2;cases e2;obtain⟨uf,e3⟩:=ups b _ hf e1 hd;exact⟨uf,e3⟩
 have pM:∀ b∈cC outer,H0 b=none:=I.ok.pM;refine⟨ea,C,od,H',B,t,rfl,os.trans I.os,bare,⟨fun b o e0 gc hf _=>?_,fun b o e0 gc hf _=>slot b o e0 gc hf,zN.free,fun b o e0 _=>?_,zN.fX,zN.ff,zN.fY⟩,fun a o e=>?_,fl,fun b o e0 gc hf=>?_,fun b o e0 hf=>?_,ir,hn,pN,di,hE⟩
 . exact fl.1 _ _ (qN b o (vN.keep b o e0 gc hf (by simp)) (vN.free b o e0 gc (by simp)) (bn b o e0 hf))
 . by_cases hf:b∈cC outer
   . obtain⟨sl,e1⟩:=slot b o e0 (pM b hf) hf
     exact⟨_,e1⟩
   . obtain⟨o1,e1⟩:=vN.there b o e0 (by simp)
     obtain⟨o2,e2⟩:=qO b o1 e1 (bn b o e0 hf) (fun z=>by rw[z,hn] at e0;cases e0);exact⟨o2,fl.1 _ _ e2⟩
 . refine(aF a o e).iw (fun b u hb eu=>?_) (fun b z=>z) (fun b xs z=>z) .refl
   have oK:∃ ob,B.get? b=some ob:=by
     rcases hb with rfl | hb | hb
     . exact ir _ _ e
     . exact ir _ _ hb
     . cases qq:H' b with
       | none=>rw[qq] at hb;exact hb.elim
       | some u=>exact ir _ _ qq
   obtain⟨ob,eb⟩:=oK;have:=bg _ _ eb;rw[eu] at this;cases this;exact fl.1 _ _ eb
 . exact qN b o (vN.keep b o e0 gc hf (by simp)) (vN.free b o e0 gc (by simp)) (bn b o e0 hf)
 . obtain⟨o1,e1⟩:=vN.there b o e0 (by simp)
   exact qO b o1 e1 (bn b o e0 hf) (fun z=>by rw[z,hn] at e0;cases e0)
theorem qP {H1:Hp}{s1:Shared}{ea:Addr}(vN:Un (cC outer) [] H0 H1 s0.heap s1.heap)(hn:s1.heap.get? ea=none):s0.heap.get? ea=none:=by
 cases q:s0.heap.get? ea with
 | none=>rfl
 | some o=>
   obtain⟨o1,e1⟩:=vN.there ea o q (by simp);rw[hn] at e1;cases e1
theorem ug:Passes (oR P w) (cE (oR P w) P w K mg base N qual scope f cd A outer s0 H0 E) E:=by
 intro pins st H1 s1 e s' I x;obtain⟨ea,C,od,H',B,t,rfl,os,bare,un,aF,fl,qN,qO,ir,hn,pN,di,hE⟩:=x;refine wpAny_mono (kR (eJ _ _) (wpAny_leaves_onW (A:=A.deeper (envOfC qual scope s0.heap.objs.size f cd)) (Q:=fun _ s2=>∃ h',s2={ s' with heap:=h'}/\Heap.FlyingW B outer ea C (.ref t) h'/\s'.heap.UpToSlots h') (I.ok.frames) rfl fl fun h' AX ups=>⟨h',rfl,AX,ups⟩)) (fun _ s2 zq=>?_) (fun _ _ z=>z);obtain⟨⟨h',e2,AX,ups⟩,kd⟩:=zq;subst e2;exact vM I os bare un aF AX fl.1 qN (fun b o e hf _=>qO b o e hf) ir (fun b o _ e hd=>ups b o e hd) (qP I.base hn) pN (di.keep kd (let ⟨o,q,_⟩:=AX.there;⟨o,q⟩)) hE
theorem uh {pins:List (Addr×Obj)}{st:L2.St}{H:Hp}{s:Shared}{h':Heap}{ea:Addr}{C:Value}{args:List Value}(I:L2.Inv (cE (oR P w) P w K mg base N qual scope f cd A outer s0 H0 E) pins st H s)(x:Heap.MadeExcOf s.heap h' ea C args)(hE:E C none H):(cE (oR P w) P w K mg base N qual scope f cd A outer s0 H0 E).xe (.ref ea) { s with heap:=h'}:=by
 have fr:s.heap.FunFrames base (envOfC qual scope s0.heap.objs.size f cd::outer):=I.stack;have frees:∀ b∈cC (envOfC qual scope s0.heap.objs.size f cd::outer),H b=none:=I.ei;have di:fw h' ea none:=let ⟨t,q,_⟩:=x.there;⟨_,q,rfl⟩;refine wpAny_mono (kR (eJ _ _) (wpAny_leaves_madeW (A:=A.deeper (envOfC qual scope s0.heap.objs.size f cd)) (s:={ s with heap:=h'}) (base:=W.hideAll s.heap (cC (envOfC qual scope s0.heap.objs.size f cd::outer))) (h:=s.heap)
   (Q:=fun _ s2=>∃ yR t,s2={ s with heap:=yR}/\Heap.FlyingW (W.hideAll s.heap (cC (envOfC qual scope s0.heap.objs.size f cd::outer))) outer ea C (.ref t) yR/\h'.UpToSlots yR) (I.ok.frames) rfl (fun b o q=>W.of_hideAll _ q)
   (W.funFrames_hide fr fun env he b hb=>List.mem_filterMap.mpr ⟨env,he,hb⟩) x fun yR t fl tup nt ups=>⟨yR,t,rfl,fl,ups⟩)) (fun _ s2 zq=>?_) (fun _ _ z=>z);obtain⟨⟨yR,t,e2,fl,ups⟩,kd⟩:=zq
 subst e2;refine vM (s':=s) (g:=s.heap) (H':=H) I rfl I.bare Un.refl I.aF fl (fun b o q=>W.of_hideAll _ q) (fun b o e _ hf=>W.hideAll_get _ e hf) (fun b o e hf _=>⟨o,W.hideAll_get _ e hf⟩) (fun a o e=>?_) (fun b o _ e hd=>ups b o (x.keeps _ _ e) hd) (qP I.base x.new) ?_ (di.keep kd (let ⟨o,q,_⟩:=fl.there;⟨o,q⟩)) hE
 . obtain⟨u,hu⟩:=gW (I.aF a o e)
   exact⟨u,W.hideAll_get _ hu fun hb=>by rw[frees a hb] at e;cases e⟩
 . cases q:H ea with
   | none=>rfl
   | some o=>
     obtain⟨u,hu⟩:=gW (I.aF ea o q);rw[x.new] at hu;cases hu
end
theorem nv {K:W.Frag}{h:Heap}{C:Addr}{bmB:List Value}{newId:String}(X:K.In h)(hq:W.excIn K C bmB newId=true):∃ z1 z2 z3 z4 z5 z6 z7 z8 z9 y1 y2 y3 y4 y5 y6 y7 mN,h.get? C=some (excClassObj z3 z4 C z2 z5 z1 z6 z7 z8 z9 y1 y2 y3 y4 y5 y6 y7 newId)/\h.Ns z2 mN/\mN "__init__"=none/\OwnTail h bmB z1:=by
 unfold W.excIn at hq
 split at hq
 . rename_i odd C8 slots zO
   split at hq
   . rename_i C2 tl a0 a1 a2 a3 nn a5 xw Ea
     rw[GJ,GJ,GJ,GJ,GJ] at hq;obtain⟨⟨⟨⟨⟨q1,q2⟩,q3⟩,q4⟩,q5⟩,q6⟩:=hq;have q1:=beq_iff_eq.mp q1;have q2:=beq_iff_eq.mp q2;have q3:C8.hasDel=false:=by simpa using q3
     have q6:=beq_iff_eq.mp q6;subst q1 q2;have es:slots=#[a0,a1,a2,a3,some (.builtin nn),a5]:=by
       have:slots.toList=[a0,a1,a2,a3,some (.builtin nn),a5]:=Ea;rw[<- Array.toArray_toList (xs:=slots),this]
     obtain⟨c1,c2,c3,c4,c5,c6,c7,c8,c9,Eb,FQ⟩:=C8;cases q3;have xw:c3=.ref C2::tl:=xw;subst xw;subst es;exact⟨tl,c4,c1,c5,c2,c6,c7,c8,c9,Eb,odd,a0,a1,a2,a3,a5,_,X _ _ zO,.of_isNs (W.isNs_of_in X q5),W.nsMap_none_of_in X q5 q6,W.tail_of_in X q4⟩
   . cases hq
 . cases hq
noncomputable def zP:List Value:=[.type "ValueError",.type "Exception",.type "BaseException",.type "object"]
structure zQ (K:W.Frag)(C:Addr):Prop where
 ex:W.excIn K C zP "ValueError.__new__"=true
section
variable {X:Cx}{G:Gr}{E:XK}{dl:List Slot}{e:Expr}{es:List Expr}{ds:List Dt}{np aE pos:Pos}{x:Str}{C:Addr}
def qQ (X:Cx)(E:XK):Prop:=∀ (pins:List (Addr×Obj)) (st:L2.St) (H:Hp) (s:Shared) (h':Heap) (ea:Addr) (C:Value) (args:List Value),L2.Inv X pins st H s->Heap.MadeExcOf s.heap h' ea C args->E C none H->X.xe (.ref ea) { s with heap:=h'}
theorem uk {P:Program}{w:World}{K:W.Frag}{mg:Str->Option Value}{base:Heap}{N:List Str}{qual:Str}{scope:Scope}{f:Addr}{cd:Value}{A:Around}{outer:List Env}{s0:Shared}{H0:Hp}:qQ (cE (oR P w) P w K mg base N qual scope f cd A outer s0 H0 E) E:=fun pins st H s h' ea C args I x hE=>uh I x hE
theorem qR (hx:qQ X E)(hC:zQ X.K C)(hm:X.mg x=some (.ref C))(eG:X.calm=true)(ha:EA X G dl (e::es) ds)(hl:ds.length<=sizeLine)(hg:autoParam (Gl X x) jp)(cL:autoParam ((x == ("__debug__":Str))=false) xz)(he:autoParam (starEach (e::es) X.env=(false,eval e X.env)::starEach es X.env) jp)(cZ:autoParam ((backTo aE (starEach (e::es) X.env)).any (·.1)=false) jp):ES X G E dl (.Raise (some (.Call (.Name x np) (e::es) [] aE)) none pos) (.ex (.ref C) []):=by
 intro pins s st H D I ⟨Hf,S,k⟩;obtain⟨z1,z2,z3,z4,z5,z6,z7,z8,z9,y1,y2,y3,y4,y5,y6,y7,mN,hO,hN,Ec,hT⟩:=nv I.ok.mod.sZ hC.ex;refine wpAny_Raise_call_subU (C:=C) (nm:=z3) (q:=z4) (N:=z2) (bs:=z5) (bm:=z1) (hdct:=z6) (sn:=z7) (sub:=z8) (ab:=z9) (col:=y1) (dd:=y2) (k0:=y3) (k1:=y4) (k2:=y5) (k3:=y6) (k5:=y7) PySem.F.excBase_ValueError (bmB:=zP) (by decide) PySem.F.excBase_ValueError (hT.hasType (by decide)) (I.ok.hd eG) cZ Ec (cq I hg hm ⟨rfl,?_⟩ cL);have h1:=ha aE pins s st H (fun vs H1=>∃ ar,aK Hf H ar H1/\aN X.K ar vs ds) I ⟨Hf,S,fun vs ar H1 g1 r1=>⟨ar,g1,r1⟩⟩;rw[he] at h1 ⊢;refine Calls.evalArgs_plain (aS h1 fun us s1 ⟨vs,H1,I1,rv,ar,g1,r1⟩=>⟨rfl,?_,I1.bk _ _ hO,hN.keeps I1.bk,hT.keeps I1.bk,fun h' ea mx=>?_⟩)
 . show us.length<=sizeLine
   rw[<- rv.length,r1.length];exact hl
 . exact hx pins st H1 s1 h' ea (.ref C) us I1 mx (k none ar H1 (S.gr.trans g1) rfl)
end
def qS:Value->Shared->Prop:=fun _ _=>False
noncomputable def jA (cells:List (Str×Addr)):List (Str×NameKind)->List (Str×Addr)->List (Str×Addr)
 | [],cs=>cs
 | (n,k)::r,cs=>if k == .free then jA cells r ((n,(cells.lookup n).getD 0)::cs) else jA cells r cs
noncomputable def jB (sc:Scope)(env:Env):List (Str×Addr):=jA env.cells sc.names []
theorem jC {env:Env}:∀ (l:List (Str×NameKind)) (cs:List (Str×Addr)),(∀ y∈l,y.2=.free->∃ c,env.cells.lookup y.1=some c) ->
   (forIn l cs fun(x:Str×NameKind) r=>(if x.2 == .free then (do let c <- cellOf env x.1;pure (ForInStep.yield ((x.1,c)::r))) else pure (ForInStep.yield r):Sem _))=pure (jA env.cells l cs)
 | [],cs,_=>rfl
 | (n,k)::l,cs,h=>by
   have hr:∀ y∈l,y.2=.free->∃ c,env.cells.lookup y.1=some c:=fun y hy=>h y (Gg _ hy)
   rw[List.forIn_cons,jA];by_cases hk:(k == NameKind.free)=true
   . obtain⟨c,hc⟩:=h (n,k) Gj (by simpa using hk)
     have hc:env.cells.lookup n=some c:=hc;simp only[hk,if_true,cellOf,hc,pure_bind,Option.getD_some];exact jC l _ hr
   . simp only[hk,if_false,pure_bind]
     exact jC l _ hr
theorem um {sc:Scope}{env:Env}(h:∀ y∈sc.names,y.2=.free->∃ c,env.cells.lookup y.1=some c):closureFor sc env=pure (jB sc env):=by
 unfold closureFor jB;have:=jC (env:=env) sc.names [] h;simp only[bind_pure];refine Eq.trans ?_ this
 congr 1
theorem jD {cells:List (Str×Addr)}{y:Str}{c:Addr}:∀ (l:List (Str×NameKind)) (cs:List (Str×Addr)),(jA cells l cs).lookup y=some c->((y,NameKind.free)∈l/\(cells.lookup y).getD 0=c)\/cs.lookup y=some c
 | [],cs,h=>.inr h
 | (n,k)::l,cs,h=>by
   rw[jA] at h;by_cases hk:(k == NameKind.free)=true
   . rw[if_pos hk] at h
     have Ed:k=.free:=by simpa using hk
     subst Ed;rcases jD l _ h with⟨h1,h2⟩ | h1
     . exact .inl ⟨Gg _ h1,h2⟩
     . rw[GK] at h1
       cases q:(y == n) with
       | true=>
         rw[q] at h1;have e:y=n:=by simpa using q
         subst e;exact .inl ⟨Gj,Option.some.inj h1⟩
       | false=>rw[q] at h1;exact .inr h1
   . rw[if_neg hk] at h
     rcases jD l _ h with⟨h1,h2⟩ | h1
     . exact .inl ⟨Gg _ h1,h2⟩
     . exact .inr h1
theorem eK {cells:List (Str×Addr)}{y:Str}:∀ (l:List (Str×NameKind)) (cs:List (Str×Addr)),((y,NameKind.free)∈l\/∃ c,cs.lookup y=some c)->∃ c,(jA cells l cs).lookup y=some c
 | [],cs,h=>by
   rcases h with h | h
   . cases h
   . exact h
 | (n,k)::l,cs,h=>by
   rw[jA];by_cases hk:(k == NameKind.free)=true
   . rw[if_pos hk]
     refine eK l _ ?_;rcases h with h | ⟨c,h⟩
     . rcases Gy.mp h with h | h
       . cases h;exact .inr ⟨_,by rw[GK,show(y == y)=true by simp]⟩
       . exact .inl h
     . refine .inr ?_
       rw[GK];cases q:(y == n) with
       | true=>exact⟨_,rfl⟩
       | false=>exact⟨c,h⟩
   . rw[if_neg hk]
     refine eK l _ ?_;rcases h with h | h
     . rcases Gy.mp h with h | h
       . cases h;exact absurd rfl hk
       . exact .inl h
     . exact .inr h
theorem cP {env:Env}{y:Str}{k:NameKind}:∀ {names:List (Str×NameKind)},(names.map fun(n,k)=>if (k == NameKind.free && env.scope.kind == .function && env.kindOf n == some .cell) then (n,NameKind.cell) else (n,k)).lookup y=some k->∃ k',(y,k')∈names/\(k=k'\/k'=.free)
 | [],h=>by simp at h
 | (n,kk)::r,h=>by
   rw[Gs,GK] at h;by_cases hc:(kk == NameKind.free && env.scope.kind == .function && env.kindOf n == some .cell)=true
   . simp only[hc,if_true] at h
     cases q:(y == n) with
     | true=>
       have e:y=n:=by simpa using q
       subst e;have:kk=.free:=by
         have:=hc;simp at this;exact this.1.1
       exact⟨kk,Gj,.inr this⟩
     | false=>
       rw[q] at h;obtain⟨k',h1,h2⟩:=cP h;exact⟨k',Gg _ h1,h2⟩
   . simp only[hc,GW,if_false] at h
     cases q:(y == n) with
     | true=>
       have e:y=n:=by simpa using q
       subst e;rw[q] at h;exact⟨kk,Gj,.inl (Option.some.inj h).symm⟩
     | false=>
       rw[q] at h;obtain⟨k',h1,h2⟩:=cP h;exact⟨k',Gg _ h1,h2⟩
theorem gX {env:Env}{y:Str}:∀ {names:List (Str×NameKind)},names.lookup y=some .free->(names.map fun(n,k)=>if (k == NameKind.free && env.scope.kind == .function && env.kindOf n == some .cell) then (n,NameKind.cell) else (n,k)).lookup y=some .cell \/
   (names.map fun(n,k)=>if (k == NameKind.free && env.scope.kind == .function && env.kindOf n == some .cell) then (n,NameKind.cell) else (n,k)).lookup y=some .free
 | [],h=>by simp at h
 | (n,kk)::r,h=>by
   rw[Gs,GK];rw[GK] at h;cases q:(y == n) with
   | true=>
     rw[q] at h;have:kk=.free:=Option.some.inj h;subst this;by_cases hc:(NameKind.free == NameKind.free && env.scope.kind == .function && env.kindOf n == some .cell)=true
     . left;simp only[hc,if_true];simp[q]
     . right;simp only[hc,GW,if_false];simp[q]
   | false=>
     rw[q] at h;have ih:=gX (env:=env) h;by_cases hc:(kk == NameKind.free && env.scope.kind == .function && env.kindOf n == some .cell)=true
     . simp only[hc,if_true,q];exact ih
     . simp only[hc,GW,if_false,q];exact ih
structure zR (X:Cx)(N:List Str)(ix:List Nat)(x:Str)(sc:Scope):Prop where
 nd:N.Nodup
 nm:N=x::ix.map (fun j=>X.N.getD j "")
 kind:sc.kind=.function
 mj:∀ y∈sc.names,y.2≠.cell
 names:∀ y∈sc.names,y.2=.local->sc.names.lookup y.1=some .local
 hx:sc.names.lookup x=some .local
 fr:∀ y∈sc.names,y.2=.free->X.env.kindOf y.1=some .cell\/X.env.kindOf y.1=some .free
 BY:∀ j∈ix,∃ y,X.N[j]?=some y/\sc.names.lookup y=some .free
noncomputable def aY (X:Cx)(N:List Str)(sc:Scope)(C:Addr)(fp:List Addr)(s:Shared)(H:Hp):Cx:=
 { X with N:=N,s₀:=s,H₀:=H,env:=compEnvC sc (jB sc X.env) C X.env,outer:=X.stack,stack:=X.stack,ex:=fp,fn:=fun _=>false,pn:=[],xe:=qS}
noncomputable def frees (ix:List Nat)(st:L2.St):L2.St:=ix.map fun j=>(st[j]?).join
def C9 (K:W.Frag)(G:Gr)(dl:List Slot)(o:Own):TE:=fun st H Q=>∃ Hf,bE K G st Hf H dl/\∀ p au H',aK Hf H au H'->H p=none->au p=none->bP K au H' p o->Q (.ref p) H'
abbrev EO (X:Cx)(G:Gr)(dl:List Slot)(e:Expr)(o:Own):Prop:=PE X e (C9 X.K G dl o)
noncomputable def zS:Own->Dt
 | .lst ds=>.lst ds
 | .bW k=>.bW k
 | .obj C fs=>.obj C fs
 | .oH _ C fs=>.obj C fs
 | .kL C fs gs nm n=>.l6 C fs gs nm n
 | .l8 _ C fs gs nm n=>.l6 C fs gs nm n
 | .cX k=>.cX k
section
variable {K:W.Frag}{G:Gr}{st:L2.St}{Hf H au H':Hp}{dl:List Slot}{p:Addr}{w:Own}{u:HO}
theorem qT (g:aK Hf H au H')(n:H p=none)(n':au p=none)(e:H' p=some u):aK Hf H (upd au p u) H':=
 ⟨g.big,g.a6.trans (aL n'),fun b o h=>by
   by_cases hb:b=p
   . subst hb;rw[aj] at h;cases h;exact e
   . rw[ah hb] at h;exact g.sub _ _ h,fun a o h=>by
   by_cases hb:a=p
   . subst hb;exact .inr (.inl n)
   . rw[ah hb] at h;exact g.new a o h⟩
theorem ny (r:bP K Hf H p w)(n:Hf p=none):∃ u,H p=some u/\Rep K (upd Hf p u) (.ref p) (zS w):=by
 cases w with
 | lst ds=>obtain⟨vs,h,r⟩:=r;exact⟨_,h,.lst aj (r.mono (aL n))⟩
 | bW ds=>obtain⟨vs,h,r⟩:=r;exact⟨_,h,.bW aj (r.mono (aL n))⟩
 | obj C ds=>obtain⟨dx,fs,h,r⟩:=r;exact⟨_,h,.obj (.of aj) (r.mono (aL n))⟩
 | oH x C ds=>obtain⟨_,dx,fs,h,r⟩:=r;exact⟨_,h,.obj (.of aj) (r.mono (aL n))⟩
 | kL C ds gs nm k=>obtain⟨dx,fs,b,ls,q,h,r⟩:=r;exact⟨_,h,.l6 q (.of aj) (r.mono (aL n))⟩
 | l8 x C ds gs nm k=>obtain⟨_,dx,fs,b,ls,q,h,r⟩:=r;exact⟨_,h,.l6 q (.of aj) (r.mono (aL n))⟩
 | cX ks=>exact⟨_,r,.cX aj⟩
theorem bE.zT (S:bE K G st Hf H dl)(g:aK Hf H au H'){i:Nat}(n:H p=none)(n':au p=none)(r:bP K au H' p w):bE K G (st.set i (some (.ref p))) au H' (dl.set i (.own w)):=by
 have ln:=S.len;have S':=S.grow g;have pn:∀ (j:Nat) (o':Own) (a:Addr),dl[j]?=some (Slot.own o')->st[j]?=some (some (V.ref a))->a≠p:=fun j o' a h1 h2=>by
   obtain⟨b,q1,_,_,q4⟩:=S.own j o' h1;rw[h2] at q1;cases q1;obtain⟨u,hu⟩:=q4.some;exact ao hu n
 refine⟨S'.gr,by simp[S.len],fun j x h=>?_,fun j o' h=>?_,fun j k o1 o2 a h1 h2 h3 h4=>?_⟩
 . by_cases e:i=j
   . subst e
     by_cases hl:i < dl.length
     . rw[FG hl] at h;cases h
     . rw[Gi (by simp;omega)] at h;cases h
   . rw[Cq e] at h ⊢;exact S'.val j x h
 . by_cases e:i=j
   . subst e
     by_cases hl:i < dl.length
     . rw[FG hl] at h;cases h
       exact⟨p,FG (by omega),n',S.gr.big.free n,r⟩
     . rw[Gi (by simp;omega)] at h;cases h
   . rw[Cq e] at h ⊢
     exact S'.own j o' h
 . by_cases ej:i=j
   . by_cases ek:i=k
     . omega
     . subst ej
       rw[Cq ek] at h2 h4;by_cases hl:i < st.length
       . rw[FG hl] at h3;cases h3
         exact absurd rfl (pn k o2 _ h2 h4)
       . rw[Gi (by simp;omega)] at h3;cases h3
   . rw[Cq ej] at h1 h3
     by_cases ek:i=k
     . subst ek
       by_cases hl:i < st.length
       . rw[FG hl] at h4;cases h4
         exact absurd rfl (pn j o1 _ h1 h3)
       . rw[Gi (by simp;omega)] at h4;cases h4
     . rw[Cq ek] at h2 h4
       exact S.t4 j k o1 o2 a h1 h2 h3 h4
theorem bE.a6 (S:bE K G st Hf H dl){i:Nat}(hd:dl[i]?=some (.own w)):∃ au,ax Hf au/\bE K G st au H (dl.set i (.val (zS w))):=by
 have ln:=S.len;obtain⟨p,h1,h2,h3,h4⟩:=S.own i w hd;obtain⟨u,hu,rp⟩:=ny h4 h2;have hl:i < dl.length:=(F6.mp hd).1;have sm:ax Hf (upd Hf p u):=aL h2;refine⟨upd Hf p u,sm,⟨S.gr.big,S.gr.a6.trans sm,fun b o h=>?_,fun a o h=>?_⟩,by simp[S.len],fun j x h=>?_,fun j o' h=>?_,fun j k o1 o2 a q1 q2 q3 q4=>?_⟩
 . by_cases hb:b=p
   . subst hb;rw[aj] at h;cases h;exact hu
   . rw[ah hb] at h;exact S.gr.sub _ _ h
 . by_cases hb:a=p
   . subst hb;exact .inr (.inl h3)
   . rw[ah hb] at h;exact S.gr.new a o h
 . by_cases e:i=j
   . subst e
     rw[FG hl] at h;cases h;exact⟨_,h1,rp⟩
   . rw[Cq e] at h
     obtain⟨v,z1,z2⟩:=S.val j x h;exact⟨v,z1,z2.mono sm⟩
 . by_cases e:i=j
   . subst e;rw[FG hl] at h;cases h
   . rw[Cq e] at h
     obtain⟨a,z1,z2,z3,z4⟩:=S.own j o' h;have ne:a≠p:=fun q=>by subst q;exact e (S.t4 i j _ _ _ hd h h1 z1)
     exact⟨a,z1,by rw[ah ne];exact z2,z3,z4.grow rfl sm⟩
 . have tr:∀ (j:Nat) o',(dl.set i (.val (zS w)))[j]?=some (.own o')->dl[j]?=some (.own o'):=fun j o' h=>by
     by_cases e:i=j
     . subst e;rw[FG hl] at h;cases h
     . rw[Cq e] at h;exact h
   exact S.t4 j k _ _ a (tr _ _ q1) (tr _ _ q2) q3 q4
end
section
variable {X:Cx}{G:Gr}{E:XK}{dl:List Slot}{a e:Expr}{i:Int}{ds:List Dt}{pos p:Pos}{o:Out}{x:Str}{u:Bool}{sts:List Stmt}{C:Addr}{w:Own}{fs:List (Str×Dt)}
theorem zU (h:EO X G dl e w):EE X G dl e (zS w):=cu h fun st H Q zq=>zn zq fun Hf S k=>fun p au H' g n n' r=>by
 obtain⟨u,hu,rp⟩:=ny r n';exact k _ _ H' (qT g n n' hu) rp
theorem kU (h:EO X G dl e (.lst ds)):EE X G dl e (.lst ds):=zU h
theorem vO (h:EO X G dl e (.obj C fs)):EE X G dl e (.obj C fs):=zU h
theorem nz (n:Nat){x:Str}{pos':Pos}(hN:X.N.Nodup)(he:EO X G dl e w)(hi:autoParam (X.N[n]?=some x) jp)(hx:autoParam (Loc X.env.scope x) v0)(hs:autoParam (swapsWith e (some (.Name x pos')) pos.line X.env=pure false) jp)(hf:autoParam (X.fn x=true\/X.env.scope.names.lookup x=some .local) xL):ES X G E dl (.Assign [.Name x pos'] e pos) (.nx (dl.set n (.own w))):=
 l9 (pX hN hi hx he hs hf) fun D st H zq=>zn zq fun Hf S k=>fun p ar H1 g1 n1 n2 r1=>k _ ar H1 g1.a6 (S.zT g1 n1 n2 r1)
theorem uo (n:Nat)(hd:autoParam (dl[n]?=some (.own w)) jp)(hN:autoParam (X.N[n]?=some x) jp)(hv:autoParam (pQ X.env.scope x) v2)(hb:autoParam ((x == ("__debug__":Str))=false) xz)(ee:autoParam ((x == ("__classdict__":Str))=false) xz):ES X G E dl (.Return (some (.Name x p)) pos) (.ro w):=
 l9 (pW (gI hN hv hb ee)) fun D st H zq=>ou zq fun Hf zq=>have S:=zq.1;have k:=zq.2;by
   obtain⟨q,h1,h2,h3,h4⟩:=S.own n w hd;exact⟨_,h1,k q Hf H S.gr h3 h2 h4⟩
theorem ml (i:Nat)(h:gQ X G E (dl.set i (.val (zS w))) sts o)(hd:autoParam (dl[i]?=some (.own w)) jp):gQ X G E dl sts o:=qy h fun D st H zq=>ou zq fun Hf zq=>have S:=zq.1;have k:=zq.2;by
 obtain⟨au,sm,S'⟩:=S.a6 hd;exact⟨au,S',k.mono sm⟩
def Ee (K:W.Frag)(G:Gr)(dl:List Slot)(n:Nat)(w:Own):TE:=fun st H Q=>∃ Hf a,bE K G st Hf H dl/\st[n]?=some (some (.ref a))/\Hf a=none/\bP K Hf H a w/\Q (.ref a) H
theorem qU (n:Nat)(hd:dl[n]?=some (.own w))(hN:X.N[n]?=some x)(hv:pQ X.env.scope x)(hb:(x == ("__debug__":Str))=false)(ee:(x == ("__classdict__":Str))=false):PE X (.Name x p) (Ee X.K G dl n w):=
 cu (gI hN hv hb ee) fun st H Q ⟨Hf,a,S,h1,_,_,q⟩=>⟨_,h1,q⟩
end
section
variable {X:Cx}{G:Gr}{E:XK}{dl:List Slot}{a e:Expr}{es:List Expr}{d:Dt}{ds:List Dt}{pos p apos aE:Pos}{x:Str}
theorem xy (h:EA X G dl es ds)(hl:autoParam (ds.length<=sizeLine) xz):EO X G dl (.List es pos) (.lst ds):=
 cu (qg h) fun st H Q zq=>zn zq fun Hf S k=>fun vs ar H1 g1 r1=>⟨by rw[r1.length];exact hl,fun p hp=>k p ar _ (g1.trans (.cN g1.sub hp)) (g1.big.free hp) (g1.sub.free hp) ⟨vs,aj,r1⟩⟩
theorem nA (hm:X.mg "list"=none)(ha:EE X G dl a (.lst ds))(hg:autoParam (Gl X "list") jp)(he:autoParam (starEach [a] X.env=[(false,eval a X.env)]) jp):EO X G dl (.Call (.Name "list" p) [a] [] pos) (.lst ds):=
 cu (iM jr hg hm boot_list (ae ha ak he) (he:=he)) fun st H Q zq=>zn zq fun Hf S k=>fun vs ar H1 g1 r1=>by
   cases r1 with
   | cons r t=>cases t;cases r with
     | @lst q vs _ z r=>exact⟨q,vs,rfl,.inl (.of (g1.sub _ _ z)),fun l hl=>k l ar _ (g1.trans (.cN g1.sub hl)) (g1.big.free hl) (g1.sub.free hl) ⟨vs,aj,r⟩⟩
theorem oT (n:Nat){pn:Pos}(he:EE X G dl e d)(hl:ds.length < sizeLine)(hd:autoParam (dl[n]?=some (.own (.lst ds))) jp)(hN:autoParam (X.N[n]?=some x) jp)(hv:autoParam (pQ X.env.scope x) v2)
   (cL:autoParam ((x == ("__debug__":Str))=false) xz) (ee:autoParam ((x == ("__classdict__":Str))=false) xz)
   (cF:autoParam (attributeBase (.Name x pn) "append" X.env (eval (.Name x pn) X.env)=eval (.Name x pn) X.env) jp)
   (fo:autoParam (((backTo aE (starEach [e] X.env)).all (fun x=>!x.1) && (backToKw aE (keywordEach [] X.env)).all (fun x=>x.1.isSome) && decide ([e].length+([]:List Keyword).length+(if ([]:List Keyword).isEmpty then 0 else 1) < 30))=true) jp)
   (cG:autoParam ((apos.endLine == aE.line)=true) jp) (e7:autoParam (starEach [e] X.env=(false,eval e X.env)::starEach [] X.env) jp) (hs:autoParam (swapsWith (.Call (.Attribute (.Name x pn) "append" apos) [e] [] aE) none pos.line X.env=pure false) jp) :
   ES X G E dl (.Expr (.Call (.Attribute (.Name x pn) "append" apos) [e] [] aE) pos) (.nx (dl.set n (.own (.lst (ds ++ [d]))))):=
 l9 (jf (vH PySem.F.plainAttrs_list PySem.F.slot_list_append PySem.F.type_list_append iO (qU (p:=pn) n hd hN hv cL ee) (ae he ak e7) cF fo cG e7 rfl) hs) fun D st H zq=>ou zq fun Hf zq=>have S:=zq.1;have k:=zq.2;by
   obtain⟨q,z1,z2,z3,vs,hq,rp⟩:=S.own n _ hd;refine⟨Hf,q,S,z1,z2,⟨vs,hq,rp⟩,.inl ⟨rfl,vs,.of hq⟩,Hf,S,fun us ar H1 g1 r1=>?_⟩;cases r1 with
   | cons r1 t1=>
     cases t1;refine⟨q,vs,_,rfl,rfl,g1.big _ _ hq,by rw[rp.length];exact hl,?_⟩;exact k st ar _ g1.a6 ((S.grow g1).xf hd z1 ⟨_,aj,(rp.mono g1.a6).append (.cons r1 .nil)⟩)
theorem dB {K:W.Frag}{H:Hp}:∀ {vs:List V} {xs:List Str},aN K H vs (xs.map Dt.str)->vs=xs.map V.str
 | _,[],.nil=>rfl
 | _,x::xs,.cons r t=>by cases r;rw[dB t];rfl
end
noncomputable def kW:Option Slot->Slot
 | some (.val d)=>.val d
 | _=>.bX
theorem oU {o:Option Slot}{w:Own}(h:kW o=.own w):False:=by
 unfold kW at h
 split at h <;> cases h
theorem oV {o:Option Slot}{d:Dt}(h:kW o=.val d):o=some (.val d):=by
 unfold kW at h
 split at h
 . cases h;rfl
 . cases h
noncomputable def dQ (dl:List Slot)(ix:List Nat):List Slot:=ix.map fun j=>kW dl[j]?
structure xA (K:W.Frag)(x qual:Str)(st:Stmt)(f:Addr)(fd:FuncData):Prop where
 ex:∃ (oc:Value) (od:Option Addr) (dV kV doc pm:Value) (an:Option Addr) (aR ct:Value) (iu:Array (Option Value)),
   fd=W.fnOf x qual (bf st) (aH st) (af st) dV kV doc pm an aR ct/\K.lookup f=some ⟨oc,od,.func fd,iu⟩/\W.codeIn K aR qual=true
theorem uq {K:W.Frag}{x qual:Str}{st:Stmt}{f:Addr}{oc:Value}{od an:Option Addr}{iu:Array (Option Value)}{dV kV doc pm aR ct:Value}(l:K.lookup f=some ⟨oc,od,.func (W.fnOf x qual (bf st) (aH st) (af st) dV kV doc pm an aR ct),iu⟩)(c:W.codeIn K aR qual=true):xA K x qual st f (W.fnOf x qual (bf st) (aH st) (af st) dV kV doc pm an aR ct):=⟨⟨oc,od,dV,kV,doc,pm,an,aR,ct,iu,rfl,l,c⟩⟩
section
variable {P:Program}{w:World}{K:W.Frag}{mg:Str->Option Value}{base:Heap}{CX:cW}{x qual:Str}{st:Stmt}{f:Addr}{fd:FuncData}{N ps:List Str}{k n:Nat}
def B0 (K:W.Frag)(C:Addr)(Hf H:Hp)(x:Addr)(Q:VK)(E:XK):Res->Prop
 | .own w=>((∃ fs,w=.obj C fs)\/∃ fs gs nm n,w=.kL C fs gs nm n)/\∀ au H',aK Hf H au H'->au x=none->bP K au H' x w->Q .a7 H'
 | .exc c fs=>∀ od au H',aK Hf H au H'->ExcAt K au od fs->E c od H'
 | .ret _=>False
def Dc (K:W.Frag)(C:Addr)(n:Nat)(R:List Dt->Res->Prop):Sp:=fun vs H Q E=>∃ Hf H1 x dx args ds r,vs=.ref x::args/\H=upd H1 x (.ins C dx [])/\H1 x=none/\ax Hf H1/\aN K Hf args ds/\ds.length+1=n/\R ds r/\B0 K C Hf H1 x Q E r
inductive jE (C x:Addr):Out->Res->Prop
 | nx {dl:List Slot} {fs:List (Str×Dt)} (h:dl[0]?=some (.own (.oH x C fs))):jE C x (.nx dl) (.own (.obj C fs))
 | ex (c:Value) (fs:List (Str×Dt)):jE C x (.ex c fs) (.exc c fs)
 | Ef {dl:List Slot} {fs:List (Str×Dt)} {gs:List (Nat->List (Key×FD))} {nm:List Str} {n:Nat} (h:dl[0]?=some (.own (.l8 x C fs gs nm n))):jE C x (.nx dl) (.own (.kL C fs gs nm n))
noncomputable def fz (N:List Str)(x C:Addr)(ds:List Dt):List Slot:=.own (.oH x C [])::(ds.map Slot.val ++ Ga (N.length - (ds.length+1)) .bX)
theorem mm {Hf H:Hp}{vs:List V}{ds:List Dt}{x dx C:Addr}(s:ax Hf H)(n:H x=none)(r:aN K Hf vs ds):bE K ⟨Hf,H⟩ (start N (.ref x::vs)) Hf (upd H x (.ins C dx [])) (fz N x C ds):=by
 have hl:=r.length;have es:start N (V.ref x::vs)=some (.ref x)::(vs.map some ++ Ga (N.length - (vs.length+1)) none):=by
   unfold L2.start;simp
 have jc:∀ (i:Nat) o,(fz N x C ds)[i+1]?≠some (.own o):=fun i o h=>by
   unfold fz at h;rw[List.getElem?_cons_succ] at h;by_cases hi:i < ds.length
   . rw[Gf (by simpa using hi),Gb] at h
     cases e:ds[i]? with
     | none=>rw[e] at h;cases h
     | some a=>rw[e] at h;cases h
   . rw[Gh (by simpa using hi),GI] at h
     split at h <;> cases h
 rw[es];refine⟨.cN s n,?_,fun i d h=>?_,fun i o h=>?_,fun i j o o' a h h' _ _=>?_⟩
 . unfold fz
   simp[hl]
 . cases i with
   | zero=>cases h
   | succ i=>
     unfold fz at h;rw[List.getElem?_cons_succ] at h ⊢;by_cases hi:i < ds.length
     . rw[Gf (by simpa using hi),Gb] at h
       cases e:ds[i]? with
       | none=>rw[e] at h;cases h
       | some a=>
         rw[e] at h;cases h;obtain⟨v,h1,h2⟩:=r.get e;refine⟨v,?_,h2⟩;rw[Gf (by simp;omega),Gb,h1];rfl
     . rw[Gh (by simpa using hi),GI] at h
       split at h <;> cases h
 . cases i with
   | zero=>
     cases h;exact⟨x,rfl,s.free n,n,rfl,dx,[],aj,.nil⟩
   | succ i=>exact absurd h (jc i o)
 . cases i with
   | zero=>cases j with
     | zero=>rfl
     | succ j=>exact absurd h' (jc j _)
   | succ i=>exact absurd h (jc i _)
theorem Eg {C:Addr}{R:List Dt->Res->Prop}(F:xA K x qual st f fd)(S:aA N ps (af st))(hn:ps.length=n)(dc:∀ (aR:Value) (A:Around) (outer:List Env) (s:Shared) (H:Hp) (E:XK) (G:Gr) (z:Addr) (ds:List Dt) (r:Res),aV k (A.deeper (envOfC qual (af st) s.heap.objs.size f aR))->ds.length+1=n->R ds r->∃ o,jE C z o r/\gQ (cE CX P w K mg base N qual (af st) f aR A outer s H E) G E (fz N z C ds) (aH st) o):cz P w K mg base CX (k+1) f fd ps (Dc K C n R):=by
 obtain⟨oc,od,dV,kV,doc,pm,an,aR,ct,iu,rfl,lk,ee⟩:=F.ex;refine vF lk ee S (fun vs H Q E zq=>by obtain⟨Hf,H1,z,dx,args,ds,r,e,_,_,_,rp,hl,_⟩:=zq;rw[e,GH,rp.length,hl,hn]) fun A outer s H vs Q E hr zq=>?_;obtain⟨Hf,H1,z,dx,args,ds,r,e1,e2,hz,sm,rp,hl,hR,hk⟩:=zq
 subst e1 e2;obtain⟨o,hc,hb⟩:=dc aR A outer s _ E ⟨Hf,H1⟩ z ds r hr hl hR;refine⟨_,hb,Hf,mm sm hz rp,?_⟩;cases hc with
 | nx h=>
   obtain⟨_,kk⟩:=hk;intro dw au H' s' S';obtain⟨a,_,q2,_,q4⟩:=S'.own 0 _ h;obtain⟨rfl,Eh,Ba,q5,q6⟩:=q4;exact kk au H' S'.gr q2 ⟨Eh,Ba,q5,q6⟩
 | Ef h=>
   obtain⟨_,kk⟩:=hk;intro dw au H' s' S';obtain⟨a,_,q2,_,q4⟩:=S'.own 0 _ h;obtain⟨rfl,q5⟩:=q4;exact kk au H' S'.gr q2 q5
 | ex c fs=>exact hk
end
noncomputable def putD (f:Str)(v:Dt):List (Str×Dt)->List (Str×Dt)
 | []=>[(f,v)]
 | (g,x)::r=>if g=f then (g,v)::r else (g,x)::putD f v r
theorem bA.put {K:W.Frag}{H:Hp}{f:Str}{v:V}{d:Dt}(q:Rep K H v d):∀ {vs:List (Str×V)} {ds:List (Str×Dt)},bA K H vs ds->bA K H (cy f v vs) (putD f d ds)
 | _,_,.nil=>.cons q .nil
 | (k,x)::vs,(_,y)::ds,.cons h r=>by
   unfold cy putD;by_cases e:k=f
   . rw[if_pos e,if_pos e];exact .cons q r
   . rw[if_neg e,if_neg e];exact .cons h (bA.put q r)
section
variable {X:Cx}{G:Gr}{E:XK}{dl:List Slot}{e:Expr}{es:List Expr}{d:Dt}{ds:List Dt}{pos p apos:Pos}{x m:Str}{C z:Addr}{fs:List (Str×Dt)}{CX:cW}{k k' n:Nat}{R:List Dt->Res->Prop}{wo:Own}{dvs:List Dt}
theorem xB {fn:Str}{pn:Pos}(he:EE X G dl e d)(cl:kA X.K C)(na:ck X.K C fn)(hd:autoParam (dl[0]?=some (.own (.oH z C fs))) jp)(hl:autoParam (Nat.ble fs.length 999=true) jp)(hN:autoParam (X.N[0]?=some x) jp)(hv:autoParam (pQ X.env.scope x) v2)(cL:autoParam ((x == ("__debug__":Str))=false) xz)(ee:autoParam ((x == ("__classdict__":Str))=false) xz)(hs:autoParam (swapsWith e (some (.Attribute (.Name x pn) fn apos)) pos.line X.env=pure false) jp):ES X G E dl (.Assign [.Attribute (.Name x pn) fn apos] e pos) (.nx (dl.set 0 (.own (.oH z C (putD fn d fs))))):=
 l9 (qe (qU (p:=pn) 0 hd hN hv cL ee) he hs) fun D st H zq=>zn zq fun Hf S k=>fun v ar H1 g1 r1=>by
   have S1:=S.grow g1;obtain⟨a,q1,q2,q3,q4⟩:=S1.own 0 _ hd;obtain⟨e1,dx,fv,q5,q6⟩:=id q4;refine⟨ar,a,S1,q1,q2,q4,a,C,dx,fv,rfl,q5,cl,na,by rw[q6.length];exact Nat.lt_succ_of_le (G0 hl),?_⟩;exact k st ar _ g1.a6 (S1.xf hd q1 ⟨e1,dx,_,aj,q6.put r1⟩)
structure Dd (P:Program)(w:World)(K:W.Frag)(mg:Str->Option Value)(base:Heap)(CX:cW)(k:Nat)(x:Str)(C:Addr)(n:Nat)(R:List Dt->Res->Prop):Prop where
 ex:∃ f fd ps,cz P w K mg base CX k f fd ps (Dc K C n R)/\L2.Mk K C f/\mg x=some (.ref C)/\Binds K fd ps []
theorem nB (F:Dd X.prog X.w X.K X.mg X.base CX k x C n R)(nx:qH CX)(hr:aV k' X.A)(ha:EA X G dl (e::es) ds)(h:R ds (.own (.obj C fs)))(oN:autoParam (k+1<=k') xz)(hl:autoParam (ds.length+1=n) jp)(hg:autoParam (Gl X x) jp)(cL:autoParam ((x == ("__debug__":Str))=false) xz)(he:autoParam (starEach (e::es) X.env=(false,eval e X.env)::starEach es X.env) jp)(cZ:autoParam ((backTo pos (starEach es X.env)).any (·.1)=false) jp):EO X G dl (.Call (.Name x p) (e::es) [] pos) (.obj C fs):=by
 obtain⟨f,fd,ps,Fo,M,hm,hb⟩:=F.ex;refine cu (tL (E:=E0) M Fo (hr.mono oN) hg hm hb .nil nx.passes ha cL he cZ) fun st H Q zq=>zn zq fun Hf S kk=>fun vs ar H1 g1 r1 y dx hy B1 ne=>?_
 have Ei:(upd H1 dx (.own y)) y=none:=by rw[ah (Ne.symm ne)];exact hy
 have g2:aK ar H1 ar (upd H1 dx (.own y)):=.cN g1.sub B1;refine⟨ar,upd H1 dx (.own y),y,dx,vs ++ [],ds,.own (.obj C fs),rfl,rfl,Ei,g2.sub,by rw[Gu];exact r1,hl,h,.inl ⟨fs,rfl⟩,fun au H' g n1 r=>⟨rfl,?_⟩⟩;exact kk y au H' ((g1.trans g2).trans g) (g1.big.free hy) n1 r
theorem zV (F:GF X.prog X.w X.K X.mg X.base CX k x n R)(nx:qH CX)(hr:aV k' X.A)(ha:EA X G dl (e::es) ds)(h:R ds (.own wo))(oN:autoParam (k<=k') xz)(hl:autoParam (ds.length=n) jp)(hg:autoParam (Gl X x) jp)(cL:autoParam ((x == ("__debug__":Str))=false) xz)(he:autoParam (starEach (e::es) X.env=(false,eval e X.env)::starEach es X.env) jp)(cZ:autoParam ((backTo pos (starEach es X.env)).any (·.1)=false) jp):EO X G dl (.Call (.Name x p) (e::es) [] pos) wo:=by
 obtain⟨f,fd,ps,F,hm,hk,hb⟩:=F.ex;exact cu (jj (E:=E0) F (hr.mono oN) hg hm hk hb .nil nx.passes ha cL he cZ) fun st H Q zq=>zn zq fun Hf S k=>fun vs ar H1 g1 r1=>⟨ar,ds,.own wo,g1.sub,by rw[Gu];exact r1,hl,h,fun p a8 H2 g2 n1 n2 r2=>k p a8 H2 (g1.trans g2) (g1.big.free n1) n2 r2⟩
structure FR (P:Program)(w:World)(K:W.Frag)(mg:Str->Option Value)(base:Heap)(CX:cW)(k:Nat)(C:Addr)(m:Str)(n:Nat)(dvs:List Dt)(R:List Dt->Res->Prop):Prop where
 cl:kA K C
 ex:∃ f fd ps xp vds,cz P w K mg base CX k f fd ps (qG K n R)/\Meth K C m f/\Binds K fd ps xp/\Vals vds xp/\∀ H,aN K H vds dvs
end
noncomputable def De:Expr->Scope
 | .ListComp _ _ sc _=>sc
 | .Call _ (.ListComp _ _ sc _::_) _ _=>sc
 | _=>{ kind:=.function,names:=[],isGenerator:=false,isCoroutine:=false}
noncomputable def Df:Stmt->Scope
 | .Assign _ e _=>De e
 | .Return (some e) _=>De e
 | _=>{ kind:=.function,names:=[],isGenerator:=false,isCoroutine:=false}
theorem gY (k:Str):∀ xs:List Str,zx (.str k) (xs.map V.str)=decide (k∈xs)
 | []=>by simp[zx]
 | x::xs=>by
   have ih:=gY k xs;unfold zx at ih ⊢;rw[Gs,G7,ih];by_cases e:x=k
   . subst e;simp[sS]
   . have:¬ (k=x):=fun z=>e z.symm
     simp[sS,e,this]
theorem iY (xs:List Str):(xs.map V.str).all eA=true:=by
 induction xs with
 | nil=>rfl
 | cons x xs ih=>rw[Gs,Hi,ih];rfl
section
variable {X:Cx}{G:Gr}{dl:List Slot}{a b:Expr}{pos:Pos}{k:Str}{xs:List Str}
theorem zW {neg:Bool}:oI X.K (AO X.K neg) (.str k) (.tup (xs.map .str)) (.bl (if neg then !decide (k∈xs) else decide (k∈xs))):=fun v w Hf H Q s r1 r2 kk=>by
 cases r1;cases r2 with
 | @tup q vs _ hq rp=>
   have ev:=dB rp;subst ev;refine⟨q,_,rfl,.inr (aT s hq),rfl,iY xs,?_⟩;rw[gY];exact kk _ Hf H (.refl s) (.bl _)
theorem xC (ha:EE X G dl a (.str k))(hb:EE X G dl b (.tup (xs.map .str)))(hm:autoParam (behindInMarks .In b=false) jp):EB X G dl (.Compare a [.In] [b] pos) (decide (k∈xs)):=jx iN (zW (neg:=false)) hm ha hb
end
theorem qV {K:W.Frag}{z:Value}:W.kitOne K z z=some true:=by unfold W.kitOne;simp
theorem qW {P:Program}{w:World}{A:Around}{R:Result->Shared->Prop}{s:Shared}{elt tg iter:Expr}{ifs:List Expr}{sc:Scope}{pos:Pos}{it acc:Value}{env:Env}(J:Nat->Shared->Prop)
   (turn:∀ n s,J n s->wpAny (model P w) A (pyNext it) (fun r s1=>match r with
     | none=>R (.ok .next) s1
     | some v=>wpAny (model P w) A (letOwnedTupleGo tg it v) (fun _ s2=>wpAny (model P w) A (assign tg env v) (fun _ s3=>
         wpAny (model P w) A (forIn ifs true fun c r=>if r=true then do let ok <- isTrue c env (eval c env);pure (ForInStep.yield ok) else pure (ForInStep.yield r)) (fun ok B2=>
         if ok=true then wpAny (model P w) A (eval elt env) (fun x s4=>wpAny (model P w) A (call (.builtin "list.append") [acc,x]) (fun _ s5=>∃ m,m < n/\J m s5) qS s4) qS B2
         else ∃ m,m < n/\J m B2) qS s3) qS s2) qS s1) qS s)
   (n:Nat) (h:J n s):codeAny (model P w) A (.compLoop (.ListComp elt [⟨tg,iter,ifs,0⟩] sc pos) 0 it acc env) R s:=by
 have off:∀ {B:Value->Shared->Prop} (x:Value) (s':Shared),qS x s'->B x s':=fun _ _ z=>z.elim
 refine codeAny_loop rfl J (fun n s hJ=>?_) n h;show wpAny _ A ((compTurn (.ListComp elt [⟨tg,iter,ifs,0⟩] sc pos) 0 it acc env).onRaise (fun x=>(do noteFrame x env;theTreesLotGoes x))) _ _ s;refine wpAny_noted ?_;rw[compTurn_list];refine wpAny_bind (wpAny_standAt (wpAny_bind (wpAny_mono (turn n s hJ) (fun r s1 h1=>?_) off)));cases r with
 | none=>exact wpAny_pure h1
 | some v=>
   refine wpAny_bind (wpAny_mono h1 (fun _ s2 h2=>wpAny_bind (wpAny_mono h2 (fun _ s3 h3=>wpAny_bind (wpAny_mono h3 (fun ok B2 Dg=>?_) off)) off)) off);cases ok with
   | false=>exact wpAny_pure ⟨rfl,Dg⟩
   | true=>exact wpAny_bind (wpAny_bind (wpAny_mono Dg (fun x s4 h4=>wpAny_bind (wpAny_mono h4 (fun _ s5 h5=>wpAny_pure (wpAny_pure ⟨rfl,h5⟩)) off)) off))
structure gZ (X:Cx)(N tn:List Str)(ix:List Nat)(sc:Scope):Prop where
 nd:N.Nodup
 nm:N=tn ++ ix.map (fun j=>X.N.getD j "")
 kind:sc.kind=.function
 mj:∀ y∈sc.names,y.2≠.cell
 names:∀ y∈sc.names,y.2=.local->sc.names.lookup y.1=some .local
 hx:∀ x∈tn,sc.names.lookup x=some .local
 fr:∀ y∈sc.names,y.2=.free->X.env.kindOf y.1=some .cell\/X.env.kindOf y.1=some .free
 BY:∀ j∈ix,∃ y,X.N[j]?=some y/\sc.names.lookup y=some .free
section
variable {X:Cx}{N tn:List Str}{ix:List Nat}{sc:Scope}{pins:List (Addr×Obj)}{st:L2.St}{H H':Hp}{s s':Shared}{C D:Addr}{fp:List Addr}{h1:Heap}
theorem nC (B:gZ X N tn ix sc)(ok:X.Ok):closureFor sc X.env=pure (jB sc X.env):=um fun y hy hk=>ok.has y.1 (B.fr y hy hk)
theorem eL (B:gZ X N tn ix sc)(ok:X.Ok){y:Str}{c:Addr}(h:(jB sc X.env).lookup y=some c):X.env.cells.lookup y=some c/\(y,NameKind.free)∈sc.names:=by
 rcases jD _ _ h with⟨h1,h2⟩ | h1
 . obtain⟨c',h3⟩:=ok.has y (B.fr _ h1 rfl)
   rw[h3] at h2;cases h2;exact⟨h3,h1⟩
 . cases h1
theorem gy (B:gZ X N tn ix sc)(I:L2.Inv X pins st H s)(hC:s.heap.objs.size<=C)(hf:∀ b∈fp,fZ X pins H b)(cf:∀ b∈fp,b < s.heap.objs.size):(aY X N sc C fp s H).Ok where
 mod:=I.ok.mod
 kind:=B.kind
 glob:=I.ok.glob
 blt:=I.ok.blt
 above:=hC
 inj:=fun y z c h1 h2=>I.ok.inj y z c (eL B I.ok h1).1 (eL B I.ok h2).1
 has:=fun y hy=>by
   have hy:(relabel sc X.env).names.lookup y=some .cell\/(relabel sc X.env).names.lookup y=some .free:=hy;have:(y,NameKind.free)∈sc.names:=by
     rcases hy with hy | hy
     . obtain⟨k',h1,h2⟩:=cP hy
       rcases h2 with h2 | h2
       . subst h2;exact absurd rfl (B.mj _ h1)
       . subst h2;exact h1
     . obtain⟨k',h1,h2⟩:=cP hy
       rcases h2 with h2 | h2 <;> subst h2 <;> exact h1
   exact eK _ _ (.inl this)
 v5:=fun y c h=>by cases h
 hd:=I.ok.hd
 frames:=I.ok.frames
 yK:=.inl rfl
 yL:=fun b hb=>⟨Gd (F1 (cf b hb) hC),fun y c h=>(hf b hb).2.2.2.2.1 y c (eL B I.ok h).1⟩
 bs:=I.bs
 pR:=Ge I.ok.pR I.sz
 lP:=fun b o e hb=>by
   rcases (hf b hb).2.2.2.1 with z | z
   . exact I.ok.lP b o e z
   . exact absurd (F1 (FK e) (Ge I.ok.pR z)) (GZ _)
 lQ:=fun b hb z=>by
   rcases Gy.mp (I.lR b z) with z | z
   . exact(hf b hb).2.1 z
   . exact(hf b hb).2.2.1 z
 dY:=I.stack
 pM:=I.ei
theorem mn (B:gZ X N tn ix sc)(I:L2.Inv X pins st H s)(hf:∀ b∈fp,fZ X pins H b)(cf:∀ b∈fp,b < s.heap.objs.size)(hC:C=s.heap.objs.size+1)(k:∀ b o,s.heap.get? b=some o->h1.get? b=some o)(hn:h1.Ns C fun _=>none)(hD:h1.get? s.heap.objs.size=some { cls:=.type "list",data:=.seq ([]:List Value).toArray 0}){t':Nat}:L2.Inv (aY X N sc C fp s H) [] (Ga tn.length none ++ frees ix st) (upd H s.heap.objs.size (.lst [])) { s with heap:=h1,toks:=t'}:=by
 have Dh:s.heap.objs.size<=C:=by rw[hC];exact Hd _
 have fr:∀ a,s.heap.objs.size<=a->H a=none:=fun a ha=>I.aF.fresh ha
 have ok:=gy B I Dh hf cf;have mY:∀ y c,(jB sc X.env).lookup y=some c->H c=none/\c < s.heap.objs.size/\∃ v,s.heap.IsCell c v:=fun y c h=>by
   have h:=(eL B I.ok h).1;obtain⟨v,q⟩:=I.cell y c h;exact⟨I.cD y c h,q.lt,v,q⟩
 refine⟨ok,rfl,I.bare,Un.laid k (DU _) (fr _ (DU _)),⟨_,hn,fun i y v e1 e2 e3=>?_⟩,fun y c h=>?_,?_,fun y c h=>?_,fun p hp=>absurd (show p∈([]:List (Addr×Obj)) from hp) (by simp),?_,?_⟩
 . have e1:N[i]?=some y:=e1
   by_cases hi:i < tn.length
   . rw[Gf (by simpa using hi),GI,if_pos hi] at e2
     cases e2
   . have hi:tn.length<=i:=Hh hi
     rw[B.nm,Gh hi,Gb] at e1;rw[Gh (by simpa using hi),List.length_replicate] at e2;unfold frees at e2;rw[Gb] at e2;cases q:ix[i - tn.length]? with
     | none=>rw[q] at e1;cases e1
     | some j=>
       rw[q] at e1 e2;obtain⟨y',Di,Dj⟩:=B.BY j (GR q);have Dk:=PySem.mem_of_lookup Dj;have ey:y=y':=by
         have e1:X.N.getD j ""=y:=Option.some.inj e1;rw[F2,Di] at e1;exact e1.symm
       subst ey;have e2:(st[j]?).join=some v:=Option.some.inj e2;have Ej:st[j]?=some (some v):=by
         cases q2:st[j]? with
         | none=>rw[q2] at e2;cases e2
         | some z=>rw[q2] at e2;rw[show z=some v from e2]
       have kd:=B.fr _ Dk rfl;have Ek:pQ X.env.scope y:=by
         rcases kd with z | z
         . exact .inr (.inl z)
         . exact .inr (.inr z)
       obtain⟨m,_,hl⟩:=I.loc;obtain⟨u,r,l⟩:=hl j y v Di Ej Ek;refine⟨u,r,.inr ?_⟩;rcases l with⟨z,_⟩ | ⟨_,c,hc,ic⟩
       . rcases kd with z' | z' <;> rw[z] at z' <;> cases z'
       . obtain⟨c',yZ⟩:=eK (cells:=X.env.cells) sc.names [] (.inl Dk)
         have:=(eL B I.ok yZ).1;rw[hc] at this;cases this;obtain⟨oc,yM,hd⟩:=ic;refine⟨?_,c,yZ,oc,k _ _ yM,hd⟩;rcases e3 with e3 | e3 | e3
         . have e3:(relabel sc X.env).names.lookup y=some .local:=e3
           rcases gX (env:=X.env) Dj with z | z
           . exact absurd (e3.symm.trans z) (by decide)
           . exact absurd (e3.symm.trans z) (by decide)
         . exact .inl e3
         . exact .inr e3
 . obtain⟨_,_,v,oc,yM,hd⟩:=mY y c h
   exact⟨v,oc,k _ _ yM,hd⟩
 . show upd H s.heap.objs.size (.lst []) C=none
   rw[ah (by rw[hC];exact Nat.succ_ne_self _)];exact fr _ Dh
 . show upd H s.heap.objs.size (.lst []) c=none
   obtain⟨q1,q2,_⟩:=mY y c h;rw[ah (Gd q2)];exact q1
 . exact I.aF.laid k (DU _) ⟨GO _,[],0,.nil,hD⟩
 . show(Ga tn.length none ++ frees ix st).length=N.length
   rw[B.nm];unfold frees;simp
def zX (X:Cx)(ifs:List Expr)(tt:TT):Prop:=∀ (pins:List (Addr×Obj)) (s:Shared) (st:L2.St) (H:Hp) (Q:Bool->Hp->Prop),L2.Inv X pins st H s->tt st H Q ->
 wpAny (model X.prog X.w) X.A (forIn ifs true fun c r=>if r=true then do let ok <- isTrue c X.env (eval c X.env);pure (ForInStep.yield ok) else pure (ForInStep.yield r)) (fun b s'=>∃ H',L2.Inv X pins st H' s'/\Q b H') X.xe s
theorem ur {c:Expr}{tt:TT}(h:PT X c tt):zX X [c] tt:=fun pins s st H Q I q=>wpAny_tests_one (aS (h pins s st H _ I q) fun b s' z=>z)
def qX (nt:Nat)(g:TG)(tt:TT)(te:TE)(fs:L2.St)(J:It)(D:Addr)(Q:List V->Hp->Prop)(H:Hp):Prop:=
 ∃ W:Nat->Nat->List V->Hp->Prop,(∃ m,W 0 m [] (upd H D (.lst [])))/\∀ i m ys H1,W i m ys H1 ->
   (J.stop i H1/\Q ys H1)\/(J.go i H1/\ys.length < sizeLine/\∀ σ:L2.St,σ.length=nt->∀ v H2,J.wA i H1 v H2->g v (σ ++ fs) H2 fun σ2 H3=>∃ σ':L2.St,σ2=σ' ++ fs/\σ'.length=nt /\
     tt σ2 H3 fun b H4=>if b=true then te σ2 H4 fun y H5=>H5 D=some (.lst ys)/\∃ m',m' < m/\W (i+1) m' (ys ++ [y]) (upd H5 D (.lst (ys ++ [y]))) else ∃ m',m' < m/\W (i+1) m' ys H4)
theorem kX {elt iter tg:Expr}{ifs:List Expr}{pos:Pos}{g:TG}{tt:TT}{te:TE}{J:It}{it:Addr}{tj:Nat->Heap->Prop}{Q:Addr->List V->Hp->Prop}{RR:Value->Addr->Result->Shared->Prop}{E:Value->Shared->Prop}(hc:X.calm=true)(B:gZ X N tn ix sc)(hg:∀ C fp s H,PG (aY X N sc C fp s H) tg g)(ht:∀ C fp s H,zX (aY X N sc C fp s H) ifs tt)(jF:∀ C fp s H,PE (aY X N sc C fp s H) elt te)(I:L2.Inv X pins st H s)(T:Turn X.prog X.w X.K tg J fp it tj)(h0:tj 0 s.heap)(hf:∀ b∈fp,fZ X pins H b)(hq:∀ D,H D=none->qX tn.length g tt te (frees ix st) J D (Q D) H)(El:∀ D C ys H' s',L2.Inv X pins st H' s'->(∃ m,s'.heap.Ns C m)->fZ X pins H' C->Q D ys H'->RR (.ref D) C (.ok .next) s'):wpAny (model X.prog X.w) X.A (newList []) (fun acc s3=>wpAny (model X.prog X.w) X.A (newFunctionEnv sc X.env.globals (jB sc X.env) [] X.env.qual none .none (some X.env)) (fun zY s4=>codeAny (model X.prog X.w) X.A (.compStart (.ListComp elt [⟨tg,iter,ifs,0⟩] sc pos) 0 (.ref it) acc { zY with scope:=relabel sc X.env}) (RR acc zY.locals) s4) E s3) E s:=by
 have cf:∀ b∈fp,b < s.heap.objs.size:=fun b hb=>by
   obtain⟨o,e,_⟩:=T.obj _ _ h0 b hb;exact FK e
 refine wpAny_newObj_type (wpAny_newFunctionEnv B.mj (fun y hy=>absurd hy (by simp)) (fun h1 vJ yS=>?_) B.kind);dsimp only at vJ yS ⊢;generalize hG:s.heap.push { cls:=.type "list",dict:=none,data:=.seq ([]:List Value).toArray}=g' at vJ yS ⊢;have hC:g'.objs.size=s.heap.objs.size+1:=by rw[<- hG,Ht]
 have Em:s.heap.objs.size≠g'.objs.size:=by rw[hC];exact Gd (G4 _)
 have old:∀ b o,s.heap.get? b=some o->h1.get? b=some o:=fun b o e=>
   yS.extBut b o (by rw[hC];exact Gd (Nat.lt_succ_of_lt (FK e))) (F0 _ (hG ▸ F0 _ e))
 have B3:h1.get? s.heap.objs.size=some { cls:=.type "list",data:=.seq ([]:List Value).toArray 0}:=yS.extBut _ _ Em (F0 _ (hG ▸ Gp _ rfl));have hD:H s.heap.objs.size=none:=I.aF.fresh (DU _);obtain⟨W,⟨m0,w0⟩,turn⟩:=hq _ hD;have I0:=mn (t':=s.toks+([]:List (Str×Value)).length) B I hf cf hC old (by simpa using vJ) B3;have Dl:tj 0 h1:=T.keep _ _ _ h0 fun b _ o e=>old b o e
 have uu:s.heap.objs.size<=g'.objs.size:=by rw[hC];exact Hd _
 have lW:∀ {H':Hp},(∀ b∈fp,H' b=none)->∀ b∈fp,fZ (aY X N sc g'.objs.size fp s H) [] H' b:=fun {H'} hn b hb=>
   ⟨hn b hb,((gy B I uu hf cf).yL b hb).1,(gy B I uu hf cf).lQ b hb,.inl hb,((gy B I uu hf cf).yL b hb).2,fun p hp=>absurd (show p∈([]:List (Addr×Obj)) from hp) (by simp)⟩
 have loop:∀ s3:Shared,s3={ s with heap:=h1,toks:=s.toks+([]:List (Str×Value)).length} ->
     codeAny (model X.prog X.w) X.A (.compLoop (.ListComp elt [⟨tg,iter,ifs,0⟩] sc pos) 0 (.ref it) (.ref s.heap.objs.size) (compEnvC sc (jB sc X.env) g'.objs.size X.env)) (RR (.ref s.heap.objs.size) g'.objs.size) s3:=by
   rintro s3 rfl
   refine qW (fun n s'=>∃ i ys σ H',σ.length=tn.length/\L2.Inv (aY X N sc g'.objs.size fp s H) [] (σ ++ frees ix st) H' s'/\tj i s'.heap/\(∀ b∈fp,H' b=none)/\W i n ys H') ?_ m0
     ⟨0,[],Ga tn.length none,_,by simp,I0,Dl,fun b hb=>?_,w0⟩
   . rintro n s5 ⟨i,ys,σ,H5,hσ,I5,yO,AJ,w5⟩
     rcases turn i n ys H5 w5 with⟨stop,qn⟩ | ⟨go,hz,step⟩
     . refine aS (T.done (aY X N sc g'.objs.size fp s H) rfl rfl rfl hc i [] s5 _ H5 qS I5 (lW AJ) yO stop) fun r s6 ⟨hr,I6⟩=>?_
       subst hr;refine El _ _ ys H5 s6 ?_ ?_ (I.oh uu I6.free) qn
       . exact I.m3 I6.os I6.base I6.aF I6.bare fun b hb=>⟨(hf b hb).2.2.2.1,(hf b hb).2.1,(hf b hb).2.2.2.2.1,(hf b hb).2.2.2.2.2⟩
       . obtain⟨m,hm,_⟩:=I6.loc
         exact⟨m,hm⟩
     . refine aS (T.item (aY X N sc g'.objs.size fp s H) rfl rfl rfl hc i [] s5 _ H5 qS I5 (lW AJ) yO go) fun r s6 ⟨u,hr,h6⟩=>?_
       subst hr;refine aS h6 fun _ s7 zq=>?_;obtain⟨v,H7,I7,r7,y7,B4,En⟩:=zq
       have Eo:=I7.pinned (lW En) (T.obj _ _ B4);refine aS (hg g'.objs.size fp s H _ s7 _ H7 v u _ Eo r7 (step σ hσ v H7 y7)) fun _ s8 h8=>?_
       obtain⟨σ8,H8,I8,σ',e8,Dm,h8⟩:=h8;subst e8;have pinned:∀ {σ9:L2.St} {H9:Hp} {s9:Shared},L2.Inv (aY X N sc g'.objs.size fp s H) ([] ++ gL fp s7.heap) σ9 H9 s9->tj (i+1) s9.heap/\∀ b∈fp,H9 b=none:=fun {σ9 H9 s9} I9=>by
         refine⟨T.keep _ _ _ B4 fun b hb o e=>(I9.pin (b,o) (Gq _ (Gq _ (cK hb e)))).1,fun b hb=>?_⟩;obtain⟨o,e,d⟩:=T.obj _ _ B4 b hb;exact(I9.pin (b,o) (Gq _ (Gq _ (cK hb e)))).2.1
       refine aS (ht g'.objs.size fp s H _ s8 _ H8 _ I8 h8) fun ok Ep AY=>?_
       obtain⟨Er,AZ,AY⟩:=AY;cases ok with
       | false=>
         obtain⟨m',hm,w8⟩:=AY;exact⟨m',hm,i+1,ys,σ',_,Dm,AZ.c0 (pins:=[]),(pinned AZ).1,(pinned AZ).2,w8⟩
       | true=>
         refine aS (jF g'.objs.size fp s H _ Ep _ Er _ AZ AY) fun z s9 zq=>?_;obtain⟨y,H9,I9,r9,Es,m',hm,w9⟩:=zq
         refine aS (iO _ s9 _ H9 (.ref s.heap.objs.size) [y] (.ref s.heap.objs.size) [z] (fun _ H'=>H'=upd H9 s.heap.objs.size (.lst (ys ++ [y]))) I9 rfl (.cons r9 .nil) ⟨_,ys,y,rfl,rfl,Es,hz,rfl⟩) fun _ FT Et=>?_
         obtain⟨_,FU,B5,_,rfl⟩:=Et;exact⟨m',hm,i+1,ys ++ [y],σ',_,Dm,B5.c0 (pins:=[]),(pinned B5).1,(pinned B5).2,w9⟩
   . rw[ah (Gd (cf b hb))]
     exact(hf b hb).1
 exact codeAny_compStart_list (loop _ rfl) (T.self _ 0 _ _ _ Dl (loop _ rfl))
end
section
variable {K:W.Frag}{G:Gr}{st:L2.St}{Hf H ar H1:Hp}{dl:List Slot}{ix:List Nat}
structure zZ (K:W.Frag)(Hf:Hp)(σ:L2.St)(sl:List Slot):Prop where
 len:σ.length=sl.length
 val:∀ (i:Nat) d,sl[i]?=some (.val d)->∃ v,σ[i]?=some (some v)/\Rep K Hf v d
 no:∀ (i:Nat) o,sl[i]?≠some (.own o)
theorem zZ.mono {σ:L2.St}{sl:List Slot}(h:zZ K Hf σ sl)(s:ax Hf ar):zZ K ar σ sl:=⟨h.len,fun i d e=>let ⟨v,h1,h2⟩:=h.val i d e;⟨v,h1,h2.mono s⟩,h.no⟩
theorem kY {σ:L2.St}{sl:List Slot}(S:bE K G st Hf H dl)(s1:ax Hf ar)(sb:ax ar H1)(r:zZ K ar σ sl):bE K ⟨ar,H1⟩ (σ ++ frees ix st) ar H1 (sl ++ dQ dl ix):=by
 have no:∀ (i:Nat) o,(sl ++ dQ dl ix)[i]?≠some (.own o):=fun i o h=>by
   by_cases hi:i < sl.length
   . rw[Gf hi] at h
     exact r.no i o h
   . rw[Gh (Hh hi)] at h
     unfold dQ at h;rw[Gb] at h;cases q:ix[i - sl.length]? with
     | none=>rw[q] at h;cases h
     | some j=>
       rw[q] at h;exact oU (Option.some.inj h)
 refine⟨.refl sb,by simp[frees,dQ,r.len],fun i x h=>?_,fun i o h=>absurd h (no i o),fun i j o o' a h=>absurd h (no i o)⟩;by_cases hi:i < sl.length
 . rw[Gf hi] at h
   rw[Gf (by rw[r.len];exact hi)];exact r.val i x h
 . have hi:=Hh hi
   rw[Gh hi] at h;rw[Gh (by rw[r.len];exact hi),r.len];unfold dQ at h;unfold frees;rw[Gb] at h ⊢;cases q:ix[i - sl.length]? with
   | none=>rw[q] at h;cases h
   | some j=>
     rw[q] at h;have hd:=oV (Option.some.inj h);obtain⟨v',z1,z2⟩:=S.val j x hd;exact⟨v',by rw[Option.map_some,z1];rfl,z2.mono s1⟩
def z0 (K:W.Frag)(nt:Nat)(g:TG)(z:Dt)(sl:List Slot):Prop:=∀ (σ fs:L2.St) (Hf H:Hp) (v:V) (Q:L2.St->Hp->Prop),σ.length=nt->ax Hf H->Rep K Hf v z ->
 (∀ σ':L2.St,σ'.length=nt->zZ K Hf σ' sl->Q (σ' ++ fs) H)->g v (σ ++ fs) H Q
theorem eM {z:Dt}:z0 K 1 (dO 0) z [.val z]:=fun σ fs Hf H v Q hl s r k=>by
 cases σ with
 | nil=>cases hl
 | cons a σ=>
   have:σ=[]:=List.eq_nil_of_length_eq_zero (by simpa using hl);subst this;refine k [some v] rfl ⟨rfl,fun i d h=>?_,fun i o h=>?_⟩
   . cases i with
     | zero=>cases h;exact⟨v,rfl,r⟩
     | succ i=>cases h
   . cases i with
     | zero=>cases h
     | succ i=>cases h
end
section
variable {X:Cx}{G:Gr}{E:XK}{dl:List Slot}{a b c elt iter tg:Expr}{ifs:List Expr}{i:Int}{pos p px py g6:Pos}{o:Out}{x y:Str}{N tn:List Str}{ix:List Nat}{sc:Scope}{n:Nat}
def iC (X:Cx)(G:Gr)(dl:List Slot)(zs:List Dt)(wi:TI):Prop:=∀ st H (R:It->Hp->Prop),(∃ Hf,bE X.K G st Hf H dl/\∀ J xD H0,aK Hf H xD H0 ->
 (∀ ar H1,ax xD ar->ax ar H1->∀ i,(∀ z,zs[i]?=some z->J.go i H1/\∀ v H2,J.wA i H1 v H2->∃ a8,aK ar H1 a8 H2/\Rep X.K a8 v z)/\(i=zs.length->J.stop i H1))->R J H0)->wi st H R
theorem fA {xs:List Dt}:iC X G dl xs (vB X.K (tD X.K G dl (.lst xs))):=fun st H R zq=>zn zq fun Hf S k=>fun v ar H1 g1 r1=>by
 cases r1 with
 | @lst q vs _ hq rp=>
   have hl:=rp.length;refine⟨q,rfl,⟨vs,.of (g1.sub _ _ hq)⟩,k _ ar H1 g1 fun a8 H2 s1 s2 i=>⟨fun z hz=>?_,fun hi=>⟨vs,.of (s2 _ _ (s1 _ _ hq)),by omega⟩⟩⟩;obtain⟨u,z1,z2⟩:=rp.get hz;have hs:dN X.K H2 q vs:=.of (s2 _ _ (s1 _ _ hq));refine⟨⟨vs,u,hs,z1⟩,fun v H3 hy=>?_⟩;obtain⟨e1,e2⟩:=hy;have e2:=e2 vs hs;rw[z1] at e2;cases e2;subst e1;exact⟨a8,.refl s2,z2.mono s1⟩
theorem kZ {xs:List Dt}:iC X G dl xs (zf X.K (tD X.K G dl (.tup xs))):=fun st H R zq=>zn zq fun Hf S k=>fun v ar H1 g1 r1=>by
 cases r1 with
 | @tup q vs _ hq rp=>
   have hl:=rp.length;refine⟨q,rfl,⟨vs,aT g1.sub hq⟩,k _ ar H1 g1 fun a8 H2 s1 s2 i=>⟨fun z hz=>?_,fun hi=>⟨vs,aT s2 (aT s1 hq),by omega⟩⟩⟩;obtain⟨u,z1,z2⟩:=rp.get hz;have hs:iG X.K H2 q vs:=aT s2 (aT s1 hq);refine⟨⟨vs,u,hs,z1⟩,fun v H3 hy=>?_⟩;obtain⟨e1,e2⟩:=hy;have e2:=e2 vs hs;rw[z1] at e2;cases e2;subst e1;exact⟨a8,.refl s2,z2.mono s1⟩
variable {α:Type}{as:List α}{z f:α->Dt}{sl:α->List Slot}{keep:α->Bool}{g:TG}{wi:TI}
def xE (K:W.Frag)(dl:List Slot)(ix:List Nat)(as:List α)(sl:α->List Slot)(keep:α->Bool):TT:=fun st H Q=>∃ a G',a∈as/\BO K G' (sl a ++ dQ dl ix) (keep a) st H Q
def xF (K:W.Frag)(dl:List Slot)(ix:List Nat)(as:List α)(sl:α->List Slot)(keep:α->Bool)(f:α->Dt):TE:=fun st H Q=>∃ a G',a∈as/\keep a=true/\tD K G' (sl a ++ dQ dl ix) (f a) st H Q
inductive k4 (X:Cx)(N:List Str)(sc:Scope)(dl:List Slot)(ix:List Nat)(as:List α)(sl:α->List Slot)(keep:α->Bool):List Expr->Prop
 | nil:(∀ a∈as,keep a=true)->k4 X N sc dl ix as sl keep []
 | one {c:Expr}:(∀ a∈as,∀ C fp s H G',EB (aY X N sc C fp s H) G' (sl a ++ dQ dl ix) c (keep a))->k4 X N sc dl ix as sl keep [c]
theorem qY (h:k4 X N sc dl ix as sl keep ifs):∀ C fp s H,zX (aY X N sc C fp s H) ifs (xE X.K dl ix as sl keep):=fun C fp s H=>by
 cases h with
 | nil h=>exact fun pins s' st H' Q I ⟨a,G',ha,Hf,S,k⟩=>wpAny_tests_nil ⟨H',I,by have:=k Hf H' (.refl S.sub);rw[h a ha] at this;exact this⟩
 | one h=>exact ur fun pins s' st H' Q I ⟨a,G',ha,q⟩=>h a ha C fp s H G' pins s' st H' Q I q
def xG (X:Cx)(N:List Str)(sc:Scope)(dl:List Slot)(ix:List Nat)(as:List α)(sl:α->List Slot)(keep:α->Bool)(f:α->Dt)(elt:Expr):Prop:=∀ a∈as,keep a=true->∀ C fp s H G',EE (aY X N sc C fp s H) G' (sl a ++ dQ dl ix) elt (f a)
theorem qZ (h:xG X N sc dl ix as sl keep f elt):∀ C fp s H,PE (aY X N sc C fp s H) elt (xF X.K dl ix as sl keep f):=fun C fp s H pins s' st H' Q I ⟨a,G',ha,hk,q⟩=>h a ha hk C fp s H G' pins s' st H' Q I q
theorem oW {nt:Nat}{st:L2.St}{Hf H:Hp}{J:It}{Q:VK}(S:bE X.K G st Hf H dl)(hn:as.length<=sizeLine)(uv:∀ a∈as,z0 X.K nt g (z a) (sl a))(go:∀ ar H1,aK Hf H ar H1->∀ i,(∀ y,(as.map z)[i]?=some y->J.go i H1/\∀ v H2,J.wA i H1 v H2->∃ a8,aK ar H1 a8 H2/\Rep X.K a8 v y)/\(i=(as.map z).length->J.stop i H1))(k:∀ p au H',aK Hf H au H'->H p=none->au p=none->bP X.K au H' p (.lst ((as.filter keep).map f))->Q (.ref p) H'):∀ D,H D=none->qX nt g (xE X.K dl ix as sl keep) (xF X.K dl ix as sl keep f) (frees ix st) J D (fun _ H'=>Q (.ref D) H') H:=by
 intro D hD;refine⟨fun i m vs H1=>m=as.length - i/\i<=as.length/\∃ ar,aK Hf H ar H1/\ar D=none/\H1 D=some (.lst vs)/\aN X.K ar vs (((as.take i).filter keep).map f),⟨as.length,rfl,GO _,Hf,.cN S.sub hD,S.sub.free hD,aj,.nil⟩,?_⟩
 rintro i m vs H1 ⟨rfl,hi,ar,g1,Dp,Dq,rp⟩
 have hlen:=rp.length;rw[Bn] at hlen;have FV:((as.take i).filter keep).length<=i:=Ge (List.length_filter_le _ _) (by rw[Gv];omega);have mq:∀ {B6 Ha A0 Hb:Hp},aK B6 Ha A0 Hb->B6 D=none->Ha D=some (.lst vs)->A0 D=none/\Hb D=some (.lst vs):=fun {B6 Ha A0 Hb} gg e1 e2=>by
   refine⟨?_,gg.big _ _ e2⟩;cases q:A0 D with
   | none=>rfl
   | some u=>
     obtain⟨o,z⟩:=gg.l7 e2 (fun z=>z) q;rw[e1] at z;cases z
 by_cases cf:i < as.length
 . have xH:as[i]∈as:=Gz cf
   have et:as.take (i+1)=as.take i ++ [as[i]]:=by rw[He,AV cf];rfl
   obtain⟨B7,hy⟩:=(go ar H1 g1 i).1 (z as[i]) (by rw[Gb,AV cf];rfl);refine .inr ⟨B7,by omega,fun σ hσ v H2 y=>?_⟩;obtain⟨a8,g2,rv⟩:=hy v H2 y;obtain⟨d2,Eu⟩:=mq g2 Dp Dq;refine uv as[i] xH σ _ a8 H2 v _ hσ g2.sub rv fun σ' Ew tv=>⟨σ',rfl,Ew,as[i],⟨a8,H2⟩,xH,a8,kY S (g1.a6.trans g2.a6) g2.sub tv,fun kl H3 g3=>?_⟩
   obtain⟨d3,Dr⟩:=mq g3 d2 Eu;cases hk:keep as[i] with
   | false=>
     refine⟨as.length - (i+1),by omega,rfl,cf,kl,(g1.trans g2).trans g3,d3,Dr,?_⟩;rw[et,List.filter_append,List.filter_cons_of_neg (by simp[hk]),List.filter_nil,Gu];exact rp.mono (g2.a6.trans g3.a6)
   | true=>
     refine⟨as[i],⟨kl,H3⟩,xH,hk,kl,kY S ((g1.a6.trans g2.a6).trans g3.a6) g3.sub (tv.mono g3.a6),fun y B8 H4 g4 r4=>?_⟩;obtain⟨d4,Ex⟩:=mq g4 d3 Dr;have gg:=((g1.trans g2).trans g3).trans g4;refine⟨Ex,as.length - (i+1),by omega,rfl,cf,B8,⟨fun a o h=>?_,gg.a6,fun a o h=>?_,gg.new⟩,d4,aj,?_⟩
     . rw[ah (ao h hD)];exact gg.big _ _ h
     . rw[ah (ao h d4)];exact g4.sub _ _ h
     . rw[et,List.filter_append,List.filter_cons_of_pos (by simpa using hk),List.filter_nil,GY]
       exact(rp.mono ((g2.a6.trans g3.a6).trans g4.a6)).append (.cons r4 .nil)
 . have e:i=as.length:=by omega
   subst e;refine .inl ⟨(go ar H1 g1 _).2 (by simp),k D ar H1 g1 hD Dp ⟨vs,Dq,?_⟩⟩;rw[G5] at rp;exact rp
def xI (wi:TI)(nt:Nat)(ix:List Nat)(g:TG)(tt:TT)(te:TE):TE:=fun st H Q=>wi st H fun J H1=>∀ D,H1 D=none->qX nt g tt te (frees ix st) J D (fun _ H'=>Q (.ref D) H') H1
theorem xJ {tt:TT}{te:TE}(hc:X.calm=true)(B:gZ X N tn ix sc)(hi:PI X tg iter wi)(hg:∀ C fp s H,PG (aY X N sc C fp s H) tg g)(ht:∀ C fp s H,zX (aY X N sc C fp s H) ifs tt)(jF:∀ C fp s H,PE (aY X N sc C fp s H) elt te)(hs:∀ z,foldedSetIterable iter X.env z=pure z):PE X (.ListComp elt [⟨tg,iter,ifs,0⟩] sc pos) (xI wi tn.length ix g tt te):=by
 intro pins s st H Q I h;rw[eval_ListComp];refine wpAny_comprehension_free (use:=none) rfl hs (nC B I.ok) B.kind B.names (aS (hi pins s st H _ I h) fun v s1 h1=>aS h1 fun AI s2 h2=>?_);obtain⟨it,fp,tj,J,H2,e,I2,T,yN,f2,hq⟩:=h2;subst e;refine kX (RR:=fun acc C=>compPost (model X.prog X.w) X.A X.xe none (EP X pins st Q) acc C) hc B hg ht jF I2 T yN f2 hq ?_;intro D C ws H' s' I' ⟨m,hn⟩ oX q;exact⟨m,hn,fun h' B9=>⟨.ref D,H',I'.turned (t':=s'.toks) (it:=C) (fun b o hb e=>(B9.2 b hb).trans e) oX.1 oX.2.1 oX.2.2.2.1 oX.2.2.2.2.1 oX.2.2.2.2.2,rfl,q⟩⟩
theorem xK {tt:TT}{te:TE}{nN:Nat}(hc:X.calm=true)(B:gZ X N tn ix sc)(hi:PI X tg iter wi)(hg:∀ C fp s H,PG (aY X N sc C fp s H) tg g)(ht:∀ C fp s H,zX (aY X N sc C fp s H) ifs tt)(jF:∀ C fp s H,PE (aY X N sc C fp s H) elt te)(hs:∀ z,foldedSetIterable iter X.env z=pure z)(uw:swapsWith (.ListComp elt [⟨tg,iter,ifs,0⟩] sc pos) (some (.Name y py)) g6.line X.env=pure true)(hN:X.N.Nodup)(hy:X.N[nN]?=some y)(hl:Loc X.env.scope y)(hf:X.fn y=true\/X.env.scope.names.lookup y=some .local):PS X (.Assign [.Name y py] (.ListComp elt [⟨tg,iter,ifs,0⟩] sc pos) g6) (fun D st H=>xI wi tn.length ix g tt te st H fun v H'=>D.nx (st.set nN (some v)) H'):=by
 intro pins s st H D0 I h;rw[exec_Assign_Name_used _ _ _ _ uw];refine wpAny_bind (wpAny_standAt (wpAny_bind ?_));show wpAny _ X.A (do let _ <- comprehension (.ListComp elt [⟨tg,iter,ifs,0⟩] sc pos) sc X.env _ (newList []) false (eval iter X.env) (some (assign (.Name y py) X.env))) _ _ s;refine wpAny_bind (wpAny_mono (wpAny_comprehension_free (use:=some (assign (.Name y py) X.env)) (Q:=fun _ s'=>SP X pins D0 .next s') rfl hs (nC B I.ok) B.kind B.names (aS (hi pins s st H _ I h) fun v s1 h1=>aS h1 fun AI s2 h2=>?_)) (fun _ s' hq=>wpAny_pure (wpAny_pure hq)) fun _ _ z=>z);obtain⟨it,fp,tj,J,H2,e,I2,T,yN,f2,hq⟩:=h2;subst e;refine kX (RR:=fun acc C=>compPost (model X.prog X.w) X.A X.xe (some (assign (.Name y py) X.env)) (fun _ s'=>SP X pins D0 .next s') acc C) hc B hg ht jF I2 T yN f2 hq ?_;intro D C ws H' s' I' ⟨m,hn⟩ oX q;refine wpAny_assign_Name (iF I' hN hy hl (v:=.ref D) rfl (fun zu Ey ⟨ad,yS,ha⟩=>?_) hf);have ne:C≠ad:=by
   rcases ha with z | z
   . rw[z];exact oX.2.1
   . exact Ne.symm (oX.2.2.2.2.1 _ _ z)
 exact⟨m,hn.sameBut yS ne,fun h' B9=>⟨_,H',Ey.turned (t':=zu.toks) (it:=C) (fun b o hb e=>(B9.2 b hb).trans e) oX.1 oX.2.1 oX.2.2.2.1 oX.2.2.2.2.1 oX.2.2.2.2.2,q⟩⟩
theorem iZ (hs:iC X G dl (as.map z) wi)(uv:∀ a∈as,z0 X.K n g (z a) (sl a))(hn:as.length<=sizeLine):∀ st H Q,C9 X.K G dl (.lst ((as.filter keep).map f)) st H Q->xI wi n ix g (xE X.K dl ix as sl keep) (xF X.K dl ix as sl keep f) st H Q:=fun st H Q zq=>ou zq fun Hf zq=>have S:=zq.1;have k:=zq.2;
 hs st H _ ⟨Hf,S,fun J xD H0 g0 src=>oW (S.grow g0) hn uv (fun ar H1 g1 i=>src ar H1 g1.a6 g1.sub i) fun p au H' g n1 n2 r=>k p au H' (g0.trans g) (g0.big.free n1) n2 r⟩
theorem mv (as:List α)(z f:α->Dt)(sl:α->List Slot)(keep:α->Bool)(hc:X.calm=true)(B:gZ X N tn ix sc)(hi:PI X tg iter wi)(hg:∀ C fp s H,PG (aY X N sc C fp s H) tg g)(q8:iC X G dl (as.map z) wi)(uv:∀ a∈as,z0 X.K tn.length g (z a) (sl a))(xM:k4 X N sc dl ix as sl keep ifs)(jF:xG X N sc dl ix as sl keep f elt)(hn:as.length<=sizeLine)(hs:autoParam (∀ z,foldedSetIterable iter X.env z=pure z) va):EO X G dl (.ListComp elt [⟨tg,iter,ifs,0⟩] sc pos) (.lst ((as.filter keep).map f)):=cu (xJ hc B hi hg (qY xM) (qZ jF) hs) (iZ q8 uv hn)
theorem q9 (nN:Nat)(as:List α)(z f:α->Dt)(sl:α->List Slot)(keep:α->Bool)(hc:X.calm=true)(hN:X.N.Nodup)(B:gZ X N tn ix sc)(hi:PI X tg iter wi)(hg:∀ C fp s H,PG (aY X N sc C fp s H) tg g)(q8:iC X G dl (as.map z) wi)(uv:∀ a∈as,z0 X.K tn.length g (z a) (sl a))(xM:k4 X N sc dl ix as sl keep ifs)(jF:xG X N sc dl ix as sl keep f elt)(hn:as.length<=sizeLine)(hs:autoParam (∀ z,foldedSetIterable iter X.env z=pure z) va)(uw:autoParam (swapsWith (.ListComp elt [⟨tg,iter,ifs,0⟩] sc pos) (some (.Name y py)) g6.line X.env=pure true) jp)(hy:autoParam (X.N[nN]?=some y) jp)(hl:autoParam (Loc X.env.scope y) v0)(hf:autoParam (X.fn y=true\/X.env.scope.names.lookup y=some .local) xL):ES X G E dl (.Assign [.Name y py] (.ListComp elt [⟨tg,iter,ifs,0⟩] sc pos) g6) (.nx (dl.set nN (.own (.lst ((as.filter keep).map f))))):=
 l9 (xK hc B hi hg (qY xM) (qZ jF) hs uw hN hy hl hf) fun D st H zq=>ou zq fun Hf zq=>have S:=zq.1;have k:=zq.2;iZ q8 uv hn st H _ ⟨Hf,S,fun p au H' g n1 n2 r=>k _ au H' g.a6 (S.zT g n1 n2 r)⟩
def A1 (K:W.Frag)(g:TG)(z:Dt)(up:List Slot->List Slot):Prop:=∀ (G:Gr) (st:L2.St) (Hf H:Hp) (v:V) (dl:List Slot) (Q:L2.St->Hp->Prop),bE K G st Hf H dl->Rep K Hf v z->(∀ dw,bE K G dw Hf H (up dl)->Q dw H)->g v st H Q
theorem jG {K:W.Frag}{n:Nat}{z:Dt}:A1 K (dO n) z (fun dl=>dl.set n (.val z)):=fun G st Hf H v dl Q S r k=>k _ (S.set r)
theorem ux {K:W.Frag}{n m:Nat}{z1 z2:Dt}:A1 K (wx K 2 (iH (dO n) (iH (dO m) wu))) (.tup [z1,z2]) (fun dl=>(dl.set n (.val z1)).set m (.val z2)):=fun G st Hf H v dl Q S r k=>by
 cases r with
 | @tup q vs _ hq rp=>
   cases rp with
   | cons r1 t1=>cases t1 with
     | cons r2 t2=>
       cases t2;exact⟨q,_,rfl,aT S.sub hq,rfl,_,_,rfl,_,_,rfl,rfl,k _ ((S.set r1).set r2)⟩
theorem eN {body:List Stmt}{m:Nat}(as:List α)(z:α->Dt)(up:α->List Slot->List Slot)(S:Nat->List Slot)(eG:X.calm=true)(hp:PassesOwn (model X.prog X.w) X.A X.env X.xe)(hI:PI X tg iter wi)(q8:iC X G dl (as.map z) wi)(hg:PG X tg g)(uv:∀ a∈as,A1 X.K g (z a) (up a))(h0:Le (S 0) dl)(BQ:m<=as.length)(hb:∀ (k:Nat) (a:α),k < m->as[k]?=some a->Goes X G E body (up a (S k)) (S (k+1)))(he:eF X G E body S (fun k=>(as[k]?).elim (S k) fun a=>up a (S k)) as.length m o)(hs:autoParam (∀ z,foldedSetIterable iter X.env z=pure z) va):ES X G E dl (.For tg iter body [] pos) o:=by
 refine l9 (lV hp eG hI hg (kN (G:=G) (E:=E)) hs) fun D st H ⟨Hf,S0,k⟩=>q8 st H _ ⟨Hf,S0,fun J xD H0 g0 src=>?_⟩
 refine⟨fun i q st H=>q=as.length - i/\i<=m/\∃ ar,ax xD ar/\bE X.K G st ar H (S i),⟨as.length,rfl,GO _,xD,ax.refl _,(S0.grow g0).weak h0⟩,?_⟩
 rintro i q Ds H1 ⟨rfl,FW,ar,s1,S1⟩
 have sr:=src ar H1 s1 S1.sub i;by_cases cf:i < as.length
 . have hz:as[i]?=some as[i]:=AV cf
   obtain⟨B7,hy⟩:=sr.1 (z as[i]) (by rw[Gb,hz];rfl);refine .inr ⟨B7,fun dw H'=>i < m/\∃ a8,ax xD a8/\bE X.K G dw a8 H' (S (i+1)),fun dw H' ⟨h1,h2⟩=>⟨as.length - (i+1),by omega,rfl,by omega,h2⟩,fun x H' y=>?_⟩;obtain⟨a8,g2,rv⟩:=hy x H' y;refine uv as[i] (Gz cf) G Ds a8 H' x (S i) _ (S1.grow g2) rv fun yN S2=>?_
   by_cases xN:i < m
   . exact iV (hb i as[i] xN hz) S2 (fun st kl H s3 S'=>⟨xN,kl,(s1.trans g2.a6).trans s3,S'⟩) (fun st kl H s3 S'=>⟨xN,kl,(s1.trans g2.a6).trans s3,S'⟩)
   . have e:i=m:=by omega
     subst e;refine iW he cf ?_ (k.mono ((g0.a6.trans s1).trans g2.a6)) rfl rfl;show bE _ _ _ _ _ ((as[i]?).elim (S i) fun a=>up a (S i));rw[hz];exact S2
 . have e:i=as.length:=by omega
   subst e;have e2:m=as.length:=by omega
   subst e2;refine .inl ⟨sr.2 (by simp),?_⟩;cases he with
   | all _=>exact k Ds ar H1 (g0.a6.trans s1) S1
   | rt h _=>omega
   | ro h _=>omega
   | bk h _=>omega
   | ex h _=>omega
theorem dj (B:gZ X N tn ix sc)(h:tn=[x]):∀ C fp s H,PG (aY X N sc C fp s H) (.Name x px) (dO 0):=fun C fp s H=>by
 have hN:(aY X N sc C fp s H).N[0]?=some x:=by
   show N[0]?=some x;rw[B.nm,h];rfl
 have Du:(aY X N sc C fp s H).env.scope.names.lookup x=some .local:=lookup_relabel_local (B.hx x (by rw[h];simp));exact bc (X:=aY X N sc C fp s H) B.nd hN (.inl Du) (.inr Du)
end
noncomputable def i0 (sc Aa:Scope)(XN N tn:List Str)(ix:List Nat):Bool:=
 decide N.Nodup && (decide (N=tn ++ ix.map (fun j=>XN.getD j "")) && (decide (sc.kind=.function) && (sc.names.all (fun y=>decide (y.2≠.cell)) && (sc.names.all (fun y=>decide (y.2=.local->sc.names.lookup y.1=some .local)) && (tn.all (fun x=>decide (sc.names.lookup x=some .local)) &&
   (sc.names.all (fun y=>decide (y.2=.free->Aa.names.lookup y.1=some .cell\/Aa.names.lookup y.1=some .free)) && ix.all (fun j=>decide (sc.names.lookup (XN.getD j "")=some .free) && decide (j < XN.length))))))))
theorem dR {X:Cx}{sc Aa:Scope}{XN N tn:List Str}{ix:List Nat}(h:i0 sc Aa XN N tn ix=true)(e1:autoParam (X.env.scope=Aa) jp)(e2:autoParam (X.N=XN) jp):gZ X N tn ix sc:=by
 subst e1 e2;unfold i0 at h;simp only[GJ,List.all_eq_true,decide_eq_true_eq] at h;obtain⟨h1,h2,h3,h4,h5,h6,h7,h8⟩:=h;refine⟨h1,h2,h3,h4,h5,h6,h7,fun j hj=>?_⟩;obtain⟨q1,q2⟩:=h8 j hj;refine⟨X.N.getD j "",?_,q1⟩;rw[F2,AV q2];rfl
section
variable {X:Cx}{pins:List (Addr×Obj)}{σ:List (Option V)}{H:Hp}{s:Shared}{h':Heap}
theorem ra {ch:List Addr}{a:Addr}{o:HO}{t':Nat}(I:L2.Inv X pins σ H s)(kj:∀ b∈ch,fZ X pins H b)(k:∀ b u,b ∉ ch->s.heap.get? b=some u->h'.get? b=some u)(hp:s.heap.objs.size<=a)(new:aD X.prog X.w (upd H a o) h' a o):L2.Inv X pins σ (upd H a o) { s with heap:=h',toks:=t'}:=by
 have hn:=I.aF.fresh hp;have yY:∀ b u,H b=some u->b ∉ ch:=fun b u e z=>by rw[(kj b z).1] at e;cases e
 have Ez:∀ b o,s.heap.get? b=some o->b≠a:=fun b o e=>Gd (F1 (FK e) hp)
 refine I.step (g':=s.gens) (d':=s.drawn) (ch:=ch) (fun b hb=>⟨(kj b hb).2.2.2.1,(kj b hb).2.1,(kj b hb).2.2.2.2.1,(kj b hb).2.2.2.2.2⟩) (fun b o _ _ hc e _=>k b o hc e) (fun b o _ _ hc e _=>⟨o.slots,k b o hc e⟩) (fun b o _ e n=>by rw[ah (Ez b o e)];exact n)
   (fun b o hc e=>⟨o,k b o hc e⟩) (fun b xs e=>by rw[ah (ao e hn)];exact e) (fun b o u e=>by rw[ah (ao e hn)];exact e) (fun b ps e=>⟨#[],by rw[ah (ao e hn),e];simp⟩) (fun m hm=>?_) (fun b u e=>?_) I.bare
 . obtain⟨o,es,ep,ho,r⟩:=hm
   exact⟨o,es,ep,k _ o (fun z=>(kj _ z).2.1 rfl) ho,r⟩
 . by_cases hb:b=a
   . subst hb;rw[aj] at e;cases e;exact new
   . rw[ah hb] at e
     refine(I.aF b u e).iw (fun c v hc q=>k c v ?_ q) (fun c q=>by rw[ah (ao q hn)];exact q) (fun c xs q=>by rw[ah (ao q hn)];exact q) (.of fun c u q=>by rw[ah (ao q hn)];exact q);rcases hc with z | z | z
     . rw[z];exact yY b u e
     . exact yY c _ z
     . exact fun z'=>by rw[(kj c z').1] at z;exact z
end
noncomputable def Dv (K:PySem.W.Frag)(a:Addr):It:=
 ⟨fun i H=>∃ xs x,dN K H a xs/\xs[i]?=some x,fun i H v H'=>∃ p x,v=.ref p/\H p=none/\H'=upd H p (.tup [.int i,x])/\∀ xs,dN K H a xs->xs[i]?=some x,fun i H=>∃ xs,dN K H a xs/\xs.length<=i⟩
theorem oY {P:Program}{w:World}{K:W.Frag}{elts:List Expr}{kt:Nat}{qc:Pos}(a e it:Addr)(Dw:e≠it):Turn P w K (.Tuple elts kt qc) (Dv K a) [e,it] e (fun i h=>(∃ old,IsEnum h e it i old)/\h.IsListIter it a i) where
 mem:=by simp
 obj:=fun i h st b hb=>by
   obtain⟨⟨old,he⟩,o,e2,c,d⟩:=st;rcases Gy.mp hb with rfl | hb
   . exact⟨_,he,fun v z=>by cases z⟩
   . have:b=it:=by simpa using hb
     subst this;exact⟨o,e2,fun v z=>by rw[d] at z;cases z⟩
 keep:=fun i h h' st k=>by
   obtain⟨⟨old,he⟩,hit⟩:=st;exact⟨⟨old,k e (by simp) _ he⟩,hit.at fun o x=>k it (by simp) o x⟩
 item:=by
   intro X hP hw hK hc i pins s σ H E I hf st hg;subst hP hw hK;obtain⟨xs,x,hq,hx⟩:=hg;obtain⟨aB,rv,p,hz⟩:=I.list hq;obtain⟨u,hu,ru⟩:=rv.get hx;obtain⟨⟨old,he⟩,hit⟩:=st;have Dx:e < s.heap.objs.size:=FK he;have EC:it < s.heap.objs.size:=by obtain⟨_,z,_⟩:=hit;exact FK z
   refine wpAny_pyNext_enum_item he hit p.isList (x:=u) (by simpa using hu) Dw fun h1 ho Ca hT hsz hk=>?_
   refine⟨_,rfl,wpAny_letOwnedTupleGo_enum ho fun h2 BW vE=>?_⟩;have ED:h2.get? s.heap.objs.size=some { cls:=.type "tuple",data:=.seq #[.int i s.toks,u]}:=(vE.2 _ (Nat.ne_of_gt Dx)).trans hT;have k2:∀ b o,b ∉ [e,it]->s.heap.get? b=some o->h2.get? b=some o:=fun b o hb q=>(vE.2 b fun z=>hb (by simp[z])).trans (hk b o (fun z=>hb (by simp[z])) (fun z=>hb (by simp[z])) q)
   have hp:H s.heap.objs.size=none:=I.aF.fresh (DU _);have I2:L2.Inv X pins σ (upd H s.heap.objs.size (.tup [.int i,x])) { s with heap:=h2,toks:=s.toks+1}:=ra I hf k2 (DU _) ⟨G0 rfl,[.int i s.toks,u],.cons ⟨_,rfl⟩ (.cons ru .nil),_,ED,rfl,_,rfl⟩;refine⟨.ref s.heap.objs.size,_,I2,rfl,⟨_,x,rfl,hp,rfl,fun ys hy=>by rw[I.ky hy hq];exact hx⟩,⟨⟨u,by simpa using BW⟩,Ca.at fun o z=>(vE.2 it (Ne.symm Dw)).trans z⟩,fun b hb=>?_⟩;have:b≠s.heap.objs.size:=by
     rcases Gy.mp hb with rfl | hb
     . exact Gd Dx
     . have:b=it:=by simpa using hb
       subst this;exact Gd EC
   rw[ah this];exact(hf b hb).1
 done:=by
   intro X hP hw hK hc i pins s σ H E I hf st hg;subst hP hw hK;obtain⟨xs,hq,hx⟩:=hg;obtain⟨aB,rv,p,hz⟩:=I.list hq;obtain⟨⟨old,he⟩,hit⟩:=st;obtain⟨f0,f1,f2,f3,f4,f5⟩:=hf it (by simp);have hl:=rv.length;exact wpAny_pyNext_enum_end (I.ok.hd hc) he hit p.isList (by simp;omega) fun h' eb=>⟨rfl,I.turned (t':=s.toks) (fun b o hb q=>eb b o hb q) f0 f1 f3 f4 f5⟩
 self:=fun _ i s Q E st h=>by
   obtain⟨⟨old,he⟩,_⟩:=st;exact wpAny_pyIter_enum he h
theorem boot_enumerate:bootBuiltins "enumerate"=some (.type "enumerate"):=by decide +kernel
section
variable {X:Cx}{G:Gr}{dl:List Slot}{a:Expr}{xs:List Dt}{p pos:Pos}
def vP (K:W.Frag)(ta:TA):TI:=fun σ H R=>ta σ H fun vs H1=>∃ a,vs=[.ref a]/\(∃ xs,dN K H1 a xs)/\R (Dv K a) H1
theorem uy {elts:List Expr}{kt:Nat}{qc:Pos}{ta:TA}(hg:Gl X "enumerate")(hm:X.mg "enumerate"=none)(ha:PA X [a] ta)(hs:autoParam (starEach [a] X.env=[(false,eval a X.env)]) jp):PI X (.Tuple elts kt qc) (.Call (.Name "enumerate" p) [a] [] pos) (vP X.K ta):=by
 intro pins s σ H R I h;refine Call_ (gJ I hg hm boot_enumerate (PyProof.Rows.callWith_type1 (aS (ha pos pins s σ H _ I h) fun us s1 zq=>?_) hs rfl));obtain⟨vs,H1,I1,r1,q1⟩:=zq;obtain⟨l,e,⟨xs,hq⟩,q⟩:=q1;subst e;cases r1 with
 | cons r rr=>
   cases rr;cases r;obtain⟨aB,rv,pl,hz⟩:=I1.list hq;refine call_enumerate_list pl.isList fun h' he hit hsz k=>wpAny_pyIter_enum he ?_
   have I2:L2.Inv X pins σ H1 { s1 with heap:=h'}:=I1.kept (t':=s1.toks) k;refine⟨s1.heap.objs.size+1,[s1.heap.objs.size+1,s1.heap.objs.size],_,_,H1,rfl,I2,oY l _ s1.heap.objs.size (Nat.succ_ne_self _),⟨⟨_,he⟩,hit⟩,fun b hb=>?_,q⟩;have oK:s1.heap.objs.size<=b:=by
     rcases Gy.mp hb with rfl | hb
     . exact Hd _
     . have:b=s1.heap.objs.size:=by simpa using hb
       rw[this];exact DU _
   exact I1.oh oK (I1.aF.fresh oK)
noncomputable def nD (xs:List Dt):List Dt:=(GG xs.length).map fun(k:Nat)=>.tup [.int k,xs.getD k .a7]
theorem oZ:iC X G dl (nD xs) (vP X.K (C5 X.K G dl [.lst xs])):=fun st H R zq=>zn zq fun Hf S k=>fun vs ar H1 g1 r1=>by
 cases r1 with
 | cons r t=>
   cases t;cases r with
   | @lst q vs _ hq rp=>
     have hl:=rp.length;refine⟨q,rfl,⟨vs,.of (g1.sub _ _ hq)⟩,k _ ar H1 g1 fun a8 H2 s1 s2 i=>⟨fun z hz=>?_,fun hi=>⟨vs,.of (s2 _ _ (s1 _ _ hq)),by unfold nD at hi;rw[Bn,GS] at hi;omega⟩⟩⟩;have hi:i < xs.length:=by
       have:=(F6.mp hz).1;unfold nD at this;simpa using this
     unfold nD at hz;rw[Gb,List.getElem?_range hi] at hz;cases hz;have hx:xs[i]?=some (xs.getD i .a7):=by rw[F2,AV hi];rfl
     obtain⟨u,z1,z2⟩:=rp.get hx;have hs:dN X.K H2 q vs:=.of (s2 _ _ (s1 _ _ hq));refine⟨⟨vs,u,hs,z1⟩,fun v H3 hy=>?_⟩;obtain⟨pt,x,rfl,hn,rfl,e2⟩:=hy;have e2:=e2 vs hs;rw[z1] at e2;cases e2;have g3:aK a8 H2 (upd a8 pt (.tup [.int i,u])) (upd H2 pt (.tup [.int i,u])):=.alloc s2 hn;exact⟨_,g3,.tup (.inl aj) (.cons (.int _) (.cons ((z2.mono s1).mono g3.a6) .nil))⟩
end
section
variable {X:Cx}{pins:List (Addr×Obj)}{st:L2.St}{H H':Hp}{s s':Shared}{h2 B:Heap}
theorem rb (I:L2.Inv X pins st H s)(os:s'.os=s.os)(bare:AllBare s'.gens)(un:Un (cC X.stack) [] H H' s.heap s'.heap)(aF:dv X.prog X.w H' s'.heap)(bg:∀ b o,B.get? b=some o->s'.heap.get? b=some o)(qN:∀ b o,s.heap.get? b=some o->H b=none->b ∉ cC X.stack->B.get? b=some o)(qO:∀ b o,s.heap.get? b=some o->b ∉ cC X.stack->∃ o',B.get? b=some o')(ir:∀ a o,H' a=some o->∃ ob,B.get? a=some ob)(bh:∀ b o,B.get? b=some o->h2.get? b=some o)(ups:∀ b o,s'.heap.get? b=some o->(∀ vs,o.data≠.fields vs)->∃ sl,h2.get? b=some { o with slots:=sl}):L2.Inv X pins st H' { s' with heap:=h2}:=by
 have slot:∀ b o,s.heap.get? b=some o->H b=none->b∈cC X.stack->∃ sl,h2.get? b=some { o with slots:=sl}:=fun b o e0 gc hf=>by
   obtain⟨sl,e1⟩:=un.slot b o e0 gc hf (by simp);obtain⟨_,o2,e2,hd⟩:=I.stack.mem hf;have e2:s.heap.get? b=some o2:=e2;rw[e0] at e2;cases e2;obtain⟨uf,e3⟩:=ups b _ e1 hd;exact⟨uf,e3⟩
 refine I.m3 (s':={ s' with heap:=h2}) (ch:=[]) os ⟨fun b o e0 gc hf _=>bh _ _ (qN b o e0 gc hf),fun b o e0 gc hf _=>slot b o e0 gc hf,un.free,fun b o e0 _=>?_,un.fX,un.ff,un.fY⟩ (fun a o e=>?_) bare (fun b z=>absurd z (by simp))
 . by_cases hf:b∈cC X.stack
   . obtain⟨sl,e1⟩:=slot b o e0 (I.ei b hf) hf
     exact⟨_,e1⟩
   . obtain⟨o2,e2⟩:=qO b o e0 hf
     exact⟨o2,bh _ _ e2⟩
 . refine(aF a o e).iw (fun b u hb eu=>?_) (fun b z=>z) (fun b xs z=>z) .refl
   have oK:∃ ob,B.get? b=some ob:=by
     rcases hb with rfl | hb | hb
     . exact ir _ _ e
     . exact ir _ _ hb
     . cases qq:H' b with
       | none=>rw[qq] at hb;exact hb.elim
       | some u=>exact ir _ _ qq
   obtain⟨ob,eb⟩:=oK;have:=bg _ _ eb;rw[eu] at this;cases this;exact bh _ _ eb
end
theorem uz {M:Model}{A:Around}{E:Value->Shared->Prop}{K:W.Frag}{s:Shared}{ea C D:Addr}{Q:Bool->Shared->Prop}{bmB:List Value}{nw:String}(X:K.In s.heap)(hI:d0 s.heap ea C)(hD:W.excIn K D bmB nw=true)(lO:W.mroIn K D (.type "BaseException")=some true)(rg:W.mroIn K C (.ref D)=some true)(hq:Q true s):wpAny M A (excMatches (.ref ea) (.ref D)) Q E s:=by
 obtain⟨z1,z2,z3,z4,z5,z6,z7,z8,z9,y1,y2,y3,y4,y5,y6,y7,mN,hO,_,_,_⟩:=nv X hD;obtain⟨h,g,d,t,os⟩:=s;have L0:=hI.ty (M:=M);have L1:=W.looks_mroIn (M:=M) X lO;have BK:=W.looks_mroIn (M:=M) X rg;have f:=tc_notTuple;unfold excMatches
 repeat (first | with_reducible refine wpAny_loadPart_at hO ?_ | with_reducible refine W.Looks.at L0 ?_ | with_reducible refine W.Looks.at L1 ?_ | with_reducible refine W.Looks.at BK ?_ | wp_step)
 exact hq
section
variable {X:Cx}{pins kr:List (Addr×Obj)}{st:L2.St}{H H':Hp}{s s':Shared}{h2 B:Heap}{ea:Addr}{C:Addr}{xe:Value->Shared->Prop}{G:Gr}{Hf:Hp}
theorem k6 (I:L2.Inv { X with pn:=X.pn ++ pins,xe:=xe} kr st H s):L2.Inv X pins st H s:=
 ⟨⟨I.ok.mod,I.ok.kind,I.ok.glob,I.ok.blt,I.ok.above,I.ok.inj,I.ok.has,I.ok.v5,I.ok.hd,I.ok.frames,I.ok.yK,I.ok.yL,I.ok.bs,I.ok.pR,I.ok.lP,I.ok.lQ,I.ok.dY,I.ok.pM⟩,I.os,I.bare,I.base,I.loc,I.cell,I.free,I.cD,fun p hp=>I.pin p (Hj _ hp),I.aF,I.len⟩
theorem nE (I:L2.Inv X pins st H s):L2.Inv { X with pn:=X.pn ++ pins,xe:=xe} [] st H s:=
 ⟨⟨I.ok.mod,I.ok.kind,I.ok.glob,I.ok.blt,I.ok.above,I.ok.inj,I.ok.has,I.ok.v5,I.ok.hd,I.ok.frames,I.ok.yK,I.ok.yL,I.ok.bs,I.ok.pR,I.ok.lP,I.ok.lQ,I.ok.dY,I.ok.pM⟩,I.os,I.bare,I.base,I.loc,I.cell,I.free,I.cD,fun p hp=>I.pin p (by simpa using hp),I.aF,I.len⟩
theorem g7 {hd:Option Value}(I:L2.Inv X pins st H s):L2.Inv { X with A:=X.A.mark hd,calm:=false,xe:=xe} pins st H s:=
 ⟨⟨I.ok.mod,I.ok.kind,I.ok.glob,I.ok.blt,I.ok.above,I.ok.inj,I.ok.has,I.ok.v5,fun z=>Bool.noConfusion z,I.ok.frames,I.ok.yK,I.ok.yL,I.ok.bs,I.ok.pR,I.ok.lP,I.ok.lQ,I.ok.dY,I.ok.pM⟩,I.os,I.bare,I.base,I.loc,I.cell,I.free,I.cD,I.pin,I.aF,I.len⟩
theorem g8 {A:Around}(ok:X.Ok)(I:L2.Inv { X with A:=A,calm:=false,xe:=xe} pins st H s):L2.Inv X pins st H s:=
 ⟨ok,I.os,I.bare,I.base,I.loc,I.cell,I.free,I.cD,I.pin,I.aF,I.len⟩
theorem o3 (I:L2.Inv X pins st H s)(os:s'.os=s.os)(bare:AllBare s'.gens)(un:Un (cC X.stack) [] H H' s.heap s'.heap)(aF:dv X.prog X.w H' s'.heap)(bg:∀ b o,B.get? b=some o->s'.heap.get? b=some o)(qN:∀ b o,s.heap.get? b=some o->H b=none->b ∉ cC X.stack->B.get? b=some o)(qO:∀ b o,s.heap.get? b=some o->b ∉ cC X.stack->∃ o',B.get? b=some o')(ir:∀ a o,H' a=some o->∃ ob,B.get? a=some ob)(bh:∀ b o,B.get? b=some o->h2.get? b=some o)(ups:∀ b o,s'.heap.get? b=some o->(∀ vs,o.data≠.fields vs)->∃ sl,h2.get? b=some { o with slots:=sl})(hn:s.heap.get? ea=none)(pN:H' ea=none)(hI:d0 h2 ea C):L2.Inv X pins st (upd H' ea (.ext fun h=>d0 h ea C)) { s' with heap:=h2}:=by
 have slot:∀ b o,s.heap.get? b=some o->H b=none->b∈cC X.stack->∃ sl,h2.get? b=some { o with slots:=sl}:=fun b o e0 gc hf=>by
   obtain⟨sl,e1⟩:=un.slot b o e0 gc hf (by simp);obtain⟨_,o2,e2,hd⟩:=I.stack.mem hf;have e2:s.heap.get? b=some o2:=e2;rw[e0] at e2;cases e2;obtain⟨uf,e3⟩:=ups b _ e1 hd;exact⟨uf,e3⟩
 have sm:ax H' (upd H' ea (.ext fun h=>d0 h ea C)):=aL pN;refine I.m3 (s':={ s' with heap:=h2}) (ch:=[]) os ⟨fun b o e0 gc hf _=>bh _ _ (qN b o e0 gc hf),fun b o e0 gc hf _=>slot b o e0 gc hf,fun b o e0 gc hx=>?_,fun b o e0 _=>?_,fun b xs e=>sm _ _ (un.fX b xs e),fun b o u e=>sm _ _ (un.ff b o u e),fun b ps e=>let ⟨m,q⟩:=un.fY b ps e;⟨m,sm _ _ q⟩⟩ (fun a o e=>?_) bare (fun b z=>absurd z (by simp))
 . have ne:b≠ea:=fun z=>by rw[z,hn] at e0;cases e0
   rw[ah ne];exact un.free b o e0 gc hx
 . by_cases hf:b∈cC X.stack
   . obtain⟨sl,e1⟩:=slot b o e0 (I.ei b hf) hf
     exact⟨_,e1⟩
   . obtain⟨o2,e2⟩:=qO b o e0 hf
     exact⟨o2,bh _ _ e2⟩
 . by_cases ha:a=ea
   . subst ha
     rw[aj] at e;cases e;refine⟨hI,let ⟨ox,h1,_⟩:=hI;⟨ox,h1⟩,fun h1 h2 ⟨ox,q1,q2⟩ k=>⟨ox,k _ q1,q2⟩⟩
   . rw[ah ha] at e
     refine(aF a o e).iw (fun b u hb eu=>?_) (fun b z=>sm _ _ z) (fun b xs z=>sm _ _ z) (.of sm);have oK:∃ ob,B.get? b=some ob:=by
       rcases hb with rfl | hb | hb
       . exact ir _ _ e
       . exact ir _ _ hb
       . cases qq:H' b with
         | none=>rw[qq] at hb;exact hb.elim
         | some u=>exact ir _ _ qq
     obtain⟨ob,eb⟩:=oK;have:=bg _ _ eb;rw[eu] at this;cases this;exact bh _ _ eb
theorem uA {M:Model}{A:Around}{E:Value->Shared->Prop}{i:Nat}{x:Str}{pos:Pos}{Q:Unit->Shared->Prop}(I:L2.Inv X pins st H s)(hN:X.N.Nodup)(hi:X.N[i]?=some x)(hk:X.env.kindOf x=some .local)
   (h:∀ s',L2.Inv X pins (st.set i none) H s'->Q () s'):wpAny M A (do bindName X.env x .none;unbindBehindTheSuite X.env x pos) Q E s:=by
 obtain⟨m,hn,hl⟩:=id I.loc;have v7:(X.env.scope.kind == .class || (X.env.scope.kind == .module && X.env.locals != X.env.globals))=false:=by rw[I.ok.kind];rfl
 have AG:i < st.length:=by rw[I.len];exact(F6.mp hi).1
 have mY:=I.mY;refine wpAny_nameGoes_keeps hk hn v7 fun h' v pN hs=>?_
 obtain⟨oL,_,_,CO,_⟩:=id hn;refine h _ ⟨I.ok,I.os,I.bare,⟨fun b o e n hb hx=>?_,fun b o e n hb hx=>?_,I.base.free,fun b o e hx=>?_,I.base.fX,I.base.ff,I.base.fY⟩,⟨_,pN,fun j y v' e1 e2 e3=>?_⟩,fun y c e=>?_,I.free,I.cD,fun p hp=>?_,fun b ob e=>?_,by simpa using I.len⟩
 . exact(hs.2 b (Gd (F1 (FK e) I.ok.above))).trans (I.base.keep b o e n hb hx)
 . obtain⟨sl,e1⟩:=I.base.slot b o e n hb hx
   exact⟨sl,(hs.2 b (Gd (F1 (FK e) I.ok.above))).trans e1⟩
 . obtain⟨o',e1⟩:=I.base.there b o e hx
   exact⟨o',(hs.2 b (Gd (F1 (FK e) I.ok.above))).trans e1⟩
 . by_cases hj:j=i
   . subst hj
     rw[FG AG] at e2;cases e2
   . rw[Cq (Ne.symm hj)] at e2
     obtain⟨u',r',q⟩:=hl j y v' e1 e2 e3;refine⟨u',r',?_⟩;rcases q with⟨k,e⟩ | ⟨k,c,e,z⟩
     . refine .inl ⟨k,?_⟩
       have:y≠x:=fun e=>hj (gH hN e1 (e ▸ hi))
       simp[this,e]
     . exact .inr ⟨k,c,e,z.sameBut hs (mY y c e)⟩
 . obtain⟨w',z⟩:=I.cell y c e
   exact⟨w',z.sameBut hs (mY y c e)⟩
 . obtain⟨e,n,ne,nf,d⟩:=I.pin p hp
   exact⟨(hs.2 p.1 ne).trans e,n,ne,nf,d⟩
 . refine(I.aF b ob e).iw (fun c w' hc q=>(hs.2 c ?_).trans q) (fun _ q=>q) (fun _ _ q=>q) .refl
   rintro rfl
   rcases hc with rfl | hc | hc
   . have:=I.free;rw[this] at e;cases e
   . have:=I.free;rw[this] at hc;cases hc
   . have:=I.free;rw[this] at hc;exact hc
theorem rh {K:W.Frag}{dl:List Slot}{i:Nat}(S:bE K G st Hf H dl):bE K G (st.set i none) Hf H (dl.set i .bX):=by
 refine⟨S.gr,by simp[S.len],fun j d h=>?_,fun j o h=>?_,fun j k o o' a h1 h2 h3 h4=>?_⟩
 . by_cases e:i=j
   . subst e
     by_cases hl:i < dl.length
     . rw[FG hl] at h;cases h
     . rw[Gi (by simp;omega)] at h;cases h
   . rw[Cq e] at h ⊢;exact S.val j d h
 . by_cases e:i=j
   . subst e
     by_cases hl:i < dl.length
     . rw[FG hl] at h;cases h
     . rw[Gi (by simp;omega)] at h;cases h
   . rw[Cq e] at h ⊢;exact S.own j o h
 . have ne:∀ (j:Nat) o,(dl.set i .bX)[j]?=some (.own o)->i≠j:=fun j o h e=>by
     subst e;by_cases hl:i < dl.length
     . rw[FG hl] at h;cases h
     . rw[Gi (by simp;omega)] at h;cases h
   have n1:=ne j o h1;have n2:=ne k o' h2;rw[Cq n1] at h1 h3;rw[Cq n2] at h2 h4;exact S.t4 j k o o' a h1 h2 h3 h4
noncomputable def noOwn:List Slot->Bool
 | []=>true
 | .own _::_=>false
 | _::r=>noOwn r
theorem bH:∀ {dl:List Slot},noOwn dl=true->∀ (j:Nat) o,dl[j]?≠some (.own o)
 | [],_,j,o,h=>by simp at h
 | .val d::r,q,0,o,h=>by simp at h
 | .bX::r,q,0,o,h=>by simp at h
 | .val d::r,q,j+1,o,h=>bH (dl:=r) q j o (by simpa using h)
 | .bX::r,q,j+1,o,h=>bH (dl:=r) q j o (by simpa using h)
def Dy (C:Addr)(Hf H:Hp):XK:=fun c _ H1=>c=.ref C/\∃ ar,aK Hf H ar H1
end
section
variable {X:Cx}{G:Gr}{E:XK}{dl:List Slot}{e:Expr}{es:List Expr}{ds:List Dt}{pos p pos':Pos}{x:Str}{fe:List (Str×Dt)}{k k' n:Nat}{R:List Dt->Res->Prop}{c:Value}
theorem uB (F:GF X.prog X.w X.K X.mg X.base (oR X.prog X.w) k x n R)(hx:Passes (oR X.prog X.w) X E)(hr:aV k' X.A)(ha:EA X G dl (e::es) ds)(h:R ds (.exc c fe))(oN:autoParam (k<=k') xz)(hl:autoParam (ds.length=n) jp)(hg:autoParam (Gl X x) jp)(cL:autoParam ((x == ("__debug__":Str))=false) xz)(he:autoParam (starEach (e::es) X.env=(false,eval e X.env)::starEach es X.env) jp)(cZ:autoParam ((backTo pos (starEach es X.env)).any (·.1)=false) jp)(hs:autoParam (swapsWith (.Call (.Name x p) (e::es) [] pos) none pos'.line X.env=pure false) jp):ES X G E dl (.Expr (.Call (.Name x p) (e::es) [] pos) pos') (.ex c fe):=by
 obtain⟨f,fd,ps,Fo,hm,hk,hb⟩:=F.ex;exact l9 (jf (jj (dvs:=[]) (E:=E) Fo (hr.mono oN) hg hm hk hb .nil hx ha cL he cZ) hs) fun D st H zq=>zn zq fun Hf S kk=>fun vs ar H1 g1 r1=>⟨ar,ds,.exc c fe,g1.sub,by rw[Gu];exact r1,hl,h,fun od a8 H2 g2 xx=>kk od a8 H2 (S.gr.trans (g1.trans g2)) xx⟩
end
section
variable {X:Cx}{G:Gr}{dl:List Slot}{e:Expr}{x:Str}{i j:Int}{pos p2:Pos}{lo hi:Option Expr}{l u:Option Int}
theorem xO:By X (fun x lo hi H Q=>∃ z:Str,x=.str z/\z.length<=sizeLine/\Q (.str (Txt.slice z lo hi)) H):=by
 intro pins s σ H x v vl vu lo hi sl Q I rx hs pl pu h;obtain⟨z,rfl,hz,q⟩:=h;obtain⟨t,rfl⟩:=(show ∃ t,v=Value.str z t from rx)
 obtain⟨o,h1,h2,h3⟩:=hs;refine⟨"str",_,F.slot_str_getitem.lookup,typeIs_str _ _ _,?_⟩;cases pl with
 | none=>
   cases pu with
   | none=>exact wpAny_getItem_str_slice (l:=none) (u:=none) (st:=none) ⟨o,h1,h2,h3⟩ rfl (post_val_or_str ⟨Ge (Txt.slice_le z _ _) hz,fun t' k=>⟨.str (Txt.slice z _ _),H,I.tok _,⟨t',rfl⟩,q⟩⟩)
   | int j uj=>exact wpAny_getItem_str_slice (l:=none) (u:=some (j,uj)) (st:=none) ⟨o,h1,h2,h3⟩ rfl (post_val_or_str ⟨Ge (Txt.slice_le z _ _) hz,fun t' k=>⟨.str (Txt.slice z _ _),H,I.tok _,⟨t',rfl⟩,q⟩⟩)
 | int i ui=>
   cases pu with
   | none=>exact wpAny_getItem_str_slice (l:=some (i,ui)) (u:=none) (st:=none) ⟨o,h1,h2,h3⟩ rfl (post_val_or_str ⟨Ge (Txt.slice_le z _ _) hz,fun t' k=>⟨.str (Txt.slice z _ _),H,I.tok _,⟨t',rfl⟩,q⟩⟩)
   | int j uj=>exact wpAny_getItem_str_slice (l:=some (i,ui)) (u:=some (j,uj)) (st:=none) ⟨o,h1,h2,h3⟩ rfl (post_val_or_str ⟨Ge (Txt.slice_le z _ _) hz,fun t' k=>⟨.str (Txt.slice z _ _),H,I.tok _,⟨t',rfl⟩,q⟩⟩)
def Cb (K:W.Frag)(G:Gr)(dl:List Slot)(o:Option Int):TO:=fun st H Q=>∃ Hf,bE K G st Hf H dl/\∀ au H',aK Hf H au H'->Q o H'
abbrev A2 (X:Cx)(G:Gr)(dl:List Slot)(e:Option Expr)(o:Option Int):Prop:=PO X e (Cb X.K G dl o)
theorem Dz {e:Option Expr}{t t':TO}(h:PO X e t)(i:∀ st H Q,t' st H Q->t st H Q):PO X e t':=fun pins s st H Q I q=>h pins s st H Q I (i st H Q q)
theorem mw:A2 X G dl none none:=Dz jl fun st H Q zq=>ou zq fun Hf zq=>have S:=zq.1;have k:=zq.2;k Hf H (.refl S.sub)
theorem jH (h:EE X G dl e (.int i)):A2 X G dl (some e) (some i):=Dz (jm h) fun st H Q zq=>zn zq fun Hf S k=>fun v ar H1 g1 r1=>by cases r1;exact⟨i,rfl,k ar H1 g1⟩
theorem my (he:EE X G dl e (.str x))(hl:A2 X G dl lo l)(hu:A2 X G dl hi u)(hx:x.length<=sizeLine):EE X G dl (.Subscript e (.Slice lo hi none p2) pos) (.str (Txt.slice x l u)):=
 cu (gN xO he hl hu) fun st H Q zq=>zn zq fun Hf S k=>fun v ar H1 g1 r1=>⟨ar,S.grow g1,fun a8 H2 g2=>⟨a8,(S.grow g1).grow g2,fun kl H3 g3=>by
   cases r1;exact⟨x,rfl,hx,k _ kl H3 ((g1.trans g2).trans g3) (.str _)⟩⟩⟩
end
noncomputable def DA (x:Str):It:=⟨fun i H=>∃ c,x.cps[i]?=some c,fun i H v H'=>H'=H/\∃ c,x.cps[i]?=some c/\v=.str ⟨#[c]⟩,fun i H=>x.cps[i]?=none⟩
theorem ri {P:Program}{w:World}{K:W.Frag}{tg:Expr}(x:Str)(t:Tok)(it:Addr):Turn P w K tg (DA x) [it] it (fun i h=>h.IsStrIter it "str_ascii_iterator" x t i) where
 mem:=by simp
 obj:=fun i h st b hb=>by
   have e:b=it:=by simpa using hb
   subst e;obtain⟨o,e,c,d⟩:=st;exact⟨o,e,fun v z=>by rw[d] at z;cases z⟩
 keep:=fun i h h' st k=>let ⟨o,e,c,d⟩:=st;⟨o,k it (by simp) o e,c,d⟩
 item:=by
   intro X hP hw hK hc i pins s σ H E I hf st hg;subst hP hw hK;obtain⟨c,hx⟩:=hg;obtain⟨f0,f1,f2,f3,f4,f5⟩:=hf it (by simp);refine wpAny_pyNext_ascii_item st hx fun h' dw sb=>?_
   have I1:L2.Inv X pins σ H { s with heap:=h',toks:=s.toks+1}:=I.turned (t':=s.toks+1) (fun b o hb e=>(sb.2 b hb).trans e) f0 f1 f3 f4 f5;obtain⟨o,e,cc,d⟩:=id dw;exact⟨_,rfl,m5 (s:={ s with heap:=h',toks:=s.toks+1}) e cc d (by decide) ⟨.str ⟨#[c]⟩,H,I1,⟨_,rfl⟩,⟨rfl,c,hx,rfl⟩,dw,fun b hb=>(hf b hb).1⟩⟩
 done:=by
   intro X hP hw hK hc i pins s σ H E I hf st hg;subst hP hw hK;obtain⟨f0,f1,f2,f3,f4,f5⟩:=hf it (by simp);exact wpAny_pyNext_ascii_end (I.ok.hd hc) st hg fun h' eb=>⟨rfl,I.turned (t':=s.toks) (fun b o hb e=>eb b o hb e) f0 f1 f3 f4 f5⟩
 self:=fun _ _ _ _ _ st h=>wpAny_pyIter_striter_ascii st h
noncomputable def dk (x:Str):Bool:=x.cps.all (· < 128)
noncomputable def signs (x:Str):List Dt:=x.cps.toList.map fun c=>.str ⟨#[c]⟩
section
variable {X:Cx}{G:Gr}{dl:List Slot}{a b c e:Expr}{x y z:Str}{pos:Pos}{i j k:Int}{u v:Bool}
def Ab (ta:TE):TI:=fun σ H R=>ta σ H fun v H1=>∃ x,v=.str x/\dk x=true/\R (DA x) H1
theorem jI {tg:Expr}{ta:TE}(ha:PE X a ta):PI X tg a (Ab ta):=by
 intro pins s σ H R I h;refine aS (ha pins s σ H _ I h) fun v s1 zq=>?_;obtain⟨w,H1,I1,r1,q1⟩:=zq
 obtain⟨x,e,hx,q⟩:=q1;subst e;obtain⟨t,rfl⟩:=(show ∃ t,v=Value.str x t from r1)
 refine wpAny_pyIter_ascii hx ?_;refine⟨s1.heap.objs.size,[s1.heap.objs.size],_,_,H1,rfl,I1.kept (t':=s1.toks) fun b o e=>F0 _ e,ri x t _,⟨_,Gp _ rfl,rfl,rfl⟩,fun b hb=>?_,q⟩;have e:b=s1.heap.objs.size:=by simpa using hb
 subst e;exact I1.oh (DU _) (I1.aF.fresh (DU _))
theorem signs_get (x:Str)(i:Nat):(signs x)[i]?=(x.cps[i]?).map fun c=>.str ⟨#[c]⟩:=by
 unfold signs;rw[Gb,Array.getElem?_toList]
theorem o4 (x:Str):(signs x).length=x.length:=by
 unfold signs;rw[Bn,Ho];rfl
theorem eO (hx:dk x=true):iC X G dl (signs x) (Ab (tD X.K G dl (.str x))):=fun st H R zq=>zn zq fun Hf S k=>fun v ar H1 g1 r1=>by
 cases r1;refine⟨x,rfl,hx,k _ ar H1 g1 fun a8 H2 s1 s2 i=>⟨fun z hz=>?_,fun hi=>?_⟩⟩
 . rw[signs_get] at hz
   cases q:x.cps[i]? with
   | none=>rw[q] at hz;cases hz
   | some c=>
     rw[q] at hz;cases hz;refine⟨⟨c,q⟩,fun v H3 zq=>?_⟩;obtain⟨e1,c',e2,e3⟩:=zq;rw[q] at e2;cases e2;subst e1 e3;exact⟨a8,.refl s2,.str _⟩
 . show x.cps[i]?=none
   rw[hi,o4];exact Array.getElem?_size_le (DU _)
theorem i3:e9 X (compareOp .LtE) (fun x y H Q=>∃ i j,x=.str i/\y=.str j/\Q (.bl (!decide (j.cps.toList < i.cps.toList))) H):=by
 intro pins s σ H x y v u Q I rx ry h;obtain⟨i,j,rfl,rfl,q⟩:=h;obtain⟨t,rfl⟩:=rx;obtain⟨t',rfl⟩:=ry;exact P.le_str (bu I q rfl)
noncomputable def xP (x y:Str):Bool:=!decide (y.cps.toList < x.cps.toList)
theorem rj {K:W.Frag}:oI K (fun x y H Q=>∃ i j,x=.str i/\y=.str j/\Q (.bl (!decide (j.cps.toList < i.cps.toList))) H) (.str x) (.str y) (.bl (xP x y)):=fun v w Hf H Q s r1 r2 k=>by
 cases r1;cases r2;exact⟨x,y,rfl,rfl,k _ Hf H (.refl s) (.bl _)⟩
variable {d1 d2 d3:Dt}
theorem k7 {op wM:CmpOp}{r r':R2}(ho:e9 X (compareOp op) r)(pS:e9 X (compareOp wM) r')(h1:oI X.K r d1 d2 (.bl u))(h2:oI X.K r' d2 d3 (.bl v))(ha:EE X G dl a d1)(hb:EE X G dl b d2)(hc:EE X G dl c d3)(hm:autoParam (lastMarks [op,wM] [b,c]=false) kh):EE X G dl (.Compare a [op,wM] [b,c] pos) (.bl (u && v)):=
 cu (p9 ho pS ha hb hc hm) fun st H Q zq=>zn zq fun Hf S k=>fun x ar H1 g1 r1=>⟨ar,S.grow g1,fun y a8 H2 g2 r2=>h1 x y a8 H2 _ g2.sub (r1.mono g2.a6) r2 fun z kl H3 g3 r3=>by
   cases r3;refine⟨u,rfl,?_⟩;cases u with
   | false=>exact tX (k _ kl H3 ((g1.trans g2).trans g3) (.bl _))
   | true=>exact tY ⟨kl,((S.grow g1).grow g2).grow g3,fun w B8 H4 g4 r4=>h2 y w B8 H4 Q g4.sub (r2.mono (g3.a6.trans g4.a6)) r4 fun q Cc H5 g5 r5=>k q Cc H5 ((((g1.trans g2).trans g3).trans g4).trans g5) r5⟩⟩
theorem rl (ha:EE X G dl a (.str x))(hb:EE X G dl b (.str y))(hc:EE X G dl c (.str z))(hm:autoParam (lastMarks [.LtE,.LtE] [b,c]=false) kh):EE X G dl (.Compare a [.LtE,.LtE] [b,c] pos) (.bl (xP x y && xP y z)):=k7 i3 i3 rj rj ha hb hc hm
theorem rm (ha:EE X G dl a (.int i))(hb:EE X G dl b (.int j))(hc:EE X G dl c (.int k))(hm:autoParam (lastMarks [.LtE,.LtE] [b,c]=false) kh):EE X G dl (.Compare a [.LtE,.LtE] [b,c] pos) (.bl (decide (i<=j) && decide (j<=k))):=
 k7 vD vD (iU (g':=fun i j=>.bl (decide (i<=j))) fun _ _ _ _=>.bl _) (iU (g':=fun i j=>.bl (decide (i<=j))) fun _ _ _ _=>.bl _) ha hb hc hm
end
section
variable {X:Cx}{G:Gr}{dl:List Slot}{a b e:Expr}{pos p apos aE:Pos}{k x:Str}{xs:List Str}{bs:List Bool}{hi:Option Expr}{l u:Option Int}
theorem rq {neg:Bool}:oI X.K (AO X.K neg) (.str k) (.lst (xs.map .str)) (.bl (if neg then !decide (k∈xs) else decide (k∈xs))):=fun v w Hf H Q s r1 r2 kk=>by
 cases r1;cases r2 with
 | @lst q vs _ hq rp=>
   have ev:=dB rp;subst ev;refine⟨q,_,rfl,.inl (.of (s _ _ hq)),rfl,iY xs,?_⟩;rw[gY];exact kk _ Hf H (.refl s) (.bl _)
theorem xQ (ha:EE X G dl a (.str k))(hb:EE X G dl b (.lst (xs.map .str)))(hm:autoParam (behindInMarks .In b=false) jp):EE X G dl (.Compare a [.In] [b] pos) (.bl (decide (k∈xs))):=jw iN (rq (neg:=false)) hm ha hb
theorem uC (ha:EE X G dl a (.str k))(hb:EE X G dl b (.lst (xs.map .str)))(hm:autoParam (behindInMarks .NotIn b=false) jp):EE X G dl (.Compare a [.NotIn] [b] pos) (.bl (!decide (k∈xs))):=jw jo (rq (neg:=true)) hm ha hb
theorem range_all (bs:List Bool):(GG bs.length).all (fun i=>bs.getD i true)=bs.all id:=by
 induction bs with
 | nil=>rfl
 | cons b r ih=>
   rw[GH,List.range_succ_eq_map,Hi,List.all_map,Hi];show(b && (GG r.length).all (fun i=>r.getD i true))=(b && r.all id);rw[ih]
theorem o5 (hc:X.calm=true):fQ X (.builtin "all") (fun xs H Q=>∃ (p:Addr) (bs:List Bool),xs=[.ref p]/\dN X.K H p (bs.map V.bl)/\Q (.bl (bs.all id)) H):=by
 intro pins s σ H xs us Q I r h;obtain⟨p,bs,rfl,hq,q⟩:=h;obtain⟨u,rfl,rx⟩:=vals1 r;cases rx;obtain⟨aB,rv,pl,hz⟩:=I.list hq;have hlen:=rv.length;rw[Bn] at hlen;obtain⟨o,n,ho,_⟩:=id pl;have hp:p < s.heap.objs.size:=FK ho;refine call_all_walk (wpAny_pyIter_list pl.isList ?_);refine⟨s.heap.objs.size,_,_,_,_,_,fun i=>bs.getD i true,rfl,Walks.list (A:=X.A.in1) (I.ok.hd hc) s.heap.objs.size p (Gd hp) aB.toArray,⟨⟨_,Gp _ rfl,rfl,rfl⟩,?_⟩,fun i v s' Q' E' hv hQ=>?_,fun h' tk hk=>?_⟩
 . exact pl.isList.at fun o e=>F0 _ e
 . have hv:aB[i]?=some v:=by simpa using hv
   have hi:i < aB.length:=(F6.mp hv).1;have DB:i < bs.length:=by omega
   obtain⟨u',h1,h2⟩:=rv.get (i:=i) (x:=V.bl bs[i]) (by rw[Gb,AV DB];rfl);rw[hv] at h1;cases h1;cases h2;have e:bs.getD i true=bs[i]:=by rw[F2,AV DB];rfl
   have hQ:Q' (bs.getD i true) s':=hQ;rw[e] at hQ;exact wpAny_truthy_bool hQ
 . have ea:(GG aB.toArray.size).all (fun i=>bs.getD i true)=bs.all id:=by rw[Gm,<- hlen];exact range_all bs
   rw[ea];refine⟨.bl _,H,I.kept (t':=tk) fun b o e=>hk b o (fun hm=>?_) (F0 _ e),rfl,q⟩;have:b=s.heap.objs.size:=by simpa using hm
   subst this;exact GZ _ (FK e)
theorem boot_all:bootBuiltins "all"=some (.builtin "all"):=by decide +kernel
theorem k8 {K:W.Frag}{H:Hp}:∀ {bs:List Bool} {vs:List V},aN K H vs (bs.map Dt.bl)->vs=bs.map V.bl
 | [],_,.nil=>rfl
 | b::r,_,.cons h t=>by cases h;rw[k8 t];rfl
theorem xR (hm:X.mg "all"=none)(hc:X.calm=true)(ha:EE X G dl a (.lst (bs.map .bl)))(hg:autoParam (Gl X "all") jp)(he:autoParam (starEach [a] X.env=[(false,eval a X.env)]) jp):EE X G dl (.Call (.Name "all" p) [a] [] pos) (.bl (bs.all id)):=
 cu (de (o5 hc) hg hm boot_all (ae ha ak he) (by decide) (by decide) he rfl) fun st H Q zq=>zn zq fun Hf S k=>fun vs ar H1 g1 r1=>by
   cases r1 with
   | cons r t=>cases t;cases r with
     | @lst q vs _ z r=>
       have ev:=k8 r;subst ev;exact⟨q,bs,rfl,.of (g1.sub _ _ z),k _ ar H1 g1 (.bl _)⟩
theorem i4:∀ {xs:List Str} {us:List Value},Vals (xs.map V.str) us->∃ l:List (Str×Tok),us=strValues l/\l.map (·.1)=xs
 | [],_,.nil=>⟨[],rfl,rfl⟩
 | x::r,_,.cons h t=>by
   obtain⟨tk,rfl⟩:=h;obtain⟨l,rfl,e⟩:=i4 t;exact⟨(x,tk)::l,rfl,by rw[Gs,e]⟩
theorem uD:CY X "str.join" (fun x xs H Q=>∃ (z:Str) (p:Addr) (ys:List Str),x=.str z/\xs=[.ref p]/\dN X.K H p (ys.map V.str)/\JoinOk z ys=true/\Q (.str (Txt.join z ys)) H):=by
 intro pins s σ H x xs v us Q I rx rv zq;obtain⟨z,p,ys,e1,e2,hq,aF,q⟩:=zq;subst e1 e2;obtain⟨t,rfl⟩:=(show ∃ t,v=Value.str z t from rx)
 obtain⟨u,rfl,ru⟩:=vals1 rv;cases ru;obtain⟨aB,r,pl,hz⟩:=I.list hq;obtain⟨l,rfl,el⟩:=i4 r;exact SC.join pl.isList el aF fun t' k=>⟨.str (Txt.join z ys),H,I.tok _,⟨t',rfl⟩,q⟩
theorem uE (ha:EE X G dl a (.str x))(he:EE X G dl e (.lst (xs.map .str)))(aF:JoinOk x xs=true)(cF:autoParam (attributeBase a "join" X.env (eval a X.env)=eval a X.env) jp)
   (fo:autoParam (((backTo aE (starEach [e] X.env)).all (fun x=>!x.1) && (backToKw aE (keywordEach [] X.env)).all (fun x=>x.1.isSome) && decide ([e].length+([]:List Keyword).length+(if ([]:List Keyword).isEmpty then 0 else 1) < 30))=true) jp)
   (cG:autoParam ((apos.endLine == aE.line)=true) jp) (e7:autoParam (starEach [e] X.env=(false,eval e X.env)::starEach [] X.env) jp):EE X G dl (.Call (.Attribute a "join" apos) [e] [] aE) (.str (Txt.join x xs)):=
 cu (vH PySem.F.plainAttrs_str PySem.F.slot_str_join PySem.F.type_str_join uD ha (ae he ak e7) cF fo cG e7 rfl) fun st H Q zq=>zn zq fun Hf S k=>fun v ar H1 g1 r1=>by
   cases r1;refine⟨rfl,ar,S.grow g1,fun us a8 H2 g2 r2=>?_⟩;cases r2 with
   | cons r2 t2=>cases t2;cases r2 with
     | @lst q vs _ hq rp=>
       have ev:=dB rp;subst ev;exact⟨x,q,xs,rfl,rfl,.of (g2.sub _ _ hq),aF,k _ a8 H2 (g1.trans g2) (.str _)⟩
end
noncomputable def cB (kds:List (Key×Dt))(k:Key):Option Dt:=(kds.find? fun kv=>decide (kv.1=k)).map (·.2)
theorem eP {p:Key×Dt}{r:List (Key×Dt)}{k:Key}(e:p.1=k):cB (p::r) k=some p.2:=by simp[cB,GD,e]
theorem dm {p:Key×Dt}{r:List (Key×Dt)}{k:Key}(e:¬ p.1=k):cB (p::r) k=cB r k:=by simp[cB,GD,e]
theorem aW.val {K:W.Frag}{H:Hp}{k:Key}:∀ {kvs:List (Key×V)} {kds:List (Key×Dt)} {d:Dt},aW K H kvs kds->cB kds k=some d->∃ v,dZ kvs k=some v/\Rep K H v d
 | _,_,_,.nil,e=>by cases e
 | (k1,v1)::r,(_,d1)::s,d,.cons h t,e=>by
   by_cases q:k1=k
   . rw[eP (p:=(k1,d1)) q] at e;cases e
     exact⟨v1,dg (p:=(k1,v1)) q,h⟩
   . rw[dm (p:=(k1,d1)) q] at e
     obtain⟨v,z1,z2⟩:=aW.val t e;exact⟨v,by rw[dh (p:=(k1,v1)) q];exact z1,z2⟩
theorem aW.k9 {K:W.Frag}{H:Hp}{k:Key}:∀ {kvs:List (Key×V)} {kds:List (Key×Dt)},aW K H kvs kds->(dZ kvs k).isSome=(cB kds k).isSome
 | _,_,.nil=>rfl
 | (k1,v1)::r,(_,d1)::s,.cons h t=>by
   by_cases q:k1=k
   . rw[dg (p:=(k1,v1)) q,eP (p:=(k1,d1)) q];rfl
   . rw[dh (p:=(k1,v1)) q,dm (p:=(k1,d1)) q]
     exact aW.k9 t
theorem aW.snoc {K:W.Frag}{H:Hp}{k:Key}{v:V}{d:Dt}(q:Rep K H v d):∀ {kvs:List (Key×V)} {kds:List (Key×Dt)},aW K H kvs kds->aW K H (kvs ++ [(k,v)]) (kds ++ [(k,d)])
 | _,_,.nil=>.cons q .nil
 | _,_,.cons h t=>.cons h (aW.snoc q t)
theorem uF {kvs:List (Key×V)}{k:Key}{v:V}(h:(dZ kvs k).isSome=false):putK kvs k v=kvs ++ [(k,v)]:=by
 unfold putK;rw[eD,h];exact if_neg (by simp)
section
variable {X:Cx}{G:Gr}{E:XK}{dl:List Slot}{a b e i o:Expr}{d:Dt}{pos p:Pos}{k x:Str}{kds:List (Key×Dt)}
theorem nF (hu:X.A.units+1 < cLine)(ho:EE X G dl o (.bW kds))(hi:EE X G dl i (.str k))(h:cB kds (.inr k)=some d)(hs:wZ i):EE X G dl (.Subscript o i pos) d:=
 cu (tU hu ho hi hs) fun st H Q zq=>zn zq fun Hf S kk=>fun v ar H1 g1 r1=>⟨ar,S.grow g1,fun w a8 H2 g2 r2=>by
   cases r2;cases r1 with
   | @bW q kvs _ hq rp=>
     obtain⟨y,z1,z2⟩:=rp.val h;have e:=gO.k (H:=H2) (k:=.inr k) (g2.big _ _ (g1.sub _ _ hq));rw[z1] at e;exact⟨q,y,rfl,e,kk y a8 H2 (g1.trans g2) (z2.mono g2.a6)⟩⟩
theorem Cd {neg:Bool}:∀ st H Q,tD X.K G dl (.bl (if neg then !(cB kds (.inr k)).isSome else (cB kds (.inr k)).isSome)) st H Q->(if neg then nh (tD X.K G dl (.str k)) (tD X.K G dl (.bW kds)) else BF (tD X.K G dl (.str k)) (tD X.K G dl (.bW kds))) st H Q:=fun st H Q zq=>ou zq fun Hf zq=>have S:=zq.1;have kk:=zq.2;by
 cases neg with
 | false=>exact⟨Hf,S,fun v ar H1 g1 r1=>⟨ar,S.grow g1,fun w a8 H2 g2 r2=>by
     cases r1;cases r2 with
     | @bW q kvs _ hq rp=>exact⟨q,_,rfl,gO.k (k:=.inr k) (g2.sub _ _ hq),by rw[rp.k9];exact kk _ a8 H2 (g1.trans g2) (.bl _)⟩⟩⟩
 | true=>exact⟨Hf,S,fun v ar H1 g1 r1=>⟨ar,S.grow g1,fun w a8 H2 g2 r2=>by
     cases r1;cases r2 with
     | @bW q kvs _ hq rp=>exact⟨q,_,rfl,gO.k (k:=.inr k) (g2.sub _ _ hq),by rw[rp.k9];exact kk _ a8 H2 (g1.trans g2) (.bl _)⟩⟩⟩
theorem uG (hu:X.A.units+1 < cLine)(hi:EE X G dl i (.str k))(ho:EE X G dl o (.bW kds))(hm:autoParam (behindInMarks .NotIn o=false) jp):EB X G dl (.Compare i [.NotIn] [o] pos) (!(cB kds (.inr k)).isSome):=
 AU (we (oC hu hi ho) hm) fun st H Q zq=>ou zq fun Hf zq=>have S:=zq.1;have kk:=zq.2;Cd (neg:=true) st H _ ⟨Hf,S,fun v au H' g r=>by cases r;exact⟨_,rfl,kk au H' g⟩⟩
theorem lb:bootBuiltins "tuple"=some (.type "tuple"):=by decide +kernel
theorem uH {ds:List Dt}(hm:X.mg "tuple"=none)(ha:EE X G dl a (.tup ds))(hg:autoParam (Gl X "tuple") jp)(he:autoParam (starEach [a] X.env=[(false,eval a X.env)]) jp):EE X G dl (.Call (.Name "tuple" p) [a] [] pos) (.tup ds):=
 cu (iM kG hg hm lb (ae ha ak he) (he:=he)) fun st H Q zq=>zn zq fun Hf S k=>fun vs ar H1 g1 r1=>by
   cases r1 with
   | cons r t=>cases t;cases r with
     | @tup q vs _ z r=>exact⟨q,vs,rfl,aT g1.sub z,k _ ar H1 g1 (.tup z r)⟩
theorem uI:EO X G dl (.Dict [] [] pos) (.bW []):=cu kI fun st H Q zq=>ou zq fun Hf zq=>have S:=zq.1;have k:=zq.2;fun p hp=>k p Hf _ (.cN S.sub hp) hp (S.sub.free hp) ⟨[],aj,.nil⟩
noncomputable def i5 (kds:List (Key×Dt))(k:Key)(v:Dt):List (Key×Dt):=
 if (cB kds k).isSome=true then kds.map (fun kv=>if kv.1=k then (kv.1,v) else kv) else kds ++ [(k,v)]
theorem aW.map_put {K:W.Frag}{H:Hp}{k:Key}{v:V}{d:Dt}(q:Rep K H v d):∀ {kvs:List (Key×V)} {kds:List (Key×Dt)},aW K H kvs kds ->
   aW K H (kvs.map fun kv=>if kv.1=k then (kv.1,v) else kv) (kds.map fun kv=>if kv.1=k then (kv.1,d) else kv)
 | _,_,.nil=>.nil
 | (k1,v1)::r,(_,d1)::s,.cons h t=>by
   rw[Gs,Gs];by_cases e:k1=k
   . rw[if_pos e,if_pos e];exact .cons q (aW.map_put q t)
   . rw[if_neg e,if_neg e];exact .cons h (aW.map_put q t)
theorem aW.put {K:W.Frag}{H:Hp}{k:Key}{v:V}{d:Dt}{kvs:List (Key×V)}{kds:List (Key×Dt)}(q:Rep K H v d)(r:aW K H kvs kds):aW K H (putK kvs k v) (i5 kds k d):=by
 unfold putK i5;rw[eD,r.k9];by_cases h:(cB kds k).isSome=true
 . rw[if_pos h,if_pos h];exact aW.map_put q r
 . rw[if_neg h,if_neg h];exact aW.snoc q r
theorem uJ (n:Nat){ps pn:Pos}(hu:X.A.units+1 < cLine)(he:EE X G dl e d)(hb:EE X G dl b (.str k))(hl:kds.length < sizeLine)(hd:autoParam (dl[n]?=some (.own (.bW kds))) jp)(hN:autoParam (X.N[n]?=some x) jp)(hv:autoParam (pQ X.env.scope x) v2)(cL:autoParam ((x == ("__debug__":Str))=false) xz)(ee:autoParam ((x == ("__classdict__":Str))=false) xz)(hs:autoParam (swapsWith e (some (.Subscript (.Name x pn) b ps)) pos.line X.env=pure false) jp):ES X G E dl (.Assign [.Subscript (.Name x pn) b ps] e pos) (.nx (dl.set n (.own (.bW (i5 kds (.inr k) d))))):=
 l9 (ni hu (qU (p:=pn) n hd hN hv cL ee) hb he hs) fun D st H zq=>zn zq fun Hf S kk=>fun v ar H1 g1 r1=>by
   have S1:=S.grow g1;obtain⟨q,z1,z2,z3,z4⟩:=S1.own n _ hd;refine⟨ar,q,S1,z1,z2,z4,ar,S1,fun iv a8 H2 g2 r2=>?_⟩;cases r2;have S2:=S1.grow g2;obtain⟨q',y1,y2,y3,kvs,y4,y5⟩:=S2.own n _ hd;rw[z1] at y1;cases y1;have EF:kvs.length < sizeLine:=by rw[y5.length];exact hl
   exact⟨q,_,rfl,oy.k (k:=.inr k) y4 EF,kk st a8 _ (g1.a6.trans g2.a6) (S2.xf hd z1 ⟨_,aj,y5.put (r1.mono g2.a6)⟩)⟩
noncomputable def dS (rows:List (Str×List Dt)):List (Key×Dt):=rows.map fun r=>(.inr r.1,.tup (.str r.1::r.2))
noncomputable def g9 (r:Str×List Dt):Dt:=.tup (.str r.1::r.2)
theorem fB {k:Key}:∀ {kds:List (Key×Dt)},(∀ kv∈kds,kv.1≠k)->cB kds k=none
 | [],_=>rfl
 | kv::r,h=>by
   rw[dm (h kv (Gj ..))];exact fB fun z hz=>h z (Gg _ hz)
theorem rA {rows:List (Str×List Dt)}(nd:(rows.map (·.1)).Nodup){j:Nat}(hj:j < rows.length):cB (dS (rows.take j)) (.inr rows[j].1)=none:=by
 refine fB fun kv Ce=>?_
 obtain⟨r,hr,rfl⟩:=GN.mp Ce;intro z;have z:r.1=rows[j].1:=Sum.inr.inj z;obtain⟨i,hi,e⟩:=GU.mp hr;have AS:i < j:=by
   rw[Gv] at hi;omega
 rw[Hg] at e;have EG:i < rows.length:=by omega
 have h:=GQ.mp nd i j (by rw[Bn];exact EG) (by rw[Bn];exact hj) AS;rw[GP,GP] at h;exact h (by rw[e];exact z)
theorem mz (rows:List (Str×List Dt)){j:Nat}(hj:j < rows.length):dS (rows.take (j+1))=dS (rows.take j) ++ [(.inr rows[j].1,g9 rows[j])]:=by
 unfold dS;rw[He,AV hj,GY];rfl
theorem aK.lh {Hf H au H':Hp}{a:Addr}{u:HO}(g:aK Hf H au H')(n:Hf a=none)(h:H a=some u)(nk:¬ Kept u:=by exact fun z=>z):au a=none:=by
 cases q:au a with
 | none=>rfl
 | some o=>
   obtain⟨o',z⟩:=g.l7 h nk q;rw[n] at z;cases z
theorem jJ {K:W.Frag}{st:L2.St}{Hf H:Hp}{dlu:List Slot}{p:Addr}{o:HO}(S:bE K G st Hf H dlu)(lM:noOwn dlu=true)(fp:Hf p=none)(gp:G.H p=none):bE K G st Hf (upd H p o) dlu:=
 ⟨⟨fun b u e=>by rw[ah (ao e gp)];exact S.gr.big _ _ e,S.gr.a6,fun b u e=>by rw[ah (ao e fp)];exact S.sub _ _ e,S.gr.new⟩,S.len,S.val,fun j o h=>absurd h (bH lM j o),fun j _ o _ _ h=>absurd h (bH lM j o)⟩
theorem rB (nR nN:Nat){C z:Addr}{fs:List (Str×Dt)}{rows:List (Str×List Dt)}{f self rw_ rn:Str}{px pr pa pn p1 p3 p4 p5 p6 pi:Pos}{ie ve:Expr}{dlu:List Slot}(hu:X.A.units+1 < cLine)(hN:X.N.Nodup)(eG:X.calm=true)(hp:PassesOwn (model X.prog X.w) X.A X.env X.xe)(cl:kA X.K C)(na:ck X.K C f)(hd:dl[0]?=some (.own (.oH z C fs)))(EH:dl.set 0 .bX=dlu)(lM:noOwn dlu=true)(hr:dlu[nR]?=some (.val (.lst (rows.map g9))))(gc:nN≠0)(FX:nN≠nR)(EI:dlu[nN]?=some .bX)(nd:(rows.map (·.1)).Nodup)(hlen:rows.length < sizeLine)(hi:∀ r:Str×List Dt,EE X G (dlu.set nN (.val (g9 r))) ie (.str r.1))(hv:∀ r:Str×List Dt,EE X G (dlu.set nN (.val (g9 r))) ve (g9 r))(hl:autoParam (Nat.ble fs.length 999=true) jp)(EJ:autoParam (X.N[0]?=some self) jp)(EK:autoParam (X.N[nR]?=some rn) jp)(EL:autoParam (X.N[nN]?=some rw_) jp)(EM:autoParam (pQ X.env.scope self) v2)(EN:autoParam (pQ X.env.scope rn) v2)(cL:autoParam ((self == ("__debug__":Str))=false) xz)(ee:autoParam ((self == ("__classdict__":Str))=false) xz)(Cf:autoParam ((rn == ("__debug__":Str))=false) xz)(Cg:autoParam ((rn == ("__classdict__":Str))=false) xz)(hx:autoParam (Loc X.env.scope rw_) v0)(hf:autoParam (X.fn rw_=true\/X.env.scope.names.lookup rw_=some .local) xL)(BR:autoParam (swapsWith (.Dict [] [] p1) (some (.Attribute (.Name self pn) f pa)) pos.line X.env=pure false) jp)(vE:autoParam (swapsWith ve (some (.Subscript (.Attribute (.Name self p3) f p4) ie p5)) p6.line X.env=pure false) jp)(hb:autoParam (attributeBase (.Name self p3) f X.env (eval (.Name self p3) X.env)=eval (.Name self p3) X.env) jp)(ER:autoParam (∀ z,foldedSetIterable (.Name rn pr) X.env z=pure z) va):gQ X G E dl [.Assign [.Attribute (.Name self pn) f pa] (.Dict [] [] p1) pos,.For (.Name rw_ px) (.Name rn pr) [.Assign [.Subscript (.Attribute (.Name self p3) f p4) ie p5] ve p6] [] pi] (.nx (dlu.set 0 (.own (.oH z C (putD f (.bW (dS rows)) fs))))):=by
 have vQ:∀ {p:Pos},PE X (.Name self p) fun st H Q=>∃ v,st[0]?=some (some v)/\Q v H:=fun {p}=>gI EJ EM cL ee
 have dc:=je (ni (pos:=p6) (pos':=p5) hu (qd (pos:=p4) (vQ (p:=p3)) hb) (fun pins s st H Q I (q:∃ r,tD X.K G (dlu.set nN (.val (g9 r))) (.str r.1) st H Q)=>let ⟨r,q⟩:=q;hi r pins s st H Q I q) (fun pins s st H Q I (q:∃ r,tD X.K G (dlu.set nN (.val (g9 r))) (g9 r) st H Q)=>let ⟨r,q⟩:=q;hv r pins s st H Q I q) vE);refine qy (gK (qe (pos:=pos) (pos':=pa) (vQ (p:=pn)) kI BR) (je (lV hp eG (gk (gI (pos:=pr) EK EN Cf Cg)) (bc hN EL hx hf) dc ER))) fun D st H zq=>ou zq fun Hf zq=>have S:=zq.1;have k:=zq.2;?_
 obtain⟨a,sa,fa,ga,ea,dx,fv,ha,rf⟩:=S.own 0 _ hd;intro p Ci;have A3:a≠p:=ao ha Ci;have fp:Hf p=none:=S.sub.free Ci;have gp:G.H p=none:=S.gr.big.free Ci;have ET:(upd H p (.dK [])) a=some (.ins C dx fv):=by rw[ah A3];exact ha
 refine⟨.ref a,sa,a,C,dx,fv,rfl,ET,cl,na,by rw[rf.length];exact Nat.lt_succ_of_le (G0 hl),?_⟩;have S0:bE X.K G st Hf H dlu:=by
   subst EH;refine⟨S.gr,by simp[S.len],fun j d h=>?_,fun j o h=>absurd h (bH lM j o),fun j _ o _ _ h=>absurd h (bH lM j o)⟩;by_cases e:0=j
   . subst e
     by_cases DC:0 < dl.length
     . rw[FG DC] at h;cases h
     . exact absurd (F6.mp hd).1 DC
   . rw[Cq e] at h;exact S.val j d h
 have Su:bE X.K G st Hf (upd (upd H p (.dK [])) a (.ins C dx (cy f (.ref p) fv))) dlu:=jJ (jJ S0 lM fp gp) lM fa ga;obtain⟨lv,EU,EV⟩:=Su.val nR _ hr;cases EV with
 | @lst la vs _ hq rp=>
   have EX:vs.length=rows.length:=by rw[rp.length,Bn]
   refine⟨.ref la,EU,la,rfl,⟨vs,.of (Su.sub _ _ hq)⟩,p7 (xs:=vs) (fun j dw H'=>∃ au kvs,bE X.K G dw au H' dlu/\ax Hf au/\dw[0]?=some (some (.ref a))/\au a=none/\au p=none/\H' a=some (.ins C dx (cy f (.ref p) fv))/\H' p=some (.dK kvs)/\aW X.K au kvs (dS (rows.take j)))
     ⟨Hf,[],Su,ax.refl _,sa,fa,fp,aj,by rw[ah (Ne.symm A3)];exact aj,by rw[List.take_zero];exact .nil⟩ ?_ ?_ ?_⟩
   . rintro j dw H' _ ⟨au,kvs,S',sm,_⟩
     exact .of (S'.sub _ _ (sm _ _ hq))
   . rintro j v dw H' AL ⟨au,kvs,S',sm,s0,Cj,Ck,Ac,A4,rk⟩
     obtain⟨dz,hz,rz⟩:=rp.get' AL;have hj:j < rows.length:=by
       have:=(F6.mp AL).1;omega
     rw[Gb,AV hj] at hz;cases hz;have Sp:bE X.K G (dw.set nN (some v)) au H' (dlu.set nN (.val (g9 rows[j]))):=S'.set (rz.mono sm);have DD:(dw.set nN (some v))[0]?=some (some (.ref a)):=by rw[Cq gc];exact s0
     refine⟨rows[j],au,Sp,fun w ar H1 g1 r1=>⟨.ref a,DD,a,C,dx,_,.ref p,rfl,.of (g1.big _ _ Ac),cl,na,by rw[da,if_pos rfl],rows[j],ar,Sp.grow g1,fun y a8 H2 g2 r2=>?_⟩⟩;cases r2;have g:=g1.trans g2;have BE:H2 p=some (.dK kvs):=g.big _ _ A4;have EY:H2 a=some (.ins C dx (cy f (.ref p) fv)):=g.big _ _ Ac;have DE:a8 p=none:=g.lh Ck A4;have EZ:a8 a=none:=g.lh Cj Ac;have E1:=rk.mono g.a6;have Cm:kvs.length < sizeLine:=by
       rw[rk.length];unfold dS;rw[Bn,Gv];omega
     have Cn:(dZ kvs (.inr rows[j].1)).isSome=false:=by rw[rk.k9,rA nd hj];rfl
     have Sw:bE X.K G (dw.set nN (some v)) a8 H2 dlu:=(Sp.grow g).weak ⟨by simp,fun i s e n=>by
       by_cases hi:nN=i
       . subst hi;rw[EI] at e;cases e;exact absurd rfl n
       . rw[Cq hi];exact e⟩
     refine⟨p,_,rfl,oy.k (k:=.inr rows[j].1) BE Cm,a8,_,jJ Sw lM DE gp,sm.trans g.a6,DD,EZ,DE,by rw[ah A3];exact EY,aj,?_⟩;rw[uF Cn,mz rows hj];exact E1.snoc (r1.mono g2.a6)
   . rintro dw H' ⟨au,kvs,S',sm,s0,Cj,Ck,Ac,A4,rk⟩
     rw[EX,G5] at rk;have Ad:ax au (upd au p (.dK kvs)):=aL Ck;have l0:0 < dlu.length:=by
       rw[<- S'.len];exact(F6.mp s0).1
     refine k dw (upd au p (.dK kvs)) H' (sm.trans Ad) ⟨⟨S'.gr.big,S'.gr.a6.trans Ad,fun b u e=>?_,fun b u e=>?_⟩,by simp[S'.len],fun j d h=>?_,fun j o h=>?_,fun i j o o' q h1 h2 h3 h4=>?_⟩
     . by_cases hb:b=p
       . subst hb;rw[aj] at e;cases e;exact A4
       . rw[ah hb] at e;exact S'.sub _ _ e
     . by_cases hb:b=p
       . subst hb;exact .inr (.inl gp)
       . rw[ah hb] at e;exact S'.gr.new b u e
     . by_cases e:0=j
       . subst e;rw[FG l0] at h;cases h
       . rw[Cq e] at h
         obtain⟨v,z1,z2⟩:=S'.val j d h;exact⟨v,z1,z2.mono Ad⟩
     . by_cases e:0=j
       . subst e
         rw[FG l0] at h;cases h;exact⟨a,s0,by rw[ah A3];exact Cj,ga,ea,dx,_,Ac,(rf.mono (sm.trans Ad)).put (.bW aj (rk.mono Ad))⟩
       . rw[Cq e] at h;exact absurd h (bH lM j o)
     . have z:∀ (i:Nat) o,(dlu.set 0 (.own (.oH z C (putD f (.bW (dS rows)) fs))))[i]?=some (.own o)->0=i:=fun i o h=>by
         by_cases e:0=i
         . exact e
         . rw[Cq e] at h;exact absurd h (bH lM i o)
       rw[<- z i o h1,<- z j o' h2]
end
section
variable {K:W.Frag}
theorem xS {n m l:Nat}{z1 z2 z3:Dt}:A1 K (wx K 3 (iH (dO n) (iH (dO m) (iH (dO l) wu)))) (.tup [z1,z2,z3]) (fun dl=>((dl.set n (.val z1)).set m (.val z2)).set l (.val z3)):=fun G st Hf H v dl Q S r k=>by
 cases r with
 | @tup q vs _ hq rp=>
   cases rp with
   | cons r1 t1=>cases t1 with
     | cons r2 t2=>cases t2 with
       | cons r3 t3=>
         cases t3;exact⟨q,_,rfl,aT S.sub hq,rfl,_,_,rfl,_,_,rfl,_,_,rfl,rfl,k _ (((S.set r1).set r2).set r3)⟩
end
section
variable {X:Cx}{G:Gr}{E:XK}{dl:List Slot}{e a b:Expr}{d1 d2 d3:Dt}{pos:Pos}
theorem uK (n1 n2 n3:Nat){a b c:Str}{pa pb pc tp:Pos}{cx:Nat}(hN:X.N.Nodup)(hc:X.calm=true)(he:EE X G dl e (.tup [d1,d2,d3]))(E2:autoParam (X.N[n1]?=some a) jp)(E3:autoParam (X.N[n2]?=some b) jp)(E4:autoParam (X.N[n3]?=some c) jp)(E5:autoParam (Loc X.env.scope a) v0)(BL:autoParam (Loc X.env.scope b) v0)(E6:autoParam (Loc X.env.scope c) v0)(E7:autoParam (X.fn a=true\/X.env.scope.names.lookup a=some .local) wf)(E8:autoParam (X.fn b=true\/X.env.scope.names.lookup b=some .local) wf)(E9:autoParam (X.fn c=true\/X.env.scope.names.lookup c=some .local) wf)(hn:autoParam ((assignEach [.Name a pa,.Name b pb,.Name c pc] X.env).length=3) jp)(e7:autoParam ((assignEach [.Name a pa,.Name b pb,.Name c pc] X.env).findIdx? (·.1)=none) jp)(q1:autoParam ((assignEach [.Name a pa,.Name b pb,.Name c pc] X.env).map (·.2)=assign (.Name a pa) X.env::(assignEach [.Name b pb,.Name c pc] X.env).map (·.2)) jp)(q2:autoParam ((assignEach [.Name b pb,.Name c pc] X.env).map (·.2)=assign (.Name b pb) X.env::(assignEach [.Name c pc] X.env).map (·.2)) jp)(q3:autoParam ((assignEach [.Name c pc] X.env).map (·.2)=assign (.Name c pc) X.env::(assignEach [] X.env).map (·.2)) jp)(hs:autoParam (swapsWithSole [.Tuple [.Name a pa,.Name b pb,.Name c pc] cx tp] e pos.line X.env=pure false) jp)(hw:autoParam (swappedStores [.Tuple [.Name a pa,.Name b pb,.Name c pc] cx tp] e X.env=pure none) jp)(h1:autoParam ((assignEach [.Tuple [.Name a pa,.Name b pb,.Name c pc] cx tp] X.env).map (·.2)=[assign (.Tuple [.Name a pa,.Name b pb,.Name c pc] cx tp) X.env]) jp):ES X G E dl (.Assign [.Tuple [.Name a pa,.Name b pb,.Name c pc] cx tp] e pos) (.nx (((dl.set n1 (.val d1)).set n2 (.val d2)).set n3 (.val d3))):=
 l9 (wz he (lS hc (bU (bc (pos:=pa) hN E2 E5 E7) (bU (bc (pos:=pb) hN E3 BL E8) (bU (bc (pos:=pc) hN E4 E6 E9) jg q3) q2) q1) hn e7) hs hw h1) fun D st H zq=>zn zq fun Hf S k=>fun v ar H1 g1 r1=>by
   cases r1 with
   | @tup q vs _ hq rp=>
     cases rp with
     | cons r1 t1=>cases t1 with
       | cons r2 t2=>cases t2 with
         | cons r3 t3=>
           cases t3;exact⟨q,_,rfl,aT g1.sub hq,rfl,_,_,rfl,_,_,rfl,_,_,rfl,rfl,k _ ar H1 g1.a6 ((((S.grow g1).set r1).set r2).set r3)⟩
end
section
variable {X:Cx}{pins:List (Addr×Obj)}{st:L2.St}{H H':Hp}{s s':Shared}{h2 B:Heap}{ea t:Addr}{C D:Addr}{xe:Value->Shared->Prop}{G:Gr}{Hf:Hp}
theorem uL {dlb:List Slot}{e:Value}{i:Nat}{dn n:Str}{np uM:Pos}{b0:Stmt}{i6:List Stmt}{Dn:Ends}{G':Gr}{dl1:List Slot}(I:L2.Inv X pins st H s)(e7:X.stack=X.env::X.outer)(Co:X.env.frame=some X.env.locals)(x:oR X.prog X.w X.stack H s (Dy C G'.Hf G'.H) e s')(hN:X.N.Nodup)(hi:X.N[i]?=some n)(hk:X.env.kindOf n=some .local)(hD:zQ X.K D)(hm:X.mg dn=some (.ref D))(hg:Gl X dn)(cL:(dn == ("__debug__":Str))=false)(lO:W.mroIn X.K D (.type "BaseException")=some true)(rg:W.mroIn X.K C (.ref D)=some true)(hs:∀ (ea:Addr) xe,gQ { X with A:=X.A.mark (some (.ref ea)),calm:=false,xe:=xe} G E0 (dlb.set i (.val (.xo C))) (b0::i6) (.nx dl1))(Sb:bE X.K G st G'.Hf G'.H dlb)(k:∀ st au H,ax G'.Hf au->bE X.K G st au H (dl1.set i .bX)->Dn.nx st H):wpAny (model X.prog X.w) X.A (noteFrame e X.env) (fun _ s2=>wpAny (model X.prog X.w) X.A (setFlight e none) (fun _ s3=>wpAny (model X.prog X.w) X.A (handleBy e X.env [.ExceptHandler (some (.Name dn np)) (some n) (b0::i6) uM]) (SP X pins Dn) X.xe s3) X.xe s2) X.xe s':=by
 obtain⟨ea,C',od,H',B,t,rfl,os,bare,un,aF,fl,qN,qO,ir,hn,pN,FY,rfl,ar,g1⟩:=x;have DF:=fl;rw[e7] at fl;refine wpAny_looks_onW (A:=X.A) (by rw[I.ok.frames,e7]) Co fl fun h1 held up1=>?_
 refine wpAny_landsW (s:={ s' with heap:=h1}) held fun h2 A5 Fb=>?_
 rw[<- e7] at A5;have Ae:∀ b o,s'.heap.get? b=some o->(∀ vs,o.data≠.fields vs)->∃ sl,h2.get? b=some { o with slots:=sl}:=fun b o e hd=>by
   obtain⟨sl,e1⟩:=up1 b o e hd;obtain⟨uf,e2⟩:=Fb b _ e1 hd;exact⟨uf,e2⟩
 have I2:=rb I os bare un aF DF.1 qN qO ir A5.1 Ae;refine wpAny_handleBy_cons (codeAny_handlers_test (cq (X:={ X with A:=X.A.mark (some (.ref ea)),calm:=false}) (g7 I2) hg hm ?_ cL)) (by intro q;cases q);refine uz (K:=X.K) (C:=C) I2.cw A5.there hD.ex lO rg ?_;refine codeAny_handlers_suite_as (lands_againW (s:={ s' with heap:=h2}) A5 fun h3 DG Fc=>?_);have I3:=o3 (C:=C) I os bare un aF DF.1 qN qO ir DG.1 (fun b o e hd=>by
   obtain⟨sl,e1⟩:=Ae b o e hd;obtain⟨uf,e2⟩:=Fc b _ e1 hd;exact⟨uf,e2⟩) hn pN DG.there
 refine eo (X:={ X with A:=X.A.mark (some (.ref ea)),calm:=false}) (v:=.ref ea) (g7 I3) hN hi (.inl hk) rfl (fun s4 I4=>?_) (.inr hk);have g2:aK G'.Hf G'.H (upd ar ea (.ext fun h=>d0 h ea C)) (upd H' ea (.ext fun h=>d0 h ea C)):=g1.trans (.alloc g1.sub pN);have S4:bE X.K G (st.set i (some (.ref ea))) (upd ar ea (.ext fun h=>d0 h ea C)) (upd H' ea (.ext fun h=>d0 h ea C)) (dlb.set i (.val (.xo C))):=
   (Sb.grow g2).set (.xo aj fun h z=>z)
 refine wpAny_mono (hs ea _ pins s4 _ _ { nx:=fun st H=>∃ au,ax G'.Hf au/\bE X.K G st au H dl1,rt:=fun _ _=>False} (g7 (g8 I.ok I4)) ⟨_,S4,fun st au H sm S=>⟨au,g2.a6.trans sm,S⟩⟩) (fun f s5 q=>?_) (fun _ _ z=>z);cases f with
 | next=>
   obtain⟨σ,H5,I5,Cc,Fd,S5⟩:=q;refine uA (g8 I.ok I5) hN hi hk fun s6 I6=>⟨_,H5,I6,k _ Cc H5 Fd (rh S5)⟩
 | brk=>obtain⟨_,_,_,z⟩:=q;exact z.elim
 | cont=>obtain⟨_,_,_,z⟩:=q;exact z.elim
 | ret u=>obtain⟨_,_,_,_,_,z⟩:=q;exact z.elim
theorem Af {CX:cW}{k:Nat}{f:Addr}{fd:FuncData}{ps:List Str}{sp:Sp}{dvs:List V}{ds:List Value}{E:XK}{x:Str}{p pos:Pos}{e:Expr}{es:List Expr}{ta:TA}{Q:VK}(F:cz X.prog X.w X.K X.mg X.base CX k f fd ps sp)(hr:aV k X.A)(hg:Gl X x)(hm:X.mg x=some (.ref f))(hk:W.keepIn X.K (.ref f)=true)(hb:Binds X.K fd ps ds)(hd:Vals dvs ds)(hx:∀ H1 s1 e s',L2.Inv X pins st H1 s1->CX X.stack H1 s1 E e s'->X.xe e s')(ha:PA X (e::es) ta)(cL:(x == ("__debug__":Str))=false)(he:starEach (e::es) X.env=(false,eval e X.env)::starEach es X.env)(cZ:(backTo pos (starEach es X.env)).any (·.1)=false)(I:L2.Inv X pins st H s)(h:qh sp dvs E ta st H Q):wpAny (model X.prog X.w) X.A (eval (.Call (.Name x p) (e::es) [] pos) X.env) (EP X pins st Q) X.xe s:=by
 refine wpAny_Call_Name_kw (cq I hg hm ?_ cL);refine W.callWith_K (h₀:=X.base) I.ok.mod.sZ hk (aS (ha pos pins s st H _ I h) fun us s1 ⟨vs,H1,I1,r,q⟩=>⟨I1.cw,?_⟩) he cZ;have r2:Vals (vs ++ dvs) (us ++ ds):=r.append hd;have hl:(us ++ ds).length=ps.length:=by rw[<- r2.length];exact F.len _ _ _ _ q
 refine wpAny_call (codeAny_mono (F.run X.A X.stack s1 H1 ⟨us,[]⟩ (us ++ ds) (vs ++ dvs) Q E hr I1.tJ (hb s1 us I1.cw hl) r2 q) fun r s' hq=>?_);cases r with
 | error e=>exact hx H1 s1 e s' I1 hq
 | ok fl=>
   cases fl with
   | ret u=>exact I1.after hq
   | next=>exact False.elim hq
   | brk=>exact False.elim hq
   | cont=>exact False.elim hq
theorem rC {E:XK}{dl dl1:List Slot}{body:List Stmt}{h0:ExceptHandler}{hs:List ExceptHandler}{pos:Pos}(hb:∀ pn xe,gQ { X with pn:=pn,xe:=xe} G E0 dl body (.nx dl1)):ES X G E dl (.Try body (h0::hs) [] [] pos) (.nx dl1):=by
 intro pins s st H Dn I ⟨Hf,S,k⟩;refine wpAny_Try_except ?_;refine wpAny_mono (hb (X.pn ++ pins) _ [] s st H { nx:=Dn.nx,rt:=fun _ _=>False} (nE I) ⟨Hf,S,k⟩) (fun f s5 q=>?_) (fun _ _ z=>z);cases f with
 | next=>
   obtain⟨σ,H5,I5,q⟩:=q;exact wpAny_execs_nil ⟨σ,H5,k6 I5,q⟩
 | brk=>obtain⟨_,_,_,z⟩:=q;exact z.elim
 | cont=>obtain⟨_,_,_,z⟩:=q;exact z.elim
 | ret u=>obtain⟨_,_,_,_,_,z⟩:=q;exact z.elim
theorem uN (i:Nat){E:XK}{dl dlb dl1:List Slot}{e:Expr}{es:List Expr}{ds:List Dt}{fs:List (Str×Dt)}{f y:Str}{k k' m:Nat}{R:List Dt->Res->Prop}{dn n:Str}{p pc py pa np uM pos:Pos}{b0:Stmt}{i6:List Stmt}(e7:X.stack=X.env::X.outer)(Co:X.env.frame=some X.env.locals)(hN:X.N.Nodup)(hD:zQ X.K D)(hm:X.mg dn=some (.ref D))(lO:W.mroIn X.K D (.type "BaseException")=some true)(rg:W.mroIn X.K C (.ref D)=some true)(lM:noOwn dlb=true)(hle:Le dlb dl)(F:GF X.prog X.w X.K X.mg X.base (oR X.prog X.w) k f m R)(hr:aV k' X.A)(ha:∀ pn xe G1,EA { X with pn:=pn,xe:=xe} G1 dlb (e::es) ds)(h:R ds (.exc (.ref C) fs))(hs:∀ (ea:Addr) xe G1,gQ { X with A:=X.A.mark (some (.ref ea)),calm:=false,xe:=xe} G1 E0 (dlb.set i (.val (.xo C))) (b0::i6) (.nx dl1))(oN:autoParam (k<=k') xz)(hl:autoParam (ds.length=m) jp)(hi:autoParam (X.N[i]?=some n) jp)(hk:autoParam (X.env.kindOf n=some .local) jp)(hg:autoParam (Gl X dn) jp)(cL:autoParam ((dn == ("__debug__":Str))=false) xz)(Fe:autoParam (Gl X f) jp)(w6:autoParam ((f == ("__debug__":Str))=false) xz)(he:autoParam (starEach (e::es) X.env=(false,eval e X.env)::starEach es X.env) jp)(cZ:autoParam ((backTo pc (starEach es X.env)).any (·.1)=false) jp)(uw:autoParam (swapsWith (.Call (.Name f p) (e::es) [] pc) (some (.Name y py)) pa.line X.env=pure false) jp):ES X G E dl (.Try [.Assign [.Name y py] (.Call (.Name f p) (e::es) [] pc) pa] [.ExceptHandler (some (.Name dn np)) (some n) (b0::i6) uM] [] [] pos) (.nx (dl1.set i .bX)):=by
 intro pins s st H Dn I ⟨Hf,S,kk⟩;have Ag:=bH lM;have S':=S.weak hle;have Sb:bE X.K ⟨Hf,H⟩ st Hf H dlb:=⟨.refl S.sub,S'.len,S'.val,fun j o h=>absurd h (Ag j o),fun j _ o _ _ h=>absurd h (Ag j o)⟩
 obtain⟨fa,fd,ps,Fo,Ff,Fg,Fh⟩:=F.ex;refine wpAny_Try_except ?_;refine wpAny_execs_cons ?_;refine wpAny_Assign_Name ?_ uw;let xl:Value->Shared->Prop:=fun e s1=>wpAny (model X.prog X.w) X.A (noteFrame e X.env) (fun _ s2=>wpAny (model X.prog X.w) X.A (setFlight e none) (fun _ s3=>
     wpAny (model X.prog X.w) X.A (handleBy e X.env [.ExceptHandler (some (.Name dn np)) (some n) (b0::i6) uM]) (SP X pins Dn) X.xe s3) X.xe s2) X.xe s1
 have I':L2.Inv { X with pn:=X.pn ++ pins,xe:=xl} [] st H s:=nE I;have Ah:=Af (X:={ X with pn:=X.pn ++ pins,xe:=xl}) (Q:=fun _ _=>False) (E:=Dy C Hf H) (p:=p) (dvs:=[]) Fo (hr.mono oN) Fe Ff Fg Fh .nil
   (fun H1 s1 e s' J x=>uL (G:=G) (G':=⟨Hf,H⟩) (k6 J) e7 Co x hN hi hk hD hm hg cL lO rg (fun ea xe=>hs ea xe G) S' kk) (ha _ _ ⟨Hf,H⟩) w6 he cZ I'
   ⟨Hf,Sb,fun vs ar H1 g1 r1=>⟨ar,ds,.exc (.ref C) fs,g1.sub,by rw[Gu];exact r1,hl,h,fun od a8 H2 g2 xx=>⟨rfl,a8,g1.trans g2⟩⟩⟩
 exact wpAny_mono Ah (fun v s1 ⟨_,_,_,_,z⟩=>z.elim) (fun _ _ z=>z)
end
section
variable {X:Cx}{G:Gr}{dl:List Slot}{a b:Expr}{x:Str}{i:Int}{pos:Pos}
theorem uO:e9 X (binaryOp .Mult) (fun x y H Q=>∃ i n,x=.str i/\y=.int n/\MulOk i n/\(Txt.mul i n).length<=sizeLine/\Q (.str (Txt.mul i n)) H):=by
 intro pins s σ H x y v u Q I rx ry h;obtain⟨i,n,rfl,rfl,ho,hz,q⟩:=h;obtain⟨t,rfl⟩:=rx;obtain⟨t',rfl⟩:=ry;exact SB.mul ho fun FZ tk=>⟨.str (Txt.mul i n),H,I.tok _,⟨_,rfl⟩,q⟩
theorem nG (ha:EE X G dl a (.str x))(hb:EE X G dl b (.int i))(ho:MulOk x i)(hz:(Txt.mul x i).length<=sizeLine):EE X G dl (.BinOp a .Mult b pos) (.str (Txt.mul x i)):=
 fU uO (fun v w Hf H Q s r1 r2 k=>by cases r1;cases r2;exact⟨x,i,rfl,rfl,ho,hz,k _ Hf H (.refl s) (.str _)⟩) ha hb
end
end Sg
namespace Sg
open PySem PySem.Spec PyProof.Rows L2
open Sem (wp)
structure Cp (z tI tO j1 j2:Addr)(f1 f2:List Addr):Prop where
 tz:tI≠z
 oz:tO≠z
 az:j1≠z
 bz:j2≠z
 to:tI≠tO
 ta:tI≠j1
 tb:tI≠j2
 oa:tO≠j1
 ob:tO≠j2
 ab:j1≠j2
 z1:z ∉ f1
 o1:tO ∉ f1
 b1:j2 ∉ f1
 z2:z ∉ f2
 o2:tO ∉ f2
 a2:j1 ∉ f2
inductive ZS where
 | txt (x:Str) (t:Tok)
 | lst (l:Addr)
noncomputable def ZS.val:ZS->Value
 | .txt x t=>.str x t
 | .lst l=>.ref l
noncomputable def ZS.obj:ZS->Obj
 | .txt x t=>{ cls:=.type (strIterType x),data:=.fields #[.str x t,.int 0 0]}
 | .lst l=>{ cls:=.type "list_iterator",data:=.fields #[.ref l,.int 0 0]}
def ZS.ok (h:Heap):ZS->Prop
 | .txt x _=>dk x=true
 | .lst l=>∃ xs,h.IsList l xs
def ZS.at (it:Addr)(i:Nat)(h:Heap):ZS->Prop
 | .txt x t=>h.IsStrIter it "str_ascii_iterator" x t i
 | .lst l=>h.IsListIter it l i
noncomputable def ZS.v:ZS->V
 | .txt x _=>.str x
 | .lst l=>.ref l
section
inductive ZD:Dt->List Dt->Prop
 | lst (xs:List Dt):ZD (.lst xs) xs
 | str (x:Str):dk x=true->ZD (.str x) (Sg.signs x)
end
noncomputable def Fi (C t:Addr)(od:Option Addr):Obj:={ cls:=.ref C,dict:=od,data:=.fields #[.ref t,.none,.none,.none,.bool false,.none]}
def Fj (h:Heap)(e C:Addr)(od:Option Addr):Prop:=∃ t:Addr,h.get? e=some (Fi C t od)
section
variable {C:Addr}
structure F3 (K:W.Frag)(C:Addr)(f:Str):Prop where
 sa:W.findIn K (.ref C) "__setattr__"=some (some (.builtin "object.__setattr__"))
 na:W.findIn K (.ref C) f=some none
 ob:W.mroIn K C (.type "object")=some true
 mr:∃ G,(W.clsIn K C).map (·.mro)=some [.ref C,.ref G,.type "ValueError",.type "Exception",.type "BaseException",.type "object"]
 hd:(W.clsIn K C).map (·.hasDict)=some true
end
noncomputable def xU (K:PySem.W.Frag)(C:Addr)(bmB:List Value)(nw:String)(fI:Addr):Bool:=match K.lookup C with
 | some ⟨.type "type",_,.cls cd,sl⟩=>(match cd.mro,sl.toList with
   | .ref D::tl,[_,_,_,_,some (.builtin n),_]=>D == C && (n == nw && (!cd.hasDel && (PySem.W.tailIn K bmB tl && (PySem.W.nsOkIn K cd.ns && (PySem.W.nsIn K cd.ns "__init__" == some (some (.ref fI)))))))
   | _,_=>false)
 | _=>false
structure Fl (K:W.Frag)(C fI:Addr):Prop where
 ex:xU K C zP "ValueError.__new__" fI=true
 fn:W.typeIn K (.ref fI)=some (.type "function")
 kp:W.keepIn K (.ref C)=true
structure F4 (K:W.Frag)(G:Addr):Prop where
 sp:W.specialIn K (.ref G) "__getattribute__"=some (some (.builtin "type.__getattribute__"))
 rd:W.readsIn K G (.type "type")=true
 fc:W.findCls K (.ref G) (.type "type") "__init__"=some (.val (.builtin "ValueError.__init__"))
noncomputable abbrev xT (z C:Addr)(od:Option Addr):HO:=.ext fun h=>Fj h z C od
def Fm (K:W.Frag)(C:Addr)(f:Str)(ok:Dt->Prop):Sp:=fun vs H Q E=>∃ Hf H1 z v d,vs=[.ref z,v]/\H=upd H1 z (xT z C none)/\H1 z=none/\ax Hf H1/\Rep K Hf v d/\ok d /\
 ∀ a8 H2 dx,aK Hf H a8 H2->H2 dx=none->dx≠z->Q .a7 (upd (upd H2 dx (.xd [(f,v)])) z (xT z C (some dx)))
structure XF (P:Program)(w:World)(K:W.Frag)(mg:Str->Option Value)(base:Heap)(CX:cW)(k:Nat)(x:Str)(C:Addr)(f:Str)(ok:Dt->Prop):Prop where
 ex:∃ fI fd ps,cz P w K mg base CX k fI fd ps (Fm K C f ok)/\Fl K C fI/\mg x=some (.ref C)/\Binds K fd ps []
mutual
noncomputable def Cr:Dt->Bool
 | .lst _=>false
 | .fT _=>false
 | .tup ds=>Ai ds
 | .bW kds=>Aj kds
 | .obj _ fs=>Ak fs
 | .iz _=>false
 | .xo _=>false
 | .qx _ _=>false
 | .f9 _=>false
 | .memo _ _ _ _=>false
 | .dP _ _ _ _=>false
 | .sU _ _ _=>false
 | .l6 _ _ _ _ _=>false
 | .cX _=>false
 | _=>true
noncomputable def Ai:List Dt->Bool
 | []=>true
 | d::r=>Cr d && Ai r
noncomputable def Aj:List (Key×Dt)->Bool
 | []=>true
 | (_,d)::r=>Cr d && Aj r
noncomputable def Ak:List (Str×Dt)->Bool
 | []=>true
 | (_,d)::r=>Cr d && Ak r
end
structure Al (k:Nat)(A:Around):Prop where
 dp:A.depth+3 * k+5 < recursionLimit
 un:A.units+16 * k+200 < cLine
structure Am (P:Program)(w:World)(K:W.Frag)(mg:Str->Option Value)(base:Heap)(CX:cW)(k:Nat)(f:Addr)(fd:FuncData)(ps:List Str)(sp:Sp):Prop where
 len:∀ vs H Q E,sp vs H Q E->vs.length=ps.length
 run:∀ (A:Around) (outer:List Env) (s:Shared) (H:Hp) (args:Args) (us:List Value) (vs:List V) (Q:VK) (E:XK),Al k A->ji P w K mg base A outer s H->BindsTo s fd args (ps.zip us)->Vals vs us->sp vs H Q E ->
   codeAny (model P w) A (.call (.ref f) args) (CR CX outer P w H s Q E) s
structure F5 (P:Program)(w:World)(K:W.Frag)(mg:Str->Option Value)(base:Heap)(CX:cW)(k:Nat)(x:Str)(n:Nat)(R:List Dt->Res->Prop):Prop where
 ex:∃ f fd ps,Am P w K mg base CX k f fd ps (qG K n R)/\mg x=some (.ref f)/\W.keepIn K (.ref f)=true/\Binds K fd ps []
inductive Cs (K:W.Frag)(H:Hp):List V->List (Key×V)->Prop
 | nil:Cs K H [] []
 | cons {t:Addr} {k:Key} {v:V} {xs:List V} {kvs:List (Key×V)}:iG K H t [kV k,v]->Cs K H xs kvs->Cs K H (.ref t::xs) ((k,v)::kvs)
section
inductive rD:List (Key×Value)->List (Key×Value)->Prop
 | nil:rD [] []
 | cons {k:Key} {i:Int} {t u:Tok} {xs ys:List (Key×Value)}:rD xs ys->rD ((k,.int i t)::xs) ((k,.int i u)::ys)
end
section
variable {kds:List (Key×Dt)}
noncomputable def dI (kds:List (Key×Int)):List (Key×Dt):=kds.map fun kd=>(kd.1,Dt.int kd.2)
theorem An {K:W.Frag}{H:Hp}:∀ {kds:List (Key×Int)} {kvs:List (Key×V)},aW K H kvs (dI kds)->kvs=kds.map fun kd=>(kd.1,V.int kd.2)
 | [],_,.nil=>rfl
 | (k,i)::kds,_,.cons r t=>by
   cases r;rw[An (kds:=kds) t];rfl
end
structure Fn (X:Cx)(N:List Str)(xt:Str)(ix:List Nat)(sc:Scope):Prop where
 nd:N.Nodup
 nm:N=xt::ix.map (fun j=>X.N.getD j "")
 kind:sc.kind=.function
 one:sc.names.filter (fun y=>y.2 == .cell)=[(xt,.cell)]
 names:∀ y∈sc.names,y.2=.local->sc.names.lookup y.1=some .local
 hx:sc.names.lookup xt=some .cell
 yW:∀ y∈sc.names,y.2=.free->y.1≠xt
 fr:∀ y∈sc.names,y.2=.free->X.env.kindOf y.1=some .cell\/X.env.kindOf y.1=some .free
 BY:∀ j∈ix,∃ y,X.N[j]?=some y/\sc.names.lookup y=some .free
noncomputable def Ct (X:Cx)(N:List Str)(sc:Scope)(xt:Str)(c C:Addr)(fp:List Addr)(s:Shared)(H:Hp):Cx:=
 { X with N:=N,s₀:=s,H₀:=H,env:=compEnvC sc ((xt,c)::jB sc X.env) C X.env,outer:=X.stack,stack:=X.stack,ex:=fp,fn:=fun y=>y == xt,pn:=[],xe:=qS}
section
variable {X:Cx}{dl:List Slot}{a:Expr}{xt:Str}{N:List Str}{ix:List Nat}{sc:Scope}
variable {α:Type}{as:List α}{sl:α->List Slot}{keep:α->Bool}
inductive rE (X:Cx)(N:List Str)(xt:Str)(sc:Scope)(dl:List Slot)(ix:List Nat)(as:List α)(sl:α->List Slot)(keep:α->Bool):List Expr->Prop
 | nil:(∀ a∈as,keep a=true)->rE X N xt sc dl ix as sl keep []
 | one {ce:Expr}:(∀ a∈as,∀ c C fp s H G',EB (Ct X N sc xt c C fp s H) G' (sl a ++ dQ dl ix) ce (keep a))->rE X N xt sc dl ix as sl keep [ce]
end
noncomputable def mk:HO->Bool
 | .memo _=>true
 | .eh _ _=>true
 | _=>false
section
variable {a:Addr}
mutual
noncomputable def Cu (a:Addr):Dt->Bool
 | .tup ds=>xV a ds
 | .lst ds=>xV a ds
 | .bW kds=>uP a kds
 | .iz kds=>uP a kds
 | .f9 kds=>uP a kds
 | .obj _ fs=>xW a fs
 | .qx _ fs=>xW a fs
 | .memo b _ _ _=>decide (b≠a)
 | .l6 _ _ _ _ _=>false
 | _=>true
noncomputable def xV (a:Addr):List Dt->Bool
 | []=>true
 | d::r=>Cu a d && xV a r
noncomputable def uP (a:Addr):List (Key×Dt)->Bool
 | []=>true
 | (_,d)::r=>Cu a d && uP a r
noncomputable def xW (a:Addr):List (Str×Dt)->Bool
 | []=>true
 | (_,d)::r=>Cu a d && xW a r
end
end
noncomputable def DH:FD->Dt
 | .int i=>.int i
 | .bW kds=>.f9 (dI kds)
 | d=>.iR d
theorem Ao {K:W.Frag}{H:Hp}:∀ {v:V} {d:FD},Rep K H v (DH d)->Fz H v d
 | _,.int i,r=>by cases r;exact .int i
 | _,.lst ns,r=>by cases r with | iR h=>exact h
 | _,.tup K ns,r=>by cases r with | iR h=>exact h
 | _,.obj C fs,r=>by cases r with | iR h=>exact h
 | _,.bW kds,r=>by
   cases r with
   | @f9 a tg ob kvs _ h r=>
     rw[An r] at h;exact .bW h
section
variable {ns:List Int}
theorem dy:∀ {ns:List Int} {aB:List Value},Vals (ns.map V.int) aB->IntsAre aB ns
 | [],_,r=>by cases r;exact .nil
 | n::ns,_,r=>by
   cases r with
   | cons h t=>obtain⟨tk,rfl⟩:=h;exact .cons _ tk (dy t)
end
noncomputable def Cv (fs:List (Str×FD)):List (Str×Dt):=fs.map fun kd=>(kd.1,DH kd.2)
theorem rF {K:W.Frag}{H:Hp}:∀ {fv:List (Str×V)} {fs:List (Str×FD)},bA K H fv (Cv fs)->sR H fv fs
 | _,[],.nil=>.nil
 | _,(k,d)::fd,.cons h t=>.cons (Ao h) (rF t)
section
variable {X:Cx}{G:Gr}{dl:List Slot}{e:Expr}{C:Addr}{fs:List (Str×FD)}
theorem xX (h:EO X G dl e (.obj C (Cv fs))):EE X G dl e (.iR (.obj C fs)):=by
 intro pins s st H Q I ⟨Hf,S,kk⟩;refine aS (h pins s st H (fun v H'=>∃ p au,v=.ref p/\aK Hf H au H'/\H p=none/\au p=none/\bP X.K au H' p (.obj C (Cv fs))) I ⟨Hf,S,fun p au H' g n n' r=>⟨p,au,rfl,g,n,n',r⟩⟩) fun u s1 zq=>?_;obtain⟨v,H',I1,rv,q,au,ev,g,n,n',dx,fv,hq,rp⟩:=zq
 subst ev;obtain⟨hd,hz,ne,ho,mA,hr⟩:=(show aD X.prog X.w H' s1.heap q (.ins C dx fv) from I1.aF q _ hq)
 let ob:=W.instObj C dx;have I2:L2.Inv X pins st (upd H' q (.kx ob (.ins C dx fv))) s1:=jt (h':=s1.heap) (t':=s1.toks) I1 (by rw[hq];trivial) ⟨rfl,fun _ _=>rfl⟩ ⟨ob,ho⟩ ⟨ho,⟨by rw[ah ne];exact hd,hz,ne,ho,mA,hr⟩⟩;have sm:ax au (upd au q (.kx ob (.ins C dx fv))):=aL n';refine⟨.ref q,_,I2,rv,kk _ (upd au q (.kx ob (.ins C dx fv))) _ ⟨fun b o hb=>?_,g.a6.trans sm,iS g.sub,fun b o hb=>?_⟩ (.iR (.obj aj ((rF rp).st fun b u e _=>sm b u e)))⟩
 . rw[ah (ao hb n)];exact g.big _ _ hb
 . by_cases e:b=q
   . subst e;exact .inr (.inl n)
   . rw[ah e] at hb;exact g.new b o hb
theorem lj {x:Str}{p pos:Pos}(M:xq X.K C)(hm:X.mg x=some (.ref C))(hg:autoParam (Gl X x) jp)(cL:autoParam ((x == ("__debug__":Str))=false) xz):EE X G dl (.Call (.Name x p) [] [] pos) (.iR (.obj C [])):=by
 refine xX (fs:=[]) ?_;intro pins s st H Q I ⟨Hf,S,k⟩;refine wpAny_Call_Name_kw (cq I hg hm ?_ cL);refine W.callWith_K0 I.cw M.kp (oM M I fun x dx hx B1 ne=>?_);have Fp:(upd H dx (.own x)) x=none:=by rw[ah (Ne.symm ne)];exact hx
 have g1:aK Hf H Hf (upd H dx (.own x)):=.cN S.sub B1;have g2:aK Hf (upd H dx (.own x)) Hf (upd (upd H dx (.own x)) x (.ins C dx [])):=.cN g1.sub Fp;exact k _ _ _ (g1.trans g2) hx (S.sub.free hx) ⟨dx,[],aj,.nil⟩
end
def Fq (K:PySem.W.Frag)(R:List (Key×Dt)->Res->Prop):Sp:=fun vs H Q E=>∃ Hf H0 a kvs kds r,vs=[.ref a]/\H=upd H0 a (.dK kvs)/\H0 a=none/\ax Hf H0/\aW K Hf kvs kds/\R kds r/\xn K Hf H0 Q E r
structure F7 (P:Program)(w:World)(K:W.Frag)(mg:Str->Option Value)(base:Heap)(CX:cW)(k:Nat)(x:Str)(R:List (Key×Dt)->Res->Prop):Prop where
 ex:∃ f fd ps,cz P w K mg base CX k f fd ps (Fq K R)/\mg x=some (.ref f)/\W.keepIn K (.ref f)=true/\Binds K fd ps []
theorem fC {M:Model}{Γ:PySem.Ctx}{p:Pos}{t:Sem Fin}{fs:List Frame}{s s':Shared}{e:End}(h:Runs M Γ p t fs s e s'):s.toks<=s'.toks:=by
 induction h with
 | done=>exact DU _
 | raise=>exact DU _
 | yield=>exact DU _
 | fresh _ ih=>exact Ge (Hd _) ih
 | call _ _ i1 i2=>exact Ge i1 i2
 | resumeFresh _ _ _ _ i1 i2=>exact Ge i1 i2
 | resumeSuspended _ _ _ _ i1 i2=>exact Ge i1 i2
 | segRet _ _ i1 i2=>exact Ge i1 i2
 | segGen _ _ i1 i2=>exact Ge i1 i2
 | segSuspGen _ _ _ _ i1 i2=>exact Ge i1 i2
 | _=>assumption
theorem mB {M:Model}{Γ:PySem.Ctx}{p:Pos}{g:Nat}{r:Resume}{s s':Shared}{res:GenResult}(h:Wakes M Γ p g r s res s'):s.toks<=s'.toks:=by
 unfold Wakes at h
 split at h
 . cases h
 . split at h
   . obtain⟨e,s1,h1,_,_,rfl⟩:=h;exact(show s.toks<=s1.toks from fC (s:=s.setGen g .running) h1)
   . rw[h.2];exact DU _
   . rw[h.2];exact DU _
 . obtain⟨e,s1,h1,_,_,rfl⟩:=h;exact(show s.toks<=s1.toks from fC (s:=s.setGen g .running) h1)
 all_goals (rw[h.2];exact DU _)
theorem rG {α:Type}{M:Model}{Γ:PySem.Ctx}{t:Sem α}{Q:α->Pos->Shared->Prop}{E:Value->Pos->Shared->Prop}{p:Pos}{s1:Shared}{n m:Nat}(l:n<=m)(h:wp M Γ t (fun a p' s'=>Q a p' s'/\m<=s'.toks) (fun e p' s'=>E e p' s'/\m<=s'.toks) p s1):wp M Γ t (fun a p' s'=>Q a p' s'/\n<=s'.toks) (fun e p' s'=>E e p' s'/\n<=s'.toks) p s1:=
 Sem.wp_mono M Γ t (fun _ _ _ q=>⟨q.1,Ge l q.2⟩) (fun _ _ _ q=>⟨q.1,Ge l q.2⟩) p s1 h
theorem wp_toks {α:Type}{M:Model}{Γ:PySem.Ctx}:∀ (t:Sem α) {Q:α->Pos->Shared->Prop} {E:Value->Pos->Shared->Prop} {p:Pos} {s:Shared},wp M Γ t Q E p s->wp M Γ t (fun a p' s'=>Q a p' s'/\s.toks<=s'.toks) (fun e p' s'=>E e p' s'/\s.toks<=s'.toks) p s:=by
 intro t
 induction t with
 | pure a=>intro Q E p s h;rw[wp] at h ⊢;exact⟨h,DU _⟩
 | raise e=>intro Q E p s h;rw[wp] at h ⊢;exact⟨h,DU _⟩
 | unsupported w=>intro Q E p s h;rw[wp] at h;exact h.elim
 | finish w=>intro Q E p s h;rw[wp] at h;exact h.elim
 | register a k ih=>intro Q E p s h;rw[wp] at h;exact h.elim
 | yield a b c k ih=>intro Q E p s h;rw[wp] at h;exact h.elim
 | fork a k ih=>intro Q E p s h;rw[wp] at h;exact h.elim
 | await a b c d k ih=>intro Q E p s h;rw[wp] at h;exact h.elim
 | load a q k ih=>intro Q E p s h;rw[wp] at h ⊢;obtain⟨o,e,h⟩:=h;exact⟨o,e,ih o h⟩
 | update a q f k ih=>intro Q E p s h;rw[wp] at h ⊢;exact⟨h.1,ih () h.2⟩
 | fresh k ih=>intro Q E p s h;rw[wp] at h ⊢;exact rG (Hd _) (ih _ h)
 | choose a n k ih=>intro Q E p s h;rw[wp] at h ⊢;exact⟨h.1,ih _ h.2⟩
 | call c d g l k ih=>
   intro Q E p s h;rw[wp] at h ⊢;obtain⟨r,s1,h1,h2⟩:=h;exact⟨r,s1,h1,rG (fC h1) (ih r h2)⟩
 | genState g k ih=>intro Q E p s h;rw[wp] at h ⊢;obtain⟨o,e,h⟩:=h;exact⟨o,e,ih _ h⟩
 | resume g r l k ih=>
   intro Q E p s h;rw[wp] at h ⊢;obtain⟨r,s1,h1,h2⟩:=h;exact⟨r,s1,h1,rG (mB h1) (ih r h2)⟩
 | rule a k ih=>intro Q E p s h;rw[wp] at h ⊢;exact ih _ h
 | «at» a k ih=>intro Q E p s h;rw[wp] at h ⊢;exact ih _ h
 | alloc a k ih=>intro Q E p s h;rw[wp] at h ⊢;exact ih _ h
 | loadIfAlive a k ih=>intro Q E p s h;rw[wp] at h ⊢;exact ih _ h
 | point a k ih=>intro Q E p s h;rw[wp] at h ⊢;exact ih _ h
 | ask k ih=>intro Q E p s h;rw[wp] at h ⊢;exact ih _ h
 | os a l k ih=>intro Q E p s h;rw[wp] at h ⊢;exact ih _ h
 | handled a k ih=>intro Q E p s h;rw[wp] at h ⊢;exact ih _ h
 | newGen a k ih=>intro Q E p s h;rw[wp] at h ⊢;exact ih _ h
 | stack k ih=>intro Q E p s h;rw[wp] at h ⊢;exact ih _ h
 | thread k ih=>intro Q E p s h;rw[wp] at h ⊢;exact ih _ h
theorem wpAny_toks {α:Type}{M:Model}{A:Around}{t:Sem α}{Q:α->Shared->Prop}{E:Value->Shared->Prop}{s:Shared}(h:wpAny M A t Q E s):wpAny M A t (fun a s'=>Q a s'/\s.toks<=s'.toks) E s:=
 fun Γ p hΓ=>Sem.wp_mono M Γ t (fun _ _ _ q=>q) (fun _ _ _ q=>q.1) p s (wp_toks t (h Γ p hΓ))
structure ll (P:Program)(w:World)(K:W.Frag)(mg:Str->Option Value)(base:Heap)(CX:cW)(k:Nat)(f:Addr)(fd:FuncData)(ps:List Str)(sp:Sp):Prop where
 len:∀ vs H Q E,sp vs H Q E->vs.length=ps.length
 run:∀ (A:Around) (outer:List Env) (s:Shared) (H:Hp) (args:Args) (x:Str) (tk:Tok) (us:List Value) (vs:List V) (Q:VK) (E:XK),aV k A->ji P w K mg base A outer s H ->
   BindsTo s fd args (ps.zip (.str x tk::us))->Vals vs (.str x tk::us)->sp vs H Q E->0 < tk->tk < s.toks->codeAny (model P w) A (.call (.ref f) args) (CR CX outer P w H s Q E) s
theorem xY {CX:cW}{P:Program}{w:World}{K:W.Frag}{mg:Str->Option Value}{base:Heap}{k:Nat}{f:Addr}{name qual:Str}{params:Arguments}{body:List Stmt}{scope:Scope}{dV kV doc pm aR ct oc:Value}{an od:Option Addr}{iu:Array (Option Value)}{N ps:List Str}{sp:Sp}{y:Str}(lk:K.lookup f=some ⟨oc,od,.func (W.fnOf name qual params body scope dV kV doc pm an aR ct),iu⟩)(ee:W.codeIn K aR qual=true)(S:aA N ps scope)(hy:ps[0]?=some y)(xZ:scope.names.lookup y=some .local)(len:∀ vs H Q E,sp vs H Q E->vs.length=ps.length)(dc:∀ (A:Around) (outer:List Env) (s:Shared) (H:Hp) (vs:List V) (Q:VK) (E:XK),aV k (A.deeper (envOfC qual scope s.heap.objs.size f aR))->sp vs H Q E->∀ s1,Inv (cE CX P w K mg base N qual scope f aR A outer s H E) [] (start N vs) H s1->∀ m x tk us,Vals vs (.str x tk::us)->s1.heap.Ns s.heap.objs.size m->m y=some (.str x tk)->0 < tk->tk < s1.toks->wpAny (model P w) (cE CX P w K mg base N qual scope f aR A outer s H E).A (execs body (cE CX P w K mg base N qual scope f aR A outer s H E).env) (SP (cE CX P w K mg base N qual scope f aR A outer s H E) [] { nx:=fun _ H'=>Q .a7 H',rt:=Q}) (cE CX P w K mg base N qual scope f aR A outer s H E).xe s1):ll P w K mg base CX (k+1) f (W.fnOf name qual params body scope dV kV doc pm an aR ct) ps sp:=by
 refine⟨len,fun A outer s H args x0 tk us vs Q E hr e0 hb r qk h0 h1=>?_⟩;have hl:=len _ _ _ _ qk;have KX:K.In s.heap:=e0.mod.sZ.keeps fun b o e=>(e0.bs b o e).1
 have lim:s.heap.NoLimit:=e0.mod.nolimit.keeps fun b o e=>(e0.bs b o e).1
 have ql:∀ y∈ps.zip (.str x0 tk::us),scope.names.lookup y.1=some .local\/(scope.names.lookup y.1=some .cell/\((cellsFrom (s.heap.objs.size+1) scope.names []).lookup y.1).isSome=true):=fun⟨n,v⟩ hy=>by
   rcases S.par n (Hm hy).1 with q | q
   . exact .inl q
   . exact .inr ⟨q,W.cellsFrom_some _ _ _ (.inl q)⟩
 refine codeAny_call_function hr.depth (KX _ _ lk) rfl S.co S.gen rfl (W.codeRec_of KX ee) (hb _ _ _ _ ?_);refine wpAny_mono (wpAny_toks (wpAny_newFunctionEnv_cells (Q:=fun env s'=>env=_/\InCallC s env.locals (bindL env.kindOf (ps.zip (.str x0 tk::us)) fun _=>none) env.cells (bindC env.kindOf (ps.zip (.str x0 tk::us)) fun _=>none) s') S.kind ql fun env he s1 x=>⟨he,x⟩)) (fun env s1 hx=>?_) fun _ _ z=>z
 obtain⟨⟨he,x⟩,ht⟩:=hx;subst he;refine⟨lim.keeps x.toInCall.keep,codeAny_func ?_⟩;have I:Inv (cE CX P w K mg base N qual scope f aR A outer s H E) [] (start N vs) H s1:=iL S hr.hd e0 hl r x;have AM:ps.Nodup:=by rw[<- S.pre];exact S.nd.sublist (List.take_sublist _ _)
 refine wpAny_mono (dc A outer s H vs Q E (hr.deeper _) qk s1 I _ x0 tk us r x.toInCall.ns (fk AM hy rfl xZ) h0 (F1 h1 ht)) (fun fl s' hs=>?_) fun e s' hs=>hs
 have fin:∀ {σ':L2.St} {H':Hp} {v:V} {u:Value},Inv (cE CX P w K mg base N qual scope f aR A outer s H E) [] σ' H' s'->RelV v u->Q v H'->CE outer P w H s Q u s':=
   fun {σ' H' v u} J rv q=>⟨v,H',J.os,J.bare,J.base,J.aF,rv,q⟩
 cases fl with
 | ret u=>
   obtain⟨v,σ',H',J,rv,q⟩:=hs;exact fin J rv q
 | next=>
   obtain⟨σ',H',J,q⟩:=hs;exact fin (v:=V.a7) (u:=Value.none) J rfl q
 | brk=>
   obtain⟨_,_,_,q⟩:=hs;exact False.elim q
 | cont=>
   obtain⟨_,_,_,q⟩:=hs;exact False.elim q
def x2 (X:Cx)(e:Expr)(te:TE):Prop:=
 ∀ (pins:List (Addr×Obj)) (s:Shared) (σ:L2.St) (H:Hp) (Q:VK),Inv X pins σ H s->te σ H Q ->
   wpAny (model X.prog X.w) X.A (eval e X.env) (fun u s'=>EP X pins σ Q u s'/\∃ x tk,u=.str x tk/\0 < tk/\tk < s'.toks) X.xe s
section
variable {X:Cx}{e:Expr}{es:List Expr}{te:TE}{t:TA}{E:XK}{k:Nat}{f:Addr}{fd:FuncData}{ps:List Str}{sp:Sp}{x:Str}{p pos:Pos}{CX:cW}
theorem rH (ha:x2 X e te)(hr:PA X es t){pos:Pos}{pins:List (Addr×Obj)}{s:Shared}{σ:L2.St}{H:Hp}{Q:List V->Hp->Prop}(I:Inv X pins σ H s)(h:qf te t σ H Q)(hs:starEach (e::es) X.env=(false,eval e X.env)::starEach es X.env):wpAny (model X.prog X.w) X.A (spliced (backTo pos (starEach (e::es) X.env))) (fun us s2=>AP X pins σ Q us s2/\∃ x tk rest,us=.str x tk::rest/\0 < tk/\tk < s2.toks) X.xe s:=by
 rw[hs];show wpAny _ _ (spliced ((false,eval e X.env)::backTo pos (starEach es X.env))) _ _ s;refine Calls.spliced_cons (aS (ha pins s σ H _ I h) fun u s1 zq=>?_);obtain⟨⟨x,H1,I1,r1,q1⟩,x',tk,eu,h0,h1⟩:=zq;exact aS (wpAny_toks (hr pos pins s1 σ H1 _ I1 q1)) fun us s2 ⟨⟨xs,H2,I2,r2,q2⟩,l⟩=>⟨⟨x::xs,H2,I2,.cons r1 r2,q2⟩,x',tk,us,by rw[eu],h0,F1 h1 l⟩
theorem uQ {pins:List (Addr×Obj)}{σ:L2.St}{H:Hp}{s:Shared}{Q:VK}{us:List Value}{vs:List V}{y:Str}{tk:Tok}(F:ll X.prog X.w X.K X.mg X.base CX k f fd ps sp)(hr:aV k X.A)(hb:Binds X.K fd ps [])(hx:Passes CX X E)(I:Inv X pins σ H s)(r:Vals vs (.str y tk::us))(h:sp vs H Q E)(h0:0 < tk)(h1:tk < s.toks):wpAny (model X.prog X.w) X.A (call (.ref f) (.str y tk::us)) (EP X pins σ Q) X.xe s:=by
 have hl:(Value.str y tk::us).length=ps.length:=by rw[<- r.length];exact F.len _ _ _ _ h
 have oK:=hb s (.str y tk::us) I.cw (by rw[Gu];exact hl);rw[Gu] at oK;refine wpAny_call (codeAny_mono (F.run X.A X.stack s H ⟨.str y tk::us,[]⟩ y tk us vs Q E hr I.tJ oK r h h0 h1) fun r s' hq=>?_);cases r with
 | error e=>exact hx pins σ H s e s' I hq
 | ok fl=>
   cases fl with
   | ret u=>exact I.after hq
   | next=>exact False.elim hq
   | brk=>exact False.elim hq
   | cont=>exact False.elim hq
theorem rJ (F:ll X.prog X.w X.K X.mg X.base CX k f fd ps sp)(hr:aV k X.A)(hg:Gl X x)(hm:X.mg x=some (.ref f))(hk:W.keepIn X.K (.ref f)=true)(hb:Binds X.K fd ps [])(hx:Passes CX X E)(he:x2 X e te)(ha:PA X es t)(cL:autoParam ((x == ("__debug__":Str))=false) xz)(e7:autoParam (starEach (e::es) X.env=(false,eval e X.env)::starEach es X.env) jp)(cZ:autoParam ((backTo pos (starEach es X.env)).any (·.1)=false) jp):PE X (.Call (.Name x p) (e::es) [] pos) (qh sp [] E (qf te t)):=by
 intro pins s σ H Q I h;refine wpAny_Call_Name_kw (cq I hg hm ?_ cL);refine W.callWith_K (h₀:=X.base) I.ok.mod.sZ hk (aS (rH he ha I h e7) fun us s1 ⟨⟨vs,H1,I1,r,q⟩,y,tk,rest,eu,h0,h1⟩=>⟨I1.cw,?_⟩) e7 cZ;subst eu;have q:sp (vs ++ []) H1 Q E:=q;rw[Gu] at q;exact uQ F hr hb hx I1 r q h0 h1
end
section
variable {X:Cx}{a:Expr}{ta:TE}{pos p2:Pos}
theorem x3 {i:Int}{j:Nat}(ha:PE X a ta)(hs:bS (.Constant (.int i) j p2)):x2 X (.Subscript a (.Constant (.int i) j p2) pos) (yP tP ta (tC (.int i))):=by
 intro pins s σ H Q I h;refine Subscript_ (aS (ha pins s σ H _ I h) fun v s1 hv=>wpAny_Constant_int ?_);obtain⟨x,H1,I1,rx,q1⟩:=hv;obtain⟨z,i',c,rfl,e,hz,he,q⟩:=(show tP x (.int i) H1 Q from q1)
 cases e;obtain⟨t,rfl⟩:=rx;obtain⟨j,h1,h2,h3,h4,h5⟩:=gu he;have hl:z.cps.toList.length=z.length:=by simp[Str.length]
 rw[hl] at h1 h4 h5;have hn:=fh;exact tail_any (typeIs_str _ z t) slot_str_getitem.lookup (getItem_str (c:=c) (by
   have e1:decide (i < -(2 ^ 63:Int))=false:=decide_eq_false (by omega);have e2:decide (i >= 2 ^ 63)=false:=decide_eq_false (by omega);rw[e1,e2,Bool.or_false]) (by rw[h1];simpa using h2) ⟨⟨.str ⟨#[c]⟩,H1,(I1.tok _).tok _,⟨_,rfl⟩,q⟩,_,_,rfl,Nat.succ_pos _,G4 _⟩) (hs _ _)
theorem x4 {pins:List (Addr×Obj)}{s:Shared}{σ:L2.St}{H:Hp}{Q:VK}{alph x y:Str}{tk:Tok}{m:Str->Option Value}{j0 j1:Nat}{p0 p1 p3 apos aE:Pos}
   (I:Inv X pins σ H s) (hn:s.heap.Ns X.env.locals m) (hm:m y=some (.str x tk)) (h0:0 < tk) (h1:tk < s.toks) (hx:(x == ("":Str))=false) (ha:alph.length<=1000)
   (hk:X.env.scope.names.lookup y=some .local) (hq:Q (.str (Txt.replace alph x "")) H)
   (hd:autoParam ((y == ("__debug__":Str))=false) xz)
   (cF:autoParam (attributeBase (.Constant (.str alph) j0 p0) "replace" X.env (eval (.Constant (.str alph) j0 p0) X.env)=eval (.Constant (.str alph) j0 p0) X.env) jp)
   (fo:autoParam (((backTo aE (starEach [.Name y p1,.Constant (.str "") j1 p3] X.env)).all (fun x=>!x.1) && (backToKw aE (keywordEach [] X.env)).all (fun x=>x.1.isSome)
     && decide ([Expr.Name y p1,.Constant (.str "") j1 p3].length+([]:List Keyword).length+(if ([]:List Keyword).isEmpty then 0 else 1) < 30))=true) jp)
   (cG:autoParam ((apos.endLine == aE.line)=true) jp)
   (hs:autoParam (starEach [.Name y p1,.Constant (.str "") j1 p3] X.env=[(false,eval (.Name y p1) X.env),(false,eval (.Constant (.str "") j1 p3) X.env)]) jp) :
   wpAny (model X.prog X.w) X.A (eval (.Call (.Attribute (.Constant (.str alph) j0 p0) "replace" apos) [.Name y p1,.Constant (.str "") j1 p3] [] aE) X.env) (EP X pins σ Q) X.xe s:=by
 refine wpAny_Call_method_late cF fo cG rfl (Calls.Constant_str ?_);have I1:=I.tok (s.toks+1);obtain⟨e1,e2⟩:=qp (x:=.str alph) (T:="str") (v:=.str alph s.toks) I1 ⟨_,rfl⟩ rfl;refine⟨"str","str.replace",PySem.F.plainAttrs_str,PySem.F.slot_str_replace,PySem.F.type_str_replace,e1,e2,?_⟩;rw[hs];refine Calls.callWith_builtin rfl (Calls.evalArgs_plain (Calls.spliced_cons ?_));refine wpAny_Name (wpAny_loadName_local I.ok.kind hk hn hm ?_) hd;refine Calls.spliced_cons (Calls.Constant_str (k:=j1) (pos:=p3) (Calls.spliced_nil ?_));exact SC.replaceW (Nat.ne_of_gt h0) (Nat.succ_ne_zero _) (Gd (Nat.lt_succ_of_lt h1)) hx (by omega) (by decide) fun t' k=>⟨.str (Txt.replace alph x ""),H,I1.tok _,⟨_,rfl⟩,hq⟩
theorem uR {pins:List (Addr×Obj)}{s:Shared}{σ:L2.St}{H:Hp}{D:Ends}{alph x y o:Str}{tk:Tok}{m:Str->Option Value}{j0 j1 i:Nat}{p0 p1 p3 apos aE po g6 pos':Pos}{ib:Expr}{ti:TE}
   (I:Inv X pins σ H s) (hn:s.heap.Ns X.env.locals m) (hm:m y=some (.str x tk)) (h0:0 < tk) (h1:tk < s.toks) (hx:(x == ("":Str))=false) (ha:alph.length<=1000)
   (hk:X.env.scope.names.lookup y=some .local) (hb:PE X ib ti) (hix:bS ib) (hN:X.N.Nodup) (hi:X.N[i]?=some o) (ho:X.env.scope.names.lookup o=some .local)
   (h:ti σ H fun z H2=>tP (.str (Txt.replace alph x "")) z H2 fun v H3=>D.nx (σ.set i (some v)) H3)
   (uw:autoParam (swapsWith (.Subscript (.Call (.Attribute (.Constant (.str alph) j0 p0) "replace" apos) [.Name y p1,.Constant (.str "") j1 p3] [] aE) ib g6) (some (.Name o po)) pos'.line X.env=pure false) jp)
   (hd:autoParam ((y == ("__debug__":Str))=false) xz)
   (cF:autoParam (attributeBase (.Constant (.str alph) j0 p0) "replace" X.env (eval (.Constant (.str alph) j0 p0) X.env)=eval (.Constant (.str alph) j0 p0) X.env) jp)
   (fo:autoParam (((backTo aE (starEach [.Name y p1,.Constant (.str "") j1 p3] X.env)).all (fun x=>!x.1) && (backToKw aE (keywordEach [] X.env)).all (fun x=>x.1.isSome)
     && decide ([Expr.Name y p1,.Constant (.str "") j1 p3].length+([]:List Keyword).length+(if ([]:List Keyword).isEmpty then 0 else 1) < 30))=true) jp)
   (cG:autoParam ((apos.endLine == aE.line)=true) jp)
   (hs:autoParam (starEach [.Name y p1,.Constant (.str "") j1 p3] X.env=[(false,eval (.Name y p1) X.env),(false,eval (.Constant (.str "") j1 p3) X.env)]) jp) :
   wpAny (model X.prog X.w) X.A (exec (.Assign [.Name o po] (.Subscript (.Call (.Attribute (.Constant (.str alph) j0 p0) "replace" apos) [.Name y p1,.Constant (.str "") j1 p3] [] aE) ib g6) pos') X.env) (SP X pins D) X.xe s:=by
 refine wpAny_Assign_Name (Subscript_ (aS (x4 (Q:=fun z H1=>z=.str (Txt.replace alph x "")/\H1=H) I hn hm h0 h1 hx ha hk ⟨rfl,rfl⟩ hd cF fo cG hs) fun v s1 hv=>?_)) uw;obtain⟨z,H1,I1,rx,e1,e2⟩:=hv;subst e1 e2;refine aS (hb pins s1 σ H1 _ I1 h) fun u s2 hu=>?_
 obtain⟨y',H2,I2,ry,q2⟩:=hu;refine aS (qm _ _ pins s2 σ H2 _ y' v u _ I2 rx ry q2 (hix _ _)) fun w s3 hw=>?_
 obtain⟨z',H3,I3,rz,q3⟩:=hw;exact eo I3 hN hi (.inl ho) rz (fun s4 I4=>⟨_,H3,I4,q3⟩) (.inr ho)
end
structure DI (P:Program)(w:World)(K:W.Frag)(mg:Str->Option Value)(base:Heap)(CX:cW)(k:Nat)(x:Str)(n:Nat)(R:List Dt->Res->Prop):Prop where
 ex:∃ f fd ps,ll P w K mg base CX k f fd ps (qG K n R)/\mg x=some (.ref f)/\W.keepIn K (.ref f)=true/\Binds K fd ps []
section
variable {X:Cx}{G:Gr}{E:XK}{dl:List Slot}{e:Expr}{es:List Expr}{d d1:Dt}{ds:List Dt}{pos p apos:Pos}{x m:Str}{k k' n:Nat}{R:List Dt->Res->Prop}{CX:cW}
theorem x5 (F:DI X.prog X.w X.K X.mg X.base CX k x n R)(nx:qH CX)(hr:aV k' X.A)(he:x2 X e (tD X.K G dl d1))(ha:EA X G dl es ds)(h:R (d1::ds) (.ret d))(oN:k<=k')(hl:autoParam ((d1::ds).length=n) jp)(hg:autoParam (Gl X x) jp)(cL:autoParam ((x == ("__debug__":Str))=false) xz)(e7:autoParam (starEach (e::es) X.env=(false,eval e X.env)::starEach es X.env) jp)(cZ:autoParam ((backTo pos (starEach es X.env)).any (·.1)=false) jp):EE X G dl (.Call (.Name x p) (e::es) [] pos) d:=by
 obtain⟨f,fd,ps,F,hm,hk,hb⟩:=F.ex;refine cu (rJ (E:=E0) F (hr.mono oN) hg hm hk hb nx.passes he ha cL e7 cZ) fun st H Q zq=>zn zq fun Hf S k=>fun v ar H1 g1 r1=>⟨ar,S.grow g1,fun vs a8 H2 g2 r2=>?_⟩
 show qG X.K n R ((v::vs) ++ []) H2 _ _;rw[Gu];exact⟨a8,d1::ds,.ret d,(g1.trans g2).sub,.cons (r1.mono g2.a6) r2,hl,h,fun v kl H3 g3 r3=>k v kl H3 ((g1.trans g2).trans g3) r3⟩
theorem Cw {t t':TE}(h:x2 X e t)(i:∀ st H Q,t' st H Q->t st H Q):x2 X e t':=fun pins s st H Q I q=>h pins s st H Q I (i st H Q q)
theorem uS {z:Str}{i:Int}{c j:Nat}{p2:Pos}(he:EE X G dl e (.str z))(hz:z.length<=sizeLine)(hc:fm z.cps.toList i=some c)(hs:bS (.Constant (.int i) j p2)):x2 X (.Subscript e (.Constant (.int i) j p2) pos) (tD X.K G dl (.str ⟨#[c]⟩)):=
 Cw (x3 he hs) fun st H Q zq=>zn zq fun Hf S k=>fun v ar H1 g1 r1=>by
   cases r1;exact⟨z,i,c,rfl,rfl,hz,hc,k _ ar H1 g1 (.str _)⟩
def vR (X:Cx)(G:Gr)(E:XK)(dl:List Slot)(y z:Str)(body:List Stmt)(o:Out):Prop:=
 ∀ (s1:Shared) (σ:L2.St) (H:Hp) (D:Ends) (m:Str->Option Value) (tk:Tok),Inv X [] σ H s1->tO X.K G E dl o D σ H->s1.heap.Ns X.env.locals m->m y=some (.str z tk)->0 < tk->tk < s1.toks ->
   wpAny (model X.prog X.w) X.A (execs body X.env) (SP X [] D) X.xe s1
theorem o6 {alph z y o':Str}{c j0 j1 i:Nat}{kk:Int}{p0 p1 p3 aE po g6 pos':Pos}{ib:Expr}{rest:List Stmt}{o:Out}
   (hx:(z == ("":Str))=false) (ha:alph.length<=1000) (hk:X.env.scope.names.lookup y=some .local) (hb:EE X G dl ib (.int kk)) (hix:bS ib) (hN:X.N.Nodup) (hi:X.N[i]?=some o') (ho:X.env.scope.names.lookup o'=some .local)
   (hlen:(Txt.replace alph z "").length<=sizeLine) (hc:fm (Txt.replace alph z "").cps.toList kk=some c) (Ap:gQ X G E (dl.set i (.val (.str ⟨#[c]⟩))) rest o)
   (uw:autoParam (swapsWith (.Subscript (.Call (.Attribute (.Constant (.str alph) j0 p0) "replace" apos) [.Name y p1,.Constant (.str "") j1 p3] [] aE) ib g6) (some (.Name o' po)) pos'.line X.env=pure false) jp)
   (hd:autoParam ((y == ("__debug__":Str))=false) xz)
   (cF:autoParam (attributeBase (.Constant (.str alph) j0 p0) "replace" X.env (eval (.Constant (.str alph) j0 p0) X.env)=eval (.Constant (.str alph) j0 p0) X.env) jp)
   (fo:autoParam (((backTo aE (starEach [.Name y p1,.Constant (.str "") j1 p3] X.env)).all (fun x=>!x.1) && (backToKw aE (keywordEach [] X.env)).all (fun x=>x.1.isSome)
     && decide ([Expr.Name y p1,.Constant (.str "") j1 p3].length+([]:List Keyword).length+(if ([]:List Keyword).isEmpty then 0 else 1) < 30))=true) jp)
   (cG:autoParam ((apos.endLine == aE.line)=true) jp)
   (hs:autoParam (starEach [.Name y p1,.Constant (.str "") j1 p3] X.env=[(false,eval (.Name y p1) X.env),(false,eval (.Constant (.str "") j1 p3) X.env)]) jp) :
   vR X G E dl y z (.Assign [.Name o' po] (.Subscript (.Call (.Attribute (.Constant (.str alph) j0 p0) "replace" apos) [.Name y p1,.Constant (.str "") j1 p3] [] aE) ib g6) pos'::rest) o:=by
 intro s1 σ H D m tk I hO hn hm h0 h1;obtain⟨Hf,S,kO⟩:=hO;refine wpAny_execs_cons (aS (uR (D:={ D with nx:=tO X.K G E (dl.set i (.val (.str ⟨#[c]⟩))) o D}) I hn hm h0 h1 hx ha hk hb hix hN hi ho ⟨Hf,S,fun v ar H1 g1 r1=>by
   cases r1;exact⟨_,kk,c,rfl,rfl,hlen,hc,⟨ar,(S.grow g1).set (.str _),kO.mono g1.a6⟩⟩⟩ uw hd cF fo cG hs) fun f s1 q=>?_)
 cases f with
 | next=>
   obtain⟨σ',H',I',q⟩:=q;exact Ap [] s1 σ' H' D I' q
 | ret v=>exact q
 | brk=>exact q
 | cont=>exact q
end
theorem Cy {P:Program}{w:World}{K:W.Frag}{mg:Str->Option Value}{base:Heap}{CX:cW}{x qual y:Str}{st:Stmt}{f:Addr}{fd:FuncData}{N ps:List Str}{k n:Nat}{R:List Dt->Res->Prop}(F:xb K x qual st f fd)(S:aA N ps (af st))(hn:ps.length=n)(hy:ps[0]?=some y)(xZ:(af st).names.lookup y=some .local)(dc:∀ (aR:Value) (A:Around) (outer:List Env) (s:Shared) (H:Hp) (E:XK) (G:Gr) (ds:List Dt) (r:Res),aV k (A.deeper (envOfC qual (af st) s.heap.objs.size f aR))->ds.length=n->R ds r->∃ z BZ o,ds=.str z::BZ/\Comes o r/\vR (cE CX P w K mg base N qual (af st) f aR A outer s H E) G E (slots N ds) y z (aH st) o):ll P w K mg base CX (k+1) f fd ps (qG K n R):=by
 obtain⟨oc,od,kV,doc,pm,an,aR,ct,iu,rfl,lk,ee⟩:=F.ex;refine xY lk ee S hy xZ (fun vs H Q E zq=>by obtain⟨Hf,ds,r,s,rp,hl,_⟩:=zq;rw[rp.length,hl,hn]) fun A outer s H vs Q E hr oF s1 I m x0 tk us rv vJ hm h0 h1=>?_
 obtain⟨Hf,ds,r,sm,rp,hl,hR,hk⟩:=oF;obtain⟨z,BZ,o,e,hc,hb⟩:=dc aR A outer s H E ⟨Hf,H⟩ ds r hr hl hR;have hz:m y=some (.str z tk):=by
   subst e;cases rp with
   | cons r1 _=>
     cases r1;cases rv with
     | cons q _=>obtain⟨t,e⟩:=q;cases e;exact hm
 exact hb s1 _ H _ m tk I ⟨Hf,iX sm rp,hc.ends hk⟩ vJ hz h0 h1
end Sg
namespace Pf
open PySem PySem.Spec PyProof.Rows L2 Sg
structure Aq (K:W.Frag)(x q:Str)(st:Stmt)(ps:List Str)(f:Addr)(d:FuncData):Prop where
 F:xb K x q st f d
 b:Binds K d ps []
structure Cz (K:W.Frag)(x q:Str)(st:Stmt)(ps:List Str)(f:Addr)(d:FuncData):Prop where
 F:xA K x q st f d
 b:Binds K d ps []
structure dM (K:W.Frag)(x:Str)(st:Stmt)(ps:List Str)(f:Addr)(d:FuncData):Prop where
 F:xb K x x st f d
 b:Binds K d ps []
 a:W.nsIn K mainGlobals x=some (some (.ref f))
structure x6 (K:W.Frag)(x:Str)(C:Addr):Prop where
 a:W.nsIn K mainGlobals x=some (some (.ref C))
 cl:kA K C
 kc:W.keepIn K (.ref C)=true
abbrev x8 (x q:Str)(st:Stmt)(ps:List Str):Prop:=∀ (kV doc pm:Value) (an:Option Addr) (aR ct:Value) (us:List Value),us.length=ps.length->bindArgs (W.fnOf x q (bf st) (aH st) (af st) .none kV doc pm an aR ct) ⟨us,[]⟩=pure (ps.zip us)
section
variable {K:W.Frag}{x q:Str}{st:Stmt}{ps:List Str}{f:Addr}{oc:Value}{od an:Option Addr}{iu:Array (Option Value)}{kV doc pm aR ct:Value}
theorem x9 (l:K.lookup f=some ⟨oc,od,.func (W.fnOf x q (bf st) (aH st) (af st) .none kV doc pm an aR ct),iu⟩)(c:W.codeIn K aR q=true)(k:W.keepIn K (.ref f)=true)(b:x8 x q st ps):Aq K x q st ps f (W.fnOf x q (bf st) (aH st) (af st) .none kV doc pm an aR ct):=⟨gP l c k,(gP l c k).binds b⟩
theorem ya (l:K.lookup f=some ⟨oc,od,.func (W.fnOf x q (bf st) (aH st) (af st) .none kV doc pm an aR ct),iu⟩)(c:W.codeIn K aR q=true)(k:W.keepIn K (.ref f)=true)(b:x8 x q st ps):Cz K x q st ps f (W.fnOf x q (bf st) (aH st) (af st) .none kV doc pm an aR ct):=⟨uq l c,(gP l c k).binds b⟩
theorem yb (a:W.nsIn K mainGlobals q=some (some (.ref f)))(l:K.lookup f=some ⟨oc,od,.func (W.fnOf q q (bf st) (aH st) (af st) .none kV doc pm an aR ct),iu⟩)(c:W.codeIn K aR q=true)(k:W.keepIn K (.ref f)=true)(b:x8 q q st ps):dM K q st ps f (W.fnOf q q (bf st) (aH st) (af st) .none kV doc pm an aR ct):=⟨gP l c k,(gP l c k).binds b,a⟩
theorem yc {C:Addr}(a:W.nsIn K mainGlobals x=some (some (.ref C)))(p:W.plainGet K C Str.empty=true)(h:W.hasDictIn K C=true)(o:W.plainOver K C=true)(s:W.findIn K (.ref C) "__setattr__"=some (some (.builtin "object.__setattr__")))(k:W.keepIn K (.ref C)=true):x6 K x C:=⟨a,⟨p,h,o,s⟩,k⟩
end
theorem jK {N P:List Str}{sc:Scope}(h:(sc.kind == .function && !sc.isCoroutine && !sc.isGenerator && decide N.Nodup && decide (N.take P.length=P) && P.all (fun x=>decide (sc.names.lookup x=some .local\/sc.names.lookup x=some .cell)) && sc.names.all fun y=>decide (y.2≠.free))=true):aA N P sc:=by
 simp only[GJ,List.all_eq_true,decide_eq_true_eq,Bool.not_eq_true',beq_iff_eq] at h;exact⟨h.1.1.1.1.1.1,h.1.1.1.1.1.2,h.1.1.1.1.2,h.1.1.1.2,h.1.1.2,h.1.2,h.2⟩
noncomputable def top (i:Nat):Stmt:=PySem.Challenge.pw_strokegrow_k08_grown_once.main.body.getD i (.Pass ⟨0,0,0,0⟩)
noncomputable abbrev bZ:Stmt:=top 10
noncomputable abbrev hB:Stmt:=top 11
noncomputable abbrev hU:Stmt:=top 17
noncomputable abbrev bI:Stmt:=top 21
noncomputable abbrev bq:Stmt:=top 22
noncomputable abbrev aZ:Stmt:=top 23
noncomputable abbrev b3:Stmt:=inClass (top 24) 0
noncomputable abbrev bJ:Stmt:=inClass (top 24) 4
noncomputable abbrev cQ:Stmt:=inClass (top 24) 6
noncomputable abbrev mC:Stmt:=top 26
noncomputable abbrev fD:Stmt:=top 27
noncomputable abbrev mD:Stmt:=top 28
noncomputable abbrev mE:Stmt:=top 29
noncomputable abbrev mF:Stmt:=top 30
noncomputable abbrev mG:Stmt:=top 31
noncomputable abbrev gz:Stmt:=top 32
noncomputable abbrev mH:Stmt:=top 33
noncomputable abbrev mI:Stmt:=top 34
noncomputable abbrev rK:Stmt:=top 35
noncomputable abbrev gd:List Str:=["many"]
theorem fE:aA gd ["many"] (af bZ):=jK (by decide +kernel)
noncomputable abbrev rL:List Str:=["rules","word","grown"]
theorem nH:aA rL ["rules","word"] (af hB):=jK (by decide +kernel)
noncomputable abbrev rM:List Str:=["ways"]
theorem o7:aA rM ["ways"] (af hU):=jK (by decide +kernel)
noncomputable abbrev eQ:List Str:=["text"]
theorem d8:aA eQ ["text"] (af bI):=jK (by decide +kernel)
noncomputable abbrev dq:List Str:=["word","letters"]
theorem gf:aA dq ["word","letters"] (af bq):=jK (by decide +kernel)
noncomputable abbrev cR:List Str:=["rows","firsts","letters","number","row","letter_fits"]
theorem dU:aA cR ["rows"] (af aZ):=jK (by decide +kernel)
noncomputable abbrev jL:List Str:=["self","ways","rows","drawer","row"]
theorem dW:aA jL ["self","ways","rows"] (af b3):=jK (by decide +kernel)
noncomputable abbrev hV:List Str:=["self","letter"]
theorem gh:aA hV ["self","letter"] (af bJ):=jK (by decide +kernel)
noncomputable abbrev jM:List Str:=["self","letter"]
theorem iD:aA jM ["self","letter"] (af cQ):=jK (by decide +kernel)
noncomputable abbrev yd:List Str:=["_law_script","_law_k","_law_cell_here","_law_low"]
theorem gA:aA yd ["_law_script","_law_k"] (af mC):=jK (by decide +kernel)
noncomputable abbrev o8:List Str:=["_law_cell_here","_law_left","_law_rest","_law_letters_here","_law_k","_law_at"]
theorem hW:aA o8 ["_law_cell_here"] (af fD):=jK (by decide +kernel)
noncomputable abbrev ye:List Str:=["_law_cell_here","_law_letters_here","_law_most","_law_rest","_law_word_here","_law_k"]
theorem nI:aA ye ["_law_cell_here","_law_letters_here","_law_most"] (af mD):=jK (by decide +kernel)
noncomputable abbrev yf:List Str:=["_law_letters_here","_law_cells","_law_most","_law_rows_here","_law_k","_law_cell_here","_law_deed"]
theorem nJ:aA yf ["_law_letters_here","_law_cells","_law_most"] (af mE):=jK (by decide +kernel)
noncomputable abbrev yg:List Str:=["_law_script","_law_ways","_law_letters_here","_law_rows_here"]
theorem nK:aA yg ["_law_script"] (af mF):=jK (by decide +kernel)
noncomputable abbrev yh:List Str:=["_law_cell_here","_law_letters_here","_law_number","_law_word_here","_law_k"]
theorem nL:aA yh ["_law_cell_here","_law_letters_here"] (af mG):=jK (by decide +kernel)
noncomputable abbrev uT:List Str:=["_law_rows_here","_law_word_here","_law_words","_law_letter","_law_deed","_law_other","_law_grown_here","_law_sign"]
theorem lp:aA uT ["_law_rows_here","_law_word_here"] (af gz):=jK (by decide +kernel)
noncomputable abbrev yi:List Str:=["_law_kept_here","_law_rows_here","_law_word_here","_law_error","_law_found","e","_law_due"]
theorem nM:aA yi ["_law_kept_here","_law_rows_here","_law_word_here"] (af mH):=jK (by decide +kernel)
noncomputable abbrev yj:List Str:=["_law_letter","_law_cell_here","_law_other","_law_rows_here","_law_kept_here","_law_at","_law_word_here"]
theorem nO:aA yj ["_law_letter","_law_cell_here"] (af mI):=jK (by decide +kernel)
noncomputable abbrev Ar:List Str:=["_law_script","_law_ways","_law_letters_here","_law_rows_here","_law_kept_here","_law_word_here","_law_asked"]
theorem rN:aA Ar ["_law_script"] (af rK):=jK (by decide +kernel)
set_option genInjectivity false in
set_option genSizeOf false in
structure lN where
 (bC jN eR bj bK b4 a4 aM br jO dC jP jQ jR jS eV jT jU eW:Addr)
 (bD jV eX bo bL b5 b6 bM b7 jW dD jX jY jZ j3 gB j4 j5 hX:FuncData)
 (bQ cS aI aw av cH cT:Addr)
 (lq hZ h9:Tok)
 K:W.Frag
structure Txt (K:W.Frag)(mg:Str->Option Value)(t:lN):Prop where
 hK:t.K=K
 g:∀ {x:Str} {v:Value},W.nsIn K mainGlobals x=some (some v)->mg x=some v
 gn:∀ {x:Str},W.nsIn K mainGlobals x=some none->mg x=none
 fF:x6 K "Quarter" t.bQ
 j6:x6 K "Sixth" t.cS
 b8:x6 K "Rules" t.aI
 lr:mg "GrowError"=some (.ref t.aw)
 i7:mg "TooLong"=some (.ref t.av)
 rO:mg "NoWord"=some (.ref t.cH)
 j7:zQ K t.aw
 j8:vK K t.aw
 mJ:zQ K t.av
 ia:vK K t.av
 d9:xq K t.bQ
 ig:xq K t.cS
 ij:L2.Mk K t.aI t.a4
 b2:ck K t.aI "drawer"
 aC:ck K t.aI "row_by_letter"
 uU:mg "DEEDS"=some (.ref t.cT)
 uV:∀ H,Rep K H (.ref t.cT) (.tup [.str "stroke",.str "step",.str "left",.str "right",.str "rest"])
 lu:mg "MOST_ROWS"=some (.int 6 t.lq)
 ik:mg "MOST_IN_WORD"=some (.int 8 t.hZ)
 dt:mg "MOST_WRITTEN"=some (.int 400 t.h9)
 aP:dM K "check_written" bZ ["many"] t.bC t.bD
 fG:dM K "once" hB ["rules","word"] t.jN t.jV
 cI:dM K "pen_of" hU ["ways"] t.eR t.eX
 aJ:dM K "is_small_letter" bI ["text"] t.bj t.bo
 aU:dM K "is_word_over" bq ["word","letters"] t.bK t.bL
 bt:dM K "check_rows" aZ ["rows"] t.b4 t.b5
 b9:Cz K "__init__" "Rules.__init__" b3 ["self","ways","rows"] t.a4 t.b6
 ba:Meth K t.aI "row_of" t.aM
 bN:Aq K "row_of" "Rules.row_of" bJ ["self","letter"] t.aM t.bM
 bx:Meth K t.aI "word" t.br
 cb:Aq K "word" "Rules.word" cQ ["self","letter"] t.br t.b7
 fH:dM K "_law_cell" mC ["_law_script","_law_k"] t.jO t.jW
 cj:dM K "_law_letters" fD ["_law_cell_here"] t.dC t.dD
 fJ:dM K "_law_word" mD ["_law_cell_here","_law_letters_here","_law_most"] t.jP t.jX
 fK:dM K "_law_rows" mE ["_law_letters_here","_law_cells","_law_most"] t.jQ t.jY
 fL:dM K "_law_kept" mF ["_law_script"] t.jR t.jZ
 fM:dM K "_law_long" mG ["_law_cell_here","_law_letters_here"] t.jS t.j3
 dE:dM K "_law_grown" gz ["_law_rows_here","_law_word_here"] t.eV t.gB
 fN:dM K "_law_fits" mH ["_law_kept_here","_law_rows_here","_law_word_here"] t.jT t.j4
 fO:dM K "_law_edge" mI ["_law_letter","_law_cell_here"] t.jU t.j5
 lx:dM K "law" rK ["_law_script"] t.eW t.hX
 dF:mg "range"=none
 bV:mg "len"=none
 bO:mg "isinstance"=none
 vS:mg "int"=none
 rP:mg "bool"=none
 rQ:mg "str"=none
 j9:mg "tuple"=none
 ka:mg "list"=none
 rR:mg "all"=none
 du:mg "enumerate"=none
 su:W.mroIn K t.av (.ref t.aw)=some true
 i2:W.kitOne K (.ref t.av) (.ref t.cH)=some false
theorem yk {K:W.Frag}{h:Heap}{mg:Str->Option Value}(X:K.In h)(G:h.Ns mainGlobals mg){bC jN eR bj bK b4 a4 aM br jO dC jP jQ jR jS eV jT jU eW bQ cS aI aw av cH cT:Addr}{bD jV eX bo bL b5 b6 bM b7 jW dD jX jY jZ j3 gB j4 j5 hX:FuncData}{y0 y1 y2:Tok}{y3:Option Addr}{y4:Nat}{y5:Array (Option Value)}{rS rT rU rV rW:Tok}(fF:x6 K "Quarter" bQ)(j6:x6 K "Sixth" cS)(b8:x6 K "Rules" aI)(mK:W.nsIn K mainGlobals "GrowError"=some (some (.ref aw)))(rX:W.nsIn K mainGlobals "TooLong"=some (some (.ref av)))(uW:W.nsIn K mainGlobals "NoWord"=some (some (.ref cH)))(ly:W.excIn K aw Sg.zP "ValueError.__new__"=true)(lz:(W.clsIn K aw).isSome=true)(lA:W.findIn K (.ref aw) "__getattribute__"=some (some (.builtin "BaseException.__getattribute__")))(lB:W.findIn K (.ref aw) "__getattr__"=some none)(lC:W.mroIn K aw (.type "BaseException")=some true)(lD:W.findIn K (.ref aw) "__class__"=some (some (.builtin "object.__class__")))(lE:W.mroIn K aw (.type "object")=some true)(lF:W.specialIn K (.builtin "object.__class__") "__get__"=some (some (.builtin "getset_descriptor.__get__")))(lG:W.takesIn K (.builtin "object.__class__")=some true)(o9:W.excIn K av Sg.zP "ValueError.__new__"=true)(pe:(W.clsIn K av).isSome=true)(pf:W.findIn K (.ref av) "__getattribute__"=some (some (.builtin "BaseException.__getattribute__")))(pj:W.findIn K (.ref av) "__getattr__"=some none)(pk:W.mroIn K av (.type "BaseException")=some true)(pq:W.findIn K (.ref av) "__class__"=some (some (.builtin "object.__class__")))(pv:W.mroIn K av (.type "object")=some true)(pz:W.specialIn K (.builtin "object.__class__") "__get__"=some (some (.builtin "getset_descriptor.__get__")))(pA:W.takesIn K (.builtin "object.__class__")=some true)(d9:xq K bQ)(ig:xq K cS)(ij:L2.Mk K aI a4)(b2:W.findIn K (.ref aI) "drawer"=some none)(aC:W.findIn K (.ref aI) "row_by_letter"=some none)(rY:W.nsIn K mainGlobals "DEEDS"=some (some (.ref cT)))(rZ:K.lookup cT=some ⟨.type "tuple",y3,.seq #[.str "stroke" rS,.str "step" rT,.str "left" rU,.str "right" rV,.str "rest" rW] y4,y5⟩)(ke:W.nsIn K mainGlobals "MOST_ROWS"=some (some (.int 6 y0)))(gi:W.nsIn K mainGlobals "MOST_IN_WORD"=some (some (.int 8 y1)))(gj:W.nsIn K mainGlobals "MOST_WRITTEN"=some (some (.int 400 y2)))(aP:dM K "check_written" bZ ["many"] bC bD)(fG:dM K "once" hB ["rules","word"] jN jV)(cI:dM K "pen_of" hU ["ways"] eR eX)(aJ:dM K "is_small_letter" bI ["text"] bj bo)(aU:dM K "is_word_over" bq ["word","letters"] bK bL)(bt:dM K "check_rows" aZ ["rows"] b4 b5)(b9:Cz K "__init__" "Rules.__init__" b3 ["self","ways","rows"] a4 b6)(ba:Meth K aI "row_of" aM)(bN:Aq K "row_of" "Rules.row_of" bJ ["self","letter"] aM bM)(bx:Meth K aI "word" br)(cb:Aq K "word" "Rules.word" cQ ["self","letter"] br b7)(fH:dM K "_law_cell" mC ["_law_script","_law_k"] jO jW)(cj:dM K "_law_letters" fD ["_law_cell_here"] dC dD)(fJ:dM K "_law_word" mD ["_law_cell_here","_law_letters_here","_law_most"] jP jX)(fK:dM K "_law_rows" mE ["_law_letters_here","_law_cells","_law_most"] jQ jY)(fL:dM K "_law_kept" mF ["_law_script"] jR jZ)(fM:dM K "_law_long" mG ["_law_cell_here","_law_letters_here"] jS j3)(dE:dM K "_law_grown" gz ["_law_rows_here","_law_word_here"] eV gB)(fN:dM K "_law_fits" mH ["_law_kept_here","_law_rows_here","_law_word_here"] jT j4)(fO:dM K "_law_edge" mI ["_law_letter","_law_cell_here"] jU j5)(lx:dM K "law" rK ["_law_script"] eW hX)(dF:W.nsIn K mainGlobals "range"=some none)(bV:W.nsIn K mainGlobals "len"=some none)(bO:W.nsIn K mainGlobals "isinstance"=some none)(vS:W.nsIn K mainGlobals "int"=some none)(rP:W.nsIn K mainGlobals "bool"=some none)(rQ:W.nsIn K mainGlobals "str"=some none)(j9:W.nsIn K mainGlobals "tuple"=some none)(ka:W.nsIn K mainGlobals "list"=some none)(rR:W.nsIn K mainGlobals "all"=some none)(du:W.nsIn K mainGlobals "enumerate"=some none)(CA:W.mroIn K av (.ref aw)=some true)(CB:W.kitOne K (.ref av) (.ref cH)=some false):∃ t,Txt K mg t/\t.eW=eW:=
 ⟨⟨bC,jN,eR,bj,bK,b4,a4,aM,br,jO,dC,jP,jQ,jR,jS,eV,jT,jU,eW,bD,jV,eX,bo,bL,b5,b6,bM,b7,jW,dD,jX,jY,jZ,j3,gB,j4,j5,hX,bQ,cS,aI,aw,av,cH,cT,y0,y1,y2,K⟩,⟨rfl,
   W.mg_of X G,
   W.mg_none_of X G,
   fF,
   j6,
   b8,
   W.mg_of X G mK,
   W.mg_of X G rX,
   W.mg_of X G uW,
   ⟨ly⟩,
   ⟨lz,lA,lB,lC,lD,lF,lG,lE⟩,
   ⟨o9⟩,
   ⟨pe,pf,pj,pk,pq,pz,pA,pv⟩,
   d9,
   ig,
   ij,
   b2,
   aC,
   W.mg_of X G rY,
   fun H=>.tup (vs:=[.str "stroke",.str "step",.str "left",.str "right",.str "rest"]) (.inr ⟨_,_,_,rZ,rfl,rfl,G0 rfl,.cons ⟨_,rfl⟩ (.cons ⟨_,rfl⟩ (.cons ⟨_,rfl⟩ (.cons ⟨_,rfl⟩ (.cons ⟨_,rfl⟩ (.nil)))))⟩) (.cons (.str _) (.cons (.str _) (.cons (.str _) (.cons (.str _) (.cons (.str _) (.nil)))))),
   W.mg_of X G ke,
   W.mg_of X G gi,
   W.mg_of X G gj,
   aP,
   fG,
   cI,
   aJ,
   aU,
   bt,
   b9,
   ba,
   bN,
   bx,
   cb,
   fH,
   cj,
   fJ,
   fK,
   fL,
   fM,
   dE,
   fN,
   fO,
   lx,
   W.mg_none_of X G dF,
   W.mg_none_of X G bV,
   W.mg_none_of X G bO,
   W.mg_none_of X G vS,
   W.mg_none_of X G rP,
   W.mg_none_of X G rQ,
   W.mg_none_of X G j9,
   W.mg_none_of X G ka,
   W.mg_none_of X G rR,
   W.mg_none_of X G du,
   CA,
   CB⟩,rfl⟩
theorem yl {K:W.Frag}{mg:Str->Option Value}{t:lN}(T:Txt K mg t)(s:Shared)(u:Value):BindsTo s t.hX ⟨[u],[]⟩ [("_law_script",u)]:=by
 obtain⟨oc,od,kV,doc,pm,an,aR,ct,iu,e,lk,ee⟩:=T.lx.F.ex;rw[e];exact .of_eq rfl
abbrev CX:cW:=C3
noncomputable def sg (c:Nat):Str:=⟨#[c]⟩
noncomputable def tx (w:List Nat):Str:=⟨w.toArray⟩
structure Row where
 c:Nat
 d:Str
 w:List Nat
noncomputable def eY:List Str:=["stroke","step","left","right","rest"]
noncomputable def cV (r:Row):Dt:=.tup [.str (sg r.c),.str r.d,.str (tx r.w)]
def small (c:Nat):Prop:=97<=c/\c<=122
structure bR (rows:List Row):Prop where
 pos:0 < rows.length
 le:rows.length<=6
 nd:(rows.map (·.c)).Nodup
 sm:∀ r∈rows,small r.c
 dd:∀ r∈rows,r.d∈eY
 wp:∀ r∈rows,0 < r.w.length/\r.w.length<=8
 wo:∀ r∈rows,∀ x∈r.w,x∈rows.map (·.c)
noncomputable def mL (rows:List Row):List (Key×Dt):=rows.map fun r=>(.inr (sg r.c),cV r)
abbrev Rl:=List Dt->Res->Prop
noncomputable def wy (six:Bool):Int:=if six then 6 else 4
noncomputable def lN.pc (t:lN)(six:Bool):Addr:=if six then t.cS else t.bQ
noncomputable def lN.uX (t:lN)(six:Bool)(rows:List Row):Dt:=.obj t.aI [("drawer",.iR (.obj (t.pc six) [])),("row_by_letter",.bW (mL rows))]
theorem il {a b:Nat}(h:sg a=sg b):a=b:=by
 have:=congrArg (fun s:Str=>s.cps.toList) h;simpa [sg] using this
theorem r0 {c:Nat}{L:List Nat}:sg c∈L.map sg ↔ c∈L:=by
 constructor
 . intro h
   obtain⟨x,hx,e⟩:=GN.mp h;rw[<- il e];exact hx
 . exact fun h=>GN.mpr ⟨c,h,rfl⟩
theorem CC {c:Nat}(h:97<=c):xP "a" (sg c)=true:=by
 have e:("a":Str).cps.toList=[97]:=rfl;unfold xP;rw[e];show(!decide ([c] < [97]))=true;have:¬ ([c] < [97]):=by
   intro z;rcases List.cons_lt_cons_iff.mp z with z | ⟨_,z⟩
   . omega
   . exact absurd z (by simp)
 simp[this]
theorem CD {c:Nat}(h:c<=122):xP (sg c) "z"=true:=by
 have e:("z":Str).cps.toList=[122]:=rfl;unfold xP;rw[e];show(!decide ([122] < [c]))=true;have:¬ ([122] < [c]):=by
   intro z;rcases List.cons_lt_cons_iff.mp z with z | ⟨_,z⟩
   . omega
   . exact absurd z (by simp)
 simp[this]
theorem lH (w:List Nat):Sg.signs (tx w)=(w.map sg).map Dt.str:=by
 unfold Sg.signs tx;rw[GA];rfl
theorem aO (w:List Nat):(tx w).length=w.length:=by show w.toArray.size=w.length;simp
theorem lI {w:List Nat}(h:∀ x∈w,x < 128):dk (tx w)=true:=by
 unfold dk tx;rw[Array.all_eq_true_iff_forall_mem];intro x hx;exact decide_eq_true (h x (by simpa using hx))
theorem i8:∀ {rows:List Row},(rows.map (·.c)).Nodup->∀ {r:Row},r∈rows->cB (mL rows) (.inr (sg r.c))=some (cV r)
 | [],_,r,h=>by cases h
 | q::rows,nd,r,h=>by
   rw[Gs,G8] at nd;rcases Gy.mp h with rfl | h
   . exact eP (p:=(.inr (sg r.c),cV r)) rfl
   . have ne:¬ (Sum.inr (sg q.c):Key)=.inr (sg r.c):=fun z=>nd.1 (by
       rw[il (Sum.inr.inj z)];exact GN.mpr ⟨r,h,rfl⟩)
     show cB ((.inr (sg q.c),cV q)::mL rows) _=_;rw[dm (p:=(.inr (sg q.c),cV q)) ne];exact i8 nd.2 h
theorem r6 {n:Nat}(h:n<=2000):n<=sizeLine:=Ge h (by decide)
def uY:Rl:=fun ds r=>∃ c,ds=[.str (sg c)]/\small c/\r=.ret (.bl true)
def ym:Rl:=fun ds r=>∃ (w L:List Nat),ds=[.str (tx w),.lst ((L.map sg).map .str)]/\(0 < w.length/\w.length<=8)/\(∀ x∈w,x∈L)/\(∀ x∈L,small x)/\r=.ret (.bl true)
def uZ:Rl:=fun ds r=>∃ rows,ds=[.lst (rows.map cV)]/\bR rows/\r=.ret .a7
noncomputable def yn:Stmt->Scope
 | .Return (some (.BoolOp _ [_,.Call _ [.ListComp _ _ sc _] _ _] _)) _=>sc
 | _=>af (.Pass ⟨0,0,0,0⟩)
noncomputable abbrev u0:Scope:=yn ((aH bq).getD 0 (.Pass ⟨0,0,0,0⟩))
theorem nP:i0 u0 (af bq) dq ["sign","letters"] ["sign"] [1]=true:=by decide +kernel
noncomputable abbrev pB:Scope:=Df ((aH aZ).getD 2 (.Pass ⟨0,0,0,0⟩))
theorem i9:i0 pB (af aZ) cR ["row"] ["row"] []=true:=by decide +kernel
noncomputable abbrev u5:Scope:=Df ((aH aZ).getD 3 (.Pass ⟨0,0,0,0⟩))
theorem nQ:i0 u5 (af aZ) cR ["first"] ["first"] []=true:=by decide +kernel
theorem eZ {X:Cx}{G:Gr}{dl:List Slot}{zs DJ:List Dt}{wi:TI}(h:iC X G dl zs wi)(e:DJ=zs):iC X G dl DJ wi:=by subst e;exact h
variable {P:Program}{w:World}{K:W.Frag}{mg:Str->Option Value}{base:Heap}{t:lN}
theorem r8 (T:Txt K mg t):GF P w K mg base CX 1 "is_small_letter" 1 uY:=by
 refine⟨_,_,_,kP T.aJ.F d8 rfl fun aR A outer s H E G ds r hr hl hR=>?_,(T.g T.aJ.a),T.aJ.F.kp,T.aJ.b⟩;obtain⟨c,rfl,⟨h1,h2⟩,rfl⟩:=hR;exact⟨_,.rt _,ay (bp (ft (u:=true) (v:=true) (aX (xu (gx T.bV (aa 0 rfl) (r6 (n:=1) (by decide))) ai) rfl) fun _=>(eE (aX (rl a9 (aa 0 rfl) a9) (by rw[CC h1,CD h2];rfl)))))⟩
theorem u6 (T:Txt K mg t):GF P w K mg base CX 1 "is_word_over" 2 ym:=by
 refine⟨_,_,_,kP T.aU.F gf rfl fun aR A outer s H E G ds r hr hl hR=>?_,(T.g T.aU.a),T.aU.F.kp,T.aU.b⟩;obtain⟨wd,L,rfl,⟨h0,h8⟩,hw,hL,rfl⟩:=hR;have CF:dk (tx wd)=true:=lI fun x hx=>by have:=hL x (hw x hx);unfold small at this;omega
 have hlen:=aO wd;have e1:(decide ((1:Int)<=((tx wd).length:Nat)) && decide (((tx wd).length:Nat)<=(8:Int)))=true:=by
   rw[hlen,decide_eq_true (by omega),decide_eq_true (by omega)];rfl
 have e2:(((wd.filter fun _=>true).map fun x=>Dt.bl (decide (sg x∈L.map sg))))=((Ga wd.length true).map Dt.bl):=by
   rw[Hq.mpr (fun _ _=>rfl)];refine List.ext_getElem (by simp) fun i h1 h2=>?_
   simp only[GP,List.getElem_replicate];have hi:i < wd.length:=by simpa using h1
   rw[decide_eq_true (r0.mpr (hw _ (Gz hi)))]
 have e3:(Ga wd.length true).all id=true:=by simp
 have es:wd.map (fun x=>Dt.str (sg x))=Sg.signs (tx wd):=by rw[lH,GA];rfl
 refine⟨_,.rt _,ay (bp (ft (u:=true) (v:=true) (aX (rm ai (gx T.bV (aa 0 rfl) (r6 (by omega))) (eI (w:=.int 8) T.ik ⟨_,rfl⟩ fun _=>.int 8)) (congrArg Dt.bl e1)) fun _=>(eE (aX (xR (bs:=Ga wd.length true) T.rR rfl (aX (kU (mv wd (fun x=>Dt.str (sg x)) (fun x=>.bl (decide (sg x∈L.map sg))) (fun x=>[.val (.str (sg x))]) (fun _=>true) rfl (dR nP) (jI (aa 0 rfl)) (dj (dR nP) rfl) (eZ (eO CF) es) (fun a _=>eM) (.nil fun _ _=>rfl)
   (fun a ha _ C fp s' H' G'=>xQ (aa 0 rfl) (aa 1 rfl)) (r6 (by omega)))) (congrArg Dt.lst e2))) (congrArg Dt.bl e3)))))⟩
theorem mM {k:Nat}{ds:List Dt}{K:W.Frag}{H:Hp}{vs:List V}(r:aN K H vs ds)(hk:k<=ds.length):aN K H (kE vs none (some (k:Int))) (ds.take k):=by
 unfold kE;rw[HT.kD,HT.m6,List.drop_zero,r.length,Nat.min_eq_left hk,Nat.sub_zero];exact r.take k
theorem u7 {X:Cx}{G:Gr}{dl:List Slot}{a b:Expr}{ds:List Dt}{k:Nat}{pos p2:Pos}(ha:EE X G dl a (.lst ds))(hb:EE X G dl b (.int (k:Int)))(hk:k<=ds.length):EO X G dl (.Subscript a (.Slice none (some b) none p2) pos) (.lst (ds.take k)):=
 cu (gN m9 ha jl (jm hb)) fun st H Q zq=>zn zq fun Hf S kk=>fun v ar H1 g1 r1=>by
   cases r1 with
   | @lst q vs _ hq rp=>
     refine⟨ar,S.grow g1,fun z a8 H2 g2 r2=>?_⟩;cases r2;have g:=g1.trans g2;refine⟨(k:Int),rfl,q,vs,rfl,.of (g2.big _ _ (g1.sub _ _ hq)),fun p hp=>kk p a8 _ (g.trans (.cN g.sub hp)) (g.big.free hp) (g.sub.free hp) ⟨_,aj,mM (rp.mono g2.a6) hk⟩⟩
theorem mO {L:List Dt}{L':List Dt}(e:L=L'){X:Cx}{G:Gr}{dl:List Slot}{z:Expr}(h:EO X G dl z (.lst L)):EE X G dl z (.lst L'):=by subst e;exact kU h
theorem sd (T:Txt K mg t):GF P w K mg base CX 2 "check_rows" 1 uZ:=by
 refine⟨_,_,_,kP T.bt.F dU rfl fun aR A outer s H E G ds r hr hl hR=>?_,(T.g T.bt.a),T.bt.F.kp,T.bt.b⟩;obtain⟨rows,rfl,ok,rfl⟩:=hR;have nd:=dU.nd;have hp:=ok.pos;have F8:=ok.le;let cs:=rows.map (·.c);let lt:List Dt:=(cs.map sg).map Dt.str;have e0:(decide ((((rows.map cV).length:Nat):Int)=0))=false:=by rw[Bn];exact decide_eq_false (by omega)
 have e1:(decide ((6:Int) < (((rows.map cV).length:Nat):Int)))=false:=by rw[Bn];exact decide_eq_false (by omega)
 have ef:((rows.filter fun _=>true).map fun r=>Dt.str (sg r.c))=lt:=by
   rw[Hq.mpr (fun _ _=>rfl)];show _=((rows.map (·.c)).map sg).map Dt.str;rw[GA,GA];rfl
 have ez:(rows.map fun r=>Dt.str (sg r.c))=lt:=by
   show _=((rows.map (·.c)).map sg).map Dt.str;rw[GA,GA];rfl
 have hsz:rows.length<=sizeLine:=r6 (by omega);let S:Nat->List Slot:=fun _=>[.val (.lst (rows.map cV)),.val (.lst lt),.val (.lst lt),.bX,.bX,.bX]
 let xs:=rows.map cV;have DK:xs.length=rows.length:=Bn ..;refine⟨.nx (S rows.length),.nx _,ag (cv (u:=false) (fV (jy (nu T.bV (aa 0 rfl)) ai) e0) (fun h=>nomatch h) (fun h=>cA))
   (ag (cv (u:=false) (fV (kQ (nu T.bV (aa 0 rfl)) (eI (w:=.int 6) T.lu ⟨_,rfl⟩ fun _=>.int 6)) e1) (fun h=>nomatch h) (fun h=>cA))
   (ag (q9 1 rows cV (fun r=>Dt.str (sg r.c)) (fun r=>[.val (cV r)]) (fun _=>true) rfl nd (dR i9) (gk (aa 0 rfl)) (dj (dR i9) rfl) fA (fun a _=>eM) (.nil fun _ _=>rfl) (fun a ha _ C fp s' H' G'=>d6 (aa 0 rfl) ai rfl) hsz)
   ?r1))⟩
 rw[ef];refine ml 1 (w:=.lst lt) (ag (q9 2 rows (fun r=>Dt.str (sg r.c)) (fun r=>Dt.str (sg r.c)) (fun r=>[.val (.str (sg r.c))]) (fun _=>true) rfl nd (dR nQ) (gk (aa 1 rfl)) (dj (dR nQ) rfl) (eZ fA ez) (fun a _=>eM)
   (.one fun a ha C fp s' H' G'=>kM (bF (r8 T) bY hr (ae (aa 0 rfl) ak) ⟨a.c,rfl,ok.sm a ha,rfl⟩)) (fun a ha _ C fp s' H' G'=>aa 0 rfl) hsz) ?r2)
 rw[ef];refine ml 2 (w:=.lst lt) (ay (eN (o:=.nx (S rows.length)) (m:=rows.length) (GG xs.length) (fun(j:Nat)=>.tup [.int j,xs.getD j .a7]) (fun(j:Nat) dl=>(dl.set 3 (.val (.int j))).set 4 (.val (xs.getD j .a7))) S rfl PassesOwn.leaving
   (uy rfl T.du (ae (aa 0 rfl) ak)) (oZ (xs:=xs)) (lS rfl (bU (bc nd rfl (.inl rfl)) (bU (bc nd rfl (.inl rfl)) jg))) (fun a _=>ux) (Le.of ⟨rfl,rfl,rfl,trivial⟩) (by rw[GS,DK];exact DU _) (fun j a hj ha=>?l) (by rw[GS,DK];exact .all rfl)))
 rw[List.getElem?_range (by omega)] at ha;cases ha;have ex:xs.getD j .a7=cV rows[j]:=by
   show(rows.map cV).getD j .a7=_;rw[F2,Gb,AV hj];rfl
 have hm:=Gz hj;have Fs:cs.length=rows.length:=Bn ..;have eT:lt.take j=((cs.take j).map sg).map Dt.str:=by
   show((cs.map sg).map Dt.str).take j=_;rw[<- List.map_take,<- List.map_take]
 have cf:lt.length=rows.length:=by show((cs.map sg).map Dt.str).length=_;rw[Bn,Bn,Fs]
 have CG:sg rows[j].c ∉ (cs.take j).map sg:=by
   intro z;have z:=r0.mp z;obtain⟨i,hi,e⟩:=GU.mp z;rw[Gv] at hi;rw[Hg] at e;have h:=GQ.mp ok.nd i j (by rw[Bn];omega) (by rw[Bn];exact hj) (by omega);exact h (e.trans (GP (f:=Row.c) (l:=rows) (i:=j) (h:=by rw[Bn];exact hj)).symm)
 have en:(!decide (sg rows[j].c∈(cs.take j).map sg))=true:=by rw[decide_eq_false CG];rfl
 have v4:∀ {X:Cx} {G:Gr} {dl:List Slot} {e:Expr},EE X G dl e (xs.getD j .a7)->EE X G dl e (.tup [.str (sg rows[j].c),.str rows[j].d,.str (tx rows[j].w)]):=fun h=>by rw[ex] at h;exact h
 refine .nx (ag (aq 5 nd (ft (u:=true) (v:=true) (bF (r8 T) bY hr (ae (d6 (v4 (aa 4 rfl)) ai rfl) ak) ⟨_,rfl,ok.sm _ hm,rfl⟩) fun _=>(eE (aX (uC (xs:=(cs.take j).map sg) (d6 (v4 (aa 4 rfl)) ai rfl) (mO eT (u7 (aa 1 rfl) (aa 3 rfl) (by rw[cf];exact Hs hj)))) (congrArg Dt.bl en)))))
   (ay (cv (u:=false) (ma (u:=true) (BP (qC (u:=true) (v:=true) (kM (aa 5 rfl)) fun _=>(qC (u:=true) (v:=true) (fV (xC (xs:=eY) (d6 (v4 (aa 4 rfl)) ai rfl) (eI (w:=.ref t.cT) T.uU rfl T.uV)) (decide_eq_true (ok.dd _ hm))) fun _=>(t7 (kM (bF (u6 T) bY hr (ae (d6 (v4 (aa 4 rfl)) ai rfl) (ae (aa 2 rfl) ak)) ⟨rows[j].w,cs,rfl,ok.wp _ hm,ok.wo _ hm,fun x hx=>?_,rfl⟩))))))) (fun h=>nomatch h) (fun h=>cA)))) (Le.of ⟨rfl,rfl,rfl,trivial⟩)
 obtain⟨r,Ft,rfl⟩:=GN.mp hx;exact ok.sm r Ft
def se (t:lN):Rl:=fun ds r=>∃ six,ds=[.int (wy six)]/\r=.ret (.iR (.obj (t.pc six) []))
def u9 (t:lN):Rl:=fun ds r=>∃ six rows,ds=[.int (wy six),.lst (rows.map cV)]/\bR rows/\r=.own (.obj t.aI [("drawer",.iR (.obj (t.pc six) [])),("row_by_letter",.bW (mL rows))])
noncomputable def rr (r:Row):Str×List Dt:=(sg r.c,[.str r.d,.str (tx r.w)])
theorem nT (rows:List Row):rows.map cV=(rows.map rr).map g9:=by rw[GA];rfl
theorem yp (rows:List Row):mL rows=dS (rows.map rr):=by unfold dS mL;rw[GA];rfl
theorem As {rows:List Row}(nd:(rows.map (·.c)).Nodup):((rows.map rr).map (·.1)).Nodup:=by
 have e:(rows.map rr).map (·.1)=(rows.map (·.c)).map sg:=by rw[GA,GA];rfl
 rw[e];exact List.Pairwise.map sg (fun a b h z=>h (il z)) nd
theorem pC (T:Txt K mg t):GF P w K mg base CX 1 "pen_of" 1 (se t):=by
 refine⟨_,_,_,kP T.cI.F o7 rfl fun aR A outer s H E G ds r hr hl hR=>?_,(T.g T.cI.a),T.cI.F.kp,T.cI.b⟩;obtain⟨six,rfl,rfl⟩:=hR;cases six with
 | false=>exact⟨_,.rt _,gw (cv (jy (aa 0 rfl) ai) (fun h=>ay (bp (lj T.d9 (T.g T.fF.a)))) (fun h=>absurd h (by decide)))⟩
 | true=>exact⟨_,.rt _,ag (cv (jy (aa 0 rfl) ai) (fun h=>absurd h (by decide)) (fun h=>cA)) (gw (cv (jy (aa 0 rfl) ai) (fun h=>ay (bp (lj T.ig (T.g T.j6.a)))) (fun h=>absurd h (by decide))))⟩
theorem lJ (T:Txt K mg t):Dd P w K mg base CX 3 "Rules" t.aI 3 (u9 t):=by
 refine⟨_,_,_,Eg T.b9.F dW rfl fun aR A outer s H E G z ds r hr hl hR=>?_,T.ij,(T.g T.b8.a),T.b9.b⟩;obtain⟨six,rows,rfl,ok,rfl⟩:=hR;have nd:=dW.nd;have hu:(A.deeper (envOfC "Rules.__init__" (af b3) s.heap.objs.size t.a4 aR)).units+1 < cLine:=by have:=hr.units;omega
 rw[yp,nT];refine⟨_,.nx ?fin,ag (aq 3 nd (bF (pC T) bY hr (ae (aa 1 rfl) ak) ⟨six,rfl,rfl⟩))
   (ag (nr (bF (sd T) bY hr (ae (aa 2 rfl) ak) ⟨rows,by rw[nT],ok,rfl⟩))
   (ag (xB (aa 3 rfl) T.b8.cl T.b2)
   (rB 2 4 (C:=t.aI) (rows:=rows.map rr) (dlu:=[.bX,.val (.int (wy six)),.val (.lst ((rows.map rr).map g9)),.val (.iR (.obj (t.pc six) [])),.bX]) hu nd rfl PassesOwn.leaving T.b8.cl T.aC rfl rfl rfl rfl (by decide) (by decide) rfl (As ok.nd) (by rw[Bn];exact G9 ok.le (by decide))
     (fun r=>d6 (aa 4 rfl) ai (gv (j:=0) rfl)) (fun r=>uH T.j9 (aa 4 rfl)))))⟩
 rfl
open PySem.Builtin.Str in
theorem ja (x:Str){a b:Nat}(DL:a<=b)(hb:b<=x.length){l u:Option Int}(h:strSliceIndices l u 1 x.length=strSliceIndices (some (a:Int)) (some (b:Int)) 1 x.length):Txt.slice x l u=⟨((x.cps.toList.drop a).take (b - a)).toArray⟩:=by
 unfold Txt.slice;rw[h,PySem.StrLaws.sliced_plain x DL hb]
 split
 . rename_i q
   rw[PySem.StrLaws.strSliceIndices_plain DL hb,Bn,GS] at q;have q:b - a=x.length:=by simpa using q
   have ea:a=0:=by omega
   have eb:b=x.length:=by omega
   subst ea eb;rw[List.drop_zero,Nat.sub_zero];have:x.cps.toList.take x.length=x.cps.toList:=GX (by simp[Str.length]);rw[this]
 . rfl
open PySem.Builtin.Str in
theorem ip (L:List Nat){k:Nat}(h:k<=L.length):Txt.slice (tx L) none (some (k:Int))=tx (L.take k):=by
 rw[ja (tx L) (a:=0) (b:=k) (GO _) (by rw[aO];exact h)]
 . show(⟨(((L.toArray.toList).drop 0).take (k - 0)).toArray⟩:Str)=_
   simp[tx]
 . simp[strSliceIndices]
   have e:max (0:Int) (min 0 ((tx L).length:Int))=0:=by omega
   rw[e]
open PySem.Builtin.Str in
theorem mP (L:List Nat){k:Nat}(h:k<=L.length):Txt.slice (tx L) (some (k:Int)) none=tx (L.drop k):=by
 rw[ja (tx L) (a:=k) (b:=(tx L).length) (by rw[aO];exact h) (DU _)]
 . show(⟨(((L.toArray.toList).drop k).take ((tx L).length - k)).toArray⟩:Str)=_
   rw[aO,List.toList_toArray,GX (by rw[GV];exact DU _)];rfl
 . simp[strSliceIndices]
   have e:max (0:Int) (min (if ((tx L).length:Int) < 0 then ((tx L).length:Int)+(tx L).length else (tx L).length) ((tx L).length:Int))=(tx L).length:=by
     rw[if_neg (by omega)];omega
   rw[e]
theorem sf (a b:List Nat):tx a ++ tx b=tx (a ++ b):=by
 show(⟨a.toArray ++ b.toArray⟩:Str)=⟨(a ++ b).toArray⟩;simp
theorem vT (L:List Nat){k:Nat}(h:k < L.length):fm (tx L).cps.toList (k:Int)=some (L.getD k 0):=by
 show fm L.toArray.toList (k:Int)=_;rw[List.toList_toArray];refine gv ?_;rw[F2,AV h];rfl
section
variable {X:Cx}{G:Gr}{dl:List Slot}{a b e:Expr}{L M:List Nat}{k:Nat}{pos p p2:Pos}{ns:List Int}
theorem gC (ha:EE X G dl a (.str (tx L)))(hb:EE X G dl b (.str (tx M)))(h:L.length+M.length<=2000):EE X G dl (.BinOp a .Add b pos) (.str (tx (L ++ M))):=
 aX (qB ha hb (by rw[aO,aO];exact r6 h)) (by rw[sf])
theorem gD (ha:EE X G dl a (.str (tx L)))(hb:EE X G dl b (.int (k:Int)))(h:k < L.length)(hl:L.length<=2000)(hs:autoParam (bS b) v6):EE X G dl (.Subscript a b pos) (.str (tx [L.getD k 0])):=
 xm ha hb (vT L h) (by rw[aO];exact r6 hl) hs
theorem vb (ha:EE X G dl a (.str (tx L)))(hb:EE X G dl b (.int (k:Int)))(h:k<=L.length)(hl:L.length<=2000):EE X G dl (.Subscript a (.Slice none (some b) none p2) pos) (.str (tx (L.take k))):=
 aX (my ha mw (jH hb) (by rw[aO];exact r6 hl)) (by rw[ip L h])
theorem pD (ha:EE X G dl a (.str (tx L)))(hb:EE X G dl b (.int (k:Int)))(h:k<=L.length)(hl:L.length<=2000):EE X G dl (.Subscript a (.Slice (some b) none none p2) pos) (.str (tx (L.drop k))):=
 aX (my ha (jH hb) mw (by rw[aO];exact r6 hl)) (by rw[mP L h])
theorem cJ (hm:X.mg "len"=none)(ha:EE X G dl a (.str (tx L)))(hl:L.length<=2000)(hg:autoParam (Gl X "len") jp)(he:autoParam (starEach [a] X.env=[(false,eval a X.env)]) jp):EE X G dl (.Call (.Name "len" p) [a] [] pos) (.int (L.length:Nat)):=
 aX (gx hm ha (by rw[aO];exact r6 hl) hg he) (by rw[aO])
theorem sh (ha:EE X G dl a (.fT ns))(hb:EE X G dl b (.int (k:Int))):EE X G dl (.Subscript a (.Slice (some b) none none p2) pos) (.fT (ns.drop k)):=
 cu (gN m9 ha (jm hb) jl) fun st H Q zq=>zn zq fun Hf S kk=>fun v ar H1 g1 r1=>by
   cases r1 with
   | @fT q _ hq=>
     refine⟨ar,S.grow g1,fun z a8 H2 g2 r2=>?_⟩;cases r2;have g:=g1.trans g2;refine⟨(k:Int),rfl,q,_,rfl,(g1.sub.trans g2.big).seq hq,fun p hp=>kk _ (upd a8 p _) _ (g.trans (.alloc g.sub hp)) (.fT ?_)⟩;have e:kE (ns.map V.int) (some (k:Int)) none=(ns.drop k).map V.int:=by
       unfold kE;rw[HT.kD,HT.m6,Bn,List.map_drop];by_cases h:k<=ns.length
       . rw[Nat.min_eq_left h]
         exact GX (by rw[GV,Bn];exact DU _)
       . rw[Nat.min_eq_right (by omega),List.drop_of_length_le (by rw[Bn];exact DU _),List.drop_of_length_le (by rw[Bn];omega)];simp
     rw[<- e];exact .of aj
end
theorem nU:∀ (Ls:List (List Nat)) (a:List Nat),(Ls.map tx).foldl (fun acc p=>acc ++ (("":Str).cps) ++ p.cps) a.toArray=(a ++ Ls.flatten).toArray
 | [],a=>by simp
 | l::r,a=>by
   have e:a.toArray ++ ("":Str).cps ++ (tx l).cps=(a ++ l).toArray:=by
     show a.toArray ++ (#[]:Array Nat) ++ l.toArray=_;simp
   rw[Gs,List.foldl_cons,e,nU r,G3,List.append_assoc]
theorem vc (Ls:List (List Nat)):Txt.join "" (Ls.map tx)=tx Ls.flatten:=by
 cases Ls with
 | nil=>rfl
 | cons l r=>
   show(⟨(r.map tx).foldl (fun acc p=>acc ++ (("":Str).cps) ++ p.cps) l.toArray⟩:Str)=_;rw[nU,G3];rfl
theorem jb {X:Cx}{G:Gr}{dl:List Slot}{a e:Expr}{apos aE:Pos}{Ls:List (List Nat)}(ha:EE X G dl a (.str ""))(he:EE X G dl e (.lst ((Ls.map tx).map .str)))(hw:Ls.flatten.length+Ls.length<=100000)(cF:autoParam (attributeBase a "join" X.env (eval a X.env)=eval a X.env) jp)
   (fo:autoParam (((backTo aE (starEach [e] X.env)).all (fun x=>!x.1) && (backToKw aE (keywordEach [] X.env)).all (fun x=>x.1.isSome) && decide ([e].length+([]:List Keyword).length+(if ([]:List Keyword).isEmpty then 0 else 1) < 30))=true) jp)
   (cG:autoParam ((apos.endLine == aE.line)=true) jp) (e7:autoParam (starEach [e] X.env=(false,eval e X.env)::starEach [] X.env) jp):EE X G dl (.Call (.Attribute a "join" apos) [e] [] aE) (.str (tx Ls.flatten)):=by
 have e1:((Ls.map tx).map (·.length)).sum=Ls.flatten.length:=by
   rw[List.length_flatten,GA]
   congr 1
 exact aX (uE ha he (joinOk_of_weight (by rw[e1,Bn];omega) (by decide)) cF fo cG e7) (by rw[vc])
noncomputable def lN.Av (t:lN)(six:Bool)(rows:List Row):List (Str×Dt):=[("drawer",.iR (.obj (t.pc six) [])),("row_by_letter",.bW (mL rows))]
noncomputable def si (rows:List Row)(x:Nat):Str:=((rows.find? fun r=>decide (r.c=x)).map (·.d)).getD ""
noncomputable def wordOf (rows:List Row)(x:Nat):List Nat:=((rows.find? fun r=>decide (r.c=x)).map (·.w)).getD []
theorem iq {rows:List Row}{x:Nat}(h:x∈rows.map (·.c)):∃ r∈rows,r.c=x/\si rows x=r.d/\wordOf rows x=r.w:=by
 obtain⟨q,hq,e⟩:=GN.mp h;cases f:rows.find? (fun r=>decide (r.c=x)) with
 | none=>exact absurd (decide_eq_true e) (by simpa using List.find?_eq_none.mp f q hq)
 | some r=>
   refine⟨r,List.mem_of_find?_eq_some f,of_decide_eq_true (List.find?_some (p:=fun r:Row=>decide (r.c=x)) f),?_,?_⟩
   . unfold si;rw[f];rfl
   . unfold wordOf;rw[f];rfl
def sj (t:lN):Rl:=fun ds r=>∃ six rows q,ds=[t.uX six rows,.str (sg q.c)]/\bR rows/\q∈rows/\r=.ret (cV q)
def vd (t:lN):Rl:=fun ds r=>∃ six rows x,ds=[t.uX six rows,.str (sg x)]/\bR rows/\x∈rows.map (·.c)/\r=.ret (.str (tx (wordOf rows x)))
theorem pE (T:Txt K mg t):MF P w K mg base CX 1 t.aI "row_of" 2 (sj t):=by
 refine⟨T.b8.cl,_,_,_,kP T.bN.F gh rfl fun aR A outer s H E G ds r hr hl hR=>?_,T.ba,T.bN.b⟩;obtain⟨six,rows,q,rfl,ok,hq,rfl⟩:=hR;have hu:(A.deeper (envOfC "Rules.row_of" (af bJ) s.heap.objs.size t.aM aR)).units+1 < cLine:=by have:=hr.units;omega
 have hv:=i8 ok.nd hq;exact⟨_,.rt _,ag (cv (u:=false) (fV (uG hu (aa 1 rfl) (qJ (fs:=t.Av six rows) (aa 0 rfl) T.b8.cl T.aC rfl)) (by rw[hv];rfl)) (fun h=>nomatch h) (fun h=>cA))
   (ay (bp (nF hu (qJ (fs:=t.Av six rows) (aa 0 rfl) T.b8.cl T.aC rfl) (aa 1 rfl) hv (fun _ _=>rfl))))⟩
theorem sk (T:Txt K mg t):MF P w K mg base CX 2 t.aI "word" 2 (vd t):=by
 refine⟨T.b8.cl,_,_,_,kP T.cb.F iD rfl fun aR A outer s H E G ds r hr hl hR=>?_,T.bx,T.cb.b⟩;obtain⟨six,rows,x,rfl,ok,hx,rfl⟩:=hR;obtain⟨q,hq,rfl,e1,e2⟩:=iq hx;rw[e2];exact⟨_,.rt _,ay (bp (d6 (qM (fs:=t.Av six rows) (aa 0 rfl) (pE T) bY hr (ae (aa 1 rfl) ak) ⟨six,rows,q,rfl,ok,hq,rfl⟩) ai rfl))⟩
noncomputable def MM:Int:=2305843009213693951
noncomputable def cellAt (ns:List Int)(k:Nat):Int:=ns.getD k 0 % 10 ^ 60 / MM * MM+(ns.getD k 0+7919 * ((k:Int)+1)) * 6364136223846793005 % MM
theorem fP (ns:List Int)(k:Nat):0<=cellAt ns k:=by
 have h1:=Gw (ns.getD k 0) (show(10:Int) ^ 60≠0 by decide);have h2:=Gw ((ns.getD k 0+7919 * ((k:Int)+1)) * 6364136223846793005) (show MM≠0 by decide);have h3:0<=ns.getD k 0 % 10 ^ 60 / MM:=Int.ediv_nonneg h1 (by decide);unfold cellAt;have h4:0<=ns.getD k 0 % 10 ^ 60 / MM * MM:=Int.mul_nonneg h3 (by decide);omega
theorem Aw {m n:Nat}{a b:Int}(ha:a.natAbs < 2 ^ m)(hb:b.natAbs < 2 ^ n)(h:m+n<=134217728):IntMulOk a b:=IntMulOk.of_le (PySem.intBits_le_iff.mpr ha) (PySem.intBits_le_iff.mpr hb) h
def Ax:Rl:=fun ds r=>∃ ns:List Int,ns.length<=63/\ds=[.fT ns]/\r=.ret (.bl true)
def sq (K:W.Frag):Sp:=qG K 1 Ax
theorem yq {K:W.Frag}{H:Hp}{a:Addr}{ns:List Int}(hl:ns.length<=63)(hS:dN K H a (ns.map V.int)):sq K [.ref a] H (fun v _=>v=.bl true) fun _ _ _=>False:=
 ⟨H,[.fT ns],.ret (.bl true),ax.refl H,.cons (.fT hS) .nil,rfl,⟨ns,hl,rfl,rfl⟩,fun v au H' g r=>by cases r;rfl⟩
def pF:Rl:=fun ds r=>∃ (ns:List Int) (k:Nat),ds=[.fT ns,.int k]/\k<=100/\r=.ret (.int (cellAt ns k))
theorem sv (ns:List Int)(k:Nat)(h:k < ns.length):fm ns (k:Int)=some (ns.getD k 0):=by
 refine gv ?_;rw[F2,AV h];rfl
theorem kf (T:Txt K mg t):GF P w K mg base CX 1 "_law_cell" 2 pF:=by
 refine⟨_,_,_,kP T.fH.F gA rfl fun aR A outer s H E G ds r hr hl hR=>?_,(T.g T.fH.a),T.fH.F.kp,T.fH.b⟩;obtain⟨ns,k,rfl,hk,rfl⟩:=hR;refine⟨_,.rt _,ag (aq 2 gA.nd ai) (ag (dl1:=[.val (.fT ns),.val (.int k),.val (.int (ns.getD k 0)),.bX]) (cv (zL (aa 1 rfl) (ua T.bV (aa 0 rfl))) (fun h=>?_) (fun h=>?_))
   (ag (aq 3 gA.nd (bw (d5 (cO (aa 2 rfl) (d5 ai (cO (aa 1 rfl) ai) (kz.ok (GL ⟨by decide,by decide⟩)))) ai (kz.ok (GB ⟨by decide,by decide⟩))) ai (by decide)))
 (ay (bp (cO (d5 (bT (bw (aa 2 rfl) (xg ai ai ⟨by decide,by decide,by decide⟩) (by decide)) ai ⟨by decide,by decide +kernel⟩) ai (kz.ok (GB ⟨by decide,by decide⟩))) (aa 3 rfl))))))⟩
 . have h:=of_decide_eq_true h
   exact ay (aq 2 gA.nd (xk (aa 0 rfl) (aa 1 rfl) (sv ns k (by omega))))
 . have h:=of_decide_eq_false h
   have e:ns.getD k 0=0:=by rw[F2,Gi (by omega)];rfl
   rw[e];exact cA
noncomputable def nV:List Nat:=(GG 26).map (97 + ·)
structure LS where
 left:List Nat
 rest:Int
 out:List Nat
noncomputable def ls (c:Int):Nat->LS
 | 0=>⟨nV,c / 6,[]⟩
 | k+1=>let s:=ls c k;let at_:=(s.rest % (s.left.length:Nat)).toNat;⟨s.left.take at_ ++ s.left.drop (at_+1),s.rest / (s.left.length:Nat),s.out ++ [s.left.getD at_ 0]⟩
noncomputable def dG (s:LS):Nat:=(s.rest % (s.left.length:Nat)).toNat
structure Fu (k:Nat)(s:LS):Prop where
 len:s.left.length+k=26
 ol:s.out.length=k
 sm:∀ x∈s.left,small x
 so:∀ x∈s.out,small x
 nl:s.left.Nodup
 no:s.out.Nodup
 ap:∀ x∈s.out,x ∉ s.left
theorem sx {s:LS}(h:0 < s.left.length):dG s < s.left.length:=by
 have h0:=Gw s.rest (show((s.left.length:Nat):Int)≠0 by omega);have h1:=Gx s.rest (show(0:Int) < (s.left.length:Nat) by omega);unfold dG;omega
theorem sy (c:Int):∀ k,k<=6->Fu k (ls c k)
 | 0,_=>⟨show nV.length+0=26 by decide,rfl,fun x hx=>by
     obtain⟨i,hi,rfl⟩:=GN.mp (show x∈(GG 26).map (97 + ·) from hx);have:=List.mem_range.mp hi;unfold small;omega,fun x h=>absurd h (List.not_mem_nil),show nV.Nodup by decide,List.nodup_nil,fun x h=>absurd h (List.not_mem_nil)⟩
 | k+1,hk=>by
   have ih:=sy c k (by omega);have hl:=ih.len;have cf:dG (ls c k) < (ls c k).left.length:=sx (by omega);generalize hs:ls c k=s at ih hl cf;have e:ls c (k+1)=⟨s.left.take (dG s) ++ s.left.drop (dG s+1),s.rest / (s.left.length:Nat),s.out ++ [s.left.getD (dG s) 0]⟩:=by rw[<- hs];rfl
   rw[e];have eg:s.left.getD (dG s) 0=s.left[dG s]:=by rw[F2,AV cf];rfl
   have sub:s.left.take (dG s) ++ s.left.drop (dG s+1)=s.left.eraseIdx (dG s):=(List.eraseIdx_eq_take_drop_succ _ _).symm;have mem:∀ x∈s.left.take (dG s) ++ s.left.drop (dG s+1),x∈s.left:=fun x hx=>by
     rcases GC.mp hx with h | h
     . exact Hk h
     . exact List.mem_of_mem_drop h
   have DM:s.left[dG s]∈s.left:=Gz cf;have Fv:s.left[dG s] ∉ s.left.take (dG s) ++ s.left.drop (dG s+1):=by
     have pw:=GQ.mp ih.nl;intro h;rcases GC.mp h with h | h
     . obtain⟨i,hi,e⟩:=GU.mp h
       rw[Gv] at hi;rw[Hg] at e;exact pw i (dG s) (by omega) cf (by omega) e
     . obtain⟨i,hi,e⟩:=GU.mp h
       rw[GV] at hi;rw[List.getElem_drop] at e;exact pw (dG s) (dG s+1+i) cf (by omega) (by omega) e.symm
   refine⟨?_,?_,fun x hx=>ih.sm x (mem x hx),fun x hx=>?_,?_,?_,fun x hx=>?_⟩
   . show(s.left.take (dG s) ++ s.left.drop (dG s+1)).length+(k+1)=26
     rw[Gn,Gv,GV];omega
   . show(s.out ++ [s.left.getD (dG s) 0]).length=k+1
     rw[Gn,ih.ol];rfl
   . rcases GC.mp hx with h | h
     . exact ih.so x h
     . have:x=s.left[dG s]:=by rw[<- eg];simpa using h
       rw[this];exact ih.sm _ DM
   . show(s.left.take (dG s) ++ s.left.drop (dG s+1)).Nodup
     rw[sub];exact List.Nodup.sublist (List.eraseIdx_sublist _ _) ih.nl
   . show(s.out ++ [s.left.getD (dG s) 0]).Nodup
     rw[eg];refine List.nodup_append.mpr ⟨ih.no,by simp,fun a ha b hb z=>?_⟩;have:b=s.left[dG s]:=by simpa using hb
     subst z this;exact ih.ap _ ha DM
   . rcases GC.mp hx with h | h
     . exact fun z=>ih.ap x h (mem x z)
     . have:x=s.left[dG s]:=by rw[<- eg];simpa using h
       rw[this];exact Fv
noncomputable def lets (c:Int):List Nat:=(ls c (1+c % 6).toNat).out
def pG:Rl:=fun ds r=>∃ c,ds=[.int c]/\0<=c/\r=.ret (.str (tx (lets c)))
noncomputable def ws (L:List Nat)(c m:Int):Nat->Int×List Nat
 | 0=>(c / m,[])
 | k+1=>let s:=ws L c m k;(s.1 / (L.length:Nat),s.2 ++ [L.getD (s.1 % (L.length:Nat)).toNat 0])
noncomputable def lK (L:List Nat)(c m:Int):List Nat:=(ws L c m (1+c % m).toNat).2
theorem mQ (L:List Nat)(c m:Int):∀ k,(ws L c m k).2.length=k
 | 0=>rfl
 | k+1=>by show((ws L c m k).2 ++ [_]).length=_;rw[Gn,mQ L c m k];rfl
theorem sA (L:List Nat)(hL:0 < L.length)(c m:Int):∀ k,∀ x∈(ws L c m k).2,x∈L
 | 0,x,h=>by cases h
 | k+1,x,h=>by
   rcases GC.mp h with h | h
   . exact sA L hL c m k x h
   . have h0:=Gw (ws L c m k).1 (show((L.length:Nat):Int)≠0 by omega)
     have h1:=Gx (ws L c m k).1 (show(0:Int) < (L.length:Nat) by omega);have cf:((ws L c m k).1 % (L.length:Nat)).toNat < L.length:=by omega
     have:x=L.getD ((ws L c m k).1 % (L.length:Nat)).toNat 0:=by simpa using h
     rw[this,F2,AV cf];exact Gz cf
def yr:Rl:=fun ds r=>∃ (L:List Nat) (c m:Int),ds=[.int c,.str (tx L),.int m]/\(0 < L.length/\L.length<=100)/\(0<=c/\0 < m/\m<=500)/\r=.ret (.str (tx (lK L c m)))
theorem mR (T:Txt K mg t):GF P w K mg base CX 1 "_law_letters" 1 pG:=by
 refine⟨_,_,_,kP T.cj.F hW rfl fun aR A outer s H E G ds r hr hl hR=>?_,(T.g T.cj.a),T.cj.F.kp,T.cj.b⟩;obtain⟨c,rfl,hc,rfl⟩:=hR;have nd:=hW.nd;have h0:=Gw c (show(6:Int)≠0 by decide);have h1:=Gx c (show(0:Int) < 6 by decide);let S:Nat->List Slot:=fun k=>[.val (.int c),.val (.str (tx (ls c k).left)),.val (.int (ls c k).rest),.val (.str (tx (ls c k).out)),.bX,.bX]
 refine⟨_,.rt _,ag (aq 1 nd a9) (ag (aq 2 nd (bT (aa 0 rfl) ai ⟨by decide,by decide +kernel⟩)) (ag (aq 3 nd a9)
   (ag (dA (m:=(1+c % 6).toNat) 4 S nd rfl PassesOwn.leaving T.dF (ae (cO ai (bw (aa 0 rfl) ai (by decide))) ak) ⟨by omega,by omega⟩ (Le.of ⟨rfl,rfl,rfl,rfl,trivial⟩) (DU _) (fun k hk=>?_) (.all rfl)) (ay (bp (aa 3 rfl))))))⟩
 have ok:=sy c k (by omega);have hl:=ok.len;have Fw:=ok.ol;have cf:dG (ls c k) < (ls c k).left.length:=sx (by omega);have ea:(ls c k).rest % (((ls c k).left.length:Nat):Int)=((dG (ls c k):Nat):Int):=by
   have h0:=Gw (ls c k).rest (show(((ls c k).left.length:Nat):Int)≠0 by omega);unfold dG;omega
 have Fx:((dG (ls c k):Nat):Int)+1=((dG (ls c k)+1:Nat):Int):=by omega
 have hb:0 < (((ls c k).left.length:Nat):Int)/\(((ls c k).left.length:Nat):Int).natAbs.log2 < 9000:=⟨by omega,by
   have:(((ls c k).left.length:Nat):Int).natAbs<=26:=by omega
   exact G9 (Nat.log2_le_self _) (by omega)⟩
 exact .nx (ag (aq 5 nd (aX (bw (aa 2 rfl) (cJ T.bV (aa 1 rfl) (by omega)) (by omega)) (congrArg Dt.int ea)))
   (ag (aq 2 nd (bT (aa 2 rfl) (cJ T.bV (aa 1 rfl) (by omega)) hb))
   (ag (aq 3 nd (gC (aa 3 rfl) (gD (aa 1 rfl) (aa 5 rfl) cf (by omega)) (by rw[Fw];show k+1<=2000;omega)))
   (ay (aq 1 nd (gC (vb (aa 1 rfl) (aa 5 rfl) (Hs cf) (by omega)) (pD (aa 1 rfl) (aX (cO (aa 5 rfl) ai) (congrArg Dt.int Fx)) cf (by omega)) (by rw[Gv,GV];omega))))))) (Le.of ⟨rfl,rfl,rfl,rfl,trivial⟩)
theorem vf (T:Txt K mg t):GF P w K mg base CX 1 "_law_word" 3 yr:=by
 refine⟨_,_,_,kP T.fJ.F nI rfl fun aR A outer s H E G ds r hr hl hR=>?_,(T.g T.fJ.a),T.fJ.F.kp,T.fJ.b⟩;obtain⟨L,c,m,rfl,⟨yt,hL⟩,⟨hc,zI,hm⟩,rfl⟩:=hR;have nd:=nI.nd;have h0:=Gw c (show m≠0 by omega);have h1:=Gx c zI;have Fy:0 < m/\m.natAbs.log2 < 9000:=⟨zI,G9 (Nat.log2_le_self _) (by omega)⟩
 have FA:0 < ((L.length:Nat):Int)/\((L.length:Nat):Int).natAbs.log2 < 9000:=⟨by omega,G9 (Nat.log2_le_self _) (by omega)⟩
 let S:Nat->List Slot:=fun k=>[.val (.int c),.val (.str (tx L)),.val (.int m),.val (.int (ws L c m k).1),.val (.str (tx (ws L c m k).2)),.bX]
 refine⟨_,.rt _,ag (aq 3 nd (bT (aa 0 rfl) (aa 2 rfl) Fy)) (ag (aq 4 nd a9)
   (ag (dA (m:=(1+c % m).toNat) 5 S nd rfl PassesOwn.leaving T.dF (ae (cO ai (bw (aa 0 rfl) (aa 2 rfl) zI)) ak) ⟨by omega,by omega⟩ (Le.of ⟨rfl,rfl,rfl,rfl,rfl,trivial⟩) (DU _) (fun k hk=>?_) (.all rfl)) (ay (bp (aa 4 rfl)))))⟩
 have sT:=mQ L c m k;have h2:=Gw (ws L c m k).1 (show((L.length:Nat):Int)≠0 by omega);have h3:=Gx (ws L c m k).1 (show(0:Int) < (L.length:Nat) by omega);have ea:(ws L c m k).1 % ((L.length:Nat):Int)=((((ws L c m k).1 % (L.length:Nat)).toNat:Nat):Int):=by omega
 exact .nx (ag (aq 4 nd (gC (aa 4 rfl) (gD (aa 1 rfl) (aX (bw (aa 3 rfl) (cJ T.bV (aa 1 rfl) (by omega)) (by omega)) (congrArg Dt.int ea)) (by omega) (by omega)) (by rw[sT];show k+1<=2000;omega)))
   (ay (aq 3 nd (bT (aa 3 rfl) (cJ T.bV (aa 1 rfl) (by omega)) FA)))) (Le.of ⟨rfl,rfl,rfl,rfl,rfl,trivial⟩)
noncomputable def A6 (c:Int):Str:=eY.getD (c % 5).toNat ""
theorem vg (c:Int):A6 c∈eY:=by
 have h0:=Gw c (show(5:Int)≠0 by decide);have h1:=Gx c (show(0:Int) < 5 by decide);have hk:(c % 5).toNat < eY.length:=by show _ < 5;omega
 unfold A6;rw[F2,AV hk];exact Gz hk
theorem at_getD {L:List Str}{i:Int}{n:Nat}(hn:L.length=n)(h0:0<=i)(h1:i < n):fm (L.map Dt.str) i=some (.str (L.getD i.toNat "")):=by
 have e:i=((i.toNat:Nat):Int):=by omega
 rw[e];have hk:i.toNat < L.length:=by omega
 refine(gv (j:=i.toNat) ?_).trans rfl;rw[Gb,AV hk,F2];show some (Dt.str L[i.toNat])=some (Dt.str ((L[(i.toNat:Int).toNat]?).getD ""));rw[G2,AV hk];rfl
noncomputable def rowAt (L:List Nat)(ns:List Int)(m:Int)(k:Nat):Row:=⟨L.getD k 0,A6 (cellAt ns k),lK L (cellAt ns k / 5) m⟩
noncomputable def rowsOf (L:List Nat)(ns:List Int)(m:Int):List Row:=(GG L.length).map (rowAt L ns m)
theorem sC (L:List Nat)(ns:List Int)(m:Int):(rowsOf L ns m).map (·.c)=L:=by
 unfold rowsOf;rw[GA];refine List.ext_getElem (by simp) fun i h1 h2=>?_
 simp only[GP,List.getElem_range,Function.comp];show L.getD i 0=L[i];rw[F2,AV h2];rfl
theorem kg (c:Int):0 < (lets c).length/\(lets c).length<=6/\(lets c).Nodup/\∀ x∈lets c,small x:=by
 have h0:=Gw c (show(6:Int)≠0 by decide);have h1:=Gx c (show(0:Int) < 6 by decide);have ok:=sy c (1+c % 6).toNat (by omega);have:=ok.ol;refine⟨?_,?_,ok.no,ok.so⟩
 . show 0 < (ls c (1+c % 6).toNat).out.length;omega
 . show(ls c (1+c % 6).toNat).out.length<=6;omega
theorem nW {L:List Nat}(hL:0 < L.length)(c m:Int)(hm:0 < m):0 < (lK L c m).length/\(lK L c m).length<=m.toNat/\∀ x∈lK L c m,x∈L:=by
 have h0:=Gw c (show m≠0 by omega);have h1:=Gx c hm;have hl:=mQ L c m (1+c % m).toNat;refine⟨?_,?_,sA L hL c m _⟩
 . show 0 < (ws L c m (1+c % m).toNat).2.length;omega
 . show(ws L c m (1+c % m).toNat).2.length<=_;omega
theorem vh {L:List Nat}(ns:List Int)(h0:0 < L.length)(h6:L.length<=6)(nd:L.Nodup)(sm:∀ x∈L,small x):bR (rowsOf L ns 8):=by
 have hl:(rowsOf L ns 8).length=L.length:=by unfold rowsOf;rw[Bn,GS]
 have get:∀ r∈rowsOf L ns 8,∃ k,k < L.length/\r=rowAt L ns 8 k:=fun r hr=>by
   obtain⟨k,hk,e⟩:=GN.mp hr;exact⟨k,List.mem_range.mp hk,e.symm⟩
 refine⟨by omega,by omega,by rw[sC];exact nd,fun r hr=>?_,fun r hr=>?_,fun r hr=>?_,fun r hr x hx=>?_⟩
 . obtain⟨k,hk,rfl⟩:=get r hr
   refine sm _ ?_;show L.getD k 0∈L;rw[F2,AV hk];exact Gz hk
 . obtain⟨k,hk,rfl⟩:=get r hr
   exact vg _
 . obtain⟨k,hk,rfl⟩:=get r hr
   have:=nW h0 (cellAt ns k / 5) 8 (by decide);exact⟨this.1,this.2.1⟩
 . obtain⟨k,hk,rfl⟩:=get r hr
   rw[sC];exact(nW h0 (cellAt ns k / 5) 8 (by decide)).2.2 x hx
def yu:Rl:=fun ds r=>∃ (L:List Nat) (ns:List Int),ds=[.str (tx L),.fT ns,.int 8]/\(0 < L.length/\L.length<=6)/\r=.own (.lst ((rowsOf L ns 8).map cV))
noncomputable def nX (ns:List Int):Bool:=decide (cellAt ns 0 % 2=1)
theorem yv (ns:List Int):4+2 * (cellAt ns 0 % 2)=wy (nX ns):=by
 have:cellAt ns 0 % 2=0\/cellAt ns 0 % 2=1:=by omega
 unfold nX;rcases this with h | h <;> rw[h] <;> rfl
noncomputable def vi (ns:List Int):List Nat:=lets (cellAt ns 1)
noncomputable def yw (ns:List Int)(k:Nat):List Row:=rowsOf (vi ns) (ns.drop k) 8
theorem Ay (ns:List Int)(k:Nat):bR (yw ns k):=let h:=kg (cellAt ns 1);vh (ns.drop k) h.1 h.2.1 h.2.2.1 h.2.2.2
def yx:Rl:=fun ds r=>∃ ns:List Int,ds=[.fT ns]/\ns.length<=63/\r=.ret (.tup [.int (wy (nX ns)),.str (tx (vi ns)),.lst ((yw ns 4).map cV)])
theorem vj (T:Txt K mg t):GF P w K mg base CX 2 "_law_rows" 3 yu:=by
 refine⟨_,_,_,kP T.fK.F nJ rfl fun aR A outer s H E G ds r hr hl hR=>?_,(T.g T.fK.a),T.fK.F.kp,T.fK.b⟩;obtain⟨L,ns,rfl,⟨yt,CH⟩,rfl⟩:=hR;have nd:=nJ.nd;let S:Nat->List Slot:=fun k=>[.val (.str (tx L)),.val (.fT ns),.val (.int 8),.own (.lst (((GG k).map (rowAt L ns 8)).map cV)),.bX,.bX,.bX]
 refine⟨_,.ro _,ag (nz 3 nd (xy ak AA3)) (ag (dA (o:=.nx (S L.length)) (m:=L.length) 4 S nd rfl PassesOwn.leaving T.dF (ae (cJ T.bV (aa 0 rfl) (by omega)) ak) ⟨by omega,by omega⟩ (Le.of ⟨rfl,rfl,rfl,rfl,trivial⟩) (by omega) (fun k hk=>?_) (by rw[G2];exact .all rfl))
   (ay (uo 3)))⟩
 have h0:=Gw (cellAt ns k) (show(5:Int)≠0 by decide);have h1:=Gx (cellAt ns k) (show(0:Int) < 5 by decide);have FC:=fP ns k;have e:((GG (k+1)).map (rowAt L ns 8)).map cV=((GG k).map (rowAt L ns 8)).map cV ++ [cV (rowAt L ns 8 k)]:=by
   rw[List.range_succ,GY,GY];rfl
 refine .nx (ag (aq 5 nd (bF (kf T) bY hr (ae (aa 1 rfl) (ae (aa 4 rfl) ak)) ⟨ns,k,rfl,by omega,rfl⟩))
   (ag (aq 6 nd (d:=.str (A6 (cellAt ns k))) (qD (md (ae a9 (ae a9 (ae a9 (ae a9 (ae a9 ak))))) AA3) (bw (aa 5 rfl) ai (by decide)) (at_getD (L:=eY) (n:=5) rfl h0 h1)))
   (ay (oT (ds:=((GG k).map (rowAt L ns 8)).map cV) 3 (d:=cV (rowAt L ns 8 k)) (fu (ae (gD (aa 0 rfl) (aa 4 rfl) hk (by omega)) (ae (aa 6 rfl) (ae (bF (vf T) bY hr (ae (bT (aa 5 rfl) ai ⟨by decide,by decide +kernel⟩) (ae (aa 0 rfl) (ae (aa 2 rfl) ak))) ⟨L,cellAt ns k / 5,8,rfl,⟨yt,by omega⟩,⟨Int.ediv_nonneg FC (by decide),by decide,by decide⟩,rfl⟩) ak))) AA3) (by rw[Bn,Bn,GS];exact F1 (show k < 2000 by omega) (by decide)))))) (Le.of ⟨rfl,rfl,rfl,?_,trivial⟩)
 show Slot.own (.lst (((GG (k+1)).map (rowAt L ns 8)).map cV))=_;rw[e]
theorem vk (T:Txt K mg t):GF P w K mg base CX 3 "_law_kept" 1 yx:=by
 refine⟨_,_,_,kP T.fL.F nK rfl fun aR A outer s H E G ds r hr hl hR=>?_,(T.g T.fL.a),T.fL.F.kp,T.fL.b⟩;obtain⟨ns,rfl,hlen,rfl⟩:=hR;have nd:=nK.nd;have h:=kg (cellAt ns 1);exact⟨_,.rt _,ag (aq 1 nd (aX (cO ai (d5 ai (bw (bF (kf T) bY hr (ae (aa 0 rfl) (ae ai ak)) ⟨ns,0,rfl,by decide,rfl⟩) ai (by decide)) (kz.ok (GL ⟨by decide,by decide⟩)))) (congrArg Dt.int (yv ns))))
   (ag (aq 2 nd (bF (mR T) bY hr (ae (bF (kf T) bY hr (ae (aa 0 rfl) (ae ai ak)) ⟨ns,1,rfl,by decide,rfl⟩) ak) ⟨_,rfl,fP _ _,rfl⟩))
   (ag (aq 3 nd (kU (zV (vj T) bY hr (ae (aa 2 rfl) (ae (sh (k:=4) (aa 0 rfl) ai) (ae ai ak))) ⟨vi ns,ns.drop 4,rfl,⟨h.1,h.2.1⟩,rfl⟩)))
   (ay (bp (fu (ae (aa 1 rfl) (ae (aa 2 rfl) (ae (aa 3 rfl) ak))) AA3)))))⟩
theorem yT {n:Nat}(h:n<=100000):n<=sizeLine:=Ge h (by decide)
theorem lL (L:List Nat):∀ (n:Nat) (a:List Nat),(Ga n L.toArray).foldl (· ++ ·) a.toArray=(a ++ (Ga n L).flatten).toArray
 | 0,a=>by simp
 | n+1,a=>by
   rw[Hr,List.foldl_cons,Hr,G3,<- List.append_assoc];have e:a.toArray ++ L.toArray=(a ++ L).toArray:=by simp
   rw[e,lL L n]
theorem sD (L:List Nat)(n:Nat):Txt.mul (tx L) (n:Int)=tx (Ga n L).flatten:=by
 unfold Txt.mul;by_cases h0:(n:Int) < 1
 . rw[if_pos h0]
   have:n=0:=by omega
   subst this;rfl
 . rw[if_neg h0]
   by_cases h1:(((n:Int) == 1) || ((tx L).length == 0))=true
   . rw[if_pos h1]
     rcases Bool.or_eq_true_iff.mp h1 with h | h
     . have:n=1:=by have:=beq_iff_eq.mp h;omega
       subst this;simp
     . have:L=[]:=by
         have h:=beq_iff_eq.mp h;rw[aO] at h;exact List.eq_nil_of_length_eq_zero h
       subst this;have:(Ga n ([]:List Nat)).flatten=[]:=by
         induction n with
         | zero=>rfl
         | succ n ih=>simp
       rw[this]
   . rw[if_neg h1,G2]
     have:=lL L n [];show(⟨(Ga n L.toArray).foldl (· ++ ·) (#[]:Array Nat)⟩:Str)=_;have e:(#[]:Array Nat)=([]:List Nat).toArray:=rfl;rw[e,this];rfl
theorem sE {L:List Nat}{n:Nat}(h:L.length * n<=100000)(hn:n<=1000)(hl:L.length<=100000):MulOk (tx L) (n:Int):=by
 refine⟨?_,fun h1 h2=>?_,fun h1 h2=>?_⟩
 . have a:¬ ((n:Int) < -(2 ^ 63:Int)):=by omega
   have b:¬ ((n:Int) >= 2 ^ 63):=by omega
   rw[decide_eq_false a,decide_eq_false b];rfl
 . rw[aO]
   have h3:(1000000:Int)<=(2 ^ 63 - 1) / (n:Int):=(Int.le_ediv_iff_mul_le (by omega)).mpr (by omega);omega
 . rw[aO,G2]
   unfold PySem.Builtin.Str.tooLong;have:=yT h;exact decide_eq_false (by omega)
theorem sF (n:Nat)(L:List Nat):(Ga n L).flatten.length=n * L.length:=by
 induction n with
 | zero=>simp
 | succ n ih=>rw[Hr,G3,Gn,ih,Nat.succ_mul,Nat.add_comm]
section
variable {X:Cx}{G:Gr}{dl:List Slot}{a b:Expr}{L:List Nat}{n:Nat}{pos:Pos}
theorem e5 (ha:EE X G dl a (.str (tx L)))(hb:EE X G dl b (.int (n:Nat)))(h:L.length * n<=100000)(hn:n<=1000)(hl:L.length<=100000):EE X G dl (.BinOp a .Mult b pos) (.str (tx (Ga n L).flatten)):=
 aX (nG ha hb (sE h hn hl) (by rw[sD,aO,sF];exact yT (by rw[Nat.mul_comm];exact h))) (by rw[sD])
end
noncomputable def grow (rows:List Row)(w:List Nat):List Nat:=(w.map (wordOf rows)).flatten
theorem e6 {rows:List Row}(ok:bR rows):∀ {w:List Nat},(∀ x∈w,x∈rows.map (·.c))->(grow rows w).length<=8 * w.length
 | [],_=>GO _
 | x::w,h=>by
   have ih:=e6 ok (w:=w) fun y hy=>h y (Gg _ hy)
   obtain⟨q,hq,_,_,ew⟩:=iq (h x (Gj ..));have:=ok.wp q hq;show((wordOf rows x::w.map (wordOf rows)).flatten).length<=_;rw[G3,Gn,ew,GH];have e:(w.map (wordOf rows)).flatten.length<=8 * w.length:=ih;omega
theorem pI (rows:List Row)(w:List Nat){k:Nat}(h:k < w.length):grow rows (w.take (k+1))=grow rows (w.take k) ++ wordOf rows w[k]:=by
 unfold grow;rw[He,AV h,GY,List.flatten_append];simp
def CI (t:lN):Rl:=fun ds r=>∃ z:Int,ds=[.int z]/\((z<=400/\r=.ret .a7)\/(400 < z/\r=.exc (.ref t.av) []))
def yA (t:lN):Rl:=fun ds r=>∃ six rows w,ds=[t.uX six rows,.str (tx w)]/\bR rows/\(∀ x∈w,x∈rows.map (·.c))/\w.length<=1000/\(((grow rows w).length<=400/\r=.ret (.str (tx (grow rows w))))\/(400 < (grow rows w).length/\r=.exc (.ref t.av) []))
noncomputable abbrev CJ:Expr->Scope
 | .Call _ (.ListComp _ _ sc _::_) _ _=>sc
 | _=>af (.Pass ⟨0,0,0,0⟩)
noncomputable def yB:Stmt->Scope
 | .Assign _ e _=>CJ e
 | _=>af (.Pass ⟨0,0,0,0⟩)
noncomputable abbrev vm:Scope:=yB ((aH hB).getD 0 (.Pass ⟨0,0,0,0⟩))
theorem gE:i0 vm (af hB) rL ["letter","rules"] ["letter"] [0]=true:=by decide +kernel
theorem mS (w:List Nat):w.map (fun x=>Dt.str (sg x))=Sg.signs (tx w):=by rw[lH,GA];rfl
theorem mT {rows:List Row}(ok:bR rows){w:List Nat}(h:∀ x∈w,x∈rows.map (·.c)):dk (tx w)=true:=lI fun x hx=>by
 obtain⟨r,hr,rfl⟩:=GN.mp (h x hx);have:=ok.sm r hr;unfold small at this;omega
noncomputable def cY (rows:List Row):List (Key×Dt):=rows.map fun r=>(.inr (sg r.c),.str (tx r.w))
theorem sG:∀ {rows:List Row} {x:Nat},x∈rows.map (·.c)->cB (cY rows) (.inr (sg x))=some (.str (tx (wordOf rows x)))
 | [],x,h=>by cases h
 | q::rows,x,h=>by
   by_cases e:q.c=x
   . subst e
     show cB ((.inr (sg q.c),.str (tx q.w))::cY rows) _=_;rw[eP (p:=(.inr (sg q.c),.str (tx q.w))) rfl];unfold wordOf;rw[GD,decide_eq_true rfl];rfl
   . have ne:¬ (Sum.inr (sg q.c):Key)=.inr (sg x):=fun z=>e (il (Sum.inr.inj z))
     show cB ((.inr (sg q.c),.str (tx q.w))::cY rows) _=_;rw[dm (p:=(.inr (sg q.c),.str (tx q.w))) ne];have hx:x∈rows.map (·.c):=by
       rcases Gy.mp h with z | z
       . exact absurd z.symm e
       . exact z
     rw[sG hx];unfold wordOf;rw[GD,decide_eq_false e]
theorem Az {rows:List Row}(nd:(rows.map (·.c)).Nodup){j:Nat}(hj:j < rows.length):i5 (cY (rows.take j)) (.inr (sg rows[j].c)) (.str (tx rows[j].w))=cY (rows.take (j+1)):=by
 have hn:cB (cY (rows.take j)) (.inr (sg rows[j].c))=none:=by
   refine fB fun kv Ce=>?_
   obtain⟨r,hr,rfl⟩:=GN.mp Ce;intro z;have z:r.c=rows[j].c:=il (Sum.inr.inj z);obtain⟨i,hi,e⟩:=GU.mp hr;rw[Gv] at hi;rw[Hg] at e;have h:=GQ.mp nd i j (by rw[Bn];omega) (by rw[Bn];exact hj) (by omega);rw[GP,GP] at h;exact h (by rw[e];exact z)
 unfold i5;rw[hn,if_neg (by simp)];unfold cY;rw[He,AV hj,GY];rfl
theorem dH {X:Cx}{G:Gr}{dl:List Slot}{a b:Expr}{L M:List Nat}{pos:Pos}(ha:EE X G dl a (.str (tx L)))(hb:EE X G dl b (.str (tx M)))(h:L.length+M.length<=100000):EE X G dl (.BinOp a .Add b pos) (.str (tx (L ++ M))):=
 aX (qB ha hb (by rw[aO,aO];exact yT h)) (by rw[sf])
theorem gF {X:Cx}{G:Gr}{dl:List Slot}{a:Expr}{L:List Nat}{pos p:Pos}(hm:X.mg "len"=none)(ha:EE X G dl a (.str (tx L)))(hl:L.length<=100000)(hg:autoParam (Gl X "len") jp)(he:autoParam (starEach [a] X.env=[(false,eval a X.env)]) jp):EE X G dl (.Call (.Name "len" p) [a] [] pos) (.int (L.length:Nat)):=
 aX (gx hm ha (by rw[aO];exact yT hl) hg he) (by rw[aO])
theorem sH {X:Cx}{G:Gr}{dl:List Slot}{a:Expr}{jk:Nat}{pos pc:Pos}(ha:EE X G dl a .a7):EE X G dl (.Compare a [.Is] [.Constant .none jk pc] pos) (.bl true):=
 cu (wc (wb ha)) fun st H Q zq=>zn zq fun Hf S k=>fun v ar H1 g1 r1=>by cases r1;exact k _ ar H1 g1 (.bl _)
def sI:Rl:=fun ds r=>∃ rows w,ds=[.lst (rows.map cV),.str (tx w)]/\bR rows/\(∀ x∈w,x∈rows.map (·.c))/\w.length<=1000/\r=.ret (.str (tx (grow rows w)))
def yC (t:lN):Rl:=fun ds r=>∃ six rows w,ds=[t.uX six rows,.lst (rows.map cV),.str (tx w)]/\bR rows/\(∀ x∈w,x∈rows.map (·.c))/\w.length<=1000/\r=.ret (.bl true)
theorem AA (T:Txt K mg t):GF P w K mg base (oR P w) 1 "check_written" 1 (CI t):=by
 refine⟨_,_,_,kP T.aP.F fE rfl fun aR A outer s H E G ds r hr hl hR=>?_,(T.g T.aP.a),T.aP.F.kp,T.aP.b⟩;obtain⟨z,rfl,h⟩:=hR;rcases h with⟨h,rfl⟩ | ⟨h,rfl⟩
 . exact⟨_,.nx _,ay (cv (u:=false) (fV (kQ (aa 0 rfl) (eI (w:=.int 400) T.dt ⟨_,rfl⟩ fun _=>.int 400)) (decide_eq_false (by omega))) (fun h=>nomatch h) (fun h=>cA))⟩
 . exact⟨_,.ex _ _,ay (cv (u:=true) (fV (kQ (aa 0 rfl) (eI (w:=.int 400) T.dt ⟨_,rfl⟩ fun _=>.int 400)) (decide_eq_true h)) (fun h=>ay (qR uk T.mJ T.i7 rfl (ae a9 ak) AA3)) (fun h=>nomatch h))⟩
theorem vn (T:Txt K mg t):GF P w K mg base (oR P w) 3 "once" 2 (yA t):=by
 refine⟨_,_,_,kP T.fG.F nH rfl fun aR A outer s H E G ds r hr hl hR=>?_,(T.g T.fG.a),T.fG.F.kp,T.fG.b⟩;obtain⟨six,rows,wd,rfl,ok,hw,hn,h⟩:=hR;have nd:=nH.nd;have FE:=e6 ok hw;have e2:((wd.filter fun _=>true).map fun x=>Dt.str (tx (wordOf rows x)))=((wd.map (wordOf rows)).map tx).map Dt.str:=by
   rw[Hq.mpr (fun _ _=>rfl),GA,GA];rfl
 rcases h with⟨hle,rfl⟩ | ⟨C4,rfl⟩
 . refine⟨_,.rt _,ag (aq 2 nd (d:=.str (tx (grow rows wd))) (jb (Ls:=wd.map (wordOf rows)) a9 (mO e2 (mv wd (fun x=>Dt.str (sg x)) (fun x=>.str (tx (wordOf rows x))) (fun x=>[.val (.str (sg x))]) (fun _=>true) rfl (dR gE) (jI (aa 1 rfl)) (dj (dR gE) rfl) (eZ (eO (mT ok hw)) (mS wd)) (fun a _=>eM) (.nil fun _ _=>rfl)
     (fun a ha _ C fp s' H' G'=>qM (fs:=t.Av six rows) (aa 1 rfl) (sk T) bY hr (ae (aa 0 rfl) ak) ⟨six,rows,a,rfl,ok,hw a ha,rfl⟩) (r6 (by omega)))) (by rw[Bn];show(grow rows wd).length+_<=_;omega)))
     (ag (nr (bF (AA T) zM hr (ae (gF T.bV (aa 2 rfl) (by omega)) ak) ⟨_,rfl,.inl ⟨by omega,rfl⟩⟩)) (ay (bp (aa 2 rfl))))⟩
 . refine⟨_,.ex _ _,ag (aq 2 nd (d:=.str (tx (grow rows wd))) (jb (Ls:=wd.map (wordOf rows)) a9 (mO e2 (mv wd (fun x=>Dt.str (sg x)) (fun x=>.str (tx (wordOf rows x))) (fun x=>[.val (.str (sg x))]) (fun _=>true) rfl (dR gE) (jI (aa 1 rfl)) (dj (dR gE) rfl) (eZ (eO (mT ok hw)) (mS wd)) (fun a _=>eM) (.nil fun _ _=>rfl)
     (fun a ha _ C fp s' H' G'=>qM (fs:=t.Av six rows) (aa 1 rfl) (sk T) bY hr (ae (aa 0 rfl) ak) ⟨six,rows,a,rfl,ok,hw a ha,rfl⟩) (r6 (by omega)))) (by rw[Bn];show(grow rows wd).length+_<=_;omega)))
     (gw (uB (AA T) ug hr (ae (gF T.bV (aa 2 rfl) (by omega)) ak) ⟨_,rfl,.inr ⟨by omega,rfl⟩⟩))⟩
theorem pJ (T:Txt K mg t):GF P w K mg base CX 1 "_law_grown" 2 sI:=by
 refine⟨_,_,_,kP T.dE.F lp rfl fun aR A outer s H E G ds r hr hl hR=>?_,(T.g T.dE.a),T.dE.F.kp,T.dE.b⟩;obtain⟨rows,wd,rfl,ok,hw,hn,rfl⟩:=hR;have nd:=lp.nd;have h6:=ok.le;have hu:(A.deeper (envOfC "_law_grown" (af gz) s.heap.objs.size t.eV aR)).units+1 < cLine:=by have:=hr.units;omega
 let S:Nat->List Slot:=fun k=>[.val (.lst (rows.map cV)),.val (.str (tx wd)),.own (.bW (cY (rows.take k))),.bX,.bX,.bX,.bX,.bX]
 let U:Nat->List Slot:=fun k=>[.val (.lst (rows.map cV)),.val (.str (tx wd)),.val (.bW (cY rows)),.bX,.bX,.bX,.val (.str (tx (grow rows (wd.take k)))),.bX]
 refine⟨_,.rt _,ag (nz 2 nd uI) (ag (eN (o:=.nx (S rows.length)) (m:=rows.length) rows cV (fun r dl=>((dl.set 3 (.val (.str (sg r.c)))).set 4 (.val (.str r.d))).set 5 (.val (.str (tx r.w)))) S rfl PassesOwn.leaving (gk (aa 0 rfl)) fA (lS rfl (bU (bc nd rfl (.inl rfl)) (bU (bc nd rfl (.inl rfl)) (bU (bc nd rfl (.inl rfl)) jg)))) (fun a _=>xS) (Le.of ⟨rfl,rfl,rfl,trivial⟩) (DU _) (fun k a hk ha=>?_) (.all rfl)) ?rest)⟩
 . rw[AV hk] at ha
   cases ha;have Cm:(cY (rows.take k)).length < sizeLine:=by
     unfold cY;rw[Bn,Gv];exact F1 (show min k rows.length < 2000 by omega) (by decide)
   refine .nx (ay (uJ (kds:=cY (rows.take k)) 2 hu (aa 5 rfl) (aa 3 rfl) Cm)) (Le.of ⟨rfl,rfl,?_,trivial⟩);show Slot.own (.bW (cY (rows.take (k+1))))=Slot.own (.bW (i5 (cY (rows.take k)) (.inr (sg rows[k].c)) (.str (tx rows[k].w))));rw[Az ok.nd hk]
 case rest=>
   have eS:S rows.length=[.val (.lst (rows.map cV)),.val (.str (tx wd)),.own (.bW (cY rows)),.bX,.bX,.bX,.bX,.bX]:=by
     show [_,_,Slot.own (.bW (cY (rows.take rows.length))),_,_,_,_,_]=_;rw[G5]
   rw[eS];refine ml 2 (w:=.bW (cY rows)) (ag (aq 6 nd a9) (ag (eN (o:=.nx (U wd.length)) (m:=wd.length) wd (fun x=>Dt.str (sg x)) (fun x dl=>dl.set 7 (.val (.str (sg x)))) U rfl PassesOwn.leaving (jI (aa 1 rfl)) (eZ (eO (mT ok hw)) (mS wd)) (bc nd rfl (.inl rfl)) (fun a _=>jG) (Le.of ⟨rfl,rfl,rfl,rfl,trivial⟩) (DU _) (fun k a hk ha=>?_) (.all rfl)) ?r2))
   . rw[AV hk] at ha
     cases ha;have hm:wd[k]∈wd:=Gz hk;have hg:=e6 ok (w:=wd.take k) fun x hx=>hw x (Hk hx)
     rw[Gv] at hg;obtain⟨q,hq,_,_,ew⟩:=iq (hw _ hm);have F9:=ok.wp q hq;refine .nx (ay (aq 6 nd (dH (aa 6 rfl) (nF hu (aa 2 rfl) (aa 7 rfl) (sG (hw _ hm)) (fun _ _=>rfl)) (by rw[ew];omega)))) (Le.of ⟨rfl,rfl,rfl,?_,trivial⟩);show Slot.val (.str (tx (grow rows (wd.take (k+1)))))=_;rw[pI rows wd hk]
   case r2=>
     have eU:U wd.length=[.val (.lst (rows.map cV)),.val (.str (tx wd)),.val (.bW (cY rows)),.bX,.bX,.bX,.val (.str (tx (grow rows wd))),.bX]:=by
       show [_,_,_,_,_,_,Slot.val (.str (tx (grow rows (wd.take wd.length)))),_]=_;rw[G5]
     rw[eU];exact ay (bp (aa 6 rfl))
theorem nY (T:Txt K mg t):GF P w K mg base CX 4 "_law_fits" 3 (yC t):=by
 refine⟨_,_,_,kP T.fN.F nM rfl fun aR A outer s H E G ds r hr hl hR=>?_,(T.g T.fN.a),T.fN.F.kp,T.fN.b⟩;obtain⟨six,rows,wd,rfl,ok,hw,hn,rfl⟩:=hR;have nd:=nM.nd;have FE:=e6 ok hw;have es:∀ z:Str,(decide (z=z))=true:=fun z=>by simp
 by_cases hle:(grow rows wd).length<=400
 . exact⟨_,.rt _,ag (aq 3 nd jv) (ag (aq 4 nd jv) (ag (rC (dl1:=[.val (t.uX six rows),.val (.lst (rows.map cV)),.val (.str (tx wd)),.val .a7,.val (.str (tx (grow rows wd))),.bX,.bX]) fun pn xe=>ay (aq 4 nd (bF (vn T) zM hr (ae (aa 0 rfl) (ae (aa 2 rfl) ak)) ⟨six,rows,wd,rfl,ok,hw,hn,.inl ⟨hle,rfl⟩⟩)))
     (ag (aq 6 nd (bF (pJ T) bY hr (ae (aa 1 rfl) (ae (aa 2 rfl) ak)) ⟨rows,wd,rfl,ok,hw,hn,rfl⟩))
     (ag (cv (u:=false) (fV (kQ (gF T.bV (aa 6 rfl) (by omega)) ai) (decide_eq_false (by omega))) (fun h=>nomatch h) (fun h=>cA))
     (ay (bp (ft (u:=true) (v:=true) (sH (aa 3 rfl)) fun _=>(ft (u:=true) (v:=true) (me T.bO (aa 4 rfl) (zJ T.rQ Sg.boot_str) rfl trivial rfl) fun _=>(eE (aX (xv (aa 4 rfl) (aa 6 rfl)) (congrArg Dt.bl (es _))))))))))))⟩
 . exact⟨_,.rt _,ag (aq 3 nd jv) (ag (aq 4 nd jv) (ag (uN (C:=t.av) (dlb:=[.val (t.uX six rows),.val (.lst (rows.map cV)),.val (.str (tx wd)),.val .a7,.val .a7,.bX,.bX]) 5 rfl rfl nd T.j7 T.lr T.j8.be T.su rfl (Le.refl _) (vn T) hr
       (fun pn xe G1=>ae (aa 0 rfl) (ae (aa 2 rfl) ak)) ⟨six,rows,wd,rfl,ok,hw,hn,.inr ⟨by omega,rfl⟩⟩ (fun ea xe G1=>ay (aq 3 nd (aa 5 rfl))))
     (ag (aq 6 nd (bF (pJ T) bY hr (ae (aa 1 rfl) (ae (aa 2 rfl) ak)) ⟨rows,wd,rfl,ok,hw,hn,rfl⟩))
     (gw (cv (u:=true) (fV (kQ (gF T.bV (aa 6 rfl) (by omega)) ai) (decide_eq_true (by omega))) (fun h=>ay (bp (ft (u:=true) (v:=true) (me T.bO (aa 3 rfl) (qI T.i7) rfl T.ia qV) fun _=>(eE (xj (u:=false) (me T.bO (aa 3 rfl) (qI T.rO) rfl T.ia T.i2)))))) (fun h=>nomatch h))))))⟩
theorem vo:∀ c,c < 26->Txt.replace (tx nV) (sg (97+c)) ""=tx (nV.filter (· != 97+c)):=by decide +kernel
theorem vp:∀ c,c < 26->(nV.filter (· != 97+c)).length=25:=by decide +kernel
theorem n0 {c:Nat}(h:small c):Txt.replace (tx nV) (sg c) ""=tx (nV.filter (· != c))/\(nV.filter (· != c)).length=25:=by
 have e:c=97+(c - 97):=by have:=h.1;omega
 have l:c - 97 < 26:=by have:=h.2;have:=h.1;omega
 rw[e];exact⟨vo _ l,vp _ l⟩
theorem pK {c:Nat}(h:small c)(k:Nat):∃ d,(nV.filter (· != c))[k % 25]?=some d/\small d/\d≠c:=by
 have l:=(n0 h).2;have hk:k % 25 < (nV.filter (· != c)).length:=by rw[l];exact Nat.mod_lt _ (by decide)
 refine⟨_,AV hk,?_⟩;have m:=Gz hk;obtain⟨m1,m2⟩:=List.mem_filter.mp m;exact⟨(show ∀ x∈nV,small x from by unfold small;decide) _ m1,by simpa using m2⟩
noncomputable def dX (a b:Nat):List Row:=[⟨a,"stroke",[a]⟩,⟨b,"left",[a,b]⟩]
theorem sM {a b:Nat}(ha:small a)(hb:small b)(ne:a≠b):bR (dX a b):=by
 have m:∀ r∈dX a b,r=⟨a,"stroke",[a]⟩\/r=⟨b,"left",[a,b]⟩:=fun r hr=>by simpa [dX] using hr
 refine⟨show 0 < 2 by decide,show 2<=6 by decide,?_,fun r hr=>?_,fun r hr=>?_,fun r hr=>?_,fun r hr x hx=>?_⟩
 . show [a,b].Nodup
   simp[ne]
 . rcases m r hr with rfl | rfl
   . exact ha
   . exact hb
 . rcases m r hr with rfl | rfl
   . show("stroke":Str)∈eY;exact Gj ..
   . show("left":Str)∈eY;unfold eY;simp
 . rcases m r hr with rfl | rfl
   . exact⟨show 0 < 1 by decide,show 1<=8 by decide⟩
   . exact⟨show 0 < 2 by decide,show 2<=8 by decide⟩
 . show x∈[a,b]
   rcases m r hr with rfl | rfl
   . have e:x=a:=by simpa using hx
     rw[e];exact Gj ..
   . exact hx
theorem cU (a n:Nat):(Ga n [a]).flatten.length=n:=by simp
theorem mU {a n x:Nat}(h:x∈(Ga n [a]).flatten):x=a:=by
 obtain⟨l,h1,h2⟩:=List.mem_flatten.mp h;rw[List.eq_of_mem_replicate h1] at h2;simpa using h2
noncomputable def vq (a b p q:Nat):List Nat:=(Ga p [a]).flatten ++ [b] ++ (Ga q [a]).flatten
theorem sN {a b p q:Nat}(h:p+q<=400):(vq a b p q).length<=1000/\∀ x∈vq a b p q,x∈[a,b]:=by
 unfold vq;refine⟨by rw[Gn,Gn,cU,cU];show p+1+q<=1000;omega,fun x hx=>?_⟩;rcases GC.mp hx with hx | hx
 . rcases GC.mp hx with hx | hx
   . rw[mU hx];exact Gj ..
   . exact Gg _ hx
 . rw[mU hx];exact Gj ..
theorem sO {L:List Nat}{k:Int}{n d:Nat}(e:k=(n:Nat))(h:L[n]?=some d):fm (tx L).cps.toList k=some d:=by
 subst e;have hn:n < L.length:=(F6.mp h).1;rw[vT L hn,F2,h];rfl
theorem AD (c:Nat):(sg c == ("":Str))=false:=by
 refine beq_eq_false_iff_ne.mpr fun e=>?_
 have:=congrArg Str.length e;exact absurd this (show(1:Nat)≠0 by decide)
theorem n4 {X:Cx}{G:Gr}{dl:List Slot}{x y:Expr}{c:Nat}{i:Int}{pos:Pos}(ha:EE X G dl x (.str (sg c)))(hb:EE X G dl y (.int i))(h0:-400<=i)(h1:i<=400):EE X G dl (.BinOp x .Mult y pos) (.str (tx (Ga i.toNat [c]).flatten)):=by
 by_cases h:0<=i
 . exact e5 (n:=i.toNat) (L:=[c]) ha (aX hb (congrArg Dt.int (by omega))) (show 1 * i.toNat<=_ by omega) (by omega) (show 1<=_ by decide)
 . have e:i.toNat=0:=by omega
   have m:Txt.mul (sg c) i=Str.empty:=by unfold Txt.mul;rw[if_pos (by omega)]
   have mo:MulOk (sg c) i:=⟨by rw[decide_eq_false (show ¬ i < -(2 ^ 63:Int) by omega),decide_eq_false (show ¬ i >= 2 ^ 63 by omega)];rfl,fun z=>absurd (show i < 1 by omega) z,fun z=>absurd (show i < 1 by omega) z⟩
   exact aX (nG ha hb mo (by rw[m];decide)) (by rw[m,e];rfl)
def yD:Rl:=fun ds r=>∃ (c:Nat) (k:Int),ds=[.str (sg c),.int k]/\small c/\0<=k/\r=.ret (.bl true)
theorem vt (T:Txt K mg t):DI P w K mg base CX 6 "_law_edge" 2 yD:=by
 refine⟨_,_,_,Cy T.fO.F nO rfl rfl rfl fun aR A outer s H E G ds r hr hl hR=>?_,(T.g T.fO.a),T.fO.F.kp,T.fO.b⟩;obtain⟨a,k,rfl,sa,hk,rfl⟩:=hR;have nd:=nO.nd;obtain⟨er,el⟩:=n0 sa;obtain⟨b,hb,sb,ne⟩:=pK sa k.toNat;have ok:=sM sa sb ne.symm;have ek:k % 25=((k.toNat % 25:Nat):Int):=by omega
 refine⟨sg a,_,.rt (.bl true),rfl,.rt _,?_⟩;refine o6 (i:=2) (c:=b) (kk:=k % 25) (alph:=tx nV) ?hx ?ha rfl (bw (aa 1 rfl) ai (by decide)) ?hix nd rfl rfl ?hlen ?hc ?_
 case hx=>exact AD a
 case ha=>decide
 case hix=>intro _ _;rfl
 case hlen=>rw[er];show(nV.filter (· != a)).length<=_;rw[el];decide
 case hc=>rw[er];exact sO ek hb
 have FF:∃ p:Nat,k / 25 % 400=((p:Nat):Int)/\p < 400:=⟨(k / 25 % 400).toNat,by omega,by omega⟩
 obtain⟨p,ep,hp⟩:=FF;let as:List (List Nat):=[(Ga 400 [a]).flatten,vq a b p (398 - p),vq a b p (399 - p)]
 let S:Nat->List Slot:=fun _=>[.val (.str (sg a)),.val (.int k),.val (.str (sg b)),.val (.lst ((dX a b).map cV)),.val (t.uX false (dX a b)),.val (.int ((p:Nat):Int)),.bX]
 refine ag (aq 3 nd (d:=.lst ((dX a b).map cV)) (md (ae (fu (ae (aa 0 rfl) (ae a9 (ae (aa 0 rfl) ak))) AA3) (ae (fu (ae (aa 2 rfl) (ae a9 (ae (dH (L:=[a]) (M:=[b]) (aa 0 rfl) (aa 2 rfl) (show 2<=_ by decide)) ak))) AA3) ak)) AA3)) ?_;refine ag (aq 4 nd (d:=t.uX false (dX a b)) (vO (nB (lJ T) bY hr (ae ai (ae (kU (nA T.ka (aa 3 rfl))) ak)) ⟨false,dX a b,rfl,ok,rfl⟩))) ?_;refine ag (aq 5 nd (d:=.int ((p:Nat):Int)) (aX (bw (bT (aa 1 rfl) ai ⟨by decide,by decide +kernel⟩) ai (by decide)) (congrArg Dt.int ep))) ?_;have aF:∀ q∈as,q.length<=1000/\∀ x∈q,x∈(dX a b).map (·.c):=fun q hq=>by
   have hq:q=(Ga 400 [a]).flatten\/q=vq a b p (398 - p)\/q=vq a b p (399 - p):=by simpa [as] using hq
   rcases hq with rfl | rfl | rfl
   . exact⟨by rw[cU];decide,fun x hx=>by rw[mU hx];exact Gj ..⟩
   . exact sN (by omega)
   . exact sN (by omega)
 refine ag (eN (o:=.nx (S 3)) (m:=3) as (fun q=>Dt.str (tx q)) (fun q dl=>dl.set 6 (.val (.str (tx q)))) S rfl PassesOwn.leaving (pY (fu (ae ?w1 (ae ?w2 (ae ?w3 ak))) AA3)) kZ (bc nd rfl (.inl rfl)) (fun a _=>jG) (Le.of ⟨rfl,rfl,rfl,rfl,rfl,rfl,trivial⟩) (DU _) (fun k q hk ha=>?_) (.all rfl)) (ay (bp zH))
 case w1=>exact e5 (n:=400) (L:=[a]) (aa 0 rfl) ai (show 1 * 400<=_ by decide) (by decide) (show 1<=_ by decide)
 case w2=>exact aX (dH (dH (M:=[b]) (e5 (n:=p) (L:=[a]) (aa 0 rfl) (aa 5 rfl) (show 1 * p<=_ by omega) (by omega) (show 1<=_ by decide)) (aa 2 rfl) (by rw[cU];show p+1<=_;omega)) (n4 (aa 0 rfl) (qz ai (aa 5 rfl)) (by omega) (by omega)) (by rw[Gn,cU,cU];show p+1+_<=_;omega)) (by unfold vq;rw[show((398:Int) - (p:Nat)).toNat=398 - p by omega])
 case w3=>exact aX (dH (dH (M:=[b]) (e5 (n:=p) (L:=[a]) (aa 0 rfl) (aa 5 rfl) (show 1 * p<=_ by omega) (by omega) (show 1<=_ by decide)) (aa 2 rfl) (by rw[cU];show p+1<=_;omega)) (n4 (aa 0 rfl) (qz ai (aa 5 rfl)) (by omega) (by omega)) (by rw[Gn,cU,cU];show p+1+_<=_;omega)) (by unfold vq;rw[show((399:Int) - (p:Nat)).toNat=399 - p by omega])
 obtain⟨h1,h2⟩:=aF q (GR ha);refine .nx (dl':=(S 0).set 6 (.val (.str (tx q)))) ?_ (Le.of ⟨rfl,rfl,rfl,rfl,rfl,rfl,trivial⟩);exact ay (cv (u:=false) (ma (u:=true) (kM (bF (nY T) bY hr (ae (aa 4 rfl) (ae (aa 3 rfl) (ae (aa 6 rfl) ak))) ⟨false,dX a b,q,rfl,ok,h2,h1,rfl⟩))) (fun h=>nomatch h) (fun h=>cA))
noncomputable def lg (L:List Nat)(c:Int):Nat->Int×List Nat
 | 0=>(c / 8 % 1000000007,[])
 | k+1=>let s:=lg L c k;let n:=(s.1 * 48271+11 * (k:Int) * (k:Int)+7) % 1000000007;(n,s.2 ++ [L.getD (n % (L.length:Nat)).toNat 0])
noncomputable def sV (c:Int):Int:=if c % 2=0 then c / 8 % 9 else c / 8 % 401
noncomputable def n5 (L:List Nat)(c:Int):List Nat:=(lg L c (sV c).toNat).2
theorem mW (L:List Nat)(c:Int):∀ k,(lg L c k).2.length=k
 | 0=>rfl
 | k+1=>by show((lg L c k).2 ++ [_]).length=_;rw[Gn,mW L c k];rfl
theorem sP (L:List Nat)(hL:0 < L.length)(c:Int):∀ k,∀ x∈(lg L c k).2,x∈L
 | 0,x,h=>by cases h
 | k+1,x,h=>by
   rcases GC.mp h with h | h
   . exact sP L hL c k x h
   . have h0:=Gw (((lg L c k).1 * 48271+11 * (k:Int) * (k:Int)+7) % 1000000007) (show((L.length:Nat):Int)≠0 by omega)
     have h1:=Gx (((lg L c k).1 * 48271+11 * (k:Int) * (k:Int)+7) % 1000000007) (show(0:Int) < (L.length:Nat) by omega);have cf:((((lg L c k).1 * 48271+11 * (k:Int) * (k:Int)+7) % 1000000007) % (L.length:Nat)).toNat < L.length:=by omega
     have:x=L.getD ((((lg L c k).1 * 48271+11 * (k:Int) * (k:Int)+7) % 1000000007) % (L.length:Nat)).toNat 0:=by simpa using h
     rw[this,F2,AV cf];exact Gz cf
theorem vU (c:Int):0<=sV c/\sV c<=400:=by
 unfold sV
 split <;> omega
theorem vv {L:List Nat}(hL:0 < L.length)(c:Int):(n5 L c).length<=400/\∀ x∈n5 L c,x∈L:=by
 have:=vU c;refine⟨?_,sP L hL c _⟩;show(lg L c (sV c).toNat).2.length<=400;rw[mW];omega
def vw:Rl:=fun ds r=>∃ (c:Int) (L:List Nat),ds=[.int c,.str (tx L)]/\(0 < L.length/\L.length<=6)/\r=.ret (.str (tx (n5 L c)))
theorem sQ (T:Txt K mg t):GF P w K mg base CX 2 "_law_long" 2 vw:=by
 refine⟨_,_,_,kP T.fM.F nL rfl fun aR A outer s H E G ds r hr hl hR=>?_,(T.g T.fM.a),T.fM.F.kp,T.fM.b⟩;obtain⟨c,L,rfl,⟨yt,CH⟩,rfl⟩:=hR;have nd:=nL.nd;have hb:=vU c;have hi:fm [Dt.int (c / 8 % 9),Dt.int (c / 8 % 401)] (c % 2)=some (.int (sV c)):=by
   have h2:c % 2=0\/c % 2=1:=by omega
   rcases h2 with h | h
   . rw[h];unfold sV;rw[if_pos h];rfl
   . rw[h];unfold sV;rw[if_neg (by omega)];rfl
 let S:Nat->List Slot:=fun k=>[.val (.int c),.val (.str (tx L)),.val (.int (lg L c k).1),.val (.str (tx (lg L c k).2)),.bX]
 refine⟨_,.rt _,(ag (aq 2 nd (bw (bT (aa 0 rfl) ai ⟨by decide,by decide +kernel⟩) ai (by decide))) (ag (aq 3 nd a9)
   (ag (dA (o:=.nx (S (sV c).toNat)) (m:=(sV c).toNat) 4 S nd rfl PassesOwn.leaving T.dF (ae (qD (md (ae (bw (bT (aa 0 rfl) ai ⟨by decide,by decide +kernel⟩) ai (by decide)) (ae (bw (bT (aa 0 rfl) ai ⟨by decide,by decide +kernel⟩) ai (by decide)) ak)) AA3) (bw (aa 0 rfl) ai (by decide)) hi) ak) ⟨by omega,by omega⟩ (Le.of ⟨rfl,rfl,rfl,rfl,trivial⟩) (DU _) (fun k hk=>?_) (.all rfl)) (ay (bp (aa 3 rfl))))))⟩
 have sT:=mW L c k;let n:=((lg L c k).1 * 48271+11 * (k:Int) * (k:Int)+7) % 1000000007;have h2:=Gw n (show((L.length:Nat):Int)≠0 by omega);have h3:=Gx n (show(0:Int) < (L.length:Nat) by omega);have ea:n % ((L.length:Nat):Int)=(((n % (L.length:Nat)).toNat:Nat):Int):=by omega
 exact .nx (ag (aq 2 nd (d:=.int n) (bw (cO (cO (d5 (aa 2 rfl) ai (kz.ok (GB ⟨by decide,by decide⟩))) (d5 (d5 ai (aa 4 rfl) (kz.ok (GL ⟨by decide,by decide⟩))) (aa 4 rfl) (Aw (m:=20) (n:=20) (by omega) (by omega) (by decide)))) ai) ai (by decide)))
   (ay (aq 3 nd (gC (aa 3 rfl) (gD (aa 1 rfl) (aX (bw (aa 2 rfl) (cJ T.bV (aa 1 rfl) (by omega)) (by omega)) (congrArg Dt.int ea)) (by omega) (by omega)) (by rw[sT];show k+1<=2000;omega))))) (Le.of ⟨rfl,rfl,rfl,rfl,trivial⟩)
open PySem.Builtin.Str in
theorem pL (L:List Nat)(k:Nat):Txt.slice (tx L) none (some (k:Int))=tx (L.take k):=by
 by_cases h:k<=L.length
 . exact ip L h
 . have e:L.take k=L.take L.length:=by rw[GX (by omega),G5]
   rw[e,<- ip L (DU _)];have hl:(tx L).length=L.length:=aO L;have hi:strSliceIndices none (some ((k:Nat):Int)) 1 (tx L).length=strSliceIndices none (some ((L.length:Nat):Int)) 1 (tx L).length:=by
     rw[hl];unfold strSliceIndices;have e1:(min (k:Int) (L.length:Int))=(L.length:Int):=by omega
     have e2:(min (L.length:Int) (L.length:Int))=(L.length:Int):=by omega
     have e3:¬ ((k:Nat):Int) < 0:=by omega
     have e4:¬ ((L.length:Nat):Int) < 0:=by omega
     simp[e1,e2,e3,e4]
   unfold Txt.slice;rw[hi]
theorem yE (T:Txt K mg t):cz P w K mg base CX 9 t.eW t.hX ["_law_script"] (sq K):=by
 refine kP T.lx.F rN rfl fun aR A outer s H E G ds r hr hl hR=>?_
 obtain⟨ns,hlen,rfl,rfl⟩:=hR;have nd:=rN.nd;let six:=nX ns;let L:=vi ns;have hL:=kg (cellAt ns 1);have yt:0 < L.length:=hL.1;have CH:L.length<=6:=hL.2.1;let rows:=yw ns 4;have ok:bR rows:=Ay ns 4;have ec:rows.map (·.c)=L:=sC _ _ _;let wd:=n5 L (cellAt ns 2);obtain⟨sT,A7⟩:=vv yt (cellAt ns 2);have sT:wd.length<=400:=sT;have A7:∀ x∈wd,x∈L:=A7;let as:List (List Nat):=[wd,[],wd.take 50,wd]
 have has:∀ a∈as,a.length<=1000/\∀ x∈a,x∈rows.map (·.c):=fun a ha=>by
   have ha:a=wd\/a=[]\/a=wd.take 50:=by simpa [as,or_comm,or_assoc,or_left_comm] using ha
   rw[ec];rcases ha with rfl | rfl | rfl
   . exact⟨by omega,A7⟩
   . exact⟨GO _,fun x h=>by cases h⟩
   . exact⟨by rw[Gv];omega,fun x h=>A7 x (Hk h)⟩
 obtain⟨c,hc⟩:∃ c,L[0]?=some c:=⟨_,AV yt⟩
 have sc:small c:=hL.2.2.2 c (GR hc);let S:Nat->List Slot:=fun _=>[.val (.fT ns),.val (.int (wy six)),.val (.str (tx L)),.val (.lst (rows.map cV)),.val (t.uX six rows),.val (.str (tx wd)),.bX]
 refine⟨_,.rt _,?_⟩;refine ag (uK 1 2 3 nd rfl (bF (vk T) bY hr (ae (aa 0 rfl) ak) ⟨ns,rfl,hlen,rfl⟩)) ?_;refine ag (aq 4 nd (vO (nB (lJ T) bY hr (ae (aa 1 rfl) (ae (kU (nA T.ka (aa 3 rfl))) ak)) ⟨six,rows,rfl,ok,rfl⟩))) ?_;refine ag (aq 5 nd (d:=.str (tx wd)) (bF (sQ T) bY hr (ae (bF (kf T) bY hr (ae (aa 0 rfl) (ae ai ak)) ⟨ns,2,rfl,by decide,rfl⟩) (ae (aa 2 rfl) ak)) ⟨cellAt ns 2,L,rfl,⟨yt,CH⟩,rfl⟩)) ?_;refine ag (eN (o:=.nx (S 4)) (m:=4) as (fun a=>Dt.str (tx a)) (fun a dl=>dl.set 6 (.val (.str (tx a)))) S rfl PassesOwn.leaving (pY (fu (ae (aa 5 rfl) (ae a9 (ae (aX (my (aa 5 rfl) mw (jH ai) (by rw[aO];exact yT (by omega))) (congrArg Dt.str (pL wd 50))) (ae (aa 5 rfl) ak)))) AA3)) kZ (bc nd rfl (.inl rfl)) (fun a _=>jG) (Le.of ⟨rfl,rfl,rfl,rfl,rfl,rfl,trivial⟩) (DU _) (fun k a hk ha=>?_) (.all rfl)) ?last
 . obtain⟨h1,h2⟩:=has a (GR ha)
   refine .nx (dl':=(S 0).set 6 (.val (.str (tx a)))) ?_ (Le.of ⟨rfl,rfl,rfl,rfl,rfl,rfl,trivial⟩);exact ay (cv (u:=false) (ma (u:=true) (kM (bF (nY T) bY hr (ae (aa 4 rfl) (ae (aa 3 rfl) (ae (aa 6 rfl) ak))) ⟨six,rows,a,rfl,ok,h2,h1,rfl⟩))) (fun h=>nomatch h) (fun h=>cA))
 case last=>exact ay (bp (x5 (vt T) bY hr (uS (z:=tx L) (i:=0) (c:=c) (aa 2 rfl) (by rw[aO];exact yT (by omega)) (sO (n:=0) rfl hc) (by intro _ _;rfl)) (ae (bF (kf T) bY hr (ae (aa 0 rfl) (ae ai ak)) ⟨ns,3,rfl,by decide,rfl⟩) ak) ⟨c,cellAt ns 3,rfl,sc,fP _ _,rfl⟩ (by decide)))
end Pf
end
theorem wl {p:List PySem.Value->Prop}(h:p []):∀ us:List PySem.Value,us.length=0->p us
 | [],_=>h
theorem wn {p:List PySem.Value->Prop}{n:Nat}(h:∀ a us,us.length=n->p (a::us)):∀ us:List PySem.Value,us.length=n+1->p us
 | a::us,e=>h a us (Nat.succ.inj e)
namespace PySem.W.Fast
theorem tw7060408014636489845:True:=⟨⟩
theorem tw3214174253181065559:True:=⟨⟩
theorem tw10381552094719857917:True:=⟨⟩
theorem tw2834693951975936096:True:=⟨⟩
theorem tw3904754052067604943:True:=⟨⟩
theorem tw12769099020674860428:True:=⟨⟩
theorem tw3354955765985047849:True:=⟨⟩
theorem tw14860996481615284420:True:=⟨⟩
theorem tw9407903641378307701:True:=⟨⟩
theorem tw11588630526624089968:True:=⟨⟩
theorem tw11280882883390496570:True:=⟨⟩
theorem tw12320520216029831556:True:=⟨⟩
theorem tw17276640603488668126:True:=⟨⟩
theorem tw11274154266434623625:True:=⟨⟩
theorem tw9038125888506179364:True:=⟨⟩
theorem tw2835275877153430156:True:=⟨⟩
theorem tw13249689756035432768:True:=⟨⟩
theorem tw15435487292669653044:True:=⟨⟩
theorem tw13016981472550548314:True:=⟨⟩
theorem tw5236487937564073506:True:=⟨⟩
theorem tw15225720748207854290:True:=⟨⟩
theorem tw1587982284146614617:True:=⟨⟩
theorem tw18292703724710039122:True:=⟨⟩
theorem tw12706659892342187754:True:=⟨⟩
theorem tw12303729751856910830:True:=⟨⟩
theorem tw6809894515547484729:True:=⟨⟩
theorem tw2257797738677277951:True:=⟨⟩
theorem tw2775429970278077988:True:=⟨⟩
theorem tw14582432652780423246:True:=⟨⟩
theorem tw14243023646870824968:True:=⟨⟩
theorem tw17877138079882283984:True:=⟨⟩
theorem tw15080120121792305623:True:=⟨⟩
theorem tw13126063849642244201:True:=⟨⟩
theorem tw17444671734592144932:True:=⟨⟩
theorem tw15347544953348095721:True:=⟨⟩
theorem tw12544853325049277750:True:=⟨⟩
theorem tw11303151437643422597:True:=⟨⟩
theorem tw8517459379949397124:True:=⟨⟩
theorem tw2991127710424020929:True:=⟨⟩
theorem tw6643295173911202048:True:=⟨⟩
theorem tw4650331630293645352:True:=⟨⟩
theorem tw16581431631467983029:True:=⟨⟩
theorem tw9726803358943772501:True:=⟨⟩
theorem tw18172375270488445582:True:=⟨⟩
theorem tw14818569224671009079:True:=⟨⟩
theorem tw15947904856768074600:True:=⟨⟩
theorem tw6288969051044045688:True:=⟨⟩
theorem tw1378292444862644889:True:=⟨⟩
theorem tw397424719327268513:True:=⟨⟩
theorem tw10918372103540841760:True:=⟨⟩
theorem tw6059065629009752308:True:=⟨⟩
theorem tw8385709338041367521:True:=⟨⟩
theorem tw4658530287355709552:True:=⟨⟩
theorem tw13391687660279894420:True:=⟨⟩
theorem tw7505267899574862729:True:=⟨⟩
theorem tw2536091216557290229:True:=⟨⟩
theorem tw14430528349855474318:True:=⟨⟩
theorem tw3776956132639847541:True:=⟨⟩
theorem tw640111079989898837:True:=⟨⟩
theorem tw18098724974484752656:True:=⟨⟩
theorem tw6313024146358567491:True:=⟨⟩
theorem tw5702072760545758510:True:=⟨⟩
theorem tw11251392578464067496:True:=⟨⟩
theorem tw9271832457998930915:True:=⟨⟩
theorem tw18198257977492669526:True:=⟨⟩
theorem tw17058529179282271373:True:=⟨⟩
theorem tw12922270210419586105:True:=⟨⟩
theorem tw6550306633876962783:True:=⟨⟩
theorem tw7753904282397813189:True:=⟨⟩
theorem tw15152114191772420644:True:=⟨⟩
theorem tw15061409832905063223:True:=⟨⟩
theorem tw15849384223877811877:True:=⟨⟩
theorem tw306337884115120687:True:=⟨⟩
theorem tw8848324806179801716:True:=⟨⟩
theorem tw15743528569065522803:True:=⟨⟩
theorem tw1401716333848327913:True:=⟨⟩
theorem tw9790463121179783697:True:=⟨⟩
theorem tw8169637922773171345:True:=⟨⟩
theorem tw16234029371846481042:True:=⟨⟩
theorem tw16507878434491149543:True:=⟨⟩
theorem tw3409048181300670177:True:=⟨⟩
theorem tw4802310728005340549:True:=⟨⟩
theorem tw8838672842741834531:True:=⟨⟩
theorem tw12020086217858578891:True:=⟨⟩
theorem tw6196425623056613021:True:=⟨⟩
theorem tw4212784198161533787:True:=⟨⟩
theorem tw13216504602007029657:True:=⟨⟩
theorem tw9505089078665821962:True:=⟨⟩
theorem tw17052619466109352439:True:=⟨⟩
theorem tw13697127043747986257:True:=⟨⟩
theorem tw17250747388873532919:True:=⟨⟩
theorem tw13707408203332576541:True:=⟨⟩
theorem tw9212345670025519278:True:=⟨⟩
theorem tw6984787561284170505:True:=⟨⟩
theorem tw16688004989679373764:True:=⟨⟩
theorem tw18440909348251365896:True:=⟨⟩
theorem tw11429892615009004398:True:=⟨⟩
theorem tw14527217590251869573:True:=⟨⟩
theorem tw8951755714630429106:True:=⟨⟩
theorem tw7855567409474975449:True:=⟨⟩
theorem tw4536849849766663123:True:=⟨⟩
theorem tw1758719478418693336:True:=⟨⟩
theorem tw15222915718417991458:True:=⟨⟩
theorem tw6136560225310377795:True:=⟨⟩
theorem tw11397200828227805786:True:=⟨⟩
theorem tw11172286562571678950:True:=⟨⟩
theorem tw9706002701026460518:True:=⟨⟩
end PySem.W.Fast
open PySem PySem.W PyProof.Rows
set_option maxRecDepth 100000 in
set_option maxHeartbeats 0 in
theorem PySem.Challenge.cw_strokegrow_k08_grown_once_holds : PySem.Challenge.rw_strokegrow_k08_grown_once.Holds := by
 w_on;o_law;k_head;(case hw=>w_witness2)
 k_fill
 refine L2.qu (l:=PySem.Challenge.rw_strokegrow_k08_grown_once) (n:=63) (k:=9) (x:="_law_script") (CX:=Pf.CX) (sp:=fun K=>Pf.sq K) rfl (by decide) rfl ⟨rfl,by decide,by decide⟩ (fun w h Y=>PySem.W.kIn_of Y) ?F ?S ?C
 case F=>
   intro w mg fa h KX G zC;have T:∃ t,Pf.Txt (L2.C1 KX) mg t∧t.eW=fa:=by
     dsimp only [L2.C1];obtain⟨t,T,e⟩:∃ t,Pf.Txt _ mg t∧t.eW=_:=by
       refine' Pf.yk KX G ?_ ?_ ?_ ?_ ?_ ?_ ?_ ?_ ?_ ?_ ?_ ?_ ?_ ?_ ?_ ?_ ?_ ?_ ?_ ?_ ?_ ?_ ?_ ?_ ?_ ?_ ?_ ?_ ?_ ?_ ?_ ?_ ?_ ?_ ?_ ?_ ?_ ?_ ?_ ?_ ?_ ?_ ?_ ?_ ?_ ?_ ?_ ?_ ?_ ?_ ?_ ?_ ?_ ?_ ?_ ?_ ?_ ?_ ?_ ?_ ?_ ?_ ?_ ?_ ?_ ?_ ?_
       any_goals first
        | exact Pf.yb (by k_is) (by k_is) (by k_is) (by k_is) (by refine fun _ _ _ _ _ _=>?_;(repeat refine wn fun _=>?_);exact wl rfl)
        | exact Pf.x9 (by k_is) (by k_is) (by k_is) (by refine fun _ _ _ _ _ _=>?_;(repeat refine wn fun _=>?_);exact wl rfl)
        | exact Pf.ya (by k_is) (by k_is) (by k_is) (by refine fun _ _ _ _ _ _=>?_;(repeat refine wn fun _=>?_);exact wl rfl)
        | exact Pf.yc (by k_is) (by k_is) (by k_is) (by k_is) (by k_is) (by k_is)
        | exact L2.Meth.mk (by k_is) (by k_is) (by k_is)
        | exact L2.Mk.mk (by k_is) (by k_is) (by k_is) (by k_is)
        | exact Sg.xq.mk (by k_is) (by k_is) (by k_is)
        | k_is
        | kernel_rfl
     refine⟨t,T,?_⟩;have e0:=zC.symm.trans (T.g T.lx.a);cases e0;rfl
   obtain⟨t,T,e⟩:=T;subst e;refine' ⟨t.hX,?b,fun base kb nb=>Pf.yE T⟩;exact Pf.yl T
 case S=>exact fun K H a ns hl hO hS=>Pf.yq hl hS
 case C=>exact fun H s e s' h=>h
