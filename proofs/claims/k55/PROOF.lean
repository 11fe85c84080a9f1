import PyProof.Rows.All
import Wide.All
import OpenK.AllK
import Wide.FinOn
import Lean
import PyProof.EqAt
import PyProof.EqKinds
import PyProof.TupleCall
import PyProof.WalksEnum
import PyProof.EnumMake
import PyProof.ZipIter
import PyProof.ReprStr
import PyProof.StrBlockG
import PyProof.StrWalks
import PyProof.FString5
import PyProof.ConsumeWalk
import PyProof.SumAny
import PyProof.StrCalls2
import KE.KDictList
import PyProof.Draws
import PyProof.StrBlock2
import PyProof.DictIter
import PyProof.ExcInit
import PyProof.ExcClass3
import PyProof.FString
import PyProof.FitsInt
import PyProof.StrLawsRepr
import PyProof.Rows.Range3
import PyProof.StrCalls
import PyProof.ListRange
import PyProof.AttrMissHeap
import KE.KDictOf
import PyProof.StrCalls3
import PyProof.FactsAll.dict_2
import PyProof.MeetsIn
import PyProof.Cells
import KE.KDictSum
import PyProof.DictWalks
import KE.KRevIter
import PyProof.FactsAll.subtypes_3
import PyProof.Rows.SortWalk
import KE.KSortedM
import PyProof.Rows.SortStr
import PyProof.MinMaxWalk
import PyProof.WalkInts
import PyProof.SeqI3
import PyProof.Rows.CallKwBuiltin
import KE.KUnpack
import PySem.Challenge.RW_strokegrow_k55_whole_reach_touched
theorem AA3 {a b:Nat}(h:Nat.ble a b=true:=by rfl):a<=b:=Nat.le_of_ble_eq_true h
set_option Elab.async false
set_option linter.all false
set_option maxRecDepth 100000
namespace L2
open PySem PySem.Spec PyProof.Rows
abbrev Key:=Sum Int Str
def vK:Key->Value->Bool
 | .inl k,v=>Value.isInt k v
 | .inr x,v=>Value.isStrOf x v
def Uk (w:World):Key->Int
 | .inl k=>hashInt k
 | .inr x=>hashStr w x
theorem cH:∀ {k:Key} {v:Value},vK k v=true->(∃ i t,k=Sum.inl i/\v=Value.int i t)\/(∃ x t,k=Sum.inr x/\v=Value.str x t)
 | .inl i,v,h=>by
   obtain⟨t,e⟩:=Value.isInt_shape (k:=i) (v:=v) h
   exact .inl ⟨i,t,rfl,e⟩
 | .inr x,v,h=>by
   obtain⟨t,e⟩:=Value.isStrOf_shape (x:=x) (v:=v) h
   exact .inr ⟨x,t,rfl,e⟩
theorem Dh (i:Int)(t:Tok):vK (.inl i) (.int i t)=true:=by simp[vK,Value.isInt]
theorem Di (x:Str)(t:Tok):vK (.inr x) (.str x t)=true:=by simp[vK,Value.isStrOf]
theorem MC (a b:Int):decide ((Sum.inl a:Key)=Sum.inl b)=(a == b):=by
 by_cases e:a=b
 . subst e;simp
 . have h:¬ (Sum.inl a:Key)=Sum.inl b:=fun q=>e (Sum.inl.inj q)
   rw[decide_eq_false h]
   exact(beq_eq_false_iff_ne.mpr e).symm
theorem MD (a b:Str):decide ((Sum.inr a:Key)=Sum.inr b)=decide (a=b):=by
 by_cases e:a=b
 . subst e;simp
 . have h:¬ (Sum.inr a:Key)=Sum.inr b:=fun q=>e (Sum.inr.inj q)
   rw[decide_eq_false h,decide_eq_false e]
theorem ME (a:Int)(b:Str):decide ((Sum.inl a:Key)=Sum.inr b)=false:=decide_eq_false (fun q=>nomatch q)
theorem MG (a:Str)(b:Int):decide ((Sum.inr a:Key)=Sum.inl b)=false:=decide_eq_false (fun q=>nomatch q)
def cB (prog:Program)(w:World):PySem.KeyKind prog w Key where
 is:=vK
 hash:=Uk w
 inj:=fun v a b ha hb=>by
   rcases cH ha with⟨i,t,rfl,rfl⟩ | ⟨x,t,rfl,rfl⟩
   . rcases cH hb with⟨j,u,rfl,e⟩ | ⟨y,u,rfl,e⟩
     . injection e with e1 _;rw[e1]
     . exact nomatch e
   . rcases cH hb with⟨j,u,rfl,e⟩ | ⟨y,u,rfl,e⟩
     . exact nomatch e
     . injection e with e1 _;rw[e1]
 byValue:=fun k v h=>by
   rcases cH h with⟨i,t,rfl,rfl⟩ | ⟨x,t,rfl,rfl⟩ <;> rfl
 pyHash:=fun hv h=>by
   rcases cH hv with⟨i,t,rfl,rfl⟩ | ⟨x,t,rfl,rfl⟩
   . exact wpAny_pyHash_int h
   . exact wpAny_pyHash_str h
 eqBool:=fun hu hv h=>by
   rcases cH hu with⟨i,t,rfl,rfl⟩ | ⟨x,t,rfl,rfl⟩
   . rcases cH hv with⟨j,u,rfl,rfl⟩ | ⟨y,u,rfl,rfl⟩
     . rw[MC] at h;exact wpAny_eqBool_int h
     . rw[ME] at h;exact SeqAt.EqAt.int_str i t y u _ _ _ _ h
   . rcases cH hv with⟨j,u,rfl,rfl⟩ | ⟨y,u,rfl,rfl⟩
     . rw[MG] at h;exact SeqAt.EqAt.str_int x t j u _ _ _ _ h
     . rw[MD] at h;exact wpAny_eqBool_str h
 «strs»:=fun k x t v h=>by
   rcases cH h with⟨i,u,rfl,e⟩ | ⟨y,u,rfl,e⟩
   . exact nomatch e
   . injection e with e1 _
     subst e1
     cases v <;> rfl
theorem yB (prog:Program)(w:World)(i:Int)(t:Tok):(cB prog w).is (.inl i) (.int i t)=true:=Dh i t
theorem yC (prog:Program)(w:World)(x:Str)(t:Tok):(cB prog w).is (.inr x) (.str x t)=true:=Di x t
inductive V where
 | cL | bl (b:Bool) | int (i:Int) | str (x:Str) | EC (b:Array UInt8) | MH (b:UInt64) | ref (a:Addr) | ty (n:String)
 deriving DecidableEq
def RelV:V->Value->Prop
 | .cL,u=>u=Value.none
 | .bl b,u=>u=Value.bool b
 | .int i,u=>∃ t,u=Value.int i t
 | .str x,u=>∃ t,u=Value.str x t
 | .EC b,u=>∃ t,u=Value.bytes b t
 | .MH b,u=>∃ t,u=Value.float b t
 | .ref a,u=>u=Value.ref a
 | .ty n,u=>u=Value.type n
abbrev Vals:List V->List Value->Prop:=Paired RelV
theorem Vals.length {xs:List V}{us:List Value}(r:Vals xs us):xs.length=us.length:=Paired.length r
theorem Vals.get:∀ {xs:List V} {us:List Value} {i:Nat} {x:V},Vals xs us->xs[i]?=some x->∃ u,us[i]?=some u/\RelV x u
 | _,_,_,_,.nil,e=>by simp at e
 | _,_,0,_,.cons r _,e=>by simp at e;subst e;exact⟨_,rfl,r⟩
 | _,_,i+1,x,.cons _ t,e=>by
   obtain⟨u,h1,h2⟩:=Vals.get (i:=i) (x:=x) t (by simpa using e)
   exact⟨u,by simpa using h1,h2⟩
theorem Vals.set {x:V}{u:Value}(r:RelV x u):∀ {xs:List V} {us:List Value} (i:Nat),Vals xs us->Vals (xs.set i x) (us.set i u)
 | _,_,_,.nil=>.nil
 | _,_,0,.cons _ t=>.cons r t
 | _,_,i+1,.cons q t=>.cons q (Vals.set r i t)
theorem Vals.append:∀ {xs ys:List V} {us ws:List Value},Vals xs us->Vals ys ws->Vals (xs ++ ys) (us ++ ws)
 | _,_,_,_,.nil,s=>s
 | _,_,_,_,.cons r t,s=>.cons r (Vals.append t s)
theorem Vals.take:∀ {xs:List V} {us:List Value} (n:Nat),Vals xs us->Vals (xs.take n) (us.take n)
 | _,_,0,_=>.nil
 | _,_,_+1,.nil=>.nil
 | _,_,n+1,.cons r t=>.cons r (Vals.take n t)
theorem Vals.drop:∀ {xs:List V} {us:List Value} (n:Nat),Vals xs us->Vals (xs.drop n) (us.drop n)
 | _,_,0,r=>r
 | _,_,_+1,.nil=>.nil
 | _,_,n+1,.cons _ t=>Vals.drop n t
def nV:Option V->Option Value->Prop
 | some v,some u=>RelV v u
 | none,none=>True
 | _,_=>False
def KV {κ:Type}:List (κ×V)->List (κ×Value)->Prop:=Paired fun(p:κ×V) (q:κ×Value)=>p.1=q.1/\RelV p.2 q.2
def kV:Key->V
 | .inl i=>.int i
 | .inr x=>.str x
inductive FD where
 | int (i:Int)
 | d0 (kds:List (Key×Int))
 | lst (ns:List Int)
 | tup (K:W.Frag) (ns:List Int)
 | obj (C:Addr) (fs:List (Str×FD))
abbrev je:=List (Addr×(Nat->List (Key×FD)))
inductive HO where
   | lst (xs:List V)
   | tup (xs:List V)
   | dK (kvs:List (Key×V)) | dT (kvs:List (List Key×V))
   | set (S:Int->Bool) (n:Nat)
   | ins (C dx:Addr) (fs:List (Str×V))
   | own (x:Addr)
   | xd (fs:List (Str×V))
   | met (f x:Addr)
   | Ul (lo hi:Int)
   | bh (o:Obj) (u:HO)
   | MI (ps:Array Value)
   | ext (φ:Heap->Prop)
   | memo (ls:je)
 | bj (ls:je) (ns:List Nat)
   | part (p:Addr)
   | kd (tg:Option (Addr×Nat)) (o:Obj) (kvs:List (Key×V))
   | kx (o:Obj) (u:HO)
abbrev Hp:=Addr->Option HO
def upd (H:Hp)(a:Addr)(o:HO):Hp:=fun b=>if b=a then some o else H b
theorem ak {H:Hp}{a:Addr}{o:HO}:upd H a o a=some o:=by unfold upd;rw[if_pos rfl]
theorem ah {H:Hp}{a b:Addr}{o:HO}(h:b≠a):upd H a o b=H b:=by unfold upd;rw[if_neg h]
theorem rO {H:Hp}{a:Addr}{o u:HO}:upd (upd H a o) a u=upd H a u:=by
 funext b;unfold upd;split <;> rfl
theorem Qe {H:Hp}{a b:Addr}{o u:HO}(h:H a=some o)(h':H b=some u)(d:o≠u):a≠b:=by
 intro e;subst e;rw[h] at h';exact d (Option.some.inj h')
theorem ax {H:Hp}{a b:Addr}{o:HO}(h:H a=some o)(h':H b=none):a≠b:=by
 intro e;subst e;rw[h] at h';cases h'
def kP:Option HO->Prop
 | some (.memo _)=>True
 | some (.bj _ _)=>True
 | some (.part _)=>True
 | _=>False
def Kept:HO->Prop
 | .kd _ _ _=>True
 | .kx _ _=>True
 | .tup _=>True
 | _=>False
def TupAt (K:W.Frag)(H:Hp)(a:Addr)(xs:List V):Prop:=
 H a=some (.tup xs) \/
   ∃ (o:Obj) (aD:Array Value) (n:Nat),K.lookup a=some o/\o.cls=.type "tuple"/\o.data=.seq aD n/\aD.size<=sizeLine/\Vals xs aD.toList
mutual
inductive Fz (H:Hp):V->FD->Prop
 | int (i:Int):Fz H (.int i) (.int i)
 | d0 {a:Addr} {tg:Option (Addr×Nat)} {o:Obj} {kds:List (Key×Int)}:H a=some (.kd tg o (kds.map fun kd=>(kd.1,V.int kd.2)))->Fz H (.ref a) (.d0 kds)
 | lst {a:Addr} {o:Obj} {ns:List Int}:H a=some (.kx o (.lst (ns.map V.int)))->Fz H (.ref a) (.lst ns)
 | tup {a:Addr} {K:W.Frag} {ns:List Int}:TupAt K H a (ns.map V.int)->Fz H (.ref a) (.tup K ns)
 | obj {a C dx:Addr} {o:Obj} {fv:List (Str×V)} {fs:List (Str×FD)}:H a=some (.kx o (.ins C dx fv))->EV H fv fs->Fz H (.ref a) (.obj C fs)
inductive EV (H:Hp):List (Str×V)->List (Str×FD)->Prop
 | nil:EV H [] []
 | cons {k:Str} {v:V} {d:FD} {vs:List (Str×V)} {ds:List (Str×FD)}:Fz H v d->EV H vs ds->EV H ((k,v)::vs) ((k,d)::ds)
end
inductive pZ (H:Hp):List (Key×V)->List (Key×FD)->Prop
 | nil:pZ H [] []
 | cons {k:Key} {v:V} {d:FD} {kvs:List (Key×V)} {kds:List (Key×FD)}:Fz H v d->pZ H kvs kds->pZ H ((k,v)::kvs) ((k,d)::kds)
def MJ (H:Hp)(p:Addr)(i:Nat)(aD:List Value)(fd:List (Key×FD)):Prop:=∃ q o kvs,aD[i]?=some (.ref q)/\H q=some (.kd (some (p,i)) o kvs)/\pZ H kvs fd
def BV (H:Hp)(h:Heap)(p:Addr)(f:Nat->List (Key×FD))(n:Nat):Prop:=∃ aD c,h.get? p=some { cls:=.type "list",data:=.seq (aD:List Value).toArray c}/\aD.length=n/\∀ i,i < n->MJ H p i aD (f i)
def sT (H:Hp)(h:Heap)(a:Addr)(ls:je)(ns:List Nat):Prop:=(∃ f,ls[0]?=some (a,f))/\ls.length=ns.length/\(∀ (j:Nat) (p:Addr) (f:Nat->List (Key×FD)),ls[j]?=some (p,f)->(p=a\/H p=some (.part a)))/\(ls.map (·.1)).Nodup/\(∀ n∈ns,n<=10000)/\∀ (j:Nat) (p:Addr) (f:Nat->List (Key×FD)) (n:Nat),ls[j]?=some (p,f)->ns[j]?=some n->BV H h p f n
section
variable (P:Program)(w:World)
def aJ (H:Hp)(h:Heap)(a:Addr):HO->Prop
 | .lst xs=>xs.length<=sizeLine/\∃ (aD:List Value) (n:Nat),Vals xs aD/\h.get? a=some { cls:=.type "list",data:=.seq aD.toArray n}
 | .tup xs=>xs.length<=sizeLine/\∃ aD:List Value,Vals xs aD/\IsTup h a aD.toArray
 | .dK kvs=>kvs.length<=sizeLine/\(a == sysModules)=false/\∃ vs,KV kvs vs/\h.DictOf (cB P w) a vs
 | .dT kvs=>kvs.length<=sizeLine/\(a == sysModules)=false/\∃ xs:List (List Key×Addr×Value),
     Paired (fun(p:List Key×V) (q:List Key×Addr×Value)=>p.1=q.1/\H q.2.1=some (.tup (p.1.map kV))/\RelV p.2 q.2.2) kvs xs /\
     ∃ o es ep,h.get? a=some o/\o.ExactDict/\o.data=.dict es ep/\es.toList=xs.map (entryOfKey (tupleKind (cB P w)))/\(xs.map (·.1)).Nodup
 | .set S n=>h.SetOf (intKind P w) a S n
 | .ins C dx fs=>H dx=some (.own a)/\fs.length<=1000/\dx≠a/\h.get? a=some (W.instObj C dx) /\
     ∃ mA,h.Ns1 dx mA/\(∀ f,nV (fs.lookup f) (mA f))/\PySem.Within mA (fs.map (·.1))
 | .own _=>∃ o,h.get? a=some o
 | .xd fs=>∃ mA,h.Ns1 a mA/\∀ f,nV (fs.lookup f) (mA f)
 | .Ul lo hi=>∃ t u v,h.get? a=some { cls:=.type "range",data:=.fields #[.int lo t,.int hi u,.int 1 v]}
 | .bh o u=>h.get? a=some o/\aJ H h a u
 | .MI ps=>h.get? a=some { cls:=.none,data:=.fields ps}
 | .met f x=>h.get? a=some (W.methodObj (.ref f) (.ref x))
 | .ext φ=>φ h/\(∃ o,h.get? a=some o)/\∀ h1 h2:Heap,φ h1->(∀ o,h1.get? a=some o->h2.get? a=some o)->φ h2
 | .memo ls=>(∃ o,h.get? a=some o)/\∃ n,0 < n/\sT H h a ls (List.replicate ls.length n)
 | .bj ls ns=>(∃ o,h.get? a=some o)/\sT H h a ls ns
 | .part _=>∃ o,h.get? a=some o
 | .kd tg o kvs=>h.get? a=some o/\(kvs.length<=sizeLine/\(a == sysModules)=false/\∃ vs,KV kvs vs/\h.DictOf (cB P w) a vs) /\
     ∀ p i,tg=some (p,i)->kP (H p)/\∃ aD c,h.get? p=some { cls:=.type "list",data:=.seq (aD:List Value).toArray c}/\aD[i]?=some (.ref a)
 | .kx o u=>h.get? a=some o/\aJ H h a u
def oZ (H:Hp)(h:Heap):Prop:=∀ a o,H a=some o->aJ P w H h a o
end
section
variable {P:Program}{w:World}{H H':Hp}{h h':Heap}{a:Addr}{o:HO}
theorem aJ.lt (x:aJ P w H h a o):a < h.objs.size:=by
 cases o with
 | lst xs=>obtain⟨_,_,_,_,e⟩:=x;exact Heap.lt_size e
 | tup xs=>obtain⟨_,_,_,p⟩:=x;exact p.lt
 | dK kvs=>obtain⟨_,_,_,_,o,_,_,e,_⟩:=x;exact Heap.lt_size e
 | dT kvs=>obtain⟨_,_,_,_,o,_,_,e,_⟩:=x;exact Heap.lt_size e
 | set S n=>obtain⟨o,_,_,_,e,_⟩:=x;exact Heap.lt_size e
 | ins C dx fs=>obtain⟨_,_,_,e,_⟩:=x;exact Heap.lt_size e
 | own y=>obtain⟨_,e⟩:=x;exact Heap.lt_size e
 | xd fs=>obtain⟨_,⟨_,_,_,e,_⟩,_⟩:=x;exact Heap.lt_size e
 | Ul lo hi=>obtain⟨_,_,_,e⟩:=x;exact Heap.lt_size e
 | bh ob u=>obtain⟨e,_⟩:=x;exact Heap.lt_size e
 | MI ps=>exact Heap.lt_size (show h.get? a=some _ from x)
 | met f y=>exact Heap.lt_size (show h.get? a=some _ from x)
 | ext φ=>obtain⟨_,⟨_,e⟩,_⟩:=x;exact Heap.lt_size e
 | memo ls=>obtain⟨⟨_,e⟩,_⟩:=x;exact Heap.lt_size e
 | bj ls ns=>obtain⟨⟨_,e⟩,_⟩:=x;exact Heap.lt_size e
 | part y=>obtain⟨_,e⟩:=x;exact Heap.lt_size e
 | kd tg ob kvs=>exact Heap.lt_size x.1
 | kx ob u=>exact Heap.lt_size x.1
theorem Paired.MK {α β:Type}{F G:α->β->Prop}:∀ {l₁:List α} {l₂:List β},Paired F l₁ l₂->(∀ a b,F a b->G a b)->Paired G l₁ l₂
 | _,_,.nil,_=>.nil
 | _,_,.cons r t,f=>.cons (f _ _ r) (Paired.MK t f)
structure Kp (H H':Hp):Prop where
 st:∀ b u,H b=some u->Kept u->H' b=some u
 mem:∀ b,kP (H b)->kP (H' b)
 part:∀ b x,H b=some (.part x)->H' b=some (.part x)
theorem Kp.kd (kp:Kp H H')(b:Addr)(tg:Option (Addr×Nat))(o:Obj)(kvs:List (Key×V))(e:H b=some (.kd tg o kvs)):H' b=some (.kd tg o kvs):=kp.st b _ e trivial
theorem Kp.refl:Kp H H:=⟨fun _ _ e _=>e,fun _ e=>e,fun _ _ e=>e⟩
theorem Kp.of (s:∀ b u,H b=some u->H' b=some u):Kp H H':=⟨fun _ _ e _=>s _ _ e,fun b e=>by
 cases q:H b with
 | none=>rw[q] at e;exact e.elim
 | some u=>rw[s b u q,<- q];exact e,fun _ _ e=>s _ _ e⟩
theorem TupAt.kp {K:W.Frag}{xs:List V}(k:∀ b u,H b=some u->Kept u->H' b=some u)(h:TupAt K H a xs):TupAt K H' a xs:=h.imp (fun e=>k _ _ e trivial) id
mutual
theorem Fz.st (k:∀ b u,H b=some u->Kept u->H' b=some u):∀ {v:V} {d:FD},Fz H v d->Fz H' v d
 | _,_,.int i=>.int i
 | _,_,.d0 e=>.d0 (k _ _ e trivial)
 | _,_,.lst e=>.lst (k _ _ e trivial)
 | _,_,.tup e=>.tup (e.kp k)
 | _,_,.obj e f=>.obj (k _ _ e trivial) (EV.st k f)
theorem EV.st (k:∀ b u,H b=some u->Kept u->H' b=some u):∀ {v:List (Str×V)} {d:List (Str×FD)},EV H v d->EV H' v d
 | _,_,.nil=>.nil
 | _,_,.cons h t=>.cons (Fz.st k h) (EV.st k t)
end
theorem Fz.kp (kp:Kp H H'){v:V}{d:FD}(h:Fz H v d):Fz H' v d:=h.st kp.st
theorem pZ.kp (kp:Kp H H'):∀ {kvs:List (Key×V)} {kds:List (Key×FD)},pZ H kvs kds->pZ H' kvs kds
 | _,_,.nil=>.nil
 | _,_,.cons h t=>.cons (h.kp kp) (pZ.kp kp t)
theorem BV.kp {p:Addr}{f:Nat->List (Key×FD)}{n:Nat}(kp:Kp H H')(x:BV H h p f n)(k:∀ u,h.get? p=some u->h'.get? p=some u):BV H' h' p f n:=by
 obtain⟨aD,c,e,hl,hi⟩:=x
 exact⟨aD,c,k _ e,hl,fun i hn=>let ⟨q,o,kvs,h1,h2,h3⟩:=hi i hn;⟨q,o,kvs,h1,kp.kd _ _ _ _ h2,h3.kp kp⟩⟩
theorem sT.kp {ls:je}{ns:List Nat}(kp:Kp H H')(x:sT H h a ls ns)(k:∀ b u,b=a\/H b=some (.part a)->h.get? b=some u->h'.get? b=some u):sT H' h' a ls ns:=by
 obtain⟨h1,h2,h3,h4,h5,h6⟩:=x
 exact⟨h1,h2,fun j p f e=>(h3 j p f e).imp id fun z=>kp.part _ _ z,h4,h5,fun j p f n e1 e2=>(h6 j p f n e1 e2).kp kp fun u e=>k p u (h3 j p f e1) e⟩
def Qf (h:Heap)(p:Addr)(i:Nat)(c:Addr):Prop:=∃ aD n,h.get? p=some { cls:=.type "list",data:=.seq (aD:List Value).toArray n}/\aD[i]?=some (.ref c)
theorem aJ.Lx (x:aJ P w H h a o)(k:∀ b u,(b=a\/H b=some (.own a)\/H b=some (.part a))->h.get? b=some u->h'.get? b=some u)(ho:∀ b,H b=some (.own a)->H' b=some (.own a))(ht:∀ b xs,H b=some (.tup xs)->H' b=some (.tup xs))(kp:Kp H H')(hl:∀ p i c,kP (H p)->Qf h p i c->Qf h' p i c):aJ P w H' h' a o:=by
 induction o with
 | lst xs=>obtain⟨z,aD,n,r,e⟩:=x;exact⟨z,aD,n,r,k _ _ (.inl rfl) e⟩
 | tup xs=>obtain⟨z,aD,r,ob,e,c⟩:=x;exact⟨z,aD,r,ob,k _ _ (.inl rfl) e,c⟩
 | dK kvs=>obtain⟨z,y,vs,r,ob,es,ep,e,c⟩:=x;exact⟨z,y,vs,r,ob,es,ep,k _ _ (.inl rfl) e,c⟩
 | dT kvs=>
   obtain⟨z,y,xs,r,ob,es,ep,e,c⟩:=x
   exact⟨z,y,xs,Paired.MK r fun p q z=>⟨z.1,ht _ _ z.2.1,z.2.2⟩,ob,es,ep,k _ _ (.inl rfl) e,c⟩
 | set S n=>obtain⟨ob,es,ep,t,e,c⟩:=x;exact⟨ob,es,ep,t,k _ _ (.inl rfl) e,c⟩
 | ins C dx fs=>
   obtain⟨d,z,ne,e,mA,⟨od,es,ep,e2,c⟩,r⟩:=x
   exact⟨ho _ d,z,ne,k _ _ (.inl rfl) e,mA,⟨od,es,ep,k _ _ (.inr (.inl d)) e2,c⟩,r⟩
 | own y=>obtain⟨ob,e⟩:=x;exact⟨ob,k _ _ (.inl rfl) e⟩
 | xd fs=>obtain⟨mA,⟨od,es,ep,e,c⟩,r⟩:=x;exact⟨mA,⟨od,es,ep,k _ _ (.inl rfl) e,c⟩,r⟩
 | Ul lo hi=>obtain⟨t,u,v,e⟩:=x;exact⟨t,u,v,k _ _ (.inl rfl) e⟩
 | bh ob u ih=>obtain⟨e,q⟩:=x;exact⟨k _ _ (.inl rfl) e,ih q⟩
 | MI ps=>
   have e:h.get? a=some { cls:=.none,data:=.fields ps}:=x
   show h'.get? a=some { cls:=.none,data:=.fields ps}
   exact k a _ (.inl rfl) e
 | met f y=>
   have e:h.get? a=some (W.methodObj (.ref f) (.ref y)):=x
   show h'.get? a=some (W.methodObj (.ref f) (.ref y))
   exact k a _ (.inl rfl) e
 | ext φ=>obtain⟨p,⟨o,e⟩,st⟩:=x;exact⟨st _ _ p fun o q=>k _ _ (.inl rfl) q,⟨o,k _ _ (.inl rfl) e⟩,st⟩
 | memo ls=>
   obtain⟨⟨o,e⟩,n,hn,q⟩:=x
   refine⟨⟨o,k _ _ (.inl rfl) e⟩,n,hn,q.kp kp fun b u hb=>k b u ?_⟩
   rcases hb with z | z
   . exact .inl z
   . exact .inr (.inr z)
 | bj ls ns=>
   obtain⟨⟨o,e⟩,q⟩:=x
   refine⟨⟨o,k _ _ (.inl rfl) e⟩,q.kp kp fun b u hb=>k b u ?_⟩
   rcases hb with z | z
   . exact .inl z
   . exact .inr (.inr z)
 | part y=>obtain⟨o,e⟩:=x;exact⟨o,k _ _ (.inl rfl) e⟩
 | kd tg ob kvs=>
   obtain⟨e,⟨z,y,vs,r,Ys,es,ep,e',c⟩,q⟩:=x
   refine⟨k _ _ (.inl rfl) e,⟨z,y,vs,r,Ys,es,ep,k _ _ (.inl rfl) e',c⟩,fun p i ht=>?_⟩
   obtain⟨q1,q2⟩:=q p i ht
   exact⟨kp.mem _ q1,hl p i _ q1 q2⟩
 | kx ob u ih=>obtain⟨e,q⟩:=x;exact⟨k _ _ (.inl rfl) e,ih q⟩
theorem aJ.wG (x:aJ P w H h a o)(k:∀ b u,(b=a\/H b=some (.own a)\/kP (H b))->h.get? b=some u->h'.get? b=some u)(ho:∀ b,H b=some (.own a)->H' b=some (.own a))(ht:∀ b xs,H b=some (.tup xs)->H' b=some (.tup xs))(kp:Kp H H'):aJ P w H' h' a o:=
 x.Lx (fun b u hb=>k b u (by
   rcases hb with z | z | z
   . exact .inl z
   . exact .inr (.inl z)
   . exact .inr (.inr (by rw[z];trivial)))) ho ht kp fun p i c hm ⟨aD,n,e,q⟩=>⟨aD,n,k p _ (.inr (.inr hm)) e,q⟩
theorem oZ.lt (x:oZ P w H h)(e:H a=some o):a < h.objs.size:=(x a o e).lt
theorem oZ.fresh (x:oZ P w H h)(e:h.objs.size<=a):H a=none:=by
 cases q:H a with
 | none=>rfl
 | some u=>exact absurd (Nat.lt_of_lt_of_le (x.lt q) e) (Nat.lt_irrefl _)
theorem oZ.kept (x:oZ P w H h)(k:∀ b u,h.get? b=some u->h'.get? b=some u):oZ P w H h':=fun a o e=>
 (x a o e).wG (fun b u _ q=>k b u q) (fun _ q=>q) (fun _ _ q=>q) .refl
theorem oZ.laid (x:oZ P w H h)(k:∀ b u,h.get? b=some u->h'.get? b=some u)(hp:h.objs.size<=a)(new:aJ P w (upd H a o) h' a o):oZ P w (upd H a o) h':=fun b u e=>by
 have hn:=x.fresh hp
 by_cases hb:b=a
 . subst hb;rw[ak] at e;cases e;exact new
 . rw[ah hb] at e
   exact(x b u e).wG (fun c v _ q=>k c v q) (fun c q=>by rw[ah (ax q hn)];exact q) (fun c xs q=>by rw[ah (ax q hn)];exact q) (.of fun c u q=>by rw[ah (ax q hn)];exact q)
end
def Rd (H:Hp)(a:Addr)(u:HO):Prop:=H a=some u\/(∃ o,H a=some (.bh o u))\/(∃ tg o kvs,H a=some (.kd tg o kvs)/\u=.dK kvs)\/∃ o,H a=some (.kx o u)
theorem Rd.of {H:Hp}{a:Addr}{u:HO}(h:H a=some u):Rd H a u:=.inl h
theorem Rd.ok {P:Program}{w:World}{H:Hp}{h:Heap}{a:Addr}{u:HO}(r:Rd H a u)(x:oZ P w H h):aJ P w H h a u:=by
 rcases r with r | ⟨o,r⟩ | ⟨tg,o,kvs,r,rfl⟩ | ⟨o,r⟩
 . exact x a u r
 . obtain⟨_,q⟩:=x a _ r
   exact q
 . obtain⟨_,q,_⟩:=x a _ r
   exact q
 . obtain⟨_,q⟩:=x a _ r
   exact q
def PM:Option HO->Prop
 | some (.lst _)=>True
 | some (.dK _)=>True
 | some (.dT _)=>True
 | some (.set _ _)=>True
 | some (.ins _ _ _)=>True
 | some (.ext _)=>True
 | _=>False
section
variable {P:Program}{w:World}{H:Hp}{h h':Heap}{x e:Addr}{o':HO}
theorem oZ.write (ok:oZ P w H h)(mu:PM (H x))(he:e=x\/H e=some (.own x))(k:∀ b u,b≠e->h.get? b=some u->h'.get? b=some u)(PN:∃ u,h'.get? e=some u)(new:aJ P w (upd H x o') h' x o'):oZ P w (upd H x o') h':=fun b u q=>by
 have wH:∀ c y,H c=some (.own y)->c≠x:=fun c y r z=>by subst z;rw[r] at mu;exact mu
 have Um:∀ c xs,H c=some (.tup xs)->c≠x:=fun c xs r z=>by subst z;rw[r] at mu;exact mu
 by_cases hb:b=x
 . subst hb;rw[ak] at q;cases q;exact new
 . rw[ah hb] at q
   by_cases rP:b=e
   . have q':H b=some (.own x):=by
       rcases he with z | z
       . exact absurd (rP.trans z) hb
       . rw[rP];exact z
     rw[q] at q';cases q'
     obtain⟨v,hv⟩:=PN
     exact⟨v,by rw[rP];exact hv⟩
   . have WV:∀ c u,H c=some u->¬ PM (some u)->c≠x:=fun c u r nm z=>by subst z;rw[r] at mu;exact nm mu
     have WW:∀ c,kP (H c)->c≠x:=fun c r z=>by
       subst z
       cases qq:H c with
       | none=>rw[qq] at r;exact r
       | some u=>rw[qq] at r mu;cases u <;> first | exact mu | exact r
     refine(ok b u q).wG (fun c v hc r=>k c v ?_ r) (fun c r=>by rw[ah (wH c b r)];exact r) (fun c xs r=>by rw[ah (Um c xs r)];exact r) ⟨fun c u r kq=>by rw[ah (WV c _ r (by cases u <;> first | exact(show False from kq).elim | exact fun z=>z))];exact r,fun c r=>by rw[ah (WW c r)];exact r,fun c y r=>by rw[ah (WV c _ r fun z=>z)];exact r⟩
     rcases hc with rfl | hc | hc
     . exact rP
     . rintro rfl
       rcases he with z | z
       . exact wH c b hc z
       . rw[hc] at z;cases z;exact hb rfl
     . rintro rfl
       rcases he with z | z
       . exact WW c hc z
       . rw[z] at hc;exact hc
end
structure Un (fs ex:List Addr)(H H':Hp)(h h':Heap):Prop where
 keep:∀ b o,h.get? b=some o->H b=none->b ∉ fs->b ∉ ex->h'.get? b=some o
 slot:∀ b o,h.get? b=some o->H b=none->b∈fs->b ∉ ex->∃ sl,h'.get? b=some { o with slots:=sl}
 free:∀ b o,h.get? b=some o->H b=none->b ∉ ex->H' b=none
 there:∀ b o,h.get? b=some o->b ∉ ex->∃ o',h'.get? b=some o'
 yD:∀ b xs,H b=some (.tup xs)->H' b=some (.tup xs)
 wI:∀ b o u,H b=some (.bh o u)->H' b=some (.bh o u)
 yE:∀ b ps,H b=some (.MI ps)->∃ more,H' b=some (.MI (ps ++ more))
section
variable {fs ex:List Addr}{H H1:Hp}{h h1 h':Heap}{a x e:Addr}{o:HO}
theorem Un.any (u:Un fs ex H H1 h h1){b:Addr}{ob:Obj}(q:h.get? b=some ob)(n:H b=none)(hx:b ∉ ex):∃ sl,h1.get? b=some { ob with slots:=sl}:=by
 by_cases hb:b∈fs
 . exact u.slot b ob q n hb hx
 . exact⟨ob.slots,u.keep b ob q n hb hx⟩
theorem Un.kept (k:∀ b u,h.get? b=some u->h'.get? b=some u):Un fs ex H H h h':=
 ⟨fun b ob q _ _ _=>k b ob q,fun b ob q _ _ _=>⟨ob.slots,k b ob q⟩,fun _ _ _ n _=>n,fun b ob q _=>⟨ob,k b ob q⟩,fun _ _ q=>q,fun _ _ _ q=>q,fun _ ps q=>⟨#[],by rw[q];simp⟩⟩
theorem Un.refl:Un fs ex H H h h:=Un.kept fun _ _ q=>q
theorem Un.laid (k:∀ b u,h.get? b=some u->h'.get? b=some u)(hp:h.objs.size<=a)(hn:H a=none):Un fs ex H (upd H a o) h h' where
 keep:=fun b u q _ _ _=>k b u q
 slot:=fun b u q _ _ _=>⟨u.slots,k b u q⟩
 free:=fun b u q n _=>by rw[ah (Nat.ne_of_lt (Nat.lt_of_lt_of_le (Heap.lt_size q) hp))];exact n
 there:=fun b u q _=>⟨u,k b u q⟩
 yD:=fun b xs q=>by rw[ah (ax q hn)];exact q
 wI:=fun b u xs q=>by rw[ah (ax q hn)];exact q
 yE:=fun b ps q=>⟨#[],by rw[ah (ax q hn),q];simp⟩
theorem Un.write (mu:PM (H x))(he:e=x\/H e=some (.own x))(k:∀ b u,b≠e->h.get? b=some u->h'.get? b=some u)(PN:∃ u,h'.get? e=some u):Un fs ex H (upd H x o) h h':=by
 have hx:∀ b,H b=none->b≠x:=fun b n z=>by subst z;rw[n] at mu;exact mu
 have hb:∀ b,H b=none->b≠e:=fun b n z=>by
   subst z
   rcases he with r | r
   . exact hx b n r
   . rw[n] at r;cases r
 have hm:∀ b u,H b=some u->¬ PM (some u)->b≠x:=fun b u q nm z=>by subst z;rw[q] at mu;exact nm mu
 refine⟨fun b u q n _ _=>k b u (hb b n) q,fun b u q n _ _=>⟨u.slots,k b u (hb b n) q⟩,fun b u q n _=>by rw[ah (hx b n)];exact n,fun b u q _=>?_,
   fun b xs q=>by rw[ah (hm b _ q fun z=>z)];exact q,fun b u xs q=>by rw[ah (hm b _ q fun z=>z)];exact q,fun b ps q=>⟨#[],by rw[ah (hm b _ q fun z=>z),q];simp⟩⟩
 by_cases rP:b=e
 . subst rP;exact PN
 . exact⟨u,k b u rP q⟩
end
def bJ (h:Heap)(H:Hp):List Addr:=(List.range h.objs.size).filter fun a=>(H a).isSome
def wJ (h:Heap)(H:Hp):Heap:=W.hideAll h (bJ h H)
theorem Dj (h:Heap)(H:Hp):(wJ h H).objs.size=h.objs.size:=W.hideAll_size _ _
theorem EX {h:Heap}{H:Hp}{b:Addr}{o:Obj}(e:h.get? b=some o)(n:H b=none):(wJ h H).get? b=some o:=
 W.hideAll_get _ e fun hm=>by
   have q:(H b).isSome=true:=(List.mem_filter.mp hm).2
   rw[n] at q;simp at q
theorem Jb {h:Heap}{H:Hp}{b:Addr}{o:Obj}(e:(wJ h H).get? b=some o):h.get? b=some o/\H b=none:=by
 have e':h.get? b=some o:=W.of_hideAll (bJ h H) e
 refine⟨e',?_⟩
 cases q:H b with
 | none=>rfl
 | some x=>
   have hm:b∈bJ h H:=List.mem_filter.mpr ⟨List.mem_range.mpr (Heap.lt_size e'),by simp[q]⟩
   have z:(wJ h H).get? b=none:=W.hideAll_none (bJ h H) hm
   rw[z] at e;cases e
def Jc (g h:Heap)(L:Addr):List (Addr×Obj):=(List.range h.objs.size).filterMap fun a=>if a=L\/(g.get? a).isSome=true then none else (h.get? a).map fun o=>(a,o)
def rest (g h:Heap)(L d:Addr):List (Addr×Obj):=(Jc g h L).filter fun p=>decide (p.1≠d)
structure Mod (K:W.Frag)(mg:Str->Option Value)(base:Heap):Prop where
 Qg:K.In base
 glob:base.Ns mainGlobals mg
 blt:∃ mb,base.Ns builtinsNs mb/\∀ x:Str,x≠"__name__"->mb x=bootBuiltins x
 nolimit:base.NoLimit
structure Cx where
 prog:Program
 w:World
 K:W.Frag
 mg:Str->Option Value
 base:Heap
 A:Around
 N:List Str
 s₀:Shared
 H₀:Hp
 env:Env
 outer:List Env
 stack:List Env
 ex:List Addr
 fn:Str->Bool
 calm:Bool
 pn:List (Addr×Obj)
 xe:Value->Shared->Prop
def EY (l:List Env):List Addr:=l.filterMap (·.frame)
abbrev Cx.fs (X:Cx):List Addr:=EY X.outer
def sU (sc:Scope)(x:Str):Prop:=sc.names.lookup x=some .local\/sc.names.lookup x=some .cell\/sc.names.lookup x=some .free
def Loc (sc:Scope)(x:Str):Prop:=sc.names.lookup x=some .local\/sc.names.lookup x=some .cell
def Look (env:Env)(h:Heap)(m:Str->Option Value)(x:Str)(u:Value):Prop:=
 (env.kindOf x=some .local/\m x=some u)\/((env.kindOf x=some .cell\/env.kindOf x=some .free)/\∃ c,env.cells.lookup x=some c/\h.IsCell c (some u))
structure Cx.Ok (X:Cx):Prop where
 mod:Mod X.K X.mg X.base
 kind:X.env.scope.kind=.function
 glob:X.env.globals=mainGlobals
 blt:X.env.builtins=builtinsNs
 above:X.s₀.heap.objs.size<=X.env.locals
 inj:∀ x y c,X.env.cells.lookup x=some c->X.env.cells.lookup y=some c->x=y
 has:∀ x,(X.env.kindOf x=some .cell\/X.env.kindOf x=some .free)->∃ c,X.env.cells.lookup x=some c
 PQ:∀ x c,X.fn x=true->X.env.cells.lookup x=some c->X.s₀.heap.objs.size<=c
 hd:X.calm=true->X.A.handled=none
 frames:X.A.frames=some X.stack
 Qh:X.stack=X.outer\/(X.stack=X.env::X.outer/\X.env.frame=some X.env.locals)
 Jd:∀ b∈X.ex,b≠X.env.locals/\∀ x c,X.env.cells.lookup x=some c->c≠b
 bs:∀ b o,X.base.get? b=some o->X.s₀.heap.get? b=some o/\X.H₀ b=none
 BW:X.base.objs.size<=X.s₀.heap.objs.size
 yF:∀ b o,X.base.get? b=some o->b ∉ X.ex
 yG:∀ b∈X.ex,b ∉ X.fs
 p0:X.s₀.heap.FunFrames X.base X.outer
 Ly:∀ b∈X.fs,X.H₀ b=none
structure Inv (X:Cx)(pins:List (Addr×Obj))(σ:List (Option V))(H:Hp)(s:Shared):Prop where
 ok:X.Ok
 os:s.os=X.s₀.os
 bare:AllBare s.gens
 base:Un X.fs X.ex X.H₀ H X.s₀.heap s.heap
 loc:∃ m,s.heap.Ns X.env.locals m/\∀ (i:Nat) (x:Str) (v:V),X.N[i]?=some x->σ[i]?=some (some v)->sU X.env.scope x->∃ u,RelV v u/\Look X.env s.heap m x u
 cell:∀ x c,X.env.cells.lookup x=some c->∃ v,s.heap.IsCell c v
 free:H X.env.locals=none
 n9:∀ x c,X.env.cells.lookup x=some c->H c=none
 pin:∀ p∈X.pn ++ pins,s.heap.get? p.1=some p.2/\H p.1=none/\p.1≠X.env.locals/\p.1 ∉ X.fs/\∀ v,p.2.data≠.cell v
 aZ:oZ X.prog X.w H s.heap
 len:σ.length=X.N.length
section
variable {X:Cx}{pins:List (Addr×Obj)}{σ:List (Option V)}{H H':Hp}{s:Shared}{h':Heap}
theorem Cx.Ok.ML (ok:X.Ok){b:Addr}{o:Obj}(e:X.base.get? b=some o):b ∉ X.fs:=fun hb=>by
 have:=(ok.p0.mem hb).1
 rw[e] at this;cases this
theorem Inv.bs (I:Inv X pins σ H s):∀ b o,X.base.get? b=some o->s.heap.get? b=some o/\H b=none:=fun b o e=>
 ⟨I.base.keep b o (I.ok.bs b o e).1 (I.ok.bs b o e).2 (I.ok.ML e) (I.ok.yF b o e),I.base.free b o (I.ok.bs b o e).1 (I.ok.bs b o e).2 (I.ok.yF b o e)⟩
theorem Inv.bk (I:Inv X pins σ H s):∀ b o,X.base.get? b=some o->s.heap.get? b=some o:=fun b o e=>(I.bs b o e).1
theorem Inv.mod (I:Inv X pins σ H s):Mod X.K X.mg X.base:=I.ok.mod
theorem Inv.lH (I:Inv X pins σ H s):X.K.In s.heap:=I.ok.mod.Qg.keeps I.bk
theorem Inv.lt (I:Inv X pins σ H s):X.env.locals < s.heap.objs.size:=let ⟨_,hn,_⟩:=I.loc;hn.lt
theorem Inv.sz (I:Inv X pins σ H s):X.s₀.heap.objs.size<=s.heap.objs.size:=Nat.le_trans I.ok.above (Nat.le_of_lt I.lt)
theorem Inv.Uo (I:Inv X pins σ H s){a:Addr}(h:s.heap.objs.size<=a):a ∉ X.fs:=fun hb=>by
 obtain⟨_,o,ho,_⟩:=I.ok.p0.mem hb
 exact absurd (Nat.lt_of_lt_of_le (Heap.lt_size ho) (Nat.le_trans I.sz h)) (Nat.lt_irrefl _)
theorem Inv.Av (I:Inv X pins σ H s):∀ x c,X.env.cells.lookup x=some c->c≠X.env.locals:=fun x c e z=>by
 obtain⟨v,o,ho,hd⟩:=I.cell x c e
 obtain⟨m,⟨o',es,ep,AB,PR,_⟩,_⟩:=I.loc
 rw[z,AB] at ho;cases ho;rw[PR] at hd;cases hd
theorem Inv.p0 (I:Inv X pins σ H s):s.heap.FunFrames X.base X.outer:=by
 have all:∀ (l:List Env),(∀ b∈EY l,b∈X.fs)->X.s₀.heap.FunFrames X.base l->s.heap.FunFrames X.base l:=by
   intro l
   induction l with
   | nil=>intro _ _;trivial
   | cons env r ih=>
     intro hs hl
     obtain⟨hk,⟨L,o,hf,hn,ho,hd⟩,hr⟩:=hl
     have hL:L∈X.fs:=hs L (by unfold EY;rw[List.filterMap_cons,hf];exact List.mem_cons_self)
     obtain⟨sl,e⟩:=I.base.slot L o ho (I.ok.Ly L hL) hL fun z=>I.ok.yG L z hL
     exact⟨hk,⟨L,_,hf,hn,e,hd⟩,ih (fun b hb=>hs b (by unfold EY;rw[List.filterMap_cons,hf];exact List.mem_cons_of_mem _ hb)) hr⟩
 exact all X.outer (fun _ hb=>hb) I.ok.p0
theorem Inv.stack (I:Inv X pins σ H s):s.heap.FunFrames X.base X.stack:=by
 rcases I.ok.Qh with e | ⟨e,hf⟩
 . rw[e];exact I.p0
 . rw[e]
   obtain⟨m,hn,_⟩:=I.loc
   refine .cons (by rw[I.ok.kind];decide) hf hn ?_ I.p0
   exact Heap.get?_none_of_le (Nat.le_trans I.ok.BW I.ok.above)
theorem Inv.sV (I:Inv X pins σ H s):∀ b∈EY X.stack,b∈X.env.locals::X.fs:=fun b hb=>by
 rcases I.ok.Qh with e | ⟨e,hf⟩
 . rw[e] at hb;exact List.mem_cons_of_mem _ hb
 . rw[e] at hb
   unfold EY at hb
   rw[List.filterMap_cons,hf] at hb
   exact hb
theorem Inv.rQ (I:Inv X pins σ H s):∀ b∈EY X.stack,H b=none:=fun b hb=>by
 rcases List.mem_cons.mp (I.sV b hb) with e | hb
 . rw[e];exact I.free
 . obtain⟨_,o,ho,_⟩:=I.ok.p0.mem hb
   exact I.base.free b o ho (I.ok.Ly b hb) fun z=>I.ok.yG b z hb
theorem Inv.step {g':Array GenState}{t':Nat}{d':Drawn}{ch:List Addr}(I:Inv X pins σ H s)(yx:∀ b∈ch,(b∈X.ex\/X.s₀.heap.objs.size<=b)/\b≠X.env.locals/\(∀ x c,X.env.cells.lookup x=some c->c≠b)/\∀ p∈X.pn ++ pins,p.1≠b)(keep:∀ b o,b≠X.env.locals->b ∉ X.fs->b ∉ ch->s.heap.get? b=some o->H b=none->h'.get? b=some o)(slot:∀ b o,b≠X.env.locals->b∈X.fs->b ∉ ch->s.heap.get? b=some o->H b=none->∃ sl,h'.get? b=some { o with slots:=sl})(free:∀ b o,b ∉ ch->s.heap.get? b=some o->H b=none->H' b=none)(there:∀ b o,b ∉ ch->s.heap.get? b=some o->∃ o',h'.get? b=some o')(yD:∀ b xs,H b=some (.tup xs)->H' b=some (.tup xs))(wI:∀ b o u,H b=some (.bh o u)->H' b=some (.bh o u))(yE:∀ b ps,H b=some (.MI ps)->∃ more,H' b=some (.MI (ps ++ more)))(ns:∀ m,s.heap.Ns X.env.locals m->h'.Ns X.env.locals m)(aZ:oZ X.prog X.w H' h')(hg:AllBare g'):Inv X pins σ H' { s with heap:=h',gens:=g',drawn:=d',toks:=t'}:=by
 have WX:∀ b o,X.s₀.heap.get? b=some o->b≠X.env.locals:=fun b o e=>Nat.ne_of_lt (Nat.lt_of_lt_of_le (Heap.lt_size e) I.ok.above)
 have To:∀ b o,X.s₀.heap.get? b=some o->b ∉ X.ex->b ∉ ch:=fun b o e hx hb=>by
   rcases (yx b hb).1 with z | z
   . exact hx z
   . exact absurd (Nat.lt_of_lt_of_le (Heap.lt_size e) z) (Nat.lt_irrefl _)
 have cellK:∀ x c,X.env.cells.lookup x=some c->∀ v,s.heap.IsCell c v->h'.IsCell c v:=fun x c e v ⟨o,ho,hd⟩=>by
   have Qi:c ∉ ch:=fun z=>(yx c z).2.2.1 x c e rfl
   by_cases hc:c∈X.fs
   . obtain⟨sl,q⟩:=slot c o (I.Av x c e) hc Qi ho (I.n9 x c e)
     exact⟨_,q,hd⟩
   . exact⟨o,keep c o (I.Av x c e) hc Qi ho (I.n9 x c e),hd⟩
 refine⟨I.ok,I.os,hg,⟨fun b o e n hb hx=>?_,fun b o e n hb hx=>?_,fun b o e n hx=>?_,fun b o e hx=>?_,fun b xs e=>yD b xs (I.base.yD b xs e),fun b o xs e=>wI b o xs (I.base.wI b o xs e),fun b ps e=>?_⟩,?_,fun x c e=>?_,?_,fun x c e=>?_,fun p hp=>?_,aZ,I.len⟩
 . exact keep b o (WX b o e) hb (To b o e hx) (I.base.keep b o e n hb hx) (I.base.free b o e n hx)
 . obtain⟨sl,e1⟩:=I.base.slot b o e n hb hx
   obtain⟨Yt,e2⟩:=slot b _ (WX b o e) hb (To b o e hx) e1 (I.base.free b o e n hx)
   exact⟨Yt,e2⟩
 . obtain⟨o',e1⟩:=I.base.there b o e hx
   exact free b o' (To b o e hx) e1 (I.base.free b o e n hx)
 . obtain⟨o',e1⟩:=I.base.there b o e hx
   exact there b o' (To b o e hx) e1
 . obtain⟨m1,e1⟩:=I.base.yE b ps e
   obtain⟨m2,e2⟩:=yE b _ e1
   exact⟨m1 ++ m2,by rw[e2,Array.append_assoc]⟩
 . obtain⟨m,hn,hl⟩:=I.loc
   refine⟨m,ns m hn,fun i x v e1 e2 e3=>?_⟩
   obtain⟨u,r,l⟩:=hl i x v e1 e2 e3
   refine⟨u,r,?_⟩
   rcases l with l | ⟨k,c,e,z⟩
   . exact .inl l
   . exact .inr ⟨k,c,e,cellK x c e _ z⟩
 . obtain⟨v,z⟩:=I.cell x c e
   exact⟨v,cellK x c e v z⟩
 . obtain⟨m,⟨o,_,_,ho,_⟩,_⟩:=I.loc
   exact free _ o (fun z=>(yx _ z).2.1 rfl) ho I.free
 . obtain⟨v,o,ho,hd⟩:=I.cell x c e
   exact free c o (fun z=>(yx c z).2.2.1 x c e rfl) ho (I.n9 x c e)
 . obtain⟨e,n,ne,nf,d⟩:=I.pin p hp
   have Qi:p.1 ∉ ch:=fun z=>(yx p.1 z).2.2.2 p hp rfl
   exact⟨keep p.1 p.2 ne nf Qi e n,free p.1 p.2 Qi e n,ne,nf,d⟩
theorem Inv.un {t':Nat}(I:Inv X pins σ H s)(u:Un X.fs [] H H' s.heap h')(aZ:oZ X.prog X.w H' h'):Inv X pins σ H' { s with heap:=h',toks:=t'}:=by
 obtain⟨m,⟨o,es,ep,ho,r⟩,_⟩:=id I.loc
 obtain⟨sl,hL⟩:=u.any ho I.free (by simp)
 exact I.step (g':=s.gens) (d':=s.drawn) (ch:=[]) (fun _ z=>nomatch z) (fun b o _ hb _ e n=>u.keep b o e n hb (by simp)) (fun b o _ hb _ e n=>u.slot b o e n hb (by simp)) (fun b o _ e n=>u.free b o e n (by simp)) (fun b o _ e=>u.there b o e (by simp)) u.yD u.wI u.yE (fun m' hm=>by
   obtain⟨o',Je,Up,AB,r'⟩:=hm
   rw[ho] at AB;cases AB
   exact⟨_,Je,Up,hL,r'⟩) aZ I.bare
theorem Inv.call {g':Array GenState}{t':Nat}{d':Drawn}{ch:List Addr}(I:Inv X pins σ H s)(u:Un (EY X.stack) ch H H' s.heap h')(aZ:oZ X.prog X.w H' h')(hg:AllBare g')(yx:∀ b∈ch,(b∈X.ex\/X.s₀.heap.objs.size<=b)/\b≠X.env.locals/\(∀ x c,X.env.cells.lookup x=some c->c≠b)/\∀ p∈X.pn ++ pins,p.1≠b):Inv X pins σ H' { s with heap:=h',gens:=g',drawn:=d',toks:=t'}:=by
 obtain⟨m,⟨o,es,ep,ho,r⟩,_⟩:=id I.loc
 obtain⟨sl,hL⟩:=u.any ho I.free fun z=>(yx _ z).2.1 rfl
 exact I.step (ch:=ch) yx (fun b o hL hb hc e n=>u.keep b o e n (fun z=>(List.mem_cons.mp (I.sV b z)).elim hL hb) hc) (fun b o _ _ hc e n=>u.any e n hc) (fun b o hc e n=>u.free b o e n hc) (fun b o hc e=>u.there b o e hc) u.yD u.wI u.yE (fun m' hm=>by
   obtain⟨o',Je,Up,AB,r'⟩:=hm
   rw[ho] at AB;cases AB
   exact⟨_,Je,Up,hL,r'⟩) aZ hg
theorem Inv.turned {t':Nat}{it:Addr}(I:Inv X pins σ H s)(k:∀ b o,b≠it->s.heap.get? b=some o->h'.get? b=some o)(hn:H it=none)(hL:it≠X.env.locals)(h1:it∈X.ex\/X.s₀.heap.objs.size<=it)(h2:∀ x c,X.env.cells.lookup x=some c->c≠it)(h3:∀ p∈X.pn ++ pins,p.1≠it):Inv X pins σ H { s with heap:=h',toks:=t'}:=by
 have Qj:∀ b u,H b=some u->b≠it:=fun b u e z=>by rw[z,hn] at e;cases e
 refine I.step (g':=s.gens) (d':=s.drawn) (ch:=[it]) (fun b hb=>?_) (fun b o _ _ hc e _=>k b o (fun z=>hc (by simp[z])) e) (fun b o _ _ hc e _=>⟨o.slots,k b o (fun z=>hc (by simp[z])) e⟩) (fun _ _ _ _ n=>n)
   (fun b o hc e=>⟨o,k b o (fun z=>hc (by simp[z])) e⟩) (fun _ _ e=>e) (fun _ _ _ e=>e) (fun b ps e=>⟨#[],by rw[e];simp⟩) (fun m hm=>?_) (fun b u e=>?_) I.bare
 . have e:b=it:=by simpa using hb
   subst e
   exact⟨h1,hL,h2,h3⟩
 . obtain⟨o,es,ep,ho,r⟩:=hm
   exact⟨o,es,ep,k _ o (Ne.symm hL) ho,r⟩
 . refine(I.aZ b u e).wG (fun c v hc q=>k c v ?_ q) (fun _ q=>q) (fun _ _ q=>q) .refl
   rcases hc with z | z | z
   . rw[z];exact Qj b u e
   . exact Qj c _ z
   . exact fun z'=>by rw[z',hn] at z;exact z
theorem Inv.tok (I:Inv X pins σ H s)(t:Nat):Inv X pins σ H { s with toks:=t}:=I.un (h':=s.heap) (t':=t) Un.refl I.aZ
theorem Inv.kept {t':Nat}(I:Inv X pins σ H s)(k:∀ b u,s.heap.get? b=some u->h'.get? b=some u):Inv X pins σ H { s with heap:=h',toks:=t'}:=I.un (Un.kept k) (I.aZ.kept k)
theorem Inv.laid {a:Addr}{o:HO}{t':Nat}(I:Inv X pins σ H s)(k:∀ b u,s.heap.get? b=some u->h'.get? b=some u)(hp:s.heap.objs.size<=a)(new:aJ X.prog X.w (upd H a o) h' a o):Inv X pins σ (upd H a o) { s with heap:=h',toks:=t'}:=I.un (Un.laid k hp (I.aZ.fresh hp)) (I.aZ.laid k hp new)
theorem Inv.write {x e:Addr}{o:HO}{t':Nat}(I:Inv X pins σ H s)(mu:PM (H x))(he:e=x\/H e=some (.own x))(k:∀ b u,b≠e->s.heap.get? b=some u->h'.get? b=some u)(PN:∃ u,h'.get? e=some u)(new:aJ X.prog X.w (upd H x o) h' x o):Inv X pins σ (upd H x o) { s with heap:=h',toks:=t'}:=I.un (Un.write mu he k PN) (I.aZ.write mu he k PN new)
theorem Inv.BX {EZ:List (Addr×Obj)}(I:Inv X pins σ H s)(h:∀ p∈EZ,s.heap.get? p.1=some p.2/\H p.1=none/\p.1≠X.env.locals/\p.1 ∉ X.fs/\∀ v,p.2.data≠.cell v):Inv X EZ σ H s:=
 ⟨I.ok,I.os,I.bare,I.base,I.loc,I.cell,I.free,I.n9,fun p hp=>(List.mem_append.mp hp).elim (fun z=>I.pin p (List.mem_append_left _ z)) (h p),I.aZ,I.len⟩
theorem yH {N:List Str}(hN:N.Nodup){i j:Nat}{x:Str}(a:N[i]?=some x)(b:N[j]?=some x):i=j:=by
 obtain⟨h1,e1⟩:=List.getElem?_eq_some_iff.mp a
 obtain⟨h2,e2⟩:=List.getElem?_eq_some_iff.mp b
 exact(List.getElem_inj hN).mp (e1.trans e2.symm)
theorem p7 {M:Model}{A:Around}{E:Value->Shared->Prop}{i:Nat}{x:Str}{v:V}{u:Value}{Q:Unit->Shared->Prop}(I:Inv X pins σ H s)(hN:X.N.Nodup)(hi:X.N[i]?=some x)(hx:Loc X.env.scope x)(r:RelV v u)(h:∀ s',Inv X pins (σ.set i (some v)) H s'->(∃ a,Heap.SameBut a s.heap s'.heap/\(a=X.env.locals\/X.env.cells.lookup x=some a))->Q () s')(hf:X.fn x=true\/X.env.scope.names.lookup x=some .local:=by first | exact .inl rfl | exact .inr rfl | assumption):wpAny M A (storeName X.env x u) Q E s:=by
 obtain⟨m,hn,hl⟩:=id I.loc
 have Uq:(X.env.scope.kind == .class || (X.env.scope.kind == .module && X.env.locals != X.env.globals))=false:=by rw[I.ok.kind];rfl
 have WY:i < σ.length:=by rw[I.len];exact(List.getElem?_eq_some_iff.mp hi).1
 have Av:=I.Av
 have tracked:∀ {a:Addr} {h':Heap},(∃ o,s.heap.get? a=some o/\H a=none)->Heap.SameBut a s.heap h'->oZ X.prog X.w H h':=fun {a h'} ha hs b ob e=>by
   obtain⟨_,_,E1⟩:=ha
   refine(I.aZ b ob e).wG (fun c w' hc q=>(hs.2 c ?_).trans q) (fun _ q=>q) (fun _ _ q=>q) .refl
   rintro rfl
   rcases hc with rfl | hc | hc
   . rw[E1] at e;cases e
   . rw[E1] at hc;cases hc
   . rw[E1] at hc;exact hc
 rcases hx with hk | hk
 . refine wpAny_storeName_local hk hn (fun h' PU hs=>?_) Uq
   obtain⟨oL,_,_,Yu,_⟩:=id hn
   refine h _ ⟨I.ok,I.os,I.bare,⟨fun b o e n hb hx=>?_,fun b o e n hb hx=>?_,I.base.free,fun b o e hx=>?_,I.base.yD,I.base.wI,I.base.yE⟩,⟨_,PU,fun j y v' e1 e2 e3=>?_⟩,fun y c e=>?_,I.free,I.n9,fun p hp=>?_,tracked ⟨oL,Yu,I.free⟩ hs,by simpa using I.len⟩ ⟨_,hs,.inl rfl⟩
   . exact(hs.2 b (Nat.ne_of_lt (Nat.lt_of_lt_of_le (Heap.lt_size e) I.ok.above))).trans (I.base.keep b o e n hb hx)
   . obtain⟨sl,e1⟩:=I.base.slot b o e n hb hx
     exact⟨sl,(hs.2 b (Nat.ne_of_lt (Nat.lt_of_lt_of_le (Heap.lt_size e) I.ok.above))).trans e1⟩
   . obtain⟨o',e1⟩:=I.base.there b o e hx
     exact⟨o',(hs.2 b (Nat.ne_of_lt (Nat.lt_of_lt_of_le (Heap.lt_size e) I.ok.above))).trans e1⟩
   . by_cases hj:j=i
     . subst hj
       rw[hi] at e1;cases e1
       rw[List.getElem?_set_self WY] at e2
       cases e2
       exact⟨u,r,.inl ⟨hk,by simp⟩⟩
     . rw[List.getElem?_set_ne (Ne.symm hj)] at e2
       obtain⟨u',r',q⟩:=hl j y v' e1 e2 e3
       refine⟨u',r',?_⟩
       rcases q with⟨k,e⟩ | ⟨k,c,e,z⟩
       . refine .inl ⟨k,?_⟩
         have:y≠x:=fun e=>hj (yH hN e1 (e ▸ hi))
         simp[this,e]
       . exact .inr ⟨k,c,e,z.sameBut hs (Av y c e)⟩
   . obtain⟨w',z⟩:=I.cell y c e
     exact⟨w',z.sameBut hs (Av y c e)⟩
   . obtain⟨e,n,ne,nf,d⟩:=I.pin p hp
     exact⟨(hs.2 p.1 ne).trans e,n,ne,nf,d⟩
 . have Ur:X.fn x=true:=by
     rcases hf with z | z
     . exact z
     . rw[z] at hk;cases hk
   obtain⟨c,hc⟩:=I.ok.has x (.inl hk)
   obtain⟨w',z⟩:=I.cell x c hc
   refine wpAny_storeName_cell I.ok.kind hk hc z (fun h' Aw hs=>?_)
   obtain⟨oc,BY,Us⟩:=id z
   refine h { s with heap:=h'} ⟨I.ok,I.os,I.bare,⟨fun b o e n hb hx=>?_,fun b o e n hb hx=>?_,I.base.free,fun b o e hx=>?_,I.base.yD,I.base.wI,I.base.yE⟩,⟨m,hn.sameBut hs (Ne.symm (Av x c hc)),fun j y v' e1 e2 e3=>?_⟩,fun y c' e=>?_,I.free,I.n9,fun p hp=>?_,tracked ⟨oc,BY,I.n9 x c hc⟩ hs,by simpa using I.len⟩ ⟨c,hs,.inr hc⟩
   . exact(hs.2 b (Nat.ne_of_lt (Nat.lt_of_lt_of_le (Heap.lt_size e) (I.ok.PQ x c Ur hc)))).trans (I.base.keep b o e n hb hx)
   . obtain⟨sl,e1⟩:=I.base.slot b o e n hb hx
     exact⟨sl,(hs.2 b (Nat.ne_of_lt (Nat.lt_of_lt_of_le (Heap.lt_size e) (I.ok.PQ x c Ur hc)))).trans e1⟩
   . obtain⟨o',e1⟩:=I.base.there b o e hx
     exact⟨o',(hs.2 b (Nat.ne_of_lt (Nat.lt_of_lt_of_le (Heap.lt_size e) (I.ok.PQ x c Ur hc)))).trans e1⟩
   . by_cases hj:j=i
     . subst hj
       rw[hi] at e1;cases e1
       rw[List.getElem?_set_self WY] at e2
       cases e2
       exact⟨u,r,.inr ⟨.inl hk,c,hc,Aw⟩⟩
     . rw[List.getElem?_set_ne (Ne.symm hj)] at e2
       obtain⟨u',r',q⟩:=hl j y v' e1 e2 e3
       refine⟨u',r',?_⟩
       rcases q with q | ⟨k,c',e,z'⟩
       . exact .inl q
       . refine .inr ⟨k,c',e,z'.sameBut hs ?_⟩
         rintro rfl
         exact hj (yH hN e1 (I.ok.inj _ _ _ e hc ▸ hi))
   . by_cases Qk:c'=c
     . subst Qk;exact⟨_,Aw⟩
     . obtain⟨w2,z2⟩:=I.cell y c' e
       exact⟨w2,z2.sameBut hs Qk⟩
   . obtain⟨e,n,ne,nf,d⟩:=I.pin p hp
     refine⟨(hs.2 p.1 ?_).trans e,n,ne,nf,d⟩
     intro q
     rw[q,BY] at e
     have q':oc=p.2:=Option.some.inj e
     exact d w' (by rw[<- q'];exact Us)
theorem yI {M:Model}{A:Around}{E:Value->Shared->Prop}{i:Nat}{x:Str}{v:V}{u:Value}{Q:Unit->Shared->Prop}(I:Inv X pins σ H s)(hN:X.N.Nodup)(hi:X.N[i]?=some x)(hx:Loc X.env.scope x)(r:RelV v u)(h:∀ s',Inv X pins (σ.set i (some v)) H s'->Q () s')(hf:X.fn x=true\/X.env.scope.names.lookup x=some .local:=by first | exact .inl rfl | exact .inr rfl | assumption):wpAny M A (storeName X.env x u) Q E s:=
 p7 I hN hi hx r (fun s' I' _=>h s' I') hf
theorem Inv.E2 {s':Shared}{ch:List Addr}(I:Inv X pins σ H s)(ho:s'.os=s.os)(u:Un (EY X.stack) ch H H' s.heap s'.heap)(aZ:oZ X.prog X.w H' s'.heap)(hg:AllBare s'.gens)(yx:∀ b∈ch,(b∈X.ex\/X.s₀.heap.objs.size<=b)/\b≠X.env.locals/\(∀ x c,X.env.cells.lookup x=some c->c≠b)/\∀ p∈X.pn ++ pins,p.1≠b):Inv X pins σ H' s':=by
 obtain⟨h',g',d',t',o'⟩:=s'
 have e:o'=s.os:=ho
 subst e
 exact I.call (g':=g') (t':=t') (d':=d') u aZ hg yx
end
abbrev XK:=Value->Option Addr->Hp->Prop
abbrev St:=List (Option V)
abbrev VK:=V->Hp->Prop
abbrev TE:=St->Hp->VK->Prop
abbrev TT:=St->Hp->(Bool->Hp->Prop)->Prop
abbrev TA:=St->Hp->(List V->Hp->Prop)->Prop
structure Ends where
 nx:St->Hp->Prop
 rt:VK
 bk:St->Hp->Prop:=fun _ _=>False
 ct:St->Hp->Prop:=fun _ _=>False
abbrev TS:=Ends->St->Hp->Prop
def EP (X:Cx)(pins:List (Addr×Obj))(σ:St)(Q:VK)(u:Value)(s':Shared):Prop:=∃ v H',Inv X pins σ H' s'/\RelV v u/\Q v H'
def TP (X:Cx)(pins:List (Addr×Obj))(σ:St)(Q:Bool->Hp->Prop)(b:Bool)(s':Shared):Prop:=∃ H',Inv X pins σ H' s'/\Q b H'
def AP (X:Cx)(pins:List (Addr×Obj))(σ:St)(Q:List V->Hp->Prop)(us:List Value)(s':Shared):Prop:=∃ vs H',Inv X pins σ H' s'/\Vals vs us/\Q vs H'
def SP (X:Cx)(pins:List (Addr×Obj))(D:Ends)(f:Flow)(s':Shared):Prop:=
 match f with
 | .next=>∃ σ' H',Inv X pins σ' H' s'/\D.nx σ' H'
 | .brk=>∃ σ' H',Inv X pins σ' H' s'/\D.bk σ' H'
 | .cont=>∃ σ' H',Inv X pins σ' H' s'/\D.ct σ' H'
 | .ret u=>∃ v σ' H',Inv X pins σ' H' s'/\RelV v u/\D.rt v H'
def PE (X:Cx)(e:Expr)(t:TE):Prop:=
 ∀ (pins:List (Addr×Obj)) (s:Shared) (σ:St) (H:Hp) (Q:VK),Inv X pins σ H s->t σ H Q->wpAny (model X.prog X.w) X.A (eval e X.env) (EP X pins σ Q) X.xe s
def PT (X:Cx)(e:Expr)(t:TT):Prop:=
 ∀ (pins:List (Addr×Obj)) (s:Shared) (σ:St) (H:Hp) (Q:Bool->Hp->Prop),Inv X pins σ H s->t σ H Q->wpAny (model X.prog X.w) X.A (isTrue e X.env (eval e X.env)) (TP X pins σ Q) X.xe s
def PW (X:Cx)(e:Expr)(t:TT):Prop:=
 ∀ (whole:Sem Value) (pins:List (Addr×Obj)) (s:Shared) (σ:St) (H:Hp) (Q:Bool->Hp->Prop),Inv X pins σ H s->t σ H Q->wpAny (model X.prog X.w) X.A (isTrue e X.env whole) (TP X pins σ Q) X.xe s
theorem PW.pt {X:Cx}{e:Expr}{t:TT}(h:PW X e t):PT X e t:=h _
def PA (X:Cx)(es:List Expr)(t:TA):Prop:=
 ∀ (pos:Pos) (pins:List (Addr×Obj)) (s:Shared) (σ:St) (H:Hp) (Q:List V->Hp->Prop),Inv X pins σ H s->t σ H Q->wpAny (model X.prog X.w) X.A (spliced (backTo pos (starEach es X.env))) (AP X pins σ Q) X.xe s
def PS (X:Cx)(st:Stmt)(t:TS):Prop:=
 ∀ (pins:List (Addr×Obj)) (s:Shared) (σ:St) (H:Hp) (D:Ends),Inv X pins σ H s->t D σ H->wpAny (model X.prog X.w) X.A (exec st X.env) (SP X pins D) X.xe s
def AD (X:Cx)(st:List Stmt)(t:TS):Prop:=
 ∀ (pins:List (Addr×Obj)) (s:Shared) (σ:St) (H:Hp) (D:Ends),Inv X pins σ H s->t D σ H->wpAny (model X.prog X.w) X.A (execs st X.env) (SP X pins D) X.xe s
theorem bK {α:Type}{t:Sem α}{Q Q':α->Shared->Prop}{M:Model}{A:Around}{E:Value->Shared->Prop}{s:Shared}(h:wpAny M A t Q E s)(hQ:∀ a s,Q a s->Q' a s):wpAny M A t Q' E s:=wpAny_mono h hQ fun _ _ x=>x
section
variable {X:Cx}
def Ut (i:Nat):TE:=fun σ H Q=>∃ v,σ[i]?=some (some v)/\Q v H
def tC (v:V):TE:=fun _ H Q=>Q v H
theorem iy {i:Nat}{x:Str}{pos:Pos}(hN:X.N[i]?=some x)(hv:sU X.env.scope x)(hd:(x == ("__debug__":Str))=false:=by decide)(k7:(x == ("__classdict__":Str))=false:=by decide):PE X (.Name x pos) (Ut i):=by
 intro pins s σ H Q I h
 obtain⟨v,e,h⟩:=h
 obtain⟨m,hn,hl⟩:=I.loc
 obtain⟨u,r,l⟩:=hl i x v hN e hv
 have fin:EP X pins σ Q u s:=⟨v,H,I,r,h⟩
 rcases l with⟨hk,hm⟩ | ⟨hk,c,hc,Lz⟩
 . exact wpAny_Name (wpAny_loadName_local I.ok.kind hk hn hm fin) hd
 . rcases hk with hk | hk
   . exact wpAny_Name (wpAny_loadName_cell I.ok.kind hk hc Lz fin) hd
   . exact wpAny_Name (wpAny_loadName_free I.ok.kind hk hc Lz fin k7) hd
theorem MN {i j pos}:PE X (.Constant (.int i) j pos) (tC (.int i)):=fun _ _ _ H _ I h=>wpAny_Constant_int ⟨.int i,H,I.tok _,⟨_,rfl⟩,h⟩
theorem MO {x j pos}:PE X (.Constant (.str x) j pos) (tC (.str x)):=fun _ _ _ H _ I h=>Calls.Constant_str ⟨.str x,H,I.tok _,⟨_,rfl⟩,h⟩
def Gl (X:Cx)(x:Str):Prop:=X.env.kindOf x=some .globalImplicit
theorem rR {E:Value->Shared->Prop}{pins:List (Addr×Obj)}{s:Shared}{σ:St}{H:Hp}{x:Str}{u:Value}{pos:Pos}{Q:Value->Shared->Prop}(I:Inv X pins σ H s)(hg:Gl X x)(hm:X.mg x=some u)(h:Q u s)(hd:(x == ("__debug__":Str))=false:=by decide):wpAny (model X.prog X.w) X.A (eval (.Name x pos) X.env) Q E s:=
 Calls.Name_function_global I.ok.kind hg (Calls.loadGlobal_global (by rw[I.ok.glob];exact I.mod.glob.keeps I.bk) hm h) hd
theorem oE {E:Value->Shared->Prop}{pins:List (Addr×Obj)}{s:Shared}{σ:St}{H:Hp}{x:Str}{u:Value}{pos:Pos}{Q:Value->Shared->Prop}(I:Inv X pins σ H s)(hg:Gl X x)(hm:X.mg x=none)(hv:bootBuiltins x=some u)(h:Q u s)(hn:x≠"__name__":=by decide)(hd:(x == ("__debug__":Str))=false:=by decide):wpAny (model X.prog X.w) X.A (eval (.Name x pos) X.env) Q E s:=by
 obtain⟨mb,h1,h2⟩:=I.mod.blt
 exact Calls.Name_function_global I.ok.kind hg (Calls.loadGlobal_builtin (by rw[I.ok.glob];exact I.mod.glob.keeps I.bk) hm (by rw[I.ok.blt];exact h1.keeps I.bk) ((h2 x hn).trans hv) h) hd
theorem Jf {x:Str}{v:V}{u:Value}{pos:Pos}(hg:Gl X x)(hm:X.mg x=some u)(r:RelV v u)(hd:(x == ("__debug__":Str))=false:=by decide):PE X (.Name x pos) (tC v):=
 fun _ _ _ H _ I h=>rR I hg hm ⟨v,H,I,r,h⟩ hd
theorem Jg {x:Str}{v:V}{u:Value}{pos:Pos}(hg:Gl X x)(hm:X.mg x=none)(hv:bootBuiltins x=some u)(r:RelV v u)(hn:x≠"__name__":=by decide)(hd:(x == ("__debug__":Str))=false:=by decide):PE X (.Name x pos) (tC v):=
 fun _ _ _ H _ I h=>oE I hg hm hv ⟨v,H,I,r,h⟩ hn hd
variable {a b:Expr}{ta tb:TE}{pos:Pos}
def PC (X:Cx)(op:CmpOp)(a b:Expr)(t:TE):Prop:=
 ∀ (pins:List (Addr×Obj)) (s:Shared) (σ:St) (H:Hp) (Q:VK),Inv X pins σ H s->t σ H Q ->
   wpAny (model X.prog X.w) X.A (eval a X.env) (fun v s₁=>wpAny (model X.prog X.w) X.A (eval b X.env) (fun u s₂=>wpAny (model X.prog X.w) X.A (compareOp op v u) (EP X pins σ Q) X.xe s₂) X.xe s₁) X.xe s
def tB (t:TE):TT:=fun σ H Q=>t σ H fun x H1=>∃ c,x=.bl c/\Q c H1
theorem MP {op:CmpOp}{t:TE}(h:PC X op a b t)(h1:behindInMarks op b=false:=by first | exact Ql _ (by decide) (by decide) | rfl):PT X (.Compare a [op] [b] pos) (tB t):=by
 intro pins s σ H Q I hw
 refine wpAny_isTrue_Compare1 (bK (h pins s σ H _ I hw) fun v s1 h1=>bK h1 fun u s2 h2=>bK h2 fun c s3 ⟨x,H1,I1,r1,q1⟩=>?_) h1
 obtain⟨d,rfl,q⟩:=q1
 cases r1
 exact wpAny_truthy_bool ⟨H1,I1,q⟩
theorem MQ {e:Expr}{t:TE}(h:PE X e t)(he:∀ whole,isTrue e X.env whole=(do let v <- whole;standAt e.pos;holding [v] (truthy v)):=by intro _;rfl):PT X e (tB t):=by
 intro pins s σ H Q I hw
 refine isTrue_plain (bK (h pins s σ H _ I hw) fun v s1 ⟨x,H1,I1,r1,q1⟩=>?_) (he _)
 obtain⟨d,rfl,q⟩:=q1
 cases r1
 exact wpAny_truthy_bool ⟨H1,I1,q⟩
variable {tA Tp:TT}{rest:List Expr}
def Uu (t u:TT):TT:=fun σ H Q=>t σ H fun c H1=>if c=true then u σ H1 Q else Q false H1
def Yv (t u:TT):TT:=fun σ H Q=>t σ H fun c H1=>if c=true then Q true H1 else u σ H1 Q
def Uv (t:TT):TT:=fun σ H Q=>t σ H fun c H1=>Q (!c) H1
theorem pw_and1 (ha:PT X a tA):PW X (.BoolOp .And [a] pos) tA:=by
 intro wh pins s σ H Q I h
 refine isTrue_and (bK (ha pins s σ H Q I h) fun c s1 e=>?_)
 cases c with
 | true=>exact isTrue_and_nil e
 | false=>exact e
theorem pw_or1 (ha:PT X a tA):PW X (.BoolOp .Or [a] pos) tA:=by
 intro wh pins s σ H Q I h
 refine isTrue_or (bK (ha pins s σ H Q I h) fun c s1 e=>?_)
 cases c with
 | false=>exact isTrue_or_nil e
 | true=>exact e
theorem pw_and (ha:PT X a tA)(hb:PW X (.BoolOp .And (b::rest) pos) Tp):PW X (.BoolOp .And (a::b::rest) pos) (Uu tA Tp):=by
 intro wh pins s σ H Q I h
 refine isTrue_and (bK (ha pins s σ H _ I h) fun c s1 ⟨H1,I1,q1⟩=>?_)
 cases c with
 | true=>exact hb wh pins s1 σ H1 Q I1 q1
 | false=>exact⟨H1,I1,q1⟩
theorem pw_or (ha:PT X a tA)(hb:PW X (.BoolOp .Or (b::rest) pos) Tp):PW X (.BoolOp .Or (a::b::rest) pos) (Yv tA Tp):=by
 intro wh pins s σ H Q I h
 refine isTrue_or (bK (ha pins s σ H _ I h) fun c s1 ⟨H1,I1,q1⟩=>?_)
 cases c with
 | true=>exact⟨H1,I1,q1⟩
 | false=>exact hb wh pins s1 σ H1 Q I1 q1
theorem MR (ha:PT X a tA):PT X (.UnaryOp .Not a pos) (Uv tA):=by
 intro pins s σ H Q I h
 exact isTrue_not (ha pins s σ H (fun c H1=>Q (!c) H1) I h)
def Qm (ta tb:TE):TE:=fun σ H Q=>ta σ H fun x H1=>∃ c,x=.bl c/\if c=true then tb σ H1 Q else Q (.bl false) H1
def Qn (ta:TE):TE:=fun σ H Q=>ta σ H fun x H1=>∃ c,x=.bl c/\Q (.bl (!c)) H1
theorem MS {op}{t:TE}(h:PE X a t):PE X (.BoolOp op [a] pos) t:=fun pins s σ H Q I hw=>BoolOp_one (h pins s σ H Q I hw)
theorem E3 (ha:PE X a ta)(hb:PE X (.BoolOp .And (b::rest) pos) tb):PE X (.BoolOp .And (a::b::rest) pos) (Qm ta tb):=by
 intro pins s σ H Q I h
 refine BoolOp_and (bK (ha pins s σ H _ I h) fun v s1 ⟨x,H1,I1,r1,q1⟩=>?_)
 obtain⟨c,rfl,q1⟩:=q1
 cases r1
 refine wpAny_truthy_bool ?_
 cases c with
 | true=>exact hb pins s1 σ H1 Q I1 q1
 | false=>exact⟨.bl false,H1,I1,rfl,q1⟩
theorem MT (ha:PE X a ta):PE X (.UnaryOp .Not a pos) (Qn ta):=by
 intro pins s σ H Q I h
 refine UnaryOp_ (bK (ha pins s σ H _ I h) fun v s1 ⟨x,H1,I1,r1,q1⟩=>?_)
 obtain⟨c,rfl,q1⟩:=q1
 cases r1
 exact not_of (wpAny_truthy_bool ⟨.bl (!c),H1,I1,rfl,q1⟩)
def Yw (t:TT)(ta tb:TE):TE:=fun σ H Q=>t σ H fun c H1=>if c=true then ta σ H1 Q else tb σ H1 Q
theorem yJ {c:Expr}(hc:PT X c tA)(ha:PE X a ta)(hb:PE X b tb):PE X (.IfExp c a b pos) (Yw tA ta tb):=by
 intro pins s σ H Q I h
 refine wpAny_IfExp (bK (hc pins s σ H _ I h) fun d s1 ⟨H1,I1,q1⟩=>?_)
 cases d with
 | true=>exact ha pins s1 σ H1 Q I1 q1
 | false=>exact hb pins s1 σ H1 Q I1 q1
end
def lI (K:W.Frag)(H:Hp)(a:Addr)(xs:List V):Prop:=
 Rd H a (.lst xs) \/
   ∃ (o:Obj) (aD:Array Value) (n:Nat),K.lookup a=some o/\o.cls=.type "list"/\o.dict=none/\o.data=.seq aD n/\aD.size<=sizeLine/\Vals xs aD.toList
abbrev Ax (K:W.Frag)(H:Hp)(a:Addr)(xs:List V):Prop:=TupAt K H a xs
def Uw:Value->Option V
 | .none=>some .cL
 | .bool b=>some (.bl b)
 | .int i _=>some (.int i)
 | .str x _=>some (.str x)
 | .bytes b _=>some (.EC b)
 | .float b _=>some (.MH b)
 | .ref a=>some (.ref a)
 | .type n=>some (.ty n)
 | _=>none
theorem RelV.abs {x:V}{u:Value}(r:RelV x u):Uw u=some x:=by
 cases x with
 | cL=>cases r;rfl
 | bl _=>cases r;rfl
 | int _=>obtain⟨t,rfl⟩:=r;rfl
 | str _=>obtain⟨t,rfl⟩:=r;rfl
 | EC _=>obtain⟨t,rfl⟩:=r;rfl
 | MH _=>obtain⟨t,rfl⟩:=r;rfl
 | ref _=>cases r;rfl
 | ty _=>cases r;rfl
theorem RelV.inj {x y:V}{u:Value}(r:RelV x u)(q:RelV y u):x=y:=Option.some.inj (r.abs.symm.trans q.abs)
theorem Vals.inj:∀ {xs ys:List V} {us:List Value},Vals xs us->Vals ys us->xs=ys
 | _,_,_,.nil,.nil=>rfl
 | _,_,_,.cons r t,.cons r' t'=>by rw[r.inj r',Vals.inj t t']
section
variable {X:Cx}{pins:List (Addr×Obj)}{σ:St}{H:Hp}{s:Shared}{a:Addr}{xs ys:List V}
theorem lI.of {K:W.Frag}(h:H a=some (.lst xs)):lI K H a xs:=.inl (.inl h)
theorem Ax.of {K:W.Frag}(h:H a=some (.tup xs)):Ax K H a xs:=.inl h
theorem Inv.list (I:Inv X pins σ H s)(h:lI X.K H a xs):∃ aD:List Value,Vals xs aD/\PlainL s.heap a aD.toArray/\xs.length<=sizeLine:=by
 rcases h with h | ⟨o,aD,n,hk,hc,hd,hs,hz,r⟩
 . obtain⟨z,aD,n,r,e⟩:=h.ok I.aZ
   exact⟨aD,r,⟨_,n,e,rfl,rfl,rfl⟩,z⟩
 . refine⟨aD.toList,r,⟨o,n,I.lH a o hk,hc,hd,by simpa using hs⟩,?_⟩
   have e:=r.length
   simp only[Array.length_toList] at e
   omega
theorem Inv.tuple (I:Inv X pins σ H s)(h:Ax X.K H a xs):∃ aD:List Value,Vals xs aD/\IsTup s.heap a aD.toArray/\xs.length<=sizeLine:=by
 rcases h with h | ⟨o,aD,n,hk,hc,hs,hz,r⟩
 . obtain⟨z,aD,r,p⟩:=(show aJ X.prog X.w H s.heap a (.tup xs) from I.aZ a _ h)
   exact⟨aD,r,p,z⟩
 . refine⟨aD.toList,r,⟨o,I.lH a o hk,hc,n,by simpa using hs⟩,?_⟩
   have e:=r.length
   simp only[Array.length_toList] at e
   omega
theorem Inv.yK (I:Inv X pins σ H s)(h:lI X.K H a xs)(h':lI X.K H a ys):xs=ys:=by
 obtain⟨aD,r,⟨o,n,e,_,_,d⟩,_⟩:=I.list h
 obtain⟨its',r',⟨o',n',e',_,_,d'⟩,_⟩:=I.list h'
 rw[e] at e';cases e'
 rw[d] at d'
 injection d' with d1 _
 have:aD=its':=by simpa using congrArg Array.toList d1
 subst this
 exact r.inj r'
end
section
variable {X:Cx}{st:Stmt}{rest:List Stmt}{t u:TS}{e:Expr}{te:TE}{pos:Pos}
def Qo:TS:=fun D σ H=>D.nx σ H
def Ux (t u:TS):TS:=fun D σ H=>t { D with nx:=u D} σ H
theorem Jh:AD X [] Qo:=fun _ _ σ H _ I h=>wpAny_execs_nil ⟨σ,H,I,h⟩
theorem mJ (h1:PS X st t)(h2:AD X rest u):AD X (st::rest) (Ux t u):=by
 intro pins s σ H D I h
 refine wpAny_execs_cons (bK (h1 pins s σ H { D with nx:=u D} I h) fun f s1 q=>?_)
 cases f with
 | next=>
   obtain⟨σ',H',I',q⟩:=q
   exact h2 pins s1 σ' H' D I' q
 | ret v=>exact q
 | brk=>exact q
 | cont=>exact q
theorem lJ (h1:PS X st t):AD X [st] t:=by
 intro pins s σ H D I h
 refine wpAny_execs_cons (bK (h1 pins s σ H D I h) fun f s1 q=>?_)
 cases f with
 | next=>exact wpAny_execs_nil q
 | ret v=>exact q
 | brk=>exact q
 | cont=>exact q
theorem Inv.quiet {pins:List (Addr×Obj)}{σ:St}{H:Hp}{s:Shared}(I:Inv X pins σ H s):interactive X.env=false:=by simp[interactive,I.ok.kind]
def Qp (te:TE):TS:=fun D σ H=>te σ H fun _ H1=>D.nx σ H1
theorem kB (he:PE X e te)(hs:swapsWith e none pos.line X.env=pure false:=by rfl):PS X (.Expr e pos) (Qp te):=by
 intro pins s σ H D I h
 exact wpAny_Expr_any (bK (he pins s σ H _ I h) fun v s1 ⟨x,H1,I1,r1,q1⟩=>⟨σ,H1,I1,q1⟩) I.quiet hs
def Uy (te:TE):TS:=fun D σ H=>te σ H D.rt
theorem AE (he:PE X e te):PS X (.Return (some e) pos) (Uy te):=by
 intro pins s σ H D I h
 exact wpAny_Return_some (bK (he pins s σ H _ I h) fun v s1 ⟨x,H1,I1,r1,q1⟩=>⟨x,σ,H1,I1,r1,q1⟩)
def Uz (c:TT)(t u:TS):TS:=fun D σ H=>c σ H fun b H1=>if b=true then t D σ H1 else u D σ H1
theorem LA {c:Expr}{a b:List Stmt}{tc:TT}(hc:PT X c tc)(ha:AD X a t)(hb:AD X b u):PS X (.If c a b pos) (Uz tc t u):=by
 intro pins s σ H D I h
 refine wpAny_If (bK (hc pins s σ H _ I h) fun d s1 ⟨H1,I1,q1⟩=>?_)
 cases d with
 | true=>exact ha pins s1 σ H1 D I1 q1
 | false=>exact hb pins s1 σ H1 D I1 q1
def MU:TS:=fun _ _ _=>False
theorem p8 {sts:List Stmt}:AD X sts MU:=fun _ _ _ _ _ _ h=>h.elim
end
abbrev TG:=V->St->Hp->(St->Hp->Prop)->Prop
abbrev Ji:=List V->St->Hp->(St->Hp->Prop)->Prop
def PG (X:Cx)(target:Expr)(t:TG):Prop:=
 ∀ (pins:List (Addr×Obj)) (s:Shared) (σ:St) (H:Hp) (v:V) (u:Value) (Q:St->Hp->Prop),Inv X pins σ H s->RelV v u->t v σ H Q ->
   wpAny (model X.prog X.w) X.A (assign target X.env u) (fun _ s'=>∃ σ' H',Inv X pins σ' H' s'/\Q σ' H') X.xe s
def Qq (X:Cx)(ts:List Expr)(t:Ji):Prop:=
 ∀ (pins:List (Addr×Obj)) (s:Shared) (σ:St) (H:Hp) (vs:List V) (us:List Value) (Q:St->Hp->Prop),Inv X pins σ H s->Vals vs us->t vs σ H Q ->
   wpAny (model X.prog X.w) X.A (assignInOrder ((assignEach ts X.env).map (·.2)) us) (fun _ s'=>∃ σ' H',Inv X pins σ' H' s'/\Q σ' H') X.xe s
abbrev MV:=V->V->V->Hp->(Hp->Prop)->Prop
def Qr (X:Cx)(t:MV):Prop:=
 ∀ (pins:List (Addr×Obj)) (s:Shared) (σ:St) (H:Hp) (o i v:V) (ov iv u:Value) (Q:Hp->Prop),Inv X pins σ H s->RelV o ov->RelV i iv->RelV v u->t o i v H Q ->
   wpAny (model X.prog X.w) X.A (setItem ov iv u) (fun _ s'=>∃ H',Inv X pins σ H' s'/\Q H') X.xe s
section
variable {X:Cx}{pos:Pos}
def oe (i:Nat):TG:=fun v σ H Q=>Q (σ.set i (some v)) H
theorem bD {i:Nat}{x:Str}(hN:X.N.Nodup)(hi:X.N[i]?=some x)(hx:Loc X.env.scope x)(hf:X.fn x=true\/X.env.scope.names.lookup x=some .local:=by first | exact .inl rfl | exact .inr rfl | assumption):PG X (.Name x pos) (oe i):=by
 intro pins s σ H v u Q I r h
 exact wpAny_assign_Name (yI I hN hi hx r (fun s' I'=>⟨_,H,I',h⟩) hf)
def MW:Ji:=fun vs σ H Q=>vs=[]/\Q σ H
def yL (t:TG)(u:Ji):Ji:=fun vs σ H Q=>∃ v r,vs=v::r/\t v σ H fun σ' H'=>u r σ' H' Q
theorem nh:Qq X [] MW:=by
 intro pins s σ H vs us Q I r h
 obtain⟨e,h⟩:=h
 subst e
 cases r
 exact assignInOrder_nil ⟨σ,H,I,h⟩
theorem c6 {e:Expr}{es:List Expr}{t:TG}{u:Ji}(h1:PG X e t)(h2:Qq X es u)(hs:(assignEach (e::es) X.env).map (·.2)=assign e X.env::(assignEach es X.env).map (·.2):=by rfl):Qq X (e::es) (yL t u):=by
 intro pins s σ H vs us Q I r h
 obtain⟨v,vr,e1,h⟩:=h
 subst e1
 cases r with
 | cons r rr=>
   rw[hs]
   refine assignInOrder_cons (bK (h1 pins s σ H _ _ _ I r h) fun _ s1 ⟨σ1,H1,I1,q1⟩=>?_)
   exact h2 pins s1 σ1 H1 _ _ Q I1 rr q1
def MX (K:W.Frag)(n:Nat)(t:Ji):TG:=fun v σ H Q=>∃ a xs,v=.ref a/\Ax K H a xs/\xs.length=n/\t xs σ H Q
theorem sW {es:List Expr}{k:Nat}{t:Ji}{n:Nat}(hc:X.calm=true)(h:Qq X es t)(hn:(assignEach es X.env).length=n:=by rfl)(mB:(assignEach es X.env).findIdx? (·.1)=none:=by rfl):PG X (.Tuple es k pos) (MX X.K n t):=by
 intro pins s σ H v u Q I r hw
 obtain⟨a,xs,e1,hq,hl,hw⟩:=hw
 subst e1
 cases r
 obtain⟨aD,rv,ht,hz⟩:=I.tuple hq
 refine assign_Tuple_tuple (I.ok.hd hc) ht (by simp[hn,<- hl,rv.length]) mB fun h' hx=>?_
 have I1:Inv X pins σ H { s with heap:=h'}:=I.kept (t':=s.toks) fun b o e=>hx b o (Nat.ne_of_lt (Heap.lt_size e)) e
 exact h pins _ σ H xs _ Q I1 (by simpa using rv) hw
def UA (to ti:TE)(t:MV):TG:=fun v σ H Q=>to σ H fun o H1=>ti σ H1 fun i H2=>t o i v H2 fun H3=>Q σ H3
theorem MY {o i:Expr}{to ti:TE}{t:MV}(ho:PE X o to)(hi:PE X i ti)(hs:Qr X t)
   (ha:∀ v,assign (.Subscript o i pos) X.env v=(do
     let ov <- holding [v] (eval o X.env)
     let iv <- holding [v,ov] (eval i X.env)
     standAt pos
     holding [v,ov,iv] (setItem ov iv v)
     release [v,ov,iv] []):=by intro _;rfl):PG X (.Subscript o i pos) (UA to ti t):=by
 intro pins s σ H v u Q I r h
 rw[ha]
 refine wpAny_bind (wpAny_holding (bK (ho pins s σ H _ I h) fun ov s1 ⟨x,H1,I1,r1,q1⟩=>?_))
 refine wpAny_bind (wpAny_holding (bK (hi pins s1 σ H1 _ I1 q1) fun iv s2 ⟨y,H2,I2,r2,q2⟩=>?_))
 refine wpAny_bind (wpAny_standAt (wpAny_bind (wpAny_holding (bK (hs pins s2 σ H2 x y v ov iv u _ I2 r1 r2 r q2) fun _ s3 ⟨H3,I3,q3⟩=>?_))))
 exact wpAny_release ⟨σ,H3,I3,q3⟩
def Qs (te:TE)(g:TG):TS:=fun D σ H=>te σ H fun x H1=>g x σ H1 D.nx
theorem wK {tg e:Expr}{te:TE}{g:TG}(he:PE X e te)(hg:PG X tg g)(hs:swapsWithSole [tg] e pos.line X.env=pure false:=by rfl)(hw:swappedStores [tg] e X.env=pure none:=by rfl)(h1:(assignEach [tg] X.env).map (·.2)=[assign tg X.env]:=by rfl):PS X (.Assign [tg] e pos) (Qs te g):=by
 intro pins s σ H D I h
 refine wpAny_Assign_stores (bK (he pins s σ H _ I h) fun v s1 ⟨x,H1,I1,r1,q1⟩=>?_) hs hw
 rw[h1]
 exact bK (hg pins s1 σ H1 x v _ I1 r1 q1) fun _ s2 q=>q
theorem AF {i:Nat}{x:Str}{e:Expr}{te:TE}{pos':Pos}(hN:X.N.Nodup)(hi:X.N[i]?=some x)(hx:Loc X.env.scope x)(he:PE X e te)(hs:swapsWith e (some (.Name x pos')) pos.line X.env=pure false:=by rfl)(hf:X.fn x=true\/X.env.scope.names.lookup x=some .local:=by first | exact .inl rfl | exact .inr rfl | assumption):PS X (.Assign [.Name x pos'] e pos) (Qs te (oe i)):=by
 intro pins s σ H D I h
 refine wpAny_Assign_Name (bK (he pins s σ H _ I h) fun v s1 ⟨y,H1,I1,r1,q1⟩=>?_) hs
 exact yI I1 hN hi hx r1 (fun s2 I2=>⟨_,H1,I2,q1⟩) hf
end
section
variable {X:Cx}{pos:Pos}
def MZ (c:TT)(tb:TS):TS:=fun D σ H=>∃ W:Nat->St->Hp->Prop,(∃ m,W m σ H)/\∀ m σ H,W m σ H ->
 c σ H fun b H1=>if b=true then ∃ N:St->Hp->Prop,(∀ σ' H',N σ' H'->∃ m',m' < m/\W m' σ' H')/\tb { D with nx:=N,ct:=N,bk:=D.nx} σ H1 else D.nx σ H1
theorem yM {c:Expr}{body:List Stmt}{tc:TT}{tb:TS}(hp:PassesOwn (model X.prog X.w) X.A X.env X.xe)(hc:PT X c tc)(hb:AD X body tb):PS X (.While c body [] pos) (MZ tc tb):=by
 intro pins s σ H D I h
 obtain⟨W,⟨m0,w0⟩,turn⟩:=h
 refine wpAny_While (codeAny_whileLoop (fun n s'=>∃ σ' H',Inv X pins σ' H' s'/\W n σ' H') ?_ m0 ⟨σ,H,I,w0⟩)
 rintro n s1 ⟨σ1,H1,I1,w1⟩
 refine wpAny_passesOwn hp (bK (hc pins s1 σ1 H1 _ I1 (turn n σ1 H1 w1)) fun b s2 ⟨H2,I2,q2⟩=>?_)
 cases b with
 | true=>
   obtain⟨N,hN,q2⟩:=q2
   rw[if_pos rfl]
   refine wpAny_passesOwn hp (bK (hb pins s2 σ1 H2 _ I2 q2) fun f s3 q3=>?_)
   cases f with
   | next=>
     obtain⟨σ3,H3,I3,n3⟩:=q3
     obtain⟨m',hm,w3⟩:=hN σ3 H3 n3
     exact⟨m',hm,σ3,H3,I3,w3⟩
   | cont=>
     obtain⟨σ3,H3,I3,n3⟩:=q3
     obtain⟨m',hm,w3⟩:=hN σ3 H3 n3
     exact⟨m',hm,σ3,H3,I3,w3⟩
   | brk=>exact q3
   | ret v=>exact q3
 | false=>
   rw[if_neg Bool.false_ne_true]
   exact wpAny_execs_nil ⟨σ1,H2,I2,q2⟩
end
structure It where
 go:Nat->Hp->Prop
 IK:Nat->Hp->V->Hp->Prop
 stop:Nat->Hp->Prop
def j9 (X:Cx)(pins:List (Addr×Obj))(H:Hp)(b:Addr):Prop:=
 H b=none/\b≠X.env.locals/\b ∉ X.fs/\(b∈X.ex\/X.s₀.heap.objs.size<=b)/\(∀ x c,X.env.cells.lookup x=some c->c≠b)/\∀ p∈X.pn ++ pins,p.1≠b
theorem Inv.u5 {X:Cx}{pins:List (Addr×Obj)}{σ:St}{H H':Hp}{s:Shared}{b:Addr}(I:Inv X pins σ H s)(hb:s.heap.objs.size<=b)(hn:H' b=none):j9 X pins H' b:=by
 refine⟨hn,Nat.ne_of_gt (Nat.lt_of_lt_of_le I.lt hb),I.Uo hb,.inr (Nat.le_trans I.sz hb),fun x c e z=>?_,fun p hp z=>?_⟩
 . obtain⟨v,q⟩:=I.cell x c e
   exact absurd (Nat.lt_of_lt_of_le q.lt (by rw[z];exact hb)) (Nat.lt_irrefl _)
 . exact absurd (Nat.lt_of_lt_of_le (Heap.lt_size (I.pin p hp).1) (by rw[z];exact hb)) (Nat.lt_irrefl _)
structure Turn (P:Program)(w:World)(K:W.Frag)(tg:Expr)(J:It)(fp:List Addr)(it:Addr)(tn:Nat->Heap->Prop):Prop where
 mem:it∈fp
 obj:∀ i h,tn i h->∀ b∈fp,∃ o,h.get? b=some o/\∀ v,o.data≠.cell v
 keep:∀ i h h',tn i h->(∀ b∈fp,∀ o,h.get? b=some o->h'.get? b=some o)->tn i h'
 item:∀ (X:Cx),X.prog=P->X.w=w->X.K=K->X.calm=true->∀ (i:Nat) (pins:List (Addr×Obj)) (s:Shared) (σ:St) (H:Hp) (E:Value->Shared->Prop),Inv X pins σ H s->(∀ b∈fp,j9 X pins H b)->tn i s.heap->J.go i H ->
   wpAny (model P w) X.A (pyNext (.ref it)) (fun r s1=>∃ u,r=some u /\
     wpAny (model P w) X.A (letOwnedTupleGo tg (.ref it) u) (fun _ s2=>∃ x H',Inv X pins σ H' s2/\RelV x u/\J.IK i H x H'/\tn (i+1) s2.heap/\∀ b∈fp,H' b=none) E s1) E s
 done:∀ (X:Cx),X.prog=P->X.w=w->X.K=K->X.calm=true->∀ (i:Nat) (pins:List (Addr×Obj)) (s:Shared) (σ:St) (H:Hp) (E:Value->Shared->Prop),Inv X pins σ H s->(∀ b∈fp,j9 X pins H b)->tn i s.heap->J.stop i H ->
   wpAny (model P w) X.A (pyNext (.ref it)) (fun r s1=>r=none/\Inv X pins σ H s1) E s
 self:∀ (A:Around) (i:Nat) (s:Shared) (Q:Value->Shared->Prop) (E:Value->Shared->Prop),tn i s.heap->Q (.ref it) s->wpAny (model P w) A (pyIter (.ref it)) Q E s
abbrev TI:=St->Hp->(It->Hp->Prop)->Prop
def WZ (X:Cx)(pins:List (Addr×Obj))(σ:St)(tg:Expr)(R:It->Hp->Prop)(M0:Value)(s2:Shared):Prop:=
 ∃ (it:Addr) (fp:List Addr) (tn:Nat->Heap->Prop) (J:It) (H':Hp),M0=.ref it/\Inv X pins σ H' s2/\Turn X.prog X.w X.K tg J fp it tn/\tn 0 s2.heap/\(∀ b∈fp,j9 X pins H' b)/\R J H'
def PI (X:Cx)(tg iter:Expr)(wi:TI):Prop:=
 ∀ (pins:List (Addr×Obj)) (s:Shared) (σ:St) (H:Hp) (R:It->Hp->Prop),Inv X pins σ H s->wi σ H R ->
   wpAny (model X.prog X.w) X.A (eval iter X.env) (fun v s1=>wpAny (model X.prog X.w) X.A (pyIter v) (WZ X pins σ tg R) X.xe s1) X.xe s
theorem BZ {M:Model}{A:Around}{E:Value->Shared->Prop}{s:Shared}{tg:Expr}{it:Addr}{u:Value}{o:Obj}{n:String}{vs:Array Value}{Q:Unit->Shared->Prop}(ho:s.heap.get? it=some o)(hc:o.cls=.type n)(hd:o.data=.fields vs)(hn:["enumerate","zip","dict_itemiterator","dict_reverseitemiterator","odict_iterator","itertools.zip_longest","itertools.pairwise"].contains n=false)(hQ:Q () s):wpAny M A (letOwnedTupleGo tg (.ref it) u) Q E s:=by
 unfold letOwnedTupleGo
 cases tg <;> first
   | exact wpAny_pure hQ
   | (cases u <;> first
       | exact wpAny_pure hQ
       | (refine wpAny_bind (wpAny_load ho ?_)
          rw[hc,hd]
          show wpAny M A (if (["enumerate","zip","dict_itemiterator","dict_reverseitemiterator","odict_iterator","itertools.zip_longest","itertools.pairwise"].contains n && vs[0]? == some (rawInt _))=true then _ else _) Q E s
          rw[if_neg (by intro h;rw[hn,Bool.false_and] at h;cases h)]
          exact wpAny_pure hQ))
def Qt (K:W.Frag)(a:Addr):It:=
 ⟨fun i H=>∃ xs x,lI K H a xs/\xs[i]?=some x,fun i H x H'=>H'=H/\∀ xs,lI K H a xs->xs[i]?=some x,fun i H=>∃ xs,lI K H a xs/\xs.length<=i⟩
def M3 (lo:Int)(n:Nat):It:=⟨fun i _=>i < n,fun i H x H'=>H'=H/\x=.int (lo+i),fun i _=>n<=i⟩
theorem Dl {P:Program}{w:World}{K:W.Frag}{tg:Expr}(a it:Addr):Turn P w K tg (Qt K a) [it] it (fun i h=>h.IsListIter it a i) where
 mem:=by simp
 obj:=fun i h st b hb=>by
   have e:b=it:=by simpa using hb
   subst e
   obtain⟨o,e,c,d⟩:=st
   exact⟨o,e,fun v z=>by rw[d] at z;cases z⟩
 keep:=fun i h h' st k=>st.at fun o e=>k it (by simp) o e
 item:=by
   intro X hP hw hK hc i pins s σ H E I hf st hg
   subst hP hw hK
   obtain⟨xs,x,hq,hx⟩:=hg
   obtain⟨aD,rv,p,hz⟩:=I.list hq
   obtain⟨u,hu,ru⟩:=rv.get hx
   obtain⟨f0,f1,f2,f3,f4,f5⟩:=hf it (by simp)
   refine wpAny_pyNext_list_item st p.isList (x:=u) (by simpa using hu) fun h' ju sb=>?_
   have I1:Inv X pins σ H { s with heap:=h'}:=I.turned (t':=s.toks) (fun b o hb e=>(sb.2 b hb).trans e) f0 f1 f3 f4 f5
   obtain⟨o,e,c,d⟩:=id ju
   exact⟨u,rfl,BZ (s:={ s with heap:=h'}) e c d (by decide) ⟨x,H,I1,ru,⟨rfl,fun ys hy=>by rw[I.yK hy hq];exact hx⟩,ju,fun b hb=>(hf b hb).1⟩⟩
 done:=by
   intro X hP hw hK hc i pins s σ H E I hf st hg
   subst hP hw hK
   obtain⟨xs,hq,hx⟩:=hg
   obtain⟨aD,rv,p,hz⟩:=I.list hq
   obtain⟨f0,f1,f2,f3,f4,f5⟩:=hf it (by simp)
   have hl:=rv.length
   exact wpAny_pyNext_list_end (I.ok.hd hc) st p.isList (by simp;omega) fun h' eb=>⟨rfl,I.turned (t':=s.toks) (fun b o hb e=>eb b o hb e) f0 f1 f3 f4 f5⟩
 self:=fun _ _ _ _ _ st h=>wpAny_pyIter_listiter st h
theorem AG {P:Program}{w:World}{K:PySem.W.Frag}{tg:Expr}(it:Addr)(lo:Int)(n:Nat):Turn P w K tg (M3 lo n) [it] it (fun i h=>IsRangeIter h it (lo+(i:Nat) * 1) ((n:Int) - (i:Nat)) 1) where
 mem:=by simp
 obj:=fun i h st b hb=>by
   have e:b=it:=by simpa using hb
   subst e
   exact⟨_,st,fun v z=>by
     have z':Data.fields _=Data.cell v:=z
     cases z'⟩
 keep:=fun i h h' st k=>k it (by simp) _ st
 item:=by
   intro X hP hw hK hc i pins s σ H E I hf st hg
   subst hP hw hK
   obtain⟨f0,f1,f2,f3,f4,f5⟩:=hf it (by simp)
   have W:=Walks.range (prog:=X.prog) (w:=X.w) (I.ok.hd hc) it lo 1 n
   refine W.item i s _ _ hg st fun v h' tk hv ju kk=>?_
   obtain⟨t,rfl⟩:=hv
   have I1:Inv X pins σ H { s with heap:=h',toks:=tk}:=I.turned (fun b o hb e=>kk b o (by simpa using hb) e) f0 f1 f3 f4 f5
   refine⟨_,rfl,BZ (s:={ s with heap:=h',toks:=tk}) (n:="range_iterator") ju rfl rfl (by decide) ⟨.int (lo+i),H,I1,⟨t,?_⟩,⟨rfl,rfl⟩,ju,fun b hb=>(hf b hb).1⟩⟩
   rw[Int.mul_one]
 done:=by
   intro X hP hw hK hc i pins s σ H E I hf st hg
   subst hP hw hK
   obtain⟨f0,f1,f2,f3,f4,f5⟩:=hf it (by simp)
   exact wpAny_pyNext_range_end (I.ok.hd hc) st (by have:n<=i:=hg;omega) fun h' eb=>⟨rfl,I.turned (t':=s.toks) (fun b o hb e=>eb b o hb e) f0 f1 f3 f4 f5⟩
 self:=fun _ _ _ _ _ st h=>wpAny_pyIter_rangeiter st h
section
variable {X:Cx}{tg:Expr}
def E4 (K:W.Frag)(tl:TE):TI:=fun σ H R=>tl σ H fun x H1=>∃ a,x=.ref a/\(∃ xs,lI K H1 a xs)/\R (Qt K a) H1
theorem kC {l:Expr}{tl:TE}(hl:PE X l tl):PI X tg l (E4 X.K tl):=by
 intro pins s σ H R I h
 refine bK (hl pins s σ H _ I h) fun v s1 ⟨x,H1,I1,r1,q1⟩=>?_
 obtain⟨a,e,⟨xs,hq⟩,q⟩:=q1
 subst e
 cases r1
 obtain⟨aD,rv,p,hz⟩:=I1.list hq
 refine wpAny_pyIter_list p.isList ?_
 refine⟨s1.heap.objs.size,[s1.heap.objs.size],_,_,H1,rfl,I1.kept (t':=s1.toks) fun b o e=>Heap.get?_push_of_some _ e,Dl a _,⟨_,Heap.get?_push_size _ rfl,rfl,rfl⟩,fun b hb=>?_,q⟩
 have e:b=s1.heap.objs.size:=by simpa using hb
 subst e
 exact I1.u5 (Nat.le_refl _) (I1.aZ.fresh (Nat.le_refl _))
theorem E5 {pins:List (Addr×Obj)}{σ:St}{H:Hp}{s:Shared}{R:It->Hp->Prop}{E:Value->Shared->Prop}{lo hi:Int}{t u v:Tok}{tk:Nat}(I:Inv X pins σ H s)(h1:-(2 ^ 62)<=lo)(h2:lo < 2 ^ 62)(h3:-(2 ^ 62)<=hi)(h4:hi < 2 ^ 62)(q:R (M3 lo (hi - lo).toNat) H):wpAny (model X.prog X.w) X.A (pyIter (.ref s.heap.objs.size)) (WZ X pins σ tg R) E { s with heap:=s.heap.push { cls:=.type "range",data:=.fields #[.int lo t,.int hi u,.int 1 v]},toks:=tk}:=by
 refine wpAny_pyIter_range (IsRange.new ..) (small_one h1 h2 h3 h4) ?_
 have I1:Inv X pins σ H { s with heap:=s.heap.push { cls:=.type "range",data:=.fields #[.int lo t,.int hi u,.int 1 v]},toks:=tk}:=I.kept fun b o e=>Heap.get?_push_of_some _ e
 refine⟨(s.heap.push { cls:=.type "range",data:=.fields #[.int lo t,.int hi u,.int 1 v]}).objs.size,[(s.heap.push { cls:=.type "range",data:=.fields #[.int lo t,.int hi u,.int 1 v]}).objs.size],_,_,H,rfl,
   I1.kept (t':=tk) fun b o e=>Heap.get?_push_of_some _ e,AG _ lo (hi - lo).toNat,?_,fun b hb=>?_,q⟩
 . have e1:lo+((0:Nat):Int) * 1=lo:=by simp
   have e2:(((hi - lo).toNat:Nat):Int) - ((0:Nat):Int)=Builtin.Range.rangeSize lo hi 1:=by rw[rangeSize_one];split <;> omega
   show IsRangeIter _ _ (lo+((0:Nat):Int) * 1) ((((hi - lo).toNat:Nat):Int) - ((0:Nat):Int)) 1
   rw[e1,e2]
   exact Heap.get?_push_size _ rfl
 . have e:b=(s.heap.push { cls:=.type "range",data:=.fields #[.int lo t,.int hi u,.int 1 v]}).objs.size:=by simpa using hb
   subst e
   exact I1.u5 (Nat.le_refl _) (I1.aZ.fresh (Nat.le_refl _))
def LB (ta:TA):TI:=fun σ H R=>ta σ H fun vs H1=>∃ j:Int,vs=[.int j]/\-(2 ^ 62)<=j/\j < 2 ^ 62/\R (M3 0 j.toNat) H1
theorem p9 {a:Expr}{ta:TA}{p pos:Pos}(hg:Gl X "range")(hm:X.mg "range"=none)(ha:PA X [a] ta)(hs:starEach [a] X.env=[(false,eval a X.env)]:=by rfl):PI X tg (.Call (.Name "range" p) [a] [] pos) (LB ta):=by
 intro pins s σ H R I h
 refine Call_ (oE I hg hm boot_range (PyProof.Rows.callWith_type1 (bK (ha pos pins s σ H _ I h) fun us s1 ⟨vs,H1,I1,r1,q1⟩=>?_) hs rfl))
 obtain⟨j,e,q1,q2,q⟩:=q1
 subst e
 cases r1 with
 | cons r rr=>
   cases rr
   obtain⟨t,rfl⟩:=r
   exact call_range_1 (E5 I1 (by omega) (by omega) q1 q2 (by simpa using q))
def UB (wi:TI)(g:TG)(tb:TS):TS:=fun D σ H=>wi σ H fun J H1=>∃ W:Nat->Nat->St->Hp->Prop,(∃ m,W 0 m σ H1)/\∀ i m σ H,W i m σ H ->
 (J.stop i H/\D.nx σ H)\/(J.go i H/\∃ N:St->Hp->Prop,(∀ σ' H',N σ' H'->∃ m',m' < m/\W (i+1) m' σ' H')/\∀ x H',J.IK i H x H'->g x σ H' fun σ2 H2=>tb { D with nx:=N,ct:=N,bk:=D.nx} σ2 H2)
def qb (fp:List Addr)(h:Heap):List (Addr×Obj):=fp.filterMap fun b=>(h.get? b).map fun o=>(b,o)
theorem fj {fp:List Addr}{h:Heap}{b:Addr}{o:Obj}(hb:b∈fp)(e:h.get? b=some o):(b,o)∈qb fp h:=List.mem_filterMap.mpr ⟨b,hb,by rw[e];rfl⟩
theorem Dm {fp:List Addr}{h:Heap}{p:Addr×Obj}(hp:p∈qb fp h):p.1∈fp/\h.get? p.1=some p.2:=by
 obtain⟨b,hb,e⟩:=List.mem_filterMap.mp hp
 cases q:h.get? b with
 | none=>rw[q] at e;cases e
 | some o=>
   rw[q] at e
   have e':(b,o)=p:=Option.some.inj e
   subst e'
   exact⟨hb,q⟩
theorem Inv.pinned {pins:List (Addr×Obj)}{σ:St}{H:Hp}{s:Shared}{fp:List Addr}(I:Inv X pins σ H s)(hf:∀ b∈fp,j9 X pins H b)(ho:∀ b∈fp,∃ o,s.heap.get? b=some o/\∀ v,o.data≠.cell v):Inv X (pins ++ qb fp s.heap) σ H s:=
 I.BX fun p hp=>(List.mem_append.mp hp).elim (fun z=>I.pin p (List.mem_append_right _ z)) fun z=>by
   obtain⟨hb,e⟩:=Dm z
   obtain⟨f0,f1,f2,_⟩:=hf p.1 hb
   obtain⟨o,e',d⟩:=ho p.1 hb
   rw[e] at e';cases e'
   exact⟨e,f0,f1,f2,d⟩
theorem Inv.i0 {pins pl:List (Addr×Obj)}{σ:St}{H:Hp}{s:Shared}(I:Inv X (pins ++ pl) σ H s):Inv X pins σ H s:=I.BX fun p hp=>I.pin p (List.mem_append_right _ (List.mem_append_left _ hp))
theorem wL {iter:Expr}{body:List Stmt}{wi:TI}{g:TG}{tb:TS}{pos:Pos}(hp:PassesOwn (model X.prog X.w) X.A X.env X.xe)(hc:X.calm=true)(hi:PI X tg iter wi)(hg:PG X tg g)(hb:AD X body tb)(hs:∀ x,foldedSetIterable iter X.env x=pure x:=by intro _;rfl):PS X (.For tg iter body [] pos) (UB wi g tb):=by
 intro pins s σ H D I h
 refine wpAny_For (bK (hi pins s σ H _ I h) fun v s1 h1=>bK h1 fun M0 s2 h2=>?_) hs
 obtain⟨it,fp,tn,J,H2,e,I2,T,ED,f2,W,⟨m0,w0⟩,turn⟩:=h2
 subst e
 have oF:∀ {H':Hp},(∀ b∈fp,H' b=none)->∀ b∈fp,j9 X pins H' b:=fun hn b hb=>⟨hn b hb,(f2 b hb).2⟩
 refine codeAny_forLoop_any (fun n s'=>∃ i σ' H',Inv X pins σ' H' s'/\tn i s'.heap/\(∀ b∈fp,H' b=none)/\W i n σ' H') ?_ m0 ⟨0,σ,H2,I2,ED,fun b hb=>(f2 b hb).1,w0⟩
 rintro n s3 ⟨i,σ3,H3,I3,Tq,W0,w3⟩
 rcases turn i n σ3 H3 w3 with⟨stop,qn⟩ | ⟨go,N,hN,step⟩
 . refine wpAny_passesOwn hp (bK (T.done X rfl rfl rfl hc i pins s3 σ3 H3 X.xe I3 (oF W0) Tq stop) fun r s4 ⟨hr,I4⟩=>?_)
   subst hr
   exact wpAny_execs_nil ⟨σ3,H3,I4,qn⟩
 . refine wpAny_passesOwn hp (bK (T.item X rfl rfl rfl hc i pins s3 σ3 H3 X.xe I3 (oF W0) Tq go) fun r s4 ⟨u,hr,h4⟩=>?_)
   subst hr
   refine wpAny_passesOwn hp (bK h4 fun _ s5 ⟨x,H5,I5,r5,y5,EF,IL⟩=>?_)
   have Yx:=I5.pinned (oF IL) (T.obj _ _ EF)
   refine wpAny_passesOwn hp (bK (hg _ s5 σ3 H5 x u _ Yx r5 (step x H5 y5)) fun _ s6 ⟨σ6,H6,I6,q6⟩=>?_)
   refine wpAny_passesOwn hp (bK (hb _ s6 σ6 H6 _ I6 q6) fun f s7 q7=>?_)
   have again:∀ {σ7:St} {H7:Hp},Inv X (pins ++ qb fp s5.heap) σ7 H7 s7->N σ7 H7->∃ m,m < n/\∃ i σ' H',Inv X pins σ' H' s7/\tn i s7.heap/\(∀ b∈fp,H' b=none)/\W i m σ' H':=fun {σ7 H7} I7 n7=>by
     obtain⟨m',hm,w7⟩:=hN σ7 H7 n7
     refine⟨m',hm,i+1,σ7,H7,I7.i0,T.keep _ _ _ EF fun b hb o e=>(I7.pin (b,o) (List.mem_append_right _ (List.mem_append_right _ (fj hb e)))).1,fun b hb=>?_,w7⟩
     obtain⟨o,e,d⟩:=T.obj _ _ EF b hb
     exact(I7.pin (b,o) (List.mem_append_right _ (List.mem_append_right _ (fj hb e)))).2.1
   cases f with
   | next=>obtain⟨σ7,H7,I7,n7⟩:=q7;exact again I7 n7
   | cont=>obtain⟨σ7,H7,I7,n7⟩:=q7;exact again I7 n7
   | brk=>obtain⟨σ7,H7,I7,q7⟩:=q7;exact⟨σ7,H7,I7.i0,q7⟩
   | ret v=>obtain⟨x7,σ7,H7,I7,r7,q7⟩:=q7;exact⟨x7,σ7,H7,I7.i0,r7,q7⟩
end
theorem yN {K:PySem.W.Frag}{a:Addr}{xs:List V}{g:TG}{tb:TS}{D:Ends}{σ:St}{H:Hp}(Pv:Nat->St->Hp->Prop)(h0:Pv 0 σ H)(hl:∀ i σ H,i<=xs.length->Pv i σ H->lI K H a xs)(hs:∀ i x σ H,xs[i]?=some x->Pv i σ H->g x σ H fun σ2 H2=>tb { D with nx:=Pv (i+1),ct:=Pv (i+1),bk:=D.nx} σ2 H2)(hd:∀ σ H,Pv xs.length σ H->D.nx σ H):∃ W:Nat->Nat->St->Hp->Prop,(∃ m,W 0 m σ H)/\∀ i m σ H,W i m σ H->((Qt K a).stop i H/\D.nx σ H)\/((Qt K a).go i H/\∃ N:St->Hp->Prop,(∀ σ' H',N σ' H'->∃ m',m' < m/\W (i+1) m' σ' H')/\∀ x H',(Qt K a).IK i H x H'->g x σ H' fun σ2 H2=>tb { D with nx:=N,ct:=N,bk:=D.nx} σ2 H2):=by
 refine⟨fun i m σ H=>m=xs.length - i/\i<=xs.length/\Pv i σ H,⟨xs.length,by simp,Nat.zero_le _,h0⟩,?_⟩
 rintro i m σ H ⟨rfl,hi,p⟩
 have q:=hl i σ H hi p
 by_cases cS:i < xs.length
 . refine .inr ⟨⟨xs,xs[i],q,by simp[cS]⟩,Pv (i+1),fun σ' H' p'=>⟨xs.length - (i+1),by omega,rfl,cS,p'⟩,fun x H' y=>?_⟩
   obtain⟨e,y⟩:=y
   subst e
   exact hs i x σ _ (y xs q) p
 . have e:i=xs.length:=by omega
   subst e
   exact .inl ⟨⟨xs,q,Nat.le_refl _⟩,hd σ H p⟩
theorem Dn {lo:Int}{n:Nat}{g:TG}{tb:TS}{D:Ends}{σ:St}{H:Hp}(Pv:Nat->St->Hp->Prop)(h0:Pv 0 σ H)(hs:∀ i σ H,i < n->Pv i σ H->g (.int (lo+i)) σ H fun σ2 H2=>tb { D with nx:=Pv (i+1),ct:=Pv (i+1),bk:=D.nx} σ2 H2)(hd:∀ σ H,Pv n σ H->D.nx σ H):∃ W:Nat->Nat->St->Hp->Prop,(∃ m,W 0 m σ H)/\∀ i m σ H,W i m σ H->((M3 lo n).stop i H/\D.nx σ H)\/((M3 lo n).go i H/\∃ N:St->Hp->Prop,(∀ σ' H',N σ' H'->∃ m',m' < m/\W (i+1) m' σ' H')/\∀ x H',(M3 lo n).IK i H x H'->g x σ H' fun σ2 H2=>tb { D with nx:=N,ct:=N,bk:=D.nx} σ2 H2):=by
 refine⟨fun i m σ H=>m=n - i/\i<=n/\Pv i σ H,⟨n,by simp,Nat.zero_le _,h0⟩,?_⟩
 rintro i m σ H ⟨rfl,hi,p⟩
 by_cases cS:i < n
 . refine .inr ⟨cS,Pv (i+1),fun σ' H' p'=>⟨n - (i+1),by omega,rfl,cS,p'⟩,fun x H' y=>?_⟩
   obtain⟨e,y⟩:=y
   subst e y
   exact hs i σ _ cS p
 . have e:i=n:=by omega
   subst e
   exact .inl ⟨Nat.le_refl _,hd σ H p⟩
abbrev R2:=V->V->Hp->VK->Prop
def mI (X:Cx)(f:Value->Value->Sem Value)(r:R2):Prop:=
 ∀ (pins:List (Addr×Obj)) (s:Shared) (σ:St) (H:Hp) (x y:V) (v u:Value) (Q:VK),Inv X pins σ H s->RelV x v->RelV y u->r x y H Q ->
   wpAny (model X.prog X.w) X.A (f v u) (EP X pins σ Q) X.xe s
def UC (X:Cx)(f:Value->Sem Value)(r:V->Hp->VK->Prop):Prop:=
 ∀ (pins:List (Addr×Obj)) (s:Shared) (σ:St) (H:Hp) (x:V) (v:Value) (Q:VK),Inv X pins σ H s->RelV x v->r x H Q ->
   wpAny (model X.prog X.w) X.A (f v) (EP X pins σ Q) X.xe s
def jv (X:Cx)(f:Value)(r:List V->Hp->VK->Prop):Prop:=
 ∀ (pins:List (Addr×Obj)) (s:Shared) (σ:St) (H:Hp) (xs:List V) (us:List Value) (Q:VK),Inv X pins σ H s->Vals xs us->r xs H Q ->
   wpAny (model X.prog X.w) X.A (call f us) (EP X pins σ Q) X.xe s
def Qu (r:R2)(ta tb:TE):TE:=fun σ H Q=>ta σ H fun x H1=>tb σ H1 fun y H2=>r x y H2 Q
def Yy (r:V->Hp->VK->Prop)(ta:TE):TE:=fun σ H Q=>ta σ H fun x H1=>r x H1 Q
def rI (C:Int->Int->Prop)(g:Int->Int->V):R2:=fun x y H Q=>∃ i j,x=.int i/\y=.int j/\C i j/\Q (g i j) H
def Jj (g:Int->Int->V):R2:=fun x y H Q=>∃ i j,x=.int i/\y=.int j/\Q (g i j) H
def rU (g:Int->V):V->Hp->VK->Prop:=fun x H Q=>∃ i,x=.int i/\Q (g i) H
section
variable {X:Cx}{a b:Expr}{ta tb:TE}{pos:Pos}
theorem M4 (ha:PE X a ta)(hb:PE X b tb){pins:List (Addr×Obj)}{s:Shared}{σ:St}{H:Hp}{R:V->V->Hp->Prop}(I:Inv X pins σ H s)(h:ta σ H fun x H1=>tb σ H1 fun y H2=>R x y H2){Q:Value->Shared->Prop}{f:Value->Value->Sem Value}(hf:∀ v u s2 x y H2,Inv X pins σ H2 s2->RelV x v->RelV y u->R x y H2->wpAny (model X.prog X.w) X.A (f v u) Q X.xe s2):wpAny (model X.prog X.w) X.A (eval a X.env) (fun v s₁=>wpAny (model X.prog X.w) X.A (eval b X.env) (fun u s₂=>wpAny (model X.prog X.w) X.A (f v u) Q X.xe s₂) X.xe s₁) X.xe s:=by
 refine bK (ha pins s σ H _ I h) fun v s1 ⟨x,H1,I1,r1,q1⟩=>?_
 refine bK (hb pins s1 σ H1 _ I1 q1) fun u s2 ⟨y,H2,I2,r2,q2⟩=>?_
 exact hf v u s2 x y H2 I2 r1 r2 q2
theorem LC {op:Operator}{r:R2}(ho:mI X (binaryOp op) r)(ha:PE X a ta)(hb:PE X b tb):PE X (.BinOp a op b pos) (Qu r ta tb):=by
 intro pins s σ H Q I h
 exact wpAny_BinOp (M4 ha hb I h fun v u s2 x y H2 I2 rx ry q=>ho pins s2 σ H2 x y v u Q I2 rx ry q)
theorem Qv {op:UnaryOp}{r:V->Hp->VK->Prop}(ho:UC X (unaryOp op) r)(ha:PE X a ta):PE X (.UnaryOp op a pos) (Yy r ta):=by
 intro pins s σ H Q I h
 exact UnaryOp_ (bK (ha pins s σ H _ I h) fun v s1 ⟨x,H1,I1,r1,q1⟩=>ho pins s1 σ H1 x v Q I1 r1 q1)
theorem Ts {f:Value->Value->Sem Value}{C:Int->Int->Prop}{g:Int->Int->Int}(rule:∀ (i j:Int) (t u:Tok) (s:Shared) (Q:Value->Shared->Prop) (E:Value->Shared->Prop),C i j->Q (.int (g i j) s.toks) { s with toks:=s.toks+1}->wpAny (model X.prog X.w) X.A (f (.int i t) (.int j u)) Q E s):mI X f (rI C fun i j=>.int (g i j)):=by
 intro pins s σ H x y v u Q I rx ry h
 obtain⟨i,j,rfl,rfl,hc,q⟩:=h
 obtain⟨t,rfl⟩:=rx
 obtain⟨t',rfl⟩:=ry
 exact rule i j t t' s _ _ hc ⟨.int (g i j),H,I.tok _,⟨_,rfl⟩,q⟩
theorem Qw {f:Value->Value->Sem Value}{g:Int->Int->Int}(rule:∀ (i j:Int) (t u:Tok) (s:Shared) (Q:Value->Shared->Prop) (E:Value->Shared->Prop),Q (.int (g i j) s.toks) { s with toks:=s.toks+1}->wpAny (model X.prog X.w) X.A (f (.int i t) (.int j u)) Q E s):mI X f (Jj fun i j=>.int (g i j)):=by
 intro pins s σ H x y v u Q I rx ry h
 obtain⟨i,j,rfl,rfl,q⟩:=h
 obtain⟨t,rfl⟩:=rx
 obtain⟨t',rfl⟩:=ry
 exact rule i j t t' s _ _ ⟨.int (g i j),H,I.tok _,⟨_,rfl⟩,q⟩
theorem Jl {f:Value->Value->Sem Value}{g:Int->Int->Bool}(rule:∀ (i j:Int) (t u:Tok) (s:Shared) (Q:Value->Shared->Prop) (E:Value->Shared->Prop),Q (.bool (g i j)) s->wpAny (model X.prog X.w) X.A (f (.int i t) (.int j u)) Q E s):mI X f (Jj fun i j=>.bl (g i j)):=by
 intro pins s σ H x y v u Q I rx ry h
 obtain⟨i,j,rfl,rfl,q⟩:=h
 obtain⟨t,rfl⟩:=rx
 obtain⟨t',rfl⟩:=ry
 exact rule i j t t' s _ _ ⟨.bl (g i j),H,I,rfl,q⟩
def Qx (i j:Int):Prop:=0<=j/\j<=1000000/\i.natAbs < 2 ^ 64
def o3 (i j:Int):Prop:=(-(2 ^ 64) < i/\i < 2 ^ 64)\/(-(2 ^ 64) < j/\j < 2 ^ 64)
theorem o3.ok {i j:Int}(h:o3 i j):IntMulOk i j:=by
 rcases h with⟨h1,h2⟩ | ⟨h1,h2⟩
 . exact .of_left (intBits_le_64 h1 h2)
 . exact .of_right (intBits_le_64 h1 h2)
theorem M5:mI X (binaryOp .Add) (Jj fun i j=>.int (i+j)):=Qw fun _ _ _ _ _ _ _ q=>add_int q
theorem M6:mI X (binaryOp .Sub) (Jj fun i j=>.int (i - j)):=Qw fun _ _ _ _ _ _ _ q=>sub_int q
theorem M7:mI X (binaryOp .Mod) (rI (fun _ j=>0 < j) fun i j=>.int (i % j)):=Ts fun i j _ _ _ _ _ hc q=>by
 have h1:(0:Int) < j:=hc
 exact mod_int' (by omega) (by rw[Int.fmod_eq_emod_of_nonneg i (by omega)];exact q)
theorem M8:mI X (binaryOp .Pow) (rI Qx fun i j=>.int (i ^ j.toNat)):=Ts fun _ _ _ _ _ _ _ hc q=>pow_int_small hc.1 hc.2.1 hc.2.2 q
theorem Yz {f:Value->Sem Value}{g:Int->Int}(rule:∀ (i:Int) (t:Tok) (s:Shared) (Q:Value->Shared->Prop) (E:Value->Shared->Prop),Q (.int (g i) s.toks) { s with toks:=s.toks+1}->wpAny (model X.prog X.w) X.A (f (.int i t)) Q E s):UC X f (rU fun i=>.int (g i)):=by
 intro pins s σ H x v Q I rx h
 obtain⟨i,rfl,q⟩:=h
 obtain⟨t,rfl⟩:=rx
 exact rule i t s _ _ ⟨.int (g i),H,I.tok _,⟨_,rfl⟩,q⟩
theorem M9:UC X (unaryOp .USub) (rU fun i=>.int (-i)):=Yz fun _ _ _ _ _ q=>neg_int q
end
def Jm:V->V->Bool
 | .cL,.cL=>true | .cL,.int _=>true | .int _,.cL=>true | .cL,.bl _=>true | .bl _,.cL=>true | .cL,.str _=>true | .str _,.cL=>true
 | .int _,.int _=>true | .bl _,.bl _=>true | .str _,.str _=>true | .EC _,.EC _=>true
 | .int _,.str _=>true | .str _,.int _=>true | .bl _,.str _=>true | .str _,.bl _=>true
 | _,_=>false
def YA:R2:=fun x y H Q=>Jm x y=true/\Q (.bl (decide (x=y))) H
def YB:R2:=fun x y H Q=>Jm x y=true/\Q (.bl (!decide (x=y))) H
theorem ni {i j:Int}:decide (V.int i=V.int j)=(i == j):=by
 rw[Bool.eq_iff_iff]
 simp
theorem E6 {i j:Bool}:decide (V.bl i=V.bl j)=(i == j):=by
 rw[Bool.eq_iff_iff]
 simp
theorem rS {i j:Str}:decide (V.str i=V.str j)=(i == j):=by
 rw[Bool.eq_iff_iff]
 simp
theorem B0 {i j:Array UInt8}:decide (V.EC i=V.EC j)=(i.toList == j.toList):=by
 rw[Bool.eq_iff_iff]
 cases i
 cases j
 simp
section
variable {X:Cx}{a b c:Expr}{ta tb tc:TE}{pos:Pos}
theorem br {pins:List (Addr×Obj)}{σ:St}{H:Hp}{s:Shared}{Q:VK}{k k':Bool}(I:Inv X pins σ H s)(q:Q (.bl k) H)(e:k=k'):EP X pins σ Q (.bool k') s:=by
 subst e
 exact⟨.bl k,H,I,rfl,q⟩
theorem E7:mI X (compareOp .Eq) YA:=by
 intro pins s σ H x y v u Q I rx ry h
 obtain⟨hs,q⟩:=h
 cases x with
 | cL=>
   cases rx
   cases y with
   | cL=>cases ry;exact PySem.EqNone.eq_none_none (br I q (by simp))
   | bl j=>cases ry;exact PySem.EqNone.eq_none_bool (br I q (by simp))
   | int j=>obtain⟨t',rfl⟩:=ry;exact PySem.EqNone.eq_none_int (br I q (by simp))
   | str j=>obtain⟨t',rfl⟩:=ry;exact PySem.EqNone.eq_none_str (br I q (by simp))
   | _=>exact absurd (show false=true from hs) Bool.false_ne_true
 | bl i=>
   cases rx
   cases y with
   | cL=>cases ry;exact PySem.EqNone.eq_bool_none (br I q (by simp))
   | bl j=>cases ry;exact eq_bool (br I q E6)
   | str j=>obtain⟨t',rfl⟩:=ry;exact PySem.EqMixed.eq_bool_str (br I q (by simp))
   | _=>exact absurd (show false=true from hs) Bool.false_ne_true
 | int i=>
   obtain⟨t,rfl⟩:=rx
   cases y with
   | cL=>cases ry;exact PySem.EqNone.eq_int_none (br I q (by simp))
   | int j=>obtain⟨t',rfl⟩:=ry;exact eq_int (br I q ni)
   | str j=>obtain⟨t',rfl⟩:=ry;exact PySem.EqMixed.eq_int_str (br I q (by simp))
   | _=>exact absurd (show false=true from hs) Bool.false_ne_true
 | str i=>
   obtain⟨t,rfl⟩:=rx
   cases y with
   | cL=>cases ry;exact PySem.EqNone.eq_str_none (br I q (by simp))
   | bl j=>cases ry;exact PySem.EqMixed.eq_str_bool (br I q (by simp))
   | int j=>obtain⟨t',rfl⟩:=ry;exact PySem.EqMixed.eq_str_int (br I q (by simp))
   | str j=>obtain⟨t',rfl⟩:=ry;exact eq_str (br I q rS)
   | _=>exact absurd (show false=true from hs) Bool.false_ne_true
 | EC i=>
   obtain⟨t,rfl⟩:=rx
   cases y with
   | EC j=>obtain⟨t',rfl⟩:=ry;exact W.eq_bytes (br I q B0)
   | _=>exact absurd (show false=true from hs) Bool.false_ne_true
 | _=>cases y <;> exact absurd (show false=true from hs) Bool.false_ne_true
theorem Qy:mI X (compareOp .NotEq) YB:=by
 intro pins s σ H x y v u Q I rx ry h
 obtain⟨hs,q⟩:=h
 cases x with
 | cL=>
   cases rx
   cases y with
   | cL=>cases ry;exact PySem.EqNone.ne_none_none (br I q (by simp))
   | bl j=>cases ry;exact PySem.EqNone.ne_none_bool (br I q (by simp))
   | int j=>obtain⟨t',rfl⟩:=ry;exact PySem.EqNone.ne_none_int (br I q (by simp))
   | str j=>obtain⟨t',rfl⟩:=ry;exact PySem.EqNone.ne_none_str (br I q (by simp))
   | _=>exact absurd (show false=true from hs) Bool.false_ne_true
 | bl i=>
   cases rx
   cases y with
   | cL=>cases ry;exact PySem.EqNone.ne_bool_none (br I q (by simp))
   | bl j=>cases ry;exact ne_bool (br I q (congrArg not E6))
   | str j=>obtain⟨t',rfl⟩:=ry;exact PySem.EqMixed.ne_bool_str (br I q (by simp))
   | _=>exact absurd (show false=true from hs) Bool.false_ne_true
 | int i=>
   obtain⟨t,rfl⟩:=rx
   cases y with
   | cL=>cases ry;exact PySem.EqNone.ne_int_none (br I q (by simp))
   | int j=>obtain⟨t',rfl⟩:=ry;exact ne_int (br I q (congrArg not ni))
   | str j=>obtain⟨t',rfl⟩:=ry;exact PySem.EqMixed.ne_int_str (br I q (by simp))
   | _=>exact absurd (show false=true from hs) Bool.false_ne_true
 | str i=>
   obtain⟨t,rfl⟩:=rx
   cases y with
   | cL=>cases ry;exact PySem.EqNone.ne_str_none (br I q (by simp))
   | bl j=>cases ry;exact PySem.EqMixed.ne_str_bool (br I q (by simp))
   | int j=>obtain⟨t',rfl⟩:=ry;exact PySem.EqMixed.ne_str_int (br I q (by simp))
   | str j=>obtain⟨t',rfl⟩:=ry;exact ne_str (br I q (congrArg not rS))
   | _=>exact absurd (show false=true from hs) Bool.false_ne_true
 | EC i=>
   obtain⟨t,rfl⟩:=rx
   cases y with
   | EC j=>obtain⟨t',rfl⟩:=ry;exact W.ne_bytes (br I q (congrArg not B0))
   | _=>exact absurd (show false=true from hs) Bool.false_ne_true
 | _=>cases y <;> exact absurd (show false=true from hs) Bool.false_ne_true
theorem Qz:mI X (compareOp .Lt) (Jj fun i j=>.bl (decide (i < j))):=Jl fun _ _ _ _ _ _ _ q=>lt_int q
theorem yO:mI X (compareOp .LtE) (Jj fun i j=>.bl (decide (i<=j))):=Jl fun _ _ _ _ _ _ _ q=>le_int q
theorem QA:mI X (compareOp .Gt) (Jj fun i j=>.bl (decide (j < i))):=Jl fun _ _ _ _ _ _ _ q=>gt_int q
theorem QB:mI X (compareOp .GtE) (Jj fun i j=>.bl (decide (j<=i))):=Jl fun _ _ _ _ _ _ _ q=>ge_int q
theorem mK (b:Expr){op:CmpOp}(h:op≠.In:=by decide)(h2:op≠.NotIn:=by decide):behindInMarks op b=false:=by
 have e1:(op == CmpOp.In)=false:=by cases op <;> first | rfl | exact absurd rfl h
 have e2:(op == CmpOp.NotIn)=false:=by cases op <;> first | rfl | exact absurd rfl h2
 cases b <;> simp[behindInMarks,e1,e2]
theorem Jn {op:CmpOp}{r:R2}(ho:mI X (compareOp op) r)(ha:PE X a ta)(hb:PE X b tb)(hm:behindInMarks op b=false):PE X (.Compare a [op] [b] pos) (Qu r ta tb):=by
 intro pins s σ H Q I h
 exact wpAny_Compare1 (M4 ha hb I h fun v u s2 x y H2 I2 rx ry q=>ho pins s2 σ H2 x y v u Q I2 rx ry q) hm
def LD (t:TE):TT:=fun σ H Q=>t σ H fun x H'=>∃ k,x=.bl k/\Q k H'
theorem Jo {op:CmpOp}{r:R2}(ho:mI X (compareOp op) r)(ha:PE X a ta)(hb:PE X b tb)(hm:behindInMarks op b=false):PT X (.Compare a [op] [b] pos) (LD (Qu r ta tb)):=by
 intro pins s σ H Q I h
 refine wpAny_isTrue_Compare1 (bK (ha pins s σ H _ I h) fun v s1 ⟨x,H1,I1,r1,q1⟩=>bK (hb pins s1 σ H1 _ I1 q1) fun u s2 ⟨y,H2,I2,r2,q2⟩=>
   bK (ho pins s2 σ H2 x y v u _ I2 r1 r2 q2) fun c s3 ⟨z,H3,I3,r3,k,e,q3⟩=>?_) hm
 subst e
 cases r3
 exact wpAny_truthy_bool ⟨H3,I3,q3⟩
def E8 (r r':R2)(ta tb tc:TE):TE:=fun σ H Q=>ta σ H fun x H1=>tb σ H1 fun y H2=>r x y H2 fun z H3=>∃ k,z=.bl k /\
 (if k=true then tc σ H3 fun w' H4=>r' y w' H4 Q else Q (.bl false) H3)
theorem E9 {op AH:CmpOp}{r r':R2}(ho:mI X (compareOp op) r)(AB:mI X (compareOp AH) r')(ha:PE X a ta)(hb:PE X b tb)(hc:PE X c tc)(hm:lastMarks [op,AH] [b,c]=false:=by with_unfolding_all rfl):PE X (.Compare a [op,AH] [b,c] pos) (E8 r r' ta tb tc):=by
 intro pins s σ H Q I h
 refine Compare_chain (bK (ha pins s σ H _ I h) fun v s1 ⟨x,H1,I1,r1,q1⟩=>chain_link (bK (hb pins s1 σ H1 _ I1 q1) fun u s2 ⟨y,H2,I2,r2,q2⟩=>
   bK (ho pins s2 σ H2 x y v u _ I2 r1 r2 q2) fun d s3 ⟨z,H3,I3,r3,k,e,q3⟩=>?_)) hm
 subst e
 cases r3
 refine wpAny_truthy_bool ?_
 cases k with
 | false=>exact ite_ff ⟨.bl false,H3,I3,rfl,q3⟩
 | true=>exact ite_tt (chain_last (bK (hc pins s3 σ H3 _ I3 q3) fun w' s4 ⟨z',H4,I4,r4,q4⟩=>AB pins s4 σ H4 y z' u w' Q I4 r2 r4 q4))
theorem Fb {op AH:CmpOp}{r r':R2}(ho:mI X (compareOp op) r)(AB:mI X (compareOp AH) r')(ha:PE X a ta)(hb:PE X b tb)(hc:PE X c tc)(hm:lastMarks [op,AH] [b,c]=false:=by with_unfolding_all rfl):PT X (.Compare a [op,AH] [b,c] pos) (LD (E8 r r' ta tb tc)):=by
 intro pins s σ H Q I h
 refine isTrue_chain (bK (ha pins s σ H _ I h) fun v s1 ⟨x,H1,I1,r1,q1⟩=>test_link (bK (hb pins s1 σ H1 _ I1 q1) fun u s2 ⟨y,H2,I2,r2,q2⟩=>
   bK (ho pins s2 σ H2 x y v u _ I2 r1 r2 q2) fun d s3 ⟨z,H3,I3,r3,k,e,q3⟩=>?_)) hm
 subst e
 cases r3
 refine wpAny_truthy_bool ?_
 cases k with
 | false=>
   obtain⟨k',e',q'⟩:=q3
   cases e'
   exact ite_ff ⟨H3,I3,q'⟩
 | true=>
   refine ite_tt (test_last (bK (hc pins s3 σ H3 _ I3 q3) fun w' s4 ⟨z',H4,I4,r4,q4⟩=>bK (AB pins s4 σ H4 y z' u w' _ I4 r2 r4 q4) fun d' s5 ⟨z2,H5,I5,r5,k2,e2,q5⟩=>?_))
   subst e2
   cases r5
   exact wpAny_truthy_bool ⟨H5,I5,q5⟩
theorem kQ:(sizeLine:Nat) < 2 ^ 63:=by rw[sizeLine_eq];decide
theorem AI:mI X (binaryOp .Add) (fun x y H Q=>∃ i j,x=.str i/\y=.str j/\i.length+j.length<=sizeLine/\Q (.str (i ++ j)) H):=by
 intro pins s σ H x y v u Q I rx ry h
 obtain⟨i,j,rfl,rfl,hz,q⟩:=h
 obtain⟨t,rfl⟩:=rx
 obtain⟨t',rfl⟩:=ry
 exact add_str (fun t' tk=>⟨.str (i ++ j),H,I.tok _,⟨_,rfl⟩,q⟩) hz
theorem vals1 {x:V}{us:List Value}(r:Vals [x] us):∃ u,us=[u]/\RelV x u:=by
 cases r with
 | cons r1 r2=>cases r2;exact⟨_,rfl,r1⟩
theorem vals2 {x y:V}{us:List Value}(r:Vals [x,y] us):∃ u w',us=[u,w']/\RelV x u/\RelV y w':=by
 cases r with
 | cons r1 r2=>
   cases r2 with
   | cons r3 r4=>cases r4;exact⟨_,_,rfl,r1,r3⟩
theorem Dp (hc:X.calm=true):jv X (.builtin "max") (fun xs H Q=>∃ i j,xs=[.int i,.int j]/\Q (.int (if j > i then j else i)) H):=by
 intro pins s σ H xs us Q I r h
 obtain⟨i,j,rfl,q⟩:=h
 obtain⟨u,w',rfl,⟨t,rfl⟩,⟨t',rfl⟩⟩:=vals2 r
 refine max_two_ints (I.ok.hd hc) fun h' tk k=>⟨_,H,I.kept k,?_,q⟩
 by_cases hj:j > i
 . rw[if_pos hj,if_pos hj];exact⟨_,rfl⟩
 . rw[if_neg hj,if_neg hj];exact⟨_,rfl⟩
theorem Dq (hc:X.calm=true):jv X (.builtin "min") (fun xs H Q=>∃ i j,xs=[.int i,.int j]/\Q (.int (if j < i then j else i)) H):=by
 intro pins s σ H xs us Q I r h
 obtain⟨i,j,rfl,q⟩:=h
 obtain⟨u,w',rfl,⟨t,rfl⟩,⟨t',rfl⟩⟩:=vals2 r
 refine min_two_ints (I.ok.hd hc) fun h' tk k=>⟨_,H,I.kept k,?_,q⟩
 by_cases hj:j < i
 . rw[if_pos hj,if_pos hj];exact⟨_,rfl⟩
 . rw[if_neg hj,if_neg hj];exact⟨_,rfl⟩
end
structure AJ (h:Heap)(x dx C:Addr)(mA:Str->Option Value):Prop where
 obj:h.get? x=some (W.instObj C dx)
 ns:h.Ns1 dx mA
 ne:dx≠x
theorem Dr {h:Heap}{dx:Addr}{mA:Str->Option Value}(n:h.Ns1 dx mA):∃ od,h.get? dx=some od/\∀ name,W.lookIn name od=some (mA name):=by
 obtain⟨o,es,ep,ho,hd,hk,_,hm⟩:=n
 refine⟨o,ho,fun name=>?_⟩
 have e:=hm name
 unfold nsFind findBy at e
 rw[<- Array.find?_toList] at e
 unfold W.lookIn
 rw[hd]
 dsimp only
 split
 . rename_i y q
   rw[q] at e
   exact congrArg some e
 . rename_i q
   rw[q] at e
   have a:es.toList.any (·.refKey)=false:=by
     rw[List.any_eq_false]
     intro y hy
     obtain⟨z,t,UD⟩:=hk y (Array.mem_toList_iff.mp hy)
     simp[DictEntry.refKey,UD]
   have a':¬ es.toList.any (·.refKey)=true:=by rw[a];exact Bool.false_ne_true
   rw[if_neg a']
   exact congrArg some e
theorem AJ.look {h:Heap}{x dx C:Addr}{mA:Str->Option Value}(I:AJ h x dx C mA):∃ od,W.InstAt h x (W.instObj C dx) C (some od)/\∀ name,W.lookIn name od=some (mA name):=
 let ⟨od,ho,hl⟩:=Dr I.ns
 ⟨od,⟨I.obj,rfl,rfl,ho⟩,hl⟩
section
variable {prog:Program}{w:World}{A:Around}{E:Value->Shared->Prop}{s:Shared}{K:W.Frag}{x dx C f:Addr}{mA:Str->Option Value}{name:Str}{v:Value}
theorem get_map {expr:Bool}{Q:Value->Shared->Prop}(X:K.In s.heap)(I:AJ s.heap x dx C mA)(hg:W.plainGet K C name=true)(hh:W.hasDictIn K C=true)(ha:W.findIn K (.ref C) name=some none)(hv:mA name=some v)(Tt:W.handedIn v=true)(h:Q v { s with toks:=s.toks+1}):wpAny (model prog w) A (getAttr (.ref x) name expr) Q E s:=by
 obtain⟨od,J,hl⟩:=I.look
 exact W.get_value X J (W.plainGet_of hg).1 (W.findObj_own hh ha rfl (by rw[hl,hv])) Tt h
theorem Fc {pl:Sem Bool}{Q:Value×List Value->Shared->Prop}(X:K.In s.heap)(I:AJ s.heap x dx C mA)(hg:W.plainGet K C name=true)(hf:W.findIn K (.ref C) name=some (some (.ref f)))(ht:W.isFn K (.ref f)=true)(hv:mA name=none)(h:Q (.ref f,[.ref x]) s):wpAny (model prog w) A (getMethod (.ref x) name pl) Q E s:=by
 obtain⟨od,J,hl⟩:=I.look
 exact W.method_fn X J (W.plainGet_of hg).1 (W.plainGet_of hg).2 hf (beq_iff_eq.mp ht) (by show(W.lookIn name od).map (·.isSome)=some false;rw[hl,hv];rfl) h
theorem Jp {ns:List Str}{Q:Unit->Shared->Prop}(X:K.In s.heap)(I:AJ s.heap x dx C mA)
   (hs:W.findIn K (.ref C) "__setattr__"=some (some (.builtin "object.__setattr__"))) (hp:W.plainOver K C=true) (ht:W.takerIn K C name=some none) (hh:W.hasDictIn K C=true)
   (hw:PySem.Within mA ns) (hsz:ns.length<=sizeLine)
   (h:∀ h',AJ h' x dx C (fun y=>if y=name then some v else mA y)->Heap.SameBut dx s.heap h'->Q () { s with heap:=h',toks:=s.toks+2}) :
   wpAny (model prog w) A (setAttr (.ref x) name v) Q E s:=by
 obtain⟨od,J,hl⟩:=I.look
 refine W.set_plain X J hs (W.osa_open (s:={ s with toks:=s.toks+1}) (r:=none) X J hp ht fun b=>?_)
 obtain⟨cd,hc,PR⟩:=W.any_some hh
 have hx:s.heap.get? x=some ⟨.ref C,some dx,.plain,#[]⟩:=I.obj
 refine wpAny_bind (wpAny_pure (wpAny_bind (wpAny_bind (wpAny_loadPart hx (wpAny_bind (W.Looks.here (s:={ s with toks:=s.toks+1}) (W.looks_clsIn X hc) ?_))))))
 rw[PR]
 refine wpAny_pure (a:=some dx) (wpAny_bind (wpAny_pure (wpAny_bind ?_)))
 refine wpAny_nsSet1 (s:={ s with toks:=s.toks+1}) I.ns fun h' Na yP=>?_
 obtain⟨oD,esD,epD,YC,YD,Jq⟩:=Na.count (PySem.Within.cons name v hw)
 refine wpAny_bind (wpAny_lookBehind YC (by rw[YD];exact pastItsLine_dict (Nat.le_trans Jq (by rw[List.length_cons];omega))) ?_)
 exact wpAny_pure (h _ ⟨(yP.2 _ (Ne.symm I.ne)).trans I.obj,Na,I.ne⟩ yP)
theorem Fd {R:Result->Shared->Prop}{vs:List Value}{kw:List (Str×Value)}(X:K.In s.heap)(hm:W.makesIn K C=true)(hi:W.findIn K (.ref C) "__init__"=some (some (.ref f)))(hf:W.typeIn K (.ref f)=some (.type "function"))(h:codeAny (model prog w) (A.under (.builtin "type.__call__" ⟨.ref C::vs,kw⟩)) (.call (.ref f) ⟨.ref (s.heap.objs.size+1)::vs,kw⟩) (W.InitBack (s.heap.objs.size+1) R) { s with heap:=(s.heap.push W.emptyDict).push (W.instObj C s.heap.objs.size)}):codeAny (model prog w) A (.call (.ref C) ⟨vs,kw⟩) R s:=by
 obtain⟨hh,g,d,t,os⟩:=s
 exact W.make_core (W.makes_of X hm) (W.looks_findIn X hi) (fun self=>W.bind_fn X self hf) (.inl rfl) h
theorem Ds {R:Result->Shared->Prop}(X:K.In s.heap)(hm:W.makesIn K C=true)(hi:W.findIn K (.ref C) "__init__"=some (some (.builtin "object.__init__")))(hb:∀ self,W.Looks (model prog w) s.heap (bindSpecial (.builtin "object.__init__") self) (.builtin "object.__init__",[self]))(h:codeAny (model prog w) (A.under (.builtin "type.__call__" ⟨[.ref C],[]⟩)) (.call (.builtin "object.__init__") ⟨[.ref (s.heap.objs.size+1)],[]⟩) (W.InitBack (s.heap.objs.size+1) R) { s with heap:=(s.heap.push W.emptyDict).push (W.instObj C s.heap.objs.size)}):codeAny (model prog w) A (.call (.ref C) ⟨[],[]⟩) R s:=by
 obtain⟨hh,g,d,t,os⟩:=s
 exact W.make_core (W.makes_of X hm) (W.looks_findIn X hi) hb (.inr ⟨rfl,rfl⟩) h
end
def eG (f:Str)(v:V):List (Str×V)->List (Str×V)
 | []=>[(f,v)]
 | (g,x)::r=>if g=f then (g,v)::r else (g,x)::eG f v r
theorem mL (f g:Str)(v:V):∀ fs:List (Str×V),(eG f v fs).lookup g=if g=f then some v else fs.lookup g
 | []=>by
   show List.lookup g [(f,v)]=_
   by_cases h:g=f
   . have hb:(g == f)=true:=beq_iff_eq.mpr h
     simp only[List.lookup,hb,if_pos h]
   . have hb:(g == f)=false:=beq_eq_false_iff_ne.mpr h
     simp only[List.lookup,hb,if_neg h]
 | (k,x)::r=>by
   have ih:=mL f g v r
   rw[show eG f v ((k,x)::r)=(if k=f then (k,v)::r else (k,x)::eG f v r) from rfl]
   by_cases hk:k=f
   . rw[if_pos hk]
     by_cases h:g=k
     . have hb:(g == k)=true:=beq_iff_eq.mpr h
       simp only[List.lookup,hb,if_pos (h.trans hk)]
     . have hb:(g == k)=false:=beq_eq_false_iff_ne.mpr h
       simp only[List.lookup,hb,if_neg (fun e:g=f=>h (e.trans hk.symm))]
   . rw[if_neg hk]
     by_cases h:g=k
     . have hb:(g == k)=true:=beq_iff_eq.mpr h
       simp only[List.lookup,hb,if_neg (fun e:g=f=>hk (h.symm.trans e))]
     . have hb:(g == k)=false:=beq_eq_false_iff_ne.mpr h
       simp only[List.lookup,hb]
       exact ih
theorem qc (f:Str)(v:V):∀ fs:List (Str×V),f∈(eG f v fs).map (·.1)/\∀ g,g∈fs.map (·.1)->g∈(eG f v fs).map (·.1)
 | []=>⟨by simp[eG],fun g h=>by simp at h⟩
 | (k,x)::r=>by
   obtain⟨i1,i2⟩:=qc f v r
   rw[show eG f v ((k,x)::r)=(if k=f then (k,v)::r else (k,x)::eG f v r) from rfl]
   by_cases hk:k=f
   . rw[if_pos hk]
     subst hk
     exact⟨by simp,fun g h=>by simpa using h⟩
   . rw[if_neg hk]
     refine⟨?_,fun g h=>?_⟩
     . rw[List.map_cons]
       exact List.mem_cons_of_mem _ i1
     . rw[List.map_cons] at h ⊢
       rcases List.mem_cons.mp h with e | e
       . exact List.mem_cons.mpr (.inl e)
       . exact List.mem_cons_of_mem _ (i2 g e)
theorem qO (f:Str)(v:V):∀ fs:List (Str×V),(eG f v fs).length<=fs.length+1
 | []=>by simp[eG]
 | (k,x)::r=>by
   have ih:=qO f v r
   rw[show eG f v ((k,x)::r)=(if k=f then (k,v)::r else (k,x)::eG f v r) from rfl]
   by_cases hk:k=f
   . rw[if_pos hk,List.length_cons,List.length_cons];omega
   . rw[if_neg hk,List.length_cons,List.length_cons];omega
theorem nV.some_of {v:V}{o:Option Value}(r:nV (some v) o):∃ u,o=some u/\RelV v u:=by
 cases o with
 | none=>exact(show False from r).elim
 | some u=>exact⟨u,rfl,r⟩
theorem nV.none_of {o:Option Value}(r:nV none o):o=none:=by
 cases o with
 | none=>rfl
 | some u=>exact(show False from r).elim
theorem Du {v:V}{u:Value}(r:RelV v u):W.handedIn u=true:=by
 cases v with
 | cL=>cases (show u=Value.none from r);rfl
 | bl b=>cases (show u=Value.bool b from r);rfl
 | int i=>obtain⟨t,e⟩:=(show ∃ t,u=Value.int i t from r);cases e;rfl
 | str x=>obtain⟨t,e⟩:=(show ∃ t,u=Value.str x t from r);cases e;rfl
 | EC b=>obtain⟨t,e⟩:=(show ∃ t,u=Value.bytes b t from r);cases e;rfl
 | MH b=>obtain⟨t,e⟩:=(show ∃ t,u=Value.float b t from r);cases e;rfl
 | ref a=>cases (show u=Value.ref a from r);rfl
 | ty n=>cases (show u=Value.type n from r);rfl
section
variable {P:Program}{w:World}{H:Hp}{h:Heap}{a C dx:Addr}{fs:List (Str×V)}
theorem rT (aZ:oZ P w H h)(e:Rd H a (.ins C dx fs)):∃ mA,AJ h a dx C mA/\(∀ f,nV (fs.lookup f) (mA f))/\PySem.Within mA (fs.map (·.1))/\fs.length<=1000/\H dx=some (.own a):=by
 obtain⟨d,z,ne,ob,mA,n,r,q⟩:=(show aJ P w H h a (.ins C dx fs) from e.ok aZ)
 exact⟨mA,⟨ob,n,ne⟩,r,q,z,d⟩
end
structure rV (K:W.Frag)(C:Addr):Prop where
 pg:W.plainGet K C Str.empty=true
 hd:W.hasDictIn K C=true
 po:W.plainOver K C=true
 sa:W.findIn K (.ref C) "__setattr__"=some (some (.builtin "object.__setattr__"))
theorem rV.get {K:W.Frag}{C:Addr}(c:rV K C)(f:Str):W.plainGet K C f=true:=c.pg
def bu (K:W.Frag)(C:Addr)(f:Str):Prop:=W.findIn K (.ref C) f=some none
theorem bu.QC {K:W.Frag}{C:Addr}{f:Str}(n:bu K C f):W.takerIn K C f=some none:=by
 unfold W.takerIn
 rw[show W.findIn K (.ref C) f=some none from n]
 rfl
structure Con (K:W.Frag)(C:Addr)(f:Str)(v:V)(u:Value):Prop where
 at_:W.findIn K (.ref C) f=some (some u)
 rel:RelV v u
 get:W.specialIn K u "__get__"=some none
 cp:W.copiedNames.contains f=false
structure Meth (K:W.Frag)(C:Addr)(m:Str)(f:Addr):Prop where
 at_:W.findIn K (.ref C) m=some (some (.ref f))
 fn:W.isFn K (.ref f)=true
 kp:W.keepIn K (.ref f)=true
section
variable {X:Cx}{pins:List (Addr×Obj)}{σ:St}{H:Hp}{s:Shared}{a C dx:Addr}{fs:List (Str×V)}{f:Str}{v:V}{A:Around}{E:Value->Shared->Prop}
theorem AL {b:Bool}{Q:Value->Shared->Prop}(I:Inv X pins σ H s)(e:Rd H a (.ins C dx fs))(c:rV X.K C)(n:bu X.K C f)(l:fs.lookup f=some v)(h:∀ u s',Inv X pins σ H s'->RelV v u->Q u s'):wpAny (model X.prog X.w) A (getAttr (.ref a) f b) Q E s:=by
 obtain⟨mA,O,r,_,_,_⟩:=rT I.aZ e
 obtain⟨u,hu,ru⟩:=nV.some_of (v:=v) (o:=mA f) (by rw[<- l];exact r f)
 exact get_map I.lH O (c.get f) c.hd n hu (Du ru) (h u _ (I.tok _) ru)
theorem sX {m:Str}{g:Addr}{pl:Sem Bool}{Q:Value×List Value->Shared->Prop}(I:Inv X pins σ H s)(e:Rd H a (.ins C dx fs))(c:rV X.K C)(k:Meth X.K C m g)(l:fs.lookup m=none)(h:Q (.ref g,[.ref a]) s):wpAny (model X.prog X.w) A (getMethod (.ref a) m pl) Q E s:=by
 obtain⟨mA,O,r,_,_,_⟩:=rT I.aZ e
 have hn:mA m=none:=nV.none_of (by rw[<- l];exact r m)
 exact Fc I.lH O (c.get m) k.at_ k.fn hn h
theorem AM {y:V}{u:Value}{Q:Unit->Shared->Prop}(I:Inv X pins σ H s)(e:H a=some (.ins C dx fs))(c:rV X.K C)(n:bu X.K C f)(hl:fs.length < 1000)(ry:RelV y u)(h:∀ s',Inv X pins σ (upd H a (.ins C dx (eG f y fs))) s'->Q () s'):wpAny (model X.prog X.w) A (setAttr (.ref a) f u) Q E s:=by
 obtain⟨mA,O,r,wi,_,ho⟩:=rT I.aZ (.of e)
 have hz:(fs.map (·.1)).length<=sizeLine:=by rw[List.length_map,sizeLine_eq];omega
 refine Jp I.lH O c.sa c.po n.QC c.hd wi hz fun h' O' sb=>h _ ?_
 have hd:∃ o,h'.get? dx=some o:=let ⟨o,_,_,e',_⟩:=O'.ns;⟨o,e'⟩
 refine I.write (x:=a) (e:=dx) (by rw[e];exact True.intro) (.inr ho) (fun b q hb z=>(sb.2 b hb).trans z) hd ?_
 refine⟨by rw[ah O.ne];exact ho,?_,O.ne,O'.obj,_,O'.ns,fun g=>?_,fun g hg=>?_⟩
 . have:=qO f y fs;omega
 . show nV ((eG f y fs).lookup g) (if g=f then some u else mA g)
   rw[mL]
   by_cases q:g=f
   . rw[if_pos q,if_pos q];exact ry
   . rw[if_neg q,if_neg q];exact r g
 . by_cases q:g=f
   . rw[q];exact(qc f y fs).1
   . refine(qc f y fs).2 g (wi g fun z=>hg ?_)
     show(if g=f then some u else mA g)=none
     rw[if_neg q];exact z
theorem Inv.made (I:Inv X pins σ H s):Inv X pins σ (upd (upd H s.heap.objs.size (.own (s.heap.objs.size+1))) (s.heap.objs.size+1) (.ins C s.heap.objs.size [])) { s with heap:=(s.heap.push W.emptyDict).push (W.instObj C s.heap.objs.size)}:=by
 have e1:(s.heap.push W.emptyDict).get? s.heap.objs.size=some W.emptyDict:=Heap.get?_push_size s.heap rfl
 have e2:((s.heap.push W.emptyDict).push (W.instObj C s.heap.objs.size)).get? (s.heap.objs.size+1)=some (W.instObj C s.heap.objs.size):=by
   have:=Heap.get?_push_size (s.heap.push W.emptyDict) (o:=W.instObj C s.heap.objs.size) rfl
   rwa [Heap.size_push] at this
 have e3:(s.heap.push W.emptyDict).Ns s.heap.objs.size (fun _=>none):=⟨W.emptyDict,#[],_,e1,rfl,(fun e he=>absurd he (by simp)),fun _=>rfl⟩
 have I1:=I.laid (a:=s.heap.objs.size) (o:=.own (s.heap.objs.size+1)) (h':=s.heap.push W.emptyDict) (t':=s.toks) (fun b u q=>Heap.get?_push_of_some _ q) (Nat.le_refl _) ⟨_,e1⟩
 refine I1.laid (a:=s.heap.objs.size+1) (o:=.ins C s.heap.objs.size []) (t':=s.toks) (fun b u q=>Heap.get?_push_of_some _ q) (Nat.le_of_eq (Heap.size_push _ _)) ?_
 have ne:s.heap.objs.size≠s.heap.objs.size+1:=Nat.ne_of_lt (Nat.lt_succ_self _)
 refine⟨by rw[ah ne,ak],Nat.zero_le _,ne,e2,fun _=>none,(Heap.Ns1.of_empty e3).at fun o q=>Heap.get?_push_of_some _ q,fun _=>True.intro,fun y hy=>absurd rfl hy⟩
theorem Jr {prog:Program}{w:World}{env:Env}{e:Expr}{f:Str}{pos:Pos}{s:Shared}{Q:Value->Shared->Prop}(hb:attributeBase e f env (eval e env)=eval e env)(h:wpAny (model prog w) A (eval e env) (fun o s₁=>wpAny (model prog w) A (getAttr o f true) Q E s₁) E s):wpAny (model prog w) A (eval (.Attribute e f pos) env) Q E s:=
 Attribute_any_ h (by rw[arm_eval_Attribute,hb])
end
def UE (K:W.Frag)(ta:TE)(f:Str):TE:=fun σ H Q=>ta σ H fun x H1=>∃ a C dx fs v,x=.ref a/\Rd H1 a (.ins C dx fs)/\rV K C/\bu K C f/\fs.lookup f=some v/\Q v H1
def UG (K:W.Frag)(ta tv:TE)(f:Str):TS:=fun D σ H=>tv σ H fun y H1=>ta σ H1 fun x H2=>∃ a C dx fs,x=.ref a/\H2 a=some (.ins C dx fs)/\rV K C/\bu K C f/\fs.length < 1000 /\
 D.nx σ (upd H2 a (.ins C dx (eG f y fs)))
section
variable {X:Cx}{o e value:Expr}{f:Str}{pos pos':Pos}{ta tv:TE}
theorem sY (he:PE X e ta)(hb:attributeBase e f X.env (eval e X.env)=eval e X.env):PE X (.Attribute e f pos) (UE X.K ta f):=by
 intro pins s σ H Q I h
 refine Jr hb (bK (he pins s σ H _ I h) fun u s1 ⟨x,H1,I1,rx,a,C,dx,fs,v,ex,ea,c,n,l,q⟩=>?_)
 subst ex
 obtain rfl:u=Value.ref a:=rx
 exact AL I1 ea c n l fun u' s2 I2 ru=>⟨v,H1,I2,ru,q⟩
theorem sZ (ha:PE X o ta)(hv:PE X value tv)(hs:swapsWith value (some (.Attribute o f pos')) pos.line X.env=pure false):PS X (.Assign [.Attribute o f pos'] value pos) (UG X.K ta tv f):=by
 intro pins s σ H D I h
 refine plainObj_wpAny_Assign_Attribute (bK (hv pins s σ H _ I h) fun u s1 ⟨y,H1,I1,ry,q⟩=>bK (ha pins s1 σ H1 _ I1 q) fun ov s2 ⟨x,H2,I2,rx,a,C,dx,fs,ex,ea,c,n,l,q2⟩=>?_) hs
 subst ex
 obtain rfl:ov=Value.ref a:=rx
 exact AM I2 ea c n l ry fun s3 I3=>⟨σ,_,I3,q2⟩
end
section
variable {X:Cx}{pins:List (Addr×Obj)}{σ:St}{H:Hp}{s:Shared}{A:Around}{E:Value->Shared->Prop}{Q:Value->Shared->Prop}{c:Value}{b:Bool}
inductive qZ (K:W.Frag)(H:Hp):V->Value->Prop where
 | cL:qZ K H .cL (.type "NoneType")
 | bl (x:Bool):qZ K H (.bl x) (.type "bool")
 | int (i:Int):qZ K H (.int i) (.type "int")
 | str (x:Str):qZ K H (.str x) (.type "str")
 | MH (x:UInt64):qZ K H (.MH x) (.type "float")
 | lst {a:Addr} {xs:List V} (e:H a=some (.lst xs)):qZ K H (.ref a) (.type "list")
 | bh {a:Addr} {o:Obj} {xs:List V} (e:H a=some (.bh o (.lst xs))):qZ K H (.ref a) (.type "list")
 | tup {a:Addr} {xs:List V} (e:H a=some (.tup xs)):qZ K H (.ref a) (.type "tuple")
 | dK {a:Addr} {kvs:List (Key×V)} (e:H a=some (.dK kvs)):qZ K H (.ref a) (.type "dict")
 | dT {a:Addr} {kvs:List (List Key×V)} (e:H a=some (.dT kvs)):qZ K H (.ref a) (.type "dict")
 | ins {a C dx:Addr} {fs:List (Str×V)} (e:Rd H a (.ins C dx fs)) (cl:rV K C) (ha:W.findIn K (.ref C) "__class__"=some (some (.builtin "object.__class__")))
     (hn:W.specialIn K (.builtin "object.__class__") "__get__"=some (some (.builtin "getset_descriptor.__get__"))) (Nb:W.takesIn K (.builtin "object.__class__")=some true)
     (hm:W.mroIn K C (.type "object")=some true):qZ K H (.ref a) (.ref C)
theorem qd {x:V}{u t:Value}(I:Inv X pins σ H s)(rx:RelV x u)(ty:qZ X.K H x t)(e:W.kitOne X.K t c=some b)(h:∀ tk,Q (.bool b) { s with toks:=tk}):wpAny (model X.prog X.w) A (call (.builtin "isinstance") [u,c]) Q E s:=by
 cases ty with
 | cL=>cases (show u=Value.none from rx);exact W.kia_one W.kitx_none I.lH True.intro e (fun z=>nomatch z) h
 | bl y=>cases (show u=Value.bool y from rx);exact W.kia_one W.kitx_bool I.lH True.intro e (fun z=>nomatch z) h
 | int i=>obtain⟨t,q⟩:=(show ∃ t,u=Value.int i t from rx);cases q;exact W.kia_one W.kitx_int I.lH True.intro e (fun z=>nomatch z) h
 | str y=>obtain⟨t,q⟩:=(show ∃ t,u=Value.str y t from rx);cases q;exact W.kia_one W.kitx_str I.lH True.intro e (fun z=>nomatch z) h
 | MH y=>obtain⟨t,q⟩:=(show ∃ t,u=Value.float y t from rx);cases q;exact W.kia_one W.kitx_float I.lH True.intro e (fun z=>nomatch z) h
 | @lst a xs ea=>
   cases (show u=Value.ref a from rx)
   obtain⟨_,_,n,_,h1⟩:=(show aJ X.prog X.w H s.heap a (.lst xs) from I.aZ a _ ea)
   exact W.kia_one W.kitx_list I.lH ⟨_,h1,rfl⟩ e (fun z=>nomatch z) h
 | @bh a ob xs ea=>
   cases (show u=Value.ref a from rx)
   obtain⟨_,_,_,n,_,h1⟩:=(show aJ X.prog X.w H s.heap a (.bh ob (.lst xs)) from I.aZ a _ ea)
   exact W.kia_one W.kitx_list I.lH ⟨_,h1,rfl⟩ e (fun z=>nomatch z) h
 | @tup a xs ea=>
   cases (show u=Value.ref a from rx)
   obtain⟨_,_,_,p⟩:=(show aJ X.prog X.w H s.heap a (.tup xs) from I.aZ a _ ea)
   obtain⟨o,h1,h2,_⟩:=p
   exact W.kia_one W.kitx_tuple I.lH ⟨o,h1,h2⟩ e (fun z=>nomatch z) h
 | @dK a kvs ea=>
   cases (show u=Value.ref a from rx)
   obtain⟨_,_,vs,_,p⟩:=(show aJ X.prog X.w H s.heap a (.dK kvs) from I.aZ a _ ea)
   obtain⟨o,es,ep,h1,h2,_⟩:=p
   exact W.kia_one W.kitx_dict I.lH ⟨o,h1,h2.1⟩ e (fun z=>nomatch z) h
 | @dT a kvs ea=>
   cases (show u=Value.ref a from rx)
   obtain⟨_,_,xs,_,o,es,ep,h1,h2,_⟩:=(show aJ X.prog X.w H s.heap a (.dT kvs) from I.aZ a _ ea)
   exact W.kia_one W.kitx_dict I.lH ⟨o,h1,h2.1⟩ e (fun z=>nomatch z) h
 | @ins a C dx fs ea cl ha hn Nb hm=>
   cases (show u=Value.ref a from rx)
   obtain⟨mA,O,_⟩:=rT I.aZ ea
   obtain⟨od,J,_⟩:=O.look
   exact W.kia_one (W.kitx_own (cl.get _) cl.hd ha hn Nb hm) I.lH J e (fun z=>nomatch z) h
end
structure dU (k:Nat)(A:Around):Prop where
 hd:A.handled=none
 dp:A.depth+3 * k+5 < recursionLimit
 un:A.units+16 * k+200 < cLine
theorem dU.mono {j k:Nat}{A:Around}(r:dU k A)(h:j<=k):dU j A:=⟨r.hd,by have:=r.dp;omega,by have:=r.un;omega⟩
theorem dU.deeper {k:Nat}{A:Around}(r:dU (k+1) A)(env:Env):dU k (A.deeper env):=
 ⟨r.hd,by have:=r.dp;show A.depth+1+3 * k+5 < _;omega,by have:=r.un;show A.units+3+16 * k+200 < _;omega⟩
theorem AN {A:Around}{C:Addr}{us:List Value}{kw:List (Str×Value)}:(A.under (.builtin "type.__call__" ⟨.ref C::us,kw⟩)).depth=A.depth+1:=by
 first | rfl | simp[Around.under,Code.weight,Code.isCreation,Code.isGuard,Code.isCaller,Code.frames,Code.isFrame,guardIds]
theorem AO {A:Around}{C:Addr}{us:List Value}{kw:List (Str×Value)}:(A.under (.builtin "type.__call__" ⟨.ref C::us,kw⟩)).units=A.units+1:=by
 first | rfl | simp[Around.under,Code.cUnits,Code.frames,Code.isFrame]
theorem dU.make {k:Nat}{A:Around}(r:dU (k+1) A)(C:Addr)(us:List Value)(kw:List (Str×Value)):dU k (A.under (.builtin "type.__call__" ⟨.ref C::us,kw⟩)):=
 ⟨r.hd,by have:=r.dp;rw[AN];omega,by have:=r.un;rw[AO];omega⟩
theorem dU.depth {k:Nat}{A:Around}(r:dU k A):A.depth < recursionLimit:=by have:=r.dp;omega
theorem dU.units {k:Nat}{A:Around}(r:dU k A):A.units+64 < cLine:=by have:=r.un;omega
def QD:TA:=fun _ H Q=>Q [] H
def QE (ta:TE)(tr:TA):TA:=fun σ H Q=>ta σ H fun x H1=>tr σ H1 fun xs H2=>Q (x::xs) H2
section
variable {X:Cx}{e:Expr}{es:List Expr}{te:TE}{t:TA}{pos:Pos}
theorem mM:PA X [] QD:=fun _ _ _ _ H Q I h=>Calls.spliced_nil ⟨[],H,I,.nil,h⟩
theorem kE (ha:PE X e te)(hr:PA X es t)(hs:starEach (e::es) X.env=(false,eval e X.env)::starEach es X.env:=by rfl):PA X (e::es) (QE te t):=by
 intro pos pins s σ H Q I h
 rw[hs]
 show wpAny _ _ (spliced ((false,eval e X.env)::backTo pos (starEach es X.env))) _ _ s
 refine Calls.spliced_cons (bK (ha pins s σ H _ I h) fun u s1 ⟨x,H1,I1,r1,q1⟩=>?_)
 exact bK (hr pos pins s1 σ H1 _ I1 q1) fun us s2 ⟨xs,H2,I2,r2,q2⟩=>⟨x::xs,H2,I2,.cons r1 r2,q2⟩
def UH (t:TA):TE:=fun σ H Q=>t σ H fun xs H1=>xs.length<=sizeLine/\∀ p,H1 p=none->Q (.ref p) (upd H1 p (.tup xs))
def UI (t:TA):TE:=fun σ H Q=>t σ H fun xs H1=>xs.length<=sizeLine/\∀ p,H1 p=none->Q (.ref p) (upd H1 p (.lst xs))
theorem Nc {x1}(h:PA X es t):PE X (.Tuple es x1 pos) (UH t):=by
 intro pins s σ H Q I hq
 refine wpAny_Tuple_spliced (bK (h pos pins s σ H _ I hq) fun us s1 ⟨xs,H1,I1,r,z,q⟩=>⟨by rw[<- r.length];exact z,?_⟩)
 have hf:H1 s1.heap.objs.size=none:=I1.aZ.fresh (Nat.le_refl _)
 refine⟨.ref s1.heap.objs.size,upd H1 s1.heap.objs.size (.tup xs),I1.laid (t':=s1.toks) (fun b u e=>Heap.get?_push_of_some _ e) (Nat.le_refl _) ?_,rfl,q _ hf⟩
 exact⟨z,us,r,⟨_,Heap.get?_push_size _ rfl,rfl,_,rfl⟩⟩
theorem tf (h:PA X es t):PE X (.List es pos) (UI t):=by
 intro pins s σ H Q I hq
 refine wpAny_List_spliced (bK (h pos pins s σ H _ I hq) fun us s1 ⟨xs,H1,I1,r,z,q⟩=>⟨by rw[<- r.length];exact z,?_⟩)
 have hf:H1 s1.heap.objs.size=none:=I1.aZ.fresh (Nat.le_refl _)
 refine⟨.ref s1.heap.objs.size,upd H1 s1.heap.objs.size (.lst xs),I1.laid (t':=s1.toks) (fun b u e=>Heap.get?_push_of_some _ e) (Nat.le_refl _) ?_,rfl,q _ hf⟩
 exact⟨z,us,0,r,Heap.get?_push_size _ rfl⟩
end
abbrev Sp:=List V->Hp->VK->XK->Prop
abbrev qe:=List Env->Hp->Shared->XK->Value->Shared->Prop
structure yQ (P:Program)(w:World)(K:W.Frag)(mg:Str->Option Value)(base:Heap)(A:Around)(outer:List Env)(s:Shared)(H:Hp):Prop where
 frames:A.frames=some outer
 mod:Mod K mg base
 bs:∀ b o,base.get? b=some o->s.heap.get? b=some o/\H b=none
 BW:base.objs.size<=s.heap.objs.size
 p0:s.heap.FunFrames base outer
 Ly:∀ b∈EY outer,H b=none
 aZ:oZ P w H s.heap
 bare:AllBare s.gens
def CE (outer:List Env)(P:Program)(w:World)(H:Hp)(s:Shared)(Q:VK)(u:Value)(s':Shared):Prop:=
 ∃ v H',s'.os=s.os/\AllBare s'.gens/\Un (EY outer) [] H H' s.heap s'.heap/\oZ P w H' s'.heap/\RelV v u/\Q v H'
def CR (CX:qe)(outer:List Env)(P:Program)(w:World)(H:Hp)(s:Shared)(Q:VK)(E:XK)(r:Result)(s':Shared):Prop:=
 match r with
 | .ok (.ret u)=>CE outer P w H s Q u s'
 | .ok _=>False
 | .error e=>CX outer H s E e s'
structure i3 (P:Program)(w:World)(K:W.Frag)(mg:Str->Option Value)(base:Heap)(CX:qe)(k:Nat)(f:Addr)(fd:FuncData)(ps:List Str)(sp:Sp):Prop where
 len:∀ vs H Q E,sp vs H Q E->vs.length=ps.length
 run:∀ (A:Around) (outer:List Env) (s:Shared) (H:Hp) (args:Args) (us:List Value) (vs:List V) (Q:VK) (E:XK),dU k A->yQ P w K mg base A outer s H->BindsTo s fd args (ps.zip us)->Vals vs us->sp vs H Q E ->
   codeAny (model P w) A (.call (.ref f) args) (CR CX outer P w H s Q E) s
theorem yQ.make {P:Program}{w:World}{K:W.Frag}{mg:Str->Option Value}{base:Heap}{A:Around}{outer:List Env}{s:Shared}{H:Hp}(e:yQ P w K mg base A outer s H)(C:Addr)(us:List Value)(kw:List (Str×Value)):yQ P w K mg base (A.under (.builtin "type.__call__" ⟨.ref C::us,kw⟩)) outer s H:=⟨by first | exact e.frames | (simpa [Around.under,Code.envs,Code.isFrame,pushEnvs] using e.frames),e.mod,e.bs,e.BW,e.p0,e.Ly,e.aZ,e.bare⟩
section
variable {X:Cx}{pins:List (Addr×Obj)}{σ:St}{H:Hp}{s s':Shared}
theorem Inv.QF (I:Inv X pins σ H s):yQ X.prog X.w X.K X.mg X.base X.A X.stack s H:=
 ⟨I.ok.frames,I.ok.mod,I.bs,Nat.le_trans I.ok.BW I.sz,I.stack,I.rQ,I.aZ,I.bare⟩
theorem Inv.after {Q:VK}{u:Value}(I:Inv X pins σ H s)(h:CE X.stack X.prog X.w H s Q u s'):EP X pins σ Q u s':=by
 obtain⟨v,H',os,bare,un,aZ,r,q⟩:=h
 obtain⟨hh,g,d,t,UJ⟩:=s'
 obtain rfl:UJ=s.os:=os
 exact⟨v,H',I.call (h':=hh) (g':=g) (d':=d) (t':=t) (ch:=[]) un aZ bare (fun b z=>absurd z (by simp)),r,q⟩
end
def QG (sp:Sp)(dvs:List V)(E:XK)(t:TA):TE:=fun σ H Q=>t σ H fun vs H1=>sp (vs ++ dvs) H1 Q E
def LF (C:Addr)(m:Str)(sp:Sp)(dvs:List V)(E:XK)(ta:TE)(t:TA):TE:=fun σ H Q=>ta σ H fun x H1=>∃ a dx fs,x=.ref a/\Rd H1 a (.ins C dx fs)/\fs.lookup m=none /\
 t σ H1 fun vs H2=>sp (x::(vs ++ dvs)) H2 Q E
def QH (C:Addr)(sp:Sp)(dvs:List V)(E:XK)(t:TA):TE:=fun σ H Q=>t σ H fun vs H1=>∀ x dx,H1 x=none->H1 dx=none->dx≠x ->
 sp (.ref x::(vs ++ dvs)) (upd (upd H1 dx (.own x)) x (.ins C dx [])) (fun v H2=>v=.cL/\Q (.ref x) H2) E
def Binds (K:W.Frag)(fd:FuncData)(ps:List Str)(ds:List Value):Prop:=
 ∀ (s:Shared) (us:List Value),K.In s.heap->(us ++ ds).length=ps.length->BindsTo s fd ⟨us,[]⟩ (ps.zip (us ++ ds))
theorem Binds.all {K:W.Frag}{fd:FuncData}{ps:List Str}(h:∀ us:List Value,us.length=ps.length->bindArgs fd ⟨us,[]⟩=pure (ps.zip us)):Binds K fd ps []:=fun s us _ hl=>by
 rw[List.append_nil] at hl ⊢
 exact .of_eq (h us hl)
def Passes (CX:qe)(X:Cx)(E:XK):Prop:=∀ (pins:List (Addr×Obj)) (σ:St) (H:Hp) (s:Shared) (e:Value) (s':Shared),Inv X pins σ H s->CX X.stack H s E e s'->X.xe e s'
section
variable {X:Cx}{CX:qe}{k:Nat}{f C:Addr}{fd:FuncData}{ps:List Str}{sp:Sp}{dvs:List V}{ds:List Value}{E:XK}{x m:Str}{p pos apos:Pos}{e o:Expr}{es:List Expr}{ta:TE}{t:TA}
theorem AQ {pins:List (Addr×Obj)}{σ:St}{H:Hp}{s:Shared}{Q:VK}{us:List Value}{vs:List V}(F:i3 X.prog X.w X.K X.mg X.base CX k f fd ps sp)(hr:dU k X.A)(hb:Binds X.K fd ps ds)(hd:Vals dvs ds)(hx:Passes CX X E)(I:Inv X pins σ H s)(r:Vals vs us)(h:sp (vs ++ dvs) H Q E):wpAny (model X.prog X.w) X.A (call (.ref f) us) (EP X pins σ Q) X.xe s:=by
 have r2:Vals (vs ++ dvs) (us ++ ds):=r.append hd
 have hl:(us ++ ds).length=ps.length:=by rw[<- r2.length];exact F.len _ _ _ _ h
 refine wpAny_call (codeAny_mono (F.run X.A X.stack s H ⟨us,[]⟩ (us ++ ds) (vs ++ dvs) Q E hr I.QF (hb s us I.lH hl) r2 h) fun r s' hq=>?_)
 cases r with
 | error e=>exact hx pins σ H s e s' I hq
 | ok fl=>
   cases fl with
   | ret u=>exact I.after hq
   | next=>exact False.elim hq
   | brk=>exact False.elim hq
   | cont=>exact False.elim hq
theorem B1 (F:i3 X.prog X.w X.K X.mg X.base CX k f fd ps sp)(hr:dU k X.A)(hg:Gl X x)(hm:X.mg x=some (.ref f))(hk:W.keepIn X.K (.ref f)=true)(hb:Binds X.K fd ps ds)(hd:Vals dvs ds)(hx:Passes CX X E)(ha:PA X (e::es) t)(lG:(x == ("__debug__":Str))=false:=by decide)(he:starEach (e::es) X.env=(false,eval e X.env)::starEach es X.env:=by rfl)(mC:(backTo pos (starEach es X.env)).any (·.1)=false:=by rfl):PE X (.Call (.Name x p) (e::es) [] pos) (QG sp dvs E t):=by
 intro pins s σ H Q I h
 refine wpAny_Call_Name_kw (rR I hg hm ?_ lG)
 refine W.callWith_K (h₀:=X.base) I.ok.mod.Qg hk (bK (ha pos pins s σ H _ I h) fun us s1 ⟨vs,H1,I1,r,q⟩=>⟨I1.lH,?_⟩) he mC
 exact AQ F hr hb hd hx I1 r q
theorem B2 {pl:Sem Bool}(he:PE X o ta)(c:rV X.K C)(hm:Meth X.K C m f)(F:i3 X.prog X.w X.K X.mg X.base CX k f fd ps sp)(hr:dU k X.A)(hb:Binds X.K fd ps ds)(hd:Vals dvs ds)(hx:Passes CX X E)(ha:PA X (e::es) t)
   (mB:starEach (e::es) X.env=(false,eval e X.env)::starEach es X.env:=by rfl) (mC:(backTo pos (starEach es X.env)).any (·.1)=false:=by rfl)
   (ht:eval (.Call (.Attribute o m apos) (e::es) [] pos) X.env=(do
     let ov <- eval o X.env
     standAt apos.atName
     let (f,first) <- holding [ov] (getMethod ov m pl)
     callWith pos f first (backTo pos (starEach (e::es) X.env)) (backToKw pos (keywordEach [] X.env))):=by rfl) :
   PE X (.Call (.Attribute o m apos) (e::es) [] pos) (LF C m sp dvs E ta t):=by
 intro pins s σ H Q I h
 refine W.methodCall_KW (pl:=pl) (bK (he pins s σ H _ I h) fun u s1 ⟨x,H1,I1,rx,a,dx,fs,ex,ea,l,q⟩=>?_) ht
 subst ex
 obtain rfl:u=Value.ref a:=rx
 refine sX I1 ea c hm l ?_
 refine W.callWith_K (first:=[.ref a]) (h₀:=X.base) I.ok.mod.Qg hm.kp (bK (ha pos pins s1 σ H1 _ I1 q) fun us s2 ⟨vs,H2,I2,r,q2⟩=>⟨I2.lH,?_⟩) mB mC
 exact AQ (us:=.ref a::us) (vs:=.ref a::vs) F hr hb hd hx I2 (.cons rfl r) q2
theorem yR {pl:Sem Bool}(he:PE X o ta)(c:rV X.K C)(hm:Meth X.K C m f)(F:i3 X.prog X.w X.K X.mg X.base CX k f fd ps sp)(hr:dU k X.A)(hb:Binds X.K fd ps ds)(hd:Vals dvs ds)(hx:Passes CX X E)
   (ht:eval (.Call (.Attribute o m apos) [] [] pos) X.env=(do
     let ov <- eval o X.env
     standAt apos.atName
     let (f,first) <- holding [ov] (getMethod ov m pl)
     callWith pos f first (backTo pos (starEach [] X.env)) (backToKw pos (keywordEach [] X.env))):=by rfl) :
   PE X (.Call (.Attribute o m apos) [] [] pos) (LF C m sp dvs E ta QD):=by
 intro pins s σ H Q I h
 refine W.methodCall_KW (pl:=pl) (bK (he pins s σ H _ I h) fun u s1 ⟨x,H1,I1,rx,a,dx,fs,ex,ea,l,q⟩=>?_) ht
 subst ex
 obtain rfl:u=Value.ref a:=rx
 refine sX I1 ea c hm l ?_
 exact W.callWith_K0 (first:=[.ref a]) I1.lH hm.kp (AQ (us:=[.ref a]) (vs:=[.ref a]) F hr hb hd hx I1 (.cons rfl .nil) q)
structure Mk (K:W.Frag)(C f:Addr):Prop where
 makes:W.makesIn K C=true
 init:W.findIn K (.ref C) "__init__"=some (some (.ref f))
 fn:W.isFn K (.ref f)=true
 kp:W.keepIn K (.ref C)=true
theorem Fe {pins:List (Addr×Obj)}{σ:St}{H:Hp}{s:Shared}{Q:VK}{us:List Value}{vs:List V}(M:Mk X.K C f)(F:i3 X.prog X.w X.K X.mg X.base CX k f fd ps sp)(hr:dU (k+1) X.A)(hb:Binds X.K fd ps ds)(hd:Vals dvs ds)(hx:Passes CX X E)(I:Inv X pins σ H s)(r:Vals vs us)(h:∀ x dx,H x=none->H dx=none->dx≠x->sp (.ref x::(vs ++ dvs)) (upd (upd H dx (.own x)) x (.ins C dx [])) (fun v H2=>v=.cL/\Q (.ref x) H2) E):wpAny (model X.prog X.w) X.A (call (.ref C) us) (EP X pins σ Q) X.xe s:=by
 have hq:=h (s.heap.objs.size+1) s.heap.objs.size (I.aZ.fresh (Nat.le_succ _)) (I.aZ.fresh (Nat.le_refl _)) (Nat.ne_of_lt (Nat.lt_succ_self _))
 have I2:=Inv.made (C:=C) I
 have r2:Vals (V.ref (s.heap.objs.size+1)::(vs ++ dvs)) (Value.ref (s.heap.objs.size+1)::(us ++ ds)):=.cons rfl (r.append hd)
 have hl:(Value.ref (s.heap.objs.size+1)::us ++ ds).length=ps.length:=by
   have e:=r2.length
   rw[F.len _ _ _ _ hq] at e
   exact e.symm
 refine wpAny_call (Fd (f:=f) I.lH M.makes M.init (beq_iff_eq.mp M.fn) (codeAny_mono (F.run _ X.stack _ _ ⟨Value.ref (s.heap.objs.size+1)::us,[]⟩ (Value.ref (s.heap.objs.size+1)::(us ++ ds)) _ _ E (hr.make C us [])
   (I2.QF.make C us []) (hb _ (Value.ref (s.heap.objs.size+1)::us) I2.lH hl) r2 hq) fun r s' QI=>?_))
 cases r with
 | error e=>exact hx pins σ _ _ e s' I2 QI
 | ok fl=>
   cases fl with
   | ret u=>
     obtain⟨v,H',I3,rv,ev,q3⟩:=I2.after QI
     subst ev
     exact⟨rv,⟨V.ref (s.heap.objs.size+1),H',I3,rfl,q3⟩⟩
   | next=>exact False.elim QI
   | brk=>exact False.elim QI
   | cont=>exact False.elim QI
theorem B3 (M:Mk X.K C f)(F:i3 X.prog X.w X.K X.mg X.base CX k f fd ps sp)(hr:dU (k+1) X.A)(hg:Gl X x)(hm:X.mg x=some (.ref C))(hb:Binds X.K fd ps ds)(hd:Vals dvs ds)(hx:Passes CX X E)(ha:PA X (e::es) t)(lG:(x == ("__debug__":Str))=false:=by decide)(he:starEach (e::es) X.env=(false,eval e X.env)::starEach es X.env:=by rfl)(mC:(backTo pos (starEach es X.env)).any (·.1)=false:=by rfl):PE X (.Call (.Name x p) (e::es) [] pos) (QH C sp dvs E t):=by
 intro pins s σ H Q I h
 refine wpAny_Call_Name_kw (rR I hg hm ?_ lG)
 refine W.callWith_K (h₀:=X.base) I.ok.mod.Qg M.kp (bK (ha pos pins s σ H _ I h) fun us s1 ⟨vs,H1,I1,r,q⟩=>⟨I1.lH,?_⟩) he mC
 exact Fe M F hr hb hd hx I1 r q
end
section
variable {fd:FuncData}{ps ks:List Str}
structure UK (K:W.Frag)(fd:FuncData)(ps ks:List Str)(g:List Value->List Value->List Value)(gV:List V->List V->List V):Prop where
 to:∀ (s:Shared) (us ws:List Value),K.In s.heap->(g us ws).length=ps.length->BindsTo s fd ⟨us,ks.zip ws⟩ (ps.zip (g us ws))
 rel:∀ {vs:List V} {us:List Value} {zs:List V} {ws:List Value},Vals vs us->Vals zs ws->Vals (gV vs zs) (g us ws)
end
structure ar (N P:List Str)(sc:Scope):Prop where
 kind:sc.kind=.function
 co:sc.isCoroutine=false
 gen:sc.isGenerator=false
 nd:N.Nodup
 pre:N.take P.length=P
 par:∀ x∈P,sc.names.lookup x=some .local\/sc.names.lookup x=some .cell
 Nd:∀ y∈sc.names,y.2≠.free
theorem vL {kindOf:Str->Option NameKind}{x:Str}:∀ {binds:List (Str×Value)} {m:Str->Option Value},(∀ v,(x,v) ∉ binds)->bindL kindOf binds m x=m x
 | [],_,_=>rfl
 | (n,v)::r,m,h=>by
   unfold bindL
   rw[vL fun w hw=>h w (List.mem_cons_of_mem _ hw)]
   split
   . have:x≠n:=by rintro rfl;exact h v List.mem_cons_self
     simp[this]
   . rfl
theorem vM {kindOf:Str->Option NameKind}{x:Str}:∀ {binds:List (Str×Value)} {m:Str->Option Value},(∀ v,(x,v) ∉ binds)->bindC kindOf binds m x=m x
 | [],_,_=>rfl
 | (n,v)::r,m,h=>by
   unfold bindC
   rw[vM fun w hw=>h w (List.mem_cons_of_mem _ hw)]
   split
   . rfl
   . have:x≠n:=by rintro rfl;exact h v List.mem_cons_self
     simp[this]
theorem vN {kindOf:Str->Option NameKind}{x:Str}{v:Value}:∀ {P:List Str} {vs:List Value} {i:Nat} {m:Str->Option Value},P.Nodup->P[i]?=some x->vs[i]?=some v->kindOf x=some .local->bindL kindOf (P.zip vs) m x=some v
 | [],_,_,_,_,h,_,_=>by simp at h
 | _::_,[],_,_,_,_,h,_=>by simp at h
 | p::P,w::vs,0,m,nd,h1,h2,hk=>by
   simp at h1 h2;subst h1;subst h2
   show bindL kindOf ((p,w)::P.zip vs) m p=_
   unfold bindL
   rw[vL fun v hv=>(List.nodup_cons.mp nd).1 (List.of_mem_zip hv).1,if_pos hk]
   simp
 | p::P,w::vs,i+1,m,nd,h1,h2,hk=>by
   show bindL kindOf ((p,w)::P.zip vs) m x=_
   unfold bindL
   exact vN (i:=i) (List.nodup_cons.mp nd).2 (by simpa using h1) (by simpa using h2) hk
theorem vO {kindOf:Str->Option NameKind}{x:Str}{v:Value}:∀ {P:List Str} {vs:List Value} {i:Nat} {m:Str->Option Value},P.Nodup->P[i]?=some x->vs[i]?=some v->kindOf x≠some .local->bindC kindOf (P.zip vs) m x=some v
 | [],_,_,_,_,h,_,_=>by simp at h
 | _::_,[],_,_,_,_,h,_=>by simp at h
 | p::P,w::vs,0,m,nd,h1,h2,hk=>by
   simp at h1 h2;subst h1;subst h2
   show bindC kindOf ((p,w)::P.zip vs) m p=_
   unfold bindC
   rw[vM fun v hv=>(List.nodup_cons.mp nd).1 (List.of_mem_zip hv).1,if_neg hk]
   simp
 | p::P,w::vs,i+1,m,nd,h1,h2,hk=>by
   show bindC kindOf ((p,w)::P.zip vs) m x=_
   unfold bindC
   exact vO (i:=i) (List.nodup_cons.mp nd).2 (by simpa using h1) (by simpa using h2) hk
def start (N:List Str)(vs:List V):St:=vs.map some ++ List.replicate (N.length - vs.length) none
def yS (CX:qe)(P:Program)(w:World)(K:W.Frag)(mg:Str->Option Value)(base:Heap)(N:List Str)(qual:Str)(scope:Scope)(f:Addr)(cd:Value)(A:Around)(outer:List Env)(s:Shared)(H:Hp)(E:XK):Cx where
 prog:=P
 w:=w
 K:=K
 mg:=mg
 base:=base
 A:=A.deeper (envOfC qual scope s.heap.objs.size f cd)
 N:=N
 s₀:=s
 H₀:=H
 env:=envOfC qual scope s.heap.objs.size f cd
 outer:=outer
 stack:=envOfC qual scope s.heap.objs.size f cd::outer
 ex:=[]
 calm:=true
 fn:=fun _=>true
 pn:=[]
 xe:=fun e s'=>wpAny (model P w) (A.deeper (envOfC qual scope s.heap.objs.size f cd)) (leaving (envOfC qual scope s.heap.objs.size f cd) e) (fun _ Nf=>CX outer H s E e Nf) (fun e' Nf=>CX outer H s E e' Nf) s'
theorem yT {sc:Scope}{n:Nat}{x:Str}(h:sc.names.lookup x=some .cell):∃ c,(cellsFrom n sc.names []).lookup x=some c:=by
 have q:=W.cellsFrom_some sc.names n [] (.inl h)
 exact Option.isSome_iff_exists.mp q
theorem Dv {CX:qe}{P:Program}{w:World}{K:W.Frag}{mg:Str->Option Value}{base:Heap}{N ps:List Str}{qual:Str}{scope:Scope}{f:Addr}{cd:Value}{A:Around}{outer:List Env}{s s1:Shared}{H:Hp}{E:XK}{us:List Value}{vs:List V}(S:ar N ps scope)(hd:A.handled=none)(e0:yQ P w K mg base A outer s H)(hl:vs.length=ps.length)(r:Vals vs us)(x:InCallC s s.heap.objs.size (bindL (envOfC qual scope s.heap.objs.size f cd).kindOf (ps.zip us) fun _=>none) (cellsFrom (s.heap.objs.size+1) scope.names []) (bindC (envOfC qual scope s.heap.objs.size f cd).kindOf (ps.zip us) fun _=>none) s1):Inv (yS CX P w K mg base N qual scope f cd A outer s H E) [] (start N vs) H s1:=by
 have mC:ps.length<=N.length:=by have:=congrArg List.length S.pre;rw[List.length_take] at this;omega
 obtain⟨h1,tk,rfl,hk⟩:=x.done
 have QJ:∀ b:Addr,b ∉ (yS CX P w K mg base N qual scope f cd A outer s H E).ex:=fun b z=>absurd (show b∈([]:List Addr) from z) (by simp)
 refine⟨⟨e0.mod,S.kind,rfl,rfl,Nat.le_refl _,fun y z c h1 h2=>?_,fun y hy=>?_,fun y c _ h=>?_,fun _=>hd,Around.frames_deeper e0.frames,.inr ⟨rfl,rfl⟩,fun b z=>absurd z (QJ b),e0.bs,e0.BW,fun b _ _=>QJ b,fun b z=>absurd z (QJ b),e0.p0,e0.Ly⟩,
   rfl,e0.bare,Un.kept hk,⟨_,x.toInCall.ns,fun i y v h1 h2 h3=>?_⟩,fun y c h=>⟨_,x.cell y c h⟩,e0.aZ.fresh (Nat.le_refl _),fun y c h=>?_,fun p hp=>absurd (show p∈([]:List (Addr×Obj)) from hp) (by simp),e0.aZ.kept hk,?_⟩
 . exact name_of_addr x.apart (PySem.mem_of_lookup h1) (PySem.mem_of_lookup h2)
 . have hy:scope.names.lookup y=some .cell\/scope.names.lookup y=some .free:=hy
   rcases hy with hy | hy
   . exact yT hy
   . exact absurd rfl (S.Nd _ (PySem.mem_of_lookup hy))
 . exact Nat.le_of_lt (x.above y c (PySem.mem_of_lookup h))
 . have hi:i < vs.length:=by
     unfold start at h2
     by_cases hi:i < vs.length
     . exact hi
     . rw[List.getElem?_append_right (by simpa using hi)] at h2
       rw[List.getElem?_replicate] at h2
       split at h2 <;> cases h2
   have ha:vs[i]?=some v:=by
     unfold start at h2
     rw[List.getElem?_append_left (by simpa using hi),List.getElem?_map] at h2
     cases e:vs[i]? with
     | none=>rw[e] at h2;cases h2
     | some a=>rw[e] at h2;cases h2;rfl
   obtain⟨u,hu,rv⟩:=r.get ha
   have hp:ps[i]?=some y:=by
     rw[<- S.pre,List.getElem?_take_of_lt (by omega)];exact h1
   have W2:ps.Nodup:=by rw[<- S.pre];exact S.nd.sublist (List.take_sublist _ _)
   refine⟨u,rv,?_⟩
   rcases S.par y (List.mem_of_getElem? hp) with k | k
   . exact .inl ⟨k,vN W2 hp hu k⟩
   . obtain⟨c,e⟩:=yT (n:=s.heap.objs.size+1) k
     refine .inr ⟨.inl k,c,e,?_⟩
     have q:=x.cell y c e
     rw[vO W2 hp hu (by show scope.names.lookup y≠_;rw[k];decide)] at q
     exact q
 . exact e0.aZ.fresh (Nat.le_of_lt (x.above y c (PySem.mem_of_lookup h)))
 . unfold start
   show _=N.length
   rw[List.length_append,List.length_map,List.length_replicate]
   omega
theorem Ff {CX:qe}{P:Program}{w:World}{K:W.Frag}{mg:Str->Option Value}{base:Heap}{k:Nat}{f:Addr}{name qual:Str}{params:Arguments}{body:List Stmt}{scope:Scope}{dV kV doc pm bA ct oc:Value}{an od:Option Addr}{vP:Array (Option Value)}{N ps:List Str}{sp:Sp}(lk:K.lookup f=some ⟨oc,od,.func (W.fnOf name qual params body scope dV kV doc pm an bA ct),vP⟩)(k7:W.codeIn K bA qual=true)(S:ar N ps scope)(len:∀ vs H Q E,sp vs H Q E->vs.length=ps.length)(o4:∀ (A:Around) (outer:List Env) (s:Shared) (H:Hp) (vs:List V) (Q:VK) (E:XK),dU k (A.deeper (envOfC qual scope s.heap.objs.size f bA))->sp vs H Q E->∃ t,AD (yS CX P w K mg base N qual scope f bA A outer s H E) body t/\t { nx:=fun _ H'=>Q .cL H',rt:=Q} (start N vs) H):i3 P w K mg base CX (k+1) f (W.fnOf name qual params body scope dV kV doc pm an bA ct) ps sp:=by
 refine⟨len,fun A outer s H args us vs Q E hr e0 hb r LG=>?_⟩
 have hl:=len _ _ _ _ LG
 have KX:K.In s.heap:=e0.mod.Qg.keeps fun b o e=>(e0.bs b o e).1
 have lim:s.heap.NoLimit:=e0.mod.nolimit.keeps fun b o e=>(e0.bs b o e).1
 have QK:∀ y∈ps.zip us,scope.names.lookup y.1=some .local\/(scope.names.lookup y.1=some .cell/\((cellsFrom (s.heap.objs.size+1) scope.names []).lookup y.1).isSome=true):=fun⟨n,v⟩ hy=>by
   rcases S.par n (List.of_mem_zip hy).1 with q | q
   . exact .inl q
   . exact .inr ⟨q,W.cellsFrom_some _ _ _ (.inl q)⟩
 refine codeAny_call_function hr.depth (KX _ _ lk) rfl S.co S.gen rfl (W.codeRec_of KX k7) (hb _ _ _ _ ?_)
 refine wpAny_newFunctionEnv_cells S.kind QK fun env he s1 x=>?_
 subst he
 refine⟨lim.keeps x.toInCall.keep,codeAny_func ?_⟩
 obtain⟨t,ht,hq⟩:=o4 A outer s H vs Q E (hr.deeper _) LG
 have I:Inv (yS CX P w K mg base N qual scope f bA A outer s H E) [] (start N vs) H s1:=Dv S hr.hd e0 hl r x
 refine wpAny_mono (ht [] s1 (start N vs) H _ I hq) (fun fl s' hs=>?_) fun e s' hs=>hs
 have fin:∀ {σ':St} {H':Hp} {v:V} {u:Value},Inv (yS CX P w K mg base N qual scope f bA A outer s H E) [] σ' H' s'->RelV v u->Q v H'->CE outer P w H s Q u s':=
   fun {σ' H' v u} J rv q=>⟨v,H',J.os,J.bare,J.base,J.aZ,rv,q⟩
 cases fl with
 | ret u=>
   obtain⟨v,σ',H',J,rv,q⟩:=hs
   exact fin J rv q
 | next=>
   obtain⟨σ',H',J,q⟩:=hs
   exact fin (v:=V.cL) (u:=Value.none) J rfl q
 | brk=>
   obtain⟨_,_,_,q⟩:=hs
   exact False.elim q
 | cont=>
   obtain⟨_,_,_,q⟩:=hs
   exact False.elim q
section
variable {X:Cx}{x:Str}{p pos:Pos}{e:Expr}{es:List Expr}{t:TA}{id T:String}{r:List V->Hp->VK->Prop}
def W3 (r:List V->Hp->VK->Prop)(t:TA):TE:=fun σ H Q=>t σ H fun vs H1=>r vs H1 Q
theorem fk (hc:jv X (.builtin id) r)(hg:Gl X x)(hm:X.mg x=none)(hv:bootBuiltins x=some (.builtin id))(ha:PA X (e::es) t)(hn:x≠"__name__":=by decide)(lG:(x == ("__debug__":Str))=false:=by decide)(he:starEach (e::es) X.env=(false,eval e X.env)::starEach es X.env:=by rfl)(mC:(backTo pos (starEach es X.env)).any (·.1)=false:=by rfl):PE X (.Call (.Name x p) (e::es) [] pos) (W3 r t):=by
 intro pins s σ H Q I h
 refine wpAny_Call_Name_kw (oE I hg hm hv ?_ hn lG)
 exact PyProof.Rows.callWith_builtin1 (bK (ha pos pins s σ H _ I h) fun us s1 ⟨vs,H1,I1,r1,q1⟩=>hc pins s1 σ H1 vs us Q I1 r1 q1) he mC
theorem nr (hc:jv X (.type T) r)(hg:Gl X x)(hm:X.mg x=none)(hv:bootBuiltins x=some (.type T))(ha:PA X (e::es) t)(hn:x≠"__name__":=by decide)(lG:(x == ("__debug__":Str))=false:=by decide)(he:starEach (e::es) X.env=(false,eval e X.env)::starEach es X.env:=by rfl)(mC:(backTo pos (starEach es X.env)).any (·.1)=false:=by rfl):PE X (.Call (.Name x p) (e::es) [] pos) (W3 r t):=by
 intro pins s σ H Q I h
 refine wpAny_Call_Name_kw (oE I hg hm hv ?_ hn lG)
 exact PyProof.Rows.callWith_type1 (bK (ha pos pins s σ H _ I h) fun us s1 ⟨vs,H1,I1,r1,q1⟩=>hc pins s1 σ H1 vs us Q I1 r1 q1) he mC
end
end L2
namespace HT
open PySem PyProof.Rows
section
def yU (n d:Nat):Option Int->Nat
 | none=>d
 | some v=>if v < 0 then (v+(n:Int)).toNat else min v.toNat n
theorem Fg (n d:Nat):yU n d none=d:=rfl
theorem Js (n d k:Nat):yU n d (some (k:Int))=min k n:=by
 show(if (k:Int) < 0 then ((k:Int)+(n:Int)).toNat else min (k:Int).toNat n)=min k n
 rw[if_neg (by omega),Int.toNat_natCast]
end
end HT
namespace L2
open PySem PySem.Spec PyProof.Rows
abbrev TO:=St->Hp->(Option Int->Hp->Prop)->Prop
def PO (X:Cx)(e:Option Expr)(t:TO):Prop:=
 ∀ (pins:List (Addr×Obj)) (s:Shared) (σ:St) (H:Hp) (Q:Option Int->Hp->Prop),Inv X pins σ H s->t σ H Q ->
   wpAny (model X.prog X.w) X.A (evalPart e X.env) (fun u s'=>∃ o H',Inv X pins σ H' s'/\IsPart u o/\Q o H') X.xe s
def Jt:TO:=fun _ H Q=>Q none H
def QL (t:TE):TO:=fun σ H Q=>t σ H fun x H1=>∃ i,x=.int i/\Q (some i) H1
section
variable {X:Cx}{e:Expr}{te:TE}{lo hi:Option Expr}{tl th:TO}{pos p2:Pos}
theorem B4:PO X none Jt:=by
 intro pins s σ H Q I h
 rw[evalPart_none]
 exact wpAny_pure ⟨none,H,I,.none,h⟩
theorem B5 (h:PE X e te):PO X (some e) (QL te):=by
 intro pins s σ H Q I hw
 rw[evalPart_some]
 refine bK (h pins s σ H _ I hw) fun u s1 ⟨x,H1,I1,r1,q1⟩=>?_
 obtain⟨i,rfl,q⟩:=q1
 obtain⟨t,rfl⟩:=r1
 exact⟨some i,H1,I1,.int i t,q⟩
def UL (X:Cx)(r:V->Option Int->Option Int->Hp->VK->Prop):Prop:=
 ∀ (pins:List (Addr×Obj)) (s:Shared) (σ:St) (H:Hp) (x:V) (v vl vu:Value) (lo hi:Option Int) (sl:Addr) (Q:VK),Inv X pins σ H s->RelV x v->s.heap.IsSliceOf sl vl vu .none->IsPart vl lo->IsPart vu hi->r x lo hi H Q ->
   ∃ T id,typeLookup (.type T) "__getitem__"=pure (some (.builtin id))/\s.TypeIs v T/\wpAny (model X.prog X.w) X.A (getItem v (.ref sl)) (EP X pins σ Q) X.xe s
def YF (r:V->Option Int->Option Int->Hp->VK->Prop)(te:TE)(tl th:TO):TE:=fun σ H Q=>te σ H fun x H1=>tl σ H1 fun l H2=>th σ H2 fun u H3=>r x l u H3 Q
theorem yV {r:V->Option Int->Option Int->Hp->VK->Prop}(hr:UL X r)(he:PE X e te)(hl:PO X lo tl)(hu:PO X hi th):PE X (.Subscript e (.Slice lo hi none p2) pos) (YF r te tl th):=by
 intro pins s σ H Q I h
 refine Subscript_ (bK (he pins s σ H _ I h) fun v s1 ⟨x,H1,I1,r1,q1⟩=>?_)
 refine wpAny_Slice (bK (hl pins s1 σ H1 _ I1 q1) fun vl s2 ⟨l,H2,I2,pl,q2⟩=>bK (hu pins s2 σ H2 _ I2 q2) fun vu s3 ⟨u,H3,I3,pu,q3⟩=>?_)
 rw[evalPart_none]
 refine wpAny_pure ?_
 have I4:Inv X pins σ H3 { s3 with heap:=s3.heap.push { cls:=.type "slice",data:=.fields #[vl,vu,.none]}}:=I3.kept (t':=s3.toks) fun b ob q=>Heap.get?_push_of_some _ q
 obtain⟨T,id,hT,ht,hg⟩:=hr pins { s3 with heap:=s3.heap.push { cls:=.type "slice",data:=.fields #[vl,vu,.none]}} σ H3 x v vl vu l u s3.heap.objs.size Q I4 r1 (Heap.IsSliceOf.new ..) pl pu q3
 show wpAny (model X.prog X.w) X.A (subscriptTail e (.Slice lo hi none p2) v (.ref s3.heap.objs.size)) (EP X pins σ Q) X.xe { s3 with heap:=s3.heap.push { cls:=.type "slice",data:=.fields #[vl,vu,.none]}}
 exact tail_any (ops:=[.ref s3.heap.objs.size,v]) ht hT hg (by with_unfolding_all rfl)
def Dw (xs:List V)(lo hi:Option Int):List V:=(xs.drop (HT.yU xs.length 0 lo)).take (HT.yU xs.length xs.length hi - HT.yU xs.length 0 lo)
theorem yW (xs:List V)(lo hi:Option Int):(Dw xs lo hi).length<=xs.length:=by
 unfold Dw
 rw[List.length_take,List.length_drop]
 omega
theorem yX:jv X (.type "tuple") (fun xs H Q=>∃ a ys,xs=[.ref a]/\Ax X.K H a ys/\Q (.ref a) H):=by
 intro pins s σ H xs us Q I r h
 obtain⟨a,ys,rfl,ha,q⟩:=h
 obtain⟨u,rfl,ru⟩:=vals1 r
 cases ru
 obtain⟨aD,_,p1,_⟩:=I.tuple ha
 exact call_tuple_same (items:=aD.toArray) p1 ⟨.ref a,H,I,rfl,q⟩
end
def AR (n:Nat)(i:Int):Option Nat:=if 0<=i then (if i < n then some i.toNat else none) else if -(n:Int)<=i then some (i+n).toNat else none
def lK {α:Type}(xs:List α)(i:Int):Option α:=(AR xs.length i).bind fun j=>xs[j]?
theorem B6 {n:Nat}{i:Int}{j:Nat}(h:AR n i=some j):seqIndex? i n=some j/\j < n/\-(n:Int)<=i/\i < n:=by
 unfold AR at h
 by_cases h0:0<=i
 . rw[if_pos h0] at h
   by_cases h1:i < n
   . rw[if_pos h1] at h
     have e:i.toNat=j:=Option.some.inj h
     exact⟨by rw[seqIndex_of h0 h1,e],by omega,by omega,h1⟩
   . rw[if_neg h1] at h;cases h
 . rw[if_neg h0] at h
   by_cases h1:-(n:Int)<=i
   . rw[if_pos h1] at h
     have e:(i+n).toNat=j:=Option.some.inj h
     exact⟨by rw[seqIndex_neg (by omega) h1,e],by omega,h1,by omega⟩
   . rw[if_neg h1] at h;cases h
theorem wN {α:Type}{xs:List α}{i:Int}{v:α}(h:lK xs i=some v):∃ j,seqIndex? i xs.length=some j/\xs[j]?=some v/\j < xs.length/\-(xs.length:Int)<=i/\i < xs.length:=by
 unfold lK at h
 cases e:AR xs.length i with
 | none=>rw[e] at h;cases h
 | some j=>
   rw[e] at h
   obtain⟨h1,h2,h3,h4⟩:=B6 e
   exact⟨j,h1,h,h2,h3,h4⟩
theorem kF {α:Type}{xs:List α}{j:Nat}{v:α}(h:xs[j]?=some v):lK xs (j:Int)=some v:=by
 have hj:j < xs.length:=(List.getElem?_eq_some_iff.mp h).1
 have e:AR xs.length (j:Int)=some j:=by
   unfold AR
   rw[if_pos (by omega),if_pos (by omega)];simp
 unfold lK;rw[e];exact h
def jC (b:Expr):Prop:=∀ o i,subscripted b false o i=operate [o,i] (getItem o i)
def PV (X:Cx)(r:R2):Prop:=
 ∀ (value slice:Expr) (pins:List (Addr×Obj)) (s:Shared) (σ:St) (H:Hp) (x y:V) (v u:Value) (Q:VK),Inv X pins σ H s->RelV x v->RelV y u->r x y H Q ->
   subscripted slice false v u=operate [v,u] (getItem v u)->wpAny (model X.prog X.w) X.A (subscriptTail value slice v u) (EP X pins σ Q) X.xe s
def PX (X:Cx)(id:String)(r:V->List V->Hp->VK->Prop):Prop:=
 ∀ (pins:List (Addr×Obj)) (s:Shared) (σ:St) (H:Hp) (x:V) (xs:List V) (v:Value) (us:List Value) (Q:VK),Inv X pins σ H s->RelV x v->Vals xs us->r x xs H Q ->
   wpAny (model X.prog X.w) X.A (call (.builtin id) (v::us)) (EP X pins σ Q) X.xe s
section
variable {X:Cx}{a b:Expr}{ta tb:TE}{pos:Pos}
theorem tq {r:R2}(hr:PV X r)(ha:PE X a ta)(hb:PE X b tb)(hs:jC b):PE X (.Subscript a b pos) (Qu r ta tb):=by
 intro pins s σ H Q I h
 exact Subscript_ (M4 ha hb I h fun v u s2 x y H2 I2 rx ry q=>hr a b pins s2 σ H2 x y v u Q I2 rx ry q (hs _ _))
def UM (K:W.Frag):R2:=fun x y H Q=>∃ p xs i v,x=.ref p/\y=.int i/\lI K H p xs/\lK xs i=some v/\Q v H
def UN (K:W.Frag):R2:=fun x y H Q=>∃ p xs i v,x=.ref p/\y=.int i/\Ax K H p xs/\lK xs i=some v/\Q v H
def UO:R2:=fun x y H Q=>∃ z i c,x=.str z/\y=.int i/\z.length<=sizeLine/\lK z.cps.toList i=some c/\Q (.str ⟨#[c]⟩) H
theorem wO:PV X (UM X.K):=by
 intro value slice pins s σ H x y v u Q I rx ry h hs
 obtain⟨p,xs,i,z,rfl,rfl,hq,he,q⟩:=h
 cases rx
 obtain⟨t,rfl⟩:=ry
 obtain⟨aD,r,pl,hz⟩:=I.list hq
 obtain⟨j,h1,h2,h3,h4,h5⟩:=wN he
 obtain⟨w,ew,Ju⟩:=r.get h2
 have hl:=r.length
 have hn:=kQ
 have fin:EP X pins σ Q w s:=⟨z,H,I,Ju,q⟩
 by_cases h0:0<=i
 . have hj:i.toNat=j:=by
     rw[seqIndex_of h0 h5] at h1
     exact Option.some.inj h1
   exact item_listR pl.isList h0 (by omega) (by rw[hj];simpa using ew) fin hs
 . have hj:(i+(aD.toArray.size:Int)).toNat=j:=by
     rw[seqIndex_neg (by omega) h4] at h1
     rw[List.size_toArray,<- hl]
     exact Option.some.inj h1
   exact subscriptTail_builtinR (x:=w) pl.isList.typeIs slot_list_getitem.lookup
     (wpAny_getItem_list_neg (Q:=fun r s'=>r=w/\EP X pins σ Q r s') pl.isList (by omega) (by rw[List.size_toArray] <;> omega) (by omega) (by rw[hj];simpa using ew) ⟨rfl,fin⟩) hs
theorem Ng:PV X (UN X.K):=by
 intro value slice pins s σ H x y v u Q I rx ry h hs
 obtain⟨p,xs,i,z,rfl,rfl,hq,he,q⟩:=h
 cases rx
 obtain⟨t,rfl⟩:=ry
 obtain⟨aD,r,pl,hz⟩:=I.tuple hq
 obtain⟨j,h1,h2,h3,h4,h5⟩:=wN he
 obtain⟨w,ew,Ju⟩:=r.get h2
 have hl:=r.length
 have hn:=kQ
 have fin:EP X pins σ Q w s:=⟨z,H,I,Ju,q⟩
 exact subscriptTail_builtinR (x:=w) pl.typeIs slot_tuple_getitem.lookup
   (getItem_tuple (j:=j) (Q:=fun r s'=>r=w/\EP X pins σ Q r s') pl (by omega) (by omega) (by rw[List.size_toArray,<- hl];exact h1) (by simpa using ew) ⟨rfl,fin⟩) hs
theorem Nh:PV X UO:=by
 intro value slice pins s σ H x y v u Q I rx ry h hs
 obtain⟨z,i,c,rfl,rfl,hz,he,q⟩:=h
 obtain⟨t,rfl⟩:=rx
 obtain⟨t',rfl⟩:=ry
 obtain⟨j,h1,h2,h3,h4,h5⟩:=wN he
 have hl:z.cps.toList.length=z.length:=by simp[Str.length]
 rw[hl] at h1 h4 h5
 have hn:=kQ
 exact tail_any (typeIs_str s z t) slot_str_getitem.lookup (getItem_str (c:=c) (by
   have e1:decide (i < -(2 ^ 63:Int))=false:=decide_eq_false (by omega)
   have e2:decide (i >= 2 ^ 63)=false:=decide_eq_false (by omega)
   rw[e1,e2,Bool.or_false]) (by rw[h1];simpa using h2) ⟨.str ⟨#[c]⟩,H,I.tok _,⟨_,rfl⟩,q⟩) hs
theorem AS (aD:List Value)(n j:Nat)(u:Value):Obj.mapSeq (·.setIfInBounds j u) { cls:=.type "list",data:=.seq aD.toArray n}={ cls:=.type "list",data:=.seq (aD.set j u).toArray n}:=by
 simp[Obj.mapSeq]
theorem Inv.lst {pins:List (Addr×Obj)}{σ:St}{H:Hp}{s:Shared}{p:Addr}{xs:List V}(I:Inv X pins σ H s)(h:H p=some (.lst xs)):∃ (aD:List Value) (n:Nat),Vals xs aD/\s.heap.get? p=some { cls:=.type "list",data:=.seq aD.toArray n}/\xs.length<=sizeLine:=by
 obtain⟨z,aD,n,r,e⟩:=I.aZ p _ h
 exact⟨aD,n,r,e,z⟩
theorem Inv.Ni {pins:List (Addr×Obj)}{σ:St}{H:Hp}{s:Shared}{p:Addr}{xs ys:List V}{aD its':List Value}{n n':Nat}{f:Obj->Obj}(I:Inv X pins σ H s)(h:H p=some (.lst xs))(ho:s.heap.get? p=some { cls:=.type "list",data:=.seq aD.toArray n})(hf:f { cls:=.type "list",data:=.seq aD.toArray n}={ cls:=.type "list",data:=.seq its'.toArray n'})(r:Vals ys its')(hz:ys.length<=sizeLine)(t:Nat):Inv X pins σ (upd H p (.lst ys)) { s with heap:=s.heap.update p f,toks:=t}:=by
 have e:(s.heap.update p f).get? p=some { cls:=.type "list",data:=.seq its'.toArray n'}:=by
   rw[Heap.get?_update_self f ho (by rw[hf] <;> rfl),hf]
 refine I.write (x:=p) (e:=p) (by rw[h];trivial) (.inl rfl) (fun b u hb q=>(Heap.get?_update_other _ _ (Ne.symm hb)).trans q) ⟨_,e⟩ ?_
 exact⟨hz,its',n',r,e⟩
def QM:V->V->V->Hp->(Hp->Prop)->Prop:=fun o i v H Q=>∃ p xs k j,o=.ref p/\i=.int k/\H p=some (.lst xs)/\AR xs.length k=some j/\Q (upd H p (.lst (xs.set j v)))
theorem set_list:Qr X QM:=by
 intro pins s σ H o i v ov iv u Q I ro ri rv h
 obtain⟨p,xs,k,j,rfl,rfl,hp,hj,q⟩:=h
 cases ro
 obtain⟨t,rfl⟩:=ri
 obtain⟨aD,n,r,ho,hz⟩:=I.lst hp
 obtain⟨h1,h2,h3,h4⟩:=B6 hj
 have hl:=r.length
 have hn:=kQ
 have I':Inv X pins σ (upd H p (.lst (xs.set j v))) { s with heap:=s.heap.update p (Obj.mapSeq (·.setIfInBounds j u))}:=
   I.Ni hp ho (AS aD n j u) (r.set rv j) (by rw[List.length_set];exact hz) s.toks
 by_cases h0:0<=k
 . have hk:k.toNat=j:=by
     rw[seqIndex_of h0 h4] at h1
     exact Option.some.inj h1
   exact W.ki_setAt ho h0 (by omega) (by rw[List.size_toArray,<- hl];exact h4) (by rw[hk];exact⟨_,I',q⟩)
 . have hk:(k+(aD.toArray.size:Int)).toNat=j:=by
     rw[seqIndex_neg (by omega) h3] at h1
     rw[List.size_toArray,<- hl]
     exact Option.some.inj h1
   exact W.ki_setBack ho (by omega) (by rw[List.size_toArray,<- hl];exact h3) (by omega) (by rw[hk];exact⟨_,I',q⟩)
theorem wQ (lo hi:Option Int)(n:Nat):(sliceBounds lo hi none n).1=((HT.yU n 0 lo:Nat):Int)/\(sliceBounds lo hi none n).2.1=((HT.yU n n hi:Nat):Int)/\(sliceBounds lo hi none n).2.2=1:=by
 refine⟨?_,?_,rfl⟩
 . cases lo with
   | none=>simp[sliceBounds,HT.yU]
   | some i=>
     simp only[sliceBounds,HT.yU,Option.getD_none,show(1:Int) > 0 by decide,if_true]
     by_cases h:i < 0
     . simp only[h,if_true] <;> omega
     . simp only[h,if_false] <;> omega
 . cases hi with
   | none=>simp[sliceBounds,HT.yU]
   | some i=>
     simp only[sliceBounds,HT.yU,Option.getD_none,show(1:Int) > 0 by decide,if_true]
     by_cases h:i < 0
     . simp only[h,if_true] <;> omega
     . simp only[h,if_false] <;> omega
theorem u6 (aD:List Value)(lo hi:Option Int):slicePick aD.toArray lo hi none=((aD.drop (HT.yU aD.length 0 lo)).take (HT.yU aD.length aD.length hi - HT.yU aD.length 0 lo)).toArray:=by
 obtain⟨h1,h2,h3⟩:=wQ lo hi aD.toArray.size
 unfold slicePick
 rw[h1,h2,h3]
 simp only[sliceRange_one,pick_run,List.size_toArray] <;> rfl
def UP (K:W.Frag):V->Option Int->Option Int->Hp->VK->Prop:=fun x lo hi H Q=>∃ a xs,x=.ref a/\lI K H a xs/\∀ p,H p=none->Q (.ref p) (upd H p (.lst (Dw xs lo hi)))
theorem Jv:UL X (UP X.K):=by
 intro pins s σ H x v vl vu lo hi sl Q I rx hs pl pu h
 obtain⟨a,xs,rfl,hx,q⟩:=h
 cases rx
 obtain⟨aD,r,ht,hz⟩:=I.list hx
 have hlen:=r.length
 refine⟨"list",_,slot_list_getitem.lookup,ht.isList.typeIs,?_⟩
 refine wpAny_getItem_list_slice ht.isList hs pl pu .none (by simp) ?_ (by rw[List.size_toArray] <;> omega)
 rw[u6,<- hlen]
 refine⟨.ref s.heap.objs.size,_,I.laid (t':=s.toks) (o:=.lst (Dw xs lo hi)) (fun b ob q=>Heap.get?_push_of_some _ q) (Nat.le_refl _) ?_,rfl,q _ (I.aZ.fresh (Nat.le_refl _))⟩
 exact⟨Nat.le_trans (yW xs lo hi) hz,_,0,(r.drop (HT.yU xs.length 0 lo)).take (HT.yU xs.length xs.length hi - HT.yU xs.length 0 lo),Heap.get?_push_size _ rfl⟩
def o5:V->Bool
 | .cL=>true
 | .bl _=>true
 | .int _=>true
 | .str _=>true
 | _=>false
def IM:V->V->Bool
 | .cL,.cL=>true
 | .bl a,.bl b=>a == b
 | .bl a,.int b=>(if a then 1 else 0) == b
 | .int a,.bl b=>a == (if b then 1 else 0)
 | .int a,.int b=>a == b
 | .str a,.str b=>a == b
 | _,_=>false
theorem Nj {A:Around}{s:Shared}{y x:V}{u v:Value}(ry:RelV y u)(rx:RelV x v)(fy:o5 y=true)(fx:o5 x=true):SeqAt.EqAt A s u v (IM y x):=by
 cases y with
 | cL=>
   cases ry
   cases x with
   | cL=>cases rx;exact SeqAt.EqAt.same _
   | bl b=>cases rx;exact SeqAt.EqAt.none_bool b
   | int b=>obtain⟨t,rfl⟩:=rx;exact SeqAt.EqAt.none_int b t
   | str b=>obtain⟨t,rfl⟩:=rx;exact SeqAt.EqAt.none_str b t
   | _=>exact absurd (show false=true from fx) Bool.false_ne_true
 | bl a=>
   cases ry
   cases x with
   | cL=>cases rx;exact SeqAt.EqAt.bool_none a
   | bl b=>cases rx;exact SeqAt.EqAt.bool_bool a b
   | int b=>obtain⟨t,rfl⟩:=rx;exact SeqAt.EqAt.bool_int a b t
   | str b=>obtain⟨t,rfl⟩:=rx;exact SeqAt.EqAt.bool_str a b t
   | _=>exact absurd (show false=true from fx) Bool.false_ne_true
 | int a=>
   obtain⟨t',rfl⟩:=ry
   cases x with
   | cL=>cases rx;exact SeqAt.EqAt.int_none a t'
   | bl b=>cases rx;exact SeqAt.EqAt.int_bool a t' b
   | int b=>obtain⟨t,rfl⟩:=rx;exact SeqAt.EqAt.int_int a t' b t
   | str b=>obtain⟨t,rfl⟩:=rx;exact SeqAt.EqAt.int_str a t' b t
   | _=>exact absurd (show false=true from fx) Bool.false_ne_true
 | str a=>
   obtain⟨t',rfl⟩:=ry
   cases x with
   | cL=>cases rx;exact SeqAt.EqAt.str_none a t'
   | bl b=>cases rx;exact SeqAt.EqAt.str_bool a t' b
   | int b=>obtain⟨t,rfl⟩:=rx;exact SeqAt.EqAt.str_int a t' b t
   | str b=>obtain⟨t,rfl⟩:=rx;exact SeqAt.EqAt.str_str a t' b t
   | _=>exact absurd (show false=true from fx) Bool.false_ne_true
 | _=>exact absurd (show false=true from fy) Bool.false_ne_true
def AU (x:V)(u:Value):Bool:=match u with
 | .none=>IM .cL x
 | .bool b=>IM (.bl b) x
 | .int i _=>IM (.int i) x
 | .str z _=>IM (.str z) x
 | _=>false
theorem Fh {x y:V}{u:Value}(r:RelV y u)(f:o5 y=true):AU x u=IM y x:=by
 cases y with
 | cL=>cases r;rfl
 | bl b=>cases r;rfl
 | int i=>obtain⟨t,rfl⟩:=r;rfl
 | str z=>obtain⟨t,rfl⟩:=r;rfl
 | _=>exact absurd (show false=true from f) Bool.false_ne_true
theorem o6 {x:V}:∀ {xs:List V} {us:List Value},Vals xs us->xs.all o5=true->us.any (AU x)=xs.any fun y=>IM y x
 | _,_,.nil,_=>rfl
 | y::xs,u::us,.cons r t,f=>by
   rw[List.all_cons,Bool.and_eq_true] at f
   rw[List.any_cons,List.any_cons,Fh r f.1,o6 t f.2]
theorem mN {A:Around}{s:Shared}{x:V}{v:Value}(rx:RelV x v)(fx:o5 x=true):∀ {xs:List V} {us:List Value},Vals xs us->xs.all o5=true->∀ u∈us,SeqAt.EqAt A s u v (AU x u)
 | _,_,.nil,_=>fun u hu=>by cases hu
 | y::xs,u::us,.cons r t,f=>fun u' hu=>by
   rw[List.all_cons,Bool.and_eq_true] at f
   rcases List.mem_cons.mp hu with rfl | hu
   . rw[Fh r f.1];exact Nj r rx f.1 fx
   . exact mN rx fx t f.2 u' hu
def QN (x:V)(xs:List V):Bool:=xs.any fun y=>IM y x
def Tu (K:W.Frag)(neg:Bool):R2:=fun x y H Q=>∃ p xs,y=.ref p/\(lI K H p xs\/Ax K H p xs)/\o5 x=true/\xs.all o5=true/\Q (.bl (if neg then !QN x xs else QN x xs)) H
theorem vQ:mI X (compareOp .In) (Tu X.K false):=by
 intro pins s σ H x y v u Q I rx ry h
 obtain⟨p,xs,rfl,hq,fx,fs,q⟩:=h
 cases ry
 rcases hq with hq | hq
 . obtain⟨aD,r,pl,hz⟩:=I.list hq
   refine SeqAt.in_listAt (AU x) pl.isList (fun w hw=>mN rx fx r fs w (by simpa using hw)) ⟨.bl _,H,I,rfl,?_⟩
   rw[show aD.toArray.any (AU x)=aD.any (AU x) by simp,o6 r fs]
   exact q
 . obtain⟨aD,r,pl,hz⟩:=I.tuple hq
   refine SeqAt.in_tupleAt (AU x) pl (fun w hw=>mN rx fx r fs w (by simpa using hw)) ⟨.bl _,H,I,rfl,?_⟩
   rw[show aD.toArray.any (AU x)=aD.any (AU x) by simp,o6 r fs]
   exact q
theorem o7:mI X (compareOp .NotIn) (Tu X.K true):=by
 intro pins s σ H x y v u Q I rx ry h
 obtain⟨p,xs,rfl,hq,fx,fs,q⟩:=h
 cases ry
 rcases hq with hq | hq
 . obtain⟨aD,r,pl,hz⟩:=I.list hq
   refine SeqAt.notIn_listAt (AU x) pl.isList (fun w hw=>mN rx fx r fs w (by simpa using hw)) ⟨.bl _,H,I,rfl,?_⟩
   rw[show aD.toArray.any (AU x)=aD.any (AU x) by simp,o6 r fs]
   exact q
 . obtain⟨aD,r,pl,hz⟩:=I.tuple hq
   refine SeqAt.notIn_tupleAt (AU x) pl (fun w hw=>mN rx fx r fs w (by simpa using hw)) ⟨.bl _,H,I,rfl,?_⟩
   rw[show aD.toArray.any (AU x)=aD.any (AU x) by simp,o6 r fs]
   exact q
theorem o8:jv X (.builtin "len") (fun xs H Q=>∃ p ys,xs=[.ref p]/\(lI X.K H p ys\/Ax X.K H p ys)/\Q (.int ys.length) H):=by
 intro pins s σ H xs us Q I r h
 obtain⟨p,ys,rfl,hq,q⟩:=h
 obtain⟨u,rfl,rx⟩:=vals1 r
 cases rx
 have hn:=kQ
 rcases hq with hq | hq
 . obtain⟨aD,r',pl,hz⟩:=I.list hq
   have hlen:=r'.length
   exact Calls.call_len_list pl.isList (by simp only[List.size_toArray] <;> omega) ⟨.int ys.length,H,I.tok _,⟨s.toks+1,by rw[List.size_toArray,hlen]⟩,q⟩
 . obtain⟨aD,r',pl,hz⟩:=I.tuple hq
   have hlen:=r'.length
   exact len_tuple pl (by simp only[List.size_toArray] <;> omega) ⟨.int ys.length,H,I.tok _,⟨s.toks+1,by rw[List.size_toArray,hlen]⟩,q⟩
theorem wR:jv X (.builtin "len") (fun xs H Q=>∃ z,xs=[.str z]/\z.length<=sizeLine/\Q (.int z.length) H):=by
 intro pins s σ H xs us Q I r h
 obtain⟨z,rfl,hz,q⟩:=h
 obtain⟨u,rfl,t,rfl⟩:=vals1 r
 have hn:=kQ
 exact len_str (by omega) ⟨.int z.length,H,I.tok _,⟨_,rfl⟩,q⟩
theorem wU:jv X (.type "list") (fun xs H Q=>∃ p ys,xs=[.ref p]/\(lI X.K H p ys\/Ax X.K H p ys)/\∀ l,H l=none->Q (.ref l) (upd H l (.lst ys))):=by
 intro pins s σ H xs us Q I r h
 obtain⟨p,ys,rfl,hq,q⟩:=h
 obtain⟨u,rfl,rx⟩:=vals1 r
 cases rx
 have fin:∀ (aD:List Value),Vals ys aD->ys.length<=sizeLine->∀ (h':Heap) (c':Nat),(∀ b o',s.heap.get? b=some o'->h'.get? b=some o') ->
     h'.get? s.heap.objs.size=some { cls:=.type "list",dict:=none,data:=.seq aD.toArray c',slots:=#[]}->EP X pins σ Q (.ref s.heap.objs.size) { s with heap:=h'}:=fun aD r' hz h' c' kp e=>
   ⟨.ref s.heap.objs.size,_,I.laid (t':=s.toks) kp (Nat.le_refl _) (show aJ X.prog X.w _ h' _ (.lst ys) from⟨hz,aD,c',r',e⟩),rfl,q _ (I.aZ.fresh (Nat.le_refl _))⟩
 rcases hq with hq | hq
 . obtain⟨aD,r',pl,hz⟩:=I.list hq
   have hlen:=r'.length
   obtain⟨o,ho,hc,n,hd⟩:=pl.isList
   exact call_list_seq p (.inl rfl) ho hc hd (fun h' c' kp e=>fin aD r' hz h' c' kp e) (by simp only[List.size_toArray] <;> omega)
 . obtain⟨aD,r',pl,hz⟩:=I.tuple hq
   have hlen:=r'.length
   obtain⟨o,ho,hc,n,hd⟩:=pl
   exact call_list_seq p (.inr rfl) ho hc hd (fun h' c' kp e=>fin aD r' hz h' c' kp e) (by simp only[List.size_toArray] <;> omega)
def Tv (K:W.Frag)(T:String)(x:V)(H:Hp):Prop:=match x with
 | .str _=>T="str"
 | .int _=>T="int"
 | .ref p=>(T="list"/\∃ xs,lI K H p xs)\/(T="tuple"/\∃ o,K.lookup p=some o/\o.cls=.type "tuple"/\o.dict=none) \/
     (T="dict"/\((∃ kvs,H p=some (.dK kvs))\/(∃ kvs,H p=some (.dT kvs))\/∃ tg o kvs,H p=some (.kd tg o kvs)))\/(T="set"/\∃ S n,H p=some (.set S n)) \/
     (T="list"/\∃ (a:Addr) (ls:je) (ns:List Nat) (j:Nat) (f:Nat->List (Key×FD)) (N:Nat),H a=some (.bj ls ns)/\ls[j]?=some (p,f)/\ns[j]?=some N)
 | _=>False
theorem Fi {pins:List (Addr×Obj)}{σ:St}{H:Hp}{s:Shared}{T:String}{x:V}{v:Value}(I:Inv X pins σ H s)(r:RelV x v)(ty:Tv X.K T x H):s.TypeIs v T/\∀ a,v=.ref a->∃ ob,s.heap.get? a=some ob/\ob.dict=none:=by
 cases x with
 | str z=>
   obtain⟨t,rfl⟩:=r
   cases (show T="str" from ty)
   exact⟨typeIs_str s z t,fun _ e=>nomatch e⟩
 | int i=>
   obtain⟨t,rfl⟩:=r
   cases (show T="int" from ty)
   exact⟨typeIs_int s i t,fun _ e=>nomatch e⟩
 | ref p=>
   cases r
   rcases ty with⟨rfl,xs,hq⟩ | ⟨rfl,o,hk,hc,hd⟩ | ⟨rfl,hk⟩ | ⟨rfl,S,n,hk⟩ | ⟨rfl,a,ls,ns,j,f,N,h1,h2,h3⟩
   . obtain⟨aD,_,pl,_⟩:=I.list hq
     refine⟨pl.isList.typeIs,fun a e=>?_⟩
     cases e
     obtain⟨o,n,e,c,hd,_⟩:=pl
     exact⟨o,e,hd⟩
   . refine⟨⟨o,I.lH p o hk,hc⟩,fun a e=>?_⟩
     cases e
     exact⟨o,I.lH _ o hk,hd⟩
   . have z:∃ o,s.heap.get? p=some o/\o.ExactDict:=by
       rcases hk with⟨kvs,hk⟩ | ⟨kvs,hk⟩ | ⟨tg,ob,kvs,hk⟩
       . obtain⟨_,_,_,_,o,_,_,e,ex,_⟩:=I.aZ p _ hk
         exact⟨o,e,ex⟩
       . obtain⟨_,_,_,_,o,_,_,e,ex,_⟩:=I.aZ p _ hk
         exact⟨o,e,ex⟩
       . obtain⟨_,⟨_,_,_,_,o,_,_,e,ex,_⟩,_⟩:=I.aZ p _ hk
         exact⟨o,e,ex⟩
     obtain⟨o,e,ex⟩:=z
     refine⟨⟨o,e,ex.1⟩,fun a e2=>?_⟩
     cases e2
     exact⟨o,e,ex.2.1⟩
   . obtain⟨o,_,_,_,e,ex,_⟩:=I.aZ p _ hk
     refine⟨⟨o,e,ex.1⟩,fun a e2=>?_⟩
     cases e2
     exact⟨o,e,ex.2.1⟩
   . obtain⟨_,_,_,_,_,_,h6⟩:=(show aJ X.prog X.w H s.heap a (.bj ls ns) from I.aZ a _ h1)
     obtain⟨aD,c,e1,e2,e3⟩:=h6 j p f N h2 h3
     refine⟨⟨_,e1,rfl⟩,fun a' e4=>?_⟩
     cases e4
     exact⟨_,e1,rfl⟩
 | _=>exact False.elim ty
def UQ (K:W.Frag)(T:String)(r:V->List V->Hp->VK->Prop)(to:TE):TE:=fun σ H Q=>to σ H fun x H1=>Tv K T x H1/\r x [] H1 Q
def YG (K:W.Frag)(T:String)(r:V->List V->Hp->VK->Prop)(to:TE)(t:TA):TE:=fun σ H Q=>to σ H fun x H1=>Tv K T x H1/\t σ H1 fun xs H2=>r x xs H2 Q
variable {o e:Expr}{es:List Expr}{to:TE}{t:TA}{name:Str}{apos bP:Pos}{T id:String}{r:V->List V->Hp->VK->Prop}
theorem Fj (pa:PlainAttrs T)(slot:Slot T name id)(QO:typeOf (.builtin id)=pure (.type "method_descriptor"))(hm:PX X id r)(ho:PE X o to)(i4:attributeBase o name X.env (eval o X.env)=eval o X.env:=by rfl)(i5:(apos.endLine == bP.line)=true:=by rfl):PE X (.Call (.Attribute o name apos) [] [] bP) (UQ X.K T r to):=by
 intro pins s σ H Q I h
 refine wpAny_Call_method0_late i4 i5 (bK (ho pins s σ H _ I h) fun v s1 ⟨x,H1,I1,r1,ty,q1⟩=>?_)
 obtain⟨h1,h2⟩:=Fi I1 r1 ty
 exact⟨T,id,pa,slot,QO,h1,h2,Calls.callWith_builtin rfl (PySem.evalArgs_none (hm pins s1 σ H1 x [] v [] Q I1 r1 .nil q1))⟩
theorem tu (pa:PlainAttrs T)(slot:Slot T name id)(QO:typeOf (.builtin id)=pure (.type "method_descriptor"))(hm:PX X id r)(ho:PE X o to)(ha:PA X (e::es) t)
   (i4:attributeBase o name X.env (eval o X.env)=eval o X.env:=by rfl)
   (tw:((backTo bP (starEach (e::es) X.env)).all (fun x=>!x.1) && (backToKw bP (keywordEach [] X.env)).all (fun x=>x.1.isSome)
     && decide ((e::es).length+([]:List Keyword).length+(if ([]:List Keyword).isEmpty then 0 else 1) < 30))=true:=by rfl)
   (i5:(apos.endLine == bP.line)=true:=by rfl) (hs:starEach (e::es) X.env=(false,eval e X.env)::starEach es X.env:=by rfl) (Nk:(backTo bP (starEach es X.env)).any (·.1)=false:=by rfl) :
   PE X (.Call (.Attribute o name apos) (e::es) [] bP) (YG X.K T r to t):=by
 intro pins s σ H Q I h
 refine wpAny_Call_method_late i4 tw i5 rfl (bK (ho pins s σ H _ I h) fun v s1 ⟨x,H1,I1,r1,ty,q1⟩=>?_)
 obtain⟨h1,h2⟩:=Fi I1 r1 ty
 refine⟨T,id,pa,slot,QO,h1,h2,?_⟩
 have hA:=ha bP pins s1 σ H1 _ I1 q1
 rw[hs] at hA ⊢
 refine Calls.callWith_builtin (by show(false || (backTo bP (starEach es X.env)).any (·.1))=false;rw[Nk] <;> rfl) (Calls.evalArgs_plain ?_)
 exact bK hA fun us s2 ⟨vs,H2,I2,r2,q2⟩=>hm pins s2 σ H2 x vs v us Q I2 r1 r2 q2
end
def UR (X:Cx)(id:String)(r:V->List V->Hp->VK->Prop):Prop:=
 ∀ (pins:List (Addr×Obj)) (s:Shared) (σ:St) (H:Hp) (x:V) (xs:List V) (v:Value) (us:List Value) (Q:VK),Inv X pins σ H s->RelV x v->Vals xs us->r x xs H Q ->
   wpAny (model X.prog X.w) X.A (call (.builtin id) (v::us)) (EP X pins σ Q) X.xe s
theorem Vals.one:∀ {x:V} {us:List Value},Vals [x] us->∃ u,us=[u]/\RelV x u
 | _,_,.cons r .nil=>⟨_,rfl,r⟩
theorem Vals.zero:∀ {us:List Value},Vals [] us->us=[]
 | _,.nil=>rfl
theorem Vals.dropLast {xs:List V}{us:List Value}(h:Vals xs us):Vals xs.dropLast us.dropLast:=by
 induction h with
 | nil=>exact .nil
 | cons r t ih=>
   cases t with
   | nil=>exact .nil
   | cons q t'=>exact .cons r ih
theorem Vals.rep {xs:List V}{us:List Value}(h:Vals xs us):∀ k:Nat,Vals (List.replicate k xs).flatten (List.replicate k us).flatten
 | 0=>.nil
 | k+1=>by
   rw[List.replicate_succ,List.replicate_succ,List.flatten_cons,List.flatten_cons]
   exact Vals.append h (Vals.rep h k)
theorem AV {α:Type}(l:List α):l.eraseIdx (l.length - 1)=l.dropLast:=by
 induction l with
 | nil=>rfl
 | cons a r ih=>
   cases r with
   | nil=>rfl
   | cons b r=>
     have e:(a::b::r).length - 1=((b::r).length - 1)+1:=by
       have h1:(a::b::r).length=r.length+2:=rfl
       have h2:(b::r).length=r.length+1:=rfl
       omega
     rw[e,List.eraseIdx_cons_succ,ih]
     all_goals rfl
theorem foldl_rep (aD:List Value):∀ (k:Nat) (acc:List Value),List.foldl (fun x1 x2=>x1 ++ x2) acc.toArray (List.replicate k aD.toArray)=(acc ++ (List.replicate k aD).flatten).toArray
 | 0,acc=>by simp
 | k+1,acc=>by
   have e:acc.toArray ++ aD.toArray=(acc ++ aD).toArray:=by simp
   have e2:(acc ++ aD) ++ (List.replicate k aD).flatten=acc ++ (List.replicate (k+1) aD).flatten:=by
     rw[List.replicate_succ,List.flatten_cons,List.append_assoc]
   rw[<- e2,<- foldl_rep aD k (acc ++ aD),<- e,List.replicate_succ,List.foldl_cons]
section
variable {X:Cx}{pins:List (Addr×Obj)}{σ:St}{H:Hp}{s:Shared}{l:Addr}{xs ys:List V}
theorem Inv.Nl {aD its':List Value}{n:Nat}{f:Array Value->Array Value}{t':Nat}(I:Inv X pins σ H s)(hH:H l=some (.lst xs))(e:s.heap.get? l=some { cls:=.type "list",data:=.seq aD.toArray n})(hf:f aD.toArray=its'.toArray)(hv:Vals ys its')(hz:ys.length<=sizeLine):Inv X pins σ (upd H l (.lst ys)) { s with heap:=s.heap.update l (Obj.mapSeq f),toks:=t'}:=by
 have q:=PySem.IsL.update e f
 rw[hf] at q
 refine I.write (x:=l) (e:=l) (by rw[hH];exact trivial) (.inl rfl) (fun b' u hb hu=>(Heap.get?_update_other s.heap (Obj.mapSeq f) (Ne.symm hb)).trans hu) ⟨_,q⟩ ?_
 exact⟨hz,its',_,hv,q⟩
theorem Inv.QP {aD:List Value}{t':Nat}(I:Inv X pins σ H s)(hv:Vals ys aD)(hz:ys.length<=sizeLine):Inv X pins σ (upd H s.heap.objs.size (.lst ys)) { s with heap:=s.heap.push { cls:=.type "list",data:=.seq aD.toArray},toks:=t'}:=
 I.laid (fun _ _ q=>Heap.get?_push_of_some _ q) (Nat.le_refl _) ⟨hz,aD,0,hv,Heap.get?_push_size _ rfl⟩
theorem Inv.fresh (I:Inv X pins σ H s):H s.heap.objs.size=none:=I.aZ.fresh (Nat.le_refl _)
theorem Inv.AW (I:Inv X pins σ H s)(hH:H l=some (.lst xs)):xs.length<=sizeLine/\∃ (aD:List Value) (n:Nat),Vals xs aD/\xs.length=aD.length/\s.heap.get? l=some { cls:=.type "list",data:=.seq aD.toArray n}:=by
 obtain⟨z,aD,n,r,e⟩:=I.aZ l _ hH
 exact⟨z,aD,n,r,r.length,e⟩
theorem yY {n:Nat}(h:n<=sizeLine):Builtin.List.listTooLong n=false:=by
 unfold Builtin.List.listTooLong
 exact decide_eq_false (by omega)
end
section
variable {X:Cx}
def Jw:V->List V->Hp->VK->Prop:=fun x vs H Q=>∃ l xs y,x=.ref l/\vs=[y]/\H l=some (.lst xs)/\xs.length < sizeLine/\Q .cL (upd H l (.lst (xs ++ [y])))
theorem nu:UR X "list.append" Jw:=by
 intro pins s σ H x vs v us Q I rx rv h
 obtain⟨l,xs,y,rfl,rfl,hH,hz,q⟩:=h
 cases rx
 obtain⟨u,rfl,ru⟩:=rv.one
 obtain⟨z,aD,n,r,hl,e⟩:=I.AW hH
 refine call_meets F.slot_list_append ⟨_,e,rfl⟩ F.entry_list_append (F.args_list_append_2 _ _) (PySem.list_append l aD.toArray n u (by rw[List.size_toArray];omega)) ⟨e,?_⟩
 refine⟨.cL,_,I.Nl (its':=aD ++ [u]) hH e (by simp) (r.append (.cons ru .nil)) ?_,rfl,q⟩
 rw[List.length_append,List.length_singleton]
 omega
def Jx:V->List V->Hp->VK->Prop:=fun x vs H Q=>∃ l b xs zs,x=.ref l/\vs=[.ref b]/\H l=some (.lst xs)/\H b=some (.lst zs)/\xs.length+zs.length<=sizeLine/\Q .cL (upd H l (.lst (xs ++ zs)))
theorem Dx:UR X "list.extend" Jx:=by
 intro pins s σ H x vs v us Q I rx rv h
 obtain⟨l,b,xs,zs,rfl,rfl,hH,hB,hz,q⟩:=h
 cases rx
 obtain⟨u,rfl,ru⟩:=rv.one
 cases ru
 obtain⟨z,aD,n,r,hl,e⟩:=I.AW hH
 obtain⟨z2,AX,n2,r2,LH,e2⟩:=I.AW hB
 have hsz:aD.toArray.size+AX.toArray.size<=sizeLine:=by rw[List.size_toArray,List.size_toArray];omega
 have Fl:¬ (!aD.toArray.isEmpty && Builtin.List.listTooLong (aD.toArray.size+AX.toArray.size))=true:=by
   rw[yY hsz,Bool.and_false]
   exact Bool.false_ne_true
 refine call_meets F.slot_list_extend ⟨_,e,rfl⟩ F.entry_list_extend (F.args_list_extend_2 _ _)
   (AutoSeq1.list_extend_list_list_0 l aD.toArray n b AX.toArray n2 Fl (by rw[List.size_toArray];omega) (by omega)) ⟨e,e2,?_⟩
 refine⟨.cL,_,I.Nl (its':=aD ++ AX) hH e (by simp) (r.append r2) ?_,rfl,q⟩
 rw[List.length_append]
 omega
def US:V->List V->Hp->VK->Prop:=fun x vs H Q=>∃ l xs y,x=.ref l/\vs=[]/\H l=some (.lst xs)/\xs[xs.length - 1]?=some y/\Q y (upd H l (.lst xs.dropLast))
theorem Nm:UR X "list.pop" US:=by
 intro pins s σ H x vs v us Q I rx rv h
 obtain⟨l,xs,y,rfl,rfl,hH,hy,q⟩:=h
 cases rx
 have YH:=rv.zero
 subst YH
 obtain⟨z,aD,n,r,hl,e⟩:=I.AW hH
 obtain⟨u,hu,ru⟩:=r.get hy
 have QQ:aD.toArray[aD.toArray.size - 1]?=some u:=by
   show aD.toArray[aD.length - 1]?=some u
   rw[<- Array.getElem?_toList,<- hl]
   exact hu
 refine call_meets F.slot_list_pop ⟨_,e,rfl⟩ F.entry_list_pop (F.args_list_pop_1 _) (MeetsSeq.list_pop_last l aD.toArray n u QQ (by rw[List.size_toArray];omega)) ⟨e,?_⟩
 refine⟨y,_,I.Nl (its':=aD.dropLast) hH e ?_ r.dropLast ?_,ru,q⟩
 . show aD.toArray.eraseIdxIfInBounds (aD.toArray.size - 1)=aD.dropLast.toArray
   rw[List.size_toArray,List.eraseIdxIfInBounds_toArray,AV]
 . rw[List.length_dropLast]
   omega
def UT:R2:=fun x y H Q=>∃ l b xs zs,x=.ref l/\y=.ref b/\H l=some (.lst xs)/\H b=some (.lst zs)/\xs.length+zs.length<=sizeLine/\∀ p,H p=none->Q (.ref p) (upd H p (.lst (xs ++ zs)))
theorem Nn:mI X (binaryOp .Add) UT:=by
 intro pins s σ H x y v u Q I rx ry h
 obtain⟨l,b,xs,zs,rfl,rfl,hH,hB,hz,q⟩:=h
 cases rx
 cases ry
 obtain⟨z,aD,n,r,hl,e⟩:=I.AW hH
 obtain⟨z2,AX,n2,r2,LH,e2⟩:=I.AW hB
 refine PySem.P.add_list e e2 ?_ (by rw[List.size_toArray,List.size_toArray];omega)
 have ea:aD.toArray ++ AX.toArray=(aD ++ AX).toArray:=by simp
 rw[ea]
 exact⟨.ref _,_,I.QP (t':=s.toks) (r.append r2) (by rw[List.length_append];omega),rfl,q _ I.fresh⟩
def UU:R2:=fun x y H Q=>∃ l k xs,x=.ref l/\y=.int k/\H l=some (.lst xs)/\-(2 ^ 63)<=k/\k < 2 ^ 63/\xs.length * k.toNat<=sizeLine /\
 ∀ p,H p=none->Q (.ref p) (upd H p (.lst (List.replicate k.toNat xs).flatten))
theorem len_rep {α:Type}(xs:List α)(k:Nat):(List.replicate k xs).flatten.length=k * xs.length:=by
 induction k with
 | zero=>simp
 | succ k ih=>rw[List.replicate_succ,List.flatten_cons,List.length_append,ih,Nat.succ_mul,Nat.add_comm]
theorem Np:mI X (binaryOp .Mult) UU:=by
 intro pins s σ H x y v u Q I rx ry h
 obtain⟨l,k,xs,rfl,rfl,hH,h1,h2,hz,q⟩:=h
 cases rx
 obtain⟨t,rfl⟩:=ry
 obtain⟨z,aD,n,r,hl,e⟩:=I.AW hH
 have hlen:aD.toArray.size * k.toNat<=sizeLine:=by rw[List.size_toArray,<- hl];exact hz
 have UW:¬ aD.toArray.size * k.toNat > (2 ^ 63 - 1) / 8:=by
   have:(sizeLine:Nat)<=(2 ^ 63 - 1) / 8:=by decide
   omega
 have tE:¬ (!Builtin.List.listFitsIndex k)=true:=by
   rw[fitsIndex_both h1 h2]
   exact Bool.false_ne_true
 have Fl:¬ Builtin.List.listTooLong (aD.toArray.size * k.toNat)=true:=by
   rw[yY hlen]
   exact Bool.false_ne_true
 have Dy:List.foldl (fun x1 x2=>x1 ++ x2) #[] (List.replicate (if aD.toArray.isEmpty=true then 0 else k.toNat) aD.toArray)=(List.replicate k.toNat aD).flatten.toArray:=by
   have f0:∀ m:Nat,List.foldl (fun x1 x2=>x1 ++ x2) #[] (List.replicate m aD.toArray)=(List.replicate m aD).flatten.toArray:=fun m=>by
     have:=foldl_rep aD m []
     rw[List.nil_append] at this
     exact this
   rw[f0]
   cases aD with
   | nil=>simp
   | cons a r'=>rw[if_neg (by simp)]
 refine wpAny_binaryOp_repeat_ref (T:="list") (U:="int") (by decide) ⟨_,e,rfl⟩ (fun s'=>typeIs_int s' k t) noFill_list_mul F.fills_int_mul F.slot_int_rmul repeat_list F.slot_int_index.lookup
   (call_meets F.slot_int_rmul (typeIs_int s k t) F.entry_int_rmul (F.args_int_rmul_2 _ _) (int___rmul___int_list k t l aD.toArray n)
     ⟨e,rfl,⟨_,e,rfl⟩,call_meets F.slot_list_mul ⟨_,e,rfl⟩ F.entry_list_mul (F.args_list_mul_2 _ _) (AutoListH.list___mul___list_int_3 l aD.toArray n k t tE UW Fl) ⟨e,?_⟩⟩)
 rw[Dy]
 exact⟨.ref _,_,I.QP (t':=s.toks) (r.rep k.toNat) (by rw[len_rep,Nat.mul_comm];exact hz),rfl,q _ I.fresh⟩
end
section
variable {κ:Type}[DecidableEq κ]
def mO (kvs:List (κ×V))(k:κ):Option V:=(kvs.find? fun kv=>decide (kv.1=k)).map (·.2)
def putK (kvs:List (κ×V))(k:κ)(v:V):List (κ×V):=
 if (kvs.any fun kv=>decide (kv.1=k))=true then kvs.map (fun kv=>if kv.1=k then (kv.1,v) else kv) else kvs ++ [(k,v)]
theorem mP {p:κ×V}{r:List (κ×V)}{k:κ}(e:p.1=k):mO (p::r) k=some p.2:=by simp[mO,List.find?_cons,e]
theorem k8 {p:κ×V}{r:List (κ×V)}{k:κ}(e:¬ p.1=k):mO (p::r) k=mO r k:=by simp[mO,List.find?_cons,e]
theorem o9 (k:κ):∀ kvs:List (κ×V),(kvs.any fun kv=>decide (kv.1=k))=(mO kvs k).isSome
 | []=>rfl
 | p::r=>by
   rw[List.any_cons]
   by_cases e:p.1=k
   . simp only[mP e,decide_eq_true e,Bool.true_or,Option.isSome_some]
   . rw[k8 e,decide_eq_false e,Bool.false_or];exact o9 k r
theorem qP (kvs:List (κ×V))(k:κ)(v:V):(putK kvs k v).length<=kvs.length+1:=by
 unfold putK
 split
 . rw[List.length_map];omega
 . rw[List.length_append,List.length_cons,List.length_nil];omega
theorem nV.qf {o:Option V}{u:Option Value}(r:nV o u):o.isSome=u.isSome:=by
 cases o with
 | none=>cases u with
   | none=>rfl
   | some _=>exact(show False from r).elim
 | some _=>cases u with
   | none=>exact(show False from r).elim
   | some _=>rfl
theorem KV.val {kvs:List (κ×V)}{vs:List (κ×Value)}(r:KV kvs vs)(k:κ):nV (mO kvs k) (valueAt vs k):=by
 unfold KV at r
 induction r with
 | nil=>exact True.intro
 | @cons p q ps qs h t ih=>
   obtain⟨h1,h2⟩:=h
   by_cases e:p.1=k
   . have e':q.1=k:=h1.symm.trans e
     have b:valueAt (q::qs) k=some q.2:=by simp[valueAt,List.find?_cons,e']
     rw[mP e,b];exact h2
   . have e':¬ q.1=k:=fun z=>e (h1.trans z)
     have b:valueAt (q::qs) k=valueAt qs k:=by simp[valueAt,List.find?_cons,e']
     rw[k8 e,b];exact ih
theorem KV.any {kvs:List (κ×V)}{vs:List (κ×Value)}(r:KV kvs vs)(k:κ):(kvs.any fun kv=>decide (kv.1=k))=vs.any fun kv=>decide (kv.1=k):=by
 unfold KV at r
 induction r with
 | nil=>rfl
 | cons h t ih=>rw[List.any_cons,List.any_cons,ih,h.1]
theorem KV.Nq {kvs:List (κ×V)}{vs:List (κ×Value)}(r:KV kvs vs)(k:κ){y:V}{u:Value}(ry:RelV y u):KV (kvs.map fun kv=>if kv.1=k then (kv.1,y) else kv) (vs.map fun kv=>if kv.1=k then (kv.1,u) else kv):=by
 unfold KV at r ⊢
 induction r with
 | nil=>exact .nil
 | @cons p q ps qs h t ih=>
   rw[List.map_cons,List.map_cons]
   refine .cons ?_ ih
   obtain⟨h1,h2⟩:=h
   by_cases e:p.1=k
   . rw[if_pos e,if_pos (h1.symm.trans e)];exact⟨h1,ry⟩
   . rw[if_neg e,if_neg (fun z=>e (h1.trans z))];exact⟨h1,h2⟩
theorem KV.put {kvs:List (κ×V)}{vs:List (κ×Value)}(r:KV kvs vs)(k:κ){y:V}{u:Value}(ry:RelV y u):KV (putK kvs k y) (stored vs k u):=by
 unfold putK stored
 rw[r.any k]
 by_cases e:(vs.any fun kv=>decide (kv.1=k))=true
 . rw[if_pos e,if_pos e];exact r.Nq k ry
 . rw[if_neg e,if_neg e];exact Paired.snoc r ⟨rfl,ry⟩
theorem KV.length {kvs:List (κ×V)}{vs:List (κ×Value)}(r:KV kvs vs):kvs.length=vs.length:=Paired.length r
end
theorem yZ {P:Program}{w:World}{k:Key}{u:Value}(r:RelV (kV k) u):(cB P w).is k u=true:=by
 cases k with
 | inl i=>obtain⟨t,e⟩:=(show ∃ t,u=Value.int i t from r);subst e;exact yB P w i t
 | inr x=>obtain⟨t,e⟩:=(show ∃ t,u=Value.str x t from r);subst e;exact yC P w x t
theorem vR {P:Program}{w:World}:∀ {ks:List Key} {us:List Value},Vals (ks.map kV) us->ItemsAre (cB P w) ks us
 | [],_,r=>by rw[List.map_nil] at r;cases r;exact .nil
 | k::ks,_,r=>by
   rw[List.map_cons] at r
   cases r with
   | cons h t=>exact .cons (yZ h) (vR t)
abbrev KT (H:Hp):List (List Key×V)->List (List Key×Addr×Value)->Prop:=Paired fun p q=>p.1=q.1/\H q.2.1=some (.tup (p.1.map kV))/\RelV p.2 q.2.2
theorem KT.val {H:Hp}{kvs:List (List Key×V)}{xs:List (List Key×Addr×Value)}(r:KT H kvs xs)(k:List Key):nV (mO kvs k) ((atKey xs k).map (·.2)):=by
 induction r with
 | nil=>exact True.intro
 | @cons p q ps qs h t ih=>
   obtain⟨h1,_,h2⟩:=h
   by_cases e:p.1=k
   . have e':q.1=k:=h1.symm.trans e
     have b:atKey (q::qs) k=some q.2:=by simp[atKey,List.find?_cons,e']
     rw[mP e,b];exact h2
   . have e':¬ q.1=k:=fun z=>e (h1.trans z)
     have b:atKey (q::qs) k=atKey qs k:=by simp[atKey,List.find?_cons,e']
     rw[k8 e,b];exact ih
theorem KT.Nq {H:Hp}{kvs:List (List Key×V)}{xs:List (List Key×Addr×Value)}(r:KT H kvs xs)(k:List Key){y:V}{u:Value}(ry:RelV y u):KT H (kvs.map fun kv=>if kv.1=k then (kv.1,y) else kv) (xs.map (putAt k u)):=by
 induction r with
 | nil=>exact .nil
 | @cons p q ps qs h t ih=>
   rw[List.map_cons,List.map_cons]
   refine .cons ?_ ih
   obtain⟨h1,h2,h3⟩:=h
   unfold putAt
   by_cases e:p.1=k
   . rw[if_pos e,if_pos (h1.symm.trans e)];exact⟨h1,h2,ry⟩
   . rw[if_neg e,if_neg (fun z=>e (h1.trans z))];exact⟨h1,h2,h3⟩
theorem KT.put {H:Hp}{kvs:List (List Key×V)}{xs:List (List Key×Addr×Value)}(r:KT H kvs xs)(k:List Key){b:Addr}{y:V}{u:Value}(hb:H b=some (.tup (k.map kV)))(ry:RelV y u):KT H (putK kvs k y) (storedH xs k b u):=by
 have e:(kvs.any fun kv=>decide (kv.1=k))=(atKey xs k).isSome:=by
   rw[o9,(r.val k).qf,Option.isSome_map]
 unfold putK storedH
 rw[e]
 by_cases q:(atKey xs k).isSome=true
 . rw[if_pos q,if_pos q];exact r.Nq k ry
 . rw[if_neg q,if_neg q];exact Paired.snoc r ⟨rfl,hb,ry⟩
theorem KT.keeps {H H':Hp}{kvs:List (List Key×V)}{xs:List (List Key×Addr×Value)}(r:KT H kvs xs)(ht:∀ b ys,H b=some (.tup ys)->H' b=some (.tup ys)):KT H' kvs xs:=
 Paired.MK r fun _ _ z=>⟨z.1,ht _ _ z.2.1,z.2.2⟩
section
variable {P:Program}{w:World}{H:Hp}{h:Heap}{a:Addr}
theorem LI {u:HO}(ok:oZ P w H h)(e:Rd H a u):aJ P w H h a u:=e.ok ok
theorem qQ {kvs:List (Key×V)}(ok:oZ P w H h)(e:Rd H a (.dK kvs)):kvs.length<=sizeLine/\(a == sysModules)=false/\∃ vs,KV kvs vs/\h.DictOf (cB P w) a vs:=
 show aJ P w H h a (.dK kvs) from LI ok e
theorem LJ {kvs:List (Key×V)}(ok:oZ P w H h)(e:H a=some (.dK kvs)):kvs.length<=sizeLine/\(a == sysModules)=false/\∃ vs,KV kvs vs/\h.DictOf (cB P w) a vs:=qQ ok (.inl e)
theorem wV {ks:List Key}(ok:oZ P w H h)(e:H a=some (.tup (ks.map kV))):(tupleKind (cB P w)).is h ks a:=by
 obtain⟨_,aD,r,o,h1,h2,n,h3⟩:=(show aJ P w H h a (.tup (ks.map kV)) from ok a _ e)
 exact⟨o,aD.toArray,n,h1,h2,h3,by simpa using vR r⟩
theorem B7 {kvs:List (List Key×V)}(ok:oZ P w H h)(e:Rd H a (.dT kvs)):kvs.length<=sizeLine/\(a == sysModules)=false/\∃ xs,KT H kvs xs/\h.DictOfH (tupleKind (cB P w)) a xs:=by
 obtain⟨z,y,xs,r,o,es,ep,h1,h2,h3,h4,h5⟩:=(show aJ P w H h a (.dT kvs) from LI ok e)
 refine⟨z,y,xs,r,o,es,ep,h1,h2,h3,h4,fun x hx=>?_,h5⟩
 have all:∀ {l:List (List Key×V)} {m:List (List Key×Addr×Value)},KT H l m->∀ x∈m,(tupleKind (cB P w)).is h x.1 x.2.1:=by
   intro l m q
   induction q with
   | nil=>intro x hx;exact nomatch hx
   | @cons p q ps qs hq t ih=>
     intro x hx
     rcases List.mem_cons.mp hx with e | hx
     . subst e
       exact wV ok (by rw[<- hq.1];exact hq.2.1)
     . exact ih x hx
 exact all r x hx
theorem QR {kvs:List (List Key×V)}(ok:oZ P w H h)(e:H a=some (.dT kvs)):kvs.length<=sizeLine/\(a == sysModules)=false/\∃ xs,KT H kvs xs/\h.DictOfH (tupleKind (cB P w)) a xs:=B7 ok (.inl e)
end
def q8 (H:Hp)(a:Addr)(y:V)(r:Option V):Prop:=
 (∃ kvs k,Rd H a (.dK kvs)/\y=kV k/\r=mO kvs k)\/∃ kvs k b,Rd H a (.dT kvs)/\y=.ref b/\H b=some (.tup (k.map kV))/\r=mO kvs k
def Dz (H:Hp)(a:Addr)(y v:V)(H':Hp):Prop:=
 (∃ kvs k,H a=some (.dK kvs)/\y=kV k/\kvs.length < sizeLine/\H'=upd H a (.dK (putK kvs k v))) \/
 ∃ kvs k b,H a=some (.dT kvs)/\y=.ref b/\H b=some (.tup (k.map kV))/\kvs.length < sizeLine/\H'=upd H a (.dT (putK kvs k v))
theorem q8.k {H:Hp}{a:Addr}{kvs:List (Key×V)}{k:Key}(e:H a=some (.dK kvs)):q8 H a (kV k) (mO kvs k):=.inl ⟨kvs,k,.inl e,rfl,rfl⟩
theorem Dz.k {H:Hp}{a:Addr}{kvs:List (Key×V)}{k:Key}{v:V}(e:H a=some (.dK kvs))(hl:kvs.length < sizeLine):Dz H a (kV k) v (upd H a (.dK (putK kvs k v))):=.inl ⟨kvs,k,e,rfl,hl,rfl⟩
section
variable {X:Cx}{pins:List (Addr×Obj)}{σ:St}{H:Hp}{s:Shared}{a:Addr}{y v:V}{u r:Value}{o:Option V}{A:Around}{E:Value->Shared->Prop}
theorem Inv.big (I:Inv X pins σ H s):sysModules < s.heap.objs.size:=by
 have h:mainGlobals < s.heap.objs.size:=(I.mod.glob.keeps I.bk).lt
 exact Nat.lt_trans (by decide) h
theorem DA {Q:Value->Shared->Prop}(hu:A.units+1 < cLine)(I:Inv X pins σ H s)(g:q8 H a y (some v))(ry:RelV y u)(h:∀ w' s',Inv X pins σ H s'->RelV v w'->Q w' s'):wpAny (model X.prog X.w) A (getItem (.ref a) u) Q E s:=by
 rcases g with⟨kvs,k,e,ey,l⟩ | ⟨kvs,k,b,e,ey,eb,l⟩
 . subst ey
   obtain⟨z,hd,vs,rel,dd⟩:=qQ I.aZ e
   obtain⟨w',hw,Ju⟩:=nV.some_of (v:=v) (o:=valueAt vs k) (by rw[l];exact rel.val k)
   exact wpAny_getItem_of (yZ ry) dd.mapOf hw (h w' _ (I.tok _) Ju)
 . subst ey
   cases (show u=Value.ref b from ry)
   obtain⟨z,hd,xs,rel,dd⟩:=B7 I.aZ e
   obtain⟨w',hw,Ju⟩:=nV.some_of (v:=v) (o:=(atKey xs k).map (·.2)) (by rw[l];exact rel.val k)
   obtain⟨p,hp,u7⟩:=Option.map_eq_some_iff.mp hw
   refine wpAny_getItem_heap (tupleKind_room_in1 hu) (wV I.aZ eb) dd hp ?_
   rw[u7]
   exact h w' _ (I.tok _) Ju
theorem Jy {Q:Value->Shared->Prop}(hu:A.units+1 < cLine)(I:Inv X pins σ H s)(g:q8 H a y o)(ry:RelV y u)(h:∀ s',Inv X pins σ H s'->Q (.bool (!o.isSome)) s'):wpAny (model X.prog X.w) A (compareOp .NotIn u (.ref a)) Q E s:=by
 rcases g with⟨kvs,k,e,ey,l⟩ | ⟨kvs,k,b,e,ey,eb,l⟩
 . subst ey
   obtain⟨z,hd,vs,rel,dd⟩:=qQ I.aZ e
   refine wpAny_notIn_of (yZ ry) hd dd.mapOf ?_
   rw[<- (rel.val k).qf,<- l]
   exact h _ (I.tok _)
 . subst ey
   cases (show u=Value.ref b from ry)
   obtain⟨z,hd,xs,rel,dd⟩:=B7 I.aZ e
   refine wpAny_notIn_heap (tupleKind_room_in1 hu) (wV I.aZ eb) hd dd ?_
   have q:=(rel.val k).qf
   rw[Option.isSome_map] at q
   rw[<- q,<- l]
   exact h _ (I.tok _)
theorem lL {h':Heap}{t':Nat}{ob:HO}(I:Inv X pins σ H s)(mu:PM (H a))(hs:Heap.SameBut a s.heap h')(he:∃ q,h'.get? a=some q)(new:aJ X.prog X.w (upd H a ob) h' a ob):Inv X pins σ (upd H a ob) { s with heap:=h',toks:=t'}:=
 I.write (x:=a) (e:=a) mu (.inl rfl) (fun b q hb z=>(hs.2 b hb).trans z) he new
theorem Fm {P:Program}{w:World}{H':Hp}{h':Heap}{kvs:List (Key×V)}{vs:List (Key×Value)}(z:kvs.length<=sizeLine)(hd:(a == sysModules)=false)(rel:KV kvs vs)(dd:h'.DictOf (cB P w) a vs):aJ P w H' h' a (.dK kvs):=⟨z,hd,vs,rel,dd⟩
theorem DB {H':Hp}{Q:Unit->Shared->Prop}(hu:A.units+1 < cLine)(I:Inv X pins σ H s)(g:Dz H a y v H')(ry:RelV y u)(rv:RelV v r)(h:∀ s',Inv X pins σ H' s'->Q () s'):wpAny (model X.prog X.w) A (setItem (.ref a) u r) Q E s:=by
 rcases g with⟨kvs,k,e,ey,l,eH⟩ | ⟨kvs,k,b,e,ey,eb,l,eH⟩
 . subst ey eH
   obtain⟨z,hd,vs,rel,dd⟩:=LJ I.aZ e
   have hz:vs.length<=sizeLine:=by rw[<- rel.length];exact z
   have hl:(putK kvs k v).length<=sizeLine:=by have:=qP kvs k v;omega
   refine wpAny_setItem_pairs (hsz:=hz) (yZ ry) dd fun h' Nr hs=>h _ ?_
   have he:∃ q,h'.get? a=some q:=let ⟨q,_,_,hq,_⟩:=Nr;⟨q,hq⟩
   exact lL I (by rw[e];exact True.intro) hs he (Fm hl hd (rel.put k rv) Nr)
 . subst ey eH
   cases (show u=Value.ref b from ry)
   obtain⟨z,hd,xs,rel,dd⟩:=QR I.aZ e
   have hz:xs.length<=sizeLine:=by rw[<- Paired.length rel];exact z
   have hl:(putK kvs k v).length<=sizeLine:=by have:=qP kvs k v;omega
   refine wpAny_setItem_heap (hsz:=hz) (tupleKind_room_in1 hu) (wV I.aZ eb) dd fun h' Nr hs=>h _ ?_
   obtain⟨q,es,ep,hq,h2,h3,h4,_,h5⟩:=Nr
   refine lL I (by rw[e];exact True.intro) hs ⟨q,hq⟩ ⟨hl,hd,_,(rel.put k eb rv).keeps fun c ys ec=>?_,q,es,ep,hq,h2,h3,h4,h5⟩
   rw[ah (Qe ec e (fun z=>nomatch z))]
   exact ec
end
def Jz (i:Expr):Prop:=∀ ov iv,subscripted i false ov iv=operate [ov,iv] (getItem ov iv)
theorem JA {prog:Program}{w:World}{A:Around}{E:Value->Shared->Prop}{s:Shared}{env:Env}{value slice:Expr}{pos:Pos}{T id:String}{Q:Value->Shared->Prop}(hl:typeLookup (.type T) "__getitem__"=pure (some (.builtin id)))(hs:Jz slice)(h:wpAny (model prog w) A (eval value env) (fun o s₁=>wpAny (model prog w) A (eval slice env) (fun i s₂=>s₂.TypeIs o T/\wpAny (model prog w) A (getItem o i) Q E s₂) E s₁) E s):wpAny (model prog w) A (eval (.Subscript value slice pos) env) Q E s:=by
 refine Subscript_ (wpAny_mono h (fun o s₁ h₁=>wpAny_mono h₁ (fun i s₂ h₂=>?_) fun _ _ x=>x) fun _ _ x=>x)
 obtain⟨hT,h₂⟩:=h₂
 unfold subscriptTail
 refine wpAny_bind ?_
 rw[getitemInPython_of_ne hT.not_modules]
 refine wpAny_bind (wpAny_specialOf hT hl ?_)
 have fin:wpAny (model prog w) A (subscripted slice false o i) (fun r s₃=>wpAny (model prog w) A (letTemporaryGo value o r >>= fun _=>pure r) Q E s₃) E s₂:=by
   rw[hs o i]
   exact wpAny_operating (wpAny_mono h₂ (fun r s₃ h₃=>wpAny_bind (wpAny_letTemporaryGo (wpAny_pure h₃))) fun _ _ x=>x)
 first
   | exact wpAny_pure (wpAny_bind fin)
   | exact wpAny_bind (wpAny_pure (wpAny_bind fin))
   | exact wpAny_bind fin
theorem zb {X:Cx}{pins:List (Addr×Obj)}{σ:St}{H:Hp}{s:Shared}{a:Addr}{y:V}{o:Option V}(I:Inv X pins σ H s)(g:q8 H a y o):s.TypeIs (.ref a) "dict":=by
 rcases g with⟨kvs,k,e,_,_⟩ | ⟨kvs,k,b,e,_,_,_⟩
 . obtain⟨_,_,vs,_,dd⟩:=qQ I.aZ e
   exact dd.typeIs
 . obtain⟨_,_,xs,_,dd⟩:=B7 I.aZ e
   exact dd.typeIs
def QS (td ty:TE):TE:=fun σ H Q=>td σ H fun x H1=>ty σ H1 fun y H2=>∃ a v,x=.ref a/\q8 H2 a y (some v)/\Q v H2
def UX (ty td:TE):TE:=fun σ H Q=>ty σ H fun y H1=>td σ H1 fun x H2=>∃ a o,x=.ref a/\q8 H2 a y o/\Q (.bl o.isSome) H2
def B8 (ty td:TE):TE:=fun σ H Q=>ty σ H fun y H1=>td σ H1 fun x H2=>∃ a o,x=.ref a/\q8 H2 a y o/\Q (.bl (!o.isSome)) H2
def QT (td ty tv:TE):TS:=fun D σ H=>tv σ H fun v H1=>td σ H1 fun x H2=>ty σ H2 fun y H3=>∃ a H4,x=.ref a/\Dz H3 a y v H4/\D.nx σ H4
section
variable {X:Cx}{o i value:Expr}{pos pos':Pos}{td ty tv:TE}
theorem B9 (hu:X.A.units+1 < cLine)(ho:PE X o td)(hi:PE X i ty)(hs:Jz i):PE X (.Subscript o i pos) (QS td ty):=by
 intro pins s σ H Q I h
 refine JA PySem.F.slot_dict_getitem.lookup hs (bK (ho pins s σ H _ I h) fun u s1 ⟨x,H1,I1,rx,q1⟩=>bK (hi pins s1 σ H1 _ I1 q1) fun iv s2 ⟨y,H2,I2,ry,a,v,ex,g,q2⟩=>?_)
 subst ex
 obtain rfl:u=Value.ref a:=rx
 exact⟨zb I2 g,DA hu I2 g ry fun w' s3 I3 Ju=>⟨v,H2,I3,Ju,q2⟩⟩
theorem DC (hu:X.A.units+1 < cLine)(hi:PE X i ty)(ho:PE X o td):PC X .NotIn i o (B8 ty td):=by
 intro pins s σ H Q I h
 refine bK (hi pins s σ H _ I h) fun iv s1 ⟨y,H1,I1,ry,q1⟩=>bK (ho pins s1 σ H1 _ I1 q1) fun u s2 ⟨x,H2,I2,rx,a,ov,ex,g,q2⟩=>?_
 subst ex
 obtain rfl:u=Value.ref a:=rx
 exact Jy hu I2 g ry fun s3 I3=>⟨.bl (!ov.isSome),H2,I3,rfl,q2⟩
theorem Ca (hu:X.A.units+1 < cLine)(ho:PE X o td)(hi:PE X i ty)(hv:PE X value tv)(hs:swapsWith value (some (.Subscript o i pos')) pos.line X.env=pure false):PS X (.Assign [.Subscript o i pos'] value pos) (QT td ty tv):=by
 intro pins s σ H D I h
 refine wpAny_Assign_Subscript (bK (hv pins s σ H _ I h) fun r s1 ⟨v,H1,I1,rv,q1⟩=>bK (ho pins s1 σ H1 _ I1 q1) fun u s2 ⟨x,H2,I2,rx,q2⟩=>bK (hi pins s2 σ H2 _ I2 q2) fun iv s3 ⟨y,H3,I3,ry,a,H4,ex,g,q3⟩=>?_) hs
 subst ex
 obtain rfl:u=Value.ref a:=rx
 exact DB hu I3 g ry rv fun s4 I4=>⟨σ,H4,I4,q3⟩
end
theorem zc {P:Program}{w:World}{H:Hp}(h:Heap)(hb:sysModules < h.objs.size):aJ P w H (h.push { cls:=.type "dict",data:=.dict #[]}) h.objs.size (.dK []):=
 ⟨Nat.zero_le _,beq_eq_false_iff_ne.mpr (Ne.symm (Nat.ne_of_lt hb)),[],.nil,Heap.DictOf.new h⟩
def Nt:TE:=fun _ H Q=>∀ p,H p=none->Q (.ref p) (upd H p (.dK []))
section
variable {X:Cx}{pos:Pos}
theorem zd:PE X (.Dict [] [] pos) Nt:=fun pins s σ H Q I h=>
 wpAny_Dict_empty ⟨.ref s.heap.objs.size,_,I.laid (a:=s.heap.objs.size) (o:=.dK []) (t':=s.toks) (fun _ _ q=>Heap.get?_push_of_some _ q) (Nat.le_refl _) (zc s.heap I.big),rfl,h _ (I.aZ.fresh (Nat.le_refl _))⟩
end
structure M1 (X:Cx)(o:Expr)(m:Str)(apos:Pos)(e:Expr)(bP:Pos):Prop where
 base:attributeBase o m X.env (eval o X.env)=eval o X.env
 YI:((backTo bP (starEach [e] X.env)).all (fun x=>!x.1) && (backToKw bP (keywordEach [] X.env)).all (fun x=>x.1.isSome)
   && decide (([e]:List Expr).length+([]:List Keyword).length+(if ([]:List Keyword).isEmpty then 0 else 1) < 30))=true
 line:(apos.endLine == bP.line)=true
 trees:backTo bP (starEach [e] X.env)=[(false,eval e X.env)]
structure M2 (X:Cx)(o:Expr)(m:Str)(apos:Pos)(e f:Expr)(bP:Pos):Prop where
 base:attributeBase o m X.env (eval o X.env)=eval o X.env
 YI:((backTo bP (starEach [e,f] X.env)).all (fun x=>!x.1) && (backToKw bP (keywordEach [] X.env)).all (fun x=>x.1.isSome)
   && decide (([e,f]:List Expr).length+([]:List Keyword).length+(if ([]:List Keyword).isEmpty then 0 else 1) < 30))=true
 line:(apos.endLine == bP.line)=true
 trees:backTo bP (starEach [e,f] X.env)=[(false,eval e X.env),(false,eval f X.env)]
end L2
namespace Att
open PySem PySem.W PySem.Calls PyProof.Rows
theorem q9 {P:Params}{h:Heap}:∀ (ns:List Int) (vs:List Value),WellAll P h vs (ns.map WData.int)->IntsAre vs ns:=by
 intro ns
 induction ns with
 | nil=>
   intro vs w
   rw[List.map_nil] at w
   cases w
   exact .nil
 | cons n ns ih=>
   intro vs w
   rw[List.map_cons] at w
   cases w with
   | cons a b=>
     cases a
     exact .cons _ _ (ih _ b)
theorem DD {l:OpenLaw}{n:Nat}(hn:l.most=some n){P:Params}{h:Heap}{args:List WData}{vals:List Value}(JB:l.row.toRowW.claim.pre args=true)(Nu:WellAll P h vals args):∃ a vs ns,vals=[Value.ref a]/\args=[WData.list (ns.map WData.int)]/\h.get? a=some { cls:=.type "list",data:=.seq vs.toArray}/\IntsAre vs ns/\ns.length<=n:=by
 have YJ:WShape.hasAll [] args [.list .int]=true:=(pre_splitW JB).1
 have hc:l.pre.holds [] { args:=args}=true:=(pre_splitW JB).2
 obtain⟨d,r,rfl,h1,h2⟩:=hasAllW_cons YJ
 obtain rfl:=hasAllW_nil h2
 obtain⟨xs,rfl,h3⟩:=hasW_list h1
 obtain⟨ns,rfl⟩:=items_int h3
 have hlen:ns.length<=n:=by
   unfold OpenLaw.pre at hc
   have h4:(WTm.not (.lt (.lit (.int (n:Int))) (.len (.arg 0)))).holds [] { args:=[.list (ns.map .int)]}=true:=by
     have h4:=(holds_andW hc).1
     rw[hn] at h4
     exact h4
   have h5:=condW_of h4 (w_not (w_lt w_lit (w_len_list (w_arg rfl))))
   rw[List.length_map] at h5
   refine Nat.le_of_not_lt fun q=>?_
   have q':(n:Int) < ((ns.length:Nat):Int):=by omega
   first
     | (rw[decide_eq_true q'] at h5;exact absurd h5 (by decide))
     | (simp at h5;omega)
 cases Nu with
 | cons w1 w2=>
   cases w2
   cases w1 with
   | list ho UY=>exact⟨_,_,ns,rfl,rfl,ho,q9 ns _ UY,hlen⟩
theorem DE (l:OpenLaw)(args:List WData):l.row.toRowW.claim.post args (.bool true) args=true:=
 postW_of (r:=l.row.toRowW) (X:=(true == true))
   (show WShape.has [] (.bool true) .bool=true by first | rfl | decide | simp[WShape.has,WShape.arms,WShape.armsAll])
   (show(WTm.eq .res (.lit (.bool true))).value [] { args:=args,res:=some (.bool true),after:=args}=some (.bool (true == true)) from w_eq_bool (w_res rfl) w_lit) rfl
theorem ze {l:OpenLaw}{n:Nat}{q:Program}{loose:List Str}{XP:(Str->Option Value)->Heap->Prop}{YP:World->Heap->Prop}{d:DefRec}(hn:l.most=some n)(QU:d.params.defaults=[])(call:∀ (w:World) (s₀ s₁:Shared) (mg mb:Str->Option Value) (fa:Addr) (o:Obj) (pm cd doc:Value) (a:Addr) (vs:List Value) (ns:List Int),Ground q loose [] XP w s₀ mg mb s₁.heap->YP w s₁.heap->s₁.heap.get? fa=some o->o.data=.func (docDef d.name d.params d.body d.scope pm cd doc)->s₁.heap.CodeRec cd d.name->mg d.name=some (.ref fa)->s₁.heap.get? a=some { cls:=.type "list",data:=.seq vs.toArray}->IntsAre vs ns->ns.length<=n->s₁.gens=#[]->codeAny (model l.prog w) callerA (.call (.ref fa) ⟨[.ref a],[]⟩) (fun r s'=>r=.ok (.ret (.bool true))/\OldK s₁.heap s'.heap/\s'.os=s₁.os/\AllBare s'.gens) s₁):WalkO q loose XP YP l.row.toRowW d [] (fun f vs=>PySem.call f vs):=by
 intro w s₀ s₁ mg mb G Y fa o pm cd doc dV kV ho hd k7 hD QV hg args vals as JB YK LK Nu YL
 obtain rfl:dV=.none:=Dflts.none hD QU
 obtain rfl:kV=.none:=Dflts.noKw hD
 obtain⟨a,vs,ns,rfl,rfl,Nv,hints,hlen⟩:=DD hn JB Nu
 refine enter_call (codeAny_mono (call w s₀ s₁ mg mb fa o pm cd doc a vs ns G Y ho (fd_plain hd) k7 QV Nv hints hlen hg) fun r s' hq=>?_)
 obtain⟨rfl,h2,h3,h4⟩:=hq
 exact⟨.inl ⟨.bool true,.bool true,[],rfl,fun _=>rfl,.bool true,DE l _,fun _=>⟨List.Pairwise.nil,fun _ hm=>(nomatch hm)⟩⟩,h2,h3,h4⟩
end Att
namespace L2
open PySem PySem.Spec PyProof.Rows
theorem k9:∀ {vs:List Value} {ns:List Int},IntsAre vs ns->Vals (ns.map V.int) vs
 | _,_,.nil=>.nil
 | _,_,.cons n t h=>.cons ⟨t,rfl⟩ (k9 h)
def JC (H:Hp):Prop:=∀ b,H b=none\/∃ o xs,H b=some (.bh o (.lst xs))
theorem Fn {P:Program}{w:World}{K:W.Frag}{mg mb:Str->Option Value}{CX:qe}{k:Nat}{fa a:Addr}{fd:FuncData}{x:Str}{sp:Sp}{s₁:Shared}{vs:List Value}{ns:List Int}(KX:K.In s₁.heap)(EG:s₁.heap.Ns mainGlobals mg)(hb:s₁.heap.Ns builtinsNs mb)(YM:∀ x:Str,x≠"__name__"->mb x=bootBuiltins x)(UZ:s₁.heap.NoLimit)(hg:s₁.gens=#[])(ha:s₁.heap.get? a=some { cls:=.type "list",data:=.seq vs.toArray})(hi:IntsAre vs ns)(hl:ns.length<=sizeLine)(hr:dU k callerA)(F:∀ base:Heap,K.In base->base.Ns mainGlobals mg->i3 P w K mg base CX k fa fd [x] sp)(QW:∀ (s:Shared) (u:Value),BindsTo s fd ⟨[u],[]⟩ [(x,u)])(LG:∀ H:Hp,JC H->lI K H a (ns.map V.int)->sp [.ref a] H (fun v _=>v=.bl true) fun _ _ _=>False)(QX:∀ H e s',CX [] H s₁ (fun _ _ _=>False) e s'->False):codeAny (model P w) callerA (.call (.ref fa) ⟨[.ref a],[]⟩) (fun r s'=>r=.ok (.ret (.bool true))/\OldK s₁.heap s'.heap/\s'.os=s₁.os/\AllBare s'.gens) s₁:=by
 have rv:=k9 hi
 have U0:=hi.length
 have core:∀ H:Hp,JC H->lI K H a (ns.map V.int)->oZ P w H s₁.heap->(∀ b,H b≠none->b=a)->(H a≠none->K.lookup a=none) ->
     codeAny (model P w) callerA (.call (.ref fa) ⟨[.ref a],[]⟩) (fun r s'=>r=.ok (.ret (.bool true))/\OldK s₁.heap s'.heap/\s'.os=s₁.os/\AllBare s'.gens) s₁:=by
   intro H hO hS aZ hA hK
   have Cb:∀ {b:Addr} {o:Obj},s₁.heap.get? b=some o->H b=none->(wJ s₁.heap H).get? b=some o:=fun e n=>EX e n
   have QJ:∀ {b:Addr} {o:Obj} {es:Array DictEntry} {ep:Nat},s₁.heap.get? b=some o->o.data=.dict es ep->H b=none:=fun {b o es ep} e d=>by
     cases q:H b with
     | none=>rfl
     | some u=>
       have e':b=a:=hA b (by rw[q];simp)
       subst e'
       rw[ha] at e;cases e
       have d':Data.seq vs.toArray _=Data.dict es ep:=d
       cases d'
   have Tw:∀ {b:Addr} {m:Str->Option Value},s₁.heap.Ns b m->(wJ s₁.heap H).Ns b m:=fun {b m} ⟨o,es,ep,e,d,r⟩=>⟨o,es,ep,Cb e (QJ e d),d,r⟩
   have W4:K.In (wJ s₁.heap H):=fun b o e=>Cb (KX b o e) (by
     cases q:H b with
     | none=>rfl
     | some u=>
       have e':b=a:=hA b (by rw[q];simp)
       subst e'
       rw[hK (by rw[q];simp)] at e;cases e)
   have hM:Mod K mg (wJ s₁.heap H):=⟨W4,Tw EG,⟨mb,Tw hb,YM⟩,let ⟨mc,h1,h2⟩:=UZ;⟨mc,Tw h1,h2⟩⟩
   have e0:yQ P w K mg (wJ s₁.heap H) callerA [] s₁ H:=⟨rfl,hM,fun b o e=>Jb e,Nat.le_of_eq (Dj _ _),trivial,fun b hb=>absurd (show b∈([]:List Addr) from hb) (by simp),aZ,.of_eq hg⟩
   refine codeAny_mono ((F _ W4 (Tw EG)).run callerA [] s₁ H ⟨[.ref a],[]⟩ [.ref a] [.ref a] _ _ hr e0 (QW s₁ (.ref a)) (.cons rfl .nil) (LG H hO hS)) fun r s' h=>?_
   cases r with
   | error e=>exact(QX H e s' h).elim
   | ok fl=>
     cases fl with
     | next=>exact False.elim h
     | brk=>exact False.elim h
     | cont=>exact False.elim h
     | ret u=>
       obtain⟨v,H',os,bare,un,U1,r',q⟩:=h
       have q':v=.bl true:=q
       subst q'
       obtain rfl:u=Value.bool true:=r'
       refine⟨rfl,OldK.of_keep fun b o e=>?_,os,bare⟩
       cases q:H b with
       | none=>exact un.keep b o e q (by intro z;exact absurd (show b∈([]:List Addr) from z) (by simp)) (by simp)
       | some u=>
         rcases hO b with z | ⟨ob,xs,z⟩
         . rw[q] at z;cases z
         . have z2:=un.wI b ob _ z
           obtain⟨e1,_⟩:=aZ b _ z
           obtain⟨e2,_⟩:=U1 b _ z2
           rw[e] at e1;cases e1
           exact e2
 cases hk:K.lookup a with
 | some o=>
   have e:=KX a o hk
   rw[ha] at e
   cases e
   refine core (fun _=>none) (fun _=>.inl rfl) (.inr ⟨_,vs.toArray,_,hk,rfl,rfl,rfl,by rw[List.size_toArray,U0];exact hl,by simpa using rv⟩) (fun b u z=>by have z':(none:Option HO)=some u:=z;cases z') (fun b z=>absurd rfl z) fun z=>absurd rfl z
 | none=>
   refine core (fun b=>if b=a then some (.bh { cls:=.type "list",data:=.seq vs.toArray} (.lst (ns.map V.int))) else none) (fun b=>?_) (.inl (.inr (.inl ⟨{ cls:=.type "list",data:=.seq vs.toArray},if_pos rfl⟩))) (fun b u z=>?_) (fun b z=>?_) fun _=>hk
   . by_cases hb:b=a
     . exact .inr ⟨_,_,if_pos hb⟩
     . exact .inl (if_neg hb)
   . by_cases hb:b=a
     . have z':=(if_pos hb).symm.trans z
       cases z'
       subst hb
       exact⟨ha,by rw[List.length_map];exact hl,vs,_,rv,ha⟩
     . have z':=(if_neg hb).symm.trans z
       cases z'
   . by_cases hb:b=a
     . exact hb
     . exact absurd (if_neg hb) z
abbrev W5 {K:W.Frag}{h:Heap}(_:K.In h):W.Frag:=K
theorem JD {l:W.OpenLaw}{n k:Nat}{q:Program}{loose:List Str}{XP:(Str->Option Value)->Heap->Prop}{YP:World->Heap->Prop}{d:DefRec}{K:Params->W.Frag}{CX:World->qe}{sp:World->Sp}{x:Str}(hn:l.most=some n)(Na:n<=sizeLine)(QU:d.params.defaults=[])(hr:dU k callerA)(hY:∀ (w:World) (h:Heap),YP w h->(K w.params).In h)(F:∀ (w:World) (mg:Str->Option Value) (fa:Addr) (h:Heap),(K w.params).In h->h.Ns mainGlobals mg->mg d.name=some (.ref fa)->∃ fd:FuncData,(∀ (s:Shared) (u:Value),BindsTo s fd ⟨[u],[]⟩ [(x,u)])/\∀ base:Heap,(K w.params).In base->base.Ns mainGlobals mg->i3 l.prog w (K w.params) mg base (CX w) k fa fd [x] (sp w))(LG:∀ (w:World) (H:Hp) (a:Addr) (ns:List Int),ns.length<=n->JC H->lI (K w.params) H a (ns.map V.int)->sp w [.ref a] H (fun v _=>v=.bl true) fun _ _ _=>False)(QX:∀ (w:World) (H:Hp) (s:Shared) (e:Value) (s':Shared),CX w [] H s (fun _ _ _=>False) e s'->False):W.WalkO q loose XP YP l.row.toRowW d [] (fun f vs=>PySem.call f vs):=by
 refine Att.ze hn QU fun w s₀ s₁ mg mb fa o pm cd doc a vs ns G Y ho hd k7 QV Nv hints hlen hg=>?_
 have KX:=hY w _ Y
 obtain⟨fd,hb,hF⟩:=F w mg fa _ KX G.T.g QV
 exact Fn KX G.T.g G.T.b G.T.builtins G.T.nolimit hg Nv hints (Nat.le_trans hlen Na) hr hF hb (fun H hO hS=>LG w H a ns hlen hO hS) fun H e s'=>QX w H s₁ e s'
theorem Fp {l:W.OpenLaw}{n k:Nat}{q:Program}{loose:List Str}{XP:(Str->Option Value)->Heap->Prop}{YP:World->Heap->Prop}{d:DefRec}{K:Params->W.Frag}{CX:qe}{sp:W.Frag->Sp}{x:Str}(hn:l.most=some n)(Na:n<=sizeLine)(QU:d.params.defaults=[])(hr:dU k callerA)(hY:∀ (w:World) (h:Heap),YP w h->(K w.params).In h)(F:∀ (w:World) (mg:Str->Option Value) (fa:Addr) (h:Heap),(K w.params).In h->h.Ns mainGlobals mg->mg d.name=some (.ref fa)->∃ fd:FuncData,(∀ (s:Shared) (u:Value),BindsTo s fd ⟨[u],[]⟩ [(x,u)])/\∀ base:Heap,(K w.params).In base->base.Ns mainGlobals mg->i3 l.prog w (K w.params) mg base CX k fa fd [x] (sp (K w.params)))(LG:∀ (K:W.Frag) (H:Hp) (a:Addr) (ns:List Int),ns.length<=n->JC H->lI K H a (ns.map V.int)->sp K [.ref a] H (fun v _=>v=.bl true) fun _ _ _=>False)(QX:∀ (H:Hp) (s:Shared) (e:Value) (s':Shared),CX [] H s (fun _ _ _=>False) e s'->False):W.WalkO q loose XP YP l.row.toRowW d [] (fun f vs=>PySem.call f vs):=
 JD (K:=K) (CX:=fun _=>CX) (sp:=fun w=>sp (K w.params)) hn Na QU hr hY F (fun w H a ns h1 h2 h3=>LG (K w.params) H a ns h1 h2 h3) fun _ H s e s'=>QX H s e s'
def inClass (s:Stmt)(j:Nat):Stmt:=match s with
 | .ClassDef _ _ _ body _ _ _ _ _ _ _=>body.getD j (.Pass ⟨0,0,0,0⟩)
 | _=>.Pass ⟨0,0,0,0⟩
def bS (s:Stmt):Arguments:=match s with
 | .FunctionDef _ a _ _ _ _ _ _ _ _=>a
 | _=>{ posonlyargs:=[],args:=[],vararg:=none,kwonlyargs:=[],kw_defaults:=[],kwarg:=none,defaults:=[]}
def aE (s:Stmt):List Stmt:=match s with
 | .FunctionDef _ _ b _ _ _ _ _ _ _=>b
 | _=>[]
def af (s:Stmt):Scope:=match s with
 | .FunctionDef _ _ _ _ _ _ sc _ _ _=>sc
 | _=>{ kind:=.function,names:=[],isGenerator:=false,isCoroutine:=false}
abbrev W6:qe:=fun _ _ _ _ _ _=>False
abbrev E0:XK:=fun _ _ _=>False
structure PY (K:W.Frag)(x qual:Str)(st:Stmt)(f:Addr)(fd:FuncData):Prop where
 ex:∃ (oc:Value) (od:Option Addr) (kV doc pm:Value) (an:Option Addr) (bA ct:Value) (vP:Array (Option Value)),
   fd=W.fnOf x qual (bS st) (aE st) (af st) .none kV doc pm an bA ct/\K.lookup f=some ⟨oc,od,.func fd,vP⟩/\W.codeIn K bA qual=true
 kp:W.keepIn K (.ref f)=true
section
variable {K:W.Frag}
theorem PY.binds {x qual:Str}{st:Stmt}{f:Addr}{fd:FuncData}{ps:List Str}(F:PY K x qual st f fd)(h:∀ (kV doc pm:Value) (an:Option Addr) (bA ct:Value) (us:List Value),us.length=ps.length->bindArgs (W.fnOf x qual (bS st) (aE st) (af st) .none kV doc pm an bA ct) ⟨us,[]⟩=pure (ps.zip us)):Binds K fd ps []:=by
 obtain⟨oc,od,kV,doc,pm,an,bA,ct,vP,rfl,lk,k7⟩:=F.ex
 exact .all (h kV doc pm an bA ct)
theorem tF {x qual:Str}{st:Stmt}{f:Addr}{oc:Value}{od an:Option Addr}{vP:Array (Option Value)}{kV doc pm bA ct:Value}(l:K.lookup f=some ⟨oc,od,.func (W.fnOf x qual (bS st) (aE st) (af st) .none kV doc pm an bA ct),vP⟩)(c:W.codeIn K bA qual=true)(k:W.keepIn K (.ref f)=true):PY K x qual st f (W.fnOf x qual (bS st) (aE st) (af st) .none kV doc pm an bA ct):=⟨⟨oc,od,kV,doc,pm,an,bA,ct,vP,rfl,l,c⟩,k⟩
end
theorem qg {n:Nat}(h:n<=1000):n < sizeLine:=Nat.lt_of_le_of_lt h (by decide)
theorem wW {A B:Prop}(h:B):if false=true then A else B:=by
 rw[if_neg Bool.false_ne_true]
 exact h
theorem wX {A B:Prop}(h:A):if true=true then A else B:=by
 rw[if_pos rfl]
 exact h
def aF (H H':Hp):Prop:=∀ b o,H b=some o->H' b=some o
theorem aF.refl (H:Hp):aF H H:=fun _ _ h=>h
theorem aF.trans {H H1 H2:Hp}(a:aF H H1)(b:aF H1 H2):aF H H2:=fun c o h=>b c o (a c o h)
theorem aF.free {H H':Hp}(e:aF H H'){l:Addr}(h:H' l=Option.none):H l=Option.none:=by
 cases q:H l with
 | none=>rfl
 | some o=>
   rw[e l o q] at h
   cases h
theorem aF.seq {K:W.Frag}{H H':Hp}{a:Addr}{xs:List V}(e:aF H H')(h:lI K H a xs):lI K H' a xs:=by
 rcases h with(h | ⟨o,h⟩ | ⟨_,_,_,_,h⟩ | ⟨o,h⟩) | h
 . exact .inl (.inl (e _ _ h))
 . exact .inl (.inr (.inl ⟨o,e _ _ h⟩))
 . cases h
 . exact .inl (.inr (.inr (.inr ⟨o,e _ _ h⟩)))
 . exact .inr h
end L2
set_option maxHeartbeats 4000000
namespace Sg
open PySem PySem.Spec PyProof.Rows L2 PySem.Builtin PySem.Builtin.Getset_descriptor
def AY (h:Heap)(x D:Addr):Prop:=∃ ox,h.get? x=some ox/\ox.cls=.ref D
theorem AY.ty {M:Model}{h:Heap}{x D:Addr}(I:AY h x D):W.Looks M h (typeOf (.ref x)) (.ref D):=by
 obtain⟨ox,h1,h2⟩:=I
 rw[<- h2]
 exact(W.Looks.ld h1).andThen .now
theorem Nw {prog:Program}{w:World}{A:Around}{E:Value->Shared->Prop}{K:W.Frag}{s:Shared}{x D:Addr}{name:Str}{tk:Tok}{fill expr:Bool}{Q:Value->Shared->Prop}{r:Builtin.ObjectAttr.Found}(X:K.In s.heap)(I:AY s.heap x D)
   (YN:W.findIn K (.ref D) "__getattribute__"=some (some (.builtin "BaseException.__getattribute__"))) (YO:W.findIn K (.ref D) "__getattr__"=some none) (rP:W.mroIn K D (.type "BaseException")=some true)
   (hf:W.Looks (model prog w) s.heap (Builtin.ObjectAttr.find (.ref x) (.ref D) name) r)
   (h:match r with
     | .bind g a=>wpAny (model prog w) A.in1 (call g [a,.ref x,.ref D]) (fun v s'=>wpAny (model prog w) A (handedOut v) Q E s') (fun _ _=>False) s
     | .value v=>wpAny (model prog w) A (handedOut v) Q E s
     | .missing=>False) :
   wpAny (model prog w) A (getAttrBy (.ref x) (.str name tk) fill expr) Q E s:=by
 obtain⟨hh,gg,d,t,os⟩:=s
 have L0:=I.ty (M:=model prog w)
 have L1:=W.looks_findIn (M:=model prog w) X YN
 have YQ:=W.looks_findIn (M:=model prog w) X YO
 have L4:=W.looks_mroIn (M:=model prog w) X rP
 have f3:=PySem.F.excAttr_ValueError.ga.bind (.ref x)
 unfold getAttrBy
 refine wpAny_holding (wpAny_bind (L0.at (wpAny_bind (L1.at ?_))))
 have Nx:(Value.builtin "BaseException.__getattribute__" == Value.builtin "object.__getattribute__")=false:=by
   decide +kernel
 simp only[Nx,Bool.and_false,Bool.false_eq_true,if_false]
 unfold getAttrByItsOwn hookBefore
 refine wpAny_bind (YQ.at ?_)
 refine wpAny_bind (wpAny_attempt (wpAny_holding ?_))
 unfold callGetattribute boundAndCalled
 have YR:(expr && onTheHeap (Value.builtin "BaseException.__getattribute__"))=false:=by
   cases expr <;> rfl
 rw[YR,f3]
 simp only[Bool.false_eq_true,if_false]
 refine wpAny_bind (wpAny_pure ?_)
 have YS:W.Looks (model prog w) hh (isInstance (.ref x) (.type "BaseException")) true:=L0.andThen L4
 refine wpAny_call (codeAny_call_builtin PySem.F.excAttr_ValueError.ga.plain PySem.F.entry_bexc_ga (@W.check_slot (model prog w) _ _ _ "BaseException.__getattribute__" "BaseException" "__getattribute__" (.ref x) [.str name tk] [] _ (by decide +kernel) (by decide +kernel) YS (PySem.F.args_bexc_ga _ _) ?_))
 unfold Builtin.«object.__getattribute__»
 refine wpAny_bind (wpAny_pure ?_)
 show wpAny (model prog w) A.in1 (Builtin.ObjectAttr.attrName (.str name tk) >>= _) _ _ _
 unfold Builtin.ObjectAttr.attrName
 refine wpAny_bind (wpAny_pure (wpAny_bind (L0.at (wpAny_bind (hf.at ?_)))))
 cases r with
 | bind g a=>
   show wpAny (model prog w) A.in1 (Builtin.ObjectAttr.bindTo g a (.ref x) (.ref D)) _ _ _
   unfold Builtin.ObjectAttr.bindTo
   show wpAny (model prog w) A.in1 (holding [a] (call g [a,.ref x,.ref D]) >>= ret) _ _ _
   exact wpAny_bind (wpAny_holding (wpAny_mono h (fun v s' z=>wpAny_pure z) fun _ _ z=>z.elim))
 | value v=>
   show wpAny (model prog w) A.in1 (ret v) _ _ _
   exact wpAny_pure h
 | missing=>exact h.elim
theorem JE {prog:Program}{w:World}{A:Around}{K:W.Frag}{s:Shared}{x D:Addr}{tp:Value}{R:Result->Shared->Prop}(X:K.In s.heap)(I:AY s.heap x D)(hm:W.mroIn K D (.type "object")=some true)(hR:R (.ok (.ret (.ref D))) s):codeAny (model prog w) A (.call (.builtin "getset_descriptor.__get__") ⟨[.builtin "object.__class__",.ref x,tp],[]⟩) R s:=by
 obtain⟨hh,g,dr,t,os⟩:=s
 have L0:=I.ty (M:=model prog w)
 have L1:=W.looks_mroIn (M:=model prog w) X hm
 have pl:=W.KF.slot_gs.plain
 have ent:=W.KF.entry_gs
 refine codeAny_call_builtin pl ent (W.KF.slot_gs.check _ _ _ _ _ _ _ _ W.KF.type_class (W.KF.args_gs _ _ _) ?_)
 unfold Builtin.«getset_descriptor.__get__» descrGet
 rw[W.dga_obj]
 refine wpAny_bind (wpAny_pure ?_)
 unfold descrGetter descrCheckInstance descrNameAndClass isInstance
 simp only[W.KF.owner_class]
 repeat lk
 refine⟨Code.quiet_builtin _ (by decide +kernel),codeAny_builtin W.KF.entry_class ?_⟩
 unfold Builtin.«object.__class__» shownTypeOf
 repeat lk
 exact hR
structure PZ (K:W.Frag)(C:Addr):Prop where
 hc:(W.clsIn K C).isSome=true
 ga:W.findIn K (.ref C) "__getattribute__"=some (some (.builtin "BaseException.__getattribute__"))
 gt:W.findIn K (.ref C) "__getattr__"=some none
 be:W.mroIn K C (.type "BaseException")=some true
 ha:W.findIn K (.ref C) "__class__"=some (some (.builtin "object.__class__"))
 hn:W.specialIn K (.builtin "object.__class__") "__get__"=some (some (.builtin "getset_descriptor.__get__"))
 Nb:W.takesIn K (.builtin "object.__class__")=some true
 hm:W.mroIn K C (.type "object")=some true
theorem Fq {M:Model}{K:W.Frag}{h:Heap}{x C:Addr}(X:K.In h)(T:PZ K C):W.Looks M h (Builtin.ObjectAttr.find (.ref x) (.ref C) "__class__") (.bind (.builtin "getset_descriptor.__get__") (.builtin "object.__class__")):=by
 refine(W.looks_findIn X T.ha).andThen ?_
 refine(W.looks_specialIn X T.hn:W.Looks M h (Builtin.ObjectAttr.getOf (some (.builtin "object.__class__"))) _).andThen ?_
 refine((W.looks_takesIn X T.Nb).andThen .now:W.Looks M h (Builtin.ObjectAttr.dataDescriptor? (some (.builtin "object.__class__")) (some (.builtin "getset_descriptor.__get__"))) (some (.builtin "getset_descriptor.__get__",.builtin "object.__class__"))).andThen ?_
 exact W.Looks.tag .now
theorem zf {K:W.Frag}{x D:Addr}(T:PZ K D):W.KitX K (.ref x) (.ref D) (fun h=>AY h x D) where
 ty:=fun _ _ _ I=>I.ty
 it:=fun M h X _=>by
   obtain⟨YT,Jq⟩:=Option.isSome_iff_exists.mp T.hc
   unfold W.clsIn at Jq
   split at Jq
   . rename_i u1 u2 u3 u4 U2
     intro A' Q' E' s' k q
     unfold isType loadHead
     exact wpAny_bind (wpAny_loadPart (k _ _ (X _ _ U2)) (wpAny_pure q))
   . cases Jq
 ne:=fun h tp dd aD n sl X YU=>by
   obtain⟨YT,Jq⟩:=Option.isSome_iff_exists.mp T.hc
   refine Bool.eq_false_iff.mpr fun q=>?_
   have e:D=tp:=Value.ref.inj (beq_iff_eq.mp q)
   subst e
   unfold W.clsIn at Jq
   split at Jq
   . rename_i u1 u2 u3 u4 U2
     have z:=(X _ _ U2).symm.trans YU
     cases z
   . cases Jq
 ca:=fun {prog w A E Q s} X I k=>by
   unfold getAttr? getAttrBy?
   refine wpAny_bind (wpAny_mkText (wpAny_bind (wpAny_attempt ?_)))
   refine Nw (s:={ s with toks:=s.toks+1}) X I T.ga T.gt T.be (Fq X T) ?_
   refine wpAny_call (JE (s:={ s with toks:=s.toks+1}) X I T.hm ?_)
   exact W.handed_on rfl (wpAny_pure k)
end Sg
namespace Sg
open PySem PySem.Spec PyProof.Rows L2
abbrev St:=L2.St
def Fs (h:Heap)(x C dx:Addr):Prop:=∃ ox,h.get? x=some ox/\ox.cls=.ref C/\ox.dict=some dx/\∃ vs,ox.data=.fields vs
theorem Fs.of {h:Heap}{x C dx:Addr}(I:Fs h x C dx):AY h x C:=let ⟨ox,h1,h2,_⟩:=I;⟨ox,h1,h2⟩
inductive Dt where
 | cL
 | bl (b:Bool)
 | int (i:Int)
 | str (x:Str)
 | tup (ds:List Dt)
 | lst (ds:List Dt)
 | nv (ns:List Int)
 | d0 (kvs:List (Key×Dt))
 | obj (C:Addr) (fs:List (Str×Dt))
 | ty (n:String)
 | cls (C:Addr)
 | xo (C:Addr)
 | qh (kvs:List (Key×Dt))
 | Cc (C:Addr) (fs:List (Str×Dt))
 | dW (kvs:List (Key×Dt))
 | memo (a:Addr) (ls:je) (j n:Nat)
 | dY (a:Addr) (ls:je) (j n:Nat)
 | u0 (a:Addr) (ls:je) (n:Nat)
 | u9 (C:Addr) (fs:List (Str×Dt)) (gs:List (Nat->List (Key×FD))) (nm:List Str) (n:Nat)
 | gU (fd:FD)
 | lb (LL:List (List Key×Int))
def qR (fs:List (Str×Dt))(nm:List Str)(a:Addr)(ls:je)(n:Nat):List (Str×Dt):=fs ++ (List.range nm.length).map fun j=>(nm.getD j "",.memo a ls j n)
def Known (H:Hp)(p:Addr)(f:Nat->List (Key×FD))(n:Nat):Prop:=∀ i,i < n->∃ q o kvs,H q=some (.kd (some (p,i)) o kvs)/\pZ H kvs (f i)
def bQ (H:Hp)(a:Addr)(ls:je):Prop:=H a=some (.memo ls)\/∃ ns,H a=some (.bj ls ns)
theorem Known.mono {H H':Hp}{p:Addr}{f:Nat->List (Key×FD)}{n:Nat}(e:∀ b u,H b=some u->H' b=some u)(h:Known H p f n):Known H' p f n:=fun i hi=>let ⟨q,o,kvs,h1,h2⟩:=h i hi;⟨q,o,kvs,e _ _ h1,h2.kp (.of e)⟩
theorem bQ.mono {H H':Hp}{a:Addr}{ls:je}(e:∀ b u,H b=some u->H' b=some u)(h:bQ H a ls):bQ H' a ls:=h.imp (e _ _) fun⟨ns,z⟩=>⟨ns,e _ _ z⟩
mutual
inductive Rep (K:W.Frag)(H:Hp):V->Dt->Prop
 | cL:Rep K H .cL .cL
 | bl (b:Bool):Rep K H (.bl b) (.bl b)
 | int (i:Int):Rep K H (.int i) (.int i)
 | str (x:Str):Rep K H (.str x) (.str x)
 | tup {a:Addr} {vs:List V} {ds:List Dt}:Ax K H a vs->bg K H vs ds->Rep K H (.ref a) (.tup ds)
 | lst {a:Addr} {vs:List V} {ds:List Dt}:H a=some (.lst vs)->bg K H vs ds->Rep K H (.ref a) (.lst ds)
 | nv {a:Addr} {ns:List Int}:lI K H a (ns.map V.int)->Rep K H (.ref a) (.nv ns)
 | d0 {a:Addr} {kvs:List (Key×V)} {kds:List (Key×Dt)}:H a=some (.dK kvs)->cC K H kvs kds->Rep K H (.ref a) (.d0 kds)
 | obj {a C dx:Addr} {fs:List (Str×V)} {ds:List (Str×Dt)}:Rd H a (.ins C dx fs)->aW K H fs ds->Rep K H (.ref a) (.obj C ds)
 | ty (n:String):Rep K H (.ty n) (.ty n)
 | cls (C:Addr):Rep K H (.ref C) (.cls C)
 | xo {a C:Addr} {ph:Heap->Prop}:H a=some (.ext ph)->(∀ h,ph h->AY h a C)->Rep K H (.ref a) (.xo C)
 | qh {a:Addr} {ob:Obj} {kvs:List (Key×V)} {kds:List (Key×Dt)}:H a=some (.bh ob (.dK kvs))->cC K H kvs kds->Rep K H (.ref a) (.qh kds)
 | Cc {a C dx:Addr} {ph:Heap->Prop} {fs:List (Str×V)} {ds:List (Str×Dt)}:H a=some (.ext ph)->(∀ h,ph h->Fs h a C dx)->H dx=some (.xd fs)->aW K H fs ds->Rep K H (.ref a) (.Cc C ds)
 | dW {a:Addr} {tg:Option (Addr×Nat)} {ob:Obj} {kvs:List (Key×V)} {kds:List (Key×Dt)}:H a=some (.kd tg ob kvs)->cC K H kvs kds->Rep K H (.ref a) (.dW kds)
 | memo {a p:Addr} {ls:je} {j n:Nat} {f:Nat->List (Key×FD)}:ls[j]?=some (p,f)->H a=some (.memo ls)->(p=a\/H p=some (.part a))->Known H p f n->Rep K H (.ref p) (.memo a ls j n)
 | dY {a p:Addr} {ls:je} {j n:Nat} {f:Nat->List (Key×FD)}:ls[j]?=some (p,f)->bQ H a ls->(p=a\/H p=some (.part a))->Known H p f n->Rep K H (.ref p) (.dY a ls j n)
 | u0 {a:Addr} {ls:je} {n:Nat}:(∀ (j:Nat) (p:Addr) (f:Nat->List (Key×FD)),ls[j]?=some (p,f)->Known H p f n)->Rep K H .cL (.u0 a ls n)
 | u9 {s a C dx:Addr} {fv:List (Str×V)} {fs:List (Str×Dt)} {gs:List (Nat->List (Key×FD))} {nm:List Str} {n:Nat} {ls:je}:ls.map (·.2)=gs->Rd H s (.ins C dx fv)->aW K H fv (qR fs nm a ls n)->Rep K H (.ref s) (.u9 C fs gs nm n)
 | gU {v:V} {fd:FD}:Fz H v fd->Rep K H v (.gU fd)
 | lb {a:Addr} {LL:List (List Key×Int)}:H a=some (.dT (LL.map fun k=>(k.1,V.int k.2)))->Rep K H (.ref a) (.lb LL)
inductive bg (K:W.Frag)(H:Hp):List V->List Dt->Prop
 | nil:bg K H [] []
 | cons {v:V} {d:Dt} {vs:List V} {ds:List Dt}:Rep K H v d->bg K H vs ds->bg K H (v::vs) (d::ds)
inductive cC (K:W.Frag)(H:Hp):List (Key×V)->List (Key×Dt)->Prop
 | nil:cC K H [] []
 | cons {k:Key} {v:V} {d:Dt} {vs:List (Key×V)} {ds:List (Key×Dt)}:Rep K H v d->cC K H vs ds->cC K H ((k,v)::vs) ((k,d)::ds)
inductive aW (K:W.Frag)(H:Hp):List (Str×V)->List (Str×Dt)->Prop
 | nil:aW K H [] []
 | cons {k:Str} {v:V} {d:Dt} {vs:List (Str×V)} {ds:List (Str×Dt)}:Rep K H v d->aW K H vs ds->aW K H ((k,v)::vs) ((k,d)::ds)
end
theorem fD {H H':Hp}{a:Addr}{u:HO}(e:aF H H')(h:Rd H a u):Rd H' a u:=by
 rcases h with h | ⟨o,h⟩ | ⟨tg,o,kvs,h,z⟩ | ⟨o,h⟩
 . exact .inl (e _ _ h)
 . exact .inr (.inl ⟨o,e _ _ h⟩)
 . exact .inr (.inr (.inl ⟨tg,o,kvs,e _ _ h,z⟩))
 . exact .inr (.inr (.inr ⟨o,e _ _ h⟩))
theorem fm {K:W.Frag}{H H':Hp}{a:Addr}{xs:List V}(e:aF H H')(h:Ax K H a xs):Ax K H' a xs:=by
 rcases h with h | h
 . exact .inl (e _ _ h)
 . exact .inr h
mutual
theorem Rep.mono {K:W.Frag}{H H':Hp}(e:aF H H'):∀ {v:V} {d:Dt},Rep K H v d->Rep K H' v d
 | _,_,.cL=>.cL
 | _,_,.bl b=>.bl b
 | _,_,.int i=>.int i
 | _,_,.str x=>.str x
 | _,_,.tup h r=>.tup (fm e h) (bg.mono e r)
 | _,_,.lst h r=>.lst (e _ _ h) (bg.mono e r)
 | _,_,.nv h=>.nv (e.seq h)
 | _,_,.d0 h r=>.d0 (e _ _ h) (cC.mono e r)
 | _,_,.obj h r=>.obj (fD e h) (aW.mono e r)
 | _,_,.ty n=>.ty n
 | _,_,.cls C=>.cls C
 | _,_,.xo h r=>.xo (e _ _ h) r
 | _,_,.qh h r=>.qh (e _ _ h) (cC.mono e r)
 | _,_,.Cc h q g r=>.Cc (e _ _ h) q (e _ _ g) (aW.mono e r)
 | _,_,.dW h r=>.dW (e _ _ h) (cC.mono e r)
 | _,_,.memo h1 h2 h3 h4=>.memo h1 (e _ _ h2) (h3.imp id fun z=>e _ _ z) (h4.mono e)
 | _,_,.dY h1 h2 h3 h4=>.dY h1 (h2.mono e) (h3.imp id fun z=>e _ _ z) (h4.mono e)
 | _,_,.u0 h=>.u0 fun j p f z=>(h j p f z).mono e
 | _,_,.u9 h1 h2 h3=>.u9 h1 (fD e h2) (aW.mono e h3)
 | _,_,.gU h=>.gU (h.st fun b u q _=>e b u q)
 | _,_,.lb h=>.lb (e _ _ h)
theorem bg.mono {K:W.Frag}{H H':Hp}(e:aF H H'):∀ {v:List V} {d:List Dt},bg K H v d->bg K H' v d
 | _,_,.nil=>.nil
 | _,_,.cons h r=>.cons (Rep.mono e h) (bg.mono e r)
theorem cC.mono {K:W.Frag}{H H':Hp}(e:aF H H'):∀ {v:List (Key×V)} {d:List (Key×Dt)},cC K H v d->cC K H' v d
 | _,_,.nil=>.nil
 | _,_,.cons h r=>.cons (Rep.mono e h) (cC.mono e r)
theorem aW.mono {K:W.Frag}{H H':Hp}(e:aF H H'):∀ {v:List (Str×V)} {d:List (Str×Dt)},aW K H v d->aW K H' v d
 | _,_,.nil=>.nil
 | _,_,.cons h r=>.cons (Rep.mono e h) (aW.mono e r)
end
theorem bg.length {K:W.Frag}{H:Hp}:∀ {v:List V} {d:List Dt},bg K H v d->v.length=d.length
 | _,_,.nil=>rfl
 | _,_,.cons _ r=>congrArg (·+1) (bg.length r)
theorem bg.get {K:W.Frag}{H:Hp}:∀ {v:List V} {d:List Dt} {i:Nat} {x:Dt},bg K H v d->d[i]?=some x->∃ y,v[i]?=some y/\Rep K H y x
 | _,_,_,_,.nil,e=>by simp at e
 | _,_,0,_,.cons h _,e=>by simp at e;subst e;exact⟨_,rfl,h⟩
 | _,_,i+1,x,.cons _ r,e=>by
   obtain⟨y,h1,h2⟩:=bg.get (i:=i) (x:=x) r (by simpa using e)
   exact⟨y,by simpa using h1,h2⟩
theorem bg.get' {K:W.Frag}{H:Hp}{v:List V}{d:List Dt}{i:Nat}{y:V}(r:bg K H v d)(e:v[i]?=some y):∃ x,d[i]?=some x/\Rep K H y x:=by
 have hi:i < v.length:=(List.getElem?_eq_some_iff.mp e).1
 have Tx:i < d.length:=by rw[<- r.length];exact hi
 obtain⟨z,h1,h2⟩:=r.get (List.getElem?_eq_getElem Tx)
 rw[e] at h1;cases h1
 exact⟨_,List.getElem?_eq_getElem Tx,h2⟩
theorem bg.append {K:W.Frag}{H:Hp}:∀ {v:List V} {d:List Dt} {v':List V} {d':List Dt},bg K H v d->bg K H v' d'->bg K H (v ++ v') (d ++ d')
 | _,_,_,_,.nil,s=>s
 | _,_,_,_,.cons h r,s=>.cons h (bg.append r s)
theorem bg.take {K:W.Frag}{H:Hp}:∀ {v:List V} {d:List Dt} (n:Nat),bg K H v d->bg K H (v.take n) (d.take n)
 | _,_,0,_=>.nil
 | _,_,_+1,.nil=>.nil
 | _,_,n+1,.cons h r=>.cons h (bg.take n r)
theorem bg.set {K:W.Frag}{H:Hp}{y:V}{x:Dt}(q:Rep K H y x):∀ {v:List V} {d:List Dt} (n:Nat),bg K H v d->bg K H (v.set n y) (d.set n x)
 | _,_,_,.nil=>.nil
 | _,_,0,.cons _ r=>.cons q r
 | _,_,n+1,.cons h r=>.cons h (bg.set q n r)
theorem aW.lookup {K:W.Frag}{H:Hp}{f:Str}:∀ {v:List (Str×V)} {d:List (Str×Dt)} {x:Dt},aW K H v d->d.lookup f=some x->∃ y,v.lookup f=some y/\Rep K H y x
 | _,_,_,.nil,e=>by simp at e
 | (k,v)::r,(_,d)::s,x,.cons h t,e=>by
   rw[List.lookup_cons] at e ⊢
   cases q:(f == k) with
   | true=>rw[q] at e;cases e;exact⟨v,rfl,h⟩
   | false=>rw[q] at e;exact aW.lookup t e
theorem aW.none_of {K:W.Frag}{H:Hp}{f:Str}:∀ {v:List (Str×V)} {d:List (Str×Dt)},aW K H v d->d.lookup f=none->v.lookup f=none
 | _,_,.nil,_=>rfl
 | (k,v)::r,(_,d)::s,.cons h t,e=>by
   rw[List.lookup_cons] at e ⊢
   cases q:(f == k) with
   | true=>rw[q] at e;cases e
   | false=>rw[q] at e;exact aW.none_of t e
theorem aW.length {K:W.Frag}{H:Hp}:∀ {v:List (Str×V)} {d:List (Str×Dt)},aW K H v d->v.length=d.length
 | _,_,.nil=>rfl
 | _,_,.cons _ r=>congrArg (·+1) (aW.length r)
theorem cC.length {K:W.Frag}{H:Hp}:∀ {v:List (Key×V)} {d:List (Key×Dt)},cC K H v d->v.length=d.length
 | _,_,.nil=>rfl
 | _,_,.cons _ r=>congrArg (·+1) (cC.length r)
structure bc (Hf H aH H':Hp):Prop where
 big:aF H H'
 bh:aF Hf aH
 sub:aF aH H'
 new:∀ a o,aH a=some o->(∃ o,Hf a=some o)\/H a=Option.none\/Kept o
theorem bc.refl {Hf H:Hp}(s:aF Hf H):bc Hf H Hf H:=⟨aF.refl _,aF.refl _,s,fun a o h=>.inl ⟨o,h⟩⟩
theorem bc.trans {Hf H av H1 bW H2:Hp}(a:bc Hf H av H1)(b:bc av H1 bW H2):bc Hf H bW H2:=
 ⟨a.big.trans b.big,a.bh.trans b.bh,b.sub,fun x o h=>by
   rcases b.new x o h with⟨o',h'⟩ | h' | h'
   . have e:=b.bh _ _ h'
     rw[h] at e;cases e
     exact a.new x o h'
   . exact .inr (.inl (a.big.free h'))
   . exact .inr (.inr h')⟩
theorem bc.wY {Hf H aH H':Hp}(g:bc Hf H aH H'){a:Addr}{u o:HO}(h:H a=some u)(nk:¬ Kept u)(q:aH a=some o):∃ o,Hf a=some o:=by
 rcases g.new a o q with z | z | z
 . exact z
 . rw[h] at z;cases z
 . have e:=g.big _ _ h
   rw[g.sub _ _ q] at e;cases e
   exact absurd z nk
theorem bB {H:Hp}{p:Addr}{o:HO}(n:H p=Option.none):aF H (upd H p o):=fun b u e=>by
 rw[ah (ax e n)];exact e
theorem cJ {Hf H:Hp}{p:Addr}{o:HO}(s:aF Hf H):aF (upd Hf p o) (upd H p o):=fun b u e=>by
 by_cases hb:b=p
 . subst hb;rw[ak] at e ⊢;exact e
 . rw[ah hb] at e ⊢;exact s _ _ e
theorem vS {Hf H:Hp}{p:Addr}{o:HO}(s:aF Hf H)(n:Hf p=Option.none):aF Hf (upd H p o):=fun b u e=>by
 rw[ah (ax e n)];exact s _ _ e
theorem bc.alloc {Hf H:Hp}{p:Addr}{o:HO}(s:aF Hf H)(n:H p=Option.none):bc Hf H (upd Hf p o) (upd H p o):=
 ⟨bB n,bB (s.free n),cJ s,fun a u h=>by
   by_cases hb:a=p
   . subst hb;exact .inr (.inl n)
   . rw[ah hb] at h;exact .inl ⟨u,h⟩⟩
theorem bc.d5 {Hf H:Hp}{p:Addr}{o:HO}(s:aF Hf H)(n:H p=Option.none):bc Hf H Hf (upd H p o):=
 ⟨bB n,aF.refl _,vS s (s.free n),fun a u h=>.inl ⟨u,h⟩⟩
inductive Own where
 | lst (ds:List Dt)
 | d0 (kds:List (Key×Dt))
 | obj (C:Addr) (fs:List (Str×Dt))
 | zg (x:Addr) (C:Addr) (fs:List (Str×Dt))
 | qi (C:Addr) (fs:List (Str×Dt)) (gs:List (Nat->List (Key×FD))) (nm:List Str) (n:Nat)
 | wZ (x:Addr) (C:Addr) (fs:List (Str×Dt)) (gs:List (Nat->List (Key×FD))) (nm:List Str) (n:Nat)
 | lb (LL:List (List Key×Int))
inductive Slot where
 | aO
 | val (d:Dt)
 | own (o:Own)
def gc (K:W.Frag)(Hf H:Hp)(a:Addr):Own->Prop
 | .lst ds=>∃ vs,H a=some (.lst vs)/\bg K Hf vs ds
 | .d0 kds=>∃ kvs,H a=some (.dK kvs)/\cC K Hf kvs kds
 | .obj C ds=>∃ dx fs,H a=some (.ins C dx fs)/\aW K Hf fs ds
 | .zg x C ds=>a=x/\∃ dx fs,H a=some (.ins C dx fs)/\aW K Hf fs ds
 | .qi C ds gs nm n=>∃ dx fs b ls,(ls:je).map (·.2)=gs/\H a=some (.ins C dx fs)/\aW K Hf fs (qR ds nm b ls n)
 | .wZ x C ds gs nm n=>a=x/\∃ dx fs b ls,(ls:je).map (·.2)=gs/\H a=some (.ins C dx fs)/\aW K Hf fs (qR ds nm b ls n)
 | .lb LL=>H a=some (.dT (LL.map fun k=>(k.1,V.int k.2)))
theorem gc.QY {K:W.Frag}{Hf H:Hp}{a:Addr}:∀ {o:Own},gc K Hf H a o->∃ u,H a=some u/\¬ Kept u
 | .lst _,⟨_,h,_⟩=>⟨_,h,fun z=>z⟩
 | .d0 _,⟨_,h,_⟩=>⟨_,h,fun z=>z⟩
 | .obj _ _,⟨_,_,h,_⟩=>⟨_,h,fun z=>z⟩
 | .zg _ _ _,⟨_,_,_,h,_⟩=>⟨_,h,fun z=>z⟩
 | .qi _ _ _ _ _,⟨_,_,_,_,_,h,_⟩=>⟨_,h,fun z=>z⟩
 | .wZ _ _ _ _ _ _,⟨_,_,_,_,_,_,h,_⟩=>⟨_,h,fun z=>z⟩
 | .lb _,h=>⟨_,h,fun z=>z⟩
theorem gc.some {K:W.Frag}{Hf H:Hp}{a:Addr}:∀ {o:Own},gc K Hf H a o->∃ u,H a=some u
 | .lst _,⟨_,h,_⟩=>⟨_,h⟩
 | .d0 _,⟨_,h,_⟩=>⟨_,h⟩
 | .obj _ _,⟨_,_,h,_⟩=>⟨_,h⟩
 | .zg _ _ _,⟨_,_,_,h,_⟩=>⟨_,h⟩
 | .qi _ _ _ _ _,⟨_,_,_,_,_,h,_⟩=>⟨_,h⟩
 | .wZ _ _ _ _ _ _,⟨_,_,_,_,_,_,h,_⟩=>⟨_,h⟩
 | .lb _,h=>⟨_,h⟩
theorem gc.grow {K:W.Frag}{Hf H aH H':Hp}{a:Addr}(e:H' a=H a)(f:aF Hf aH):∀ {o:Own},gc K Hf H a o->gc K aH H' a o
 | .lst _,⟨vs,h,r⟩=>⟨vs,by rw[e];exact h,r.mono f⟩
 | .d0 _,⟨vs,h,r⟩=>⟨vs,by rw[e];exact h,r.mono f⟩
 | .obj _ _,⟨dx,fs,h,r⟩=>⟨dx,fs,by rw[e];exact h,r.mono f⟩
 | .zg _ _ _,⟨q,dx,fs,h,r⟩=>⟨q,dx,fs,by rw[e];exact h,r.mono f⟩
 | .qi _ _ _ _ _,⟨dx,fs,b,ls,q,h,r⟩=>⟨dx,fs,b,ls,q,by rw[e];exact h,r.mono f⟩
 | .wZ _ _ _ _ _ _,⟨q0,dx,fs,b,ls,q,h,r⟩=>⟨q0,dx,fs,b,ls,q,by rw[e];exact h,r.mono f⟩
 | .lb LL,h=>(show H' a=Option.some (HO.dT (LL.map fun k=>(k.1,V.int k.2))) from by rw[e];exact h)
structure Gr where
 Hf:Hp
 H:Hp
structure dk (K:W.Frag)(G:Gr)(st:L2.St)(Hf H:Hp)(dl:List Slot):Prop where
 gr:bc G.Hf G.H Hf H
 len:st.length=dl.length
 val:∀ (i:Nat) d,dl[i]?=some (.val d)->∃ v,st[i]?=some (some v)/\Rep K Hf v d
 own:∀ (i:Nat) o,dl[i]?=some (.own o)->∃ a,st[i]?=some (some (.ref a))/\Hf a=Option.none/\G.H a=Option.none/\gc K Hf H a o
 DF:∀ (i j:Nat) o o' a,dl[i]?=some (.own o)->dl[j]?=some (.own o')->st[i]?=some (some (.ref a))->st[j]?=some (some (.ref a))->i=j
section
variable {K:W.Frag}{G:Gr}{st:L2.St}{Hf H aH H':Hp}{dl dl':List Slot}
theorem dk.sub (S:dk K G st Hf H dl):aF Hf H:=S.gr.sub
theorem dk.grow (S:dk K G st Hf H dl)(g:bc Hf H aH H'):dk K G st aH H' dl:=by
 refine⟨S.gr.trans g,S.len,fun i d h=>let ⟨v,h1,h2⟩:=S.val i d h;⟨v,h1,h2.mono g.bh⟩,fun i o h=>?_,S.DF⟩
 obtain⟨a,h1,h2,h3,h4⟩:=S.own i o h
 obtain⟨u,hu,nk⟩:=h4.QY
 refine⟨a,h1,?_,h3,h4.grow (by rw[hu];exact g.big _ _ hu) g.bh⟩
 cases q:aH a with
 | none=>rfl
 | some u'=>
   obtain⟨o',z⟩:=g.wY hu nk q
   rw[h2] at z;cases z
theorem dk.set (S:dk K G st Hf H dl){i:Nat}{v:V}{d:Dt}(r:Rep K Hf v d):dk K G (st.set i (some v)) Hf H (dl.set i (.val d)):=by
 have ln:=S.len
 refine⟨S.gr,by simp[S.len],fun j x h=>?_,fun j o h=>?_,fun j k o o' a h1 h2 h3 h4=>?_⟩
 . by_cases e:i=j
   . subst e
     by_cases hl:i < dl.length
     . rw[List.getElem?_set_self hl] at h;cases h
       exact⟨v,List.getElem?_set_self (by omega),r⟩
     . rw[List.getElem?_eq_none (by simp;omega)] at h;cases h
   . rw[List.getElem?_set_ne e] at h ⊢;exact S.val j x h
 . by_cases e:i=j
   . subst e
     by_cases hl:i < dl.length
     . rw[List.getElem?_set_self hl] at h;cases h
     . rw[List.getElem?_eq_none (by simp;omega)] at h;cases h
   . rw[List.getElem?_set_ne e] at h ⊢;exact S.own j o h
 . have nj:i≠j:=fun e=>by
     subst e
     by_cases hl:i < dl.length
     . rw[List.getElem?_set_self hl] at h1;cases h1
     . rw[List.getElem?_eq_none (by simp;omega)] at h1;cases h1
   have nk:i≠k:=fun e=>by
     subst e
     by_cases hl:i < dl.length
     . rw[List.getElem?_set_self hl] at h2;cases h2
     . rw[List.getElem?_eq_none (by simp;omega)] at h2;cases h2
   rw[List.getElem?_set_ne nj] at h1 h3
   rw[List.getElem?_set_ne nk] at h2 h4
   exact S.DF j k o o' a h1 h2 h3 h4
theorem dk.DG (S:dk K G st Hf H dl){i:Nat}{p:Addr}{o:HO}{w w':Own}(hi:dl[i]?=some (.own w))(hp:st[i]?=some (some (.ref p)))(r:gc K Hf (upd H p o) p w'):dk K G st Hf (upd H p o) (dl.set i (.own w')):=by
 have ln:=S.len
 obtain⟨p',q1,q2,q3,q4⟩:=S.own i w hi
 rw[hp] at q1;cases q1
 have hl:i < dl.length:=(List.getElem?_eq_some_iff.mp hi).1
 have g:bc G.Hf G.H Hf (upd H p o):=⟨fun b u e=>by rw[ah (ax e q3)];exact S.gr.big _ _ e,S.gr.bh,vS S.sub q2,S.gr.new⟩
 refine⟨g,by simp[S.len],fun j x h=>?_,fun j o' h=>?_,fun j k o1 o2 a h1 h2 h3 h4=>?_⟩
 . by_cases e:i=j
   . subst e;rw[List.getElem?_set_self hl] at h;cases h
   . rw[List.getElem?_set_ne e] at h;exact S.val j x h
 . by_cases e:i=j
   . subst e;rw[List.getElem?_set_self hl] at h;cases h
     exact⟨p,hp,q2,q3,r⟩
   . rw[List.getElem?_set_ne e] at h
     obtain⟨a,z1,z2,z3,z4⟩:=S.own j o' h
     have:a≠p:=fun q=>by subst q;exact e (S.DF i j _ _ _ hi h hp z1)
     exact⟨a,z1,z2,z3,z4.grow (ah this) (aF.refl _)⟩
 . have tr:∀ (j:Nat) o',(dl.set i (.own w'))[j]?=some (.own o')->∃ Ny,dl[j]?=some (.own Ny):=fun j o' h=>by
     by_cases e:i=j
     . subst e;exact⟨_,hi⟩
     . rw[List.getElem?_set_ne e] at h;exact⟨_,h⟩
   obtain⟨_,t1⟩:=tr j o1 h1
   obtain⟨_,t2⟩:=tr k o2 h2
   exact S.DF j k _ _ a t1 t2 h3 h4
def Le (dl dl':List Slot):Prop:=dl.length=dl'.length/\∀ (i:Nat) s,dl[i]?=some s->s≠.aO->dl'[i]?=some s
theorem Le.refl (dl:List Slot):Le dl dl:=⟨rfl,fun _ _ h _=>h⟩
theorem dk.weak (S:dk K G st Hf H dl')(l:Le dl dl'):dk K G st Hf H dl:=
 ⟨S.gr,by rw[S.len,l.1],fun i d h=>S.val i d (l.2 i _ h (by intro z;cases z)),fun i o h=>S.own i o (l.2 i _ h (by intro z;cases z)),
  fun i j o o' a h1 h2=>S.DF i j o o' a (l.2 i _ h1 (by intro z;cases z)) (l.2 j _ h2 (by intro z;cases z))⟩
def QZ:List Slot->List Slot->Prop
 | [],[]=>True
 | .aO::r,_::s=>QZ r s
 | x::r,y::s=>x=y/\QZ r s
 | _,_=>False
theorem Le.of:∀ {dl dl':List Slot},QZ dl dl'->Le dl dl'
 | [],[],_=>Le.refl _
 | .aO::r,y::s,h=>by
   have q:=Le.of (dl:=r) (dl':=s) h
   refine⟨congrArg (·+1) q.1,fun i x e n=>?_⟩
   cases i with
   | zero=>simp at e;exact absurd e.symm n
   | succ i=>exact q.2 i x (by simpa using e) n
 | .val d::r,y::s,h=>by
   obtain⟨h1,h2⟩:=(show Slot.val d=y/\QZ r s from h)
   subst h1
   have q:=Le.of h2
   refine⟨congrArg (·+1) q.1,fun i x e n=>?_⟩
   cases i with
   | zero=>exact e
   | succ i=>exact q.2 i x (by simpa using e) n
 | .own d::r,y::s,h=>by
   obtain⟨h1,h2⟩:=(show Slot.own d=y/\QZ r s from h)
   subst h1
   have q:=Le.of h2
   refine⟨congrArg (·+1) q.1,fun i x e n=>?_⟩
   cases i with
   | zero=>exact e
   | succ i=>exact q.2 i x (by simpa using e) n
end
def tD (K:W.Frag)(G:Gr)(dl:List Slot)(d:Dt):TE:=fun st H Q=>∃ Hf,dk K G st Hf H dl/\∀ v aH H',bc Hf H aH H'->Rep K aH v d->Q v H'
def Q0 (K:W.Frag)(G:Gr)(dl:List Slot)(ds:List Dt):TA:=fun st H Q=>∃ Hf,dk K G st Hf H dl/\∀ vs aH H',bc Hf H aH H'->bg K aH vs ds->Q vs H'
def Q1 (K:W.Frag)(G:Gr)(dl:List Slot)(b:Bool):TT:=fun st H Q=>∃ Hf,dk K G st Hf H dl/\∀ aH H',bc Hf H aH H'->Q b H'
abbrev EE (X:Cx)(G:Gr)(dl:List Slot)(e:Expr)(d:Dt):Prop:=PE X e (tD X.K G dl d)
abbrev EA (X:Cx)(G:Gr)(dl:List Slot)(es:List Expr)(ds:List Dt):Prop:=PA X es (Q0 X.K G dl ds)
abbrev EB (X:Cx)(G:Gr)(dl:List Slot)(e:Expr)(b:Bool):Prop:=PT X e (Q1 X.K G dl b)
def ExcAt (K:W.Frag)(Hf:Hp)(od:Option Addr)(fs:List (Str×Dt)):Prop:=match od with
 | none=>fs=[]
 | some dx=>∃ fv,Hf dx=some (.xd fv)/\aW K Hf fv fs
inductive Out where
 | nx (dl:List Slot)
 | rt (d:Dt)
 | ro (w:Own)
 | bk (dl:List Slot)
 | ct (dl:List Slot)
 | ex (c:Value) (fs:List (Str×Dt))
 | raw (R:L2.St->Hp->Prop)
def va (K:W.Frag)(G:Gr)(E:XK)(D:Ends)(Hf:Hp):Out->Prop
 | .nx dl=>∀ st aH H,aF Hf aH->dk K G st aH H dl->D.nx st H
 | .bk dl=>∀ st aH H,aF Hf aH->dk K G st aH H dl->D.bk st H
 | .ct dl=>∀ st aH H,aF Hf aH->dk K G st aH H dl->D.ct st H
 | .rt d=>∀ v aH H,bc G.Hf G.H aH H->Rep K aH v d->D.rt v H
 | .ro o=>∀ p aH H,bc G.Hf G.H aH H->G.H p=none->aH p=none->gc K aH H p o->D.rt (.ref p) H
 | .ex c fs=>∀ od aH H,bc G.Hf G.H aH H->ExcAt K aH od fs->E c od H
 | .raw R=>∀ st H,R st H->D.nx st H
theorem va.mono {K:W.Frag}{G:Gr}{E:XK}{D:Ends}{Hf av:Hp}(s:aF Hf av):∀ {o:Out},va K G E D Hf o->va K G E D av o
 | .nx _,k=>fun st aH H s' S=>k st aH H (s.trans s') S
 | .bk _,k=>fun st aH H s' S=>k st aH H (s.trans s') S
 | .ct _,k=>fun st aH H s' S=>k st aH H (s.trans s') S
 | .rt _,k=>k
 | .ro _,k=>k
 | .ex _ _,k=>k
 | .raw _,k=>k
def tO (K:W.Frag)(G:Gr)(E:XK)(dl:List Slot)(o:Out):TS:=fun D st H=>∃ Hf,dk K G st Hf H dl/\va K G E D Hf o
abbrev ES (X:Cx)(G:Gr)(E:XK)(dl:List Slot)(s:Stmt)(o:Out):Prop:=PS X s (tO X.K G E dl o)
abbrev lM (X:Cx)(G:Gr)(E:XK)(dl:List Slot)(s:List Stmt)(o:Out):Prop:=AD X s (tO X.K G E dl o)
theorem gd {X:Cx}{e:Expr}{t t':TE}(h:PE X e t)(i:∀ st H Q,t' st H Q->t st H Q):PE X e t':=fun pins s st H Q I q=>h pins s st H Q I (i st H Q q)
theorem Q2 {X:Cx}{e:Expr}{t t':TT}(h:PT X e t)(i:∀ st H Q,t' st H Q->t st H Q):PT X e t':=fun pins s st H Q I q=>h pins s st H Q I (i st H Q q)
theorem W7 {X:Cx}{e:List Expr}{t t':TA}(h:PA X e t)(i:∀ st H Q,t' st H Q->t st H Q):PA X e t':=fun pos pins s st H Q I q=>h pos pins s st H Q I (i st H Q q)
theorem rb {X:Cx}{e:Stmt}{t t':TS}(h:PS X e t)(i:∀ D st H,t' D st H->t D st H):PS X e t':=fun pins s st H D I q=>h pins s st H D I (i D st H q)
theorem zh {X:Cx}{e:List Stmt}{t t':TS}(h:AD X e t)(i:∀ D st H,t' D st H->t D st H):AD X e t':=fun pins s st H D I q=>h pins s st H D I (i D st H q)
section
variable {X:Cx}{G:Gr}{dl:List Slot}{a b e:Expr}{i j:Int}{d d1 d2:Dt}{pos:Pos}{x y:Str}{u v:Bool}
theorem aa (n:Nat){x:Str}{pos:Pos}(hd:dl[n]?=some (.val d):=by rfl)(hN:X.N[n]?=some x:=by rfl)(hv:sU X.env.scope x:=by first | exact Or.inl rfl | exact Or.inr (Or.inl rfl) | exact Or.inr (Or.inr rfl))(hb:(x == ("__debug__":Str))=false:=by decide)(k7:(x == ("__classdict__":Str))=false:=by decide):EE X G dl (.Name x pos) d:=
 gd (iy hN hv hb k7) fun st H Q ⟨Hf,S,k⟩=>let ⟨v,h1,h2⟩:=S.val n d hd;⟨v,h1,k v Hf H (.refl S.sub) h2⟩
theorem ao {z:Int}{j pos}:EE X G dl (.Constant (.int z) j pos) (.int z):=gd MN fun st H Q ⟨Hf,S,k⟩=>k _ Hf H (.refl S.sub) (.int z)
theorem eU {z:Str}{j pos}:EE X G dl (.Constant (.str z) j pos) (.str z):=gd MO fun st H Q ⟨Hf,S,k⟩=>k _ Hf H (.refl S.sub) (.str z)
def AZ (K:W.Frag)(r:R2)(d1 d2 d:Dt):Prop:=∀ v w Hf H Q,aF Hf H->Rep K Hf v d1->Rep K Hf w d2->(∀ u aH H',bc Hf H aH H'->Rep K aH u d->Q u H')->r v w H Q
theorem tG {r:R2}(h:AZ X.K r d1 d2 d):∀ st H Q,tD X.K G dl d st H Q->Qu r (tD X.K G dl d1) (tD X.K G dl d2) st H Q:=fun st H Q ⟨Hf,S,k⟩=>
 ⟨Hf,S,fun v av H1 g1 r1=>⟨av,S.grow g1,fun w bW H2 g2 r2=>h v w bW H2 Q g2.sub (r1.mono g2.bh) r2 fun u iu H3 g3 r3=>k u iu H3 ((g1.trans g2).trans g3) r3⟩⟩
theorem tH {op:Operator}{r:R2}(ho:mI X (binaryOp op) r)(h:AZ X.K r d1 d2 d)(ha:EE X G dl a d1)(hb:EE X G dl b d2):EE X G dl (.BinOp a op b pos) d:=gd (LC ho ha hb) (tG h)
theorem A0 {op:CmpOp}{r:R2}(ho:mI X (compareOp op) r)(h:AZ X.K r d1 d2 d)(hm:behindInMarks op b=false)(ha:EE X G dl a d1)(hb:EE X G dl b d2):EE X G dl (.Compare a [op] [b] pos) d:=gd (Jn ho ha hb hm) (tG h)
theorem lN {op:CmpOp}{r:R2}(ho:mI X (compareOp op) r)(h:AZ X.K r d1 d2 (.bl u))(hm:behindInMarks op b=false)(ha:EE X G dl a d1)(hb:EE X G dl b d2):EB X G dl (.Compare a [op] [b] pos) u:=
 Q2 (Jo ho ha hb hm) fun st H Q ⟨Hf,S,k⟩=>tG h st H _ ⟨Hf,S,fun v aH H' g r=>by cases r;exact⟨u,rfl,k aH H' g⟩⟩
theorem og {K:W.Frag}{g:Int->Int->V}{g':Int->Int->Dt}(h:∀ K H i j,Rep K H (g i j) (g' i j)):AZ K (Jj g) (.int i) (.int j) (g' i j):=fun v w Hf H Q s r1 r2 k=>by
 cases r1;cases r2;exact⟨i,j,rfl,rfl,k _ Hf H (.refl s) (h _ _ _ _)⟩
theorem JF {K:W.Frag}{C:Int->Int->Prop}{g:Int->Int->V}{g':Int->Int->Dt}(h:∀ K H i j,Rep K H (g i j) (g' i j))(hc:C i j):AZ K (rI C g) (.int i) (.int j) (g' i j):=fun v w Hf H Q s r1 r2 k=>by
 cases r1;cases r2;exact⟨i,j,rfl,rfl,hc,k _ Hf H (.refl s) (h _ _ _ _)⟩
theorem aL (ha:EE X G dl a (.int i))(hb:EE X G dl b (.int j)):EE X G dl (.BinOp a .Add b pos) (.int (i+j)):=tH M5 (og (g':=fun i j=>.int (i+j)) fun _ _ _ _=>.int _) ha hb
theorem d6 (ha:EE X G dl a (.int i))(hb:EE X G dl b (.int j)):EE X G dl (.BinOp a .Sub b pos) (.int (i - j)):=tH M6 (og (g':=fun i j=>.int (i - j)) fun _ _ _ _=>.int _) ha hb
theorem JG:mI X (binaryOp .Mult) (rI IntMulOk fun i j=>.int (i * j)):=Ts fun _ _ _ _ _ _ _ hc q=>mul_int q hc
theorem fS (ha:EE X G dl a (.int i))(hb:EE X G dl b (.int j))(hc:IntMulOk i j):EE X G dl (.BinOp a .Mult b pos) (.int (i * j)):=tH JG (JF (g':=fun i j=>.int (i * j)) (fun _ _ _ _=>.int _) hc) ha hb
theorem Ft:mI X (binaryOp .FloorDiv) (rI (fun _ j=>0 < j/\j.natAbs.log2 < 9000) fun i j=>.int (i / j)):=Ts fun i j _ _ _ _ _ hc q=>by
 refine floordiv_int (Int.ne_of_gt hc.1) ?_ (.inl (PyProof.noPylong_of_log2 hc.2))
 rw[Int.fdiv_eq_ediv_of_nonneg _ (Int.le_of_lt hc.1)]
 exact q
theorem fE (ha:EE X G dl a (.int i))(hb:EE X G dl b (.int j))(hc:0 < j/\j.natAbs.log2 < 9000):EE X G dl (.BinOp a .FloorDiv b pos) (.int (i / j)):=tH Ft (JF (g':=fun i j=>.int (i / j)) (fun _ _ _ _=>.int _) hc) ha hb
theorem cf (ha:EE X G dl a (.int i))(hb:EE X G dl b (.int j))(hc:0 < j):EE X G dl (.BinOp a .Mod b pos) (.int (i % j)):=tH M7 (JF (g':=fun i j=>.int (i % j)) (fun _ _ _ _=>.int _) hc) ha hb
theorem Fu (ha:EE X G dl a (.int i))(hb:EE X G dl b (.int j))(hc:Qx i j):EE X G dl (.BinOp a .Pow b pos) (.int (i ^ j.toNat)):=tH M8 (JF (g':=fun i j=>.int (i ^ j.toNat)) (fun _ _ _ _=>.int _) hc) ha hb
theorem Nz {K:W.Frag}(h:x.length+y.length<=sizeLine):AZ K (fun a b H Q=>∃ i j,a=.str i/\b=.str j/\i.length+j.length<=sizeLine/\Q (.str (i ++ j)) H) (.str x) (.str y) (.str (x ++ y)):=fun v w Hf H Q s r1 r2 k=>by
 cases r1;cases r2;exact⟨x,y,rfl,rfl,h,k _ Hf H (.refl s) (.str _)⟩
theorem NA (ha:EE X G dl a (.str x))(hb:EE X G dl b (.str y))(h:x.length+y.length<=sizeLine):EE X G dl (.BinOp a .Add b pos) (.str (x ++ y)):=tH AI (Nz h) ha hb
theorem iz (ha:EE X G dl a (.int i)):EE X G dl (.UnaryOp .USub a pos) (.int (-i)):=
 gd (Qv M9 ha) fun st H Q ⟨Hf,S,k⟩=>⟨Hf,S,fun v av H1 g1 r1=>by cases r1;exact⟨i,rfl,k _ av H1 g1 (.int _)⟩⟩
theorem zi (h:EE X G dl e (.bl u))(he:∀ whole,isTrue e X.env whole=(do let v <- whole;standAt e.pos;holding [v] (truthy v)):=by intro _;rfl):EB X G dl e u:=
 Q2 (MQ h he) fun st H Q ⟨Hf,S,k⟩=>⟨Hf,S,fun v av H1 g1 r1=>by cases r1;exact⟨u,rfl,k av H1 g1⟩⟩
end
section
variable {X:Cx}{G:Gr}{E:XK}{dl dl1:List Slot}{a b c e:Expr}{es:List Expr}{i j:Int}{d d1:Dt}{ds:List Dt}{pos:Pos}{o o':Out}{x:Str}{u v:Bool}{rest:List Expr}{sts DH:List Stmt}{s:Stmt}
theorem A1:PE X e fun _ _ _=>False:=fun _ _ _ _ _ _ h=>h.elim
theorem pw_nev:PW X e fun _ _ _=>False:=fun _ _ _ _ _ _ _ h=>h.elim
abbrev EW (X:Cx)(G:Gr)(dl:List Slot)(e:Expr)(b:Bool):Prop:=PW X e (Q1 X.K G dl b)
theorem TB {e:Expr}{t t':TT}(h:PW X e t)(i:∀ st H Q,t' st H Q->t st H Q):PW X e t':=fun wh pins s st H Q I q=>h wh pins s st H Q I (i st H Q q)
theorem rW (ha:EB X G dl a u):EW X G dl (.BoolOp .And [a] pos) u:=pw_and1 ha
theorem tJ (ha:EB X G dl a u):EW X G dl (.BoolOp .Or [a] pos) u:=pw_or1 ha
theorem qj (ha:EB X G dl a u)(hb:u=true->EW X G dl (.BoolOp .And (b::rest) pos) v):EW X G dl (.BoolOp .And (a::b::rest) pos) (u && v):=by
 cases u with
 | true=>exact TB (pw_and ha (hb rfl)) fun st H Q ⟨Hf,S,k⟩=>⟨Hf,S,fun av H1 g1=>wX ⟨av,S.grow g1,fun bW H2 g2=>k bW H2 (g1.trans g2)⟩⟩
 | false=>exact TB (pw_and ha pw_nev) fun st H Q ⟨Hf,S,k⟩=>⟨Hf,S,fun av H1 g1=>wW (k av H1 g1)⟩
theorem vT (ha:EB X G dl a u)(hb:u=false->EW X G dl (.BoolOp .Or (b::rest) pos) v):EW X G dl (.BoolOp .Or (a::b::rest) pos) (u || v):=by
 cases u with
 | false=>exact TB (pw_or ha (hb rfl)) fun st H Q ⟨Hf,S,k⟩=>⟨Hf,S,fun av H1 g1=>wW ⟨av,S.grow g1,fun bW H2 g2=>k bW H2 (g1.trans g2)⟩⟩
 | true=>exact TB (pw_or ha pw_nev) fun st H Q ⟨Hf,S,k⟩=>⟨Hf,S,fun av H1 g1=>wX (k av H1 g1)⟩
theorem vb (h:EW X G dl e u):EB X G dl e u:=h.pt
theorem w4 (ha:EB X G dl a u):EB X G dl (.UnaryOp .Not a pos) (!u):=Q2 (MR ha) fun st H Q ⟨Hf,S,k⟩=>⟨Hf,S,fun av H1 g1=>k av H1 g1⟩
theorem pj (ha:EE X G dl a (.bl u)):EE X G dl (.BoolOp .And [a] pos) (.bl u):=MS ha
theorem tK (ha:EE X G dl a (.bl u))(hb:u=true->EE X G dl (.BoolOp .And (b::rest) pos) (.bl v)):EE X G dl (.BoolOp .And (a::b::rest) pos) (.bl (u && v)):=by
 cases u with
 | true=>exact gd (E3 ha (hb rfl)) fun st H Q ⟨Hf,S,k⟩=>⟨Hf,S,fun w av H1 g1 r1=>by cases r1;exact⟨true,rfl,wX ⟨av,S.grow g1,fun w bW H2 g2 r2=>k w bW H2 (g1.trans g2) r2⟩⟩⟩
 | false=>exact gd (E3 ha A1) fun st H Q ⟨Hf,S,k⟩=>⟨Hf,S,fun w av H1 g1 r1=>by cases r1;exact⟨false,rfl,wW (k _ av H1 g1 (.bl _))⟩⟩
theorem NB (ha:EE X G dl a (.bl u)):EE X G dl (.UnaryOp .Not a pos) (.bl (!u)):=gd (MT ha) fun st H Q ⟨Hf,S,k⟩=>⟨Hf,S,fun w av H1 g1 r1=>by cases r1;exact⟨u,rfl,k _ av H1 g1 (.bl _)⟩⟩
theorem di (h:EB X G dl e u)(q:u=v):EB X G dl e v:=by subst q;exact h
theorem aU (h:EE X G dl e d)(q:d=d1):EE X G dl e d1:=by subst q;exact h
theorem NC (hc:EB X G dl c u)(ha:u=true->EE X G dl a d)(hb:u=false->EE X G dl b d):EE X G dl (.IfExp c a b pos) d:=by
 cases u with
 | true=>exact gd (yJ hc (ha rfl) A1) fun st H Q ⟨Hf,S,k⟩=>⟨Hf,S,fun av H1 g1=>wX ⟨av,S.grow g1,fun w bW H2 g2 r2=>k w bW H2 (g1.trans g2) r2⟩⟩
 | false=>exact gd (yJ hc A1 (hb rfl)) fun st H Q ⟨Hf,S,k⟩=>⟨Hf,S,fun av H1 g1=>wW ⟨av,S.grow g1,fun w bW H2 g2 r2=>k w bW H2 (g1.trans g2) r2⟩⟩
theorem aj:EA X G dl [] []:=W7 mM fun st H Q ⟨Hf,S,k⟩=>k [] Hf H (.refl S.sub) .nil
theorem ae (ha:EE X G dl e d)(hr:EA X G dl es ds)(hs:starEach (e::es) X.env=(false,eval e X.env)::starEach es X.env:=by rfl):EA X G dl (e::es) (d::ds):=
 W7 (kE ha hr hs) fun st H Q ⟨Hf,S,k⟩=>⟨Hf,S,fun v av H1 g1 r1=>⟨av,S.grow g1,fun vs bW H2 g2 r2=>k _ bW H2 (g1.trans g2) (.cons (r1.mono g2.bh) r2)⟩⟩
theorem dy {x1}(h:EA X G dl es ds)(hl:ds.length<=sizeLine:=by decide):EE X G dl (.Tuple es x1 pos) (.tup ds):=
 gd (Nc h) fun st H Q ⟨Hf,S,k⟩=>⟨Hf,S,fun vs av H1 g1 r1=>⟨by rw[r1.length];exact hl,fun p hp=>k _ (upd av p (.tup vs)) _ (g1.trans (.alloc g1.sub hp)) (.tup (.of ak) (r1.mono (bB (g1.sub.free hp))))⟩⟩
theorem Fv (h:EA X G dl es ds)(hl:ds.length<=sizeLine:=by decide):EE X G dl (.List es pos) (.lst ds):=
 gd (tf h) fun st H Q ⟨Hf,S,k⟩=>⟨Hf,S,fun vs av H1 g1 r1=>⟨by rw[r1.length];exact hl,fun p hp=>k _ (upd av p (.lst vs)) _ (g1.trans (.alloc g1.sub hp)) (.lst ak (r1.mono (bB (g1.sub.free hp))))⟩⟩
theorem bg.lK {K:W.Frag}{H:Hp}{vs:List V}{ds:List Dt}{i:Int}{d:Dt}(r:bg K H vs ds)(h:L2.lK ds i=some d):∃ v,L2.lK vs i=some v/\Rep K H v d:=by
 unfold L2.lK at h ⊢
 rw[r.length]
 cases q:AR ds.length i with
 | none=>rw[q] at h;cases h
 | some n=>
   rw[q] at h
   exact r.get h
theorem a0 (ha:EE X G dl a (.tup ds))(hb:EE X G dl b (.int i))(h:lK ds i=some d)(hs:jC b:=by intro _ _;rfl):EE X G dl (.Subscript a b pos) d:=
 gd (tq Ng ha hb hs) (tG fun v w Hf H Q s r1 r2 k=>by
   cases r1 with
   | tup q r=>
     cases r2
     obtain⟨v,h1,h2⟩:=r.lK h
     exact⟨_,_,i,v,rfl,rfl,fm s q,h1,k v Hf H (.refl s) h2⟩)
theorem oG (ha:EE X G dl a (.lst ds))(hb:EE X G dl b (.int i))(h:lK ds i=some d)(hs:jC b:=by intro _ _;rfl):EE X G dl (.Subscript a b pos) d:=
 gd (tq wO ha hb hs) (tG fun v w Hf H Q s r1 r2 k=>by
   cases r1 with
   | lst q r=>
     cases r2
     obtain⟨v,h1,h2⟩:=r.lK h
     exact⟨_,_,i,v,rfl,rfl,.of (s _ _ q),h1,k v Hf H (.refl s) h2⟩)
theorem qk {ns:List Int}{z:Int}(ha:EE X G dl a (.nv ns))(hb:EE X G dl b (.int i))(h:lK ns i=some z)(hs:jC b:=by intro _ _;rfl):EE X G dl (.Subscript a b pos) (.int z):=
 gd (tq wO ha hb hs) (tG fun v w Hf H Q s r1 r2 k=>by
   cases r1 with
   | nv q=>
     cases r2
     have h':L2.lK (ns.map V.int) i=some (.int z):=by
       unfold L2.lK at h ⊢
       rw[List.length_map]
       cases q2:AR ns.length i with
       | none=>rw[q2] at h;cases h
       | some n=>
         rw[q2] at h
         show(ns.map V.int)[n]?=_
         rw[List.getElem?_map,show ns[n]?=some z from h];rfl
     exact⟨_,_,i,_,rfl,rfl,s.seq q,h',k _ Hf H (.refl s) (.int z)⟩)
theorem ND {z:Nat}(ha:EE X G dl a (.str x))(hb:EE X G dl b (.int i))(h:lK x.cps.toList i=some z)(hl:x.length<=sizeLine)(hs:jC b:=by intro _ _;rfl):EE X G dl (.Subscript a b pos) (.str ⟨#[z]⟩):=
 gd (tq Nh ha hb hs) (tG fun v w Hf H Q s r1 r2 k=>by
   cases r1;cases r2
   exact⟨x,i,z,rfl,rfl,hl,h,k _ Hf H (.refl s) (.str _)⟩)
theorem cg:lM X G E dl [] (.nx dl):=zh Jh fun D st H ⟨Hf,S,k⟩=>k st Hf H (aF.refl _) S
theorem ai (h1:ES X G E dl s (.nx dl1))(h2:lM X G E dl1 sts o):lM X G E dl (s::sts) o:=
 zh (mJ h1 h2) fun D st H ⟨Hf,S,k⟩=>⟨Hf,S,fun ju aH H' s' S'=>⟨aH,S',k.mono s'⟩⟩
theorem aq (h1:ES X G E dl s o):lM X G E dl [s] o:=lJ h1
theorem va.stop {K:W.Frag}{D D':Ends}{Hf:Hp}(h:(∀ dl,o≠.nx dl)/\∀ R,o≠.raw R)(hr:D'.rt=D.rt)(hb:D'.bk=D.bk)(hc:D'.ct=D.ct)(k:va K G E D Hf o):va K G E D' Hf o:=by
 cases o with
 | nx dl=>exact absurd rfl (h.1 dl)
 | raw R=>exact absurd rfl (h.2 R)
 | rt d=>show ∀ v Hf H,_->_->D'.rt v H;rw[hr];exact k
 | ro d=>show ∀ v Hf H,_->_->_->_->D'.rt _ H;rw[hr];exact k
 | bk d=>show ∀ v Hf H,_->_->D'.bk v H;rw[hb];exact k
 | ct d=>show ∀ v Hf H,_->_->D'.ct v H;rw[hc];exact k
 | ex c fs=>exact k
theorem pk (h1:ES X G E dl s o)(h:(∀ dl,o≠.nx dl)/\(∀ R,o≠.raw R):=by exact⟨(fun _ z=>nomatch z),(fun _ z=>nomatch z)⟩):lM X G E dl (s::sts) o:=
 zh (mJ h1 (p8 (sts:=sts))) fun D st H ⟨Hf,S,k⟩=>⟨Hf,S,va.stop (D:=D) h rfl rfl rfl k⟩
theorem Cd (h1:lM X G E dl1 sts o)(l:Le dl1 dl):lM X G E dl sts o:=zh h1 fun D st H ⟨Hf,S,k⟩=>⟨Hf,S.weak l,k⟩
theorem cj (hc:EB X G dl c u)(h1:u=true->lM X G E dl sts o)(h2:u=false->lM X G E dl DH o):ES X G E dl (.If c sts DH pos) o:=by
 cases u with
 | true=>exact rb (LA hc (h1 rfl) (p8 (sts:=DH))) fun D st H ⟨Hf,S,k⟩=>⟨Hf,S,fun av H1 g1=>wX ⟨av,S.grow g1,k.mono g1.bh⟩⟩
 | false=>exact rb (LA hc (p8 (sts:=sts)) (h2 rfl)) fun D st H ⟨Hf,S,k⟩=>⟨Hf,S,fun av H1 g1=>wW ⟨av,S.grow g1,k.mono g1.bh⟩⟩
theorem aI (h:EE X G dl e d):ES X G E dl (.Return (some e) pos) (.rt d):=rb (AE h) fun D st H ⟨Hf,S,k⟩=>⟨Hf,S,fun v av H1 g1 r1=>k v av H1 (S.gr.trans g1) r1⟩
theorem pq (h:EE X G dl e d)(hs:swapsWith e none pos.line X.env=pure false:=by rfl):ES X G E dl (.Expr e pos) (.nx dl):=
 rb (kB h hs) fun D st H ⟨Hf,S,k⟩=>⟨Hf,S,fun v av H1 g1 r1=>k st av H1 g1.bh (S.grow g1)⟩
theorem ay (n:Nat){x:Str}{pos':Pos}(hN:X.N.Nodup)(he:EE X G dl e d)(hi:X.N[n]?=some x:=by rfl)(hx:Loc X.env.scope x:=by first | exact Or.inl rfl | exact Or.inr rfl)(hs:swapsWith e (some (.Name x pos')) pos.line X.env=pure false:=by rfl)(hf:X.fn x=true\/X.env.scope.names.lookup x=some .local:=by first | exact .inl rfl | exact .inr rfl | assumption):ES X G E dl (.Assign [.Name x pos'] e pos) (.nx (dl.set n (.val d))):=
 rb (AF hN hi hx he hs hf) fun D st H ⟨Hf,S,k⟩=>⟨Hf,S,fun v av H1 g1 r1=>k _ av H1 g1.bh ((S.grow g1).set r1)⟩
inductive oh (X:Cx)(G:Gr)(E:XK)(body:List Stmt)(S:Nat->List Slot)(pre:Nat->List Slot)(n m:Nat):Out->Prop
 | all (h:m=n):oh X G E body S pre n m (.nx (S n))
 | rt {d:Dt} (h:m < n) (hb:lM X G E (pre m) body (.rt d)):oh X G E body S pre n m (.rt d)
 | ro {d:Own} (h:m < n) (hb:lM X G E (pre m) body (.ro d)):oh X G E body S pre n m (.ro d)
 | bk {dl':List Slot} (h:m < n) (hb:lM X G E (pre m) body (.bk dl')):oh X G E body S pre n m (.nx dl')
 | ex {c:Value} {fs:List (Str×Dt)} (h:m < n) (hb:lM X G E (pre m) body (.ex c fs)):oh X G E body S pre n m (.ex c fs)
inductive Goes (X:Cx)(G:Gr)(E:XK)(body:List Stmt)(pre post:List Slot):Prop
 | nx {dl':List Slot} (hb:lM X G E pre body (.nx dl')) (l:Le post dl')
 | ct {dl':List Slot} (hb:lM X G E pre body (.ct dl')) (l:Le post dl')
def Fw (X:Cx)(G:Gr)(E:XK)(body:List Stmt):TS:=fun D st H=>∃ pre o,lM X G E pre body o/\tO X.K G E pre o D st H
theorem pv {body:List Stmt}:AD X body (Fw X G E body):=fun pins s st H D J ⟨pre,o,h,q⟩=>h pins s st H D J q
theorem ny {body:List Stmt}{pre post:List Slot}{D:Ends}{st:L2.St}{Hf H:Hp}(g:Goes X G E body pre post)(S:dk X.K G st Hf H pre)(hn:∀ st aH H,aF Hf aH->dk X.K G st aH H post->D.nx st H)(hc:∀ st aH H,aF Hf aH->dk X.K G st aH H post->D.ct st H):Fw X G E body D st H:=by
 cases g with
 | nx hb l=>exact⟨_,_,hb,Hf,S,fun ju aH H' s' S'=>hn ju aH H' s' (S'.weak l)⟩
 | ct hb l=>exact⟨_,_,hb,Hf,S,fun ju aH H' s' S'=>hc ju aH H' s' (S'.weak l)⟩
theorem ql {body:List Stmt}{S pre:Nat->List Slot}{n m:Nat}{D D':Ends}{st:L2.St}{Hf H:Hp}(e:oh X G E body S pre n m o)(hm:m < n)(S':dk X.K G st Hf H (pre m))(k:va X.K G E D Hf o)(hr:D'.rt=D.rt)(NF:D'.bk=D.nx):Fw X G E body D' st H:=by
 cases e with
 | all h=>omega
 | rt h hb=>exact⟨_,_,hb,Hf,S',by show ∀ v Hf H,_->_->D'.rt v H;rw[hr];exact k⟩
 | ro h hb=>exact⟨_,_,hb,Hf,S',by show ∀ v Hf H,_->_->_->_->D'.rt _ H;rw[hr];exact k⟩
 | bk h hb=>exact⟨_,_,hb,Hf,S',by show ∀ v Hf H,_->_->D'.bk v H;rw[NF];exact k⟩
 | ex h hb=>exact⟨_,_,hb,Hf,S',k⟩
theorem Fx (nN:Nat){x:Str}{px:Pos}{body:List Stmt}{lo:Int}{n m:Nat}(S:Nat->List Slot)(hN:X.N.Nodup)(pz:X.calm=true)(hp:PassesOwn (model X.prog X.w) X.A X.env X.xe){wi:TI}{iter:Expr}(hI:PI X (.Name x px) iter wi)(hw:∀ st Hf H R,dk X.K G st Hf H dl->(∀ aH H',bc Hf H aH H'->R (M3 lo n) H')->wi st H R)(h0:Le (S 0) dl)(TC:m<=n)(hb:∀ k,k < m->Goes X G E body ((S k).set nN (.val (.int (lo+k)))) (S (k+1)))(he:oh X G E body S (fun k=>(S k).set nN (.val (.int (lo+k)))) n m o)(hi:X.N[nN]?=some x:=by rfl)(hx:Loc X.env.scope x:=by first | exact Or.inl rfl | exact Or.inr rfl)(hf:X.fn x=true\/X.env.scope.names.lookup x=some .local:=by first | exact .inl rfl | exact .inr rfl | assumption)(hs:∀ x,foldedSetIterable iter X.env x=pure x:=by intro _;rfl):ES X G E dl (.For (.Name x px) iter body [] pos) o:=by
 refine rb (wL hp pz hI (bD hN hi hx hf) (pv (G:=G) (E:=E)) hs) fun D st H ⟨Hf,S0,k⟩=>hw st Hf H _ S0 fun aH H' g=>?_
 refine Dn (lo:=lo) (n:=n) (fun j st H=>j<=m/\∃ av,aF Hf av/\dk X.K G st av H (S j)) ⟨Nat.zero_le _,aH,g.bh,(S0.grow g).weak h0⟩ (fun j st H hj ⟨YV,av,s1,Sj⟩=>?_) (fun st H ⟨W8,av,s1,Sn⟩=>?_)
 . have Sp:dk X.K G (st.set nN (some (.int (lo+j)))) av H ((S j).set nN (.val (.int (lo+j)))):=Sj.set (.int _)
   by_cases cS:j < m
   . exact ny (hb j cS) Sp (fun st bW H s2 S'=>⟨cS,bW,s1.trans s2,S'⟩) (fun st bW H s2 S'=>⟨cS,bW,s1.trans s2,S'⟩)
   . have e:j=m:=by omega
     subst e
     exact ql he hj Sp (k.mono s1) rfl rfl
 . have e:m=n:=by omega
   subst e
   cases he with
   | all _=>exact k st av H s1 Sn
   | rt h _=>omega
   | ro h _=>omega
   | bk h _=>omega
   | ex h _=>omega
theorem j7 (nN:Nat){x:Str}{p px pc:Pos}{body:List Stmt}{n:Int}{m:Nat}(S:Nat->List Slot)(hN:X.N.Nodup)(pz:X.calm=true)(hp:PassesOwn (model X.prog X.w) X.A X.env X.xe)(NG:X.mg "range"=none)(ha:EA X G dl [a] [.int n])(hn:-(2 ^ 62)<=n/\n < 2 ^ 62)(h0:Le (S 0) dl)(TC:m<=n.toNat)(hb:∀ k:Nat,k < m->Goes X G E body ((S k).set nN (.val (.int k))) (S (k+1)))(he:oh X G E body S (fun k=>(S k).set nN (.val (.int k))) n.toNat m o)(hg:Gl X "range":=by rfl)(hi:X.N[nN]?=some x:=by rfl)(hx:Loc X.env.scope x:=by first | exact Or.inl rfl | exact Or.inr rfl)(hf:X.fn x=true\/X.env.scope.names.lookup x=some .local:=by first | exact .inl rfl | exact .inr rfl | assumption)(EH:starEach [a] X.env=[(false,eval a X.env)]:=by rfl)(hs:∀ z,foldedSetIterable (.Call (.Name "range" p) [a] [] pc) X.env z=pure z:=by intro _;rfl):ES X G E dl (.For (.Name x px) (.Call (.Name "range" p) [a] [] pc) body [] pos) o:=by
 have ez:∀ k:Nat,(0:Int)+k=k:=fun k=>Int.zero_add _
 have eS:(fun k:Nat=>(S k).set nN (.val (.int ((0:Int)+k))))=fun k:Nat=>(S k).set nN (.val (.int k)):=by funext k;rw[ez]
 refine Fx nN (lo:=0) (n:=n.toNat) (m:=m) S hN pz hp (p9 hg NG ha EH) (fun st Hf H R S0 h=>⟨Hf,S0,fun vs av H1 g1 r1=>?_⟩) h0 TC (fun k hk=>by rw[ez];exact hb k hk) (by rw[eS];exact he) hi hx hf hs
 cases r1 with
 | cons r t=>cases t;cases r;exact⟨n,rfl,hn.1,hn.2,h av H1 g1⟩
theorem Ce (nN:Nat){x:Str}{px:Pos}{iter:Expr}{body:List Stmt}{xs:List Dt}{m:Nat}(S:Nat->List Slot)(hN:X.N.Nodup)(pz:X.calm=true)(hp:PassesOwn (model X.prog X.w) X.A X.env X.xe)(hl:EE X G dl iter (.lst xs))(h0:Le (S 0) dl)(TC:m<=xs.length)(hb:∀ (k:Nat) (z:Dt),k < m->xs[k]?=some z->Goes X G E body ((S k).set nN (.val z)) (S (k+1)))(he:oh X G E body S (fun k=>(S k).set nN (.val (xs.getD k .cL))) xs.length m o)(hi:X.N[nN]?=some x:=by rfl)(hx:Loc X.env.scope x:=by first | exact Or.inl rfl | exact Or.inr rfl)(hf:X.fn x=true\/X.env.scope.names.lookup x=some .local:=by first | exact .inl rfl | exact .inr rfl | assumption)(hs:∀ z,foldedSetIterable iter X.env z=pure z:=by intro _;rfl):ES X G E dl (.For (.Name x px) iter body [] pos) o:=by
 refine rb (wL hp pz (kC hl) (bD hN hi hx hf) (pv (G:=G) (E:=E)) hs) fun D st H ⟨Hf,S0,k⟩=>⟨Hf,S0,fun v aH H' g r=>?_⟩
 cases r with
 | @lst a vs _ q r=>
   have hlen:=r.length
   refine⟨a,rfl,⟨vs,.of (g.sub _ _ q)⟩,yN (xs:=vs) (fun j st H=>j<=m/\∃ av,aF aH av/\dk X.K G st av H (S j)) ⟨Nat.zero_le _,aH,aF.refl _,(S0.grow g).weak h0⟩ ?_ ?_ ?_⟩
   . rintro j st H _ ⟨_,av,s1,Sj⟩
     exact .of (Sj.sub _ _ (s1 _ _ q))
   . rintro j v st H hv ⟨YV,av,s1,Sj⟩
     obtain⟨z,hz,rz⟩:=r.get' hv
     have hj:j < xs.length:=(List.getElem?_eq_some_iff.mp hz).1
     have Sp:dk X.K G (st.set nN (some v)) av H ((S j).set nN (.val z)):=Sj.set (rz.mono s1)
     by_cases cS:j < m
     . exact ny (hb j z cS hz) Sp (fun st bW H s2 S'=>⟨cS,bW,s1.trans s2,S'⟩) (fun st bW H s2 S'=>⟨cS,bW,s1.trans s2,S'⟩)
     . have e:j=m:=by omega
       subst e
       have ez:xs.getD j .cL=z:=by rw[List.getD_eq_getElem?_getD,hz];rfl
       exact ql he hj (by show dk _ _ _ _ _ ((S j).set nN (.val (xs.getD j .cL)));rw[ez];exact Sp) (k.mono (g.bh.trans s1)) rfl rfl
   . rintro st H ⟨W8,av,s1,Sn⟩
     have e:m=xs.length:=by omega
     subst e
     rw[hlen] at Sn
     cases he with
     | all _=>exact k st av H (g.bh.trans s1) Sn
     | rt h _=>omega
     | ro h _=>omega
     | bk h _=>omega
     | ex h _=>omega
inductive Res where
 | ret (d:Dt)
 | own (w:Own)
 | exc (c:Value) (fs:List (Str×Dt))
def Q3 (K:W.Frag)(Hf H:Hp)(Q:VK)(E:XK):Res->Prop
 | .ret d=>∀ v aH H',bc Hf H aH H'->Rep K aH v d->Q v H'
 | .own w=>∀ p aH H',bc Hf H aH H'->H p=none->aH p=none->gc K aH H' p w->Q (.ref p) H'
 | .exc c fs=>∀ od aH H',bc Hf H aH H'->ExcAt K aH od fs->E c od H'
def Cf (K:W.Frag)(n:Nat)(R:List Dt->Res->Prop):Sp:=fun vs H Q E=>∃ Hf ds r,aF Hf H/\bg K Hf vs ds/\ds.length=n/\R ds r/\Q3 K Hf H Q E r
def Ay (CX:qe):Prop:=∀ outer H s e s',CX outer H s E0 e s'->False
theorem aB:Ay W6:=fun _ _ _ _ _ h=>h
theorem Ay.passes {CX:qe}(n:Ay CX):Passes CX X E0:=fun _ _ _ _ _ _ _ h=>(n _ _ _ _ _ h).elim
def slots (N:List Str)(ds:List Dt):List Slot:=ds.map Slot.val ++ List.replicate (N.length - ds.length) .aO
theorem vU {K:W.Frag}{N:List Str}{Hf H:Hp}{vs:List V}{ds:List Dt}(s:aF Hf H)(r:bg K Hf vs ds):dk K ⟨Hf,H⟩ (start N vs) Hf H (slots N ds):=by
 have hl:=r.length
 have wH:∀ (i:Nat) o,(slots N ds)[i]?≠some (.own o):=fun i o h=>by
   unfold slots at h
   by_cases hi:i < ds.length
   . rw[List.getElem?_append_left (by simpa using hi),List.getElem?_map] at h
     cases e:ds[i]? with
     | none=>rw[e] at h;cases h
     | some a=>rw[e] at h;cases h
   . rw[List.getElem?_append_right (by simpa using hi),List.getElem?_replicate] at h
     split at h <;> cases h
 refine⟨.refl s,?_,fun i d h=>?_,fun i o h=>absurd h (wH i o),fun i j o o' a h=>absurd h (wH i o)⟩
 . unfold L2.start slots
   simp[hl]
 . unfold slots at h
   by_cases hi:i < ds.length
   . rw[List.getElem?_append_left (by simpa using hi),List.getElem?_map] at h
     cases e:ds[i]? with
     | none=>rw[e] at h;cases h
     | some a=>
       rw[e] at h;cases h
       obtain⟨v,h1,h2⟩:=r.get e
       refine⟨v,?_,h2⟩
       unfold L2.start
       rw[List.getElem?_append_left (by simp;omega),List.getElem?_map,h1];rfl
   . rw[List.getElem?_append_right (by simpa using hi),List.getElem?_replicate] at h
     split at h <;> cases h
inductive Comes:Out->Res->Prop
 | rt (d:Dt):Comes (.rt d) (.ret d)
 | ro (d:Own):Comes (.ro d) (.own d)
 | nx (dl:List Slot):Comes (.nx dl) (.ret .cL)
 | kn {dl:List Slot} {d:Dt} (h:∀ K G st Hf H,dk K G st Hf H dl->Rep K Hf .cL d):Comes (.nx dl) (.ret d)
 | ex (c:Value) (fs:List (Str×Dt)):Comes (.ex c fs) (.exc c fs)
theorem Comes.ends {K:W.Frag}{Hf H:Hp}{Q:VK}{o:Out}{r:Res}(h:Comes o r)(k:Q3 K Hf H Q E r):va K ⟨Hf,H⟩ E { nx:=fun _ H'=>Q .cL H',rt:=Q} Hf o:=by
 cases h with
 | rt d=>exact k
 | ro d=>exact k
 | nx dl=>exact fun st aH H' s' S=>k _ aH H' S.gr .cL
 | kn h=>exact fun st aH H' s' S=>k _ aH H' S.gr (h _ _ _ _ _ S)
 | ex c fs=>exact k
theorem i6 {P:Program}{w:World}{K:W.Frag}{mg:Str->Option Value}{base:Heap}{CX:qe}{x qual:Str}{st:Stmt}{f:Addr}{fd:FuncData}{N ps:List Str}{k n:Nat}{R:List Dt->Res->Prop}(F:PY K x qual st f fd)(S:ar N ps (af st))(hn:ps.length=n)(o4:∀ (bA:Value) (A:Around) (outer:List Env) (s:Shared) (H:Hp) (E:XK) (G:Gr) (ds:List Dt) (r:Res),dU k (A.deeper (envOfC qual (af st) s.heap.objs.size f bA))->ds.length=n->R ds r->∃ o,Comes o r/\lM (yS CX P w K mg base N qual (af st) f bA A outer s H E) G E (slots N ds) (aE st) o):i3 P w K mg base CX (k+1) f fd ps (Cf K n R):=by
 obtain⟨oc,od,kV,doc,pm,an,bA,ct,vP,rfl,lk,k7⟩:=F.ex
 refine Ff lk k7 S (fun vs H Q E ⟨Hf,ds,r,s,rp,hl,_⟩=>by rw[rp.length,hl,hn]) fun A outer s H vs Q E hr ⟨Hf,ds,r,sm,rp,hl,hR,hk⟩=>?_
 obtain⟨o,hc,hb⟩:=o4 bA A outer s H E ⟨Hf,H⟩ ds r hr hl hR
 exact⟨_,hb,Hf,vU sm rp,hc.ends hk⟩
section
variable {CX:qe}{k n:Nat}{f C:Addr}{fd:FuncData}{ps:List Str}{R:List Dt->Res->Prop}{m:Str}{p apos:Pos}{ob:Expr}{dvs:List Dt}{vds:List V}{DI:List Value}{fs:List (Str×Dt)}
theorem JH (F:i3 X.prog X.w X.K X.mg X.base CX k f fd ps (Cf X.K n R))(nx:Ay CX)(hr:dU k X.A)(hm:X.mg x=some (.ref f))(hk:W.keepIn X.K (.ref f)=true)(hb:Binds X.K fd ps DI)(hd:Vals vds DI)(A2:∀ H,bg X.K H vds dvs)(ha:EA X G dl (e::es) ds)(hl:(ds ++ dvs).length=n)(h:R (ds ++ dvs) (.ret d))(hg:Gl X x:=by rfl)(lG:(x == ("__debug__":Str))=false:=by decide)(he:starEach (e::es) X.env=(false,eval e X.env)::starEach es X.env:=by rfl)(mC:(backTo pos (starEach es X.env)).any (·.1)=false:=by rfl):EE X G dl (.Call (.Name x p) (e::es) [] pos) d:=
 gd (B1 (E:=E0) F hr hg hm hk hb hd nx.passes ha lG he mC) fun st H Q ⟨Hf,S,k⟩=>⟨Hf,S,fun vs av H1 g1 r1=>⟨av,ds ++ dvs,.ret d,g1.sub,r1.append (A2 _),hl,h,fun v bW H2 g2 r2=>k v bW H2 (g1.trans g2) r2⟩⟩
theorem Cg {pl:Sem Bool}(he:EE X G dl ob (.obj C fs))(c:rV X.K C)(hm:Meth X.K C m f)(F:i3 X.prog X.w X.K X.mg X.base CX k f fd ps (Cf X.K n R))(nx:Ay CX)(hr:dU k X.A)(hb:Binds X.K fd ps DI)(hd:Vals vds DI)(A2:∀ H,bg X.K H vds dvs)
   (ha:EA X G dl (e::es) ds) (hl:(.obj C fs::(ds ++ dvs)).length=n) (h:R (.obj C fs::(ds ++ dvs)) (.ret d)) (qS:fs.lookup m=none)
   (mB:starEach (e::es) X.env=(false,eval e X.env)::starEach es X.env:=by rfl) (mC:(backTo pos (starEach es X.env)).any (·.1)=false:=by rfl)
   (ht:eval (.Call (.Attribute ob m apos) (e::es) [] pos) X.env=(do
     let ov <- eval ob X.env
     standAt apos.atName
     let (f,first) <- holding [ov] (getMethod ov m pl)
     callWith pos f first (backTo pos (starEach (e::es) X.env)) (backToKw pos (keywordEach [] X.env))):=by rfl):EE X G dl (.Call (.Attribute ob m apos) (e::es) [] pos) d:=
 gd (B2 (pl:=pl) (E:=E0) he c hm F hr hb hd nx.passes ha mB mC ht) fun st H Q ⟨Hf,S,k⟩=>⟨Hf,S,fun v av H1 g1 r1=>by
   cases r1 with
   | @obj a _ dx fv _ q r=>
     exact⟨a,dx,fv,rfl,fD g1.sub q,r.none_of qS,av,S.grow g1,fun vs bW H2 g2 r2=>⟨bW,_,.ret d,g2.sub,.cons (.obj (fD g2.bh q) (r.mono g2.bh)) (r2.append (A2 _)),hl,h,fun v iu H3 g3 r3=>k v iu H3 ((g1.trans g2).trans g3) r3⟩⟩⟩
theorem zj {pl:Sem Bool}(he:EE X G dl ob (.obj C fs))(c:rV X.K C)(hm:Meth X.K C m f)(F:i3 X.prog X.w X.K X.mg X.base CX k f fd ps (Cf X.K n R))(nx:Ay CX)(hr:dU k X.A)(hb:Binds X.K fd ps DI)(hd:Vals vds DI)(A2:∀ H,bg X.K H vds dvs)
   (hl:(Dt.obj C fs::dvs).length=n) (h:R (.obj C fs::dvs) (.ret d)) (qS:fs.lookup m=none)
   (ht:eval (.Call (.Attribute ob m apos) [] [] pos) X.env=(do
     let ov <- eval ob X.env
     standAt apos.atName
     let (f,first) <- holding [ov] (getMethod ov m pl)
     callWith pos f first (backTo pos (starEach [] X.env)) (backToKw pos (keywordEach [] X.env))):=by rfl):EE X G dl (.Call (.Attribute ob m apos) [] [] pos) d:=
 gd (yR (pl:=pl) (E:=E0) he c hm F hr hb hd nx.passes ht) fun st H Q ⟨Hf,S,k⟩=>⟨Hf,S,fun v av H1 g1 r1=>by
   cases r1 with
   | @obj a _ dx fv _ q r=>
     exact⟨a,dx,fv,rfl,fD g1.sub q,r.none_of qS,av,_,.ret d,g1.sub,.cons (.obj q r) (A2 _),hl,h,fun v iu H3 g3 r3=>k v iu H3 (g1.trans g3) r3⟩⟩
end
end
section
variable {X:Cx}{G:Gr}{dl:List Slot}{a b c e:Expr}{i j:Int}{d d1 d2:Dt}{ds:List Dt}{pos p:Pos}{o:Out}{x y f:Str}{v:Bool}{s:Stmt}{C:Addr}{fs:List (Str×Dt)}
theorem LM {T:String}(hm:X.mg x=none)(hv:bootBuiltins x=some (.type T))(hg:Gl X x:=by rfl)(hn:x≠"__name__":=by decide)(hd:(x == ("__debug__":Str))=false:=by decide):EE X G dl (.Name x pos) (.ty T):=
 gd (Jg (v:=.ty T) hg hm hv rfl hn hd) fun st H Q ⟨Hf,S,k⟩=>k _ Hf H (.refl S.sub) (.ty T)
theorem kG {w:V}{z:Value}(hm:X.mg x=some z)(r:RelV w z)(hr:∀ H,Rep X.K H w d)(hg:Gl X x:=by rfl)(hd:(x == ("__debug__":Str))=false:=by decide):EE X G dl (.Name x pos) d:=
 gd (Jf hg hm r hd) fun st H Q ⟨Hf,S,k⟩=>k _ Hf H (.refl S.sub) (hr _)
theorem boot_int:bootBuiltins "int"=some (.type "int"):=by decide +kernel
theorem boot_bool:bootBuiltins "bool"=some (.type "bool"):=by decide +kernel
theorem boot_list:bootBuiltins "list"=some (.type "list"):=by decide +kernel
theorem boot_dict:bootBuiltins "dict"=some (.type "dict"):=by decide +kernel
structure NH (K:W.Frag)(C:Addr):Prop where
 makes:W.makesIn K C=true
 init:W.findIn K (.ref C) "__init__"=some (some (.builtin "object.__init__"))
 kp:W.keepIn K (.ref C)=true
theorem DJ {pins:List (Addr×Obj)}{st:L2.St}{H:Hp}{s:Shared}{Q:VK}(M:NH X.K C)(I:L2.Inv X pins st H s)(h:∀ x dx,H x=none->H dx=none->dx≠x->Q (.ref x) (upd (upd H dx (.own x)) x (.ins C dx []))):wpAny (model X.prog X.w) X.A (call (.ref C) []) (EP X pins st Q) X.xe s:=by
 have hq:=h (s.heap.objs.size+1) s.heap.objs.size (I.aZ.fresh (Nat.le_succ _)) (I.aZ.fresh (Nat.le_refl _)) (Nat.ne_of_lt (Nat.lt_succ_self _))
 have I2:=L2.Inv.made (C:=C) I
 refine wpAny_call (Ds (s:=s) I.lH M.makes M.init (fun self=>W.Looks.of_pure (W.oi_bind self)) ?_)
 obtain⟨hh,g,d,t,os⟩:=s
 have Y:=W.makes_of (M:=model X.prog X.w) I.lH M.makes
 have t1:W.Looks (model X.prog X.w) ((hh.push W.emptyDict).push (W.instObj C hh.objs.size)) (typeOf (.ref (hh.objs.size+1))) (.ref C):=by
   have e2:=Heap.get?_push_size (hh.push W.emptyDict) (o:=W.instObj C hh.objs.size) rfl
   rw[Heap.size_push] at e2
   exact(W.Looks.ld e2).andThen .now
 have t2:W.Looks (model X.prog X.w) ((hh.push W.emptyDict).push (W.instObj C hh.objs.size)) (isInstance (.ref (hh.objs.size+1)) (.type "object")) true:=t1.andThen (Y.top.keeps fun b o e=>Heap.get?_push_of_some _ (Heap.get?_push_of_some _ e))
 refine codeAny_call_builtin W.oi_plain W.entry_oi (@W.check_slot (model X.prog X.w) _ _ _ "object.__init__" "object" "__init__" (.ref (hh.objs.size+1)) [] [] _ W.oi_kind W.oi_split t2 (W.oi_args (.ref (hh.objs.size+1))) ?_)
 rw[W.oi_run]
 exact wpAny_pure (And.intro rfl ⟨V.ref (hh.objs.size+1),_,I2,rfl,hq⟩)
theorem aG (he:EE X G dl e (.obj C fs))(c:rV X.K C)(n:bu X.K C f)(h:fs.lookup f=some d)(hb:attributeBase e f X.env (eval e X.env)=eval e X.env:=by rfl):EE X G dl (.Attribute e f pos) d:=
 gd (sY he hb) fun st H Q ⟨Hf,S,k⟩=>⟨Hf,S,fun v av H1 g1 r1=>by
   cases r1 with
   | @obj a _ dx fv _ q r=>
     obtain⟨y,h1,h2⟩:=r.lookup h
     exact⟨a,C,dx,fv,y,rfl,fD g1.sub q,c,n,h1,k y av H1 g1 h2⟩⟩
theorem Ci (hm:X.mg "len"=none)(ha:EE X G dl a (.lst ds))(hg:Gl X "len":=by rfl)(he:starEach [a] X.env=[(false,eval a X.env)]:=by rfl):EE X G dl (.Call (.Name "len" p) [a] [] pos) (.int ds.length):=
 gd (fk o8 hg hm PySem.boot_len (ae ha aj he) (he:=he)) fun st H Q ⟨Hf,S,k⟩=>⟨Hf,S,fun vs av H1 g1 r1=>by
   cases r1 with
   | cons r t=>cases t;cases r with
     | @lst q vs _ z w=>exact⟨q,vs,rfl,.inl (.of (g1.sub _ _ z)),by rw[w.length];exact k _ av H1 g1 (.int _)⟩⟩
theorem rX {ns:List Int}(hm:X.mg "len"=none)(ha:EE X G dl a (.nv ns))(hg:Gl X "len":=by rfl)(he:starEach [a] X.env=[(false,eval a X.env)]:=by rfl):EE X G dl (.Call (.Name "len" p) [a] [] pos) (.int ns.length):=
 gd (fk o8 hg hm PySem.boot_len (ae ha aj he) (he:=he)) fun st H Q ⟨Hf,S,k⟩=>⟨Hf,S,fun vs av H1 g1 r1=>by
   cases r1 with
   | cons r t=>cases t;cases r with
     | @nv q _ z=>exact⟨q,_,rfl,.inl (g1.sub.seq z),by rw[List.length_map];exact k _ av H1 g1 (.int _)⟩⟩
theorem w6 (hm:X.mg "len"=none)(ha:EE X G dl a (.str x))(hl:x.length<=sizeLine)(hg:Gl X "len":=by rfl)(he:starEach [a] X.env=[(false,eval a X.env)]:=by rfl):EE X G dl (.Call (.Name "len" p) [a] [] pos) (.int x.length):=
 gd (fk wR hg hm PySem.boot_len (ae ha aj he) (he:=he)) fun st H Q ⟨Hf,S,k⟩=>⟨Hf,S,fun vs av H1 g1 r1=>by
   cases r1 with
   | cons r t=>cases t;cases r;exact⟨x,rfl,hl,k _ av H1 g1 (.int _)⟩⟩
def U3:Dt->Value
 | .cL=>.type "NoneType"
 | .bl _=>.type "bool"
 | .int _=>.type "int"
 | .str _=>.type "str"
 | .tup _=>.type "tuple"
 | .lst _=>.type "list"
 | .nv _=>.type "list"
 | .d0 _=>.type "dict"
 | .obj C _=>.ref C
 | .ty _=>.type "type"
 | .cls _=>.type "type"
 | .xo C=>.ref C
 | .qh _=>.type "dict"
 | .Cc C _=>.ref C
 | .dW _=>.type "dict"
 | .memo _ _ _ _=>.type "list"
 | .dY _ _ _ _=>.type "list"
 | .u0 _ _ _=>.type "NoneType"
 | .u9 C _ _ _ _=>.ref C
 | _=>.type "object"
structure TF (K:W.Frag)(C:Addr):Prop where
 cl:rV K C
 ha:W.findIn K (.ref C) "__class__"=some (some (.builtin "object.__class__"))
 hn:W.specialIn K (.builtin "object.__class__") "__get__"=some (some (.builtin "getset_descriptor.__get__"))
 Nb:W.takesIn K (.builtin "object.__class__")=some true
 hm:W.mroIn K C (.type "object")=some true
def NI (K:W.Frag):Dt->Prop
 | .obj C _=>TF K C
 | .xo C=>PZ K C
 | .Cc C _=>PZ K C
 | .memo _ _ _ _=>False
 | .dY _ _ _ _=>False
 | .u0 _ _ _=>False
 | .u9 C _ _ _ _=>TF K C
 | .gU _=>False
 | .lb _=>False
 | .ty _=>False
 | .cls _=>False
 | _=>True
def Q4:Dt->Option Value
 | .ty n=>some (.type n)
 | .cls C=>some (.ref C)
 | _=>none
theorem Fy {pins:List (Addr×Obj)}{st:L2.St}{Hf H:Hp}{s:Shared}{Q:Value->Shared->Prop}{w:V}{z c:Value}{r:Bool}(I:L2.Inv X pins st H s)(sm:aF Hf H)(rp:Rep X.K Hf w d)(rx:RelV w z)(t:NI X.K d)(e:W.kitOne X.K (U3 d) c=some r)(h:∀ tk,Q (.bool r) { s with toks:=tk}):wpAny (model X.prog X.w) X.A (call (.builtin "isinstance") [z,c]) Q X.xe s:=by
 cases rp with
 | cL=>cases (show z=Value.none from rx);exact W.kia_one W.kitx_none I.lH True.intro e (fun z=>nomatch z) h
 | bl y=>cases (show z=Value.bool y from rx);exact W.kia_one W.kitx_bool I.lH True.intro e (fun z=>nomatch z) h
 | int i=>obtain⟨t,q⟩:=(show ∃ t,z=Value.int i t from rx);cases q;exact W.kia_one W.kitx_int I.lH True.intro e (fun z=>nomatch z) h
 | str y=>obtain⟨t,q⟩:=(show ∃ t,z=Value.str y t from rx);cases q;exact W.kia_one W.kitx_str I.lH True.intro e (fun z=>nomatch z) h
 | @tup a vs ds q rr=>
   cases (show z=Value.ref a from rx)
   obtain⟨aD,_,⟨o,h1,h2,_⟩,_⟩:=I.tuple (fm sm q)
   exact W.kia_one W.kitx_tuple I.lH ⟨o,h1,h2⟩ e (fun z=>nomatch z) h
 | @lst a vs ds q rr=>
   cases (show z=Value.ref a from rx)
   obtain⟨aD,_,⟨o,n,h1,h2,_⟩,_⟩:=I.list (.of (sm _ _ q))
   exact W.kia_one W.kitx_list I.lH ⟨o,h1,h2⟩ e (fun z=>nomatch z) h
 | @nv a ns q=>
   cases (show z=Value.ref a from rx)
   obtain⟨aD,_,⟨o,n,h1,h2,_⟩,_⟩:=I.list (sm.seq q)
   exact W.kia_one W.kitx_list I.lH ⟨o,h1,h2⟩ e (fun z=>nomatch z) h
 | @d0 a kvs kds q rr=>
   cases (show z=Value.ref a from rx)
   exact qd (x:=.ref a) I rfl (.dK (sm _ _ q)) e h
 | @obj a C dx fv fs q rr=>
   cases (show z=Value.ref a from rx)
   have t:TF X.K C:=t
   exact qd (x:=.ref a) I rfl (.ins (fD sm q) t.cl t.ha t.hn t.Nb t.hm) e h
 | ty n=>exact t.elim
 | cls C=>exact t.elim
 | @xo a C ph q hp=>
   cases (show z=Value.ref a from rx)
   have t:PZ X.K C:=t
   have ok:aJ X.prog X.w H s.heap a (.ext ph):=I.aZ a _ (sm _ _ q)
   exact W.kia_one (zf t) I.lH (hp _ ok.1) e (fun z=>nomatch z) h
 | @qh a ob kvs kds q rr=>
   cases (show z=Value.ref a from rx)
   obtain⟨_,_,vs,_,D⟩:=qQ (kvs:=kvs) I.aZ (.inr (.inl ⟨ob,sm _ _ q⟩))
   exact W.kia_one W.kitx_dict I.lH D.typeIs e (fun z=>nomatch z) h
 | @Cc a C dx ph fv fs q hp g rr=>
   cases (show z=Value.ref a from rx)
   have t:PZ X.K C:=t
   have ok:aJ X.prog X.w H s.heap a (.ext ph):=I.aZ a _ (sm _ _ q)
   exact W.kia_one (zf t) I.lH (hp _ ok.1).of e (fun z=>nomatch z) h
 | @dW a tg ob kvs kds q rr=>
   cases (show z=Value.ref a from rx)
   obtain⟨_,_,vs,_,D⟩:=qQ (kvs:=kvs) I.aZ (.inr (.inr (.inl ⟨tg,ob,kvs,sm _ _ q,rfl⟩)))
   exact W.kia_one W.kitx_dict I.lH D.typeIs e (fun z=>nomatch z) h
 | memo=>exact t.elim
 | dY=>exact t.elim
 | gU=>exact t.elim
 | lb=>exact t.elim
 | u0=>exact t.elim
 | @u9 a _ C dx fv fs gs nm n ls _ q rr=>
   cases (show z=Value.ref a from rx)
   have t:TF X.K C:=t
   exact qd (x:=.ref a) I rfl (.ins (fD sm q) t.cl t.ha t.hn t.Nb t.hm) e h
theorem boot_isinstance:bootBuiltins "isinstance"=some (.builtin "isinstance"):=by decide +kernel
def U4 (K:W.Frag)(d d2:Dt)(r:Bool):List V->Hp->VK->Prop:=fun xs H Q=>∃ Hf w c,xs=[w,c]/\aF Hf H/\Rep K Hf w d/\Rep K Hf c d2/\Q (.bl r) H
theorem FA {r:Bool}{z:Value}(hc:Q4 d2=some z)(t:NI X.K d)(h:W.kitOne X.K (U3 d) z=some r):jv X (.builtin "isinstance") (U4 X.K d d2 r):=by
 intro pins s st H xs us Q I rv ⟨Hf,w,c,e,sm,r1,r2,q⟩
 subst e
 cases rv with
 | cons q1 t1=>
   cases t1 with
   | cons q2 t2=>
     cases t2
     rename_i ud uc
     have ez:uc=z:=by
       cases r2 with
       | ty n=>cases hc;exact q2
       | cls C=>cases hc;exact q2
       | _=>cases hc
     subst ez
     exact Fy I sm r1 q1 t h fun tk=>⟨.bl r,H,I.tok _,rfl,q⟩
theorem FC {r:Bool}{z:Value}(hm:X.mg "isinstance"=none)(ha:EE X G dl a d)(hb:EE X G dl b d2)(hc:Q4 d2=some z)(t:NI X.K d)(h:W.kitOne X.K (U3 d) z=some r)(hg:Gl X "isinstance":=by rfl)(he:starEach [a,b] X.env=(false,eval a X.env)::starEach [b] X.env:=by rfl)(NJ:starEach [b] X.env=[(false,eval b X.env)]:=by rfl)(mC:(backTo pos (starEach [b] X.env)).any (·.1)=false:=by rfl):EE X G dl (.Call (.Name "isinstance" p) [a,b] [] pos) (.bl r):=
 gd (fk (FA hc t h) hg hm boot_isinstance (ae ha (ae hb aj NJ) he) (by decide) (by decide) he mC) fun st H Q ⟨Hf,S,k⟩=>⟨Hf,S,fun vs av H1 g1 r1=>by
   cases r1 with
   | cons r1 t1=>cases t1 with
     | cons r2 t2=>cases t2;exact⟨av,_,_,rfl,g1.sub,r1,r2,k _ av H1 g1 (.bl _)⟩⟩
mutual
def pd:Dt->PyData
 | .cL=>.none
 | .bl b=>.bool b
 | .int i=>.int i
 | .str x=>.str x
 | .tup ds=>.tuple (U5 ds)
 | .lst ds=>.list (U5 ds)
 | .nv _=>.none
 | .d0 _=>.none
 | .obj _ _=>.none
 | .ty _=>.none
 | .cls _=>.none
 | .xo _=>.none
 | .qh _=>.none
 | .Cc _ _=>.none
 | .dW _=>.none
 | .memo _ _ _ _=>.none
 | .dY _ _ _ _=>.none
 | .u0 _ _ _=>.none
 | .u9 _ _ _ _ _=>.none
 | .gU _=>.none
 | .lb _=>.none
def U5:List Dt->List PyData
 | []=>[]
 | d::r=>pd d::U5 r
end
mutual
def plain:Dt->Bool
 | .tup ds=>A3 ds
 | .lst ds=>A3 ds
 | .nv _=>false
 | .d0 _=>false
 | .obj _ _=>false
 | .ty _=>false
 | .cls _=>false
 | .xo _=>false
 | .qh _=>false
 | .Cc _ _=>false
 | .dW _=>false
 | .memo _ _ _ _=>false
 | .dY _ _ _ _=>false
 | .u0 _ _ _=>false
 | .u9 _ _ _ _ _=>false
 | .gU _=>false
 | .lb _=>false
 | .cL=>true
 | .bl _=>true
 | .int _=>true
 | .str _=>true
def A3:List Dt->Bool
 | []=>true
 | d::r=>plain d && A3 r
end
theorem tL (ha:EE X G dl a (.int i))(hb:EE X G dl b (.int j)):EB X G dl (.Compare a [.Lt] [b] pos) (decide (i < j)):=lN Qz (og (g':=fun i j=>.bl (decide (i < j))) fun _ _ _ _=>.bl _) (mK _) ha hb
theorem pA (ha:EE X G dl a (.int i))(hb:EE X G dl b (.int j)):EB X G dl (.Compare a [.LtE] [b] pos) (decide (i<=j)):=lN yO (og (g':=fun i j=>.bl (decide (i<=j))) fun _ _ _ _=>.bl _) (mK _) ha hb
theorem zk (ha:EE X G dl a (.int i))(hb:EE X G dl b (.int j)):EB X G dl (.Compare a [.Gt] [b] pos) (decide (j < i)):=lN QA (og (g':=fun i j=>.bl (decide (j < i))) fun _ _ _ _=>.bl _) (mK _) ha hb
theorem FE (ha:EE X G dl a (.int i))(hb:EE X G dl b (.int j)):EB X G dl (.Compare a [.GtE] [b] pos) (decide (j<=i)):=lN QB (og (g':=fun i j=>.bl (decide (j<=i))) fun _ _ _ _=>.bl _) (mK _) ha hb
theorem xa {K:W.Frag}{w1 w2:V}{g:Bool->Bool}(h1:∀ H w,Rep K H w d1->w=w1)(h2:∀ H w,Rep K H w d2->w=w2)(hs:Jm w1 w2=true):AZ K (fun x y H Q=>Jm x y=true/\Q (.bl (g (decide (x=y)))) H) d1 d2 (.bl (g (decide (w1=w2)))):=fun v w Hf H Q s r1 r2 k=>by
 cases h1 _ _ r1;cases h2 _ _ r2;exact⟨hs,k _ Hf H (.refl s) (.bl _)⟩
theorem ni (i j:Int):decide (V.int i=V.int j)=decide (i=j):=by simp
theorem rS (i j:Str):decide (V.str i=V.str j)=decide (i=j):=by simp
theorem A4 (ha:EE X G dl a (.int i))(hb:EE X G dl b (.int j)):EE X G dl (.Compare a [.Eq] [b] pos) (.bl (decide (i=j))):=by
 rw[<- ni];exact A0 E7 (xa (g:=id) (fun _ _ r=>by cases r;rfl) (fun _ _ r=>by cases r;rfl) rfl) (mK _) ha hb
theorem lO (ha:EE X G dl a (.int i))(hb:EE X G dl b (.int j)):EB X G dl (.Compare a [.Eq] [b] pos) (decide (i=j)):=by
 rw[<- ni];exact lN E7 (xa (g:=id) (fun _ _ r=>by cases r;rfl) (fun _ _ r=>by cases r;rfl) rfl) (mK _) ha hb
theorem NK (ha:EE X G dl a (.int i))(hb:EE X G dl b (.int j)):EB X G dl (.Compare a [.NotEq] [b] pos) (!decide (i=j)):=by
 rw[<- ni];exact lN Qy (xa (g:=(!·)) (fun _ _ r=>by cases r;rfl) (fun _ _ r=>by cases r;rfl) rfl) (mK _) ha hb
theorem oH (ha:EE X G dl a (.str x))(hb:EE X G dl b (.str y)):EB X G dl (.Compare a [.Eq] [b] pos) (decide (x=y)):=by
 rw[<- rS];exact lN E7 (xa (g:=id) (fun _ _ r=>by cases r;rfl) (fun _ _ r=>by cases r;rfl) rfl) (mK _) ha hb
end
structure GF (P:Program)(w:World)(K:W.Frag)(mg:Str->Option Value)(base:Heap)(CX:qe)(k:Nat)(x:Str)(n:Nat)(R:List Dt->Res->Prop):Prop where
 ex:∃ f fd ps,i3 P w K mg base CX k f fd ps (Cf K n R)/\mg x=some (.ref f)/\W.keepIn K (.ref f)=true/\Binds K fd ps []
structure MF (P:Program)(w:World)(K:W.Frag)(mg:Str->Option Value)(base:Heap)(CX:qe)(k:Nat)(C:Addr)(m:Str)(n:Nat)(R:List Dt->Res->Prop):Prop where
 cl:rV K C
 ex:∃ f fd ps,i3 P w K mg base CX k f fd ps (Cf K n R)/\Meth K C m f/\Binds K fd ps []
section
variable {X:Cx}{G:Gr}{dl:List Slot}{e:Expr}{es:List Expr}{d:Dt}{ds:List Dt}{pos p apos:Pos}{x m:Str}{C:Addr}{fs:List (Str×Dt)}{CX:qe}{k k' n:Nat}{R:List Dt->Res->Prop}{ob:Expr}
theorem bU (F:GF X.prog X.w X.K X.mg X.base CX k x n R)(nx:Ay CX)(hr:dU k' X.A)(ha:EA X G dl (e::es) ds)(h:R ds (.ret d))(xb:k<=k':=by decide)(hl:ds.length=n:=by rfl)(hg:Gl X x:=by rfl)(lG:(x == ("__debug__":Str))=false:=by decide)(he:starEach (e::es) X.env=(false,eval e X.env)::starEach es X.env:=by rfl)(mC:(backTo pos (starEach es X.env)).any (·.1)=false:=by rfl):EE X G dl (.Call (.Name x p) (e::es) [] pos) d:=by
 obtain⟨f,fd,ps,F,hm,hk,hb⟩:=F.ex
 refine JH (dvs:=[]) (vds:=[]) F nx (hr.mono xb) hm hk hb .nil (fun _=>.nil) ha (by rw[List.append_nil];exact hl) (by rw[List.append_nil];exact h) hg lG he mC
theorem bE {pl:Sem Bool}(he:EE X G dl ob (.obj C fs))(F:MF X.prog X.w X.K X.mg X.base CX k C m n R)(nx:Ay CX)(hr:dU k' X.A)(ha:EA X G dl (e::es) ds)(h:R (.obj C fs::ds) (.ret d))(xb:k<=k':=by decide)(hl:(Dt.obj C fs::ds).length=n:=by rfl)(qS:fs.lookup m=none:=by rfl)
   (mB:starEach (e::es) X.env=(false,eval e X.env)::starEach es X.env:=by rfl) (mC:(backTo pos (starEach es X.env)).any (·.1)=false:=by rfl)
   (ht:eval (.Call (.Attribute ob m apos) (e::es) [] pos) X.env=(do
     let ov <- eval ob X.env
     standAt apos.atName
     let (f,first) <- holding [ov] (getMethod ov m pl)
     callWith pos f first (backTo pos (starEach (e::es) X.env)) (backToKw pos (keywordEach [] X.env))):=by rfl):EE X G dl (.Call (.Attribute ob m apos) (e::es) [] pos) d:=by
 obtain⟨f,fd,ps,Fo,hm,hb⟩:=F.ex
 refine Cg (dvs:=[]) (vds:=[]) (pl:=pl) he F.cl hm Fo nx (hr.mono xb) hb .nil (fun _=>.nil) ha (by rw[List.append_nil];exact hl) (by rw[List.append_nil];exact h) qS mB mC ht
theorem dA {pl:Sem Bool}(he:EE X G dl ob (.obj C fs))(F:MF X.prog X.w X.K X.mg X.base CX k C m n R)(nx:Ay CX)(hr:dU k' X.A)(h:R [.obj C fs] (.ret d))(xb:k<=k':=by decide)(hl:[Dt.obj C fs].length=n:=by rfl)(qS:fs.lookup m=none:=by rfl)
   (ht:eval (.Call (.Attribute ob m apos) [] [] pos) X.env=(do
     let ov <- eval ob X.env
     standAt apos.atName
     let (f,first) <- holding [ov] (getMethod ov m pl)
     callWith pos f first (backTo pos (starEach [] X.env)) (backToKw pos (keywordEach [] X.env))):=by rfl):EE X G dl (.Call (.Attribute ob m apos) [] [] pos) d:=by
 obtain⟨f,fd,ps,Fo,hm,hb⟩:=F.ex
 refine zj (dvs:=[]) (vds:=[]) (pl:=pl) he F.cl hm Fo nx (hr.mono xb) hb .nil (fun _=>.nil) hl h qS ht
end
def W9:List Value:=[.type "ValueError",.type "Exception",.type "BaseException",.type "object"]
structure ExC (K:W.Frag)(C:Addr):Prop where
 ex:W.excIn K C W9 "ValueError.__new__"=true
def vc:Value->Shared->Prop:=fun _ _=>False
theorem JI {P:Program}{w:World}{A:Around}{R:Result->Shared->Prop}{s:Shared}{elt tg iter:Expr}{sc:Scope}{pos:Pos}{it acc:Value}{env:Env}(J:Nat->Shared->Prop)
   (turn:∀ n s,J n s->wpAny (model P w) A (pyNext it) (fun r s1=>match r with
     | none=>R (.ok .next) s1
     | some v=>wpAny (model P w) A (letOwnedTupleGo tg it v) (fun _ s2=>wpAny (model P w) A (assign tg env v) (fun _ s3=>wpAny (model P w) A (eval elt env) (fun x s4=>
         wpAny (model P w) A (call (.builtin "list.append") [acc,x]) (fun _ s5=>∃ m,m < n/\J m s5) vc s4) vc s3) vc s2) vc s1) vc s)
   (n:Nat) (h:J n s):codeAny (model P w) A (.compLoop (.ListComp elt [⟨tg,iter,[],0⟩] sc pos) 0 it acc env) R s:=by
 have off:∀ {B:Value->Shared->Prop} (x:Value) (s':Shared),vc x s'->B x s':=fun _ _ z=>z.elim
 refine codeAny_loop rfl J (fun n s hJ=>?_) n h
 show wpAny _ A ((compTurn (.ListComp elt [⟨tg,iter,[],0⟩] sc pos) 0 it acc env).onRaise (fun x=>(do noteFrame x env;theTreesLotGoes x))) _ _ s
 refine wpAny_noted ?_
 rw[compTurn_list1]
 refine wpAny_bind (wpAny_standAt (wpAny_bind (wpAny_mono (turn n s hJ) (fun r s1 h1=>?_) off)))
 cases r with
 | none=>exact wpAny_pure h1
 | some v=>
   refine wpAny_bind (wpAny_mono h1 (fun _ s2 h2=>wpAny_bind (wpAny_mono h2 (fun _ s3 h3=>wpAny_bind (wpAny_bind ?_)) off)) off)
   exact wpAny_mono h3 (fun x s4 h4=>wpAny_bind (wpAny_mono h4 (fun _ s5 h5=>wpAny_pure (wpAny_pure ⟨rfl,h5⟩)) off)) off
def xc (cells:List (Str×Addr)):List (Str×NameKind)->List (Str×Addr)->List (Str×Addr)
 | [],cs=>cs
 | (n,k)::r,cs=>if k == .free then xc cells r ((n,(cells.lookup n).getD 0)::cs) else xc cells r cs
def ky (sc:Scope)(env:Env):List (Str×Addr):=xc env.cells sc.names []
theorem xf {env:Env}:∀ (l:List (Str×NameKind)) (cs:List (Str×Addr)),(∀ y∈l,y.2=.free->∃ c,env.cells.lookup y.1=some c) ->
   (forIn l cs fun(x:Str×NameKind) r=>(if x.2 == .free then (do let c <- cellOf env x.1;pure (ForInStep.yield ((x.1,c)::r))) else pure (ForInStep.yield r):Sem _))=pure (xc env.cells l cs)
 | [],cs,_=>rfl
 | (n,k)::l,cs,h=>by
   have hr:∀ y∈l,y.2=.free->∃ c,env.cells.lookup y.1=some c:=fun y hy=>h y (List.mem_cons_of_mem _ hy)
   rw[List.forIn_cons,xc]
   by_cases hk:(k == NameKind.free)=true
   . obtain⟨c,hc⟩:=h (n,k) List.mem_cons_self (by simpa using hk)
     have hc:env.cells.lookup n=some c:=hc
     simp only[hk,if_true,cellOf,hc,pure_bind,Option.getD_some]
     exact xf l _ hr
   . simp only[hk,if_false,pure_bind]
     exact xf l _ hr
theorem xh {sc:Scope}{env:Env}(h:∀ y∈sc.names,y.2=.free->∃ c,env.cells.lookup y.1=some c):closureFor sc env=pure (ky sc env):=by
 unfold closureFor ky
 have:=xf (env:=env) sc.names [] h
 simp only[bind_pure]
 refine Eq.trans ?_ this
 congr 1
theorem pB {cells:List (Str×Addr)}{y:Str}{c:Addr}:∀ (l:List (Str×NameKind)) (cs:List (Str×Addr)),(xc cells l cs).lookup y=some c->((y,NameKind.free)∈l/\(cells.lookup y).getD 0=c)\/cs.lookup y=some c
 | [],cs,h=>.inr h
 | (n,k)::l,cs,h=>by
   rw[xc] at h
   by_cases hk:(k == NameKind.free)=true
   . rw[if_pos hk] at h
     have TH:k=.free:=by simpa using hk
     subst TH
     rcases pB l _ h with⟨h1,h2⟩ | h1
     . exact .inl ⟨List.mem_cons_of_mem _ h1,h2⟩
     . rw[List.lookup_cons] at h1
       cases q:(y == n) with
       | true=>
         rw[q] at h1
         have e:y=n:=by simpa using q
         subst e
         exact .inl ⟨List.mem_cons_self,Option.some.inj h1⟩
       | false=>rw[q] at h1;exact .inr h1
   . rw[if_neg hk] at h
     rcases pB l _ h with⟨h1,h2⟩ | h1
     . exact .inl ⟨List.mem_cons_of_mem _ h1,h2⟩
     . exact .inr h1
theorem i7 {cells:List (Str×Addr)}{y:Str}:∀ (l:List (Str×NameKind)) (cs:List (Str×Addr)),((y,NameKind.free)∈l\/∃ c,cs.lookup y=some c)->∃ c,(xc cells l cs).lookup y=some c
 | [],cs,h=>by
   rcases h with h | h
   . cases h
   . exact h
 | (n,k)::l,cs,h=>by
   rw[xc]
   by_cases hk:(k == NameKind.free)=true
   . rw[if_pos hk]
     refine i7 l _ ?_
     rcases h with h | ⟨c,h⟩
     . rcases List.mem_cons.mp h with h | h
       . cases h;exact .inr ⟨_,by rw[List.lookup_cons,show(y == y)=true by simp]⟩
       . exact .inl h
     . refine .inr ?_
       rw[List.lookup_cons]
       cases q:(y == n) with
       | true=>exact⟨_,rfl⟩
       | false=>exact⟨c,h⟩
   . rw[if_neg hk]
     refine i7 l _ ?_
     rcases h with h | h
     . rcases List.mem_cons.mp h with h | h
       . cases h;exact absurd rfl hk
       . exact .inl h
     . exact .inr h
theorem fo {env:Env}{y:Str}{k:NameKind}:∀ {names:List (Str×NameKind)},(names.map fun(n,k)=>if (k == NameKind.free && env.scope.kind == .function && env.kindOf n == some .cell) then (n,NameKind.cell) else (n,k)).lookup y=some k->∃ k',(y,k')∈names/\(k=k'\/k'=.free)
 | [],h=>by simp at h
 | (n,kk)::r,h=>by
   rw[List.map_cons,List.lookup_cons] at h
   by_cases hc:(kk == NameKind.free && env.scope.kind == .function && env.kindOf n == some .cell)=true
   . simp only[hc,if_true] at h
     cases q:(y == n) with
     | true=>
       have e:y=n:=by simpa using q
       subst e
       have:kk=.free:=by
         have:=hc;simp at this;exact this.1.1
       exact⟨kk,List.mem_cons_self,.inr this⟩
     | false=>
       rw[q] at h
       obtain⟨k',h1,h2⟩:=fo h
       exact⟨k',List.mem_cons_of_mem _ h1,h2⟩
   . simp only[hc,Bool.false_eq_true,if_false] at h
     cases q:(y == n) with
     | true=>
       have e:y=n:=by simpa using q
       subst e
       rw[q] at h
       exact⟨kk,List.mem_cons_self,.inl (Option.some.inj h).symm⟩
     | false=>
       rw[q] at h
       obtain⟨k',h1,h2⟩:=fo h
       exact⟨k',List.mem_cons_of_mem _ h1,h2⟩
theorem lP {env:Env}{y:Str}:∀ {names:List (Str×NameKind)},names.lookup y=some .free->(names.map fun(n,k)=>if (k == NameKind.free && env.scope.kind == .function && env.kindOf n == some .cell) then (n,NameKind.cell) else (n,k)).lookup y=some .cell \/
   (names.map fun(n,k)=>if (k == NameKind.free && env.scope.kind == .function && env.kindOf n == some .cell) then (n,NameKind.cell) else (n,k)).lookup y=some .free
 | [],h=>by simp at h
 | (n,kk)::r,h=>by
   rw[List.map_cons,List.lookup_cons]
   rw[List.lookup_cons] at h
   cases q:(y == n) with
   | true=>
     rw[q] at h
     have:kk=.free:=Option.some.inj h
     subst this
     by_cases hc:(NameKind.free == NameKind.free && env.scope.kind == .function && env.kindOf n == some .cell)=true
     . left;simp only[hc,if_true];simp[q]
     . right;simp only[hc,Bool.false_eq_true,if_false];simp[q]
   | false=>
     rw[q] at h
     have ih:=lP (env:=env) h
     by_cases hc:(kk == NameKind.free && env.scope.kind == .function && env.kindOf n == some .cell)=true
     . simp only[hc,if_true,q];exact ih
     . simp only[hc,Bool.false_eq_true,if_false,q];exact ih
structure gf (X:Cx)(N:List Str)(ix:List Nat)(x:Str)(sc:Scope):Prop where
 nd:N.Nodup
 nm:N=x::ix.map (fun j=>X.N.getD j "")
 kind:sc.kind=.function
 tM:∀ y∈sc.names,y.2≠.cell
 names:∀ y∈sc.names,y.2=.local->sc.names.lookup y.1=some .local
 hx:sc.names.lookup x=some .local
 fr:∀ y∈sc.names,y.2=.free->X.env.kindOf y.1=some .cell\/X.env.kindOf y.1=some .free
 Q5:∀ j∈ix,∃ y,X.N[j]?=some y/\sc.names.lookup y=some .free
def aV (X:Cx)(N:List Str)(sc:Scope)(C:Addr)(fp:List Addr)(s:Shared)(H:Hp):Cx:=
 { X with N:=N,s₀:=s,H₀:=H,env:=compEnvC sc (ky sc X.env) C X.env,outer:=X.stack,stack:=X.stack,ex:=fp,fn:=fun _=>false,pn:=[],xe:=vc}
def frees (ix:List Nat)(st:L2.St):L2.St:=ix.map fun j=>(st[j]?).join
section
variable {X:Cx}{N:List Str}{ix:List Nat}{x:Str}{sc:Scope}{pins:List (Addr×Obj)}{st:L2.St}{H H':Hp}{s s':Shared}{C D:Addr}{fp:List Addr}{h1:Heap}
theorem FF (B:gf X N ix x sc)(ok:X.Ok):closureFor sc X.env=pure (ky sc X.env):=xh fun y hy hk=>ok.has y.1 (B.fr y hy hk)
theorem tN (B:gf X N ix x sc)(ok:X.Ok){y:Str}{c:Addr}(h:(ky sc X.env).lookup y=some c):X.env.cells.lookup y=some c/\(y,NameKind.free)∈sc.names:=by
 rcases pB _ _ h with⟨h1,h2⟩ | h1
 . obtain⟨c',h3⟩:=ok.has y (B.fr _ h1 rfl)
   rw[h3] at h2
   cases h2
   exact⟨h3,h1⟩
 . cases h1
theorem xi (B:gf X N ix x sc)(I:L2.Inv X pins st H s)(hC:s.heap.objs.size<=C)(hf:∀ b∈fp,j9 X pins H b)(cS:∀ b∈fp,b < s.heap.objs.size):(aV X N sc C fp s H).Ok where
 mod:=I.ok.mod
 kind:=B.kind
 glob:=I.ok.glob
 blt:=I.ok.blt
 above:=hC
 inj:=fun y z c h1 h2=>I.ok.inj y z c (tN B I.ok h1).1 (tN B I.ok h2).1
 has:=fun y hy=>by
   have hy:(relabel sc X.env).names.lookup y=some .cell\/(relabel sc X.env).names.lookup y=some .free:=hy
   have:(y,NameKind.free)∈sc.names:=by
     rcases hy with hy | hy
     . obtain⟨k',h1,h2⟩:=fo hy
       rcases h2 with h2 | h2
       . subst h2;exact absurd rfl (B.tM _ h1)
       . subst h2;exact h1
     . obtain⟨k',h1,h2⟩:=fo hy
       rcases h2 with h2 | h2 <;> subst h2 <;> exact h1
   exact i7 _ _ (.inl this)
 PQ:=fun y c h=>by cases h
 hd:=I.ok.hd
 frames:=I.ok.frames
 Qh:=.inl rfl
 Jd:=fun b hb=>⟨Nat.ne_of_lt (Nat.lt_of_lt_of_le (cS b hb) hC),fun y c h=>(hf b hb).2.2.2.2.1 y c (tN B I.ok h).1⟩
 bs:=I.bs
 BW:=Nat.le_trans I.ok.BW I.sz
 yF:=fun b o e hb=>by
   rcases (hf b hb).2.2.2.1 with z | z
   . exact I.ok.yF b o e z
   . exact absurd (Nat.lt_of_lt_of_le (Heap.lt_size e) (Nat.le_trans I.ok.BW z)) (Nat.lt_irrefl _)
 yG:=fun b hb z=>by
   rcases List.mem_cons.mp (I.sV b z) with z | z
   . exact(hf b hb).2.1 z
   . exact(hf b hb).2.2.1 z
 p0:=I.stack
 Ly:=I.rQ
theorem DK (B:gf X N ix x sc)(I:L2.Inv X pins st H s)(hf:∀ b∈fp,j9 X pins H b)(cS:∀ b∈fp,b < s.heap.objs.size)(hC:C=s.heap.objs.size+1)(k:∀ b o,s.heap.get? b=some o->h1.get? b=some o)(hn:h1.Ns C fun _=>none)(hD:h1.get? s.heap.objs.size=some { cls:=.type "list",data:=.seq ([]:List Value).toArray 0}){t':Nat}:L2.Inv (aV X N sc C fp s H) [] (none::frees ix st) (upd H s.heap.objs.size (.lst [])) { s with heap:=h1,toks:=t'}:=by
 have LN:s.heap.objs.size<=C:=by rw[hC];exact Nat.le_succ _
 have fr:∀ a,s.heap.objs.size<=a->H a=none:=fun a ha=>I.aZ.fresh ha
 have ok:=xi B I LN hf cS
 have Av:∀ y c,(ky sc X.env).lookup y=some c->H c=none/\c < s.heap.objs.size/\∃ v,s.heap.IsCell c v:=fun y c h=>by
   have h:=(tN B I.ok h).1
   obtain⟨v,q⟩:=I.cell y c h
   exact⟨I.n9 y c h,q.lt,v,q⟩
 refine⟨ok,rfl,I.bare,Un.laid k (Nat.le_refl _) (fr _ (Nat.le_refl _)),⟨_,hn,fun i y v e1 e2 e3=>?_⟩,fun y c h=>?_,?_,fun y c h=>?_,fun p hp=>absurd (show p∈([]:List (Addr×Obj)) from hp) (by simp),?_,?_⟩
 . have e1:N[i]?=some y:=e1
   cases i with
   | zero=>cases e2
   | succ i=>
     rw[B.nm,List.getElem?_cons_succ,List.getElem?_map] at e1
     rw[List.getElem?_cons_succ] at e2
     unfold frees at e2
     rw[List.getElem?_map] at e2
     cases q:ix[i]? with
     | none=>rw[q] at e1;cases e1
     | some j=>
       rw[q] at e1 e2
       obtain⟨y',IP,FG⟩:=B.Q5 j (List.mem_of_getElem? q)
       have JJ:=PySem.mem_of_lookup FG
       have ey:y=y':=by
         have e1:X.N.getD j ""=y:=Option.some.inj e1
         rw[List.getD_eq_getElem?_getD,IP] at e1
         exact e1.symm
       subst ey
       have e2:(st[j]?).join=some v:=Option.some.inj e2
       have Q6:st[j]?=some (some v):=by
         cases q2:st[j]? with
         | none=>rw[q2] at e2;cases e2
         | some z=>rw[q2] at e2;rw[show z=some v from e2]
       have kd:=B.fr _ JJ rfl
       have Q7:sU X.env.scope y:=by
         rcases kd with z | z
         . exact .inr (.inl z)
         . exact .inr (.inr z)
       obtain⟨m,_,hl⟩:=I.loc
       obtain⟨u,r,l⟩:=hl j y v IP Q6 Q7
       refine⟨u,r,.inr ?_⟩
       rcases l with⟨z,_⟩ | ⟨_,c,hc,ic⟩
       . rcases kd with z' | z' <;> rw[z] at z' <;> cases z'
       . obtain⟨c',Aw⟩:=i7 (cells:=X.env.cells) sc.names [] (.inl JJ)
         have:=(tN B I.ok Aw).1
         rw[hc] at this;cases this
         obtain⟨oc,BY,hd⟩:=ic
         refine⟨?_,c,Aw,oc,k _ _ BY,hd⟩
         rcases e3 with e3 | e3 | e3
         . have e3:(relabel sc X.env).names.lookup y=some .local:=e3
           rcases lP (env:=X.env) FG with z | z
           . exact absurd (e3.symm.trans z) (by decide)
           . exact absurd (e3.symm.trans z) (by decide)
         . exact .inl e3
         . exact .inr e3
 . obtain⟨_,_,v,oc,BY,hd⟩:=Av y c h
   exact⟨v,oc,k _ _ BY,hd⟩
 . show upd H s.heap.objs.size (.lst []) C=none
   rw[ah (by rw[hC];exact Nat.succ_ne_self _)]
   exact fr _ LN
 . show upd H s.heap.objs.size (.lst []) c=none
   obtain⟨q1,q2,_⟩:=Av y c h
   rw[ah (Nat.ne_of_lt q2)]
   exact q1
 . exact I.aZ.laid k (Nat.le_refl _) ⟨Nat.zero_le _,[],0,.nil,hD⟩
 . show(none::frees ix st).length=N.length
   rw[B.nm]
   unfold frees
   simp
def NL (te:TE)(fs:L2.St)(J:It)(D:Addr)(Q:List V->Hp->Prop)(H:Hp):Prop:=
 ∃ W:Nat->Nat->List V->Hp->Prop,(∃ m,W 0 m [] (upd H D (.lst [])))/\∀ i m ys H1,W i m ys H1 ->
   (J.stop i H1/\Q ys H1)\/(J.go i H1/\ys.length < sizeLine/\∀ v H2,J.IK i H1 v H2->te (some v::fs) H2 fun y H3=>H3 D=some (.lst ys)/\∃ m',m' < m/\W (i+1) m' (ys ++ [y]) (upd H3 D (.lst (ys ++ [y]))))
theorem Cj {elt iter:Expr}{px pos:Pos}{te:TE}{J:It}{it:Addr}{tn:Nat->Heap->Prop}{Q:Addr->List V->Hp->Prop}{RR:Value->Addr->Result->Shared->Prop}{E:Value->Shared->Prop}(hc:X.calm=true)(B:gf X N ix x sc)(jf:∀ C fp s H,PE (aV X N sc C fp s H) elt te)(I:L2.Inv X pins st H s)(T:Turn X.prog X.w X.K (.Name x px) J fp it tn)(h0:tn 0 s.heap)(hf:∀ b∈fp,j9 X pins H b)(hq:∀ D,H D=none->NL te (frees ix st) J D (Q D) H)(Q8:∀ D C ys H' s',L2.Inv X pins st H' s'->(∃ m,s'.heap.Ns C m)->j9 X pins H' C->Q D ys H'->RR (.ref D) C (.ok .next) s'):wpAny (model X.prog X.w) X.A (newList []) (fun acc s3=>wpAny (model X.prog X.w) X.A (newFunctionEnv sc X.env.globals (ky sc X.env) [] X.env.qual none .none (some X.env)) (fun zl s4=>codeAny (model X.prog X.w) X.A (.compStart (.ListComp elt [⟨.Name x px,iter,[],0⟩] sc pos) 0 (.ref it) acc { zl with scope:=relabel sc X.env}) (RR acc zl.locals) s4) E s3) E s:=by
 have cS:∀ b∈fp,b < s.heap.objs.size:=fun b hb=>by
   obtain⟨o,e,_⟩:=T.obj _ _ h0 b hb
   exact Heap.lt_size e
 refine wpAny_newObj_type (wpAny_newFunctionEnv B.tM (fun y hy=>absurd hy (by simp)) (fun h1 EG DL=>?_) B.kind)
 dsimp only at EG DL ⊢
 generalize hG:s.heap.push { cls:=.type "list",dict:=none,data:=.seq ([]:List Value).toArray}=g at EG DL ⊢
 have hC:g.objs.size=s.heap.objs.size+1:=by rw[<- hG,Heap.size_push]
 have TJ:s.heap.objs.size≠g.objs.size:=by rw[hC];exact Nat.ne_of_lt (Nat.lt_succ_self _)
 have old:∀ b o,s.heap.get? b=some o->h1.get? b=some o:=fun b o e=>
   DL.extBut b o (by rw[hC];exact Nat.ne_of_lt (Nat.lt_succ_of_lt (Heap.lt_size e))) (Heap.get?_push_of_some _ (hG ▸ Heap.get?_push_of_some _ e))
 have FH:h1.get? s.heap.objs.size=some { cls:=.type "list",data:=.seq ([]:List Value).toArray 0}:=DL.extBut _ _ TJ (Heap.get?_push_of_some _ (hG ▸ Heap.get?_push_size _ rfl))
 have hD:H s.heap.objs.size=none:=I.aZ.fresh (Nat.le_refl _)
 obtain⟨W,⟨m0,w0⟩,turn⟩:=hq _ hD
 have I0:=DK (t':=s.toks+([]:List (Str×Value)).length) B I hf cS hC old (by simpa using EG) FH
 have LO:tn 0 h1:=T.keep _ _ _ h0 fun b _ o e=>old b o e
 have mQ:s.heap.objs.size<=g.objs.size:=by rw[hC];exact Nat.le_succ _
 have oF:∀ {H':Hp},(∀ b∈fp,H' b=none)->∀ b∈fp,j9 (aV X N sc g.objs.size fp s H) [] H' b:=fun {H'} hn b hb=>
   ⟨hn b hb,((xi B I mQ hf cS).Jd b hb).1,(xi B I mQ hf cS).yG b hb,.inl hb,((xi B I mQ hf cS).Jd b hb).2,fun p hp=>absurd (show p∈([]:List (Addr×Obj)) from hp) (by simp)⟩
 have hN:(aV X N sc g.objs.size fp s H).N[0]?=some x:=by
   show N[0]?=some x
   rw[B.nm];rfl
 have DM:(aV X N sc g.objs.size fp s H).env.scope.names.lookup x=some .local:=lookup_relabel_local B.hx
 have loop:∀ s3:Shared,s3={ s with heap:=h1,toks:=s.toks+([]:List (Str×Value)).length} ->
     codeAny (model X.prog X.w) X.A (.compLoop (.ListComp elt [⟨.Name x px,iter,[],0⟩] sc pos) 0 (.ref it) (.ref s.heap.objs.size) (compEnvC sc (ky sc X.env) g.objs.size X.env)) (RR (.ref s.heap.objs.size) g.objs.size) s3:=by
   rintro s3 rfl
   refine JI (fun n s'=>∃ i ys σ H',L2.Inv (aV X N sc g.objs.size fp s H) [] (σ::frees ix st) H' s'/\tn i s'.heap/\(∀ b∈fp,H' b=none)/\W i n ys H') ?_ m0
     ⟨0,[],none,_,I0,LO,fun b hb=>?_,w0⟩
   . rintro n s5 ⟨i,ys,σ,H5,I5,EF,IL,w5⟩
     rcases turn i n ys H5 w5 with⟨stop,qn⟩ | ⟨go,hz,step⟩
     . refine bK (T.done (aV X N sc g.objs.size fp s H) rfl rfl rfl hc i [] s5 _ H5 vc I5 (oF IL) EF stop) fun r s6 ⟨hr,I6⟩=>?_
       subst hr
       refine Q8 _ _ ys H5 s6 ?_ ?_ (I.u5 mQ I6.free) qn
       . exact I.E2 I6.os I6.base I6.aZ I6.bare fun b hb=>⟨(hf b hb).2.2.2.1,(hf b hb).2.1,(hf b hb).2.2.2.2.1,(hf b hb).2.2.2.2.2⟩
       . obtain⟨m,hm,_⟩:=I6.loc
         exact⟨m,hm⟩
     . refine bK (T.item (aV X N sc g.objs.size fp s H) rfl rfl rfl hc i [] s5 _ H5 vc I5 (oF IL) EF go) fun r s6 ⟨u,hr,h6⟩=>?_
       subst hr
       refine bK h6 fun _ s7 ⟨v,H7,I7,r7,y7,FI,Q9⟩=>?_
       have Ra:=I7.pinned (oF Q9) (T.obj _ _ FI)
       refine bK (bD (X:=aV X N sc g.objs.size fp s H) (pos:=px) B.nd hN (.inl DM) (.inr DM) _ s7 _ H7 v u (fun σ' H'=>σ'=some v::frees ix st/\H'=H7) Ra r7 ⟨rfl,rfl⟩) fun _ s8 h8=>?_
       obtain⟨σ8,H8,I8,rfl,rfl⟩:=h8
       refine bK (jf g.objs.size fp s H _ s8 _ H8 _ I8 (step v H8 y7)) fun z s9 ⟨y,H9,I9,r9,Rb,m',hm,w9⟩=>?_
       refine bK (nu _ s9 _ H9 (.ref s.heap.objs.size) [y] (.ref s.heap.objs.size) [z] (fun _ H'=>H'=upd H9 s.heap.objs.size (.lst (ys ++ [y]))) I9 rfl (.cons r9 .nil) ⟨_,ys,y,rfl,rfl,Rb,hz,rfl⟩) fun _ Xa Rc=>?_
       obtain⟨_,Xb,FJ,_,rfl⟩:=Rc
       refine⟨m',hm,i+1,ys ++ [y],some v,_,FJ.i0 (pins:=[]),T.keep _ _ _ FI fun b hb o e=>(FJ.pin (b,o) (List.mem_append_right _ (List.mem_append_right _ (fj hb e)))).1,fun b hb=>?_,w9⟩
       obtain⟨o,e,d⟩:=T.obj _ _ FI b hb
       exact(FJ.pin (b,o) (List.mem_append_right _ (List.mem_append_right _ (fj hb e)))).2.1
   . rw[ah (Nat.ne_of_lt (cS b hb))]
     exact(hf b hb).1
 exact codeAny_compStart_list (loop _ rfl) (T.self _ 0 _ _ _ LO (loop _ rfl))
end
def TK (K:W.Frag)(G:Gr)(dl:List Slot)(o:Own):TE:=fun st H Q=>∃ Hf,dk K G st Hf H dl/\∀ p aH H',bc Hf H aH H'->H p=none->aH p=none->gc K aH H' p o->Q (.ref p) H'
abbrev EO (X:Cx)(G:Gr)(dl:List Slot)(e:Expr)(o:Own):Prop:=PE X e (TK X.K G dl o)
def Rf:Own->Dt
 | .lst ds=>.lst ds
 | .d0 k=>.d0 k
 | .obj C fs=>.obj C fs
 | .zg _ C fs=>.obj C fs
 | .qi C fs gs nm n=>.u9 C fs gs nm n
 | .wZ _ C fs gs nm n=>.u9 C fs gs nm n
 | .lb k=>.lb k
section
variable {K:W.Frag}{G:Gr}{st:L2.St}{Hf H aH H':Hp}{dl:List Slot}{p:Addr}{w:Own}{u:HO}
theorem FK (g:bc Hf H aH H')(n:H p=none)(n':aH p=none)(e:H' p=some u):bc Hf H (upd aH p u) H':=
 ⟨g.big,g.bh.trans (bB n'),fun b o h=>by
   by_cases hb:b=p
   . subst hb;rw[ak] at h;cases h;exact e
   . rw[ah hb] at h;exact g.sub _ _ h,fun a o h=>by
   by_cases hb:a=p
   . subst hb;exact .inr (.inl n)
   . rw[ah hb] at h;exact g.new a o h⟩
theorem Ck (r:gc K Hf H p w)(n:Hf p=none):∃ u,H p=some u/\Rep K (upd Hf p u) (.ref p) (Rf w):=by
 cases w with
 | lst ds=>obtain⟨vs,h,r⟩:=r;exact⟨_,h,.lst ak (r.mono (bB n))⟩
 | d0 ds=>obtain⟨vs,h,r⟩:=r;exact⟨_,h,.d0 ak (r.mono (bB n))⟩
 | obj C ds=>obtain⟨dx,fs,h,r⟩:=r;exact⟨_,h,.obj (.of ak) (r.mono (bB n))⟩
 | zg x C ds=>obtain⟨_,dx,fs,h,r⟩:=r;exact⟨_,h,.obj (.of ak) (r.mono (bB n))⟩
 | qi C ds gs nm k=>obtain⟨dx,fs,b,ls,q,h,r⟩:=r;exact⟨_,h,.u9 q (.of ak) (r.mono (bB n))⟩
 | wZ x C ds gs nm k=>obtain⟨_,dx,fs,b,ls,q,h,r⟩:=r;exact⟨_,h,.u9 q (.of ak) (r.mono (bB n))⟩
 | lb ks=>exact⟨_,r,.lb ak⟩
theorem dk.NM (S:dk K G st Hf H dl)(g:bc Hf H aH H'){i:Nat}(n:H p=none)(n':aH p=none)(r:gc K aH H' p w):dk K G (st.set i (some (.ref p))) aH H' (dl.set i (.own w)):=by
 have ln:=S.len
 have S':=S.grow g
 have pn:∀ (j:Nat) (o':Own) (a:Addr),dl[j]?=some (Slot.own o')->st[j]?=some (some (V.ref a))->a≠p:=fun j o' a h1 h2=>by
   obtain⟨b,q1,_,_,q4⟩:=S.own j o' h1
   rw[h2] at q1;cases q1
   obtain⟨u,hu⟩:=q4.some
   exact ax hu n
 refine⟨S'.gr,by simp[S.len],fun j x h=>?_,fun j o' h=>?_,fun j k o1 o2 a h1 h2 h3 h4=>?_⟩
 . by_cases e:i=j
   . subst e
     by_cases hl:i < dl.length
     . rw[List.getElem?_set_self hl] at h;cases h
     . rw[List.getElem?_eq_none (by simp;omega)] at h;cases h
   . rw[List.getElem?_set_ne e] at h ⊢;exact S'.val j x h
 . by_cases e:i=j
   . subst e
     by_cases hl:i < dl.length
     . rw[List.getElem?_set_self hl] at h;cases h
       exact⟨p,List.getElem?_set_self (by omega),n',S.gr.big.free n,r⟩
     . rw[List.getElem?_eq_none (by simp;omega)] at h;cases h
   . rw[List.getElem?_set_ne e] at h ⊢
     exact S'.own j o' h
 . by_cases ej:i=j
   . by_cases ek:i=k
     . omega
     . subst ej
       rw[List.getElem?_set_ne ek] at h2 h4
       by_cases hl:i < st.length
       . rw[List.getElem?_set_self hl] at h3;cases h3
         exact absurd rfl (pn k o2 _ h2 h4)
       . rw[List.getElem?_eq_none (by simp;omega)] at h3;cases h3
   . rw[List.getElem?_set_ne ej] at h1 h3
     by_cases ek:i=k
     . subst ek
       by_cases hl:i < st.length
       . rw[List.getElem?_set_self hl] at h4;cases h4
         exact absurd rfl (pn j o1 _ h1 h3)
       . rw[List.getElem?_eq_none (by simp;omega)] at h4;cases h4
     . rw[List.getElem?_set_ne ek] at h2 h4
       exact S.DF j k o1 o2 a h1 h2 h3 h4
theorem dk.bh (S:dk K G st Hf H dl){i:Nat}(hd:dl[i]?=some (.own w)):∃ aH,aF Hf aH/\dk K G st aH H (dl.set i (.val (Rf w))):=by
 have ln:=S.len
 obtain⟨p,h1,h2,h3,h4⟩:=S.own i w hd
 obtain⟨u,hu,rp⟩:=Ck h4 h2
 have hl:i < dl.length:=(List.getElem?_eq_some_iff.mp hd).1
 have sm:aF Hf (upd Hf p u):=bB h2
 refine⟨upd Hf p u,sm,⟨S.gr.big,S.gr.bh.trans sm,fun b o h=>?_,fun a o h=>?_⟩,by simp[S.len],fun j x h=>?_,fun j o' h=>?_,fun j k o1 o2 a q1 q2 q3 q4=>?_⟩
 . by_cases hb:b=p
   . subst hb;rw[ak] at h;cases h;exact hu
   . rw[ah hb] at h;exact S.gr.sub _ _ h
 . by_cases hb:a=p
   . subst hb;exact .inr (.inl h3)
   . rw[ah hb] at h;exact S.gr.new a o h
 . by_cases e:i=j
   . subst e
     rw[List.getElem?_set_self hl] at h;cases h
     exact⟨_,h1,rp⟩
   . rw[List.getElem?_set_ne e] at h
     obtain⟨v,z1,z2⟩:=S.val j x h
     exact⟨v,z1,z2.mono sm⟩
 . by_cases e:i=j
   . subst e;rw[List.getElem?_set_self hl] at h;cases h
   . rw[List.getElem?_set_ne e] at h
     obtain⟨a,z1,z2,z3,z4⟩:=S.own j o' h
     have ne:a≠p:=fun q=>by subst q;exact e (S.DF i j _ _ _ hd h h1 z1)
     exact⟨a,z1,by rw[ah ne];exact z2,z3,z4.grow rfl sm⟩
 . have tr:∀ (j:Nat) o',(dl.set i (.val (Rf w)))[j]?=some (.own o')->dl[j]?=some (.own o'):=fun j o' h=>by
     by_cases e:i=j
     . subst e;rw[List.getElem?_set_self hl] at h;cases h
     . rw[List.getElem?_set_ne e] at h;exact h
   exact S.DF j k _ _ a (tr _ _ q1) (tr _ _ q2) q3 q4
end
section
variable {X:Cx}{G:Gr}{E:XK}{dl:List Slot}{a b e:Expr}{i:Int}{d:Dt}{ds:List Dt}{pos p:Pos}{o:Out}{x:Str}{u v:Bool}{sts:List Stmt}{C:Addr}{w:Own}{fs:List (Str×Dt)}
theorem JK (h:EO X G dl e w):EE X G dl e (Rf w):=gd h fun st H Q ⟨Hf,S,k⟩=>⟨Hf,S,fun p aH H' g n n' r=>by
 obtain⟨u,hu,rp⟩:=Ck r n'
 exact k _ _ H' (FK g n n' hu) rp⟩
theorem jw (h:EO X G dl e (.lst ds)):EE X G dl e (.lst ds):=JK h
theorem Rg (h:EO X G dl e (.obj C fs)):EE X G dl e (.obj C fs):=JK h
theorem FL {w':Own}(h:EO X G dl e w)(q:w=w'):EO X G dl e w':=by subst q;exact h
theorem jD (n:Nat){x:Str}{pos':Pos}(hN:X.N.Nodup)(he:EO X G dl e w)(hi:X.N[n]?=some x:=by rfl)(hx:Loc X.env.scope x:=by first | exact Or.inl rfl | exact Or.inr rfl)(hs:swapsWith e (some (.Name x pos')) pos.line X.env=pure false:=by rfl)(hf:X.fn x=true\/X.env.scope.names.lookup x=some .local:=by first | exact .inl rfl | exact .inr rfl | assumption):ES X G E dl (.Assign [.Name x pos'] e pos) (.nx (dl.set n (.own w))):=
 rb (AF hN hi hx he hs hf) fun D st H ⟨Hf,S,k⟩=>⟨Hf,S,fun p av H1 g1 n1 n2 r1=>k _ av H1 g1.bh (S.NM g1 n1 n2 r1)⟩
theorem kH (h:EO X G dl e w):ES X G E dl (.Return (some e) pos) (.ro w):=rb (AE h) fun D st H ⟨Hf,S,k⟩=>⟨Hf,S,fun p av H1 g1 n1 n2 r1=>k p av H1 (S.gr.trans g1) (S.gr.big.free n1) n2 r1⟩
theorem JL (n:Nat)(hd:dl[n]?=some (.own w):=by rfl)(hN:X.N[n]?=some x:=by rfl)(hv:sU X.env.scope x:=by first | exact Or.inl rfl | exact Or.inr (Or.inl rfl) | exact Or.inr (Or.inr rfl))(hb:(x == ("__debug__":Str))=false:=by decide)(k7:(x == ("__classdict__":Str))=false:=by decide):ES X G E dl (.Return (some (.Name x p)) pos) (.ro w):=
 rb (AE (iy hN hv hb k7)) fun D st H ⟨Hf,S,k⟩=>by
   obtain⟨q,h1,h2,h3,h4⟩:=S.own n w hd
   exact⟨_,h1,k q Hf H S.gr h3 h2 h4⟩
theorem tP (i:Nat)(h:lM X G E (dl.set i (.val (Rf w))) sts o)(hd:dl[i]?=some (.own w):=by rfl):lM X G E dl sts o:=zh h fun D st H ⟨Hf,S,k⟩=>by
 obtain⟨aH,sm,S'⟩:=S.bh hd
 exact⟨aH,S',k.mono sm⟩
def YW (K:W.Frag)(G:Gr)(dl:List Slot)(n:Nat)(w:Own):TE:=fun st H Q=>∃ Hf a,dk K G st Hf H dl/\st[n]?=some (some (.ref a))/\Hf a=none/\gc K Hf H a w/\Q (.ref a) H
theorem tQ (n:Nat)(hd:dl[n]?=some (.own w))(hN:X.N[n]?=some x)(hv:sU X.env.scope x)(hb:(x == ("__debug__":Str))=false)(k7:(x == ("__classdict__":Str))=false):PE X (.Name x p) (YW X.K G dl n w):=
 gd (iy hN hv hb k7) fun st H Q ⟨Hf,a,S,h1,_,_,q⟩=>⟨_,h1,q⟩
theorem qm (n:Nat)(hb:EE X G dl b (.int i))(h:lK ds i=some d)(hd:dl[n]?=some (.own (.lst ds)):=by rfl)(hN:X.N[n]?=some x:=by rfl)(hv:sU X.env.scope x:=by first | exact Or.inl rfl | exact Or.inr (Or.inl rfl) | exact Or.inr (Or.inr rfl))(lG:(x == ("__debug__":Str))=false:=by decide)(k7:(x == ("__classdict__":Str))=false:=by decide)(hs:jC b:=by intro _ _;rfl):EE X G dl (.Subscript (.Name x p) b pos) d:=
 gd (tq wO (tQ (p:=p) n hd hN hv lG k7) hb hs) fun st H Q ⟨Hf,S,k⟩=>by
   obtain⟨q,h1,h2,h3,h4⟩:=S.own n _ hd
   refine⟨Hf,q,S,h1,h2,h4,Hf,S,fun z av H1 g1 r1=>?_⟩
   cases r1
   obtain⟨vs,hq,rp⟩:=h4
   obtain⟨v,YX,YY⟩:=rp.lK h
   exact⟨q,vs,i,v,rfl,rfl,.of (g1.big _ _ hq),YX,k v av H1 g1 (YY.mono g1.bh)⟩
theorem lg (n:Nat){m:Nat}{ps pn:Pos}(he:EE X G dl e d)(hb:EE X G dl b (.int i))(h:AR ds.length i=some m)(hd:dl[n]?=some (.own (.lst ds)):=by rfl)(hN:X.N[n]?=some x:=by rfl)
   (hv:sU X.env.scope x:=by first | exact Or.inl rfl | exact Or.inr (Or.inl rfl) | exact Or.inr (Or.inr rfl)) (lG:(x == ("__debug__":Str))=false:=by decide) (k7:(x == ("__classdict__":Str))=false:=by decide)
   (ha:∀ v,assign (.Subscript (.Name x pn) b ps) X.env v=(do
     let ov <- holding [v] (eval (.Name x pn) X.env)
     let iv <- holding [v,ov] (eval b X.env)
     standAt ps
     holding [v,ov,iv] (setItem ov iv v)
     release [v,ov,iv] []):=by intro _;rfl)
   (hs:swapsWithSole [.Subscript (.Name x pn) b ps] e pos.line X.env=pure false:=by rfl) (hw:swappedStores [.Subscript (.Name x pn) b ps] e X.env=pure none:=by rfl)
   (h1:(assignEach [.Subscript (.Name x pn) b ps] X.env).map (·.2)=[assign (.Subscript (.Name x pn) b ps) X.env]:=by rfl) :
   ES X G E dl (.Assign [.Subscript (.Name x pn) b ps] e pos) (.nx (dl.set n (.own (.lst (ds.set m d))))):=
 rb (wK he (MY (tQ (p:=pn) n hd hN hv lG k7) hb set_list ha) hs hw h1) fun D st H ⟨Hf,S,k⟩=>⟨Hf,S,fun v av H1 g1 r1=>by
   have S1:=S.grow g1
   obtain⟨q,z1,z2,z3,z4⟩:=S1.own n _ hd
   refine⟨av,q,S1,z1,z2,z4,av,S1,fun iv bW H2 g2 r2=>?_⟩
   cases r2
   have S2:=S1.grow g2
   obtain⟨q',y1,y2,y3,vs,hq,rp⟩:=S2.own n _ hd
   rw[z1] at y1;cases y1
   refine⟨q,vs,i,m,rfl,rfl,hq,by rw[rp.length];exact h,?_⟩
   exact k st bW _ (g1.bh.trans g2.bh) (S2.DG hd z1 ⟨_,ak,rp.set (r1.mono g2.bh) m⟩)⟩
end
section
variable {X:Cx}{G:Gr}{E:XK}{dl:List Slot}{a b e:Expr}{es:List Expr}{i j:Int}{d d1 d2:Dt}{ds ds':List Dt}{pos p apos bP:Pos}{x:Str}{v:Bool}{s:Stmt}
theorem lQ (h:EA X G dl es ds)(hl:ds.length<=sizeLine:=by decide):EO X G dl (.List es pos) (.lst ds):=
 gd (tf h) fun st H Q ⟨Hf,S,k⟩=>⟨Hf,S,fun vs av H1 g1 r1=>⟨by rw[r1.length];exact hl,fun p hp=>k p av _ (g1.trans (.d5 g1.sub hp)) (g1.big.free hp) (g1.sub.free hp) ⟨vs,ak,r1⟩⟩⟩
theorem LP {op:Operator}{r:R2}(ho:mI X (binaryOp op) r)(ha:EE X G dl a d1)(hb:EE X G dl b d2)(h:∀ v z Hf H Q,aF Hf H->Rep X.K Hf v d1->Rep X.K Hf z d2->(∀ p vs,H p=none->bg X.K Hf vs ds->Q (.ref p) (upd H p (.lst vs)))->r v z H Q):EO X G dl (.BinOp a op b pos) (.lst ds):=
 gd (LC ho ha hb) fun st H Q ⟨Hf,S,k⟩=>⟨Hf,S,fun v av H1 g1 r1=>⟨av,S.grow g1,fun z bW H2 g2 r2=>h v z bW H2 Q g2.sub (r1.mono g2.bh) r2 fun p vs hp rv=>
   k p bW _ ((g1.trans g2).trans (.d5 g2.sub hp)) ((g1.trans g2).big.free hp) (g2.sub.free hp) ⟨vs,ak,rv⟩⟩⟩
theorem NN (ha:EE X G dl a (.lst ds))(hb:EE X G dl b (.lst ds'))(hl:ds.length+ds'.length<=sizeLine):EO X G dl (.BinOp a .Add b pos) (.lst (ds ++ ds')):=
 LP Nn ha hb fun v z Hf H Q s r1 r2 k=>by
   cases r1 with
   | lst h1 q1=>cases r2 with
     | lst h2 q2=>exact⟨_,_,_,_,rfl,rfl,s _ _ h1,s _ _ h2,by rw[q1.length,q2.length];exact hl,fun p hp=>k p _ hp (q1.append q2)⟩
theorem zm {K:W.Frag}{H:Hp}{vs:List V}{ds:List Dt}(r:bg K H vs ds):∀ n:Nat,bg K H (List.replicate n vs).flatten (List.replicate n ds).flatten
 | 0=>.nil
 | n+1=>by
   rw[List.replicate_succ,List.replicate_succ,List.flatten_cons,List.flatten_cons]
   exact r.append (zm r n)
theorem FN (ha:EE X G dl a (.lst ds))(hb:EE X G dl b (.int i))(h1:-(2 ^ 63)<=i)(h2:i < 2 ^ 63)(hl:ds.length * i.toNat<=sizeLine):EO X G dl (.BinOp a .Mult b pos) (.lst (List.replicate i.toNat ds).flatten):=
 LP Np ha hb fun v z Hf H Q s r1 r2 k=>by
   cases r1 with
   | lst q1 r1=>cases r2;exact⟨_,i,_,rfl,rfl,s _ _ q1,h1,h2,by rw[r1.length];exact hl,fun p hp=>k p _ hp (zm r1 _)⟩
theorem JM (hm:X.mg "list"=none)(ha:EE X G dl a (.lst ds))(hg:Gl X "list":=by rfl)(he:starEach [a] X.env=[(false,eval a X.env)]:=by rfl):EO X G dl (.Call (.Name "list" p) [a] [] pos) (.lst ds):=
 gd (nr wU hg hm boot_list (ae ha aj he) (he:=he)) fun st H Q ⟨Hf,S,k⟩=>⟨Hf,S,fun vs av H1 g1 r1=>by
   cases r1 with
   | cons r t=>cases t;cases r with
     | @lst q vs _ z r=>exact⟨q,vs,rfl,.inl (.of (g1.sub _ _ z)),fun l hl=>k l av _ (g1.trans (.d5 g1.sub hl)) (g1.big.free hl) (g1.sub.free hl) ⟨vs,ak,r⟩⟩⟩
theorem DN:bootBuiltins "max"=some (.builtin "max"):=by decide +kernel
theorem DO:bootBuiltins "min"=some (.builtin "min"):=by decide +kernel
theorem xj (hm:X.mg "max"=none)(hc:X.calm=true)(ha:EA X G dl [a,b] [.int i,.int j])(hg:Gl X "max":=by rfl)(he:starEach [a,b] X.env=(false,eval a X.env)::starEach [b] X.env:=by rfl)(mC:(backTo pos (starEach [b] X.env)).any (·.1)=false:=by rfl) :
   EE X G dl (.Call (.Name "max" p) [a,b] [] pos) (.int (if j > i then j else i)):=
 gd (fk (Dp hc) hg hm DN ha (by decide) (by decide) he mC) fun st H Q ⟨Hf,S,k⟩=>⟨Hf,S,fun vs av H1 g1 r1=>by
   cases r1 with
   | cons r1 t1=>cases t1 with
     | cons r2 t2=>cases t2;cases r1;cases r2;exact⟨i,j,rfl,k _ av H1 g1 (.int _)⟩⟩
theorem FO (hm:X.mg "min"=none)(hc:X.calm=true)(ha:EA X G dl [a,b] [.int i,.int j])(hg:Gl X "min":=by rfl)(he:starEach [a,b] X.env=(false,eval a X.env)::starEach [b] X.env:=by rfl)(mC:(backTo pos (starEach [b] X.env)).any (·.1)=false:=by rfl) :
   EE X G dl (.Call (.Name "min" p) [a,b] [] pos) (.int (if j < i then j else i)):=
 gd (fk (Dq hc) hg hm DO ha (by decide) (by decide) he mC) fun st H Q ⟨Hf,S,k⟩=>⟨Hf,S,fun vs av H1 g1 r1=>by
   cases r1 with
   | cons r1 t1=>cases t1 with
     | cons r2 t2=>cases t2;cases r1;cases r2;exact⟨i,j,rfl,k _ av H1 g1 (.int _)⟩⟩
theorem qo (n:Nat){pn:Pos}(he:EE X G dl e d)(hl:ds.length < sizeLine)(hd:dl[n]?=some (.own (.lst ds)):=by rfl)(hN:X.N[n]?=some x:=by rfl)(hv:sU X.env.scope x:=by first | exact Or.inl rfl | exact Or.inr (Or.inl rfl) | exact Or.inr (Or.inr rfl))
   (lG:(x == ("__debug__":Str))=false:=by decide) (k7:(x == ("__classdict__":Str))=false:=by decide)
   (i4:attributeBase (.Name x pn) "append" X.env (eval (.Name x pn) X.env)=eval (.Name x pn) X.env:=by rfl)
   (tw:((backTo bP (starEach [e] X.env)).all (fun x=>!x.1) && (backToKw bP (keywordEach [] X.env)).all (fun x=>x.1.isSome) && decide ([e].length+([]:List Keyword).length+(if ([]:List Keyword).isEmpty then 0 else 1) < 30))=true:=by rfl)
   (i5:(apos.endLine == bP.line)=true:=by rfl) (mB:starEach [e] X.env=(false,eval e X.env)::starEach [] X.env:=by rfl) (hs:swapsWith (.Call (.Attribute (.Name x pn) "append" apos) [e] [] bP) none pos.line X.env=pure false:=by rfl) :
   ES X G E dl (.Expr (.Call (.Attribute (.Name x pn) "append" apos) [e] [] bP) pos) (.nx (dl.set n (.own (.lst (ds ++ [d]))))):=
 rb (kB (tu PySem.F.plainAttrs_list PySem.F.slot_list_append PySem.F.type_list_append nu (tQ (p:=pn) n hd hN hv lG k7) (ae he aj mB) i4 tw i5 mB rfl) hs) fun D st H ⟨Hf,S,k⟩=>by
   obtain⟨q,z1,z2,z3,vs,hq,rp⟩:=S.own n _ hd
   refine⟨Hf,q,S,z1,z2,⟨vs,hq,rp⟩,.inl ⟨rfl,vs,.of hq⟩,Hf,S,fun us av H1 g1 r1=>?_⟩
   cases r1 with
   | cons r1 t1=>
     cases t1
     refine⟨q,vs,_,rfl,rfl,g1.big _ _ hq,by rw[rp.length];exact hl,?_⟩
     exact k st av _ g1.bh ((S.grow g1).DG hd z1 ⟨_,ak,(rp.mono g1.bh).append (.cons r1 .nil)⟩)
theorem nz {K:W.Frag}{H:Hp}:∀ {vs:List V} {xs:List Str},bg K H vs (xs.map Dt.str)->vs=xs.map V.str
 | _,[],.nil=>rfl
 | _,x::xs,.cons r t=>by cases r;rw[nz t];rfl
end
def zo:Option Slot->Slot
 | some (.val d)=>.val d
 | _=>.aO
theorem vV {o:Option Slot}{w:Own}(h:zo o=.own w):False:=by
 unfold zo at h
 split at h <;> cases h
theorem vW {o:Option Slot}{d:Dt}(h:zo o=.val d):o=some (.val d):=by
 unfold zo at h
 split at h
 . cases h;rfl
 . cases h
def iw (dl:List Slot)(ix:List Nat):List Slot:=ix.map fun j=>zo dl[j]?
section
variable {K:W.Frag}{G:Gr}{st:L2.St}{Hf H av H1:Hp}{dl:List Slot}{ix:List Nat}
theorem JN (S:dk K G st Hf H dl)(s1:aF Hf av)(sb:aF av H1){v:V}{d:Dt}(r:Rep K av v d):dk K ⟨av,H1⟩ (some v::frees ix st) av H1 (.val d::iw dl ix):=by
 have no:∀ (i:Nat) o,(Slot.val d::iw dl ix)[i]?≠some (.own o):=fun i o h=>by
   cases i with
   | zero=>cases h
   | succ i=>
     rw[List.getElem?_cons_succ] at h
     unfold iw at h
     rw[List.getElem?_map] at h
     cases q:ix[i]? with
     | none=>rw[q] at h;cases h
     | some j=>
       rw[q] at h
       exact vV (Option.some.inj h)
 refine⟨.refl sb,by simp[frees,iw],fun i x h=>?_,fun i o h=>absurd h (no i o),fun i j o o' a h=>absurd h (no i o)⟩
 cases i with
 | zero=>cases h;exact⟨v,rfl,r⟩
 | succ i=>
   rw[List.getElem?_cons_succ] at h ⊢
   unfold iw at h
   unfold frees
   rw[List.getElem?_map] at h ⊢
   cases q:ix[i]? with
   | none=>rw[q] at h;cases h
   | some j=>
     rw[q] at h
     have hd:=vW (Option.some.inj h)
     obtain⟨v',z1,z2⟩:=S.val j x hd
     exact⟨v',by rw[Option.map_some,z1];rfl,z2.mono s1⟩
end
section
variable {X:Cx}{G:Gr}{E:XK}{dl:List Slot}{a b elt iter:Expr}{i j:Int}{ys:List Dt}{zs:Nat->Dt}{pos p px py vd:Pos}{o:Out}{x y:Str}{N:List Str}{ix:List Nat}{sc:Scope}{n:Nat}
def FP (X:Cx)(N:List Str)(sc:Scope)(dl:List Slot)(ix:List Nat)(elt:Expr)(n:Nat)(zs:Nat->Dt)(ys:List Dt):Prop:=
 ∀ k,k < n->∀ C fp s H G',EE (aV X N sc C fp s H) G' (.val (zs k)::iw dl ix) elt (ys.getD k .cL)
def NO (K:W.Frag)(dl:List Slot)(ix:List Nat)(n:Nat)(zs:Nat->Dt)(ys:List Dt):TE:=fun st H Q=>∃ k G',k < n/\tD K G' (.val (zs k)::iw dl ix) (ys.getD k .cL) st H Q
theorem FQ (h:FP X N sc dl ix elt n zs ys):∀ C fp s H,PE (aV X N sc C fp s H) elt (NO X.K dl ix n zs ys):=fun C fp s H pins s' st H' Q I ⟨k,G',hk,q⟩=>h k hk C fp s H G' pins s' st H' Q I q
theorem FR {st:L2.St}{Hf H:Hp}{J:It}{Q:VK}(S:dk X.K G st Hf H dl)(P0:ys.length=n)(hn:n<=sizeLine)(go:∀ av H1,bc Hf H av H1->∀ i,(i < n->J.go i H1/\∀ v H2,J.IK i H1 v H2->H2=H1/\Rep X.K av v (zs i))/\(i=n->J.stop i H1))(k:∀ p aH H',bc Hf H aH H'->H p=none->aH p=none->gc X.K aH H' p (.lst ys)->Q (.ref p) H'):∀ D,H D=none->NL (NO X.K dl ix n zs ys) (frees ix st) J D (fun _ H'=>Q (.ref D) H') H:=by
 intro D hD
 refine⟨fun i m vs H1=>m=n - i/\i<=n/\∃ av,bc Hf H av H1/\av D=none/\H1 D=some (.lst vs)/\bg X.K av vs (ys.take i),⟨n,rfl,Nat.zero_le _,Hf,.d5 S.sub hD,S.sub.free hD,ak,.nil⟩,?_⟩
 rintro i m vs H1 ⟨rfl,hi,av,g1,Rh,P1,rp⟩
 have hlen:=rp.length
 rw[List.length_take] at hlen
 by_cases cS:i < n
 . obtain⟨Ri,hy⟩:=(go av H1 g1 i).1 cS
   refine .inr ⟨Ri,by omega,fun v H2 y=>?_⟩
   obtain⟨e,rv⟩:=hy v H2 y
   subst e
   refine⟨i,⟨av,H2⟩,cS,av,JN S g1.bh g1.sub rv,fun z bW H3 g2 r2=>?_⟩
   have YZ:H3 D=some (.lst vs):=g2.big _ _ P1
   have Xc:bW D=none:=by
     cases q:bW D with
     | none=>rfl
     | some u=>
       obtain⟨o,z⟩:=g2.wY P1 (fun z=>z) q
       rw[Rh] at z;cases z
   have g:=g1.trans g2
   refine⟨YZ,n - (i+1),by omega,rfl,cS,bW,⟨fun a o h=>?_,g.bh,fun a o h=>?_,g.new⟩,Xc,ak,?_⟩
   . rw[ah (ax h hD)];exact g.big _ _ h
   . rw[ah (ax h Xc)];exact g2.sub _ _ h
   . have:ys.take (i+1)=ys.take i ++ [ys.getD i .cL]:=by
       rw[List.take_add_one,List.getD_eq_getElem?_getD,List.getElem?_eq_getElem (by omega)];rfl
     rw[this]
     exact(rp.mono g2.bh).append (.cons r2 .nil)
 . have e:i=n:=by omega
   subst e
   refine .inl ⟨(go av H1 g1 i).2 rfl,k D av H1 g1 hD Rh ⟨vs,P1,?_⟩⟩
   rw[List.take_of_length_le (by omega)] at rp
   exact rp
def U6 (wi:TI)(ix:List Nat)(te:TE):TE:=fun st H Q=>wi st H fun J H1=>∀ D,H1 D=none->NL te (frees ix st) J D (fun _ H'=>Q (.ref D) H') H1
theorem Rj {wi:TI}{te:TE}(hc:X.calm=true)(B:gf X N ix x sc)(hi:PI X (.Name x px) iter wi)(jf:∀ C fp s H,PE (aV X N sc C fp s H) elt te)(hs:∀ z,foldedSetIterable iter X.env z=pure z):PE X (.ListComp elt [⟨.Name x px,iter,[],0⟩] sc pos) (U6 wi ix te):=by
 intro pins s st H Q I h
 rw[eval_ListComp]
 refine wpAny_comprehension_free (use:=none) rfl hs (FF B I.ok) B.kind B.names (bK (hi pins s st H _ I h) fun v s1 h1=>bK h1 fun M0 s2 h2=>?_)
 obtain⟨it,fp,tn,J,H2,e,I2,T,ED,f2,hq⟩:=h2
 subst e
 refine Cj (RR:=fun acc C=>compPost (model X.prog X.w) X.A X.xe none (EP X pins st Q) acc C) hc B jf I2 T ED f2 hq ?_
 intro D C ws H' s' I' ⟨m,hn⟩ nW q
 exact⟨m,hn,fun h' JO=>⟨.ref D,H',I'.turned (t':=s'.toks) (it:=C) (fun b o hb e=>(JO.2 b hb).trans e) nW.1 nW.2.1 nW.2.2.2.1 nW.2.2.2.2.1 nW.2.2.2.2.2,rfl,q⟩⟩
theorem Rk {wi:TI}{te:TE}{nN:Nat}(hc:X.calm=true)(B:gf X N ix x sc)(hi:PI X (.Name x px) iter wi)(jf:∀ C fp s H,PE (aV X N sc C fp s H) elt te)(hs:∀ z,foldedSetIterable iter X.env z=pure z)(NP:swapsWith (.ListComp elt [⟨.Name x px,iter,[],0⟩] sc pos) (some (.Name y py)) vd.line X.env=pure true)(hN:X.N.Nodup)(hy:X.N[nN]?=some y)(hl:Loc X.env.scope y)(hf:X.fn y=true\/X.env.scope.names.lookup y=some .local):PS X (.Assign [.Name y py] (.ListComp elt [⟨.Name x px,iter,[],0⟩] sc pos) vd) (fun D st H=>U6 wi ix te st H fun v H'=>D.nx (st.set nN (some v)) H'):=by
 intro pins s st H D0 I h
 rw[exec_Assign_Name_used _ _ _ _ NP]
 refine wpAny_bind (wpAny_standAt (wpAny_bind ?_))
 show wpAny _ X.A (do let _ <- comprehension (.ListComp elt [⟨.Name x px,iter,[],0⟩] sc pos) sc X.env _ (newList []) false (eval iter X.env) (some (assign (.Name y py) X.env))) _ _ s
 refine wpAny_bind (wpAny_mono (wpAny_comprehension_free (use:=some (assign (.Name y py) X.env)) (Q:=fun _ s'=>SP X pins D0 .next s') rfl hs (FF B I.ok) B.kind B.names (bK (hi pins s st H _ I h) fun v s1 h1=>bK h1 fun M0 s2 h2=>?_)) (fun _ s' hq=>wpAny_pure (wpAny_pure hq)) fun _ _ z=>z)
 obtain⟨it,fp,tn,J,H2,e,I2,T,ED,f2,hq⟩:=h2
 subst e
 refine Cj (RR:=fun acc C=>compPost (model X.prog X.w) X.A X.xe (some (assign (.Name y py) X.env)) (fun _ s'=>SP X pins D0 .next s') acc C) hc B jf I2 T ED f2 hq ?_
 intro D C ws H' s' I' ⟨m,hn⟩ nW q
 refine wpAny_assign_Name (p7 I' hN hy hl (v:=.ref D) rfl (fun Nf U7 ⟨ad,DL,ha⟩=>?_) hf)
 have ne:C≠ad:=by
   rcases ha with z | z
   . rw[z];exact nW.2.1
   . exact Ne.symm (nW.2.2.2.2.1 _ _ z)
 exact⟨m,hn.sameBut DL ne,fun h' JO=>⟨_,H',U7.turned (t':=Nf.toks) (it:=C) (fun b o hb e=>(JO.2 b hb).trans e) nW.1 nW.2.1 nW.2.2.2.1 nW.2.2.2.2.1 nW.2.2.2.2.2,q⟩⟩
def FT (X:Cx)(G:Gr)(dl:List Slot)(n:Nat)(zs:Nat->Dt)(wi:TI):Prop:=∀ st H (R:It->Hp->Prop),(∃ Hf,dk X.K G st Hf H dl/\∀ J FU H0,bc Hf H FU H0 ->
 (∀ av H1,bc FU H0 av H1->∀ i,(i < n->J.go i H1/\∀ v H2,J.IK i H1 v H2->H2=H1/\Rep X.K av v (zs i))/\(i=n->J.stop i H1))->R J H0)->wi st H R
theorem tR (hn:-(2 ^ 62)<=j/\j < 2 ^ 62):FT X G dl j.toNat (fun k=>.int k) (LB (Q0 X.K G dl [.int j])):=fun st H R ⟨Hf,S,k⟩=>⟨Hf,S,fun vs av H1 g1 r1=>by
 cases r1 with
 | cons r t=>
   cases t;cases r
   refine⟨j,rfl,hn.1,hn.2,k _ av H1 g1 fun bW H2 g2 i=>⟨fun hi=>⟨hi,fun v H3 hy=>?_⟩,fun hi=>by rw[hi];exact Nat.le_refl _⟩⟩
   obtain⟨e1,e2⟩:=hy
   subst e2
   rw[Int.zero_add]
   exact⟨e1,.int _⟩⟩
theorem zp {wi:TI}(hs:FT X G dl n zs wi)(P0:ys.length=n)(hn:n<=sizeLine):∀ st H Q,TK X.K G dl (.lst ys) st H Q->U6 wi ix (NO X.K dl ix n zs ys) st H Q:=fun st H Q ⟨Hf,S,k⟩=>
 hs st H _ ⟨Hf,S,fun J FU H0 g0 src=>FR (S.grow g0) P0 hn src fun p aH H' g n1 n2 r=>k p aH H' (g0.trans g) (g0.big.free n1) n2 r⟩
theorem Rm {wi:TI}(hc:X.calm=true)(B:gf X N ix x sc)(hi:PI X (.Name x px) iter wi)(tS:FT X G dl n zs wi)(jf:FP X N sc dl ix elt n zs ys)(P0:ys.length=n)(hn:n<=sizeLine)(hs:∀ z,foldedSetIterable iter X.env z=pure z:=by intro _;rfl):EO X G dl (.ListComp elt [⟨.Name x px,iter,[],0⟩] sc pos) (.lst ys):=gd (Rj hc B hi (FQ jf) hs) (zp tS P0 hn)
theorem LQ (nN:Nat){wi:TI}(hc:X.calm=true)(hN:X.N.Nodup)(B:gf X N ix x sc)(hi:PI X (.Name x px) iter wi)(tS:FT X G dl n zs wi)(jf:FP X N sc dl ix elt n zs ys)(P0:ys.length=n)(hn:n<=sizeLine)(hs:∀ z,foldedSetIterable iter X.env z=pure z:=by intro _;rfl)(NP:swapsWith (.ListComp elt [⟨.Name x px,iter,[],0⟩] sc pos) (some (.Name y py)) vd.line X.env=pure true:=by rfl)(hy:X.N[nN]?=some y:=by rfl)(hl:Loc X.env.scope y:=by first | exact Or.inl rfl | exact Or.inr rfl)(hf:X.fn y=true\/X.env.scope.names.lookup y=some .local:=by first | exact .inl rfl | exact .inr rfl | assumption):ES X G E dl (.Assign [.Name y py] (.ListComp elt [⟨.Name x px,iter,[],0⟩] sc pos) vd) (.nx (dl.set nN (.own (.lst ys)))):=
 rb (Rk hc B hi (FQ jf) hs NP hN hy hl hf) fun D st H ⟨Hf,S,k⟩=>zp tS P0 hn st H _ ⟨Hf,S,fun p aH H' g n1 n2 r=>k _ aH H' g.bh (S.NM g n1 n2 r)⟩
end
theorem A5 {α:Type}{us:List α}{d:α}(h:(us ++ [d]).length=2):∃ a,us=[a]:=by
 match us,h with
 | [a],_=>exact⟨a,rfl⟩
 | [],h=>simp at h
 | _::_::r,h=>simp at h
theorem xk {α:Type}{us:List α}(h:(us ++ []).length=2):∃ a b,us=[a,b]:=by
 rw[List.append_nil] at h
 match us,h with
 | [a,b],_=>exact⟨a,b,rfl⟩
structure zq (K:W.Frag)(x qual:Str)(st:Stmt)(f:Addr)(fd:FuncData):Prop where
 ex:∃ (oc:Value) (od:Option Addr) (dV kV doc pm:Value) (an:Option Addr) (bA ct:Value) (vP:Array (Option Value)),
   fd=W.fnOf x qual (bS st) (aE st) (af st) dV kV doc pm an bA ct/\K.lookup f=some ⟨oc,od,.func fd,vP⟩/\W.codeIn K bA qual=true
theorem pC {K:W.Frag}{x qual:Str}{st:Stmt}{f:Addr}{oc:Value}{od an:Option Addr}{vP:Array (Option Value)}{dV kV doc pm bA ct:Value}(l:K.lookup f=some ⟨oc,od,.func (W.fnOf x qual (bS st) (aE st) (af st) dV kV doc pm an bA ct),vP⟩)(c:W.codeIn K bA qual=true):zq K x qual st f (W.fnOf x qual (bS st) (aE st) (af st) dV kV doc pm an bA ct):=⟨⟨oc,od,dV,kV,doc,pm,an,bA,ct,vP,rfl,l,c⟩⟩
section
variable {P:Program}{w:World}{K:W.Frag}{mg:Str->Option Value}{base:Heap}{CX:qe}{x qual:Str}{st:Stmt}{f:Addr}{fd:FuncData}{N ps:List Str}{k n:Nat}
theorem TL {R:List Dt->Res->Prop}(F:zq K x qual st f fd)(S:ar N ps (af st))(hn:ps.length=n)(o4:∀ (bA:Value) (A:Around) (outer:List Env) (s:Shared) (H:Hp) (E:XK) (G:Gr) (ds:List Dt) (r:Res),dU k (A.deeper (envOfC qual (af st) s.heap.objs.size f bA))->ds.length=n->R ds r->∃ o,Comes o r/\lM (yS CX P w K mg base N qual (af st) f bA A outer s H E) G E (slots N ds) (aE st) o):i3 P w K mg base CX (k+1) f fd ps (Cf K n R):=by
 obtain⟨oc,od,dV,kV,doc,pm,an,bA,ct,vP,rfl,lk,k7⟩:=F.ex
 refine Ff lk k7 S (fun vs H Q E ⟨Hf,ds,r,s,rp,hl,_⟩=>by rw[rp.length,hl,hn]) fun A outer s H vs Q E hr ⟨Hf,ds,r,sm,rp,hl,hR,hk⟩=>?_
 obtain⟨o,hc,hb⟩:=o4 bA A outer s H E ⟨Hf,H⟩ ds r hr hl hR
 exact⟨_,hb,Hf,vU sm rp,hc.ends hk⟩
def U8 (K:W.Frag)(C:Addr)(Hf H:Hp)(x:Addr)(Q:VK)(E:XK):Res->Prop
 | .own w=>((∃ fs,w=.obj C fs)\/∃ fs gs nm n,w=.qi C fs gs nm n)/\∀ aH H',bc Hf H aH H'->aH x=none->gc K aH H' x w->Q .cL H'
 | .exc c fs=>∀ od aH H',bc Hf H aH H'->ExcAt K aH od fs->E c od H'
 | .ret _=>False
def Xd (K:W.Frag)(C:Addr)(n:Nat)(R:List Dt->Res->Prop):Sp:=fun vs H Q E=>∃ Hf H1 x dx args ds r,vs=.ref x::args/\H=upd H1 x (.ins C dx [])/\H1 x=none/\aF Hf H1/\bg K Hf args ds/\ds.length+1=n/\R ds r/\U8 K C Hf H1 x Q E r
inductive xl (C x:Addr):Out->Res->Prop
 | nx {dl:List Slot} {fs:List (Str×Dt)} (h:dl[0]?=some (.own (.zg x C fs))):xl C x (.nx dl) (.own (.obj C fs))
 | ex (c:Value) (fs:List (Str×Dt)):xl C x (.ex c fs) (.exc c fs)
 | U9 {dl:List Slot} {fs:List (Str×Dt)} {gs:List (Nat->List (Key×FD))} {nm:List Str} {n:Nat} (h:dl[0]?=some (.own (.wZ x C fs gs nm n))):xl C x (.nx dl) (.own (.qi C fs gs nm n))
def qp (N:List Str)(x C:Addr)(ds:List Dt):List Slot:=.own (.zg x C [])::(ds.map Slot.val ++ List.replicate (N.length - (ds.length+1)) .aO)
theorem A6 {Hf H:Hp}{vs:List V}{ds:List Dt}{x dx C:Addr}(s:aF Hf H)(n:H x=none)(r:bg K Hf vs ds):dk K ⟨Hf,H⟩ (start N (.ref x::vs)) Hf (upd H x (.ins C dx [])) (qp N x C ds):=by
 have hl:=r.length
 have es:start N (V.ref x::vs)=some (.ref x)::(vs.map some ++ List.replicate (N.length - (vs.length+1)) none):=by
   unfold L2.start
   simp
 have wH:∀ (i:Nat) o,(qp N x C ds)[i+1]?≠some (.own o):=fun i o h=>by
   unfold qp at h
   rw[List.getElem?_cons_succ] at h
   by_cases hi:i < ds.length
   . rw[List.getElem?_append_left (by simpa using hi),List.getElem?_map] at h
     cases e:ds[i]? with
     | none=>rw[e] at h;cases h
     | some a=>rw[e] at h;cases h
   . rw[List.getElem?_append_right (by simpa using hi),List.getElem?_replicate] at h
     split at h <;> cases h
 rw[es]
 refine⟨.d5 s n,?_,fun i d h=>?_,fun i o h=>?_,fun i j o o' a h h' _ _=>?_⟩
 . unfold qp
   simp[hl]
 . cases i with
   | zero=>cases h
   | succ i=>
     unfold qp at h
     rw[List.getElem?_cons_succ] at h ⊢
     by_cases hi:i < ds.length
     . rw[List.getElem?_append_left (by simpa using hi),List.getElem?_map] at h
       cases e:ds[i]? with
       | none=>rw[e] at h;cases h
       | some a=>
         rw[e] at h;cases h
         obtain⟨v,h1,h2⟩:=r.get e
         refine⟨v,?_,h2⟩
         rw[List.getElem?_append_left (by simp;omega),List.getElem?_map,h1];rfl
     . rw[List.getElem?_append_right (by simpa using hi),List.getElem?_replicate] at h
       split at h <;> cases h
 . cases i with
   | zero=>
     cases h
     exact⟨x,rfl,s.free n,n,rfl,dx,[],ak,.nil⟩
   | succ i=>exact absurd h (wH i o)
 . cases i with
   | zero=>cases j with
     | zero=>rfl
     | succ j=>exact absurd h' (wH j _)
   | succ i=>exact absurd h (wH i _)
theorem TM {C:Addr}{R:List Dt->Res->Prop}(F:zq K x qual st f fd)(S:ar N ps (af st))(hn:ps.length=n)(o4:∀ (bA:Value) (A:Around) (outer:List Env) (s:Shared) (H:Hp) (E:XK) (G:Gr) (z:Addr) (ds:List Dt) (r:Res),dU k (A.deeper (envOfC qual (af st) s.heap.objs.size f bA))->ds.length+1=n->R ds r->∃ o,xl C z o r/\lM (yS CX P w K mg base N qual (af st) f bA A outer s H E) G E (qp N z C ds) (aE st) o):i3 P w K mg base CX (k+1) f fd ps (Xd K C n R):=by
 obtain⟨oc,od,dV,kV,doc,pm,an,bA,ct,vP,rfl,lk,k7⟩:=F.ex
 refine Ff lk k7 S (fun vs H Q E ⟨Hf,H1,z,dx,args,ds,r,e,_,_,_,rp,hl,_⟩=>by rw[e,List.length_cons,rp.length,hl,hn]) fun A outer s H vs Q E hr ⟨Hf,H1,z,dx,args,ds,r,e1,e2,hz,sm,rp,hl,hR,hk⟩=>?_
 subst e1 e2
 obtain⟨o,hc,hb⟩:=o4 bA A outer s _ E ⟨Hf,H1⟩ z ds r hr hl hR
 refine⟨_,hb,Hf,A6 sm hz rp,?_⟩
 cases hc with
 | nx h=>
   obtain⟨_,kk⟩:=hk
   intro ju aH H' s' S'
   obtain⟨a,_,q2,_,q4⟩:=S'.own 0 _ h
   obtain⟨rfl,Y0,fs',q5,q6⟩:=q4
   exact kk aH H' S'.gr q2 ⟨Y0,fs',q5,q6⟩
 | U9 h=>
   obtain⟨_,kk⟩:=hk
   intro ju aH H' s' S'
   obtain⟨a,_,q2,_,q4⟩:=S'.own 0 _ h
   obtain⟨rfl,q5⟩:=q4
   exact kk aH H' S'.gr q2 q5
 | ex c fs=>exact hk
end
def putD (f:Str)(v:Dt):List (Str×Dt)->List (Str×Dt)
 | []=>[(f,v)]
 | (g,x)::r=>if g=f then (g,v)::r else (g,x)::putD f v r
theorem aW.put {K:W.Frag}{H:Hp}{f:Str}{v:V}{d:Dt}(q:Rep K H v d):∀ {vs:List (Str×V)} {ds:List (Str×Dt)},aW K H vs ds->aW K H (eG f v vs) (putD f d ds)
 | _,_,.nil=>.cons q .nil
 | (k,x)::vs,(_,y)::ds,.cons h r=>by
   unfold eG putD
   by_cases e:k=f
   . rw[if_pos e,if_pos e];exact .cons q r
   . rw[if_neg e,if_neg e];exact .cons h (aW.put q r)
section
variable {X:Cx}{G:Gr}{E:XK}{dl:List Slot}{e c:Expr}{es:List Expr}{d:Dt}{ds:List Dt}{pos p apos:Pos}{x m:Str}{C z:Addr}{fs:List (Str×Dt)}{CX:qe}{k k' n:Nat}{R:List Dt->Res->Prop}{ob:Expr}{wo:Own}{dvs:List Dt}{body:List Stmt}
theorem jg {fn:Str}{pn:Pos}(he:EE X G dl e d)(cl:rV X.K C)(na:bu X.K C fn)(hd:dl[0]?=some (.own (.zg z C fs)):=by rfl)(hl:Nat.ble fs.length 999=true:=by rfl)(hN:X.N[0]?=some x:=by rfl)(hv:sU X.env.scope x:=by first | exact Or.inl rfl | exact Or.inr (Or.inl rfl) | exact Or.inr (Or.inr rfl))(lG:(x == ("__debug__":Str))=false:=by decide)(k7:(x == ("__classdict__":Str))=false:=by decide)(hs:swapsWith e (some (.Attribute (.Name x pn) fn apos)) pos.line X.env=pure false:=by rfl):ES X G E dl (.Assign [.Attribute (.Name x pn) fn apos] e pos) (.nx (dl.set 0 (.own (.zg z C (putD fn d fs))))):=
 rb (sZ (tQ (p:=pn) 0 hd hN hv lG k7) he hs) fun D st H ⟨Hf,S,k⟩=>⟨Hf,S,fun v av H1 g1 r1=>by
   have S1:=S.grow g1
   obtain⟨a,q1,q2,q3,q4⟩:=S1.own 0 _ hd
   obtain⟨e1,dx,fv,q5,q6⟩:=id q4
   refine⟨av,a,S1,q1,q2,q4,a,C,dx,fv,rfl,q5,cl,na,by rw[q6.length];exact Nat.lt_succ_of_le (Nat.le_of_ble_eq_true hl),?_⟩
   exact k st av _ g1.bh (S1.DG hd q1 ⟨e1,dx,_,ak,q6.put r1⟩)⟩
structure P2 (P:Program)(w:World)(K:W.Frag)(mg:Str->Option Value)(base:Heap)(CX:qe)(k:Nat)(x:Str)(C:Addr)(n:Nat)(R:List Dt->Res->Prop):Prop where
 ex:∃ f fd ps,i3 P w K mg base CX k f fd ps (Xd K C n R)/\L2.Mk K C f/\mg x=some (.ref C)/\Binds K fd ps []
theorem rY (F:P2 X.prog X.w X.K X.mg X.base CX k x C n R)(nx:Ay CX)(hr:dU k' X.A)(ha:EA X G dl (e::es) ds)(h:R ds (.own (.obj C fs)))(xb:k+1<=k':=by decide)(hl:ds.length+1=n:=by rfl)(hg:Gl X x:=by rfl)(lG:(x == ("__debug__":Str))=false:=by decide)(he:starEach (e::es) X.env=(false,eval e X.env)::starEach es X.env:=by rfl)(mC:(backTo pos (starEach es X.env)).any (·.1)=false:=by rfl):EO X G dl (.Call (.Name x p) (e::es) [] pos) (.obj C fs):=by
 obtain⟨f,fd,ps,Fo,M,hm,hb⟩:=F.ex
 refine gd (B3 (E:=E0) M Fo (hr.mono xb) hg hm hb .nil nx.passes ha lG he mC) fun st H Q ⟨Hf,S,kk⟩=>⟨Hf,S,fun vs av H1 g1 r1 y dx hy Rn ne=>?_⟩
 have QQ:(upd H1 dx (.own y)) y=none:=by rw[ah (Ne.symm ne)];exact hy
 have g2:bc av H1 av (upd H1 dx (.own y)):=.d5 g1.sub Rn
 refine⟨av,upd H1 dx (.own y),y,dx,vs ++ [],ds,.own (.obj C fs),rfl,rfl,QQ,g2.sub,by rw[List.append_nil];exact r1,hl,h,.inl ⟨fs,rfl⟩,fun aH H' g n1 r=>⟨rfl,?_⟩⟩
 exact kk y aH H' ((g1.trans g2).trans g) (g1.big.free hy) n1 r
theorem zr {gs:List (Nat->List (Key×FD))}{nm:List Str}{j:Nat}(F:P2 X.prog X.w X.K X.mg X.base CX k x C n R)(nx:Ay CX)(hr:dU k' X.A)(ha:EA X G dl (e::es) ds)(h:R ds (.own (.qi C fs gs nm j)))(xb:k+1<=k':=by decide)(hl:ds.length+1=n:=by rfl)(hg:Gl X x:=by rfl)(lG:(x == ("__debug__":Str))=false:=by decide)(he:starEach (e::es) X.env=(false,eval e X.env)::starEach es X.env:=by rfl)(mC:(backTo pos (starEach es X.env)).any (·.1)=false:=by rfl):EO X G dl (.Call (.Name x p) (e::es) [] pos) (.qi C fs gs nm j):=by
 obtain⟨f,fd,ps,Fo,M,hm,hb⟩:=F.ex
 refine gd (B3 (E:=E0) M Fo (hr.mono xb) hg hm hb .nil nx.passes ha lG he mC) fun st H Q ⟨Hf,S,kk⟩=>⟨Hf,S,fun vs av H1 g1 r1 y dx hy Rn ne=>?_⟩
 have QQ:(upd H1 dx (.own y)) y=none:=by rw[ah (Ne.symm ne)];exact hy
 have g2:bc av H1 av (upd H1 dx (.own y)):=.d5 g1.sub Rn
 refine⟨av,upd H1 dx (.own y),y,dx,vs ++ [],ds,.own (.qi C fs gs nm j),rfl,rfl,QQ,g2.sub,by rw[List.append_nil];exact r1,hl,h,.inr ⟨fs,gs,nm,j,rfl⟩,fun aH H' g n1 r=>⟨rfl,?_⟩⟩
 exact kk y aH H' ((g1.trans g2).trans g) (g1.big.free hy) n1 r
theorem vX (F:GF X.prog X.w X.K X.mg X.base CX k x n R)(nx:Ay CX)(hr:dU k' X.A)(ha:EA X G dl (e::es) ds)(h:R ds (.own wo))(xb:k<=k':=by decide)(hl:ds.length=n:=by rfl)(hg:Gl X x:=by rfl)(lG:(x == ("__debug__":Str))=false:=by decide)(he:starEach (e::es) X.env=(false,eval e X.env)::starEach es X.env:=by rfl)(mC:(backTo pos (starEach es X.env)).any (·.1)=false:=by rfl):EO X G dl (.Call (.Name x p) (e::es) [] pos) wo:=by
 obtain⟨f,fd,ps,F,hm,hk,hb⟩:=F.ex
 exact gd (B1 (E:=E0) F (hr.mono xb) hg hm hk hb .nil nx.passes ha lG he mC) fun st H Q ⟨Hf,S,k⟩=>⟨Hf,S,fun vs av H1 g1 r1=>⟨av,ds,.own wo,g1.sub,by rw[List.append_nil];exact r1,hl,h,fun p bW H2 g2 n1 n2 r2=>k p bW H2 (g1.trans g2) (g1.big.free n1) n2 r2⟩⟩
structure EI (P:Program)(w:World)(K:W.Frag)(mg:Str->Option Value)(base:Heap)(CX:qe)(k:Nat)(C:Addr)(m:Str)(n:Nat)(dvs:List Dt)(R:List Dt->Res->Prop):Prop where
 cl:rV K C
 ex:∃ f fd ps DI vds,i3 P w K mg base CX k f fd ps (Cf K n R)/\Meth K C m f/\Binds K fd ps DI/\Vals vds DI/\∀ H,bg K H vds dvs
theorem NQ {P:Program}{w:World}{K:W.Frag}{mg:Str->Option Value}{base:Heap}(F:MF P w K mg base CX k C m n R):EI P w K mg base CX k C m n [] R:=by
 obtain⟨f,fd,ps,Fo,hm,hb⟩:=F.ex
 exact⟨F.cl,f,fd,ps,[],[],Fo,hm,hb,.nil,fun _=>.nil⟩
theorem tT {pl:Sem Bool}(he:EE X G dl ob (.obj C fs))(F:EI X.prog X.w X.K X.mg X.base CX k C m n dvs R)(nx:Ay CX)(hr:dU k' X.A)(ha:EA X G dl (e::es) ds)(h:R (.obj C fs::(ds ++ dvs)) (.own wo))(xb:k<=k':=by decide)(hl:(Dt.obj C fs::(ds ++ dvs)).length=n:=by rfl)(qS:fs.lookup m=none:=by rfl)
   (mB:starEach (e::es) X.env=(false,eval e X.env)::starEach es X.env:=by rfl) (mC:(backTo pos (starEach es X.env)).any (·.1)=false:=by rfl)
   (ht:eval (.Call (.Attribute ob m apos) (e::es) [] pos) X.env=(do
     let ov <- eval ob X.env
     standAt apos.atName
     let (f,first) <- holding [ov] (getMethod ov m pl)
     callWith pos f first (backTo pos (starEach (e::es) X.env)) (backToKw pos (keywordEach [] X.env))):=by rfl):EO X G dl (.Call (.Attribute ob m apos) (e::es) [] pos) wo:=by
 obtain⟨f,fd,ps,DI,vds,Fo,hm,hb,hd,A2⟩:=F.ex
 exact gd (B2 (pl:=pl) (E:=E0) he F.cl hm Fo (hr.mono xb) hb hd nx.passes ha mB mC ht) fun st H Q ⟨Hf,S,k⟩=>⟨Hf,S,fun v av H1 g1 r1=>by
   cases r1 with
   | @obj a _ dx fv _ q r=>
     exact⟨a,dx,fv,rfl,fD g1.sub q,r.none_of qS,av,S.grow g1,fun vs bW H2 g2 r2=>⟨bW,_,.own wo,g2.sub,.cons (.obj (fD g2.bh q) (r.mono g2.bh)) (r2.append (A2 _)),hl,h,fun p iu H3 g3 n1 n2 r3=>k p iu H3 ((g1.trans g2).trans g3) ((g1.trans g2).big.free n1) n2 r3⟩⟩⟩
theorem FV {pl:Sem Bool}(he:EE X G dl ob (.obj C fs))(F:EI X.prog X.w X.K X.mg X.base CX k C m n dvs R)(nx:Ay CX)(hr:dU k' X.A)(h:R (.obj C fs::dvs) (.own wo))(xb:k<=k':=by decide)(hl:(Dt.obj C fs::dvs).length=n:=by rfl)(qS:fs.lookup m=none:=by rfl)
   (ht:eval (.Call (.Attribute ob m apos) [] [] pos) X.env=(do
     let ov <- eval ob X.env
     standAt apos.atName
     let (f,first) <- holding [ov] (getMethod ov m pl)
     callWith pos f first (backTo pos (starEach [] X.env)) (backToKw pos (keywordEach [] X.env))):=by rfl):EO X G dl (.Call (.Attribute ob m apos) [] [] pos) wo:=by
 obtain⟨f,fd,ps,DI,vds,Fo,hm,hb,hd,A2⟩:=F.ex
 exact gd (yR (pl:=pl) (E:=E0) he F.cl hm Fo (hr.mono xb) hb hd nx.passes ht) fun st H Q ⟨Hf,S,k⟩=>⟨Hf,S,fun v av H1 g1 r1=>by
   cases r1 with
   | @obj a _ dx fv _ q r=>
     exact⟨a,dx,fv,rfl,fD g1.sub q,r.none_of qS,av,_,.own wo,g1.sub,.cons (.obj q r) (A2 _),hl,h,fun p iu H3 g3 n1 n2 r3=>k p iu H3 (g1.trans g3) (g1.big.free n1) n2 r3⟩⟩
theorem FW {pl:Sem Bool}(he:EE X G dl ob (.obj C fs))(F:EI X.prog X.w X.K X.mg X.base CX k C m n dvs R)(nx:Ay CX)(hr:dU k' X.A)(ha:EA X G dl (e::es) ds)(h:R (.obj C fs::(ds ++ dvs)) (.ret d))(xb:k<=k':=by decide)(hl:(Dt.obj C fs::(ds ++ dvs)).length=n:=by rfl)(qS:fs.lookup m=none:=by rfl)
   (mB:starEach (e::es) X.env=(false,eval e X.env)::starEach es X.env:=by rfl) (mC:(backTo pos (starEach es X.env)).any (·.1)=false:=by rfl)
   (ht:eval (.Call (.Attribute ob m apos) (e::es) [] pos) X.env=(do
     let ov <- eval ob X.env
     standAt apos.atName
     let (f,first) <- holding [ov] (getMethod ov m pl)
     callWith pos f first (backTo pos (starEach (e::es) X.env)) (backToKw pos (keywordEach [] X.env))):=by rfl):EE X G dl (.Call (.Attribute ob m apos) (e::es) [] pos) d:=by
 obtain⟨f,fd,ps,DI,vds,Fo,hm,hb,hd,A2⟩:=F.ex
 exact Cg (pl:=pl) he F.cl hm Fo nx (hr.mono xb) hb hd A2 ha hl h qS mB mC ht
theorem Cm {pl:Sem Bool}(he:EE X G dl ob (.obj C fs))(F:EI X.prog X.w X.K X.mg X.base CX k C m n dvs R)(nx:Ay CX)(hr:dU k' X.A)(h:R (.obj C fs::dvs) (.ret d))(xb:k<=k':=by decide)(hl:(Dt.obj C fs::dvs).length=n:=by rfl)(qS:fs.lookup m=none:=by rfl)
   (ht:eval (.Call (.Attribute ob m apos) [] [] pos) X.env=(do
     let ov <- eval ob X.env
     standAt apos.atName
     let (f,first) <- holding [ov] (getMethod ov m pl)
     callWith pos f first (backTo pos (starEach [] X.env)) (backToKw pos (keywordEach [] X.env))):=by rfl):EE X G dl (.Call (.Attribute ob m apos) [] [] pos) d:=by
 obtain⟨f,fd,ps,DI,vds,Fo,hm,hb,hd,A2⟩:=F.ex
 exact zj (pl:=pl) he F.cl hm Fo nx (hr.mono xb) hb hd A2 hl h qS ht
def Ro (X:Cx)(G:Gr)(c:Expr):TT:=fun st H Q=>∃ dl b,EB X G dl c b/\Q1 X.K G dl b st H Q
theorem JP:PT X c (Ro X G c):=fun pins s st H Q I ⟨dl,b,h,q⟩=>h pins s st H Q I q
theorem FX (S:Nat->List Slot)(n:Nat)(hp:PassesOwn (model X.prog X.w) X.A X.env X.xe)(h0:Le (S 0) dl)(hc:∀ k,k < n->EB X G (S k) c true)(hn:EB X G (S n) c false)(hb:∀ k,k < n->Goes X G E body (S k) (S (k+1))):ES X G E dl (.While c body [] pos) (.nx (S n)):=by
 refine rb (yM hp (JP (G:=G)) (pv (G:=G) (E:=E))) fun D st H ⟨Hf,S0,k⟩=>?_
 refine⟨fun m st H=>∃ i,m=n - i/\i<=n/\∃ av,aF Hf av/\dk X.K G st av H (S i),⟨n,0,rfl,Nat.zero_le _,Hf,aF.refl _,S0.weak h0⟩,?_⟩
 rintro m TN H1 ⟨i,rfl,hi,av,s1,S1⟩
 by_cases cS:i < n
 . refine⟨S i,true,hc i cS,av,S1,fun bW H2 g2=>wX ⟨fun ju H'=>∃ iu,aF Hf iu/\dk X.K G ju iu H' (S (i+1)),fun ju H' h'=>⟨n - (i+1),by omega,i+1,rfl,cS,h'⟩,?_⟩⟩
   exact ny (hb i cS) (S1.grow g2) (fun Tq iu H3 s3 S3=>⟨iu,(s1.trans g2.bh).trans s3,S3⟩) (fun Tq iu H3 s3 S3=>⟨iu,(s1.trans g2.bh).trans s3,S3⟩)
 . have e:i=n:=by omega
   subst e
   exact⟨S i,false,hn,av,S1,fun bW H2 g2=>wW (k _ bW H2 (s1.trans g2.bh) (S1.grow g2))⟩
end
def tU (sc zt:Scope)(XN N:List Str)(ix:List Nat)(x:Str):Bool:=
 decide N.Nodup && (decide (N=x::ix.map (fun j=>XN.getD j "")) && (decide (sc.kind=.function) && (sc.names.all (fun y=>decide (y.2≠.cell)) && (sc.names.all (fun y=>decide (y.2=.local->sc.names.lookup y.1=some .local)) && (decide (sc.names.lookup x=some .local) &&
   (sc.names.all (fun y=>decide (y.2=.free->zt.names.lookup y.1=some .cell\/zt.names.lookup y.1=some .free)) && ix.all (fun j=>decide (sc.names.lookup (XN.getD j "")=some .free) && decide (j < XN.length))))))))
theorem A7 {X:Cx}{sc zt:Scope}{XN N:List Str}{ix:List Nat}{x:Str}(h:tU sc zt XN N ix x=true)(e1:X.env.scope=zt:=by rfl)(e2:X.N=XN:=by rfl):gf X N ix x sc:=by
 subst e1 e2
 unfold tU at h
 simp only[Bool.and_eq_true,List.all_eq_true,decide_eq_true_eq] at h
 obtain⟨h1,h2,h3,h4,h5,h6,h7,h8⟩:=h
 refine⟨h1,h2,h3,h4,h5,h6,h7,fun j hj=>?_⟩
 obtain⟨q1,q2⟩:=h8 j hj
 refine⟨X.N.getD j "",?_,q1⟩
 rw[List.getD_eq_getElem?_getD,List.getElem?_eq_getElem q2];rfl
def Xe:Expr->Scope
 | .ListComp _ _ sc _=>sc
 | .Call _ (.ListComp _ _ sc _::_) _ _=>sc
 | _=>{ kind:=.function,names:=[],isGenerator:=false,isCoroutine:=false}
def Rp:Stmt->Scope
 | .Assign _ e _=>Xe e
 | .Return (some e) _=>Xe e
 | _=>{ kind:=.function,names:=[],isGenerator:=false,isCoroutine:=false}
theorem tV (k:Str):∀ xs:List Str,QN (.str k) (xs.map V.str)=decide (k∈xs)
 | []=>by simp[QN]
 | x::xs=>by
   have ih:=tV k xs
   unfold QN at ih ⊢
   rw[List.map_cons,List.any_cons,ih]
   by_cases e:x=k
   . subst e;simp[IM]
   . have:¬ (k=x):=fun z=>e z.symm
     simp[IM,e,this]
theorem vY (xs:List Str):(xs.map V.str).all o5=true:=by
 induction xs with
 | nil=>rfl
 | cons x xs ih=>rw[List.map_cons,List.all_cons,ih];rfl
section
variable {X:Cx}{G:Gr}{dl:List Slot}{a b:Expr}{pos:Pos}{k:Str}{xs:List Str}
theorem LR {neg:Bool}:AZ X.K (Tu X.K neg) (.str k) (.tup (xs.map .str)) (.bl (if neg then !decide (k∈xs) else decide (k∈xs))):=fun v w Hf H Q s r1 r2 kk=>by
 cases r1
 cases r2 with
 | @tup q vs _ hq rp=>
   have ev:=nz rp
   subst ev
   refine⟨q,_,rfl,.inr (fm s hq),rfl,vY xs,?_⟩
   rw[tV]
   exact kk _ Hf H (.refl s) (.bl _)
theorem A8 (ha:EE X G dl a (.str k))(hb:EE X G dl b (.tup (xs.map .str)))(hm:behindInMarks .In b=false:=by rfl):EB X G dl (.Compare a [.In] [b] pos) (decide (k∈xs)):=lN vQ (LR (neg:=false)) hm ha hb
theorem Cn (ha:EE X G dl a (.str k))(hb:EE X G dl b (.tup (xs.map .str)))(hm:behindInMarks .NotIn b=false:=by rfl):EB X G dl (.Compare a [.NotIn] [b] pos) (!decide (k∈xs)):=lN o7 (LR (neg:=true)) hm ha hb
end
theorem zu {P:Program}{w:World}{A:Around}{R:Result->Shared->Prop}{s:Shared}{elt tg iter:Expr}{ifs:List Expr}{sc:Scope}{pos:Pos}{it acc:Value}{env:Env}(J:Nat->Shared->Prop)
   (turn:∀ n s,J n s->wpAny (model P w) A (pyNext it) (fun r s1=>match r with
     | none=>R (.ok .next) s1
     | some v=>wpAny (model P w) A (letOwnedTupleGo tg it v) (fun _ s2=>wpAny (model P w) A (assign tg env v) (fun _ s3=>
         wpAny (model P w) A (forIn ifs true fun c r=>if r=true then do let ok <- isTrue c env (eval c env);pure (ForInStep.yield ok) else pure (ForInStep.yield r)) (fun ok Va=>
         if ok=true then wpAny (model P w) A (eval elt env) (fun x s4=>wpAny (model P w) A (call (.builtin "list.append") [acc,x]) (fun _ s5=>∃ m,m < n/\J m s5) vc s4) vc Va
         else ∃ m,m < n/\J m Va) vc s3) vc s2) vc s1) vc s)
   (n:Nat) (h:J n s):codeAny (model P w) A (.compLoop (.ListComp elt [⟨tg,iter,ifs,0⟩] sc pos) 0 it acc env) R s:=by
 have off:∀ {B:Value->Shared->Prop} (x:Value) (s':Shared),vc x s'->B x s':=fun _ _ z=>z.elim
 refine codeAny_loop rfl J (fun n s hJ=>?_) n h
 show wpAny _ A ((compTurn (.ListComp elt [⟨tg,iter,ifs,0⟩] sc pos) 0 it acc env).onRaise (fun x=>(do noteFrame x env;theTreesLotGoes x))) _ _ s
 refine wpAny_noted ?_
 rw[compTurn_list]
 refine wpAny_bind (wpAny_standAt (wpAny_bind (wpAny_mono (turn n s hJ) (fun r s1 h1=>?_) off)))
 cases r with
 | none=>exact wpAny_pure h1
 | some v=>
   refine wpAny_bind (wpAny_mono h1 (fun _ s2 h2=>wpAny_bind (wpAny_mono h2 (fun _ s3 h3=>wpAny_bind (wpAny_mono h3 (fun ok Va Xf=>?_) off)) off)) off)
   cases ok with
   | false=>exact wpAny_pure ⟨rfl,Xf⟩
   | true=>exact wpAny_bind (wpAny_bind (wpAny_mono Xf (fun x s4 h4=>wpAny_bind (wpAny_mono h4 (fun _ s5 h5=>wpAny_pure (wpAny_pure ⟨rfl,h5⟩)) off)) off))
structure rg (X:Cx)(N tn:List Str)(ix:List Nat)(sc:Scope):Prop where
 nd:N.Nodup
 nm:N=tn ++ ix.map (fun j=>X.N.getD j "")
 kind:sc.kind=.function
 tM:∀ y∈sc.names,y.2≠.cell
 names:∀ y∈sc.names,y.2=.local->sc.names.lookup y.1=some .local
 hx:∀ x∈tn,sc.names.lookup x=some .local
 fr:∀ y∈sc.names,y.2=.free->X.env.kindOf y.1=some .cell\/X.env.kindOf y.1=some .free
 Q5:∀ j∈ix,∃ y,X.N[j]?=some y/\sc.names.lookup y=some .free
section
variable {X:Cx}{N tn:List Str}{ix:List Nat}{sc:Scope}{pins:List (Addr×Obj)}{st:L2.St}{H H':Hp}{s s':Shared}{C D:Addr}{fp:List Addr}{h1:Heap}
theorem Co (B:rg X N tn ix sc)(ok:X.Ok):closureFor sc X.env=pure (ky sc X.env):=xh fun y hy hk=>ok.has y.1 (B.fr y hy hk)
theorem pD (B:rg X N tn ix sc)(ok:X.Ok){y:Str}{c:Addr}(h:(ky sc X.env).lookup y=some c):X.env.cells.lookup y=some c/\(y,NameKind.free)∈sc.names:=by
 rcases pB _ _ h with⟨h1,h2⟩ | h1
 . obtain⟨c',h3⟩:=ok.has y (B.fr _ h1 rfl)
   rw[h3] at h2
   cases h2
   exact⟨h3,h1⟩
 . cases h1
theorem rZ (B:rg X N tn ix sc)(I:L2.Inv X pins st H s)(hC:s.heap.objs.size<=C)(hf:∀ b∈fp,j9 X pins H b)(cS:∀ b∈fp,b < s.heap.objs.size):(aV X N sc C fp s H).Ok where
 mod:=I.ok.mod
 kind:=B.kind
 glob:=I.ok.glob
 blt:=I.ok.blt
 above:=hC
 inj:=fun y z c h1 h2=>I.ok.inj y z c (pD B I.ok h1).1 (pD B I.ok h2).1
 has:=fun y hy=>by
   have hy:(relabel sc X.env).names.lookup y=some .cell\/(relabel sc X.env).names.lookup y=some .free:=hy
   have:(y,NameKind.free)∈sc.names:=by
     rcases hy with hy | hy
     . obtain⟨k',h1,h2⟩:=fo hy
       rcases h2 with h2 | h2
       . subst h2;exact absurd rfl (B.tM _ h1)
       . subst h2;exact h1
     . obtain⟨k',h1,h2⟩:=fo hy
       rcases h2 with h2 | h2 <;> subst h2 <;> exact h1
   exact i7 _ _ (.inl this)
 PQ:=fun y c h=>by cases h
 hd:=I.ok.hd
 frames:=I.ok.frames
 Qh:=.inl rfl
 Jd:=fun b hb=>⟨Nat.ne_of_lt (Nat.lt_of_lt_of_le (cS b hb) hC),fun y c h=>(hf b hb).2.2.2.2.1 y c (pD B I.ok h).1⟩
 bs:=I.bs
 BW:=Nat.le_trans I.ok.BW I.sz
 yF:=fun b o e hb=>by
   rcases (hf b hb).2.2.2.1 with z | z
   . exact I.ok.yF b o e z
   . exact absurd (Nat.lt_of_lt_of_le (Heap.lt_size e) (Nat.le_trans I.ok.BW z)) (Nat.lt_irrefl _)
 yG:=fun b hb z=>by
   rcases List.mem_cons.mp (I.sV b z) with z | z
   . exact(hf b hb).2.1 z
   . exact(hf b hb).2.2.1 z
 p0:=I.stack
 Ly:=I.rQ
theorem A9 (B:rg X N tn ix sc)(I:L2.Inv X pins st H s)(hf:∀ b∈fp,j9 X pins H b)(cS:∀ b∈fp,b < s.heap.objs.size)(hC:C=s.heap.objs.size+1)(k:∀ b o,s.heap.get? b=some o->h1.get? b=some o)(hn:h1.Ns C fun _=>none)(hD:h1.get? s.heap.objs.size=some { cls:=.type "list",data:=.seq ([]:List Value).toArray 0}){t':Nat}:L2.Inv (aV X N sc C fp s H) [] (List.replicate tn.length none ++ frees ix st) (upd H s.heap.objs.size (.lst [])) { s with heap:=h1,toks:=t'}:=by
 have LN:s.heap.objs.size<=C:=by rw[hC];exact Nat.le_succ _
 have fr:∀ a,s.heap.objs.size<=a->H a=none:=fun a ha=>I.aZ.fresh ha
 have ok:=rZ B I LN hf cS
 have Av:∀ y c,(ky sc X.env).lookup y=some c->H c=none/\c < s.heap.objs.size/\∃ v,s.heap.IsCell c v:=fun y c h=>by
   have h:=(pD B I.ok h).1
   obtain⟨v,q⟩:=I.cell y c h
   exact⟨I.n9 y c h,q.lt,v,q⟩
 refine⟨ok,rfl,I.bare,Un.laid k (Nat.le_refl _) (fr _ (Nat.le_refl _)),⟨_,hn,fun i y v e1 e2 e3=>?_⟩,fun y c h=>?_,?_,fun y c h=>?_,fun p hp=>absurd (show p∈([]:List (Addr×Obj)) from hp) (by simp),?_,?_⟩
 . have e1:N[i]?=some y:=e1
   by_cases hi:i < tn.length
   . rw[List.getElem?_append_left (by simpa using hi),List.getElem?_replicate,if_pos hi] at e2
     cases e2
   . have hi:tn.length<=i:=Nat.le_of_not_lt hi
     rw[B.nm,List.getElem?_append_right hi,List.getElem?_map] at e1
     rw[List.getElem?_append_right (by simpa using hi),List.length_replicate] at e2
     unfold frees at e2
     rw[List.getElem?_map] at e2
     cases q:ix[i - tn.length]? with
     | none=>rw[q] at e1;cases e1
     | some j=>
       rw[q] at e1 e2
       obtain⟨y',IP,FG⟩:=B.Q5 j (List.mem_of_getElem? q)
       have JJ:=PySem.mem_of_lookup FG
       have ey:y=y':=by
         have e1:X.N.getD j ""=y:=Option.some.inj e1
         rw[List.getD_eq_getElem?_getD,IP] at e1
         exact e1.symm
       subst ey
       have e2:(st[j]?).join=some v:=Option.some.inj e2
       have Q6:st[j]?=some (some v):=by
         cases q2:st[j]? with
         | none=>rw[q2] at e2;cases e2
         | some z=>rw[q2] at e2;rw[show z=some v from e2]
       have kd:=B.fr _ JJ rfl
       have Q7:sU X.env.scope y:=by
         rcases kd with z | z
         . exact .inr (.inl z)
         . exact .inr (.inr z)
       obtain⟨m,_,hl⟩:=I.loc
       obtain⟨u,r,l⟩:=hl j y v IP Q6 Q7
       refine⟨u,r,.inr ?_⟩
       rcases l with⟨z,_⟩ | ⟨_,c,hc,ic⟩
       . rcases kd with z' | z' <;> rw[z] at z' <;> cases z'
       . obtain⟨c',Aw⟩:=i7 (cells:=X.env.cells) sc.names [] (.inl JJ)
         have:=(pD B I.ok Aw).1
         rw[hc] at this;cases this
         obtain⟨oc,BY,hd⟩:=ic
         refine⟨?_,c,Aw,oc,k _ _ BY,hd⟩
         rcases e3 with e3 | e3 | e3
         . have e3:(relabel sc X.env).names.lookup y=some .local:=e3
           rcases lP (env:=X.env) FG with z | z
           . exact absurd (e3.symm.trans z) (by decide)
           . exact absurd (e3.symm.trans z) (by decide)
         . exact .inl e3
         . exact .inr e3
 . obtain⟨_,_,v,oc,BY,hd⟩:=Av y c h
   exact⟨v,oc,k _ _ BY,hd⟩
 . show upd H s.heap.objs.size (.lst []) C=none
   rw[ah (by rw[hC];exact Nat.succ_ne_self _)]
   exact fr _ LN
 . show upd H s.heap.objs.size (.lst []) c=none
   obtain⟨q1,q2,_⟩:=Av y c h
   rw[ah (Nat.ne_of_lt q2)]
   exact q1
 . exact I.aZ.laid k (Nat.le_refl _) ⟨Nat.zero_le _,[],0,.nil,hD⟩
 . show(List.replicate tn.length none ++ frees ix st).length=N.length
   rw[B.nm]
   unfold frees
   simp
def LU (X:Cx)(ifs:List Expr)(tt:TT):Prop:=∀ (pins:List (Addr×Obj)) (s:Shared) (st:L2.St) (H:Hp) (Q:Bool->Hp->Prop),L2.Inv X pins st H s->tt st H Q ->
 wpAny (model X.prog X.w) X.A (forIn ifs true fun c r=>if r=true then do let ok <- isTrue c X.env (eval c X.env);pure (ForInStep.yield ok) else pure (ForInStep.yield r)) (fun b s'=>∃ H',L2.Inv X pins st H' s'/\Q b H') X.xe s
theorem Cp {c:Expr}{tt:TT}(h:PT X c tt):LU X [c] tt:=fun pins s st H Q I q=>wpAny_tests_one (bK (h pins s st H _ I q) fun b s' z=>z)
def Cq (nt:Nat)(g:TG)(tt:TT)(te:TE)(fs:L2.St)(J:It)(D:Addr)(Q:List V->Hp->Prop)(H:Hp):Prop:=
 ∃ W:Nat->Nat->List V->Hp->Prop,(∃ m,W 0 m [] (upd H D (.lst [])))/\∀ i m ys H1,W i m ys H1 ->
   (J.stop i H1/\Q ys H1)\/(J.go i H1/\ys.length < sizeLine/\∀ σ:L2.St,σ.length=nt->∀ v H2,J.IK i H1 v H2->g v (σ ++ fs) H2 fun σ2 H3=>∃ σ':L2.St,σ2=σ' ++ fs/\σ'.length=nt /\
     tt σ2 H3 fun b H4=>if b=true then te σ2 H4 fun y H5=>H5 D=some (.lst ys)/\∃ m',m' < m/\W (i+1) m' (ys ++ [y]) (upd H5 D (.lst (ys ++ [y]))) else ∃ m',m' < m/\W (i+1) m' ys H4)
theorem zv {elt iter tg:Expr}{ifs:List Expr}{pos:Pos}{g:TG}{tt:TT}{te:TE}{J:It}{it:Addr}{tj:Nat->Heap->Prop}{Q:Addr->List V->Hp->Prop}{RR:Value->Addr->Result->Shared->Prop}{E:Value->Shared->Prop}(hc:X.calm=true)(B:rg X N tn ix sc)(hg:∀ C fp s H,PG (aV X N sc C fp s H) tg g)(ht:∀ C fp s H,LU (aV X N sc C fp s H) ifs tt)(jf:∀ C fp s H,PE (aV X N sc C fp s H) elt te)(I:L2.Inv X pins st H s)(T:Turn X.prog X.w X.K tg J fp it tj)(h0:tj 0 s.heap)(hf:∀ b∈fp,j9 X pins H b)(hq:∀ D,H D=none->Cq tn.length g tt te (frees ix st) J D (Q D) H)(Q8:∀ D C ys H' s',L2.Inv X pins st H' s'->(∃ m,s'.heap.Ns C m)->j9 X pins H' C->Q D ys H'->RR (.ref D) C (.ok .next) s'):wpAny (model X.prog X.w) X.A (newList []) (fun acc s3=>wpAny (model X.prog X.w) X.A (newFunctionEnv sc X.env.globals (ky sc X.env) [] X.env.qual none .none (some X.env)) (fun zl s4=>codeAny (model X.prog X.w) X.A (.compStart (.ListComp elt [⟨tg,iter,ifs,0⟩] sc pos) 0 (.ref it) acc { zl with scope:=relabel sc X.env}) (RR acc zl.locals) s4) E s3) E s:=by
 have cS:∀ b∈fp,b < s.heap.objs.size:=fun b hb=>by
   obtain⟨o,e,_⟩:=T.obj _ _ h0 b hb
   exact Heap.lt_size e
 refine wpAny_newObj_type (wpAny_newFunctionEnv B.tM (fun y hy=>absurd hy (by simp)) (fun h1 EG DL=>?_) B.kind)
 dsimp only at EG DL ⊢
 generalize hG:s.heap.push { cls:=.type "list",dict:=none,data:=.seq ([]:List Value).toArray}=g' at EG DL ⊢
 have hC:g'.objs.size=s.heap.objs.size+1:=by rw[<- hG,Heap.size_push]
 have TJ:s.heap.objs.size≠g'.objs.size:=by rw[hC];exact Nat.ne_of_lt (Nat.lt_succ_self _)
 have old:∀ b o,s.heap.get? b=some o->h1.get? b=some o:=fun b o e=>
   DL.extBut b o (by rw[hC];exact Nat.ne_of_lt (Nat.lt_succ_of_lt (Heap.lt_size e))) (Heap.get?_push_of_some _ (hG ▸ Heap.get?_push_of_some _ e))
 have FH:h1.get? s.heap.objs.size=some { cls:=.type "list",data:=.seq ([]:List Value).toArray 0}:=DL.extBut _ _ TJ (Heap.get?_push_of_some _ (hG ▸ Heap.get?_push_size _ rfl))
 have hD:H s.heap.objs.size=none:=I.aZ.fresh (Nat.le_refl _)
 obtain⟨W,⟨m0,w0⟩,turn⟩:=hq _ hD
 have I0:=A9 (t':=s.toks+([]:List (Str×Value)).length) B I hf cS hC old (by simpa using EG) FH
 have LO:tj 0 h1:=T.keep _ _ _ h0 fun b _ o e=>old b o e
 have mQ:s.heap.objs.size<=g'.objs.size:=by rw[hC];exact Nat.le_succ _
 have oF:∀ {H':Hp},(∀ b∈fp,H' b=none)->∀ b∈fp,j9 (aV X N sc g'.objs.size fp s H) [] H' b:=fun {H'} hn b hb=>
   ⟨hn b hb,((rZ B I mQ hf cS).Jd b hb).1,(rZ B I mQ hf cS).yG b hb,.inl hb,((rZ B I mQ hf cS).Jd b hb).2,fun p hp=>absurd (show p∈([]:List (Addr×Obj)) from hp) (by simp)⟩
 have loop:∀ s3:Shared,s3={ s with heap:=h1,toks:=s.toks+([]:List (Str×Value)).length} ->
     codeAny (model X.prog X.w) X.A (.compLoop (.ListComp elt [⟨tg,iter,ifs,0⟩] sc pos) 0 (.ref it) (.ref s.heap.objs.size) (compEnvC sc (ky sc X.env) g'.objs.size X.env)) (RR (.ref s.heap.objs.size) g'.objs.size) s3:=by
   rintro s3 rfl
   refine zu (fun n s'=>∃ i ys σ H',σ.length=tn.length/\L2.Inv (aV X N sc g'.objs.size fp s H) [] (σ ++ frees ix st) H' s'/\tj i s'.heap/\(∀ b∈fp,H' b=none)/\W i n ys H') ?_ m0
     ⟨0,[],List.replicate tn.length none,_,by simp,I0,LO,fun b hb=>?_,w0⟩
   . rintro n s5 ⟨i,ys,σ,H5,hσ,I5,EF,IL,w5⟩
     rcases turn i n ys H5 w5 with⟨stop,qn⟩ | ⟨go,hz,step⟩
     . refine bK (T.done (aV X N sc g'.objs.size fp s H) rfl rfl rfl hc i [] s5 _ H5 vc I5 (oF IL) EF stop) fun r s6 ⟨hr,I6⟩=>?_
       subst hr
       refine Q8 _ _ ys H5 s6 ?_ ?_ (I.u5 mQ I6.free) qn
       . exact I.E2 I6.os I6.base I6.aZ I6.bare fun b hb=>⟨(hf b hb).2.2.2.1,(hf b hb).2.1,(hf b hb).2.2.2.2.1,(hf b hb).2.2.2.2.2⟩
       . obtain⟨m,hm,_⟩:=I6.loc
         exact⟨m,hm⟩
     . refine bK (T.item (aV X N sc g'.objs.size fp s H) rfl rfl rfl hc i [] s5 _ H5 vc I5 (oF IL) EF go) fun r s6 ⟨u,hr,h6⟩=>?_
       subst hr
       refine bK h6 fun _ s7 ⟨v,H7,I7,r7,y7,FI,Q9⟩=>?_
       have Ra:=I7.pinned (oF Q9) (T.obj _ _ FI)
       refine bK (hg g'.objs.size fp s H _ s7 _ H7 v u _ Ra r7 (step σ hσ v H7 y7)) fun _ s8 h8=>?_
       obtain⟨σ8,H8,I8,σ',e8,Rq,h8⟩:=h8
       subst e8
       have pinned:∀ {σ9:L2.St} {H9:Hp} {s9:Shared},L2.Inv (aV X N sc g'.objs.size fp s H) ([] ++ qb fp s7.heap) σ9 H9 s9->tj (i+1) s9.heap/\∀ b∈fp,H9 b=none:=fun {σ9 H9 s9} I9=>by
         refine⟨T.keep _ _ _ FI fun b hb o e=>(I9.pin (b,o) (List.mem_append_right _ (List.mem_append_right _ (fj hb e)))).1,fun b hb=>?_⟩
         obtain⟨o,e,d⟩:=T.obj _ _ FI b hb
         exact(I9.pin (b,o) (List.mem_append_right _ (List.mem_append_right _ (fj hb e)))).2.1
       refine bK (ht g'.objs.size fp s H _ s8 _ H8 _ I8 h8) fun ok Vb JQ=>?_
       obtain⟨Vc,JR,JQ⟩:=JQ
       cases ok with
       | false=>
         obtain⟨m',hm,w8⟩:=JQ
         exact⟨m',hm,i+1,ys,σ',_,Rq,JR.i0 (pins:=[]),(pinned JR).1,(pinned JR).2,w8⟩
       | true=>
         refine bK (jf g'.objs.size fp s H _ Vb _ Vc _ JR JQ) fun z s9 ⟨y,H9,I9,r9,Rb,m',hm,w9⟩=>?_
         refine bK (nu _ s9 _ H9 (.ref s.heap.objs.size) [y] (.ref s.heap.objs.size) [z] (fun _ H'=>H'=upd H9 s.heap.objs.size (.lst (ys ++ [y]))) I9 rfl (.cons r9 .nil) ⟨_,ys,y,rfl,rfl,Rb,hz,rfl⟩) fun _ Xa Rc=>?_
         obtain⟨_,Xb,FJ,_,rfl⟩:=Rc
         exact⟨m',hm,i+1,ys ++ [y],σ',_,Rq,FJ.i0 (pins:=[]),(pinned FJ).1,(pinned FJ).2,w9⟩
   . rw[ah (Nat.ne_of_lt (cS b hb))]
     exact(hf b hb).1
 exact codeAny_compStart_list (loop _ rfl) (T.self _ 0 _ _ _ LO (loop _ rfl))
end
section
variable {K:W.Frag}{G:Gr}{st:L2.St}{Hf H av H1:Hp}{dl:List Slot}{ix:List Nat}
structure Rr (K:W.Frag)(Hf:Hp)(σ:L2.St)(sl:List Slot):Prop where
 len:σ.length=sl.length
 val:∀ (i:Nat) d,sl[i]?=some (.val d)->∃ v,σ[i]?=some (some v)/\Rep K Hf v d
 no:∀ (i:Nat) o,sl[i]?≠some (.own o)
theorem Rr.mono {σ:L2.St}{sl:List Slot}(h:Rr K Hf σ sl)(s:aF Hf av):Rr K av σ sl:=⟨h.len,fun i d e=>let ⟨v,h1,h2⟩:=h.val i d e;⟨v,h1,h2.mono s⟩,h.no⟩
theorem zw {σ:L2.St}{sl:List Slot}(S:dk K G st Hf H dl)(s1:aF Hf av)(sb:aF av H1)(r:Rr K av σ sl):dk K ⟨av,H1⟩ (σ ++ frees ix st) av H1 (sl ++ iw dl ix):=by
 have no:∀ (i:Nat) o,(sl ++ iw dl ix)[i]?≠some (.own o):=fun i o h=>by
   by_cases hi:i < sl.length
   . rw[List.getElem?_append_left hi] at h
     exact r.no i o h
   . rw[List.getElem?_append_right (Nat.le_of_not_lt hi)] at h
     unfold iw at h
     rw[List.getElem?_map] at h
     cases q:ix[i - sl.length]? with
     | none=>rw[q] at h;cases h
     | some j=>
       rw[q] at h
       exact vV (Option.some.inj h)
 refine⟨.refl sb,by simp[frees,iw,r.len],fun i x h=>?_,fun i o h=>absurd h (no i o),fun i j o o' a h=>absurd h (no i o)⟩
 by_cases hi:i < sl.length
 . rw[List.getElem?_append_left hi] at h
   rw[List.getElem?_append_left (by rw[r.len];exact hi)]
   exact r.val i x h
 . have hi:=Nat.le_of_not_lt hi
   rw[List.getElem?_append_right hi] at h
   rw[List.getElem?_append_right (by rw[r.len];exact hi),r.len]
   unfold iw at h
   unfold frees
   rw[List.getElem?_map] at h ⊢
   cases q:ix[i - sl.length]? with
   | none=>rw[q] at h;cases h
   | some j=>
     rw[q] at h
     have hd:=vW (Option.some.inj h)
     obtain⟨v',z1,z2⟩:=S.val j x hd
     exact⟨v',by rw[Option.map_some,z1];rfl,z2.mono s1⟩
def NR (K:W.Frag)(nt:Nat)(g:TG)(z:Dt)(sl:List Slot):Prop:=∀ (σ fs:L2.St) (Hf H:Hp) (v:V) (Q:L2.St->Hp->Prop),σ.length=nt->aF Hf H->Rep K Hf v z ->
 (∀ σ':L2.St,σ'.length=nt->Rr K Hf σ' sl->Q (σ' ++ fs) H)->g v (σ ++ fs) H Q
theorem e6 {z:Dt}:NR K 1 (oe 0) z [.val z]:=fun σ fs Hf H v Q hl s r k=>by
 cases σ with
 | nil=>cases hl
 | cons a σ=>
   have:σ=[]:=List.eq_nil_of_length_eq_zero (by simpa using hl)
   subst this
   refine k [some v] rfl ⟨rfl,fun i d h=>?_,fun i o h=>?_⟩
   . cases i with
     | zero=>cases h;exact⟨v,rfl,r⟩
     | succ i=>cases h
   . cases i with
     | zero=>cases h
     | succ i=>cases h
abbrev LV (K:W.Frag):TG:=MX K 2 (yL (oe 0) (yL (oe 1) MW))
theorem JS {a b:Dt}:NR K 2 (LV K) (.tup [a,b]) [.val a,.val b]:=fun σ fs Hf H v Q hl s r k=>by
 cases σ with
 | nil=>cases hl
 | cons x σ=>cases σ with
   | nil=>cases hl
   | cons y σ=>
     have:σ=[]:=List.eq_nil_of_length_eq_zero (by simpa using hl)
     subst this
     cases r with
     | @tup q vs _ hq rp=>
       cases rp with
       | cons r1 t1=>cases t1 with
         | cons r2 t2=>
           cases t2
           refine⟨q,_,rfl,fm s hq,rfl,_,_,rfl,_,_,rfl,rfl,k [some _,some _] rfl ⟨rfl,fun i d h=>?_,fun i o h=>?_⟩⟩
           . cases i with
             | zero=>cases h;exact⟨_,rfl,r1⟩
             | succ i=>cases i with
               | zero=>cases h;exact⟨_,rfl,r2⟩
               | succ i=>cases h
           . cases i with
             | zero=>cases h
             | succ i=>cases i with
               | zero=>cases h
               | succ i=>cases h
end
section
variable {X:Cx}{G:Gr}{E:XK}{dl:List Slot}{a b c elt iter tg:Expr}{ifs:List Expr}{i:Int}{pos p px py vd:Pos}{o:Out}{x y:Str}{N tn:List Str}{ix:List Nat}{sc:Scope}{n:Nat}
def rh (X:Cx)(G:Gr)(dl:List Slot)(zs:List Dt)(wi:TI):Prop:=∀ st H (R:It->Hp->Prop),(∃ Hf,dk X.K G st Hf H dl/\∀ J FU H0,bc Hf H FU H0 ->
 (∀ av H1,aF FU av->aF av H1->∀ i,(∀ z,zs[i]?=some z->J.go i H1/\∀ v H2,J.IK i H1 v H2->∃ bW,bc av H1 bW H2/\Rep X.K bW v z)/\(i=zs.length->J.stop i H1))->R J H0)->wi st H R
theorem lh {xs:List Dt}:rh X G dl xs (E4 X.K (tD X.K G dl (.lst xs))):=fun st H R ⟨Hf,S,k⟩=>⟨Hf,S,fun v av H1 g1 r1=>by
 cases r1 with
 | @lst q vs _ hq rp=>
   have hl:=rp.length
   refine⟨q,rfl,⟨vs,.of (g1.sub _ _ hq)⟩,k _ av H1 g1 fun bW H2 s1 s2 i=>⟨fun z hz=>?_,fun hi=>⟨vs,.of (s2 _ _ (s1 _ _ hq)),by omega⟩⟩⟩
   obtain⟨u,z1,z2⟩:=rp.get hz
   have hs:lI X.K H2 q vs:=.of (s2 _ _ (s1 _ _ hq))
   refine⟨⟨vs,u,hs,z1⟩,fun v H3 hy=>?_⟩
   obtain⟨e1,e2⟩:=hy
   have e2:=e2 vs hs
   rw[z1] at e2;cases e2
   subst e1
   exact⟨bW,.refl s2,z2.mono s1⟩⟩
variable {α:Type}{as:List α}{z f:α->Dt}{sl:α->List Slot}{keep:α->Bool}{g:TG}{wi:TI}
def JT (K:W.Frag)(dl:List Slot)(ix:List Nat)(as:List α)(sl:α->List Slot)(keep:α->Bool):TT:=fun st H Q=>∃ a G',a∈as/\Q1 K G' (sl a ++ iw dl ix) (keep a) st H Q
def JU (K:W.Frag)(dl:List Slot)(ix:List Nat)(as:List α)(sl:α->List Slot)(keep:α->Bool)(f:α->Dt):TE:=fun st H Q=>∃ a G',a∈as/\keep a=true/\tD K G' (sl a ++ iw dl ix) (f a) st H Q
inductive zx (X:Cx)(N:List Str)(sc:Scope)(dl:List Slot)(ix:List Nat)(as:List α)(sl:α->List Slot)(keep:α->Bool):List Expr->Prop
 | nil:(∀ a∈as,keep a=true)->zx X N sc dl ix as sl keep []
 | one {c:Expr}:(∀ a∈as,∀ C fp s H G',EB (aV X N sc C fp s H) G' (sl a ++ iw dl ix) c (keep a))->zx X N sc dl ix as sl keep [c]
theorem FY (h:zx X N sc dl ix as sl keep ifs):∀ C fp s H,LU (aV X N sc C fp s H) ifs (JT X.K dl ix as sl keep):=fun C fp s H=>by
 cases h with
 | nil h=>exact fun pins s' st H' Q I ⟨a,G',ha,Hf,S,k⟩=>wpAny_tests_nil ⟨H',I,by have:=k Hf H' (.refl S.sub);rw[h a ha] at this;exact this⟩
 | one h=>exact Cp fun pins s' st H' Q I ⟨a,G',ha,q⟩=>h a ha C fp s H G' pins s' st H' Q I q
def NS (X:Cx)(N:List Str)(sc:Scope)(dl:List Slot)(ix:List Nat)(as:List α)(sl:α->List Slot)(keep:α->Bool)(f:α->Dt)(elt:Expr):Prop:=∀ a∈as,keep a=true->∀ C fp s H G',EE (aV X N sc C fp s H) G' (sl a ++ iw dl ix) elt (f a)
theorem FZ (h:NS X N sc dl ix as sl keep f elt):∀ C fp s H,PE (aV X N sc C fp s H) elt (JU X.K dl ix as sl keep f):=fun C fp s H pins s' st H' Q I ⟨a,G',ha,hk,q⟩=>h a ha hk C fp s H G' pins s' st H' Q I q
theorem DP {nt:Nat}{st:L2.St}{Hf H:Hp}{J:It}{Q:VK}(S:dk X.K G st Hf H dl)(hn:as.length<=sizeLine)(F0:∀ a∈as,NR X.K nt g (z a) (sl a))(go:∀ av H1,bc Hf H av H1->∀ i,(∀ y,(as.map z)[i]?=some y->J.go i H1/\∀ v H2,J.IK i H1 v H2->∃ bW,bc av H1 bW H2/\Rep X.K bW v y)/\(i=(as.map z).length->J.stop i H1))(k:∀ p aH H',bc Hf H aH H'->H p=none->aH p=none->gc X.K aH H' p (.lst ((as.filter keep).map f))->Q (.ref p) H'):∀ D,H D=none->Cq nt g (JT X.K dl ix as sl keep) (JU X.K dl ix as sl keep f) (frees ix st) J D (fun _ H'=>Q (.ref D) H') H:=by
 intro D hD
 refine⟨fun i m vs H1=>m=as.length - i/\i<=as.length/\∃ av,bc Hf H av H1/\av D=none/\H1 D=some (.lst vs)/\bg X.K av vs (((as.take i).filter keep).map f),⟨as.length,rfl,Nat.zero_le _,Hf,.d5 S.sub hD,S.sub.free hD,ak,.nil⟩,?_⟩
 rintro i m vs H1 ⟨rfl,hi,av,g1,Rh,P1,rp⟩
 have hlen:=rp.length
 rw[List.length_map] at hlen
 have Xg:((as.take i).filter keep).length<=i:=Nat.le_trans (List.length_filter_le _ _) (by rw[List.length_take];omega)
 have Ba:∀ {Vd Ha TQ Hb:Hp},bc Vd Ha TQ Hb->Vd D=none->Ha D=some (.lst vs)->TQ D=none/\Hb D=some (.lst vs):=fun {Vd Ha TQ Hb} gg e1 e2=>by
   refine⟨?_,gg.big _ _ e2⟩
   cases q:TQ D with
   | none=>rfl
   | some u=>
     obtain⟨o,z⟩:=gg.wY e2 (fun z=>z) q
     rw[e1] at z;cases z
 by_cases cS:i < as.length
 . have NT:as[i]∈as:=List.getElem_mem cS
   have et:as.take (i+1)=as.take i ++ [as[i]]:=by rw[List.take_add_one,List.getElem?_eq_getElem cS];rfl
   obtain⟨Ri,hy⟩:=(go av H1 g1 i).1 (z as[i]) (by rw[List.getElem?_map,List.getElem?_eq_getElem cS];rfl)
   refine .inr ⟨Ri,by omega,fun σ hσ v H2 y=>?_⟩
   obtain⟨bW,g2,rv⟩:=hy v H2 y
   obtain⟨d2,Y1⟩:=Ba g2 Rh P1
   refine F0 as[i] NT σ _ bW H2 v _ hσ g2.sub rv fun σ' Y2 tv=>⟨σ',rfl,Y2,as[i],⟨bW,H2⟩,NT,bW,zw S (g1.bh.trans g2.bh) g2.sub tv,fun iu H3 g3=>?_⟩
   obtain⟨d3,Xh⟩:=Ba g3 d2 Y1
   cases hk:keep as[i] with
   | false=>
     refine⟨as.length - (i+1),by omega,rfl,cS,iu,(g1.trans g2).trans g3,d3,Xh,?_⟩
     rw[et,List.filter_append,List.filter_cons_of_neg (by simp[hk]),List.filter_nil,List.append_nil]
     exact rp.mono (g2.bh.trans g3.bh)
   | true=>
     refine⟨as[i],⟨iu,H3⟩,NT,hk,iu,zw S ((g1.bh.trans g2.bh).trans g3.bh) g3.sub (tv.mono g3.bh),fun y EJ H4 g4 r4=>?_⟩
     obtain⟨d4,Y3⟩:=Ba g4 d3 Xh
     have gg:=((g1.trans g2).trans g3).trans g4
     refine⟨Y3,as.length - (i+1),by omega,rfl,cS,EJ,⟨fun a o h=>?_,gg.bh,fun a o h=>?_,gg.new⟩,d4,ak,?_⟩
     . rw[ah (ax h hD)];exact gg.big _ _ h
     . rw[ah (ax h d4)];exact g4.sub _ _ h
     . rw[et,List.filter_append,List.filter_cons_of_pos (by simpa using hk),List.filter_nil,List.map_append]
       exact(rp.mono ((g2.bh.trans g3.bh).trans g4.bh)).append (.cons r4 .nil)
 . have e:i=as.length:=by omega
   subst e
   refine .inl ⟨(go av H1 g1 _).2 (by simp),k D av H1 g1 hD Rh ⟨vs,P1,?_⟩⟩
   rw[List.take_length] at rp
   exact rp
def JV (wi:TI)(nt:Nat)(ix:List Nat)(g:TG)(tt:TT)(te:TE):TE:=fun st H Q=>wi st H fun J H1=>∀ D,H1 D=none->Cq nt g tt te (frees ix st) J D (fun _ H'=>Q (.ref D) H') H1
theorem NU {tt:TT}{te:TE}(hc:X.calm=true)(B:rg X N tn ix sc)(hi:PI X tg iter wi)(hg:∀ C fp s H,PG (aV X N sc C fp s H) tg g)(ht:∀ C fp s H,LU (aV X N sc C fp s H) ifs tt)(jf:∀ C fp s H,PE (aV X N sc C fp s H) elt te)(hs:∀ z,foldedSetIterable iter X.env z=pure z):PE X (.ListComp elt [⟨tg,iter,ifs,0⟩] sc pos) (JV wi tn.length ix g tt te):=by
 intro pins s st H Q I h
 rw[eval_ListComp]
 refine wpAny_comprehension_free (use:=none) rfl hs (Co B I.ok) B.kind B.names (bK (hi pins s st H _ I h) fun v s1 h1=>bK h1 fun M0 s2 h2=>?_)
 obtain⟨it,fp,tj,J,H2,e,I2,T,ED,f2,hq⟩:=h2
 subst e
 refine zv (RR:=fun acc C=>compPost (model X.prog X.w) X.A X.xe none (EP X pins st Q) acc C) hc B hg ht jf I2 T ED f2 hq ?_
 intro D C ws H' s' I' ⟨m,hn⟩ nW q
 exact⟨m,hn,fun h' JO=>⟨.ref D,H',I'.turned (t':=s'.toks) (it:=C) (fun b o hb e=>(JO.2 b hb).trans e) nW.1 nW.2.1 nW.2.2.2.1 nW.2.2.2.2.1 nW.2.2.2.2.2,rfl,q⟩⟩
theorem NV {tt:TT}{te:TE}{nN:Nat}(hc:X.calm=true)(B:rg X N tn ix sc)(hi:PI X tg iter wi)(hg:∀ C fp s H,PG (aV X N sc C fp s H) tg g)(ht:∀ C fp s H,LU (aV X N sc C fp s H) ifs tt)(jf:∀ C fp s H,PE (aV X N sc C fp s H) elt te)(hs:∀ z,foldedSetIterable iter X.env z=pure z)(NP:swapsWith (.ListComp elt [⟨tg,iter,ifs,0⟩] sc pos) (some (.Name y py)) vd.line X.env=pure true)(hN:X.N.Nodup)(hy:X.N[nN]?=some y)(hl:Loc X.env.scope y)(hf:X.fn y=true\/X.env.scope.names.lookup y=some .local):PS X (.Assign [.Name y py] (.ListComp elt [⟨tg,iter,ifs,0⟩] sc pos) vd) (fun D st H=>JV wi tn.length ix g tt te st H fun v H'=>D.nx (st.set nN (some v)) H'):=by
 intro pins s st H D0 I h
 rw[exec_Assign_Name_used _ _ _ _ NP]
 refine wpAny_bind (wpAny_standAt (wpAny_bind ?_))
 show wpAny _ X.A (do let _ <- comprehension (.ListComp elt [⟨tg,iter,ifs,0⟩] sc pos) sc X.env _ (newList []) false (eval iter X.env) (some (assign (.Name y py) X.env))) _ _ s
 refine wpAny_bind (wpAny_mono (wpAny_comprehension_free (use:=some (assign (.Name y py) X.env)) (Q:=fun _ s'=>SP X pins D0 .next s') rfl hs (Co B I.ok) B.kind B.names (bK (hi pins s st H _ I h) fun v s1 h1=>bK h1 fun M0 s2 h2=>?_)) (fun _ s' hq=>wpAny_pure (wpAny_pure hq)) fun _ _ z=>z)
 obtain⟨it,fp,tj,J,H2,e,I2,T,ED,f2,hq⟩:=h2
 subst e
 refine zv (RR:=fun acc C=>compPost (model X.prog X.w) X.A X.xe (some (assign (.Name y py) X.env)) (fun _ s'=>SP X pins D0 .next s') acc C) hc B hg ht jf I2 T ED f2 hq ?_
 intro D C ws H' s' I' ⟨m,hn⟩ nW q
 refine wpAny_assign_Name (p7 I' hN hy hl (v:=.ref D) rfl (fun Nf U7 ⟨ad,DL,ha⟩=>?_) hf)
 have ne:C≠ad:=by
   rcases ha with z | z
   . rw[z];exact nW.2.1
   . exact Ne.symm (nW.2.2.2.2.1 _ _ z)
 exact⟨m,hn.sameBut DL ne,fun h' JO=>⟨_,H',U7.turned (t':=Nf.toks) (it:=C) (fun b o hb e=>(JO.2 b hb).trans e) nW.1 nW.2.1 nW.2.2.2.1 nW.2.2.2.2.1 nW.2.2.2.2.2,q⟩⟩
theorem qr (hs:rh X G dl (as.map z) wi)(F0:∀ a∈as,NR X.K n g (z a) (sl a))(hn:as.length<=sizeLine):∀ st H Q,TK X.K G dl (.lst ((as.filter keep).map f)) st H Q->JV wi n ix g (JT X.K dl ix as sl keep) (JU X.K dl ix as sl keep f) st H Q:=fun st H Q ⟨Hf,S,k⟩=>
 hs st H _ ⟨Hf,S,fun J FU H0 g0 src=>DP (S.grow g0) hn F0 (fun av H1 g1 i=>src av H1 g1.bh g1.sub i) fun p aH H' g n1 n2 r=>k p aH H' (g0.trans g) (g0.big.free n1) n2 r⟩
theorem jh (as:List α)(z f:α->Dt)(sl:α->List Slot)(keep:α->Bool)(hc:X.calm=true)(B:rg X N tn ix sc)(hi:PI X tg iter wi)(hg:∀ C fp s H,PG (aV X N sc C fp s H) tg g)(tS:rh X G dl (as.map z) wi)(F0:∀ a∈as,NR X.K tn.length g (z a) (sl a))(F1:zx X N sc dl ix as sl keep ifs)(jf:NS X N sc dl ix as sl keep f elt)(hn:as.length<=sizeLine)(hs:∀ z,foldedSetIterable iter X.env z=pure z:=by intro _;rfl):EO X G dl (.ListComp elt [⟨tg,iter,ifs,0⟩] sc pos) (.lst ((as.filter keep).map f)):=gd (NU hc B hi hg (FY F1) (FZ jf) hs) (qr tS F0 hn)
theorem F2 (nN:Nat)(as:List α)(z f:α->Dt)(sl:α->List Slot)(keep:α->Bool)(hc:X.calm=true)(hN:X.N.Nodup)(B:rg X N tn ix sc)(hi:PI X tg iter wi)(hg:∀ C fp s H,PG (aV X N sc C fp s H) tg g)(tS:rh X G dl (as.map z) wi)(F0:∀ a∈as,NR X.K tn.length g (z a) (sl a))(F1:zx X N sc dl ix as sl keep ifs)(jf:NS X N sc dl ix as sl keep f elt)(hn:as.length<=sizeLine)(hs:∀ z,foldedSetIterable iter X.env z=pure z:=by intro _;rfl)(NP:swapsWith (.ListComp elt [⟨tg,iter,ifs,0⟩] sc pos) (some (.Name y py)) vd.line X.env=pure true:=by rfl)(hy:X.N[nN]?=some y:=by rfl)(hl:Loc X.env.scope y:=by first | exact Or.inl rfl | exact Or.inr rfl)(hf:X.fn y=true\/X.env.scope.names.lookup y=some .local:=by first | exact .inl rfl | exact .inr rfl | assumption):ES X G E dl (.Assign [.Name y py] (.ListComp elt [⟨tg,iter,ifs,0⟩] sc pos) vd) (.nx (dl.set nN (.own (.lst ((as.filter keep).map f))))):=
 rb (NV hc B hi hg (FY F1) (FZ jf) hs NP hN hy hl hf) fun D st H ⟨Hf,S,k⟩=>qr tS F0 hn st H _ ⟨Hf,S,fun p aH H' g n1 n2 r=>k _ aH H' g.bh (S.NM g n1 n2 r)⟩
def Ve (K:W.Frag)(g:TG)(z:Dt)(up:List Slot->List Slot):Prop:=∀ (G:Gr) (st:L2.St) (Hf H:Hp) (v:V) (dl:List Slot) (Q:L2.St->Hp->Prop),dk K G st Hf H dl->Rep K Hf v z->(∀ ju,dk K G ju Hf H (up dl)->Q ju H)->g v st H Q
theorem xm {K:W.Frag}{n:Nat}{z:Dt}:Ve K (oe n) z (fun dl=>dl.set n (.val z)):=fun G st Hf H v dl Q S r k=>k _ (S.set r)
theorem Cr {K:W.Frag}{n m:Nat}{z1 z2:Dt}:Ve K (MX K 2 (yL (oe n) (yL (oe m) MW))) (.tup [z1,z2]) (fun dl=>(dl.set n (.val z1)).set m (.val z2)):=fun G st Hf H v dl Q S r k=>by
 cases r with
 | @tup q vs _ hq rp=>
   cases rp with
   | cons r1 t1=>cases t1 with
     | cons r2 t2=>
       cases t2
       exact⟨q,_,rfl,fm S.sub hq,rfl,_,_,rfl,_,_,rfl,rfl,k _ ((S.set r1).set r2)⟩
theorem pE {body:List Stmt}{m:Nat}(as:List α)(z:α->Dt)(up:α->List Slot->List Slot)(S:Nat->List Slot)(pz:X.calm=true)(hp:PassesOwn (model X.prog X.w) X.A X.env X.xe)(hI:PI X tg iter wi)(tS:rh X G dl (as.map z) wi)(hg:PG X tg g)(F0:∀ a∈as,Ve X.K g (z a) (up a))(h0:Le (S 0) dl)(TC:m<=as.length)(hb:∀ (k:Nat) (a:α),k < m->as[k]?=some a->Goes X G E body (up a (S k)) (S (k+1)))(he:oh X G E body S (fun k=>(as[k]?).elim (S k) fun a=>up a (S k)) as.length m o)(hs:∀ z,foldedSetIterable iter X.env z=pure z:=by intro _;rfl):ES X G E dl (.For tg iter body [] pos) o:=by
 refine rb (wL hp pz hI hg (pv (G:=G) (E:=E)) hs) fun D st H ⟨Hf,S0,k⟩=>tS st H _ ⟨Hf,S0,fun J FU H0 g0 src=>?_⟩
 refine⟨fun i q st H=>q=as.length - i/\i<=m/\∃ av,aF FU av/\dk X.K G st av H (S i),⟨as.length,rfl,Nat.zero_le _,FU,aF.refl _,(S0.grow g0).weak h0⟩,?_⟩
 rintro i q TN H1 ⟨rfl,him,av,s1,S1⟩
 have sr:=src av H1 s1 S1.sub i
 by_cases cS:i < as.length
 . have hz:as[i]?=some as[i]:=List.getElem?_eq_getElem cS
   obtain⟨Ri,hy⟩:=sr.1 (z as[i]) (by rw[List.getElem?_map,hz];rfl)
   refine .inr ⟨Ri,fun ju H'=>i < m/\∃ bW,aF FU bW/\dk X.K G ju bW H' (S (i+1)),fun ju H' ⟨h1,h2⟩=>⟨as.length - (i+1),by omega,rfl,by omega,h2⟩,fun x H' y=>?_⟩
   obtain⟨bW,g2,rv⟩:=hy x H' y
   refine F0 as[i] (List.getElem_mem cS) G TN bW H' x (S i) _ (S1.grow g2) rv fun ED S2=>?_
   by_cases NW:i < m
   . exact ny (hb i as[i] NW hz) S2 (fun st iu H s3 S'=>⟨NW,iu,(s1.trans g2.bh).trans s3,S'⟩) (fun st iu H s3 S'=>⟨NW,iu,(s1.trans g2.bh).trans s3,S'⟩)
   . have e:i=m:=by omega
     subst e
     refine ql he cS ?_ (k.mono ((g0.bh.trans s1).trans g2.bh)) rfl rfl
     show dk _ _ _ _ _ ((as[i]?).elim (S i) fun a=>up a (S i))
     rw[hz];exact S2
 . have e:i=as.length:=by omega
   subst e
   have e2:m=as.length:=by omega
   subst e2
   refine .inl ⟨sr.2 (by simp),?_⟩
   cases he with
   | all _=>exact k TN av H1 (g0.bh.trans s1) S1
   | rt h _=>omega
   | ro h _=>omega
   | bk h _=>omega
   | ex h _=>omega
theorem dB (B:rg X N tn ix sc)(h:tn=[x]):∀ C fp s H,PG (aV X N sc C fp s H) (.Name x px) (oe 0):=fun C fp s H=>by
 have hN:(aV X N sc C fp s H).N[0]?=some x:=by
   show N[0]?=some x
   rw[B.nm,h];rfl
 have DM:(aV X N sc C fp s H).env.scope.names.lookup x=some .local:=lookup_relabel_local (B.hx x (by rw[h];simp))
 exact bD (X:=aV X N sc C fp s H) B.nd hN (.inl DM) (.inr DM)
theorem F3 {k:Nat}(hc:X.calm=true)(B:rg X N tn ix sc)(h:tn=[x,y]):∀ C fp s H,PG (aV X N sc C fp s H) (.Tuple [.Name x px,.Name y py] k p) (LV X.K):=fun C fp s H=>by
 have h0:(aV X N sc C fp s H).N[0]?=some x:=by
   show N[0]?=some x
   rw[B.nm,h];rfl
 have h1:(aV X N sc C fp s H).N[1]?=some y:=by
   show N[1]?=some y
   rw[B.nm,h];rfl
 have DM:(aV X N sc C fp s H).env.scope.names.lookup x=some .local:=lookup_relabel_local (B.hx x (by rw[h];simp))
 have FG:(aV X N sc C fp s H).env.scope.names.lookup y=some .local:=lookup_relabel_local (B.hx y (by rw[h];simp))
 exact sW (X:=aV X N sc C fp s H) hc (c6 (bD B.nd h0 (.inl DM) (.inr DM)) (c6 (bD B.nd h1 (.inl FG) (.inr FG)) nh rfl) rfl) rfl rfl
end
def jx (sc zt:Scope)(XN N tn:List Str)(ix:List Nat):Bool:=
 decide N.Nodup && (decide (N=tn ++ ix.map (fun j=>XN.getD j "")) && (decide (sc.kind=.function) && (sc.names.all (fun y=>decide (y.2≠.cell)) && (sc.names.all (fun y=>decide (y.2=.local->sc.names.lookup y.1=some .local)) && (tn.all (fun x=>decide (sc.names.lookup x=some .local)) &&
   (sc.names.all (fun y=>decide (y.2=.free->zt.names.lookup y.1=some .cell\/zt.names.lookup y.1=some .free)) && ix.all (fun j=>decide (sc.names.lookup (XN.getD j "")=some .free) && decide (j < XN.length))))))))
theorem dj {X:Cx}{sc zt:Scope}{XN N tn:List Str}{ix:List Nat}(h:jx sc zt XN N tn ix=true)(e1:X.env.scope=zt:=by rfl)(e2:X.N=XN:=by rfl):rg X N tn ix sc:=by
 subst e1 e2
 unfold jx at h
 simp only[Bool.and_eq_true,List.all_eq_true,decide_eq_true_eq] at h
 obtain⟨h1,h2,h3,h4,h5,h6,h7,h8⟩:=h
 refine⟨h1,h2,h3,h4,h5,h6,h7,fun j hj=>?_⟩
 obtain⟨q1,q2⟩:=h8 j hj
 refine⟨X.N.getD j "",?_,q1⟩
 rw[List.getD_eq_getElem?_getD,List.getElem?_eq_getElem q2];rfl
section
variable {X:Cx}{G:Gr}{E:XK}{dl:List Slot}{e:Expr}{d1 d2:Dt}{pos:Pos}
theorem Cs (n1 n2:Nat){a b:Str}{pa pb tp:Pos}{cx:Nat}(hN:X.N.Nodup)(hc:X.calm=true)(he:EE X G dl e (.tup [d1,d2]))(Rt:X.N[n1]?=some a:=by rfl)(Ru:X.N[n2]?=some b:=by rfl)(Rv:Loc X.env.scope a:=by first | exact Or.inl rfl | exact Or.inr rfl)(Nx:Loc X.env.scope b:=by first | exact Or.inl rfl | exact Or.inr rfl)(Rw:X.fn a=true\/X.env.scope.names.lookup a=some .local:=by first | exact .inl rfl | exact .inr rfl)(Rx:X.fn b=true\/X.env.scope.names.lookup b=some .local:=by first | exact .inl rfl | exact .inr rfl)(hn:(assignEach [.Name a pa,.Name b pb] X.env).length=2:=by rfl)(mB:(assignEach [.Name a pa,.Name b pb] X.env).findIdx? (·.1)=none:=by rfl)(q1:(assignEach [.Name a pa,.Name b pb] X.env).map (·.2)=assign (.Name a pa) X.env::(assignEach [.Name b pb] X.env).map (·.2):=by rfl)(q2:(assignEach [.Name b pb] X.env).map (·.2)=assign (.Name b pb) X.env::(assignEach [] X.env).map (·.2):=by rfl)(hs:swapsWithSole [.Tuple [.Name a pa,.Name b pb] cx tp] e pos.line X.env=pure false:=by rfl)(hw:swappedStores [.Tuple [.Name a pa,.Name b pb] cx tp] e X.env=pure none:=by rfl)(h1:(assignEach [.Tuple [.Name a pa,.Name b pb] cx tp] X.env).map (·.2)=[assign (.Tuple [.Name a pa,.Name b pb] cx tp) X.env]:=by rfl):ES X G E dl (.Assign [.Tuple [.Name a pa,.Name b pb] cx tp] e pos) (.nx ((dl.set n1 (.val d1)).set n2 (.val d2))):=
 rb (wK he (sW hc (c6 (bD (pos:=pa) hN Rt Rv Rw) (c6 (bD (pos:=pb) hN Ru Nx Rx) nh q2) q1) hn mB) hs hw h1) fun D st H ⟨Hf,S,k⟩=>⟨Hf,S,fun v av H1 g1 r1=>by
   cases r1 with
   | @tup q vs _ hq rp=>
     cases rp with
     | cons r1 t1=>cases t1 with
       | cons r2 t2=>
         cases t2
         exact⟨q,_,rfl,fm g1.sub hq,rfl,_,_,rfl,_,_,rfl,rfl,k _ av H1 g1.bh (((S.grow g1).set r1).set r2)⟩⟩
end
section
variable {X:Cx}{pins:List (Addr×Obj)}{σ:List (Option V)}{H:Hp}{s:Shared}{h':Heap}
theorem zy {ch:List Addr}{a:Addr}{o:HO}{t':Nat}(I:L2.Inv X pins σ H s)(yx:∀ b∈ch,j9 X pins H b)(k:∀ b u,b ∉ ch->s.heap.get? b=some u->h'.get? b=some u)(hp:s.heap.objs.size<=a)(new:aJ X.prog X.w (upd H a o) h' a o):L2.Inv X pins σ (upd H a o) { s with heap:=h',toks:=t'}:=by
 have hn:=I.aZ.fresh hp
 have Qj:∀ b u,H b=some u->b ∉ ch:=fun b u e z=>by rw[(yx b z).1] at e;cases e
 have Y4:∀ b o,s.heap.get? b=some o->b≠a:=fun b o e=>Nat.ne_of_lt (Nat.lt_of_lt_of_le (Heap.lt_size e) hp)
 refine I.step (g':=s.gens) (d':=s.drawn) (ch:=ch) (fun b hb=>⟨(yx b hb).2.2.2.1,(yx b hb).2.1,(yx b hb).2.2.2.2.1,(yx b hb).2.2.2.2.2⟩) (fun b o _ _ hc e _=>k b o hc e) (fun b o _ _ hc e _=>⟨o.slots,k b o hc e⟩) (fun b o _ e n=>by rw[ah (Y4 b o e)];exact n)
   (fun b o hc e=>⟨o,k b o hc e⟩) (fun b xs e=>by rw[ah (ax e hn)];exact e) (fun b o u e=>by rw[ah (ax e hn)];exact e) (fun b ps e=>⟨#[],by rw[ah (ax e hn),e];simp⟩) (fun m hm=>?_) (fun b u e=>?_) I.bare
 . obtain⟨o,es,ep,ho,r⟩:=hm
   exact⟨o,es,ep,k _ o (fun z=>(yx _ z).2.1 rfl) ho,r⟩
 . by_cases hb:b=a
   . subst hb;rw[ak] at e;cases e;exact new
   . rw[ah hb] at e
     refine(I.aZ b u e).wG (fun c v hc q=>k c v ?_ q) (fun c q=>by rw[ah (ax q hn)];exact q) (fun c xs q=>by rw[ah (ax q hn)];exact q) (.of fun c u q=>by rw[ah (ax q hn)];exact q)
     rcases hc with z | z | z
     . rw[z];exact Qj b u e
     . exact Qj c _ z
     . exact fun z'=>by rw[(yx c z').1] at z;exact z
end
def Xi (K:W.Frag)(a:Addr):It:=
 ⟨fun i H=>∃ xs x,lI K H a xs/\xs[i]?=some x,fun i H v H'=>∃ p x,v=.ref p/\H p=none/\H'=upd H p (.tup [.int i,x])/\∀ xs,lI K H a xs->xs[i]?=some x,fun i H=>∃ xs,lI K H a xs/\xs.length<=i⟩
theorem DQ {P:Program}{w:World}{K:W.Frag}{elts:List Expr}{kt:Nat}{wM:Pos}(a e it:Addr)(P4:e≠it):Turn P w K (.Tuple elts kt wM) (Xi K a) [e,it] e (fun i h=>(∃ old,IsEnum h e it i old)/\h.IsListIter it a i) where
 mem:=by simp
 obj:=fun i h st b hb=>by
   obtain⟨⟨old,he⟩,o,e2,c,d⟩:=st
   rcases List.mem_cons.mp hb with rfl | hb
   . exact⟨_,he,fun v z=>by cases z⟩
   . have:b=it:=by simpa using hb
     subst this
     exact⟨o,e2,fun v z=>by rw[d] at z;cases z⟩
 keep:=fun i h h' st k=>by
   obtain⟨⟨old,he⟩,hit⟩:=st
   exact⟨⟨old,k e (by simp) _ he⟩,hit.at fun o x=>k it (by simp) o x⟩
 item:=by
   intro X hP hw hK hc i pins s σ H E I hf st hg
   subst hP hw hK
   obtain⟨xs,x,hq,hx⟩:=hg
   obtain⟨aD,rv,p,hz⟩:=I.list hq
   obtain⟨u,hu,ru⟩:=rv.get hx
   obtain⟨⟨old,he⟩,hit⟩:=st
   have Ry:e < s.heap.objs.size:=Heap.lt_size he
   have TR:it < s.heap.objs.size:=by obtain⟨_,z,_⟩:=hit;exact Heap.lt_size z
   refine wpAny_pyNext_enum_item he hit p.isList (x:=u) (by simpa using hu) P4 fun h1 ho NX hT hsz hk=>?_
   refine⟨_,rfl,wpAny_letOwnedTupleGo_enum ho fun h2 NJ yP=>?_⟩
   have Vf:h2.get? s.heap.objs.size=some { cls:=.type "tuple",data:=.seq #[.int i s.toks,u]}:=(yP.2 _ (Nat.ne_of_gt Ry)).trans hT
   have k2:∀ b o,b ∉ [e,it]->s.heap.get? b=some o->h2.get? b=some o:=fun b o hb q=>(yP.2 b fun z=>hb (by simp[z])).trans (hk b o (fun z=>hb (by simp[z])) (fun z=>hb (by simp[z])) q)
   have hp:H s.heap.objs.size=none:=I.aZ.fresh (Nat.le_refl _)
   have I2:L2.Inv X pins σ (upd H s.heap.objs.size (.tup [.int i,x])) { s with heap:=h2,toks:=s.toks+1}:=zy I hf k2 (Nat.le_refl _) ⟨Nat.le_of_ble_eq_true rfl,[.int i s.toks,u],.cons ⟨_,rfl⟩ (.cons ru .nil),_,Vf,rfl,_,rfl⟩
   refine⟨.ref s.heap.objs.size,_,I2,rfl,⟨_,x,rfl,hp,rfl,fun ys hy=>by rw[I.yK hy hq];exact hx⟩,⟨⟨u,by simpa using NJ⟩,NX.at fun o z=>(yP.2 it (Ne.symm P4)).trans z⟩,fun b hb=>?_⟩
   have:b≠s.heap.objs.size:=by
     rcases List.mem_cons.mp hb with rfl | hb
     . exact Nat.ne_of_lt Ry
     . have:b=it:=by simpa using hb
       subst this
       exact Nat.ne_of_lt TR
   rw[ah this]
   exact(hf b hb).1
 done:=by
   intro X hP hw hK hc i pins s σ H E I hf st hg
   subst hP hw hK
   obtain⟨xs,hq,hx⟩:=hg
   obtain⟨aD,rv,p,hz⟩:=I.list hq
   obtain⟨⟨old,he⟩,hit⟩:=st
   obtain⟨f0,f1,f2,f3,f4,f5⟩:=hf it (by simp)
   have hl:=rv.length
   exact wpAny_pyNext_enum_end (I.ok.hd hc) he hit p.isList (by simp;omega) fun h' eb=>⟨rfl,I.turned (t':=s.toks) (fun b o hb q=>eb b o hb q) f0 f1 f3 f4 f5⟩
 self:=fun _ i s Q E st h=>by
   obtain⟨⟨old,he⟩,_⟩:=st
   exact wpAny_pyIter_enum he h
theorem boot_enumerate:bootBuiltins "enumerate"=some (.type "enumerate"):=by decide +kernel
section
variable {X:Cx}{G:Gr}{dl:List Slot}{a:Expr}{xs:List Dt}{p pos:Pos}
def LW (K:W.Frag)(ta:TA):TI:=fun σ H R=>ta σ H fun vs H1=>∃ a,vs=[.ref a]/\(∃ xs,lI K H1 a xs)/\R (Xi K a) H1
theorem JW {elts:List Expr}{kt:Nat}{wM:Pos}{ta:TA}(hg:Gl X "enumerate")(hm:X.mg "enumerate"=none)(ha:PA X [a] ta)(hs:starEach [a] X.env=[(false,eval a X.env)]:=by rfl):PI X (.Tuple elts kt wM) (.Call (.Name "enumerate" p) [a] [] pos) (LW X.K ta):=by
 intro pins s σ H R I h
 refine Call_ (oE I hg hm boot_enumerate (PyProof.Rows.callWith_type1 (bK (ha pos pins s σ H _ I h) fun us s1 ⟨vs,H1,I1,r1,q1⟩=>?_) hs rfl))
 obtain⟨l,e,⟨xs,hq⟩,q⟩:=q1
 subst e
 cases r1 with
 | cons r rr=>
   cases rr
   cases r
   obtain⟨aD,rv,pl,hz⟩:=I1.list hq
   refine call_enumerate_list pl.isList fun h' he hit hsz k=>wpAny_pyIter_enum he ?_
   have I2:L2.Inv X pins σ H1 { s1 with heap:=h'}:=I1.kept (t':=s1.toks) k
   refine⟨s1.heap.objs.size+1,[s1.heap.objs.size+1,s1.heap.objs.size],_,_,H1,rfl,I2,DQ l _ s1.heap.objs.size (Nat.succ_ne_self _),⟨⟨_,he⟩,hit⟩,fun b hb=>?_,q⟩
   have NF:s1.heap.objs.size<=b:=by
     rcases List.mem_cons.mp hb with rfl | hb
     . exact Nat.le_succ _
     . have:b=s1.heap.objs.size:=by simpa using hb
       rw[this];exact Nat.le_refl _
   exact I1.u5 NF (I1.aZ.fresh NF)
def qT (xs:List Dt):List Dt:=(List.range xs.length).map fun(k:Nat)=>.tup [.int k,xs.getD k .cL]
theorem DR:rh X G dl (qT xs) (LW X.K (Q0 X.K G dl [.lst xs])):=fun st H R ⟨Hf,S,k⟩=>⟨Hf,S,fun vs av H1 g1 r1=>by
 cases r1 with
 | cons r t=>
   cases t
   cases r with
   | @lst q vs _ hq rp=>
     have hl:=rp.length
     refine⟨q,rfl,⟨vs,.of (g1.sub _ _ hq)⟩,k _ av H1 g1 fun bW H2 s1 s2 i=>⟨fun z hz=>?_,fun hi=>⟨vs,.of (s2 _ _ (s1 _ _ hq)),by unfold qT at hi;rw[List.length_map,List.length_range] at hi;omega⟩⟩⟩
     have hi:i < xs.length:=by
       have:=(List.getElem?_eq_some_iff.mp hz).1
       unfold qT at this
       simpa using this
     unfold qT at hz
     rw[List.getElem?_map,List.getElem?_range hi] at hz
     cases hz
     have hx:xs[i]?=some (xs.getD i .cL):=by rw[List.getD_eq_getElem?_getD,List.getElem?_eq_getElem hi];rfl
     obtain⟨u,z1,z2⟩:=rp.get hx
     have hs:lI X.K H2 q vs:=.of (s2 _ _ (s1 _ _ hq))
     refine⟨⟨vs,u,hs,z1⟩,fun v H3 hy=>?_⟩
     obtain⟨pt,x,rfl,hn,rfl,e2⟩:=hy
     have e2:=e2 vs hs
     rw[z1] at e2;cases e2
     have g3:bc bW H2 (upd bW pt (.tup [.int i,u])) (upd H2 pt (.tup [.int i,u])):=.alloc s2 hn
     exact⟨_,g3,.tup (.inl ak) (.cons (.int _) (.cons ((z2.mono s1).mono g3.bh) .nil))⟩⟩
end
section
def noOwn:List Slot->Bool
 | []=>true
 | .own _::_=>false
 | _::r=>noOwn r
theorem aQ:∀ {dl:List Slot},noOwn dl=true->∀ (j:Nat) o,dl[j]?≠some (.own o)
 | [],_,j,o,h=>by simp at h
 | .val d::r,q,0,o,h=>by simp at h
 | .aO::r,q,0,o,h=>by simp at h
 | .val d::r,q,j+1,o,h=>aQ (dl:=r) q j o (by simpa using h)
 | .aO::r,q,j+1,o,h=>aQ (dl:=r) q j o (by simpa using h)
end
section
variable {X:Cx}{G:Gr}{dl:List Slot}{e:Expr}{x:Str}{i j:Int}{pos p2:Pos}{lo hi:Option Expr}{l u:Option Int}
theorem NY:UL X (fun x lo hi H Q=>∃ z:Str,x=.str z/\z.length<=sizeLine/\Q (.str (Txt.slice z lo hi)) H):=by
 intro pins s σ H x v vl vu lo hi sl Q I rx hs pl pu h
 obtain⟨z,rfl,hz,q⟩:=h
 obtain⟨t,rfl⟩:=(show ∃ t,v=Value.str z t from rx)
 obtain⟨o,h1,h2,h3⟩:=hs
 refine⟨"str",_,F.slot_str_getitem.lookup,typeIs_str _ _ _,?_⟩
 cases pl with
 | none=>
   cases pu with
   | none=>exact wpAny_getItem_str_slice (l:=none) (u:=none) (st:=none) ⟨o,h1,h2,h3⟩ rfl (post_val_or_str ⟨Nat.le_trans (Txt.slice_le z _ _) hz,fun t' k=>⟨.str (Txt.slice z _ _),H,I.tok _,⟨t',rfl⟩,q⟩⟩)
   | int j uj=>exact wpAny_getItem_str_slice (l:=none) (u:=some (j,uj)) (st:=none) ⟨o,h1,h2,h3⟩ rfl (post_val_or_str ⟨Nat.le_trans (Txt.slice_le z _ _) hz,fun t' k=>⟨.str (Txt.slice z _ _),H,I.tok _,⟨t',rfl⟩,q⟩⟩)
 | int i ui=>
   cases pu with
   | none=>exact wpAny_getItem_str_slice (l:=some (i,ui)) (u:=none) (st:=none) ⟨o,h1,h2,h3⟩ rfl (post_val_or_str ⟨Nat.le_trans (Txt.slice_le z _ _) hz,fun t' k=>⟨.str (Txt.slice z _ _),H,I.tok _,⟨t',rfl⟩,q⟩⟩)
   | int j uj=>exact wpAny_getItem_str_slice (l:=some (i,ui)) (u:=some (j,uj)) (st:=none) ⟨o,h1,h2,h3⟩ rfl (post_val_or_str ⟨Nat.le_trans (Txt.slice_le z _ _) hz,fun t' k=>⟨.str (Txt.slice z _ _),H,I.tok _,⟨t',rfl⟩,q⟩⟩)
def Vg (K:W.Frag)(G:Gr)(dl:List Slot)(o:Option Int):TO:=fun st H Q=>∃ Hf,dk K G st Hf H dl/\∀ aH H',bc Hf H aH H'->Q o H'
abbrev TU (X:Cx)(G:Gr)(dl:List Slot)(e:Option Expr)(o:Option Int):Prop:=PO X e (Vg X.K G dl o)
theorem Xj {e:Option Expr}{t t':TO}(h:PO X e t)(i:∀ st H Q,t' st H Q->t st H Q):PO X e t':=fun pins s st H Q I q=>h pins s st H Q I (i st H Q q)
theorem F4:TU X G dl none none:=Xj B4 fun st H Q ⟨Hf,S,k⟩=>k Hf H (.refl S.sub)
theorem Ct (h:EE X G dl e (.int i)):TU X G dl (some e) (some i):=Xj (B5 h) fun st H Q ⟨Hf,S,k⟩=>⟨Hf,S,fun v av H1 g1 r1=>by cases r1;exact⟨i,rfl,k av H1 g1⟩⟩
theorem F5 (he:EE X G dl e (.str x))(hl:TU X G dl lo l)(hu:TU X G dl hi u)(hx:x.length<=sizeLine):EE X G dl (.Subscript e (.Slice lo hi none p2) pos) (.str (Txt.slice x l u)):=
 gd (yV NY he hl hu) fun st H Q ⟨Hf,S,k⟩=>⟨Hf,S,fun v av H1 g1 r1=>⟨av,S.grow g1,fun bW H2 g2=>⟨bW,(S.grow g1).grow g2,fun iu H3 g3=>by
   cases r1
   exact⟨x,rfl,hx,k _ iu H3 ((g1.trans g2).trans g3) (.str _)⟩⟩⟩⟩
end
def Xk (x:Str):It:=⟨fun i H=>∃ c,x.cps[i]?=some c,fun i H v H'=>H'=H/\∃ c,x.cps[i]?=some c/\v=.str ⟨#[c]⟩,fun i H=>x.cps[i]?=none⟩
theorem F6 {P:Program}{w:World}{K:W.Frag}{tg:Expr}(x:Str)(t:Tok)(it:Addr):Turn P w K tg (Xk x) [it] it (fun i h=>h.IsStrIter it "str_ascii_iterator" x t i) where
 mem:=by simp
 obj:=fun i h st b hb=>by
   have e:b=it:=by simpa using hb
   subst e
   obtain⟨o,e,c,d⟩:=st
   exact⟨o,e,fun v z=>by rw[d] at z;cases z⟩
 keep:=fun i h h' st k=>let ⟨o,e,c,d⟩:=st;⟨o,k it (by simp) o e,c,d⟩
 item:=by
   intro X hP hw hK hc i pins s σ H E I hf st hg
   subst hP hw hK
   obtain⟨c,hx⟩:=hg
   obtain⟨f0,f1,f2,f3,f4,f5⟩:=hf it (by simp)
   refine wpAny_pyNext_ascii_item st hx fun h' ju sb=>?_
   have I1:L2.Inv X pins σ H { s with heap:=h',toks:=s.toks+1}:=I.turned (t':=s.toks+1) (fun b o hb e=>(sb.2 b hb).trans e) f0 f1 f3 f4 f5
   obtain⟨o,e,cc,d⟩:=id ju
   exact⟨_,rfl,BZ (s:={ s with heap:=h',toks:=s.toks+1}) e cc d (by decide) ⟨.str ⟨#[c]⟩,H,I1,⟨_,rfl⟩,⟨rfl,c,hx,rfl⟩,ju,fun b hb=>(hf b hb).1⟩⟩
 done:=by
   intro X hP hw hK hc i pins s σ H E I hf st hg
   subst hP hw hK
   obtain⟨f0,f1,f2,f3,f4,f5⟩:=hf it (by simp)
   exact wpAny_pyNext_ascii_end (I.ok.hd hc) st hg fun h' eb=>⟨rfl,I.turned (t':=s.toks) (fun b o hb e=>eb b o hb e) f0 f1 f3 f4 f5⟩
 self:=fun _ _ _ _ _ st h=>wpAny_pyIter_striter_ascii st h
def ji (x:Str):Bool:=x.cps.all (· < 128)
def signs (x:Str):List Dt:=x.cps.toList.map fun c=>.str ⟨#[c]⟩
section
variable {X:Cx}{G:Gr}{dl:List Slot}{a b c e:Expr}{x y z:Str}{pos:Pos}{i j k:Int}{u v:Bool}
def Rz (ta:TE):TI:=fun σ H R=>ta σ H fun v H1=>∃ x,v=.str x/\ji x=true/\R (Xk x) H1
theorem jk {tg:Expr}{ta:TE}(ha:PE X a ta):PI X tg a (Rz ta):=by
 intro pins s σ H R I h
 refine bK (ha pins s σ H _ I h) fun v s1 ⟨w,H1,I1,r1,q1⟩=>?_
 obtain⟨x,e,hx,q⟩:=q1
 subst e
 obtain⟨t,rfl⟩:=(show ∃ t,v=Value.str x t from r1)
 refine wpAny_pyIter_ascii hx ?_
 refine⟨s1.heap.objs.size,[s1.heap.objs.size],_,_,H1,rfl,I1.kept (t':=s1.toks) fun b o e=>Heap.get?_push_of_some _ e,F6 x t _,⟨_,Heap.get?_push_size _ rfl,rfl,rfl⟩,fun b hb=>?_,q⟩
 have e:b=s1.heap.objs.size:=by simpa using hb
 subst e
 exact I1.u5 (Nat.le_refl _) (I1.aZ.fresh (Nat.le_refl _))
theorem signs_get (x:Str)(i:Nat):(signs x)[i]?=(x.cps[i]?).map fun c=>.str ⟨#[c]⟩:=by
 unfold signs
 rw[List.getElem?_map,Array.getElem?_toList]
theorem nA (x:Str):(signs x).length=x.length:=by
 unfold signs
 rw[List.length_map,Array.length_toList];rfl
theorem eI (hx:ji x=true):rh X G dl (signs x) (Rz (tD X.K G dl (.str x))):=fun st H R ⟨Hf,S,k⟩=>⟨Hf,S,fun v av H1 g1 r1=>by
 cases r1
 refine⟨x,rfl,hx,k _ av H1 g1 fun bW H2 s1 s2 i=>⟨fun z hz=>?_,fun hi=>?_⟩⟩
 . rw[signs_get] at hz
   cases q:x.cps[i]? with
   | none=>rw[q] at hz;cases hz
   | some c=>
     rw[q] at hz
     cases hz
     refine⟨⟨c,q⟩,fun v H3 ⟨e1,c',e2,e3⟩=>?_⟩
     rw[q] at e2;cases e2
     subst e1 e3
     exact⟨bW,.refl s2,.str _⟩
 . show x.cps[i]?=none
   rw[hi,nA]
   exact Array.getElem?_size_le (Nat.le_refl _)⟩
theorem vZ:mI X (compareOp .LtE) (fun x y H Q=>∃ i j,x=.str i/\y=.str j/\Q (.bl (!decide (j.cps.toList < i.cps.toList))) H):=by
 intro pins s σ H x y v u Q I rx ry h
 obtain⟨i,j,rfl,rfl,q⟩:=h
 obtain⟨t,rfl⟩:=rx
 obtain⟨t',rfl⟩:=ry
 exact P.le_str (br I q rfl)
def NZ (x y:Str):Bool:=!decide (y.cps.toList < x.cps.toList)
theorem F7 {K:W.Frag}:AZ K (fun x y H Q=>∃ i j,x=.str i/\y=.str j/\Q (.bl (!decide (j.cps.toList < i.cps.toList))) H) (.str x) (.str y) (.bl (NZ x y)):=fun v w Hf H Q s r1 r2 k=>by
 cases r1;cases r2;exact⟨x,y,rfl,rfl,k _ Hf H (.refl s) (.bl _)⟩
variable {d1 d2 d3:Dt}
theorem zA {op AH:CmpOp}{r r':R2}(ho:mI X (compareOp op) r)(AB:mI X (compareOp AH) r')(h1:AZ X.K r d1 d2 (.bl u))(h2:AZ X.K r' d2 d3 (.bl v))(ha:EE X G dl a d1)(hb:EE X G dl b d2)(hc:EE X G dl c d3)(hm:lastMarks [op,AH] [b,c]=false:=by with_unfolding_all rfl):EE X G dl (.Compare a [op,AH] [b,c] pos) (.bl (u && v)):=
 gd (E9 ho AB ha hb hc hm) fun st H Q ⟨Hf,S,k⟩=>⟨Hf,S,fun x av H1 g1 r1=>⟨av,S.grow g1,fun y bW H2 g2 r2=>h1 x y bW H2 _ g2.sub (r1.mono g2.bh) r2 fun z iu H3 g3 r3=>by
   cases r3
   refine⟨u,rfl,?_⟩
   cases u with
   | false=>exact wW (k _ iu H3 ((g1.trans g2).trans g3) (.bl _))
   | true=>exact wX ⟨iu,((S.grow g1).grow g2).grow g3,fun w EJ H4 g4 r4=>h2 y w EJ H4 Q g4.sub (r2.mono (g3.bh.trans g4.bh)) r4 fun q r0 H5 g5 r5=>k q r0 H5 ((((g1.trans g2).trans g3).trans g4).trans g5) r5⟩⟩⟩
theorem F8 (ha:EE X G dl a (.str x))(hb:EE X G dl b (.str y))(hc:EE X G dl c (.str z))(hm:lastMarks [.LtE,.LtE] [b,c]=false:=by with_unfolding_all rfl):EE X G dl (.Compare a [.LtE,.LtE] [b,c] pos) (.bl (NZ x y && NZ y z)):=zA vZ vZ F7 F7 ha hb hc hm
theorem F9 (ha:EE X G dl a (.int i))(hb:EE X G dl b (.int j))(hc:EE X G dl c (.int k))(hm:lastMarks [.LtE,.LtE] [b,c]=false:=by with_unfolding_all rfl):EE X G dl (.Compare a [.LtE,.LtE] [b,c] pos) (.bl (decide (i<=j) && decide (j<=k))):=
 zA yO yO (og (g':=fun i j=>.bl (decide (i<=j))) fun _ _ _ _=>.bl _) (og (g':=fun i j=>.bl (decide (i<=j))) fun _ _ _ _=>.bl _) ha hb hc hm
end
section
variable {X:Cx}{G:Gr}{dl:List Slot}{a b e:Expr}{pos p apos bP:Pos}{k x:Str}{xs:List Str}{bs:List Bool}{ns:List Int}{hi:Option Expr}{l u:Option Int}
theorem Ga {neg:Bool}:AZ X.K (Tu X.K neg) (.str k) (.lst (xs.map .str)) (.bl (if neg then !decide (k∈xs) else decide (k∈xs))):=fun v w Hf H Q s r1 r2 kk=>by
 cases r1
 cases r2 with
 | @lst q vs _ hq rp=>
   have ev:=nz rp
   subst ev
   refine⟨q,_,rfl,.inl (.of (s _ _ hq)),rfl,vY xs,?_⟩
   rw[tV]
   exact kk _ Hf H (.refl s) (.bl _)
theorem N1 (ha:EE X G dl a (.str k))(hb:EE X G dl b (.lst (xs.map .str)))(hm:behindInMarks .In b=false:=by rfl):EE X G dl (.Compare a [.In] [b] pos) (.bl (decide (k∈xs))):=A0 vQ (Ga (neg:=false)) hm ha hb
theorem JX (ha:EE X G dl a (.str k))(hb:EE X G dl b (.lst (xs.map .str)))(hm:behindInMarks .NotIn b=false:=by rfl):EE X G dl (.Compare a [.NotIn] [b] pos) (.bl (!decide (k∈xs))):=A0 o7 (Ga (neg:=true)) hm ha hb
theorem range_all (bs:List Bool):(List.range bs.length).all (fun i=>bs.getD i true)=bs.all id:=by
 induction bs with
 | nil=>rfl
 | cons b r ih=>
   rw[List.length_cons,List.range_succ_eq_map,List.all_cons,List.all_map,List.all_cons]
   show(b && (List.range r.length).all (fun i=>r.getD i true))=(b && r.all id)
   rw[ih]
theorem DS (hc:X.calm=true):jv X (.builtin "all") (fun xs H Q=>∃ (p:Addr) (bs:List Bool),xs=[.ref p]/\lI X.K H p (bs.map V.bl)/\Q (.bl (bs.all id)) H):=by
 intro pins s σ H xs us Q I r h
 obtain⟨p,bs,rfl,hq,q⟩:=h
 obtain⟨u,rfl,rx⟩:=vals1 r
 cases rx
 obtain⟨aD,rv,pl,hz⟩:=I.list hq
 have hlen:=rv.length
 rw[List.length_map] at hlen
 obtain⟨o,n,ho,_⟩:=id pl
 have hp:p < s.heap.objs.size:=Heap.lt_size ho
 refine call_all_walk (wpAny_pyIter_list pl.isList ?_)
 refine⟨s.heap.objs.size,_,_,_,_,_,fun i=>bs.getD i true,rfl,Walks.list (A:=X.A.in1) (I.ok.hd hc) s.heap.objs.size p (Nat.ne_of_lt hp) aD.toArray,⟨⟨_,Heap.get?_push_size _ rfl,rfl,rfl⟩,?_⟩,fun i v s' Q' E' hv hQ=>?_,fun h' tk hk=>?_⟩
 . exact pl.isList.at fun o e=>Heap.get?_push_of_some _ e
 . have hv:aD[i]?=some v:=by simpa using hv
   have hi:i < aD.length:=(List.getElem?_eq_some_iff.mp hv).1
   have RA:i < bs.length:=by omega
   obtain⟨u',h1,h2⟩:=rv.get (i:=i) (x:=V.bl bs[i]) (by rw[List.getElem?_map,List.getElem?_eq_getElem RA];rfl)
   rw[hv] at h1;cases h1
   cases h2
   have e:bs.getD i true=bs[i]:=by rw[List.getD_eq_getElem?_getD,List.getElem?_eq_getElem RA];rfl
   have hQ:Q' (bs.getD i true) s':=hQ
   rw[e] at hQ
   exact wpAny_truthy_bool hQ
 . have ea:(List.range aD.toArray.size).all (fun i=>bs.getD i true)=bs.all id:=by rw[List.size_toArray,<- hlen];exact range_all bs
   rw[ea]
   refine⟨.bl _,H,I.kept (t':=tk) fun b o e=>hk b o (fun hm=>?_) (Heap.get?_push_of_some _ e),rfl,q⟩
   have:b=s.heap.objs.size:=by simpa using hm
   subst this
   exact Nat.lt_irrefl _ (Heap.lt_size e)
theorem boot_all:bootBuiltins "all"=some (.builtin "all"):=by decide +kernel
theorem zB {K:W.Frag}{H:Hp}:∀ {bs:List Bool} {vs:List V},bg K H vs (bs.map Dt.bl)->vs=bs.map V.bl
 | [],_,.nil=>rfl
 | b::r,_,.cons h t=>by cases h;rw[zB t];rfl
theorem N2 (hm:X.mg "all"=none)(hc:X.calm=true)(ha:EE X G dl a (.lst (bs.map .bl)))(hg:Gl X "all":=by rfl)(he:starEach [a] X.env=[(false,eval a X.env)]:=by rfl):EE X G dl (.Call (.Name "all" p) [a] [] pos) (.bl (bs.all id)):=
 gd (fk (DS hc) hg hm boot_all (ae ha aj he) (by decide) (by decide) he rfl) fun st H Q ⟨Hf,S,k⟩=>⟨Hf,S,fun vs av H1 g1 r1=>by
   cases r1 with
   | cons r t=>cases t;cases r with
     | @lst q vs _ z r=>
       have ev:=zB r
       subst ev
       exact⟨q,bs,rfl,.of (g1.sub _ _ z),k _ av H1 g1 (.bl _)⟩⟩
theorem qt (ns:List Int):∀ k,k<=ns.length->preSum (fun i=>ns.getD i 0) k=(ns.take k).sum
 | 0,_=>by simp[preSum]
 | k+1,h=>by
   have hk:k < ns.length:=h
   rw[preSum,qt ns k (Nat.le_of_lt hk),List.take_add_one,List.getElem?_eq_getElem hk,List.sum_append,List.getD_eq_getElem?_getD,List.getElem?_eq_getElem hk]
   simp
theorem DT (hc:X.calm=true):jv X (.builtin "sum") (fun xs H Q=>∃ (p:Addr) (ns:List Int),xs=[.ref p]/\lI X.K H p (ns.map V.int)/\Q (.int ns.sum) H):=by
 intro pins s σ H xs us Q I r h
 obtain⟨p,ns,rfl,hq,q⟩:=h
 obtain⟨u,rfl,rx⟩:=vals1 r
 cases rx
 obtain⟨aD,rv,pl,hz⟩:=I.list hq
 have hlen:=rv.length
 rw[List.length_map] at hlen
 obtain⟨o,n,ho,_⟩:=id pl
 have hp:p < s.heap.objs.size:=Heap.lt_size ho
 refine call_sum_walkAnyS (wpAny_pyIter_list pl.isList ?_)
 refine⟨s.heap.objs.size,_,_,_,_,_,_,fun i=>ns.getD i 0,rfl,(Walks.list (A:=X.A.in1) (I.ok.hd hc) s.heap.objs.size p (Nat.ne_of_lt hp) aD.toArray).toS,⟨⟨_,Heap.get?_push_size _ rfl,rfl,rfl⟩,?_⟩,fun b hb=>?_,fun i v hv=>?_,fun s' t' hm=>?_⟩
 . exact pl.isList.at fun o e=>Heap.get?_push_of_some _ e
 . have hsz:(s.heap.push { cls:=.type "list_iterator",data:=.fields #[.ref p,.int 0 0]}).objs.size=s.heap.objs.size+1:=Heap.size_push ..
   show b < (s.heap.push { cls:=.type "list_iterator",data:=.fields #[.ref p,.int 0 0]}).objs.size
   rw[hsz]
   rcases List.mem_cons.mp hb with e | hb
   . rw[e];exact Nat.lt_succ_self _
   . have:b=p:=by simpa using hb
     rw[this];exact Nat.lt_succ_of_lt hp
 . have hv:aD[i]?=some v:=by simpa using hv
   have hi:i < aD.length:=(List.getElem?_eq_some_iff.mp hv).1
   have RA:i < ns.length:=by omega
   obtain⟨u',h1,h2⟩:=rv.get (i:=i) (x:=V.int ns[i]) (by rw[List.getElem?_map,List.getElem?_eq_getElem RA];rfl)
   rw[hv] at h1;cases h1
   obtain⟨t,rfl⟩:=h2
   refine⟨t,?_⟩
   show _=Value.int (ns.getD i 0) t
   rw[List.getD_eq_getElem?_getD,List.getElem?_eq_getElem RA];rfl
 . have ea:preSum (fun i=>ns.getD i 0) aD.toArray.size=ns.sum:=by
     rw[List.size_toArray,<- hlen,qt ns _ (Nat.le_refl _),List.take_length]
   rw[ea]
   refine⟨.int _,H,?_,⟨t',rfl⟩,q⟩
   obtain⟨h',g',d',tk,UJ⟩:=s'
   have e1:g'=s.gens:=hm.gens
   have e2:d'=s.drawn:=hm.drawn
   have e3:UJ=s.os:=hm.os
   subst e1 e2 e3
   refine I.kept (t':=tk) fun b o e=>hm.heap b o (fun z=>?_) (Heap.get?_push_of_some _ e)
   have:b=s.heap.objs.size:=by simpa using z
   subst this
   exact Nat.lt_irrefl _ (Heap.lt_size e)
theorem boot_sum:bootBuiltins "sum"=some (.builtin "sum"):=by decide +kernel
theorem oJ {K:W.Frag}{H:Hp}:∀ {ns:List Int} {vs:List V},bg K H vs (ns.map Dt.int)->vs=ns.map V.int
 | [],_,.nil=>rfl
 | b::r,_,.cons h t=>by cases h;rw[oJ t];rfl
theorem Gb (hm:X.mg "sum"=none)(hc:X.calm=true)(ha:EE X G dl a (.lst (ns.map .int)))(hg:Gl X "sum":=by rfl)(he:starEach [a] X.env=[(false,eval a X.env)]:=by rfl):EE X G dl (.Call (.Name "sum" p) [a] [] pos) (.int ns.sum):=
 gd (fk (DT hc) hg hm boot_sum (ae ha aj he) (by decide) (by decide) he rfl) fun st H Q ⟨Hf,S,k⟩=>⟨Hf,S,fun vs av H1 g1 r1=>by
   cases r1 with
   | cons r t=>cases t;cases r with
     | @lst q vs _ z r=>
       have ev:=oJ r
       subst ev
       exact⟨q,ns,rfl,.of (g1.sub _ _ z),k _ av H1 g1 (.int _)⟩⟩
theorem v3:∀ {xs:List Str} {us:List Value},Vals (xs.map V.str) us->∃ l:List (Str×Tok),us=strValues l/\l.map (·.1)=xs
 | [],_,.nil=>⟨[],rfl,rfl⟩
 | x::r,_,.cons h t=>by
   obtain⟨tk,rfl⟩:=h
   obtain⟨l,rfl,e⟩:=v3 t
   exact⟨(x,tk)::l,rfl,by rw[List.map_cons,e]⟩
theorem JY:PX X "str.join" (fun x xs H Q=>∃ (z:Str) (p:Addr) (ys:List Str),x=.str z/\xs=[.ref p]/\lI X.K H p (ys.map V.str)/\JoinOk z ys=true/\Q (.str (Txt.join z ys)) H):=by
 intro pins s σ H x xs v us Q I rx rv ⟨z,p,ys,e1,e2,hq,aZ,q⟩
 subst e1 e2
 obtain⟨t,rfl⟩:=(show ∃ t,v=Value.str z t from rx)
 obtain⟨u,rfl,ru⟩:=vals1 rv
 cases ru
 obtain⟨aD,r,pl,hz⟩:=I.list hq
 obtain⟨l,rfl,el⟩:=v3 r
 exact SC.join pl.isList el aZ fun t' k=>⟨.str (Txt.join z ys),H,I.tok _,⟨t',rfl⟩,q⟩
theorem JZ (ha:EE X G dl a (.str x))(he:EE X G dl e (.lst (xs.map .str)))(aZ:JoinOk x xs=true)(i4:attributeBase a "join" X.env (eval a X.env)=eval a X.env:=by rfl)
   (tw:((backTo bP (starEach [e] X.env)).all (fun x=>!x.1) && (backToKw bP (keywordEach [] X.env)).all (fun x=>x.1.isSome) && decide ([e].length+([]:List Keyword).length+(if ([]:List Keyword).isEmpty then 0 else 1) < 30))=true:=by rfl)
   (i5:(apos.endLine == bP.line)=true:=by rfl) (mB:starEach [e] X.env=(false,eval e X.env)::starEach [] X.env:=by rfl):EE X G dl (.Call (.Attribute a "join" apos) [e] [] bP) (.str (Txt.join x xs)):=
 gd (tu PySem.F.plainAttrs_str PySem.F.slot_str_join PySem.F.type_str_join JY ha (ae he aj mB) i4 tw i5 mB rfl) fun st H Q ⟨Hf,S,k⟩=>⟨Hf,S,fun v av H1 g1 r1=>by
   cases r1
   refine⟨rfl,av,S.grow g1,fun us bW H2 g2 r2=>?_⟩
   cases r2 with
   | cons r2 t2=>cases t2;cases r2 with
     | @lst q vs _ hq rp=>
       have ev:=nz rp
       subst ev
       exact⟨x,q,xs,rfl,rfl,.of (g2.sub _ _ hq),aZ,k _ bW H2 (g1.trans g2) (.str _)⟩⟩
end
def lj (kds:List (Key×Dt))(k:Key):Option Dt:=(kds.find? fun kv=>decide (kv.1=k)).map (·.2)
theorem pF {p:Key×Dt}{r:List (Key×Dt)}{k:Key}(e:p.1=k):lj (p::r) k=some p.2:=by simp[lj,List.find?_cons,e]
theorem mR {p:Key×Dt}{r:List (Key×Dt)}{k:Key}(e:¬ p.1=k):lj (p::r) k=lj r k:=by simp[lj,List.find?_cons,e]
theorem cC.val {K:W.Frag}{H:Hp}{k:Key}:∀ {kvs:List (Key×V)} {kds:List (Key×Dt)} {d:Dt},cC K H kvs kds->lj kds k=some d->∃ v,mO kvs k=some v/\Rep K H v d
 | _,_,_,.nil,e=>by cases e
 | (k1,v1)::r,(_,d1)::s,d,.cons h t,e=>by
   by_cases q:k1=k
   . rw[pF (p:=(k1,d1)) q] at e;cases e
     exact⟨v1,mP (p:=(k1,v1)) q,h⟩
   . rw[mR (p:=(k1,d1)) q] at e
     obtain⟨v,z1,z2⟩:=cC.val t e
     exact⟨v,by rw[k8 (p:=(k1,v1)) q];exact z1,z2⟩
theorem cC.zC {K:W.Frag}{H:Hp}{k:Key}:∀ {kvs:List (Key×V)} {kds:List (Key×Dt)},cC K H kvs kds->(mO kvs k).isSome=(lj kds k).isSome
 | _,_,.nil=>rfl
 | (k1,v1)::r,(_,d1)::s,.cons h t=>by
   by_cases q:k1=k
   . rw[mP (p:=(k1,v1)) q,pF (p:=(k1,d1)) q];rfl
   . rw[k8 (p:=(k1,v1)) q,mR (p:=(k1,d1)) q]
     exact cC.zC t
theorem cC.snoc {K:W.Frag}{H:Hp}{k:Key}{v:V}{d:Dt}(q:Rep K H v d):∀ {kvs:List (Key×V)} {kds:List (Key×Dt)},cC K H kvs kds->cC K H (kvs ++ [(k,v)]) (kds ++ [(k,d)])
 | _,_,.nil=>.cons q .nil
 | _,_,.cons h t=>.cons h (cC.snoc q t)
theorem Cu {kvs:List (Key×V)}{k:Key}{v:V}(h:(mO kvs k).isSome=false):putK kvs k v=kvs ++ [(k,v)]:=by
 unfold putK
 rw[o9,h]
 exact if_neg (by simp)
section
variable {X:Cx}{G:Gr}{E:XK}{dl:List Slot}{a b e i o:Expr}{d:Dt}{pos p:Pos}{k x:Str}{kds:List (Key×Dt)}
theorem J0 (hu:X.A.units+1 < cLine)(ho:EE X G dl o (.d0 kds))(hi:EE X G dl i (.str k))(h:lj kds (.inr k)=some d)(hs:Jz i):EE X G dl (.Subscript o i pos) d:=
 gd (B9 hu ho hi hs) fun st H Q ⟨Hf,S,kk⟩=>⟨Hf,S,fun v av H1 g1 r1=>⟨av,S.grow g1,fun w bW H2 g2 r2=>by
   cases r2
   cases r1 with
   | @d0 q kvs _ hq rp=>
     obtain⟨y,z1,z2⟩:=rp.val h
     have e:=q8.k (H:=H2) (k:=.inr k) (g2.big _ _ (g1.sub _ _ hq))
     rw[z1] at e
     exact⟨q,y,rfl,e,kk y bW H2 (g1.trans g2) (z2.mono g2.bh)⟩⟩⟩
theorem Vh {neg:Bool}:∀ st H Q,tD X.K G dl (.bl (if neg then !(lj kds (.inr k)).isSome else (lj kds (.inr k)).isSome)) st H Q->(if neg then B8 (tD X.K G dl (.str k)) (tD X.K G dl (.d0 kds)) else UX (tD X.K G dl (.str k)) (tD X.K G dl (.d0 kds))) st H Q:=fun st H Q ⟨Hf,S,kk⟩=>by
 cases neg with
 | false=>exact⟨Hf,S,fun v av H1 g1 r1=>⟨av,S.grow g1,fun w bW H2 g2 r2=>by
     cases r1
     cases r2 with
     | @d0 q kvs _ hq rp=>exact⟨q,_,rfl,q8.k (k:=.inr k) (g2.sub _ _ hq),by rw[rp.zC];exact kk _ bW H2 (g1.trans g2) (.bl _)⟩⟩⟩
 | true=>exact⟨Hf,S,fun v av H1 g1 r1=>⟨av,S.grow g1,fun w bW H2 g2 r2=>by
     cases r1
     cases r2 with
     | @d0 q kvs _ hq rp=>exact⟨q,_,rfl,q8.k (k:=.inr k) (g2.sub _ _ hq),by rw[rp.zC];exact kk _ bW H2 (g1.trans g2) (.bl _)⟩⟩⟩
theorem Cv (hu:X.A.units+1 < cLine)(hi:EE X G dl i (.str k))(ho:EE X G dl o (.d0 kds))(hm:behindInMarks .NotIn o=false:=by rfl):EB X G dl (.Compare i [.NotIn] [o] pos) (!(lj kds (.inr k)).isSome):=
 Q2 (MP (DC hu hi ho) hm) fun st H Q ⟨Hf,S,kk⟩=>Vh (neg:=true) st H _ ⟨Hf,S,fun v aH H' g r=>by cases r;exact⟨_,rfl,kk aH H' g⟩⟩
theorem zD:bootBuiltins "tuple"=some (.type "tuple"):=by decide +kernel
theorem J1 {ds:List Dt}(hm:X.mg "tuple"=none)(ha:EE X G dl a (.tup ds))(hg:Gl X "tuple":=by rfl)(he:starEach [a] X.env=[(false,eval a X.env)]:=by rfl):EE X G dl (.Call (.Name "tuple" p) [a] [] pos) (.tup ds):=
 gd (nr yX hg hm zD (ae ha aj he) (he:=he)) fun st H Q ⟨Hf,S,k⟩=>⟨Hf,S,fun vs av H1 g1 r1=>by
   cases r1 with
   | cons r t=>cases t;cases r with
     | @tup q vs _ z r=>exact⟨q,vs,rfl,fm g1.sub z,k _ av H1 g1 (.tup z r)⟩⟩
theorem Cw:EO X G dl (.Dict [] [] pos) (.d0 []):=gd zd fun st H Q ⟨Hf,S,k⟩=>fun p hp=>k p Hf _ (.d5 S.sub hp) hp (S.sub.free hp) ⟨[],ak,.nil⟩
def tW (kds:List (Key×Dt))(k:Key)(v:Dt):List (Key×Dt):=
 if (lj kds k).isSome=true then kds.map (fun kv=>if kv.1=k then (kv.1,v) else kv) else kds ++ [(k,v)]
theorem cC.map_put {K:W.Frag}{H:Hp}{k:Key}{v:V}{d:Dt}(q:Rep K H v d):∀ {kvs:List (Key×V)} {kds:List (Key×Dt)},cC K H kvs kds ->
   cC K H (kvs.map fun kv=>if kv.1=k then (kv.1,v) else kv) (kds.map fun kv=>if kv.1=k then (kv.1,d) else kv)
 | _,_,.nil=>.nil
 | (k1,v1)::r,(_,d1)::s,.cons h t=>by
   rw[List.map_cons,List.map_cons]
   by_cases e:k1=k
   . rw[if_pos e,if_pos e];exact .cons q (cC.map_put q t)
   . rw[if_neg e,if_neg e];exact .cons h (cC.map_put q t)
theorem cC.put {K:W.Frag}{H:Hp}{k:Key}{v:V}{d:Dt}{kvs:List (Key×V)}{kds:List (Key×Dt)}(q:Rep K H v d)(r:cC K H kvs kds):cC K H (putK kvs k v) (tW kds k d):=by
 unfold putK tW
 rw[o9,r.zC]
 by_cases h:(lj kds k).isSome=true
 . rw[if_pos h,if_pos h];exact cC.map_put q r
 . rw[if_neg h,if_neg h];exact cC.snoc q r
theorem Cy (n:Nat){ps pn:Pos}(hu:X.A.units+1 < cLine)(he:EE X G dl e d)(hb:EE X G dl b (.str k))(hl:kds.length < sizeLine)(hd:dl[n]?=some (.own (.d0 kds)):=by rfl)(hN:X.N[n]?=some x:=by rfl)(hv:sU X.env.scope x:=by first | exact Or.inl rfl | exact Or.inr (Or.inl rfl) | exact Or.inr (Or.inr rfl))(lG:(x == ("__debug__":Str))=false:=by decide)(k7:(x == ("__classdict__":Str))=false:=by decide)(hs:swapsWith e (some (.Subscript (.Name x pn) b ps)) pos.line X.env=pure false:=by rfl):ES X G E dl (.Assign [.Subscript (.Name x pn) b ps] e pos) (.nx (dl.set n (.own (.d0 (tW kds (.inr k) d))))):=
 rb (Ca hu (tQ (p:=pn) n hd hN hv lG k7) hb he hs) fun D st H ⟨Hf,S,kk⟩=>⟨Hf,S,fun v av H1 g1 r1=>by
   have S1:=S.grow g1
   obtain⟨q,z1,z2,z3,z4⟩:=S1.own n _ hd
   refine⟨av,q,S1,z1,z2,z4,av,S1,fun iv bW H2 g2 r2=>?_⟩
   cases r2
   have S2:=S1.grow g2
   obtain⟨q',y1,y2,y3,kvs,y4,y5⟩:=S2.own n _ hd
   rw[z1] at y1;cases y1
   have Y5:kvs.length < sizeLine:=by rw[y5.length];exact hl
   exact⟨q,_,rfl,Dz.k (k:=.inr k) y4 Y5,kk st bW _ (g1.bh.trans g2.bh) (S2.DG hd z1 ⟨_,ak,y5.put (r1.mono g2.bh)⟩)⟩⟩
def oi (rows:List (Str×List Dt)):List (Key×Dt):=rows.map fun r=>(.inr r.1,.tup (.str r.1::r.2))
def tX (r:Str×List Dt):Dt:=.tup (.str r.1::r.2)
theorem qu {k:Key}:∀ {kds:List (Key×Dt)},(∀ kv∈kds,kv.1≠k)->lj kds k=none
 | [],_=>rfl
 | kv::r,h=>by
   rw[mR (h kv (List.mem_cons_self ..))]
   exact qu fun z hz=>h z (List.mem_cons_of_mem _ hz)
theorem Gd {rows:List (Str×List Dt)}(nd:(rows.map (·.1)).Nodup){j:Nat}(hj:j < rows.length):lj (oi (rows.take j)) (.inr rows[j].1)=none:=by
 refine qu fun kv Vi=>?_
 obtain⟨r,hr,rfl⟩:=List.mem_map.mp Vi
 intro z
 have z:r.1=rows[j].1:=Sum.inr.inj z
 obtain⟨i,hi,e⟩:=List.mem_iff_getElem.mp hr
 have Tx:i < j:=by
   rw[List.length_take] at hi;omega
 rw[List.getElem_take] at e
 have Y6:i < rows.length:=by omega
 have h:=List.pairwise_iff_getElem.mp nd i j (by rw[List.length_map];exact Y6) (by rw[List.length_map];exact hj) Tx
 rw[List.getElem_map,List.getElem_map] at h
 exact h (by rw[e];exact z)
theorem Bb (rows:List (Str×List Dt)){j:Nat}(hj:j < rows.length):oi (rows.take (j+1))=oi (rows.take j) ++ [(.inr rows[j].1,tX rows[j])]:=by
 unfold oi
 rw[List.take_add_one,List.getElem?_eq_getElem hj,List.map_append];rfl
theorem bc.ka {Hf H aH H':Hp}{a:Addr}{u:HO}(g:bc Hf H aH H')(n:Hf a=none)(h:H a=some u)(nk:¬ Kept u:=by exact fun z=>z):aH a=none:=by
 cases q:aH a with
 | none=>rfl
 | some o=>
   obtain⟨o',z⟩:=g.wY h nk q
   rw[n] at z;cases z
theorem nB {K:W.Frag}{st:L2.St}{Hf H:Hp}{dlu:List Slot}{p:Addr}{o:HO}(S:dk K G st Hf H dlu)(qS:noOwn dlu=true)(fp:Hf p=none)(gp:G.H p=none):dk K G st Hf (upd H p o) dlu:=
 ⟨⟨fun b u e=>by rw[ah (ax e gp)];exact S.gr.big _ _ e,S.gr.bh,fun b u e=>by rw[ah (ax e fp)];exact S.sub _ _ e,S.gr.new⟩,S.len,S.val,fun j o h=>absurd h (aQ qS j o),fun j _ o _ _ h=>absurd h (aQ qS j o)⟩
theorem Ge (nR nN:Nat){C z:Addr}{fs:List (Str×Dt)}{rows:List (Str×List Dt)}{f self rw_ rn:Str}{px pr pa pn p1 p3 p4 p5 p6 pi:Pos}{ie ve:Expr}{dlu:List Slot}(hu:X.A.units+1 < cLine)(hN:X.N.Nodup)(pz:X.calm=true)(hp:PassesOwn (model X.prog X.w) X.A X.env X.xe)(cl:rV X.K C)(na:bu X.K C f)(hd:dl[0]?=some (.own (.zg z C fs)))(Y7:dl.set 0 .aO=dlu)(qS:noOwn dlu=true)(hr:dlu[nR]?=some (.val (.lst (rows.map tX))))(Y8:nN≠0)(hnR:nN≠nR)(Y9:dlu[nN]?=some .aO)(nd:(rows.map (·.1)).Nodup)(hlen:rows.length < sizeLine)(hi:∀ r:Str×List Dt,EE X G (dlu.set nN (.val (tX r))) ie (.str r.1))(hv:∀ r:Str×List Dt,EE X G (dlu.set nN (.val (tX r))) ve (tX r))(hl:Nat.ble fs.length 999=true:=by rfl)(P5:X.N[0]?=some self:=by rfl)(Za:X.N[nR]?=some rn:=by rfl)(Vj:X.N[nN]?=some rw_:=by rfl)(Zb:sU X.env.scope self:=by first | exact Or.inl rfl | exact Or.inr (Or.inl rfl) | exact Or.inr (Or.inr rfl))(Vk:sU X.env.scope rn:=by first | exact Or.inl rfl | exact Or.inr (Or.inl rfl) | exact Or.inr (Or.inr rfl))(lG:(self == ("__debug__":Str))=false:=by decide)(k7:(self == ("__classdict__":Str))=false:=by decide)(Vl:(rn == ("__debug__":Str))=false:=by decide)(Vm:(rn == ("__classdict__":Str))=false:=by decide)(hx:Loc X.env.scope rw_:=by first | exact Or.inl rfl | exact Or.inr rfl)(hf:X.fn rw_=true\/X.env.scope.names.lookup rw_=some .local:=by first | exact .inl rfl | exact .inr rfl | assumption)(EH:swapsWith (.Dict [] [] p1) (some (.Attribute (.Name self pn) f pa)) pos.line X.env=pure false:=by rfl)(yP:swapsWith ve (some (.Subscript (.Attribute (.Name self p3) f p4) ie p5)) p6.line X.env=pure false:=by rfl)(hb:attributeBase (.Name self p3) f X.env (eval (.Name self p3) X.env)=eval (.Name self p3) X.env:=by rfl)(Zc:∀ z,foldedSetIterable (.Name rn pr) X.env z=pure z:=by intro _;rfl):lM X G E dl [.Assign [.Attribute (.Name self pn) f pa] (.Dict [] [] p1) pos,.For (.Name rw_ px) (.Name rn pr) [.Assign [.Subscript (.Attribute (.Name self p3) f p4) ie p5] ve p6] [] pi] (.nx (dlu.set 0 (.own (.zg z C (putD f (.d0 (oi rows)) fs))))):=by
 have LX:∀ {p:Pos},PE X (.Name self p) fun st H Q=>∃ v,st[0]?=some (some v)/\Q v H:=fun {p}=>iy P5 Zb lG k7
 have o4:=lJ (Ca (pos:=p6) (pos':=p5) hu (sY (pos:=p4) (LX (p:=p3)) hb) (fun pins s st H Q I (q:∃ r,tD X.K G (dlu.set nN (.val (tX r))) (.str r.1) st H Q)=>let ⟨r,q⟩:=q;hi r pins s st H Q I q) (fun pins s st H Q I (q:∃ r,tD X.K G (dlu.set nN (.val (tX r))) (tX r) st H Q)=>let ⟨r,q⟩:=q;hv r pins s st H Q I q) yP)
 refine zh (mJ (sZ (pos:=pos) (pos':=pa) (LX (p:=pn)) zd EH) (lJ (wL hp pz (kC (iy (pos:=pr) Za Vk Vl Vm)) (bD hN Vj hx hf) o4 Zc))) fun D st H ⟨Hf,S,k⟩=>?_
 obtain⟨a,sa,fa,ga,ea,dx,fv,ha,rf⟩:=S.own 0 _ hd
 intro p zE
 have TV:a≠p:=ax ha zE
 have fp:Hf p=none:=S.sub.free zE
 have gp:G.H p=none:=S.gr.big.free zE
 have N3:(upd H p (.dK [])) a=some (.ins C dx fv):=by rw[ah TV];exact ha
 refine⟨.ref a,sa,a,C,dx,fv,rfl,N3,cl,na,by rw[rf.length];exact Nat.lt_succ_of_le (Nat.le_of_ble_eq_true hl),?_⟩
 have S0:dk X.K G st Hf H dlu:=by
   subst Y7
   refine⟨S.gr,by simp[S.len],fun j d h=>?_,fun j o h=>absurd h (aQ qS j o),fun j _ o _ _ h=>absurd h (aQ qS j o)⟩
   by_cases e:0=j
   . subst e
     by_cases P6:0 < dl.length
     . rw[List.getElem?_set_self P6] at h;cases h
     . exact absurd (List.getElem?_eq_some_iff.mp hd).1 P6
   . rw[List.getElem?_set_ne e] at h;exact S.val j d h
 have Su:dk X.K G st Hf (upd (upd H p (.dK [])) a (.ins C dx (eG f (.ref p) fv))) dlu:=nB (nB S0 qS fp gp) qS fa ga
 obtain⟨lv,LY,LH⟩:=Su.val nR _ hr
 cases LH with
 | @lst la vs _ hq rp=>
   have Zd:vs.length=rows.length:=by rw[rp.length,List.length_map]
   refine⟨.ref la,LY,la,rfl,⟨vs,.of (Su.sub _ _ hq)⟩,yN (xs:=vs) (fun j ju H'=>∃ aH kvs,dk X.K G ju aH H' dlu/\aF Hf aH/\ju[0]?=some (some (.ref a))/\aH a=none/\aH p=none/\H' a=some (.ins C dx (eG f (.ref p) fv))/\H' p=some (.dK kvs)/\cC X.K aH kvs (oi (rows.take j)))
     ⟨Hf,[],Su,aF.refl _,sa,fa,fp,ak,by rw[ah (Ne.symm TV)];exact ak,by rw[List.take_zero];exact .nil⟩ ?_ ?_ ?_⟩
   . rintro j ju H' _ ⟨aH,kvs,S',sm,_⟩
     exact .of (S'.sub _ _ (sm _ _ hq))
   . rintro j v ju H' Tt ⟨aH,kvs,S',sm,s0,Vn,Vo,RB,TX,rk⟩
     obtain⟨dz,hz,rz⟩:=rp.get' Tt
     have hj:j < rows.length:=by
       have:=(List.getElem?_eq_some_iff.mp Tt).1
       omega
     rw[List.getElem?_map,List.getElem?_eq_getElem hj] at hz
     cases hz
     have Sp:dk X.K G (ju.set nN (some v)) aH H' (dlu.set nN (.val (tX rows[j]))):=S'.set (rz.mono sm)
     have Xl:(ju.set nN (some v))[0]?=some (some (.ref a)):=by rw[List.getElem?_set_ne Y8];exact s0
     refine⟨rows[j],aH,Sp,fun w av H1 g1 r1=>⟨.ref a,Xl,a,C,dx,_,.ref p,rfl,.of (g1.big _ _ RB),cl,na,by rw[mL,if_pos rfl],rows[j],av,Sp.grow g1,fun y bW H2 g2 r2=>?_⟩⟩
     cases r2
     have g:=g1.trans g2
     have u7:H2 p=some (.dK kvs):=g.big _ _ TX
     have LZ:H2 a=some (.ins C dx (eG f (.ref p) fv)):=g.big _ _ RB
     have Vp:bW p=none:=g.ka Vo TX
     have Ze:bW a=none:=g.ka Vn RB
     have RC:=rk.mono g.bh
     have RD:kvs.length < sizeLine:=by
       rw[rk.length]
       unfold oi
       rw[List.length_map,List.length_take];omega
     have Dy:(mO kvs (.inr rows[j].1)).isSome=false:=by rw[rk.zC,Gd nd hj];rfl
     have Sw:dk X.K G (ju.set nN (some v)) bW H2 dlu:=(Sp.grow g).weak ⟨by simp,fun i s e n=>by
       by_cases hi:nN=i
       . subst hi;rw[Y9] at e;cases e;exact absurd rfl n
       . rw[List.getElem?_set_ne hi];exact e⟩
     refine⟨p,_,rfl,Dz.k (k:=.inr rows[j].1) u7 RD,bW,_,nB Sw qS Vp gp,sm.trans g.bh,Xl,Ze,Vp,by rw[ah TV];exact LZ,ak,?_⟩
     rw[Cu Dy,Bb rows hj]
     exact RC.snoc (r1.mono g2.bh)
   . rintro ju H' ⟨aH,kvs,S',sm,s0,Vn,Vo,RB,TX,rk⟩
     rw[Zd,List.take_length] at rk
     have RE:aF aH (upd aH p (.dK kvs)):=bB Vo
     have l0:0 < dlu.length:=by
       rw[<- S'.len]
       exact(List.getElem?_eq_some_iff.mp s0).1
     refine k ju (upd aH p (.dK kvs)) H' (sm.trans RE) ⟨⟨S'.gr.big,S'.gr.bh.trans RE,fun b u e=>?_,fun b u e=>?_⟩,by simp[S'.len],fun j d h=>?_,fun j o h=>?_,fun i j o o' q h1 h2 h3 h4=>?_⟩
     . by_cases hb:b=p
       . subst hb;rw[ak] at e;cases e;exact TX
       . rw[ah hb] at e;exact S'.sub _ _ e
     . by_cases hb:b=p
       . subst hb;exact .inr (.inl gp)
       . rw[ah hb] at e;exact S'.gr.new b u e
     . by_cases e:0=j
       . subst e;rw[List.getElem?_set_self l0] at h;cases h
       . rw[List.getElem?_set_ne e] at h
         obtain⟨v,z1,z2⟩:=S'.val j d h
         exact⟨v,z1,z2.mono RE⟩
     . by_cases e:0=j
       . subst e
         rw[List.getElem?_set_self l0] at h;cases h
         exact⟨a,s0,by rw[ah TV];exact Vn,ga,ea,dx,_,RB,(rf.mono (sm.trans RE)).put (.d0 ak (rk.mono RE))⟩
       . rw[List.getElem?_set_ne e] at h;exact absurd h (aQ qS j o)
     . have z:∀ (i:Nat) o,(dlu.set 0 (.own (.zg z C (putD f (.d0 (oi rows)) fs))))[i]?=some (.own o)->0=i:=fun i o h=>by
         by_cases e:0=i
         . exact e
         . rw[List.getElem?_set_ne e] at h;exact absurd h (aQ qS i o)
       rw[<- z i o h1,<- z j o' h2]
end
theorem Cz:∀ {xs:List V} {us:List Value},xs.length=us.length->(∀ (j:Nat) x u,xs[j]?=some x->us[j]?=some u->RelV x u)->Vals xs us
 | [],[],_,_=>.nil
 | [],_::_,h,_=>by cases h
 | _::_,[],h,_=>by cases h
 | x::xs,u::us,h,f=>.cons (f 0 x u rfl rfl) (Cz (Nat.succ.inj h) fun j a b h1 h2=>f (j+1) a b (by simpa using h1) (by simpa using h2))
theorem Gf:∀ {kvs:List (Key×V)} {vs:List (Key×Value)},KV kvs vs->∀ {j:Nat} {q:Key×Value},vs[j]?=some q->∃ p,kvs[j]?=some p/\p.1=q.1/\RelV p.2 q.2
 | _,_,.nil,j,q,h=>by simp at h
 | _,_,.cons r t,0,q,h=>by simp at h;subst h;exact⟨_,rfl,r⟩
 | _,_,.cons r t,j+1,q,h=>by
   obtain⟨p,h1,h2⟩:=Gf t (j:=j) (q:=q) (by simpa using h)
   exact⟨p,by simpa using h1,h2⟩
theorem Bc:∀ {kvs:List (Key×V)} {vs:List (Key×Value)},KV kvs vs->kvs.length=vs.length
 | _,_,.nil=>rfl
 | _,_,.cons r t=>congrArg (·+1) (Bc t)
section
variable {X:Cx}{G:Gr}{dl:List Slot}{a o:Expr}{kds:List (Key×Dt)}{pos p:Pos}
theorem Bd (hc:X.calm=true):jv X (.type "list") (fun xs H Q=>∃ (d:Addr) (kvs:List (Key×V)),xs=[.ref d]/\H d=some (.dK kvs)/\∀ l,H l=none->Q (.ref l) (upd H l (.lst (kvs.map fun kv=>kV kv.1)))):=by
 intro pins s σ H xs us Q I r h
 obtain⟨d,kvs,rfl,hq,q⟩:=h
 obtain⟨u,rfl,rx⟩:=vals1 r
 cases rx
 obtain⟨hz,lo,vs,kv,o,es,ep,ho,hr⟩:=I.aZ d _ hq
 have hl:=Bc kv
 refine W.kdl_call (W.kdl_dict (knd:=cB X.prog X.w) (kvs:=vs) (ep:=ep) lo) (I.ok.hd hc) ⟨o,es,ho,hr⟩ (by omega) fun h' tk RF c' kp e it=>?_
 refine⟨.ref s.heap.objs.size,_,I.laid (t':=tk) kp (Nat.le_refl _) (show aJ X.prog X.w _ h' _ (.lst _) from⟨by rw[List.length_map];exact hz,RF.toList,c',Cz ?_ fun j x u h1 h2=>?_,e⟩),rfl,q _ (I.aZ.fresh (Nat.le_refl _))⟩
 . have e1:RF.toList.length=vs.length:=by rw[Array.length_toList];exact it.1
   rw[List.length_map,e1,hl]
 . rw[Array.getElem?_toList] at h2
   obtain⟨k,y,z1,z2⟩:=it.2 j u h2
   obtain⟨p,z3,z4,_⟩:=Gf kv z1
   rw[List.getElem?_map,z3] at h1
   cases h1
   have z4:p.1=k:=z4
   show RelV (kV p.1) u
   rw[z4]
   rcases cH z2 with⟨i,t,rfl,rfl⟩ | ⟨i,t,rfl,rfl⟩
   . exact⟨t,rfl⟩
   . exact⟨t,rfl⟩
def kD:Key->Dt
 | .inl i=>.int i
 | .inr x=>.str x
theorem qv {K:W.Frag}{H:Hp}:∀ {kvs:List (Key×V)} {kds:List (Key×Dt)},cC K H kvs kds->bg K H (kvs.map fun kv=>kV kv.1) (kds.map fun kd=>kD kd.1)
 | _,_,.nil=>.nil
 | (.inl i,_)::_,_,.cons _ t=>.cons (.int i) (qv t)
 | (.inr i,_)::_,_,.cons _ t=>.cons (.str i) (qv t)
theorem Gg (hm:X.mg "list"=none)(hc:X.calm=true)(ha:EE X G dl a (.d0 kds))(hg:Gl X "list":=by rfl)(he:starEach [a] X.env=[(false,eval a X.env)]:=by rfl):EO X G dl (.Call (.Name "list" p) [a] [] pos) (.lst (kds.map fun kd=>kD kd.1)):=
 gd (nr (Bd hc) hg hm boot_list (ae ha aj he) (he:=he)) fun st H Q ⟨Hf,S,k⟩=>⟨Hf,S,fun vs av H1 g1 r1=>by
   cases r1 with
   | cons r t=>cases t;cases r with
     | @d0 q kvs _ z r=>exact⟨q,kvs,rfl,g1.sub _ _ z,fun l hl=>k l av _ (g1.trans (.d5 g1.sub hl)) (g1.big.free hl) (g1.sub.free hl) ⟨_,ak,qv r⟩⟩⟩
end
def RG (x:Str):It:=
 ⟨fun i H=>∃ c,x.cps[i]?=some c,fun i H v H'=>∃ p c,v=.ref p/\H p=none/\H'=upd H p (.tup [.int i,.str ⟨#[c]⟩])/\x.cps[i]?=some c,fun i H=>i=x.cps.size⟩
theorem Be {P:Program}{w:World}{K:W.Frag}{elts:List Expr}{kt:Nat}{wM:Pos}(x:Str)(t:Tok)(e it:Addr)(P4:e≠it):Turn P w K (.Tuple elts kt wM) (RG x) [e,it] e (fun i h=>(∃ old,IsEnum h e it i old)/\h.IsStrIter it "str_ascii_iterator" x t i) where
 mem:=by simp
 obj:=fun i h st b hb=>by
   obtain⟨⟨old,he⟩,o,e2,c,d⟩:=st
   rcases List.mem_cons.mp hb with rfl | hb
   . exact⟨_,he,fun v z=>by cases z⟩
   . have:b=it:=by simpa using hb
     subst this
     exact⟨o,e2,fun v z=>by rw[d] at z;cases z⟩
 keep:=fun i h h' st k=>by
   obtain⟨⟨old,he⟩,o,e2,r⟩:=st
   exact⟨⟨old,k e (by simp) _ he⟩,o,k it (by simp) o e2,r⟩
 item:=by
   intro X hP hw hK hc i pins s σ H E I hf st hg
   subst hP hw hK
   obtain⟨c,hx⟩:=hg
   obtain⟨⟨old,he⟩,hit⟩:=st
   have Ry:e < s.heap.objs.size:=Heap.lt_size he
   have TR:it < s.heap.objs.size:=by obtain⟨_,z,_⟩:=hit;exact Heap.lt_size z
   have cS:i < x.cps.size:=(Array.getElem?_eq_some_iff.mp hx).1
   refine wpAny_pyNext_enum_itemD (Draws.strAscii (A:=X.A.in1) (I.ok.hd hc) it x t) he hit cS P4 (by simpa using P4) fun u h1 tk hP ho NX hT hsz hk=>?_
   obtain⟨c',u',Aw,rfl⟩:=hP
   rw[hx] at Aw;cases Aw
   refine⟨_,rfl,wpAny_letOwnedTupleGo_enum ho fun h2 NJ yP=>?_⟩
   have Vf:h2.get? s.heap.objs.size=some { cls:=.type "tuple",data:=.seq #[.int i tk,.str ⟨#[c]⟩ u']}:=(yP.2 _ (Nat.ne_of_gt Ry)).trans hT
   have k2:∀ b o,b ∉ [e,it]->s.heap.get? b=some o->h2.get? b=some o:=fun b o hb q=>(yP.2 b fun z=>hb (by simp[z])).trans (hk b o (fun z=>hb (by simp[z])) (fun z=>hb (by simp[z])) q)
   have hp:H s.heap.objs.size=none:=I.aZ.fresh (Nat.le_refl _)
   have I2:L2.Inv X pins σ (upd H s.heap.objs.size (.tup [.int i,.str ⟨#[c]⟩])) { s with heap:=h2,toks:=tk+1}:=zy I hf k2 (Nat.le_refl _) ⟨Nat.le_of_ble_eq_true rfl,[.int i tk,.str ⟨#[c]⟩ u'],.cons ⟨_,rfl⟩ (.cons ⟨_,rfl⟩ .nil),_,Vf,rfl,_,rfl⟩
   refine⟨.ref s.heap.objs.size,_,I2,rfl,⟨_,c,rfl,hp,rfl,hx⟩,⟨⟨_,by simpa using NJ⟩,let ⟨o,z1,z2⟩:=NX;⟨o,(yP.2 it (Ne.symm P4)).trans z1,z2⟩⟩,fun b hb=>?_⟩
   have:b≠s.heap.objs.size:=by
     rcases List.mem_cons.mp hb with rfl | hb
     . exact Nat.ne_of_lt Ry
     . have:b=it:=by simpa using hb
       subst this
       exact Nat.ne_of_lt TR
   rw[ah this]
   exact(hf b hb).1
 done:=by
   intro X hP hw hK hc i pins s σ H E I hf st hg
   subst hP hw hK
   have hg:i=x.cps.size:=hg
   subst hg
   obtain⟨⟨old,he⟩,hit⟩:=st
   obtain⟨f0,f1,f2,f3,f4,f5⟩:=hf it (by simp)
   exact wpAny_pyNext_enum_endD (Draws.strAscii (A:=X.A.in1) (I.ok.hd hc) it x t) he hit fun h' eb=>⟨rfl,I.turned (t':=s.toks) (fun b o hb q=>eb b o hb q) f0 f1 f3 f4 f5⟩
 self:=fun _ i s Q E st h=>by
   obtain⟨⟨old,he⟩,_⟩:=st
   exact wpAny_pyIter_enum he h
section
variable {X:Cx}{G:Gr}{dl:List Slot}{a:Expr}{x:Str}{p pos:Pos}
def Gh (ta:TA):TI:=fun σ H R=>ta σ H fun vs H1=>∃ x,vs=[.str x]/\ji x=true/\R (RG x) H1
theorem Gi {elts:List Expr}{kt:Nat}{wM:Pos}{ta:TA}(hg:Gl X "enumerate")(hm:X.mg "enumerate"=none)(ha:PA X [a] ta)(hs:starEach [a] X.env=[(false,eval a X.env)]:=by rfl):PI X (.Tuple elts kt wM) (.Call (.Name "enumerate" p) [a] [] pos) (Gh ta):=by
 intro pins s σ H R I h
 refine Call_ (oE I hg hm boot_enumerate (PyProof.Rows.callWith_type1 (bK (ha pos pins s σ H _ I h) fun us s1 ⟨vs,H1,I1,r1,q1⟩=>?_) hs rfl))
 obtain⟨x,e,N4,q⟩:=q1
 subst e
 cases r1 with
 | cons r rr=>
   cases rr
   obtain⟨t,rfl⟩:=r
   refine call_enumerate_str fun h' he hit hsz k=>wpAny_pyIter_enum he ?_
   have QO:strIterType x="str_ascii_iterator":=by unfold strIterType;rw[show x.cps.all (· < 128)=true from N4];rfl
   rw[QO] at hit
   have I2:L2.Inv X pins σ H1 { s1 with heap:=h'}:=I1.kept (t':=s1.toks) k
   refine⟨s1.heap.objs.size+1,[s1.heap.objs.size+1,s1.heap.objs.size],_,_,H1,rfl,I2,Be x t _ s1.heap.objs.size (Nat.succ_ne_self _),⟨⟨_,he⟩,hit⟩,fun b hb=>?_,q⟩
   have NF:s1.heap.objs.size<=b:=by
     rcases List.mem_cons.mp hb with rfl | hb
     . exact Nat.le_succ _
     . have:b=s1.heap.objs.size:=by simpa using hb
       rw[this];exact Nat.le_refl _
   exact I1.u5 NF (I1.aZ.fresh NF)
theorem Bf (hx:ji x=true):rh X G dl (qT (Sg.signs x)) (Gh (Q0 X.K G dl [.str x])):=fun st H R ⟨Hf,S,k⟩=>⟨Hf,S,fun vs av H1 g1 r1=>by
 cases r1 with
 | cons r t=>
   cases t
   cases r
   refine⟨x,rfl,hx,k _ av H1 g1 fun bW H2 s1 s2 i=>⟨fun z hz=>?_,fun hi=>?_⟩⟩
   . have hi:i < (Sg.signs x).length:=by
       have:=(List.getElem?_eq_some_iff.mp hz).1
       unfold qT at this
       simpa using this
     unfold qT at hz
     rw[List.getElem?_map,List.getElem?_range hi] at hz
     cases hz
     have EK:(Sg.signs x)[i]?=some ((Sg.signs x).getD i .cL):=by rw[List.getD_eq_getElem?_getD,List.getElem?_eq_getElem hi];rfl
     rw[signs_get] at EK
     cases q:x.cps[i]? with
     | none=>rw[q] at EK;cases EK
     | some c=>
       rw[q] at EK
       have EK:Dt.str ⟨#[c]⟩=(Sg.signs x).getD i .cL:=Option.some.inj EK
       refine⟨⟨c,q⟩,fun v H3 ⟨p,c',e1,e2,e3,e4⟩=>?_⟩
       rw[q] at e4;cases e4
       subst e1 e3
       show ∃ iu,bc bW H2 iu _/\Rep X.K iu (V.ref p) (Dt.tup [Dt.int i,(Sg.signs x).getD i Dt.cL])
       rw[<- EK]
       exact⟨upd bW p (.tup [.int i,.str ⟨#[c]⟩]),.alloc s2 e2,.tup (.of ak) (.cons (.int _) (.cons (.str _) .nil))⟩
   . show i=x.cps.size
     unfold qT at hi
     rw[List.length_map,List.length_range,nA] at hi
     exact hi⟩
end
theorem N5 {us:List Value}{d:Value}(h:(us ++ [d]).length=3):∃ a b,us=[a,b]:=by
 rw[List.length_append] at h
 have h:us.length=2:=Nat.succ.inj h
 match us,h with
 | [a,b],_=>exact⟨a,b,rfl⟩
end Sg
namespace Sg
open PySem PySem.Spec PyProof.Rows L2
open Sem (wp)
structure Vq (z tI tO j1 j2:Addr)(f1 f2:List Addr):Prop where
 tz:tI≠z
 oz:tO≠z
 az:j1≠z
 bz:j2≠z
 to:tI≠tO
 ta:tI≠j1
 tb:tI≠j2
 oa:tO≠j1
 ob:tO≠j2
 ab:j1≠j2
 z1:z ∉ f1
 o1:tO ∉ f1
 b1:j2 ∉ f1
 z2:z ∉ f2
 o2:tO ∉ f2
 a2:j1 ∉ f2
inductive ZS where
 | txt (x:Str) (t:Tok)
 | lst (l:Addr)
def ZS.val:ZS->Value
 | .txt x t=>.str x t
 | .lst l=>.ref l
def ZS.obj:ZS->Obj
 | .txt x t=>{ cls:=.type (strIterType x),data:=.fields #[.str x t,.int 0 0]}
 | .lst l=>{ cls:=.type "list_iterator",data:=.fields #[.ref l,.int 0 0]}
def ZS.ok (h:Heap):ZS->Prop
 | .txt x _=>ji x=true
 | .lst l=>∃ xs,h.IsList l xs
def ZS.at (it:Addr)(i:Nat)(h:Heap):ZS->Prop
 | .txt x t=>h.IsStrIter it "str_ascii_iterator" x t i
 | .lst l=>h.IsListIter it l i
def ZS.v:ZS->V
 | .txt x _=>.str x
 | .lst l=>.ref l
section
inductive ZD:Dt->List Dt->Prop
 | lst (xs:List Dt):ZD (.lst xs) xs
 | str (x:Str):ji x=true->ZD (.str x) (Sg.signs x)
end
def Zf (C t:Addr)(od:Option Addr):Obj:={ cls:=.ref C,dict:=od,data:=.fields #[.ref t,.none,.none,.none,.bool false,.none]}
def Zg (h:Heap)(e C:Addr)(od:Option Addr):Prop:=∃ t:Addr,h.get? e=some (Zf C t od)
section
variable {C:Addr}
structure StX (K:W.Frag)(C:Addr)(f:Str):Prop where
 sa:W.findIn K (.ref C) "__setattr__"=some (some (.builtin "object.__setattr__"))
 na:W.findIn K (.ref C) f=some none
 ob:W.mroIn K C (.type "object")=some true
 mr:∃ G,(W.clsIn K C).map (·.mro)=some [.ref C,.ref G,.type "ValueError",.type "Exception",.type "BaseException",.type "object"]
 hd:(W.clsIn K C).map (·.hasDict)=some true
end
def N6 (K:W.Frag)(C:Addr)(Xm:List Value)(nw:String)(fI:Addr):Bool:=match K.lookup C with
 | some ⟨.type "type",_,.cls cd,sl⟩=>(match cd.mro,sl.toList with
   | .ref D::tl,[_,_,_,_,some (.builtin n),_]=>D == C && (n == nw && (!cd.hasDel && (W.tailIn K Xm tl && (W.nsOkIn K cd.ns && (W.nsIn K cd.ns "__init__" == some (some (.ref fI)))))))
   | _,_=>false)
 | _=>false
structure Zi (K:W.Frag)(C fI:Addr):Prop where
 ex:N6 K C W9 "ValueError.__new__" fI=true
 fn:W.typeIn K (.ref fI)=some (.type "function")
 kp:W.keepIn K (.ref C)=true
structure XcB (K:W.Frag)(G:Addr):Prop where
 sp:W.specialIn K (.ref G) "__getattribute__"=some (some (.builtin "type.__getattribute__"))
 rd:W.readsIn K G (.type "type")=true
 fc:W.findCls K (.ref G) (.type "type") "__init__"=some (.val (.builtin "ValueError.__init__"))
abbrev xT (z C:Addr)(od:Option Addr):HO:=.ext fun h=>Zg h z C od
def Zj (K:W.Frag)(C:Addr)(f:Str)(ok:Dt->Prop):Sp:=fun vs H Q E=>∃ Hf H1 z v d,vs=[.ref z,v]/\H=upd H1 z (xT z C none)/\H1 z=none/\aF Hf H1/\Rep K Hf v d/\ok d /\
 ∀ bW H2 dx,bc Hf H bW H2->H2 dx=none->dx≠z->Q .cL (upd (upd H2 dx (.xd [(f,v)])) z (xT z C (some dx)))
structure XF (P:Program)(w:World)(K:W.Frag)(mg:Str->Option Value)(base:Heap)(CX:qe)(k:Nat)(x:Str)(C:Addr)(f:Str)(ok:Dt->Prop):Prop where
 ex:∃ fI fd ps,i3 P w K mg base CX k fI fd ps (Zj K C f ok)/\Zi K C fI/\mg x=some (.ref C)/\Binds K fd ps []
section
variable {X:Cx}{G:Gr}{E:XK}{dl:List Slot}{e:Expr}{p pos apos bP:Pos}{x:Str}{ds IQ:List Dt}
theorem DU (n:Nat){pn:Pos}(he:EE X G dl e (.lst IQ))(hl:ds.length+IQ.length<=sizeLine)(hd:dl[n]?=some (.own (.lst ds)):=by rfl)(hN:X.N[n]?=some x:=by rfl)(hv:sU X.env.scope x:=by first | exact Or.inl rfl | exact Or.inr (Or.inl rfl) | exact Or.inr (Or.inr rfl))
   (lG:(x == ("__debug__":Str))=false:=by decide) (k7:(x == ("__classdict__":Str))=false:=by decide)
   (i4:attributeBase (.Name x pn) "extend" X.env (eval (.Name x pn) X.env)=eval (.Name x pn) X.env:=by rfl)
   (tw:((backTo bP (starEach [e] X.env)).all (fun x=>!x.1) && (backToKw bP (keywordEach [] X.env)).all (fun x=>x.1.isSome) && decide ([e].length+([]:List Keyword).length+(if ([]:List Keyword).isEmpty then 0 else 1) < 30))=true:=by rfl)
   (i5:(apos.endLine == bP.line)=true:=by rfl) (mB:starEach [e] X.env=(false,eval e X.env)::starEach [] X.env:=by rfl) (hs:swapsWith (.Call (.Attribute (.Name x pn) "extend" apos) [e] [] bP) none pos.line X.env=pure false:=by rfl) :
   ES X G E dl (.Expr (.Call (.Attribute (.Name x pn) "extend" apos) [e] [] bP) pos) (.nx (dl.set n (.own (.lst (ds ++ IQ))))):=
 rb (kB (tu PySem.F.plainAttrs_list PySem.F.slot_list_extend PySem.F.type_list_extend Dx (tQ (p:=pn) n hd hN hv lG k7) (ae he aj mB) i4 tw i5 mB rfl) hs) fun D st H ⟨Hf,S,k⟩=>by
   obtain⟨q,z1,z2,z3,vs,hq,rp⟩:=S.own n _ hd
   refine⟨Hf,q,S,z1,z2,⟨vs,hq,rp⟩,.inl ⟨rfl,vs,.of hq⟩,Hf,S,fun us av H1 g1 r1=>?_⟩
   cases r1 with
   | cons r1 t1=>
     cases t1
     cases r1 with
     | @lst b zs _ hb rz=>
       refine⟨q,b,vs,zs,rfl,rfl,g1.big _ _ hq,g1.sub _ _ hb,by rw[rp.length,rz.length];exact hl,?_⟩
       exact k st av _ g1.bh ((S.grow g1).DG hd z1 ⟨_,ak,(rp.mono g1.bh).append rz⟩)
end
mutual
def Vs:Dt->Bool
 | .lst _=>false
 | .nv _=>false
 | .tup ds=>RH ds
 | .d0 kds=>RI kds
 | .obj _ fs=>RJ fs
 | .qh _=>false
 | .xo _=>false
 | .Cc _ _=>false
 | .dW _=>false
 | .memo _ _ _ _=>false
 | .dY _ _ _ _=>false
 | .u0 _ _ _=>false
 | .u9 _ _ _ _ _=>false
 | .lb _=>false
 | _=>true
def RH:List Dt->Bool
 | []=>true
 | d::r=>Vs d && RH r
def RI:List (Key×Dt)->Bool
 | []=>true
 | (_,d)::r=>Vs d && RI r
def RJ:List (Str×Dt)->Bool
 | []=>true
 | (_,d)::r=>Vs d && RJ r
end
structure RK (k:Nat)(A:Around):Prop where
 dp:A.depth+3 * k+5 < recursionLimit
 un:A.units+16 * k+200 < cLine
structure RL (P:Program)(w:World)(K:W.Frag)(mg:Str->Option Value)(base:Heap)(CX:qe)(k:Nat)(f:Addr)(fd:FuncData)(ps:List Str)(sp:Sp):Prop where
 len:∀ vs H Q E,sp vs H Q E->vs.length=ps.length
 run:∀ (A:Around) (outer:List Env) (s:Shared) (H:Hp) (args:Args) (us:List Value) (vs:List V) (Q:VK) (E:XK),RK k A->yQ P w K mg base A outer s H->BindsTo s fd args (ps.zip us)->Vals vs us->sp vs H Q E ->
   codeAny (model P w) A (.call (.ref f) args) (CR CX outer P w H s Q E) s
structure GFH (P:Program)(w:World)(K:W.Frag)(mg:Str->Option Value)(base:Heap)(CX:qe)(k:Nat)(x:Str)(n:Nat)(R:List Dt->Res->Prop):Prop where
 ex:∃ f fd ps,RL P w K mg base CX k f fd ps (Cf K n R)/\mg x=some (.ref f)/\W.keepIn K (.ref f)=true/\Binds K fd ps []
theorem tY:typeLookup (.type "list") "keys"=pure none:=am_miss_of_fast (by decide +kernel)
theorem DV {prog:Program}{w:World}{A:Around}{E:Value->Shared->Prop}{s:Shared}{a:Addr}{o:Obj}{xs:Array Value}{k:Nat}{Q:Option Value->Shared->Prop}(hx:s.heap.get? a=some o)(hc:o.cls=.type "list")(RN:o.data=.seq xs k)(hd:o.dict=none)(hA:A.handled=none)(h:∀ h' tk,(∀ b u,s.heap.get? b=some u->h'.get? b=some u)->Q none { s with heap:=h',toks:=tk}):wpAny (model prog w) A (getAttr? (.ref a) "keys") Q E s:=by
 obtain⟨c,dct,dat,sl⟩:=o
 simp only at hc RN hd
 subst hc RN hd
 obtain⟨hp,g,d,tk,os⟩:=s
 have hT:∀ Xn,(⟨hp,g,d,Xn,os⟩:Shared).TypeIs (.ref a) "list":=fun _=>⟨_,hx,rfl⟩
 have f1:=sub_AttributeError
 have f3:=F.slot_list_getattribute.lookup
 have f4:=F.slot_list_getattribute.bind (.ref a)
 have f5:=am_list_getattr_none
 unfold getAttr? getAttrBy? getAttrBy
 repeat (any_goals (first | assumption | exact hT _ | ((with_reducible show wpAny _ _ (call (Value.builtin "list.__getattribute__") _ _) _ _ _);refine call_meets F.slot_list_getattribute (hT _) am_entry_list_getattribute (F.args_list_getattribute_2 _ _) (meets_getattribute_miss_list a xs k sl "keys" _ tY (by decide +kernel)) ⟨hx,hA,fun h' Xn e EK=>?_⟩) | wp_step))
 obtain⟨t',u',he⟩:=EK.there
 show wpAny _ _ (getattributeRaised _ _ _ _ _ _ _) _ _ _
 unfold getattributeRaised
 repeat (any_goals (first | assumption | wp_step))
 exact h _ _ EK.keeps
theorem iM:plainId "dict.update.loop"=true:=by decide +kernel
theorem oj:entryFor table "dict.update.loop"=some Builtin.«dict.update.loop»:=entryFor_of_fast (by kernel_rfl)
inductive EL (K:W.Frag)(H:Hp):List V->List (Key×V)->Prop
 | nil:EL K H [] []
 | cons {t:Addr} {k:Key} {v:V} {xs:List V} {kvs:List (Key×V)}:Ax K H t [kV k,v]->EL K H xs kvs->EL K H (.ref t::xs) ((k,v)::kvs)
theorem EL.length {K:W.Frag}{H:Hp}:∀ {xs:List V} {kvs:List (Key×V)},EL K H xs kvs->xs.length=kvs.length
 | _,_,.nil=>rfl
 | _,_,.cons _ r=>congrArg (·+1) (EL.length r)
theorem EL.get {K:W.Frag}{H:Hp}:∀ {xs:List V} {kvs:List (Key×V)} {i:Nat} {kv:Key×V},EL K H xs kvs->kvs[i]?=some kv->∃ t,xs[i]?=some (.ref t)/\Ax K H t [kV kv.1,kv.2]
 | _,_,_,_,.nil,e=>by simp at e
 | _,_,0,_,.cons h _,e=>by simp at e;subst e;exact⟨_,rfl,h⟩
 | _,_,i+1,_,.cons _ r,e=>by
   obtain⟨t,h1,h2⟩:=EL.get (i:=i) r (by simpa using e)
   exact⟨t,by simpa using h1,h2⟩
theorem zF {kvs:List (Key×V)}{k:Key}(h:k ∉ kvs.map (·.1)):(mO kvs k).isSome=false:=by
 induction kvs with
 | nil=>rfl
 | cons p r ih=>
   have h1:¬ p.1=k:=fun e=>h (by simp[e])
   rw[k8 h1]
   exact ih fun z=>h (by simp at z ⊢;exact .inr z)
section
variable {X:Cx}{pins:List (Addr×Obj)}{σ:L2.St}{H:Hp}{A:Around}{R:Result->Shared->Prop}{L d it:Addr}{xs:List V}{kvs:List (Key×V)}
theorem Gj (hA:A.handled=none)(hL:lI X.K H L xs)(hp:EL X.K H xs kvs)(nd:(kvs.map (·.1)).Nodup)(hd:H d=none)(hf:j9 X pins H it)(Vt:d≠it)(hz:kvs.length<=sizeLine)(hR:∀ s',L2.Inv X pins σ (upd H d (.dK kvs)) s'->R (.ok (.ret .none)) s'):∀ (k i:Nat) (s:Shared) (tk:Tok),kvs.length - i=k->i<=kvs.length->L2.Inv X pins σ (upd H d (.dK (kvs.take i))) s->s.heap.IsListIter it L i->codeAny (model X.prog X.w) A (.builtin "dict.update.loop" ⟨[.ref d,.ref it,.int i tk,.none],[]⟩) R s:=by
 have hlen:=hp.length
 have sm:∀ o,aF H (upd H d o):=fun o=>bB hd
 obtain⟨f0,f1,f2,f3,f4,f5⟩:=hf
 intro k
 induction k with
 | zero=>
   intro i s tk hk hi I st
   have N7:i=kvs.length:=by omega
   subst N7
   obtain⟨aD,rv,p,Xo⟩:=I.list ((sm _).seq hL)
   have hl:=rv.length
   refine codeAny_builtin oj ?_
   rw[Around.under_plainId iM _]
   show wpAny _ A.in1 (pyNext (.ref it) >>= _) _ _ s
   refine wpAny_bind (wpAny_pyNext_list_end (show A.in1.handled=none from hA) st p.isList (by simp;omega) fun h' eb=>?_)
   have I1:L2.Inv X pins σ (upd H d (.dK (kvs.take kvs.length))) { s with heap:=h'}:=I.turned (t':=s.toks) (fun b o hb e=>eb b o hb e) (by rw[ah (Ne.symm Vt)];exact f0) f1 f3 f4 f5
   rw[List.take_length] at I1
   show wpAny _ A.in1 (Builtin.Dict.addKeywords d [] >>= _) _ _ _
   exact wpAny_bind (wpAny_pure (wpAny_pure (hR _ I1)))
 | succ k ih=>
   intro i s tk hk hi I st
   have cS:i < kvs.length:=by omega
   obtain⟨t,Zk,Zl⟩:=hp.get (List.getElem?_eq_getElem cS)
   obtain⟨aD,rv,p,Xo⟩:=I.list ((sm _).seq hL)
   obtain⟨u,hu,ru⟩:=rv.get Zk
   cases (show u=Value.ref t from ru)
   refine codeAny_builtin oj ?_
   rw[Around.under_plainId iM _]
   show wpAny _ A.in1 (pyNext (.ref it) >>= _) _ _ s
   refine wpAny_bind (wpAny_pyNext_list_item st p.isList (x:=.ref t) (by simpa using hu) fun h' ju sb=>?_)
   have I1:L2.Inv X pins σ (upd H d (.dK (kvs.take i))) { s with heap:=h'}:=I.turned (t':=s.toks) (fun b o hb e=>(sb.2 b hb).trans e) (by rw[ah (Ne.symm Vt)];exact f0) f1 f3 f4 f5
   obtain⟨pit,rp,pt,hzt⟩:=I1.tuple (fm (sm _) Zl)
   cases rp with
   | cons rk rp=>cases rp with
     | cons Zm rp=>
       cases rp
       rename_i ku vu
       obtain⟨ot,eo,Vu,nn,Zn⟩:=pt
       refine wpAny_bind (wpAny_holding (wpAny_bind (wpAny_tryCatch ?_)))
       unfold Builtin.Dict.pairItems
       refine wpAny_bind (wpAny_typeOf (T:="tuple") ⟨_,eo,Vu⟩ ?_)
       simp only[show((Value.type "tuple" == Value.type "list") || (Value.type "tuple" == Value.type "tuple"))=true by decide,if_true]
       refine wpAny_bind (wpAny_seqItems eo Zn (wpAny_pure ?_))
       show wpAny _ A.in1 (holding [ku,vu] (dictSet d ku vu)) _ _ _
       refine wpAny_holding ?_
       have ed:(upd H d (HO.dK (kvs.take i))) d=some (.dK (kvs.take i)):=ak
       obtain⟨z,Zo,vs,rel,dd⟩:=LJ I1.aZ ed
       have Zp:vs.length<=sizeLine:=by rw[<- rel.length];exact z
       have RO:putK (kvs.take i) kvs[i].1 kvs[i].2=kvs.take (i+1):=by
         rw[Cu (zF ?_),List.take_succ,List.getElem?_eq_getElem cS];rfl
         rw[List.map_take]
         intro hm
         obtain⟨j,hj,e⟩:=List.mem_iff_getElem.mp hm
         rw[List.length_take,List.length_map] at hj
         rw[List.getElem_take,List.getElem_map] at e
         have:=List.pairwise_iff_getElem.mp nd j i (by rw[List.length_map];omega) (by rw[List.length_map];omega) (by omega)
         rw[List.getElem_map,List.getElem_map] at this
         exact this e
       refine wpAny_dictSet_pairs (hsz:=Zp) (yZ rk) dd fun h2 Nr hs=>?_
       have he:∃ q,h2.get? d=some q:=let ⟨q,_,_,hq,_⟩:=Nr;⟨q,hq⟩
       have I2:L2.Inv X pins σ (upd (upd H d (.dK (kvs.take i))) d (.dK (putK (kvs.take i) kvs[i].1 kvs[i].2))) { s with heap:=h2,toks:=s.toks+1}:=lL (s:={ s with heap:=h'}) (t':=s.toks+1) I1 (by rw[ed];exact True.intro) hs he (Fm (by rw[RO,List.length_take];omega) Zo (rel.put _ Zm) Nr)
       rw[rO,RO] at I2
       exact wpAny_pure ⟨plainId_quiet iM _,ih (i+1) _ _ (by omega) (by omega) I2 (ju.at fun o e=>(hs.2 it (Ne.symm Vt)).trans e)⟩
theorem xn (hc:X.calm=true):jv X (.type "dict") (fun xs H Q=>∃ L ys kvs,xs=[.ref L]/\H L=some (.lst ys)/\EL X.K H ys kvs/\(kvs.map (·.1)).Nodup/\kvs.length<=sizeLine/\∀ l,H l=none->Q (.ref l) (upd H l (.dK kvs))):=by
 intro pins s σ H xs us Q I r h
 obtain⟨L,ys,kvs,rfl,hL,hp,nd,hz,q⟩:=h
 obtain⟨u,rfl,rx⟩:=vals1 r
 cases rx
 refine callType_codes (Q₁:=fun obj s₁=>obj=.ref s.heap.objs.size/\s₁={ s with heap:=s.heap.push { cls:=.type "dict",data:=.dict #[]}}) F.kt_called_dict (F.kt_typeCall_dict_1 _) F.entry_dict_init (kt_code_dict_new _ ⟨rfl,rfl⟩) ?_
 rintro obj s₁ ⟨rfl,rfl⟩
 have Dy:(s.heap.push { cls:=.type "dict",data:=.dict #[]}).DictOf (cB X.prog X.w) s.heap.objs.size []:=Heap.DictOf.new s.heap
 have hn:=I.aZ.fresh (Nat.le_refl _)
 have I1:L2.Inv X pins σ (upd H s.heap.objs.size (.dK [])) { s with heap:=s.heap.push { cls:=.type "dict",data:=.dict #[]}}:=I.laid (a:=s.heap.objs.size) (o:=.dK []) (t':=s.toks) (fun _ _ q=>Heap.get?_push_of_some _ q) (Nat.le_refl _) (zc s.heap I.big)
 refine⟨Dy.typeIs,F.args_dict_init_2 _ _,?_⟩
 unfold Builtin.«dict.__init__»
 refine wpAny_bind ?_
 unfold Builtin.Dict.selfAndRest
 refine wpAny_bind (wpAny_notOrdered_dict Dy.typeIs ?_)
 show wpAny _ _ (pure (s.heap.objs.size,[Value.ref L])) _ _ _
 refine wpAny_pure ?_
 show wpAny _ _ (Builtin.Dict.updateFrom "dict.__init__" s.heap.objs.size (.ref L) [] .none) _ _ _
 unfold Builtin.Dict.updateFrom
 have Zq:s.heap.objs.size≠L:=fun e=>by rw[<- e,hn] at hL;cases hL
 have Zr:(upd H s.heap.objs.size (HO.dK [])) L=some (.lst ys):=by rw[ah (Ne.symm Zq)];exact hL
 obtain⟨Xo,aD,n,rv,eL⟩:=(show aJ X.prog X.w _ _ L (.lst ys) from I1.aZ L _ Zr)
 have hA:X.A.handled=none:=I.ok.hd hc
 refine wpAny_bind (wpAny_typeOf (T:="list") ⟨_,eL,rfl⟩ ?_)
 rw[if_pos (by decide)]
 refine wpAny_bind (DV eL rfl rfl rfl (by exact hA) fun h1 RP Xp=>?_)
 rw[if_pos (by rfl)]
 have I2:L2.Inv X pins σ (upd H s.heap.objs.size (.dK [])) { s with heap:=h1,toks:=RP}:=I1.kept (t':=RP) Xp
 have Zs:h1.get? L=some { cls:=.type "list",data:=.seq aD.toArray n}:=Xp _ _ eL
 refine wpAny_bind (wpAny_rule (wpAny_bind (wpAny_pyIter_list (s:={ s with heap:=h1,toks:=RP}) (items:=aD.toArray) ⟨_,Zs,rfl,n,rfl⟩ ?_)))
 have I3:L2.Inv X pins σ (upd H s.heap.objs.size (.dK [])) { s with heap:=h1.push { cls:=.type "list_iterator",data:=.fields #[.ref L,.int 0 0]},toks:=RP}:=I2.kept (t':=RP) fun b o e=>Heap.get?_push_of_some _ e
 have hsz:s.heap.objs.size < h1.objs.size:=I2.aZ.lt ak
 have YL:s.heap.objs.size<=h1.objs.size:=Nat.le_of_lt hsz
 have Vv:H h1.objs.size=none:=by
   have:=I2.aZ.fresh (Nat.le_refl h1.objs.size)
   rw[ah (Nat.ne_of_gt hsz)] at this
   exact this
 refine wpAny_pure ⟨plainId_quiet iM _,Gj (kvs:=kvs) (by exact hA) (.of hL) hp nd hn (I2.u5 (b:=h1.objs.size) (Nat.le_refl _) Vv) (Nat.ne_of_lt hsz) hz (fun s' I'=>⟨rfl,.ref _,_,I',rfl,q _ hn⟩) kvs.length 0 _ _ (by omega) (by omega) I3 ⟨_,Heap.get?_push_size _ rfl,rfl,rfl⟩⟩
end
section
variable {X:Cx}{G:Gr}{dl:List Slot}{a:Expr}{pos p:Pos}{kds:List (Key×Dt)}
def IS (kd:Key×Dt):Dt:=.tup [kD kd.1,kd.2]
theorem Gk {K:W.Frag}{Hf H:Hp}(sm:aF Hf H):∀ {ys:List V} {kds:List (Key×Dt)},bg K Hf ys (kds.map IS)->∃ kvs,EL K H ys kvs/\cC K Hf kvs kds
 | _,[],.nil=>⟨[],.nil,.nil⟩
 | _,(k,d)::kds,.cons r t=>by
   obtain⟨kvs,h1,h2⟩:=Gk sm t
   cases r with
   | @tup a vs _ hs rp=>
     cases rp with
     | @cons v1 _ _ _ r1 r2=>cases r2 with
       | @cons v2 _ _ _ r2 r3=>
         cases r3
         have e1:v1=kV k:=by
           cases k with
           | inl i=>cases r1;rfl
           | inr x=>cases r1;rfl
         subst e1
         exact⟨(k,v2)::kvs,.cons (fm sm hs) h1,.cons r2 h2⟩
theorem cC.keys {K:W.Frag}{H:Hp}:∀ {v:List (Key×V)} {d:List (Key×Dt)},cC K H v d->v.map (·.1)=d.map (·.1)
 | _,_,.nil=>rfl
 | _,_,.cons _ r=>by rw[List.map_cons,List.map_cons,cC.keys r]
theorem ll (hm:X.mg "dict"=none)(hc:X.calm=true)(ha:EE X G dl a (.lst (kds.map IS)))(nd:(kds.map (·.1)).Nodup)(hz:kds.length<=sizeLine)(hg:Gl X "dict":=by rfl)(he:starEach [a] X.env=[(false,eval a X.env)]:=by rfl):EO X G dl (.Call (.Name "dict" p) [a] [] pos) (.d0 kds):=
 gd (nr (xn hc) hg hm boot_dict (ae ha aj he) (he:=he)) fun st H Q ⟨Hf,S,k⟩=>⟨Hf,S,fun vs av H1 g1 r1=>by
   cases r1 with
   | cons r t=>cases t;cases r with
     | @lst q vs _ z r=>
       obtain⟨kvs,h1,h2⟩:=Gk g1.sub r
       exact⟨q,vs,kvs,rfl,g1.sub _ _ z,h1,by rw[h2.keys];exact nd,by rw[h2.length];exact hz,fun l hl=>k l av _ (g1.trans (.d5 g1.sub hl)) (g1.big.free hl) (g1.sub.free hl) ⟨kvs,ak,h2⟩⟩⟩
theorem DW:PX X "str.count" (fun x vs H Q=>∃ z y:Str,x=.str z/\vs=[.str y]/\Q (.int (Txt.count z y)) H):=by
 intro pins s σ H x vs v us Q I rx rv ⟨z,y,e1,e2,q⟩
 subst e1 e2
 obtain⟨t,rfl⟩:=(show ∃ t,v=Value.str z t from rx)
 obtain⟨u,rfl,ru⟩:=vals1 rv
 obtain⟨t',rfl⟩:=(show ∃ t,u=Value.str y t from ru)
 exact PySem.SC.count ⟨.int (Txt.count z y),H,I.tok _,⟨_,rfl⟩,q⟩
end
section
inductive Gm:List (Key×Value)->List (Key×Value)->Prop
 | nil:Gm [] []
 | cons {k:Key} {i:Int} {t u:Tok} {xs ys:List (Key×Value)}:Gm xs ys->Gm ((k,.int i t)::xs) ((k,.int i u)::ys)
end
theorem tZ {H:Hp}{q:Addr}{o:HO}(h:H q=some o):upd H q o=H:=by
 funext b
 by_cases e:b=q
 . subst e;rw[ak,h]
 . rw[ah e]
section
variable {X:Cx}{G:Gr}{dl:List Slot}{a b:Expr}{x:Str}{apos bP:Pos}{kds:List (Key×Dt)}
def dI (kds:List (Key×Int)):List (Key×Dt):=kds.map fun kd=>(kd.1,Dt.int kd.2)
theorem J2 {K:W.Frag}{H:Hp}:∀ {kds:List (Key×Int)} {kvs:List (Key×V)},cC K H kvs (dI kds)->kvs=kds.map fun kd=>(kd.1,V.int kd.2)
 | [],_,.nil=>rfl
 | (k,i)::kds,_,.cons r t=>by
   cases r
   rw[J2 (kds:=kds) t];rfl
theorem DX {z w:Str}(ha:EE X G dl a (.str z))(hb:EE X G dl b (.str w))(i4:attributeBase a "count" X.env (eval a X.env)=eval a X.env:=by rfl)
   (tw:((backTo bP (starEach [b] X.env)).all (fun x=>!x.1) && (backToKw bP (keywordEach [] X.env)).all (fun x=>x.1.isSome) && decide ([b].length+([]:List Keyword).length+(if ([]:List Keyword).isEmpty then 0 else 1) < 30))=true:=by rfl)
   (i5:(apos.endLine == bP.line)=true:=by rfl) (mB:starEach [b] X.env=(false,eval b X.env)::starEach [] X.env:=by rfl):EE X G dl (.Call (.Attribute a "count" apos) [b] [] bP) (.int (Txt.count z w)):=
 gd (tu PySem.F.plainAttrs_str PySem.F.slot_str_count PySem.F.type_str_count DW ha (ae hb aj mB) i4 tw i5 mB rfl) fun st H Q ⟨Hf,S,k⟩=>⟨Hf,S,fun v av H1 g1 r1=>by
   cases r1
   exact⟨rfl,av,S.grow g1,fun vs bW H2 g2 r2=>by
     cases r2 with
     | cons r t=>cases t;cases r;exact⟨z,w,rfl,rfl,k _ bW H2 (g1.trans g2) (.int _)⟩⟩⟩
end
structure xp (X:Cx)(N:List Str)(xt:Str)(ix:List Nat)(sc:Scope):Prop where
 nd:N.Nodup
 nm:N=xt::ix.map (fun j=>X.N.getD j "")
 kind:sc.kind=.function
 one:sc.names.filter (fun y=>y.2 == .cell)=[(xt,.cell)]
 names:∀ y∈sc.names,y.2=.local->sc.names.lookup y.1=some .local
 hx:sc.names.lookup xt=some .cell
 ML:∀ y∈sc.names,y.2=.free->y.1≠xt
 fr:∀ y∈sc.names,y.2=.free->X.env.kindOf y.1=some .cell\/X.env.kindOf y.1=some .free
 Q5:∀ j∈ix,∃ y,X.N[j]?=some y/\sc.names.lookup y=some .free
def kz (X:Cx)(N:List Str)(sc:Scope)(xt:Str)(c C:Addr)(fp:List Addr)(s:Shared)(H:Hp):Cx:=
 { X with N:=N,s₀:=s,H₀:=H,env:=compEnvC sc ((xt,c)::ky sc X.env) C X.env,outer:=X.stack,stack:=X.stack,ex:=fp,fn:=fun y=>y == xt,pn:=[],xe:=vc}
theorem CA:∀ {names:List (Str×NameKind)} {acc:List (Str×Addr)} {n:Nat} {h:Heap},names.filter (fun y=>y.2 == .cell)=[]->cellsFrom n names acc=acc/\pushCells h names=h
 | [],_,_,_,_=>⟨rfl,rfl⟩
 | (y,k)::r,acc,n,h,e=>by
   by_cases hk:(k == NameKind.cell)=true
   . rw[List.filter_cons_of_pos (by exact hk)] at e;cases e
   . rw[List.filter_cons_of_neg (by exact hk)] at e
     unfold cellsFrom pushCells
     rw[if_neg hk,if_neg hk]
     exact CA e
theorem zG {x:Str}:∀ {names:List (Str×NameKind)} {acc:List (Str×Addr)} {n:Nat} {h:Heap},names.filter (fun y=>y.2 == .cell)=[(x,.cell)]->cellsFrom n names acc=(x,n)::acc/\pushCells h names=h.push { cls:=.type "cell",data:=.cell none}
 | [],_,_,_,e=>by cases e
 | (y,k)::r,acc,n,h,e=>by
   by_cases hk:(k == NameKind.cell)=true
   . rw[List.filter_cons_of_pos (by exact hk)] at e
     injection e with e1 e2
     cases e1
     unfold cellsFrom pushCells
     rw[if_pos hk,if_pos hk]
     exact CA e2
   . rw[List.filter_cons_of_neg (by exact hk)] at e
     unfold cellsFrom pushCells
     rw[if_neg hk,if_neg hk]
     exact zG e
theorem J3 {M:Model}{A:Around}{E:Value->Shared->Prop}{s:Shared}{sc:Scope}{globals:Addr}{cl:List (Str×Addr)}{qual:Str}{around:Env}{x:Str}{Q:Env->Shared->Prop}(h1:sc.names.filter (fun y=>y.2 == .cell)=[(x,.cell)])(hQ:Q { scope:=sc,locals:=s.heap.objs.size,globals:=globals,cells:=(x,s.heap.objs.size+1)::cl,qual:=qual,func:=none,code:=around.code,frame:=around.frame,builtins:=around.builtins} { s with heap:=(s.heap.push { cls:=.type "dict",data:=.dict #[]}).push { cls:=.type "cell",data:=.cell none}}):wpAny M A (newFunctionEnv sc globals cl [] qual none .none (some around)) Q E s:=by
 simp only[newFunctionEnv,Option.isSome_some,if_true]
 refine wpAny_bind (wpAny_alloc ?_)
 refine wpAny_bind (wpAny_layCells _ (fun name kind cells=>by cases Zt:kind == NameKind.cell <;> simp[Zt]) _ _ _ _ ?_)
 obtain⟨e1,e2⟩:=zG (acc:=cl) (n:=(s.heap.push { cls:=.type "dict",data:=.dict #[]}).objs.size) (h:=s.heap.push { cls:=.type "dict",data:=.dict #[]}) h1
 show wpAny M A (forIn [] PUnit.unit _ >>= _) Q E _
 rw[List.forIn_nil]
 refine wpAny_bind (wpAny_pure (wpAny_pure ?_))
 dsimp only
 rw[e1,e2,Heap.size_push]
 exact hQ
section
variable {X:Cx}{N:List Str}{xt:Str}{ix:List Nat}{sc:Scope}{pins:List (Addr×Obj)}{st:L2.St}{H H':Hp}{s s':Shared}{c C D:Addr}{fp:List Addr}{h1:Heap}
theorem J4 (B:xp X N xt ix sc)(ok:X.Ok):closureFor sc X.env=pure (ky sc X.env):=xh fun y hy hk=>ok.has y.1 (B.fr y hy hk)
theorem nC (B:xp X N xt ix sc)(ok:X.Ok){y:Str}{c:Addr}(h:(ky sc X.env).lookup y=some c):X.env.cells.lookup y=some c/\(y,NameKind.free)∈sc.names:=by
 rcases pB _ _ h with⟨h1,h2⟩ | h1
 . obtain⟨c',h3⟩:=ok.has y (B.fr _ h1 rfl)
   rw[h3] at h2
   cases h2
   exact⟨h3,h1⟩
 . cases h1
theorem iC {y xt:Str}{c d:Addr}{cl:List (Str×Addr)}(h:((xt,c)::cl).lookup y=some d):(y=xt/\d=c)\/(y≠xt/\cl.lookup y=some d):=by
 rw[List.lookup_cons] at h
 cases q:(y == xt) with
 | true=>rw[q] at h;exact .inl ⟨by simpa using q,(Option.some.inj h).symm⟩
 | false=>rw[q] at h;exact .inr ⟨by simpa using q,h⟩
theorem r6 (B:xp X N xt ix sc)(I:L2.Inv X pins st H s)(hC:s.heap.objs.size<=C)(hc:s.heap.objs.size<=c)(hf:∀ b∈fp,j9 X pins H b)(cS:∀ b∈fp,b < s.heap.objs.size):(kz X N sc xt c C fp s H).Ok where
 mod:=I.ok.mod
 kind:=B.kind
 glob:=I.ok.glob
 blt:=I.ok.blt
 above:=hC
 inj:=fun y z d h1 h2=>by
   have old:∀ {y:Str},(ky sc X.env).lookup y=some c->False:=fun {y} h=>by
     obtain⟨v,q⟩:=I.cell y c (nC B I.ok h).1
     exact absurd (Nat.lt_of_lt_of_le q.lt hc) (Nat.lt_irrefl _)
   rcases iC h1 with⟨e1,e2⟩ | ⟨e1,e2⟩ <;> rcases iC h2 with⟨e3,e4⟩ | ⟨e3,e4⟩
   . rw[e1,e3]
   . rw[e2] at e4;exact(old e4).elim
   . rw[e4] at e2;exact(old e2).elim
   . exact I.ok.inj y z d (nC B I.ok e2).1 (nC B I.ok e4).1
 has:=fun y hy=>by
   have hy:(relabel sc X.env).names.lookup y=some .cell\/(relabel sc X.env).names.lookup y=some .free:=hy
   show ∃ d,((xt,c)::ky sc X.env).lookup y=some d
   by_cases e:y=xt
   . subst e;exact⟨c,by simp[List.lookup_cons]⟩
   . have nc:(y,NameKind.cell) ∉ sc.names:=fun hm=>by
       have:(y,NameKind.cell)∈sc.names.filter (fun y=>y.2 == .cell):=List.mem_filter.mpr ⟨hm,rfl⟩
       rw[B.one] at this
       have:=List.mem_singleton.mp this
       exact e (congrArg Prod.fst this)
     have:(y,NameKind.free)∈sc.names:=by
       rcases hy with hy | hy
       . obtain⟨k',h1,h2⟩:=fo hy
         rcases h2 with h2 | h2
         . subst h2;exact absurd h1 nc
         . subst h2;exact h1
       . obtain⟨k',h1,h2⟩:=fo hy
         rcases h2 with h2 | h2 <;> subst h2 <;> exact h1
     obtain⟨d,hd⟩:=i7 (cells:=X.env.cells) sc.names [] (.inl this)
     refine⟨d,?_⟩
     rw[List.lookup_cons,show(y == xt)=false by simpa using e]
     exact hd
 PQ:=fun y d h1 h2=>by
   rcases iC h2 with⟨_,e⟩ | ⟨e,_⟩
   . rw[e];exact hc
   . exact absurd (by have h1:(y == xt)=true:=h1;simpa using h1) e
 hd:=I.ok.hd
 frames:=I.ok.frames
 Qh:=.inl rfl
 Jd:=fun b hb=>⟨Nat.ne_of_lt (Nat.lt_of_lt_of_le (cS b hb) hC),fun y d h=>by
   rcases iC h with⟨_,e⟩ | ⟨_,e⟩
   . rw[e];exact Nat.ne_of_gt (Nat.lt_of_lt_of_le (cS b hb) hc)
   . exact(hf b hb).2.2.2.2.1 y d (nC B I.ok e).1⟩
 bs:=I.bs
 BW:=Nat.le_trans I.ok.BW I.sz
 yF:=fun b o e hb=>by
   rcases (hf b hb).2.2.2.1 with z | z
   . exact I.ok.yF b o e z
   . exact absurd (Nat.lt_of_lt_of_le (Heap.lt_size e) (Nat.le_trans I.ok.BW z)) (Nat.lt_irrefl _)
 yG:=fun b hb z=>by
   rcases List.mem_cons.mp (I.sV b z) with z | z
   . exact(hf b hb).2.1 z
   . exact(hf b hb).2.2.1 z
 p0:=I.stack
 Ly:=I.rQ
theorem Bg (B:xp X N xt ix sc)(I:L2.Inv X pins st H s)(hf:∀ b∈fp,j9 X pins H b)(cS:∀ b∈fp,b < s.heap.objs.size)(hC:C=s.heap.objs.size+1)(Qk:c=s.heap.objs.size+2)(k:∀ b o,s.heap.get? b=some o->h1.get? b=some o)(hn:h1.Ns C fun _=>none)(Vw:h1.IsCell c none)(hD:h1.get? s.heap.objs.size=some { cls:=.type "list",data:=.seq ([]:List Value).toArray 0}){t':Nat}:L2.Inv (kz X N sc xt c C fp s H) [] (List.replicate 1 none ++ frees ix st) (upd H s.heap.objs.size (.lst [])) { s with heap:=h1,toks:=t'}:=by
 have LN:s.heap.objs.size<=C:=by rw[hC];exact Nat.le_succ _
 have Aw:s.heap.objs.size<=c:=by rw[Qk];exact Nat.le_add_right _ _
 have fr:∀ a,s.heap.objs.size<=a->H a=none:=fun a ha=>I.aZ.fresh ha
 have ok:=r6 (c:=c) B I LN Aw hf cS
 have Av:∀ y c,(ky sc X.env).lookup y=some c->H c=none/\c < s.heap.objs.size/\∃ v,s.heap.IsCell c v:=fun y c h=>by
   have h:=(nC B I.ok h).1
   obtain⟨v,q⟩:=I.cell y c h
   exact⟨I.n9 y c h,q.lt,v,q⟩
 refine⟨ok,rfl,I.bare,Un.laid k (Nat.le_refl _) (fr _ (Nat.le_refl _)),⟨_,hn,fun i y v e1 e2 e3=>?_⟩,fun y d h=>?_,?_,fun y d h=>?_,fun p hp=>absurd (show p∈([]:List (Addr×Obj)) from hp) (by simp),?_,?_⟩
 . have e1:N[i]?=some y:=e1
   cases i with
   | zero=>cases e2
   | succ i=>
     rw[B.nm,List.getElem?_cons_succ,List.getElem?_map] at e1
     have e2:(frees ix st)[i]?=some (some v):=e2
     unfold frees at e2
     rw[List.getElem?_map] at e2
     cases q:ix[i]? with
     | none=>rw[q] at e1;cases e1
     | some j=>
       rw[q] at e1 e2
       obtain⟨y',IP,FG⟩:=B.Q5 j (List.mem_of_getElem? q)
       have JJ:=PySem.mem_of_lookup FG
       have ey:y=y':=by
         have e1:X.N.getD j ""=y:=Option.some.inj e1
         rw[List.getD_eq_getElem?_getD,IP] at e1
         exact e1.symm
       subst ey
       have e2:(st[j]?).join=some v:=Option.some.inj e2
       have Q6:st[j]?=some (some v):=by
         cases q2:st[j]? with
         | none=>rw[q2] at e2;cases e2
         | some z=>rw[q2] at e2;rw[show z=some v from e2]
       have kd:=B.fr _ JJ rfl
       have nx:y≠xt:=B.ML _ JJ rfl
       have Q7:sU X.env.scope y:=by
         rcases kd with z | z
         . exact .inr (.inl z)
         . exact .inr (.inr z)
       obtain⟨m,_,hl⟩:=I.loc
       obtain⟨u,r,l⟩:=hl j y v IP Q6 Q7
       refine⟨u,r,.inr ?_⟩
       rcases l with⟨z,_⟩ | ⟨_,d,hd,ic⟩
       . rcases kd with z' | z' <;> rw[z] at z' <;> cases z'
       . obtain⟨d',PR⟩:=i7 (cells:=X.env.cells) sc.names [] (.inl JJ)
         have:=(nC B I.ok PR).1
         rw[hd] at this;cases this
         obtain⟨oc,BY,A2⟩:=ic
         refine⟨?_,d,?_,oc,k _ _ BY,A2⟩
         . rcases e3 with e3 | e3 | e3
           . have e3:(relabel sc X.env).names.lookup y=some .local:=e3
             rcases lP (env:=X.env) FG with z | z
             . exact absurd (e3.symm.trans z) (by decide)
             . exact absurd (e3.symm.trans z) (by decide)
           . exact .inl e3
           . exact .inr e3
         . show((xt,c)::ky sc X.env).lookup y=some d
           rw[List.lookup_cons,show(y == xt)=false by simpa using nx]
           exact PR
 . rcases iC h with⟨_,e⟩ | ⟨_,e⟩
   . rw[e];exact⟨none,Vw⟩
   . obtain⟨_,_,v,oc,BY,hd⟩:=Av y d e
     exact⟨v,oc,k _ _ BY,hd⟩
 . show upd H s.heap.objs.size (.lst []) C=none
   rw[ah (by rw[hC];exact Nat.succ_ne_self _)]
   exact fr _ LN
 . show upd H s.heap.objs.size (.lst []) d=none
   rcases iC h with⟨_,e⟩ | ⟨_,e⟩
   . rw[e,ah (by rw[Qk];exact Nat.ne_of_gt (Nat.lt_add_of_pos_right (by decide)))]
     exact fr _ Aw
   . obtain⟨q1,q2,_⟩:=Av y d e
     rw[ah (Nat.ne_of_lt q2)]
     exact q1
 . exact I.aZ.laid k (Nat.le_refl _) ⟨Nat.zero_le _,[],0,.nil,hD⟩
 . show(List.replicate 1 none ++ frees ix st).length=N.length
   rw[B.nm]
   unfold frees
   simp
theorem Gn {elt iter tg:Expr}{ifs:List Expr}{pos:Pos}{g:TG}{tt:TT}{te:TE}{J:It}{it:Addr}{tj:Nat->Heap->Prop}{Q:Addr->List V->Hp->Prop}{RR:Value->Addr->Result->Shared->Prop}{E:Value->Shared->Prop}(hc:X.calm=true)(B:xp X N xt ix sc)(hg:∀ c C fp s H,PG (kz X N sc xt c C fp s H) tg g)(ht:∀ c C fp s H,LU (kz X N sc xt c C fp s H) ifs tt)(jf:∀ c C fp s H,PE (kz X N sc xt c C fp s H) elt te)(I:L2.Inv X pins st H s)(T:Turn X.prog X.w X.K tg J fp it tj)(h0:tj 0 s.heap)(hf:∀ b∈fp,j9 X pins H b)(hq:∀ D,H D=none->Cq 1 g tt te (frees ix st) J D (Q D) H)(Q8:∀ D C ys H' s',L2.Inv X pins st H' s'->(∃ m,s'.heap.Ns C m)->j9 X pins H' C->Q D ys H'->RR (.ref D) C (.ok .next) s'):wpAny (model X.prog X.w) X.A (newList []) (fun acc s3=>wpAny (model X.prog X.w) X.A (newFunctionEnv sc X.env.globals (ky sc X.env) [] X.env.qual none .none (some X.env)) (fun zl s4=>codeAny (model X.prog X.w) X.A (.compStart (.ListComp elt [⟨tg,iter,ifs,0⟩] sc pos) 0 (.ref it) acc { zl with scope:=relabel sc X.env}) (RR acc zl.locals) s4) E s3) E s:=by
 have cS:∀ b∈fp,b < s.heap.objs.size:=fun b hb=>by
   obtain⟨o,e,_⟩:=T.obj _ _ h0 b hb
   exact Heap.lt_size e
 refine wpAny_newObj_type (J3 B.one ?_)
 dsimp only
 generalize hG:s.heap.push { cls:=.type "list",dict:=none,data:=.seq ([]:List Value).toArray}=g'
 generalize TY:(g'.push { cls:=.type "dict",data:=.dict #[]}).push { cls:=.type "cell",data:=.cell none}=h1
 have hC:g'.objs.size=s.heap.objs.size+1:=by rw[<- hG,Heap.size_push]
 have TJ:s.heap.objs.size≠g'.objs.size:=by rw[hC];exact Nat.ne_of_lt (Nat.lt_succ_self _)
 have old:∀ b o,s.heap.get? b=some o->h1.get? b=some o:=fun b o e=>by
   rw[<- TY,<- hG]
   exact Heap.get?_push_of_some _ (Heap.get?_push_of_some _ (Heap.get?_push_of_some _ e))
 have FH:h1.get? s.heap.objs.size=some { cls:=.type "list",data:=.seq ([]:List Value).toArray 0}:=by
   rw[<- TY,<- hG]
   exact Heap.get?_push_of_some _ (Heap.get?_push_of_some _ (Heap.get?_push_size _ rfl))
 have EG:h1.Ns g'.objs.size fun _=>none:=by
   rw[<- TY]
   exact(Heap.Ns.new g' (.type "dict")).keeps fun b o e=>Heap.get?_push_of_some _ e
 have Vw:h1.IsCell (g'.objs.size+1) none:=by
   rw[<- TY]
   have e:g'.objs.size+1=(g'.push { cls:=.type "dict",data:=.dict #[]}).objs.size:=by rw[Heap.size_push]
   rw[e]
   exact⟨_,Heap.get?_push_size _ rfl,rfl⟩
 have hD:H s.heap.objs.size=none:=I.aZ.fresh (Nat.le_refl _)
 obtain⟨W,⟨m0,w0⟩,turn⟩:=hq _ hD
 have I0:=Bg (t':=s.toks) B I hf cS hC (show g'.objs.size+1=s.heap.objs.size+2 by rw[hC]) old EG Vw FH
 have LO:tj 0 h1:=T.keep _ _ _ h0 fun b _ o e=>old b o e
 have mQ:s.heap.objs.size<=g'.objs.size:=by rw[hC];exact Nat.le_succ _
 have oF:∀ {H':Hp},(∀ b∈fp,H' b=none)->∀ b∈fp,j9 (kz X N sc xt (g'.objs.size+1) g'.objs.size fp s H) [] H' b:=fun {H'} hn b hb=>
   ⟨hn b hb,((r6 B I mQ (Nat.le_trans mQ (Nat.le_succ _)) hf cS).Jd b hb).1,(r6 B I mQ (Nat.le_trans mQ (Nat.le_succ _)) hf cS).yG b hb,.inl hb,((r6 B I mQ (Nat.le_trans mQ (Nat.le_succ _)) hf cS).Jd b hb).2,fun p hp=>absurd (show p∈([]:List (Addr×Obj)) from hp) (by simp)⟩
 have loop:∀ s3:Shared,s3={ s with heap:=h1} ->
     codeAny (model X.prog X.w) X.A (.compLoop (.ListComp elt [⟨tg,iter,ifs,0⟩] sc pos) 0 (.ref it) (.ref s.heap.objs.size) (compEnvC sc ((xt,g'.objs.size+1)::ky sc X.env) g'.objs.size X.env)) (RR (.ref s.heap.objs.size) g'.objs.size) s3:=by
   rintro s3 rfl
   refine zu (fun n s'=>∃ i ys σ H',σ.length=1/\L2.Inv (kz X N sc xt (g'.objs.size+1) g'.objs.size fp s H) [] (σ ++ frees ix st) H' s'/\tj i s'.heap/\(∀ b∈fp,H' b=none)/\W i n ys H') ?_ m0
     ⟨0,[],List.replicate 1 none,_,by simp,I0,LO,fun b hb=>?_,w0⟩
   . rintro n s5 ⟨i,ys,σ,H5,hσ,I5,EF,IL,w5⟩
     rcases turn i n ys H5 w5 with⟨stop,qn⟩ | ⟨go,hz,step⟩
     . refine bK (T.done (kz X N sc xt (g'.objs.size+1) g'.objs.size fp s H) rfl rfl rfl hc i [] s5 _ H5 vc I5 (oF IL) EF stop) fun r s6 ⟨hr,I6⟩=>?_
       subst hr
       refine Q8 _ _ ys H5 s6 ?_ ?_ (I.u5 mQ I6.free) qn
       . exact I.E2 I6.os I6.base I6.aZ I6.bare fun b hb=>⟨(hf b hb).2.2.2.1,(hf b hb).2.1,(hf b hb).2.2.2.2.1,(hf b hb).2.2.2.2.2⟩
       . obtain⟨m,hm,_⟩:=I6.loc
         exact⟨m,hm⟩
     . refine bK (T.item (kz X N sc xt (g'.objs.size+1) g'.objs.size fp s H) rfl rfl rfl hc i [] s5 _ H5 vc I5 (oF IL) EF go) fun r s6 ⟨u,hr,h6⟩=>?_
       subst hr
       refine bK h6 fun _ s7 ⟨v,H7,I7,r7,y7,FI,Q9⟩=>?_
       have Ra:=I7.pinned (oF Q9) (T.obj _ _ FI)
       refine bK (hg (g'.objs.size+1) g'.objs.size fp s H _ s7 _ H7 v u _ Ra r7 (step σ hσ v H7 y7)) fun _ s8 h8=>?_
       obtain⟨σ8,H8,I8,σ',e8,Rq,h8⟩:=h8
       subst e8
       have pinned:∀ {σ9:L2.St} {H9:Hp} {s9:Shared},L2.Inv (kz X N sc xt (g'.objs.size+1) g'.objs.size fp s H) ([] ++ qb fp s7.heap) σ9 H9 s9->tj (i+1) s9.heap/\∀ b∈fp,H9 b=none:=fun {σ9 H9 s9} I9=>by
         refine⟨T.keep _ _ _ FI fun b hb o e=>(I9.pin (b,o) (List.mem_append_right _ (List.mem_append_right _ (fj hb e)))).1,fun b hb=>?_⟩
         obtain⟨o,e,d⟩:=T.obj _ _ FI b hb
         exact(I9.pin (b,o) (List.mem_append_right _ (List.mem_append_right _ (fj hb e)))).2.1
       refine bK (ht (g'.objs.size+1) g'.objs.size fp s H _ s8 _ H8 _ I8 h8) fun ok Vb JQ=>?_
       obtain⟨Vc,JR,JQ⟩:=JQ
       cases ok with
       | false=>
         obtain⟨m',hm,w8⟩:=JQ
         exact⟨m',hm,i+1,ys,σ',_,Rq,JR.i0 (pins:=[]),(pinned JR).1,(pinned JR).2,w8⟩
       | true=>
         refine bK (jf (g'.objs.size+1) g'.objs.size fp s H _ Vb _ Vc _ JR JQ) fun z s9 ⟨y,H9,I9,r9,Rb,m',hm,w9⟩=>?_
         refine bK (nu _ s9 _ H9 (.ref s.heap.objs.size) [y] (.ref s.heap.objs.size) [z] (fun _ H'=>H'=upd H9 s.heap.objs.size (.lst (ys ++ [y]))) I9 rfl (.cons r9 .nil) ⟨_,ys,y,rfl,rfl,Rb,hz,rfl⟩) fun _ Xa Rc=>?_
         obtain⟨_,Xb,FJ,_,rfl⟩:=Rc
         exact⟨m',hm,i+1,ys ++ [y],σ',_,Rq,FJ.i0 (pins:=[]),(pinned FJ).1,(pinned FJ).2,w9⟩
   . rw[ah (Nat.ne_of_lt (cS b hb))]
     exact(hf b hb).1
 exact codeAny_compStart_list (loop _ rfl) (T.self _ 0 _ _ _ LO (loop _ rfl))
theorem t5 {env:Env}{y:Str}:∀ {names:List (Str×NameKind)},names.lookup y=some .cell->(names.map fun(n,k)=>if (k == NameKind.free && env.scope.kind == .function && env.kindOf n == some .cell) then (n,NameKind.cell) else (n,k)).lookup y=some .cell
 | [],h=>by simp at h
 | (n,kk)::r,h=>by
   rw[List.map_cons,List.lookup_cons]
   rw[List.lookup_cons] at h
   cases q:(y == n) with
   | true=>
     rw[q] at h
     have:kk=.cell:=Option.some.inj h
     subst this
     simp[q]
   | false=>
     rw[q] at h
     have ih:=t5 (env:=env) h
     by_cases hc:(kk == NameKind.free && env.scope.kind == .function && env.kindOf n == some .cell)=true
     . simp only[hc,if_true,q];exact ih
     . simp only[hc,Bool.false_eq_true,if_false,q];exact ih
end
section
variable {X:Cx}{G:Gr}{dl:List Slot}{a b elt iter tg:Expr}{ifs:List Expr}{pos px:Pos}{o:Out}{xt:Str}{N:List Str}{ix:List Nat}{sc:Scope}
variable {α:Type}{as:List α}{z f:α->Dt}{sl:α->List Slot}{keep:α->Bool}{g:TG}{wi:TI}
inductive xq (X:Cx)(N:List Str)(xt:Str)(sc:Scope)(dl:List Slot)(ix:List Nat)(as:List α)(sl:α->List Slot)(keep:α->Bool):List Expr->Prop
 | nil:(∀ a∈as,keep a=true)->xq X N xt sc dl ix as sl keep []
 | one {ce:Expr}:(∀ a∈as,∀ c C fp s H G',EB (kz X N sc xt c C fp s H) G' (sl a ++ iw dl ix) ce (keep a))->xq X N xt sc dl ix as sl keep [ce]
theorem J5 (h:xq X N xt sc dl ix as sl keep ifs):∀ c C fp s H,LU (kz X N sc xt c C fp s H) ifs (JT X.K dl ix as sl keep):=fun c C fp s H=>by
 cases h with
 | nil h=>exact fun pins s' st H' Q I ⟨a,G',ha,Hf,S,k⟩=>wpAny_tests_nil ⟨H',I,by have:=k Hf H' (.refl S.sub);rw[h a ha] at this;exact this⟩
 | one h=>exact Cp fun pins s' st H' Q I ⟨a,G',ha,q⟩=>h a ha c C fp s H G' pins s' st H' Q I q
def RS (X:Cx)(N:List Str)(xt:Str)(sc:Scope)(dl:List Slot)(ix:List Nat)(as:List α)(sl:α->List Slot)(keep:α->Bool)(f:α->Dt)(elt:Expr):Prop:=∀ a∈as,keep a=true->∀ c C fp s H G',EE (kz X N sc xt c C fp s H) G' (sl a ++ iw dl ix) elt (f a)
theorem N8 (h:RS X N xt sc dl ix as sl keep f elt):∀ c C fp s H,PE (kz X N sc xt c C fp s H) elt (JU X.K dl ix as sl keep f):=fun c C fp s H pins s' st H' Q I ⟨a,G',ha,hk,q⟩=>h a ha hk c C fp s H G' pins s' st H' Q I q
theorem N9 {tt:TT}{te:TE}(hc:X.calm=true)(B:xp X N xt ix sc)(hi:PI X tg iter wi)(hg:∀ c C fp s H,PG (kz X N sc xt c C fp s H) tg g)(ht:∀ c C fp s H,LU (kz X N sc xt c C fp s H) ifs tt)(jf:∀ c C fp s H,PE (kz X N sc xt c C fp s H) elt te)(hs:∀ z,foldedSetIterable iter X.env z=pure z):PE X (.ListComp elt [⟨tg,iter,ifs,0⟩] sc pos) (JV wi 1 ix g tt te):=by
 intro pins s st H Q I h
 rw[eval_ListComp]
 refine wpAny_comprehension_free (use:=none) rfl hs (J4 B I.ok) B.kind B.names (bK (hi pins s st H _ I h) fun v s1 h1=>bK h1 fun M0 s2 h2=>?_)
 obtain⟨it,fp,tj,J,H2,e,I2,T,ED,f2,hq⟩:=h2
 subst e
 refine Gn (RR:=fun acc C=>compPost (model X.prog X.w) X.A X.xe none (EP X pins st Q) acc C) hc B hg ht jf I2 T ED f2 hq ?_
 intro D C ws H' s' I' ⟨m,hn⟩ nW q
 exact⟨m,hn,fun h' JO=>⟨.ref D,H',I'.turned (t':=s'.toks) (it:=C) (fun b o hb e=>(JO.2 b hb).trans e) nW.1 nW.2.1 nW.2.2.2.1 nW.2.2.2.2.1 nW.2.2.2.2.2,rfl,q⟩⟩
theorem Oa (as:List α)(z f:α->Dt)(sl:α->List Slot)(keep:α->Bool)(hc:X.calm=true)(B:xp X N xt ix sc)(hi:PI X tg iter wi)(hg:∀ c C fp s H,PG (kz X N sc xt c C fp s H) tg g)(tS:rh X G dl (as.map z) wi)(F0:∀ a∈as,NR X.K 1 g (z a) (sl a))(F1:xq X N xt sc dl ix as sl keep ifs)(jf:RS X N xt sc dl ix as sl keep f elt)(hn:as.length<=sizeLine)(hs:∀ z,foldedSetIterable iter X.env z=pure z:=by intro _;rfl):EO X G dl (.ListComp elt [⟨tg,iter,ifs,0⟩] sc pos) (.lst ((as.filter keep).map f)):=gd (N9 hc B hi hg (J5 F1) (N8 jf) hs) (qr tS F0 hn)
theorem Gp {px:Pos}(B:xp X N xt ix sc):∀ c C fp s H,PG (kz X N sc xt c C fp s H) (.Name xt px) (oe 0):=fun c C fp s H=>by
 have hN:(kz X N sc xt c C fp s H).N[0]?=some xt:=by
   show N[0]?=some xt
   rw[B.nm];rfl
 have DM:(kz X N sc xt c C fp s H).env.scope.names.lookup xt=some .cell:=t5 B.hx
 exact bD (X:=kz X N sc xt c C fp s H) B.nd hN (.inr DM) (.inl (by show(xt == xt)=true;simp))
end
def Gq (sc zt:Scope)(XN N:List Str)(xt:Str)(ix:List Nat):Bool:=
 decide N.Nodup && (decide (N=xt::ix.map (fun j=>XN.getD j "")) && (decide (sc.kind=.function) && (decide (sc.names.filter (fun y=>y.2 == .cell)=[(xt,.cell)]) && (sc.names.all (fun y=>decide (y.2=.local->sc.names.lookup y.1=some .local)) && (decide (sc.names.lookup xt=some .cell) && (sc.names.all (fun y=>decide (y.2=.free->y.1≠xt)) &&
   (sc.names.all (fun y=>decide (y.2=.free->zt.names.lookup y.1=some .cell\/zt.names.lookup y.1=some .free)) && ix.all (fun j=>decide (sc.names.lookup (XN.getD j "")=some .free) && decide (j < XN.length)))))))))
theorem L5 {X:Cx}{sc zt:Scope}{XN N:List Str}{xt:Str}{ix:List Nat}(h:Gq sc zt XN N xt ix=true)(e1:X.env.scope=zt:=by rfl)(e2:X.N=XN:=by rfl):xp X N xt ix sc:=by
 subst e1 e2
 unfold Gq at h
 simp only[Bool.and_eq_true,List.all_eq_true,decide_eq_true_eq] at h
 obtain⟨h1,h2,h3,h4,h5,h6,Zu,h7,h8⟩:=h
 refine⟨h1,h2,h3,h4,h5,h6,Zu,h7,fun j hj=>?_⟩
 obtain⟨q1,q2⟩:=h8 j hj
 refine⟨X.N.getD j "",?_,q1⟩
 rw[List.getD_eq_getElem?_getD,List.getElem?_eq_getElem q2];rfl
def mk:HO->Bool
 | .memo _=>true
 | .bj _ _=>true
 | _=>false
theorem Rd.ex {H:Hp}{a C dx:Addr}{fs:List (Str×V)}(h:Rd H a (.ins C dx fs)):∃ o,H a=some o/\mk o=false/\(∀ x,o≠.dK x)/\∀ H':Hp,H' a=some o->Rd H' a (.ins C dx fs):=by
 rcases h with h | ⟨o,h⟩ | ⟨tg,o,kvs,h,z⟩ | ⟨o,h⟩
 . exact⟨_,h,rfl,(fun _ z=>nomatch z),fun H' e=>.inl e⟩
 . exact⟨_,h,rfl,(fun _ z=>nomatch z),fun H' e=>.inr (.inl ⟨o,e⟩)⟩
 . cases z
 . exact⟨_,h,rfl,(fun _ z=>nomatch z),fun H' e=>.inr (.inr (.inr ⟨o,e⟩))⟩
theorem bQ.Xq {H:Hp}{a:Addr}{ls:je}(h:bQ H a ls):∃ o,H a=some o/\mk o=true:=by
 rcases h with h | ⟨ns,h⟩
 . exact⟨_,h,rfl⟩
 . exact⟨_,h,rfl⟩
theorem bQ.inj {H:Hp}{a:Addr}{ls ls':je}(h:bQ H a ls)(h':bQ H a ls'):ls=ls':=by
 rcases h with h | ⟨ns,h⟩ <;> rcases h' with h' | ⟨ns',h'⟩ <;> rw[h] at h' <;> cases h' <;> rfl
section
variable {K:W.Frag}{Hf H:Hp}{a:Addr}{ls:je}{u:HO}
theorem J6 (hm:bQ Hf a ls){b:Addr}{o:HO}(h:Hf b=some o)(n:mk o=false):b≠a:=fun e=>by
 obtain⟨o',h1,h2⟩:=hm.Xq
 rw[e,h1] at h;cases h
 rw[h2] at n;cases n
theorem aX (hm:bQ Hf a ls){b:Addr}{o:HO}(h:Hf b=some o)(n:mk o=false):(upd Hf a u) b=some o:=by rw[ah (J6 hm h n)];exact h
theorem pG (hm:bQ Hf a ls)(hu:mk u=true):Kp Hf (upd Hf a u):=⟨fun b o e kq=>aX hm e (by cases o <;> first | rfl | exact(show False from kq).elim),fun b e=>by
 by_cases q:b=a
 . rw[q,ak]
   cases u <;> first | trivial | cases hu
 . rw[ah q];exact e,fun b x e=>aX hm e rfl⟩
def lp (ls:je)(u:HO):Prop:=u=.memo ls\/∃ ns,u=.bj ls ns
theorem lp.mk {ls:je}{u:HO}(h:lp ls u):mk u=true:=by rcases h with rfl | ⟨ns,rfl⟩ <;> rfl
theorem DY (hm:bQ Hf a ls)(hu:lp ls u){b:Addr}{ls':je}(h:bQ Hf b ls'):bQ (upd Hf a u) b ls':=by
 by_cases e:b=a
 . subst e
   rw[h.inj hm]
   rcases hu with rfl | ⟨ns,rfl⟩
   . exact .inl ak
   . exact .inr ⟨ns,ak⟩
 . rcases h with h | ⟨ns,h⟩
   . exact .inl (by rw[ah e];exact h)
   . exact .inr ⟨ns,by rw[ah e];exact h⟩
theorem lR (hm:bQ Hf a ls)(hu:lp ls u){p:Addr}{f:Nat->List (Key×FD)}{n:Nat}(h:Known Hf p f n):Known (upd Hf a u) p f n:=fun i hi=>let ⟨q,o,kvs,h1,h2⟩:=h i hi;⟨q,o,kvs,aX hm h1 rfl,h2.kp (pG hm hu.mk)⟩
theorem Ob (hm:bQ Hf a ls){b:Addr}{vs:List V}(s:Ax K Hf b vs):Ax K (upd Hf a u) b vs:=by
 rcases s with s | s
 . exact .inl (aX hm s rfl)
 . exact .inr s
theorem Gs (hm:bQ Hf a ls){b C dx:Addr}{fs:List (Str×V)}(s:Rd Hf b (.ins C dx fs)):Rd (upd Hf a u) b (.ins C dx fs):=by
 rcases s with s | ⟨o,s⟩ | ⟨_,_,_,_,s⟩ | ⟨o,s⟩
 . exact .inl (aX hm s rfl)
 . exact .inr (.inl ⟨o,aX hm s rfl⟩)
 . cases s
 . exact .inr (.inr (.inr ⟨o,aX hm s rfl⟩))
theorem Oc (hm:bQ Hf a ls){b:Addr}{vs:List V}(s:lI K Hf b vs):lI K (upd Hf a u) b vs:=by
 rcases s with(s | ⟨o,s⟩ | ⟨_,_,_,_,s⟩ | ⟨o,s⟩) | s
 . exact .inl (.inl (aX hm s rfl))
 . exact .inl (.inr (.inl ⟨o,aX hm s rfl⟩))
 . cases s
 . exact .inl (.inr (.inr (.inr ⟨o,aX hm s rfl⟩)))
 . exact .inr s
mutual
def qw (a:Addr):Dt->Bool
 | .tup ds=>Gu a ds
 | .lst ds=>Gu a ds
 | .d0 kds=>xu a kds
 | .qh kds=>xu a kds
 | .dW kds=>xu a kds
 | .obj _ fs=>jE a fs
 | .Cc _ fs=>jE a fs
 | .memo b _ _ _=>decide (b≠a)
 | .u9 _ _ _ _ _=>false
 | _=>true
def Gu (a:Addr):List Dt->Bool
 | []=>true
 | d::r=>qw a d && Gu a r
def xu (a:Addr):List (Key×Dt)->Bool
 | []=>true
 | (_,d)::r=>qw a d && xu a r
def jE (a:Addr):List (Str×Dt)->Bool
 | []=>true
 | (_,d)::r=>qw a d && jE a r
end
mutual
theorem gW (hm:bQ Hf a ls)(hu:lp ls u):∀ {v:V} {d:Dt},qw a d=true->Rep K Hf v d->Rep K (upd Hf a u) v d
 | _,_,_,.cL=>.cL
 | _,_,_,.bl b=>.bl b
 | _,_,_,.int i=>.int i
 | _,_,_,.str x=>.str x
 | _,.tup ds,h,.tup s r=>.tup (Ob hm s) (qx hm hu (by rw[qw] at h;exact h) r)
 | _,.lst ds,h,.lst s r=>.lst (aX hm s rfl) (qx hm hu (by rw[qw] at h;exact h) r)
 | _,_,_,.nv s=>.nv (Oc hm s)
 | _,.d0 _,h,.d0 s r=>.d0 (aX hm s rfl) (nE hm hu (by rw[qw] at h;exact h) r)
 | _,.obj _ _,h,.obj s r=>.obj (Gs hm s) (iD hm hu (by rw[qw] at h;exact h) r)
 | _,_,_,.ty n=>.ty n
 | _,_,_,.cls C=>.cls C
 | _,_,_,.xo s r=>.xo (aX hm s rfl) r
 | _,.qh _,h,.qh s r=>.qh (aX hm s rfl) (nE hm hu (by rw[qw] at h;exact h) r)
 | _,.Cc _ _,h,.Cc s q g r=>.Cc (aX hm s rfl) q (aX hm g rfl) (iD hm hu (by rw[qw] at h;exact h) r)
 | _,.dW _,h,.dW s r=>.dW (aX hm s rfl) (nE hm hu (by rw[qw] at h;exact h) r)
 | _,.memo b _ _ _,h,.memo h1 h2 h3 h4=>.memo h1 (by rw[qw] at h;rw[ah (of_decide_eq_true h)];exact h2) (h3.imp id fun z=>aX hm z rfl) (lR hm hu h4)
 | _,_,_,.dY h1 h2 h3 h4=>.dY h1 (DY hm hu h2) (h3.imp id fun z=>aX hm z rfl) (lR hm hu h4)
 | _,_,_,.u0 h=>.u0 fun j p f z=>lR hm hu (h j p f z)
 | _,.u9 _ _ _ _ _,h,.u9 _ _ _=>by rw[qw] at h;cases h
 | _,_,_,.gU s=>.gU (s.st (pG hm hu.mk).st)
 | _,_,_,.lb s=>.lb (aX hm s rfl)
theorem qx (hm:bQ Hf a ls)(hu:lp ls u):∀ {v:List V} {d:List Dt},Gu a d=true->bg K Hf v d->bg K (upd Hf a u) v d
 | _,_,_,.nil=>.nil
 | _,d::ds,h,.cons r t=>by
   rw[Gu,Bool.and_eq_true] at h
   exact .cons (gW hm hu h.1 r) (qx hm hu h.2 t)
theorem nE (hm:bQ Hf a ls)(hu:lp ls u):∀ {v:List (Key×V)} {d:List (Key×Dt)},xu a d=true->cC K Hf v d->cC K (upd Hf a u) v d
 | _,_,_,.nil=>.nil
 | _,(k,d)::ds,h,.cons r t=>by
   rw[xu,Bool.and_eq_true] at h
   exact .cons (gW hm hu h.1 r) (nE hm hu h.2 t)
theorem iD (hm:bQ Hf a ls)(hu:lp ls u):∀ {v:List (Str×V)} {d:List (Str×Dt)},jE a d=true->aW K Hf v d->aW K (upd Hf a u) v d
 | _,_,_,.nil=>.nil
 | _,(k,d)::ds,h,.cons r t=>by
   rw[jE,Bool.and_eq_true] at h
   exact .cons (gW hm hu h.1 r) (iD hm hu h.2 t)
end
def iE (Hf H:Hp):Hp:=fun b=>match H b with
 | some (.kd tg o kvs)=>some (.kd tg o kvs)
 | some (.kx o u)=>some (.kx o u)
 | some (.tup xs)=>some (.tup xs)
 | _=>Hf b
theorem xv {b:Addr}{u:HO}(h:H b=some u)(k:Kept u):iE Hf H b=some u:=by
 unfold iE;rw[h]
 cases u <;> first | rfl | exact(show False from k).elim
theorem CB {b:Addr}{tg:Option (Addr×Nat)}{o:Obj}{kvs:List (Key×V)}(h:H b=some (.kd tg o kvs)):iE Hf H b=some (.kd tg o kvs):=by unfold iE;rw[h]
theorem nF (b:Addr):(∃ u,H b=some u/\Kept u/\iE Hf H b=some u)\/iE Hf H b=Hf b:=by
 unfold iE
 cases h:H b with
 | none=>exact .inr rfl
 | some u=>cases u <;> first | exact .inr rfl | exact .inl ⟨_,rfl,trivial,rfl⟩
theorem fF (s:aF Hf H):aF Hf (iE Hf H):=fun b u e=>by
 rcases nF (Hf:=Hf) (H:=H) b with⟨u',h1,_,h3⟩ | h
 . rw[s _ _ e] at h1;cases h1;exact h3
 . rw[h];exact e
theorem mS (s:aF Hf H):aF (iE Hf H) H:=fun b u e=>by
 rcases nF (Hf:=Hf) (H:=H) b with⟨u',h1,_,h3⟩ | h
 . rw[h3] at e;cases e;exact h1
 . rw[h] at e;exact s _ _ e
theorem nG (s:aF Hf H):bc Hf H (iE Hf H) H:=⟨aF.refl _,fF s,mS s,fun b u e=>by
 rcases nF (Hf:=Hf) (H:=H) b with⟨u',h1,h2,h3⟩ | h
 . rw[h3] at e;cases e;exact .inr (.inr h2)
 . rw[h] at e;exact .inl ⟨u,e⟩⟩
end
def TZ:FD->Dt
 | .int i=>.int i
 | .d0 kds=>.dW (dI kds)
 | d=>.gU d
def mD (fd:List (Key×FD)):List (Key×Dt):=fd.map fun kd=>(kd.1,TZ kd.2)
theorem v5 {K:W.Frag}{H:Hp}:∀ (kds:List (Key×Int)),cC K H (kds.map fun kd=>(kd.1,V.int kd.2)) (dI kds)
 | []=>.nil
 | (k,i)::r=>.cons (.int i) (v5 r)
theorem Gv {K:W.Frag}{H:Hp}:∀ {v:V} {d:FD},Fz H v d->Rep K H v (TZ d)
 | _,_,.int i=>.int i
 | _,_,.d0 e=>.dW e (v5 _)
 | _,_,.lst e=>.gU (.lst e)
 | _,_,.tup e=>.gU (.tup e)
 | _,_,.obj e f=>.gU (.obj e f)
theorem r8 {K:W.Frag}{H:Hp}:∀ {kvs:List (Key×V)} {fd:List (Key×FD)},pZ H kvs fd->cC K H kvs (mD fd)
 | _,_,.nil=>.nil
 | _,_,.cons h t=>.cons (Gv h) (r8 t)
theorem L6 {K:W.Frag}{H:Hp}:∀ {v:V} {d:FD},Rep K H v (TZ d)->Fz H v d
 | _,.int i,r=>by cases r;exact .int i
 | _,.lst ns,r=>by cases r with | gU h=>exact h
 | _,.tup K ns,r=>by cases r with | gU h=>exact h
 | _,.obj C fs,r=>by cases r with | gU h=>exact h
 | _,.d0 kds,r=>by
   cases r with
   | @dW a tg ob kvs _ h r=>
     rw[J2 r] at h
     exact .d0 h
theorem oK {K:W.Frag}{H:Hp}:∀ {kvs:List (Key×V)} {fd:List (Key×FD)},cC K H kvs (mD fd)->pZ H kvs fd
 | _,[],.nil=>.nil
 | _,(k,d)::fd,.cons h t=>.cons (L6 h) (oK t)
theorem Od {H H':Hp}(k:∀ b u,H b=some u->Kept u->H' b=some u){v:V}{d:FD}(h:Fz H v d):Fz H' v d:=h.st k
theorem fG {H H':Hp}(k:∀ b u,H b=some u->Kept u->H' b=some u):∀ {kvs:List (Key×V)} {kds:List (Key×FD)},pZ H kvs kds->pZ H' kvs kds
 | _,_,.nil=>.nil
 | _,_,.cons h t=>.cons (Od k h) (fG k t)
section
variable {X:Cx}{G:Gr}{dl:List Slot}{a b e i:Expr}{pos p:Pos}{ls:je}{j n:Nat}{l:Addr}{f:Nat->List (Key×FD)}{ns:List Nat}
theorem J7:PV X (fun x y H Q=>∃ (p:Addr) (k:Nat) (q:Addr) (o:Obj) (kvs:List (Key×V)),x=.ref p/\y=.int (k:Int)/\H q=some (.kd (some (p,k)) o kvs)/\k < 10000/\Q (.ref q) H):=by
 intro value slice pins s σ H x y v u Q I rx ry h hs
 obtain⟨p,k,q,o,kvs,rfl,rfl,hq,hk,kk⟩:=h
 cases rx
 obtain⟨t,rfl⟩:=ry
 obtain⟨_,_,hm⟩:=(show aJ X.prog X.w H s.heap q (.kd (some (p,k)) o kvs) from I.aZ q _ hq)
 obtain⟨_,aD,c,e1,e2⟩:=hm p k rfl
 have hn:=kQ
 exact item_listR (items:=aD.toArray) ⟨_,e1,rfl,c,rfl⟩ (by omega) (by omega) (by rw[Int.toNat_natCast];simpa using e2) ⟨.ref q,H,I,rfl,kk⟩ hs
theorem Bh {k:Nat}(hb:EE X G dl b (.memo l ls j n))(hi:EE X G dl i (.int (k:Int)))(hf:(ls.map (·.2))[j]?=some f)(hk:k < n)(hn:n<=1000)(hs:jC i:=by intro _ _;rfl):EE X G dl (.Subscript b i pos) (.dW (mD (f k))):=
 gd (tq J7 hb hi hs) fun st H Q ⟨Hf,S,kk⟩=>⟨Hf,S,fun v av H1 g1 r1=>⟨av,S.grow g1,fun w bW H2 g2 r2=>by
   cases r2
   cases r1 with
   | @memo _ p _ _ _ f' h1 h2 h3 h4=>
     have e:f'=f:=by
       rw[List.getElem?_map,h1] at hf
       exact Option.some.inj hf
     subst e
     obtain⟨q,o,kvs,q1,q2⟩:=h4 k hk
     exact⟨p,k,q,o,kvs,rfl,rfl,g2.big _ _ (g1.sub _ _ q1),by omega,kk _ bW H2 (g1.trans g2) (.dW (g2.bh _ _ q1) (r8 (q2.kp (.of g2.bh))))⟩⟩⟩
theorem Gw:PV X (fun x y H Q=>∃ (a:Addr) (ls:je) (ns:List Nat) (j:Nat) (p:Addr) (f:Nat->List (Key×FD)) (N:Nat),x=.ref p/\y=.int (-1)/\H a=some (.bj ls ns)/\ls[j]?=some (p,f)/\ns[j]?=some N/\0 < N/\∀ q o kvs,H q=some (.kd (some (p,N - 1)) o kvs)->pZ H kvs (f (N - 1))->Q (.ref q) H):=by
 intro value slice pins s σ H x y v u Q I rx ry h hs
 obtain⟨a,ls,ns,j,p,f,N,rfl,rfl,ha,hj,hN,h0,kk⟩:=h
 cases rx
 obtain⟨t,rfl⟩:=ry
 obtain⟨_,_,_,_,_,h5,h6⟩:=(show aJ X.prog X.w H s.heap a (.bj ls ns) from I.aZ a _ ha)
 obtain⟨aD,c,e1,e2,e3⟩:=h6 j p f N hj hN
 obtain⟨q,o,kvs,q1,q2,q3⟩:=e3 (N - 1) (by omega)
 have hn:=kQ
 have Zv:=h5 N (List.mem_of_getElem? hN)
 have hl:Heap.IsList s.heap p aD.toArray:=⟨_,e1,rfl,c,rfl⟩
 exact subscriptTail_builtinR (x:=.ref q) hl.typeIs slot_list_getitem.lookup
     (wpAny_getItem_list_neg (Q:=fun r s'=>r=.ref q/\EP X pins σ Q r s') hl (by omega) (by rw[List.size_toArray] <;> omega) (by omega) (by rw[List.size_toArray,e2,show((-1:Int)+(N:Nat)).toNat=N - 1 by omega];simpa using q1) ⟨rfl,.ref q,H,I,rfl,kk q o kvs q2 q3⟩) hs
theorem zH {N:Nat}(hx:G.Hf l=some (.bj ls ns))(hb:EE X G dl b (.dY l ls j n))(hi:EE X G dl i (.int (-1)))(hf:(ls.map (·.2))[j]?=some f)(hN:ns[j]?=some N)(h0:0 < N)(hs:jC i:=by intro _ _;rfl):EE X G dl (.Subscript b i pos) (.dW (mD (f (N - 1)))):=
 gd (tq Gw hb hi hs) fun st H Q ⟨Hf,S,kk⟩=>⟨Hf,S,fun v av H1 g1 r1=>⟨av,S.grow g1,fun w bW H2 g2 r2=>by
   cases r2
   cases r1 with
   | @dY _ p _ _ _ f' h1 h2 h3 h4=>
     have e:f'=f:=by
       rw[List.getElem?_map,h1] at hf
       exact Option.some.inj hf
     subst e
     have g:=g1.trans g2
     refine⟨l,ls,ns,j,p,f',N,rfl,rfl,g.sub _ _ (g.bh _ _ (S.gr.bh _ _ hx)),h1,hN,h0,fun q o kvs q1 q2=>?_⟩
     have ga:=nG g2.sub
     exact kk _ _ H2 (g.trans ga) (.dW (CB q1) (r8 (fG (fun b u e kq=>xv e kq) q2)))⟩⟩
theorem DZ:jv X (.builtin "len") (fun xs H Q=>∃ (a:Addr) (ls:je) (ns:List Nat) (j:Nat) (p:Addr) (f:Nat->List (Key×FD)) (N:Nat),xs=[.ref p]/\H a=some (.bj ls ns)/\ls[j]?=some (p,f)/\ns[j]?=some N/\Q (.int (N:Nat)) H):=by
 intro pins s σ H xs us Q I r h
 obtain⟨a,ls,ns,j,p,f,N,rfl,ha,hj,hN,q⟩:=h
 obtain⟨u,rfl,rx⟩:=vals1 r
 cases rx
 obtain⟨_,_,_,_,_,h5,h6⟩:=(show aJ X.prog X.w H s.heap a (.bj ls ns) from I.aZ a _ ha)
 obtain⟨aD,c,e1,e2,e3⟩:=h6 j p f N hj hN
 have hn:=kQ
 have Zv:=h5 N (List.mem_of_getElem? hN)
 have hl:Heap.IsList s.heap p aD.toArray:=⟨_,e1,rfl,c,rfl⟩
 exact Calls.call_len_list hl (by simp only[List.size_toArray] <;> omega) ⟨.int (N:Nat),H,I.tok _,⟨s.toks+1,by rw[List.size_toArray,e2]⟩,q⟩
theorem CC {N:Nat}(hm:X.mg "len"=none)(hx:G.Hf l=some (.bj ls ns))(hb:EE X G dl b (.dY l ls j n))(hN:ns[j]?=some N)(hg:Gl X "len":=by rfl)(he:starEach [b] X.env=[(false,eval b X.env)]:=by rfl):EE X G dl (.Call (.Name "len" p) [b] [] pos) (.int (N:Nat)):=
 gd (fk DZ hg hm PySem.boot_len (ae hb aj he) (he:=he)) fun st H Q ⟨Hf,S,kk⟩=>⟨Hf,S,fun vs av H1 g1 r1=>by
   cases r1 with
   | cons r t=>cases t;cases r with
     | @dY _ p _ _ _ f' h1 h2 h3 h4=>exact⟨l,ls,ns,j,p,f',N,rfl,g1.sub _ _ (g1.bh _ _ (S.gr.bh _ _ hx)),h1,hN,kk _ av H1 g1 (.int _)⟩⟩
theorem ke {d:Dt}{k:Str}{kds:List (Key×Dt)}(hu:X.A.units+1 < cLine)(ho:EE X G dl b (.dW kds))(hi:EE X G dl i (.str k))(h:lj kds (.inr k)=some d)(hs:Jz i):EE X G dl (.Subscript b i pos) d:=
 gd (B9 hu ho hi hs) fun st H Q ⟨Hf,S,kk⟩=>⟨Hf,S,fun v av H1 g1 r1=>⟨av,S.grow g1,fun w bW H2 g2 r2=>by
   cases r2
   cases r1 with
   | @dW q tg ob kvs _ hq rp=>
     obtain⟨y,z1,z2⟩:=rp.val h
     have e:q8 H2 q (kV (.inr k)) (mO kvs (.inr k)):=.inl ⟨kvs,.inr k,.inr (.inr (.inl ⟨tg,ob,kvs,g2.big _ _ (g1.sub _ _ hq),rfl⟩)),rfl,rfl⟩
     rw[z1] at e
     exact⟨q,y,rfl,e,kk y bW H2 (g1.trans g2) (z2.mono g2.bh)⟩⟩⟩
theorem L7 {kds:List (Key×Dt)}(h:EO X G dl e (.d0 kds)):EE X G dl e (.dW kds):=by
 intro pins s st H Q I ⟨Hf,S,kk⟩
 refine bK (h pins s st H (fun v H'=>∃ p aH,v=.ref p/\bc Hf H aH H'/\H p=none/\aH p=none/\gc X.K aH H' p (.d0 kds)) I ⟨Hf,S,fun p aH H' g n n' r=>⟨p,aH,rfl,g,n,n',r⟩⟩) fun u s1 ⟨v,H',I1,rv,q,aH,ev,g,n,n',kvs,hq,rp⟩=>?_
 subst ev
 obtain⟨hz,lo,vs,kv,ob,es,ep,ho,hr⟩:=(show aJ X.prog X.w H' s1.heap q (.dK kvs) from I1.aZ q _ hq)
 have I2:L2.Inv X pins st (upd H' q (.kd none ob kvs)) s1:=lL (h':=s1.heap) (t':=s1.toks) I1 (by rw[hq];trivial) ⟨rfl,fun _ _=>rfl⟩ ⟨ob,ho⟩ ⟨ho,⟨hz,lo,vs,kv,ob,es,ep,ho,hr⟩,fun p i z=>by cases z⟩
 have sm:aF aH (upd aH q (.kd none ob kvs)):=bB n'
 refine⟨.ref q,_,I2,rv,kk _ (upd aH q (.kd none ob kvs)) _ ⟨fun b o hb=>?_,g.bh.trans sm,cJ g.sub,fun b o hb=>?_⟩ (.dW ak (rp.mono sm))⟩
 . rw[ah (ax hb n)];exact g.big _ _ hb
 . by_cases e:b=q
   . subst e;exact .inr (.inl n)
   . rw[ah e] at hb;exact g.new b o hb
theorem Bi:PX X "dict.values" (fun x xs H Q=>∃ (d:Addr) (kvs:List (Key×V)),x=.ref d/\xs=[]/\Rd H d (.dK kvs)/\∀ l,H l=none->Q (.ref l) (upd H l (.ext fun h=>h.IsValuesView l d))):=by
 intro pins s σ H x xs v us Q I rx rv ⟨d,kvs,e1,e2,hq,q⟩
 subst e1 e2
 cases rx
 cases rv
 obtain⟨hz,lo,vs,kv,hD⟩:=qQ I.aZ hq
 refine call_meetsIn PySem.F.slot_dict_values hD.typeIs PySem.F.entry_dict_values (PySem.F.args_dict_values_1 _) (meets_dict_values (cB X.prog X.w) d lo) ⟨⟨vs,hD⟩,?_⟩
 refine⟨.ref s.heap.objs.size,_,I.laid (a:=s.heap.objs.size) (t':=s.toks) (o:=.ext fun h=>h.IsValuesView s.heap.objs.size d) (fun b o e=>Heap.get?_push_of_some _ e) (Nat.le_refl _) ?_,rfl,q _ (I.aZ.fresh (Nat.le_refl _))⟩
 exact⟨⟨_,Heap.get?_push_size _ rfl,rfl,rfl⟩,⟨_,Heap.get?_push_size _ rfl⟩,fun h1 h2 ⟨ox,z1,z2⟩ kk=>⟨ox,kk _ z1,z2⟩⟩
theorem Gx:∀ {kds:List (Key×Int)} {vs:List (Key×Value)} {i:Nat} {k:Key} {v:Value},KV (kds.map fun kd=>(kd.1,V.int kd.2)) vs->vs[i]?=some (k,v)->∃ t,v=.int ((kds.map (·.2)).getD i 0) t
 | [],_,_,_,_,.nil,e=>by simp at e
 | (k0,z)::kds,_,0,_,_,.cons r _,e=>by
   simp at e
   subst e
   obtain⟨_,t,q⟩:=r
   exact⟨t,q⟩
 | (k0,z)::kds,_,i+1,_,_,.cons _ t,e=>by
   obtain⟨t',q⟩:=Gx (i:=i) t (by simpa using e)
   exact⟨t',by simpa using q⟩
theorem D1 (hc:X.calm=true):jv X (.builtin "sum") (fun xs H Q=>∃ (v d:Addr) (φ:Heap->Prop) (kds:List (Key×Int)),xs=[.ref v]/\H v=some (.ext φ)/\(∀ h,φ h->h.IsValuesView v d)/\Rd H d (.dK (kds.map fun kd=>(kd.1,V.int kd.2)))/\Q (.int (kds.map (·.2)).sum) H):=by
 intro pins s σ H xs us Q I r h
 obtain⟨v,d,φ,kds,rfl,hv,hφ,hq,q⟩:=h
 obtain⟨u,rfl,rx⟩:=vals1 r
 cases rx
 obtain⟨hz,lo,vs,kv,o,es,ep,ho,hr⟩:=qQ I.aZ hq
 have Zw:=hφ _ (I.aZ v _ hv).1
 have hl:=Bc kv
 rw[List.length_map] at hl
 have hA:X.A.handled=none:=I.ok.hd hc
 refine call_sum_walkAnyS ?_
 have Ks:=PySem.W.kdl_values (prog:=X.prog) (w:=X.w) (knd:=cB X.prog X.w) (r:=v) (d:=d) (kvs:=vs) (ep:=ep)
 have aZ:s.heap.IsValuesView v d/\s.heap.DictAt (cB X.prog X.w) d vs ep:=⟨Zw,o,es,ho,hr⟩
 obtain⟨oI,St,hit,W,st⟩:=Ks.iter X.A.in1 s hA aZ
 refine hit _ _ ⟨s.heap.objs.size,_,_,_,vs.length,_,_,fun i=>(kds.map (·.2)).getD i 0,rfl,W.toS,st,fun b hb=>?_,fun i w ⟨k,hk⟩=>Gx kv hk,fun s' t' hm=>?_⟩
 . show b < (s.heap.push oI).objs.size
   rw[Heap.size_push]
   rcases List.mem_cons.mp hb with e | hb
   . rw[e];exact Nat.lt_succ_self _
   . rw[List.mem_singleton.mp hb];exact Nat.lt_succ_of_lt (Ks.there _ aZ).2
 . have hk:∀ b o,s.heap.get? b=some o->s'.heap.get? b=some o:=fun b o e=>
     hm.heap b o (fun hI=>absurd (Heap.lt_size e) (by rw[List.mem_singleton.mp hI];exact Nat.lt_irrefl _)) (Heap.get?_push_of_some _ e)
   have es:preSum (fun i=>(kds.map (·.2)).getD i 0) vs.length=(kds.map (·.2)).sum:=by
     rw[qt _ _ (by rw[List.length_map];omega),List.take_of_length_le (by rw[List.length_map];omega)]
   rw[es,Moved.eq_with hm]
   exact⟨.int _,H,I.kept (t':=s'.toks) hk,⟨t',rfl⟩,q⟩
def intsOf (d:Dt)(kds:List (Key×Int)):Prop:=d=.dW (dI kds)\/d=.d0 (dI kds)
theorem J8 {kds:List (Key×Int)}{d:Dt}{apos bP:Pos}(hm:X.mg "sum"=none)(hc:X.calm=true)(ha:EE X G dl a d)(hd:intsOf d kds)(hg:Gl X "sum":=by rfl)(i4:attributeBase a "values" X.env (eval a X.env)=eval a X.env:=by rfl)(i5:(apos.endLine == bP.line)=true:=by rfl)(he:starEach [.Call (.Attribute a "values" apos) [] [] bP] X.env=[(false,eval (.Call (.Attribute a "values" apos) [] [] bP) X.env)]:=by rfl):EE X G dl (.Call (.Name "sum" p) [.Call (.Attribute a "values" apos) [] [] bP] [] pos) (.int (kds.map (·.2)).sum):=
 gd (fk (D1 hc) hg hm boot_sum (kE (Fj PySem.F.plainAttrs_dict PySem.F.slot_dict_values PySem.F.type_dict_values Bi ha i4 i5) mM he) (he:=he)) fun st H Q ⟨Hf,S,k⟩=>⟨Hf,S,fun v av H1 g1 r1=>by
   have key:∃ q,v=.ref q/\Rd H1 q (.dK (kds.map fun kd=>(kd.1,V.int kd.2)))/\Tv X.K "dict" v H1:=by
     rcases hd with rfl | rfl
     . cases r1 with
       | @dW q tg ob kvs _ hq rp=>
         rw[J2 rp] at hq
         exact⟨q,rfl,.inr (.inr (.inl ⟨tg,ob,_,g1.sub _ _ hq,rfl⟩)),.inr (.inr (.inl ⟨rfl,.inr (.inr ⟨tg,ob,_,g1.sub _ _ hq⟩)⟩))⟩
     . cases r1 with
       | @d0 q kvs _ hq rp=>
         rw[J2 rp] at hq
         exact⟨q,rfl,.inl (g1.sub _ _ hq),.inr (.inr (.inl ⟨rfl,.inl ⟨_,g1.sub _ _ hq⟩⟩))⟩
   obtain⟨q,rfl,hq,ty⟩:=key
   refine⟨ty,q,_,rfl,rfl,hq,fun v hv=>⟨v,q,_,kds,rfl,ak,fun h x=>x,?_,k _ av _ (g1.trans (.d5 g1.sub hv)) (.int _)⟩⟩
   exact fD (bB hv) hq⟩
variable {pins:List (Addr×Obj)}{σ:L2.St}{H:Hp}{s:Shared}
theorem Inv.flip {u:HO}(I:L2.Inv X pins σ H s)(hm:bQ H l ls)(hu:lp ls u)(new:aJ X.prog X.w (upd H l u) s.heap l u):L2.Inv X pins σ (upd H l u) s:=by
 refine I.un (h':=s.heap) (t':=s.toks) ⟨fun b o e _ _ _=>e,fun b o e _ _ _=>⟨o.slots,e⟩,fun b o e n _=>?_,fun b o e _=>⟨o,e⟩,fun b xs e=>aX hm e rfl,fun b o u e=>aX hm e rfl,fun b ps e=>⟨#[],by rw[aX hm e rfl];simp⟩⟩ fun b o e=>?_
 . rw[ah (fun z=>by obtain⟨o',h1,_⟩:=hm.Xq;rw[z,h1] at n;cases n)];exact n
 . by_cases eb:b=l
   . subst eb;rw[ak] at e;cases e;exact new
   . rw[ah eb] at e
     exact(I.aZ b o e).wG (fun _ _ _ q=>q) (fun c q=>aX hm q rfl) (fun c xs q=>aX hm q rfl) (pG hm hu.mk)
theorem Inv.exact(I:L2.Inv X pins σ H s)(hm:H l=some (.memo ls)):∃ n,0 < n/\n<=10000/\L2.Inv X pins σ (upd H l (.bj ls (List.replicate ls.length n))) s:=by
 obtain⟨ho,n,hn,q⟩:=(show aJ X.prog X.w H s.heap l (.memo ls) from I.aZ l _ hm)
 have hl:0 < ls.length:=by
   obtain⟨⟨f,hf⟩,_⟩:=q
   exact(List.getElem?_eq_some_iff.mp hf).1
 have h5:n<=10000:=q.2.2.2.2.1 n (by rw[List.mem_replicate];exact⟨by omega,rfl⟩)
 exact⟨n,hn,h5,Inv.flip I (.inl hm) (.inr ⟨_,rfl⟩) ⟨ho,q.kp (pG (.inl hm) rfl) fun _ _ _ e=>e⟩⟩
theorem Inv.pack {n:Nat}(I:L2.Inv X pins σ H s)(hm:H l=some (.bj ls (List.replicate ls.length n)))(hn:0 < n):L2.Inv X pins σ (upd H l (.memo ls)) s:=by
 obtain⟨ho,q⟩:=(show aJ X.prog X.w H s.heap l (.bj ls _) from I.aZ l _ hm)
 exact Inv.flip I (.inr ⟨_,hm⟩) (.inl rfl) ⟨ho,n,hn,q.kp (pG (.inr ⟨_,hm⟩) rfl) fun _ _ _ e=>e⟩
theorem oM:PX X "list.append" (fun x vs H Q=>∃ (a:Addr) (ls:je) (ns:List Nat) (j:Nat) (p:Addr) (f:Nat->List (Key×FD)) (N:Nat) (q:Addr) (kvs:List (Key×V)),x=.ref p/\vs=[.ref q]/\H a=some (.bj ls ns)/\ls[j]?=some (p,f)/\ns[j]?=some N/\N < 9000/\H q=some (.dK kvs)/\pZ H kvs (f N)/\∀ o,Q .cL (upd (upd H a (.bj ls (ns.set j (N+1)))) q (.kd (some (p,N)) o kvs))):=by
 intro pins s σ H x vs v us Q I rx rv ⟨a,ls,ns,j,p,f,N,q,kvs,e1,e2,ha,hj,hN,hN9,hq,Zx,kk⟩
 subst e1 e2
 cases (show v=Value.ref p from rx)
 obtain⟨u,rfl,ru⟩:=vals1 rv
 cases (show u=Value.ref q from ru)
 obtain⟨⟨oa,Zy⟩,⟨f0,h1⟩,h2,h3,h4,h5,h6⟩:=(show aJ X.prog X.w H s.heap a (.bj ls ns) from I.aZ a _ ha)
 obtain⟨aD,c,e,hlen,hit⟩:=h6 j p f N hj hN
 obtain⟨hz,lo,vs,kv,oq,es,ep,Zz,hr⟩:=(show aJ X.prog X.w H s.heap q (.dK kvs) from I.aZ q _ hq)
 have EM:kP (H p):=by
   rcases h3 j p f hj with z | z
   . rw[z,ha];trivial
   . rw[z];trivial
 have ZA:p≠q:=fun z=>by rw[z,hq] at EM;exact EM
 have ZC:a≠q:=fun z=>by rw[z,hq] at ha;cases ha
 have W8:=kQ
 refine call_meets PySem.F.slot_list_append ⟨_,e,rfl⟩ PySem.F.entry_list_append (PySem.F.args_list_append_2 _ _) (PySem.list_append p aD.toArray c (.ref q) (by rw[List.size_toArray];exact Nat.le_trans (show aD.length<=10000 by omega) (by decide))) ⟨e,?_⟩
 have e':=PySem.IsL.update e (fun x=>x.push (Value.ref q))
 rw[show aD.toArray.push (Value.ref q)=(aD ++ [Value.ref q]).toArray by simp] at e'
 generalize ZE:s.heap.update p (Obj.mapSeq fun x=>x.push (Value.ref q))=h' at e'
 have Bj:∀ b o,b≠p->s.heap.get? b=some o->h'.get? b=some o:=fun b o hb z=>by rw[<- ZE];exact(Heap.get?_update_other s.heap _ (Ne.symm hb)).trans z
 let H':Hp:=upd (upd H a (.bj ls (ns.set j (N+1)))) q (.kd (some (p,N)) oq kvs)
 have rj:∀ b o,H b=some o->b≠a->b≠q->H' b=some o:=fun b o z n1 n2=>by show(upd (upd H a _) q _) b=_;rw[ah n2,ah n1];exact z
 have nk:∀ b o,H b=some o->mk o=false->b≠a:=fun b o z n z'=>by rw[z',ha] at z;cases z;cases n
 have nq:∀ b o,H b=some o->(∀ x,o≠.dK x)->b≠q:=fun b o z n z'=>by rw[z',hq] at z;exact n _ (Option.some.inj z).symm
 have kp:Kp H H':=⟨fun b o z kq=>rj b _ z (nk b _ z (by cases o <;> first | rfl | exact(show False from kq).elim)) (nq b _ z fun x y=>by subst y;exact kq),fun b z=>by
   by_cases ba:b=a
   . rw[ba];show kP ((upd (upd H a _) q _) a);rw[ah ZC,ak];trivial
   . have bq:b≠q:=fun z'=>by rw[z',hq] at z;exact z
     show kP ((upd (upd H a _) q _) b);rw[ah bq,ah ba];exact z,fun b x z=>rj b _ z (nk b _ z rfl) (nq b _ z fun x y=>by cases y)⟩
 have hl:∀ p' i c',kP (H p')->Qf s.heap p' i c'->Qf h' p' i c':=fun p' i c' _ ⟨its',n',z1,z2⟩=>by
   by_cases pp:p'=p
   . subst pp
     rw[e] at z1
     have z3:its'=aD:=by
       have:=congrArg (fun o:Option Obj=>o.map (·.data)) z1
       simp at this
       exact this.1.symm
     subst z3
     exact⟨_,_,e',by rw[List.getElem?_append_left (List.getElem?_eq_some_iff.mp z2).1];exact z2⟩
   . exact⟨its',n',Bj _ _ pp z1,z2⟩
 have LY:Qf h' p N q:=⟨_,_,e',by rw[List.getElem?_append_right (by omega),hlen,Nat.sub_self];rfl⟩
 have ZF:pZ H' kvs (f N):=Zx.kp kp
 have Xr:h'.get? q=some oq:=Bj _ _ (Ne.symm ZA) Zz
 have RT:∀ b,H b=none->H' b=none:=fun b n=>by
   have n1:b≠a:=fun z=>by rw[z,ha] at n;cases n
   have n2:b≠q:=fun z=>by rw[z,hq] at n;cases n
   show(upd (upd H a _) q _) b=none
   rw[ah n2,ah n1];exact n
 have Xs:∀ b,H b=none->b≠p:=fun b n z=>by rw[<- z,n] at EM;exact EM
 have Xt:∀ b o,s.heap.get? b=some o->∃ o',h'.get? b=some o':=fun b o z=>by
   by_cases bp:b=p
   . rw[bp];exact⟨_,e'⟩
   . exact⟨o,Bj _ _ bp z⟩
 refine⟨.cL,H',I.un (h':=h') (t':=s.toks) ⟨fun b o z n _ _=>Bj b o (Xs b n) z,fun b o z n _ _=>⟨o.slots,Bj b o (Xs b n) z⟩,fun b o _ n _=>RT b n,fun b o z _=>Xt b o z,fun b xs z=>rj b _ z (nk b _ z rfl) (nq b _ z fun x y=>by cases y),
   fun b o u z=>rj b _ z (nk b _ z rfl) (nq b _ z fun x y=>by cases y),fun b ps z=>⟨#[],by rw[rj b _ z (nk b _ z rfl) (nq b _ z fun x y=>by cases y)];simp⟩⟩ fun b u z=>?_,rfl,kk oq⟩
 by_cases bq:b=q
 . subst bq
   have z:(upd (upd H a _) b _) b=some u:=z
   rw[ak] at z;cases z
   refine⟨Xr,⟨hz,lo,vs,kv,oq,es,ep,Xr,hr⟩,fun p' i ht=>?_⟩
   cases ht
   exact⟨kp.mem _ EM,LY⟩
 . by_cases ba:b=a
   . subst ba
     have z:(upd (upd H b _) q _) b=some u:=z
     rw[ah bq,ak] at z;cases z
     refine⟨Xt _ _ Zy,⟨f0,h1⟩,by rw[List.length_set];exact h2,fun j' p' f' z=>(h3 j' p' f' z).imp id fun z=>kp.part _ _ z,h4,fun n hn=>?_,fun j' p' f' n z1 z2=>?_⟩
     . obtain⟨i,hi,ei⟩:=List.mem_iff_getElem.mp hn
       rw[List.getElem_set] at ei
       split at ei
       . omega
       . rw[<- ei];exact h5 _ (List.getElem_mem _)
     . by_cases jj:j=j'
       . subst jj
         rw[hj] at z1;cases z1
         have ZG:j < ns.length:=(List.getElem?_eq_some_iff.mp hN).1
         rw[List.getElem?_set_self ZG] at z2;cases z2
         refine⟨_,_,e',by rw[List.length_append,hlen];rfl,fun i hi=>?_⟩
         by_cases ZH:i < N
         . obtain⟨q',o',ZI,w1,w2,w3⟩:=hit i ZH
           exact⟨q',o',ZI,by rw[List.getElem?_append_left (by omega)];exact w1,kp.kd _ _ _ _ w2,w3.kp kp⟩
         . have:i=N:=by omega
           subst this
           exact⟨q,oq,kvs,by rw[List.getElem?_append_right (by omega),hlen,Nat.sub_self];rfl,ak,ZF⟩
       . rw[List.getElem?_set_ne jj] at z2
         have pp:p'≠p:=fun z=>by
           subst z
           obtain⟨i1,e1⟩:=List.getElem?_eq_some_iff.mp hj
           obtain⟨i2,e2⟩:=List.getElem?_eq_some_iff.mp z1
           have pw:=List.pairwise_iff_getElem.mp h4
           rcases Nat.lt_or_gt_of_ne jj with lt | lt
           . have:=pw j j' (by rw[List.length_map];exact i1) (by rw[List.length_map];exact i2) lt
             rw[List.getElem_map,List.getElem_map,e1,e2] at this
             exact this rfl
           . have:=pw j' j (by rw[List.length_map];exact i2) (by rw[List.length_map];exact i1) lt
             rw[List.getElem_map,List.getElem_map,e1,e2] at this
             exact this rfl
         exact(h6 j' p' f' n z1 z2).kp kp fun u z=>Bj _ _ pp z
   . have z0:H b=some u:=by
       have z:(upd (upd H a _) q _) b=some u:=z
       rw[ah bq,ah ba] at z;exact z
     by_cases bp:b=p
     . subst bp
       rcases h3 j b f hj with z1 | z1
       . exact absurd z1 ba
       . rw[z1] at z0;cases z0
         exact⟨_,e'⟩
     . refine(I.aZ b u z0).Lx (fun c' v' Aw z'=>Bj c' v' ?_ z') (fun c' z'=>rj c' _ z' (nk c' _ z' rfl) (nq c' _ z' fun x y=>by cases y)) (fun c' xs z'=>rj c' _ z' (nk c' _ z' rfl) (nq c' _ z' fun x y=>by cases y)) kp hl
       rcases Aw with rfl | z1 | z1
       . exact bp
       . exact fun z'=>by rw[z'] at z1;rw[z1] at EM;exact EM
       . intro z'
         rw[z'] at z1
         rcases h3 j p f hj with z2 | z2
         . rw[z2,ha] at z1;cases z1
         . rw[z2] at z1;cases z1;exact ba rfl
end
def nX (fs:List (Str×Dt))(nm:List Str)(a:Addr)(ls:je)(n:Nat):List (Str×Dt):=fs ++ (List.range nm.length).map fun j=>(nm.getD j "",.dY a ls j n)
section
variable {K:W.Frag}{Hf H:Hp}
theorem aW.split:∀ {P7 IQ:List (Str×Dt)} {fv:List (Str×V)},aW K H fv (P7 ++ IQ)->∃ f1 f2,fv=f1 ++ f2/\aW K H f1 P7/\aW K H f2 IQ
 | [],_,fv,r=>⟨[],fv,rfl,.nil,r⟩
 | (k,d)::P7,IQ,_,.cons h t=>by
   obtain⟨f1,f2,e,r1,r2⟩:=aW.split t
   exact⟨(k,_)::f1,f2,by rw[e];rfl,.cons h r1,r2⟩
theorem aW.join:∀ {P7 IQ:List (Str×Dt)} {f1 f2:List (Str×V)},aW K H f1 P7->aW K H f2 IQ->aW K H (f1 ++ f2) (P7 ++ IQ)
 | _,_,_,_,.nil,r=>r
 | _,_,_,_,.cons h t,r=>.cons h (aW.join t r)
theorem nH {nm:Nat->Str}{d d':Nat->Dt}{H':Hp}(h:∀ j v,Rep K H v (d j)->Rep K H' v (d' j)):∀ {js:List Nat} {fv:List (Str×V)},aW K H fv (js.map fun j=>(nm j,d j))->aW K H' fv (js.map fun j=>(nm j,d' j))
 | [],_,.nil=>.nil
 | j::js,_,.cons r t=>.cons (h j _ r) (nH h t)
def sd (H:Hp)(ls:je)(n:Nat):Prop:=∀ (j:Nat) (p:Addr) (f:Nat->List (Key×FD)),ls[j]?=some (p,f)->Known H p f n
variable {fs:List (Str×Dt)}{nm:List Str}{l:Addr}{ls:je}{n m:Nat}{fv:List (Str×V)}{u:HO}
theorem t6 (hn:0 < nm.length)(r:aW K Hf fv (qR fs nm l ls n)):Hf l=some (.memo ls):=by
 obtain⟨f1,f2,_,_,r2⟩:=aW.split r
 cases hk:nm.length with
 | zero=>omega
 | succ k=>
   rw[hk,List.range_succ_eq_map,List.map_cons] at r2
   cases r2 with
   | cons h t=>cases h with
     | memo _ h2 _ _=>exact h2
theorem RU (hs:jE l fs=true)(hm:Hf l=some (.memo ls))(hu:lp ls u)(r:aW K Hf fv (qR fs nm l ls n)):aW K (upd Hf l u) fv (nX fs nm l ls n):=by
 obtain⟨f1,f2,e,r1,r2⟩:=aW.split r
 subst e
 refine aW.join (iD (.inl hm) hu hs r1) (nH (fun j v q=>?_) r2)
 cases q with
 | memo h1 h2 h3 h4=>exact gW (.inl hm) hu rfl (.dY h1 (.inl h2) h3 h4)
theorem L8 (hs:jE l fs=true)(hm:bQ Hf l ls)(r:aW K Hf fv (nX fs nm l ls n)):aW K (upd Hf l (.memo ls)) fv (qR fs nm l ls n):=by
 obtain⟨f1,f2,e,r1,r2⟩:=aW.split r
 subst e
 refine aW.join (iD hm (.inl rfl) hs r1) (nH (fun j v q=>?_) r2)
 cases q with
 | dY h1 h2 h3 h4=>exact .memo h1 ak (h3.imp id fun z=>aX hm z rfl) (lR hm (.inl rfl) h4)
theorem zI (hk:sd Hf ls m)(r:aW K Hf fv (qR fs nm l ls n)):aW K Hf fv (qR fs nm l ls m):=by
 obtain⟨f1,f2,e,r1,r2⟩:=aW.split r
 subst e
 refine aW.join r1 (nH (fun j v q=>?_) r2)
 cases q with
 | memo h1 h2 h3 h4=>exact .memo h1 h2 h3 (hk _ _ _ h1)
theorem J9 (hl:ls.length<=nm.length)(r:aW K Hf fv (qR fs nm l ls n)):sd Hf ls n:=fun j p f e=>by
 obtain⟨f1,f2,_,_,r2⟩:=aW.split r
 have hj:j < nm.length:=Nat.lt_of_lt_of_le (List.getElem?_eq_some_iff.mp e).1 hl
 have key:∀ {js:List Nat} {fv:List (Str×V)},aW K Hf fv (js.map fun j=>(nm.getD j "",Dt.memo l ls j n))->j∈js->Known Hf p f n:=by
   intro js
   induction js with
   | nil=>intro fv _ h;cases h
   | cons i js ih=>
     intro fv r h
     cases r with
     | cons q t=>
       rcases List.mem_cons.mp h with z | z
       . subst z
         cases q with
         | memo h1 h2 h3 h4=>rw[e] at h1;cases h1;exact h4
       . exact ih t z
 exact key r2 (List.mem_range.mpr hj)
theorem Oe {A B bW H2:Hp}(hA:A l=some (.memo ls))(hB:B l=some (.memo ls))(g:bc (upd A l u) (upd B l u) bW H2):bc A B (upd bW l (.memo ls)) (upd H2 l (.memo ls)):=by
 refine⟨fun b o e=>?_,fun b o e=>?_,cJ g.sub,fun b o e=>?_⟩
 . by_cases hb:b=l
   . subst hb;rw[hB] at e;cases e;exact ak
   . rw[ah hb];exact g.big _ _ (by rw[ah hb];exact e)
 . by_cases hb:b=l
   . subst hb;rw[hA] at e;cases e;exact ak
   . rw[ah hb];exact g.bh _ _ (by rw[ah hb];exact e)
 . by_cases hb:b=l
   . subst hb;exact .inl ⟨_,hA⟩
   . rw[ah hb] at e
     rcases g.new b o e with⟨o',z⟩ | z | z
     . rw[ah hb] at z;exact .inl ⟨o',z⟩
     . rw[ah hb] at z;exact .inr (.inl z)
     . exact .inr (.inr z)
variable {G G0:Gr}{st:L2.St}{dl:List Slot}
theorem dk.rebase (S:dk K G0 st Hf H dl)(no:noOwn dl=true)(g:bc G.Hf G.H G0.Hf G0.H):dk K G st Hf H dl:=⟨g.trans S.gr,S.len,S.val,fun i o h=>absurd h (aQ no i o),fun i j o o' a h=>absurd h (aQ no i o)⟩
def pH (a:Addr):List Slot->Bool
 | []=>true
 | .aO::r=>pH a r
 | .val d::r=>qw a d && pH a r
 | .own _::_=>false
theorem lq {l:Addr}:∀ {tl:List Slot} {i:Nat} {d:Dt},pH l tl=true->tl[i]?=some (.val d)->qw l d=true
 | [],_,_,_,e=>by simp at e
 | .aO::r,0,_,_,e=>by simp at e
 | .aO::r,i+1,_,h,e=>lq (tl:=r) (i:=i) h (by simpa using e)
 | .val d::r,0,_,h,e=>by
   rw[pH,Bool.and_eq_true] at h
   simp at e
   subst e
   exact h.1
 | .val d::r,i+1,_,h,e=>by
   rw[pH,Bool.and_eq_true] at h
   exact lq (tl:=r) (i:=i) h.2 (by simpa using e)
theorem gh {l:Addr}:∀ {tl:List Slot},pH l tl=true->noOwn tl=true
 | [],_=>rfl
 | .aO::r,h=>gh (tl:=r) h
 | .val d::r,h=>by
   rw[pH,Bool.and_eq_true] at h
   exact gh (tl:=r) h.2
variable {C:Addr}{tl:List Slot}
abbrev yy (C:Addr)(fs:List (Str×Dt))(nm:List Str)(l:Addr)(ls:je)(n:Nat)(tl:List Slot):List Slot:=.val (.obj C (qR fs nm l ls n))::tl
abbrev Vx (C:Addr)(fs:List (Str×Dt))(nm:List Str)(l:Addr)(ls:je)(n:Nat)(tl:List Slot):List Slot:=.val (.obj C (nX fs nm l ls n))::tl
theorem dk.RV {m:Nat}(S:dk K G st Hf H (yy C fs nm l ls n tl))(kn:sd Hf ls m):dk K G st Hf H (yy C fs nm l ls m tl):=by
 have own:∀ {i:Nat} {o:Own},(yy C fs nm l ls m tl)[i]?=some (.own o)->(yy C fs nm l ls n tl)[i]?=some (.own o):=fun {i o} h=>by
   cases i with
   | zero=>cases h
   | succ i=>exact h
 refine⟨S.gr,S.len,fun i d h=>?_,fun i o h=>S.own i o (own h),fun i j o o' a h1 h2=>S.DF i j o o' a (own h1) (own h2)⟩
 cases i with
 | zero=>
   cases h
   obtain⟨v,hv,rv⟩:=S.val 0 _ rfl
   cases rv with
   | obj q r=>exact⟨_,hv,.obj q (zI kn r)⟩
 | succ i=>exact S.val (i+1) d h
def RW (G0:Gr)(l:Addr)(u:HO):Gr:=⟨upd G0.Hf l u,upd G0.H l u⟩
theorem dk.Vy (S:dk K G st Hf H (yy C fs nm l ls n tl))(hs:jE l fs=true)(ht:pH l tl=true)(hn:0 < nm.length)(hu:lp ls u):Hf l=some (.memo ls)/\dk K (RW ⟨iE Hf H,H⟩ l u) st (upd (iE Hf H) l u) (upd H l u) (Vx C fs nm l ls n tl):=by
 obtain⟨v,hv,rv⟩:=S.val 0 _ rfl
 have sm:=fF S.sub
 cases rv with
 | @obj a _ dx fv _ q r=>
   have hm:=t6 hn r
   have Vz:iE Hf H l=some (.memo ls):=sm _ _ hm
   refine⟨hm,⟨.refl (cJ (mS S.sub)),S.len,fun i d h=>?_,fun i o h=>?_,fun i j o o' a h=>?_⟩⟩
   . cases i with
     | zero=>
       cases h
       exact⟨_,hv,.obj (Gs (.inl Vz) (fD sm q)) (RU hs Vz hu (r.mono sm))⟩
     | succ i=>
       have h:tl[i]?=some (.val d):=h
       obtain⟨w,w1,w2⟩:=S.val (i+1) d h
       exact⟨w,w1,gW (.inl Vz) hu (lq ht h) (w2.mono sm)⟩
   . cases i with
     | zero=>cases h
     | succ i=>exact absurd h (aQ (gh ht) i o)
   . cases i with
     | zero=>cases h
     | succ i=>exact absurd h (aQ (gh ht) i o)
end
section
variable {X:Cx}{G:Gr}{E:XK}{dl:List Slot}{c e:Expr}{body:List Stmt}{pos p:Pos}{fs:List (Str×Dt)}{nm:List Str}{l C:Addr}{ls:je}{n m age:Nat}{tl:List Slot}
def Of (X:Cx)(c:Expr):TT:=fun st H Q=>∃ G dl b,EB X G dl c b/\Q1 X.K G dl b st H Q
theorem Gy:PT X c (Of X c):=fun pins s st H Q I ⟨G,dl,b,h,q⟩=>h pins s st H Q I q
def Og (X:Cx)(E:XK)(body:List Stmt):TS:=fun D st H=>∃ G pre o,lM X G E pre body o/\tO X.K G E pre o D st H
theorem D4 {body:List Stmt}:AD X body (Og X E body):=fun pins s st H D J ⟨G,pre,o,h,q⟩=>h pins s st H D J q
def RM (K:W.Frag)(G0:Gr)(C:Addr)(fs:List (Str×Dt))(nm:List Str)(l:Addr)(ls:je)(n:Nat)(tl:List Slot)(M:Nat):L2.St->Hp->Prop:=fun st H=>H l=some (.bj ls (List.replicate ls.length M))/\∃ Hf,dk K G0 st Hf (upd H l (.memo ls)) (yy C fs nm l ls n tl)
theorem v7 (hp:PassesOwn (model X.prog X.w) X.A X.env X.xe)(hs:jE l fs=true)(ht:pH l tl=true)(hn:0 < nm.length)(kR:age < 9000)(hc:∀ (N:Nat) (G:Gr),G.Hf l=some (.bj ls (List.replicate ls.length N))->EB X G (Vx C fs nm l ls n tl) c (decide (N<=age)))(hb:∀ N,0 < N->N<=age->∀ G0:Gr,G0.Hf l=some (.memo ls)->G0.H l=some (.memo ls)->lM X (RW G0 l (.bj ls (List.replicate ls.length N))) E (Vx C fs nm l ls n tl) body (.raw (RM X.K G0 C fs nm l ls n tl (N+1)))):ES X G E (yy C fs nm l ls n tl) (.While c body [] pos) (.nx (yy C fs nm l ls (age+1) tl)):=by
 intro pins s st H D I ⟨Hf,S,k⟩
 have no:noOwn (yy C fs nm l ls n tl)=true:=show noOwn tl=true from gh ht
 have hm:Hf l=some (.memo ls):=(S.Vy (u:=.memo ls) hs ht hn (.inl rfl)).1
 obtain⟨N0,h0,h1,IX⟩:=Inv.exact I (S.sub _ _ hm)
 let XX:Nat->HO:=fun N=>.bj ls (List.replicate ls.length N)
 have mu:∀ N,lp ls (XX N):=fun N=>.inr ⟨_,rfl⟩
 let W:Nat->L2.St->Hp->Prop:=fun m st H=>∃ N,m=age+1 - N/\0 < N/\H l=some (XX N)/\∃ av,aF Hf av/\dk X.K G st av (upd H l (.memo ls)) (yy C fs nm l ls n tl)
 refine bK (yM (pos:=pos) hp (Gy (X:=X) (c:=c)) (D4 (E:=E)) pins s st _ { D with nx:=fun ju H'=>∃ N,age < N/\H' l=some (XX N)/\∃ av,aF Hf av/\dk X.K G ju av (upd H' l (.memo ls)) (yy C fs nm l ls n tl)} IX ?_) fun f s7 q7=>?_
 . refine⟨W,⟨_,N0,rfl,h0,ak,Hf,aF.refl _,by rw[rO,tZ (S.sub _ _ hm)];exact S⟩,?_⟩
   rintro mm TN H1 ⟨N,rfl,hN,LY,av,s1,S1⟩
   have eH:upd (upd H1 l (.memo ls)) l (XX N)=H1:=by rw[rO,tZ LY]
   obtain⟨Xu,SX⟩:=S1.Vy (u:=XX N) hs ht hn (mu N)
   rw[eH] at SX
   have hA:iE av (upd H1 l (.memo ls)) l=some (.memo ls):=fF S1.sub _ _ Xu
   refine⟨_,_,decide (N<=age),hc N (RW ⟨iE av (upd H1 l (.memo ls)),upd H1 l (.memo ls)⟩ l (XX N)) ak,_,SX,fun bW H2 g2=>?_⟩
   have ZJ:bc (upd (iE av (upd H1 l (.memo ls))) l (XX N)) (upd (upd H1 l (.memo ls)) l (XX N)) bW H2:=by rw[eH];exact g2
   have gp:=Oe (ls:=ls) hA ak ZJ
   have gg:=(nG S1.sub).trans gp
   have S2:=S1.grow gg
   have LH:H2 l=some (XX N):=g2.big _ _ LY
   by_cases hle:N<=age
   . rw[decide_eq_true hle]
     have ZK:upd (upd H2 l (.memo ls)) l (XX N)=H2:=by rw[rO,tZ LH]
     obtain⟨Xv,Xw⟩:=S2.Vy (u:=XX N) hs ht hn (mu N)
     rw[ZK] at Xw
     have ZL:iE (upd bW l (.memo ls)) (upd H2 l (.memo ls)) l=some (.memo ls):=fF S2.sub _ _ Xv
     refine wX ⟨fun ju H'=>H' l=some (XX (N+1))/\∃ av,aF Hf av/\dk X.K G ju av (upd H' l (.memo ls)) (yy C fs nm l ls n tl),fun ju H' ⟨z1,z2⟩=>⟨age+1 - (N+1),by omega,N+1,rfl,by omega,z1,z2⟩,?_⟩
     refine⟨_,_,_,hb N hN hle ⟨iE (upd bW l (.memo ls)) (upd H2 l (.memo ls)),upd H2 l (.memo ls)⟩ ZL ak,_,Xw,fun ju H' ⟨z1,aH,z2⟩=>⟨z1,aH,?_,?_⟩⟩
     . exact((s1.trans gg.bh).trans (fF S2.sub)).trans z2.gr.bh
     . exact z2.rebase no (S2.gr.trans (nG S2.sub))
   . rw[decide_eq_false hle]
     exact wW ⟨N,by omega,LH,_,s1.trans gg.bh,S2⟩
 . cases f with
   | next=>
     obtain⟨σ7,H7,I7,N,hN,VA,Xx,ZM,S7⟩:=q7
     have I8:=Inv.pack I7 VA (by omega)
     refine⟨σ7,_,I8,?_⟩
     obtain⟨_,_,hlen,_,_,_,h6⟩:=(show aJ X.prog X.w H7 s7.heap l (XX N) from I7.aZ l _ VA)
     have kn:sd (iE Xx (upd H7 l (.memo ls))) ls (age+1):=fun j p f e i hi=>by
       have hj:j < ls.length:=(List.getElem?_eq_some_iff.mp e).1
       obtain⟨aD,cc,e1,e2,e3⟩:=h6 j p f N e (by rw[List.getElem?_replicate,if_pos hj])
       obtain⟨q,o,kvs,q1,q2,q3⟩:=e3 i (by omega)
       have key:∀ b u,H7 b=some u->Kept u->iE Xx (upd H7 l (.memo ls)) b=some u:=fun b u z kq=>xv (by rw[ah (fun zz=>by rw[zz,VA] at z;cases z;exact kq)];exact z) kq
       exact⟨q,o,kvs,key _ _ q2 trivial,fG key q3⟩
     have S8:=S7.grow (nG S7.sub)
     exact k σ7 _ _ (ZM.trans (fF S7.sub)) (S8.RV kn)
   | cont=>exact q7
   | brk=>exact q7
   | ret v=>exact q7
theorem pI (he:EE X G (yy C fs nm l ls n tl) e (.u0 l ls m))(hs:swapsWith e none pos.line X.env=pure false:=by rfl):ES X G E (yy C fs nm l ls n tl) (.Expr e pos) (.nx (yy C fs nm l ls m tl)):=
 rb (kB he hs) fun D st H ⟨Hf,S,k⟩=>⟨Hf,S,fun v av H1 g1 r1=>by
   have S1:=S.grow g1
   cases r1 with
   | u0 kn=>
     exact k st av H1 g1.bh (S1.RV kn)⟩
theorem nI (hl:ls.length<=nm.length):Comes (.nx (yy C fs nm l ls n tl)) (.ret (.u0 l ls n)):=.kn fun K G st Hf H S=>by
 obtain⟨v,hv,rv⟩:=S.val 0 _ rfl
 cases rv with
 | obj q r=>exact .u0 (J9 hl r)
theorem zJ (i:Nat){o:Out}{sts:List Stmt}{gs:List (Nat->List (Key×FD))}(h:∀ l ls,ls.map (·.2)=gs->lM X G E (dl.set i (.val (.obj C (qR fs nm l ls n)))) sts o)(hd:dl[i]?=some (.val (.u9 C fs gs nm n)):=by rfl):lM X G E dl sts o:=by
 intro pins s st H D I ⟨Hf,S,k⟩
 obtain⟨v,hv,rv⟩:=S.val i _ hd
 cases rv with
 | @u9 s' a _ dx fv _ _ _ _ ls' e q r=>
   refine h a ls' e pins s st H D I ⟨Hf,⟨S.gr,by simp[S.len],fun j d hj=>?_,fun j o' hj=>?_,fun j m o1 o2 c q1 q2 q3 q4=>?_⟩,k⟩
   . by_cases ej:i=j
     . subst ej
       have hl:i < dl.length:=(List.getElem?_eq_some_iff.mp hd).1
       rw[List.getElem?_set_self hl] at hj;cases hj
       exact⟨_,hv,.obj q r⟩
     . rw[List.getElem?_set_ne ej] at hj;exact S.val j d hj
   . have ej:i≠j:=fun z=>by
       subst z
       rw[List.getElem?_set_self (List.getElem?_eq_some_iff.mp hd).1] at hj;cases hj
     rw[List.getElem?_set_ne ej] at hj;exact S.own j o' hj
   . have ne:∀ {j:Nat} {o':Own},(dl.set i (.val (.obj C (qR fs nm a ls' n))))[j]?=some (.own o')->dl[j]?=some (.own o'):=fun {j o'} hj=>by
       have ej:i≠j:=fun z=>by
         subst z
         rw[List.getElem?_set_self (List.getElem?_eq_some_iff.mp hd).1] at hj;cases hj
       rw[List.getElem?_set_ne ej] at hj;exact hj
     exact S.DF j m o1 o2 c (ne q1) (ne q2) q3 q4
end
theorem zK {l:Addr}:∀ (a b:List (Str×Dt)),jE l (a ++ b)=(jE l a && jE l b)
 | [],b=>by rw[List.nil_append,jE];rfl
 | (k,d)::a,b=>by rw[List.cons_append,jE,jE,zK a b,Bool.and_assoc]
theorem Gz (nm:Nat->Str)(l:Addr)(ls:je)(n:Nat):∀ js:List Nat,jE l (js.map fun j=>(nm j,Dt.dY l ls j n))=true
 | []=>rfl
 | j::js=>by rw[List.map_cons,jE,Gz nm l ls n js];rfl
theorem v8 {fs:List (Str×Dt)}{nm:List Str}{l:Addr}{ls:je}{n:Nat}(h:jE l fs=true):jE l (nX fs nm l ls n)=true:=by
 unfold nX
 rw[zK,h,Gz];rfl
section
variable {X:Cx}{G0:Gr}{E:XK}{arg:Expr}{fs:List (Str×Dt)}{l C:Addr}{ls:je}{n N:Nat}{tl:List Slot}{f g:Nat->List (Key×FD)}{n0 n1 x0 xg:Str}{p1 p2 p3 p4 p5 a1 a2 c1 c2 q1 q2:Pos}
theorem zL (ng:Nat)(hs:jE l fs=true)(ht:pH l tl=true)(hu:tl[ng]?=some .aO)(nY:ls.map (·.2)=[f,g])(hN:N < 9000)(cl:rV X.K C)(Oh:bu X.K C n0)(VB:bu X.K C n1)(hA:G0.Hf l=some (.memo ls))(hB:G0.H l=some (.memo ls))
   (VC:∀ G2,EO X G2 (.val (.obj C (nX fs [n0,n1] l ls n))::tl.set ng (.val (.dW (mD (f N))))) arg (.d0 (mD (g N))))
   (P6:(nX fs [n0,n1] l ls n).lookup n0=some (.dY l ls 0 n):=by rfl) (LY:(nX fs [n0,n1] l ls n).lookup n1=some (.dY l ls 1 n):=by rfl)
   (P5:X.N[0]?=some x0:=by rfl) (T1:sU X.env.scope x0:=by first | exact Or.inl rfl | exact Or.inr (Or.inl rfl) | exact Or.inr (Or.inr rfl)) (T2:(x0 == ("__debug__":Str))=false:=by decide) (T3:(x0 == ("__classdict__":Str))=false:=by decide)
   (VD:X.N[ng+1]?=some xg:=by rfl) (VE:sU X.env.scope xg:=by first | exact Or.inl rfl | exact Or.inr (Or.inl rfl) | exact Or.inr (Or.inr rfl)) (VF:(xg == ("__debug__":Str))=false:=by decide) (VG:(xg == ("__classdict__":Str))=false:=by decide)
   (T4:attributeBase (.Name x0 p1) n0 X.env (eval (.Name x0 p1) X.env)=eval (.Name x0 p1) X.env:=by rfl) (Xy:attributeBase (.Name x0 p4) n1 X.env (eval (.Name x0 p4) X.env)=eval (.Name x0 p4) X.env:=by rfl)
   (Bk:attributeBase (.Attribute (.Name x0 p1) n0 p2) "append" X.env (eval (.Attribute (.Name x0 p1) n0 p2) X.env)=eval (.Attribute (.Name x0 p1) n0 p2) X.env:=by rfl)
   (Oi:attributeBase (.Attribute (.Name x0 p4) n1 p5) "append" X.env (eval (.Attribute (.Name x0 p4) n1 p5) X.env)=eval (.Attribute (.Name x0 p4) n1 p5) X.env:=by rfl)
   (GA:((backTo c1 (starEach [.Name xg p3] X.env)).all (fun x=>!x.1) && (backToKw c1 (keywordEach [] X.env)).all (fun x=>x.1.isSome) && decide ([Expr.Name xg p3].length+([]:List Keyword).length+(if ([]:List Keyword).isEmpty then 0 else 1) < 30))=true:=by rfl)
   (RX:((backTo c2 (starEach [arg] X.env)).all (fun x=>!x.1) && (backToKw c2 (keywordEach [] X.env)).all (fun x=>x.1.isSome) && decide ([arg].length+([]:List Keyword).length+(if ([]:List Keyword).isEmpty then 0 else 1) < 30))=true:=by rfl)
   (Bl:(a1.endLine == c1.line)=true:=by rfl) (Oj:(a2.endLine == c2.line)=true:=by rfl) (xw:starEach [.Name xg p3] X.env=(false,eval (.Name xg p3) X.env)::starEach [] X.env:=by rfl) (Ka:starEach [arg] X.env=(false,eval arg X.env)::starEach [] X.env:=by rfl)
   (EH:swapsWith (.Call (.Attribute (.Attribute (.Name x0 p1) n0 p2) "append" a1) [.Name xg p3] [] c1) none q1.line X.env=pure false:=by rfl) (yP:swapsWith (.Call (.Attribute (.Attribute (.Name x0 p4) n1 p5) "append" a2) [arg] [] c2) none q2.line X.env=pure false:=by rfl) :
   lM X (RW G0 l (.bj ls (List.replicate ls.length N))) E (.val (.obj C (nX fs [n0,n1] l ls n))::tl.set ng (.own (.d0 (mD (f N)))))
     [.Expr (.Call (.Attribute (.Attribute (.Name x0 p1) n0 p2) "append" a1) [.Name xg p3] [] c1) q1,.Expr (.Call (.Attribute (.Attribute (.Name x0 p4) n1 p5) "append" a2) [arg] [] c2) q2] (.raw (RM X.K G0 C fs [n0,n1] l ls n tl (N+1))):=by
 have RY:PE X arg (fun st H Q=>∃ G2,TK X.K G2 (.val (.obj C (nX fs [n0,n1] l ls n))::tl.set ng (.val (.dW (mD (f N))))) (.d0 (mD (g N))) st H Q):=fun pins s st H Q I ⟨G2,q⟩=>VC G2 pins s st H Q I q
 refine zh (mJ (kB (tu PySem.F.plainAttrs_list PySem.F.slot_list_append PySem.F.type_list_append oM (sY (iy (pos:=p1) P5 T1 T2 T3) T4) (kE (iy (pos:=p3) VD VE VF VG) mM xw) Bk GA Bl xw rfl) EH)
   (lJ (kB (tu PySem.F.plainAttrs_list PySem.F.slot_list_append PySem.F.type_list_append oM (sY (iy (pos:=p4) P5 T1 T2 T3) Xy) (kE RY mM Ka) Oi RX Oj Ka rfl) yP))) fun D st H ⟨Hf,S,k⟩=>?_
 have e2:ls.length=2:=by have:=congrArg List.length nY;simpa using this
 have eR:∀ M:Nat,List.replicate ls.length M=[M,M]:=fun M=>by rw[e2];rfl
 rw[eR] at S
 have RZ:ng < tl.length:=(List.getElem?_eq_some_iff.mp hu).1
 obtain⟨v0,hv,rv⟩:=S.val 0 _ rfl
 cases rv with
 | @obj sa _ dx fv _ Ol rf=>
   obtain⟨oa,Bm,T5,_,back⟩:=Rd.ex Ol
   have Om:Hf l=some (.bj ls [N,N]):=S.gr.bh _ _ ak
   have L9:H l=some (.bj ls [N,N]):=S.sub _ _ Om
   have hm:bQ Hf l ls:=.inr ⟨_,Om⟩
   obtain⟨y0,VH,VI⟩:=rf.lookup P6
   obtain⟨y1,IP,ZN⟩:=rf.lookup LY
   obtain⟨qa,hq,R0,VJ,kvs,Ma,rk⟩:=S.own (ng+1) (.d0 (mD (f N))) (by show(tl.set ng _)[ng]?=_;rw[List.getElem?_set_self RZ])
   cases VI with
   | @dY _ p _ _ _ f0 zE _ VL _=>cases ZN with
     | @dY _ pp _ _ _ f1 R1 _ ZO _=>
       have VM:f0=f:=by
         have:=congrArg (fun z=>z[0]?) nY
         simp only[List.getElem?_map,zE] at this
         exact Option.some.inj this
       have ZP:f1=g:=by
         have:=congrArg (fun z=>z[1]?) nY
         simp only[List.getElem?_map,R1] at this
         exact Option.some.inj this
       subst VM ZP
       have T6:pZ H kvs (f0 N):=fG (fun b u e _=>S.sub _ _ e) (oK rk)
       have VN:qa≠l:=fun z=>by rw[z,L9] at Ma;cases Ma
       have R3:sa≠l:=fun z=>by rw[z,Om] at Bm;cases Bm;cases T5
       have Xz:sa≠qa:=fun z=>by rw[z,R0] at Bm;cases Bm
       refine⟨_,hv,sa,C,dx,fv,_,rfl,back _ (S.sub _ _ Bm),cl,Oh,VH,.inr (.inr (.inr (.inr ⟨rfl,l,ls,[N,N],0,f0,N,L9,zE,rfl⟩))),_,hq,l,ls,[N,N],0,p,f0,N,qa,kvs,rfl,rfl,L9,zE,rfl,hN,Ma,T6,fun oq=>?_⟩
       let H4:Hp:=upd (upd H l (.bj ls ([N,N].set 0 (N+1)))) qa (.kd (some (p,N)) oq kvs)
       let u4:HO:=.bj ls [N+1,N]
       have T7:H4 l=some u4:=by show(upd (upd H l _) qa _) l=_;rw[ah (Ne.symm VN),ak];rfl
       have XA:H4 qa=some (.kd (some (p,N)) oq kvs):=ak
       have T8:∀ b o,H b=some o->b≠l->b≠qa->H4 b=some o:=fun b o e n1 n2=>by show(upd (upd H l _) qa _) b=_;rw[ah n2,ah n1];exact e
       have ZQ:∀ b,H4 b=none->H b=none:=fun b e=>by
         have n1:b≠l:=fun z=>by rw[z,T7] at e;cases e
         have n2:b≠qa:=fun z=>by rw[z,XA] at e;cases e
         have e:(upd (upd H l _) qa _) b=none:=e
         rw[ah n2,ah n1] at e;exact e
       have ZR:∀ b o,Hf b=some o->b≠qa:=fun b o e z=>by rw[z,R0] at e;cases e
       have xx:aF (upd Hf l u4) H4:=fun b o e=>by
         by_cases bl:b=l
         . rw[bl,ak] at e;cases e;rw[bl];exact T7
         . rw[ah bl] at e;exact T8 b o (S.sub _ _ e) bl (ZR b o e)
       let EJ:Hp:=iE (upd Hf l u4) H4
       have R4:aF (upd Hf l u4) EJ:=fF xx
       have T9:lp ls u4:=.inr ⟨_,rfl⟩
       have VO:∀ b u,H b=some u->Kept u->EJ b=some u:=fun b u e kq=>xv (T8 b _ e (fun z=>by rw[z,L9] at e;cases e;exact kq) (fun z=>by rw[z,Ma] at e;cases e;exact kq)) kq
       have S4:dk X.K ⟨EJ,H4⟩ st EJ H4 (.val (.obj C (nX fs [n0,n1] l ls n))::tl.set ng (.val (.dW (mD (f0 N))))):=by
         have no:∀ (i:Nat) o,(Slot.val (.obj C (nX fs [n0,n1] l ls n))::tl.set ng (.val (.dW (mD (f0 N)))))[i]?≠some (.own o):=fun i o h=>by
           cases i with
           | zero=>cases h
           | succ i=>
             have h:(tl.set ng (.val (.dW (mD (f0 N)))))[i]?=some (.own o):=h
             by_cases e:ng=i
             . subst e;rw[List.getElem?_set_self RZ] at h;cases h
             . rw[List.getElem?_set_ne e] at h;exact aQ (gh ht) i o h
         refine⟨.refl (mS xx),by have:=S.len;simpa using this,fun i d h=>?_,fun i o h=>absurd h (no i o),fun i j o o' a h=>absurd h (no i o)⟩
         cases i with
         | zero=>
           cases h
           exact⟨_,hv,.obj (back _ (R4 _ _ (aX hm Bm T5))) ((iD hm T9 (v8 hs) rf).mono R4)⟩
         | succ i=>
           have h:(tl.set ng (.val (.dW (mD (f0 N)))))[i]?=some (.val d):=h
           by_cases e:ng=i
           . subst e
             rw[List.getElem?_set_self RZ] at h;cases h
             exact⟨_,hq,.dW (CB XA) (r8 (fG VO T6))⟩
           . rw[List.getElem?_set_ne e] at h
             obtain⟨w,w1,w2⟩:=S.val (i+1) d (by show(tl.set ng _)[i]?=_;rw[List.getElem?_set_ne e];exact h)
             exact⟨w,w1,(gW hm T9 (lq ht h) w2).mono R4⟩
       refine⟨_,hv,sa,C,dx,fv,_,rfl,back _ (T8 _ _ (S.sub _ _ Bm) R3 Xz),cl,VB,IP,.inr (.inr (.inr (.inr ⟨rfl,l,ls,[N+1,N],1,f1,N,T7,R1,rfl⟩))),⟨EJ,H4⟩,EJ,S4,fun ra r0 H5 g5 n5 ZT ⟨Oo,LK,RC⟩=>?_⟩
       have XB:H5 l=some u4:=g5.big _ _ T7
       have ZU:ra≠l:=fun z=>by rw[z,XB] at LK;have LK:=Option.some.inj LK;have LK:HO.bj ls [N+1,N]=.dK Oo:=LK;cases LK
       refine⟨l,ls,[N+1,N],1,pp,f1,N,ra,Oo,rfl,rfl,XB,R1,rfl,hN,LK,fG (fun b u e _=>g5.sub _ _ e) (oK RC),fun or=>?_⟩
       let H6:Hp:=upd (upd H5 l (.bj ls ([N+1,N].set 1 (N+1)))) ra (.kd (some (pp,N)) or Oo)
       show D.nx st H6
       have VP:H6 l=some (.bj ls [N+1,N+1]):=by show(upd (upd H5 l _) ra _) l=_;rw[ah (Ne.symm ZU),ak];rfl
       have R5:∀ b o,H5 b=some o->b≠l->b≠ra->(upd H6 l (.memo ls)) b=some o:=fun b o e n1 n2=>by
         rw[ah n1]
         show(upd (upd H5 l _) ra _) b=_
         rw[ah n2,ah n1];exact e
       have VQ:∀ b o,r0 b=some o->b≠ra:=fun b o e z=>by rw[z,ZT] at e;cases e
       have GB:aF (upd r0 l (.memo ls)) (upd H6 l (.memo ls)):=fun b o e=>by
         by_cases bl:b=l
         . rw[bl,ak] at e ⊢;exact e
         . rw[ah bl] at e;exact R5 b o (g5.sub _ _ e) bl (VQ b o e)
       have GC:=fF GB
       have f4:∀ b o,Hf b=some o->b≠l->r0 b=some o:=fun b o e n1=>g5.bh _ _ (R4 _ _ (by rw[ah n1];exact e))
       have g6:bc G0.Hf G0.H (iE (upd r0 l (.memo ls)) (upd H6 l (.memo ls))) (upd H6 l (.memo ls)):=by
         refine⟨fun b o e=>?_,fun b o e=>?_,mS GB,fun b o e=>?_⟩
         . by_cases bl:b=l
           . rw[bl,hB] at e;cases e;rw[bl];exact ak
           . have h3:H b=some o:=S.gr.big _ _ (by show(upd G0.H l _) b=_;rw[ah bl];exact e)
             have VR:b≠qa:=fun z=>by
               have:(upd G0.H l (.bj ls [N,N])) qa=none:=VJ
               rw[<- z,ah bl,e] at this;cases this
             have h4:=T8 b o h3 bl VR
             exact R5 b o (g5.big _ _ h4) bl (fun z=>by have n5:H4 ra=none:=n5;rw[z,n5] at h4;cases h4)
         . by_cases bl:b=l
           . rw[bl,hA] at e;cases e;rw[bl];exact GC _ _ ak
           . have h3:Hf b=some o:=S.gr.bh _ _ (by show(upd G0.Hf l _) b=_;rw[ah bl];exact e)
             exact GC _ _ (by rw[ah bl];exact f4 b o h3 bl)
         . rcases nF (Hf:=upd r0 l (.memo ls)) (H:=upd H6 l (.memo ls)) b with⟨u',z1,z2,z3⟩ | z
           . rw[z3] at e;cases e;exact .inr (.inr z2)
           . rw[z] at e
             by_cases bl:b=l
             . rw[bl];exact .inl ⟨_,hA⟩
             . rw[ah bl] at e
               rcases g5.new b o e with⟨o',w⟩ | w | w
               . have eo:o'=o:=by have:=g5.bh _ _ w;rw[e] at this;exact(Option.some.inj this).symm
                 subst eo
                 rcases nF (Hf:=upd Hf l u4) (H:=H4) b with⟨u',z1,z2,z3⟩ | z'
                 . have w:iE (upd Hf l u4) H4 b=some o':=w
                   rw[z3] at w;cases w;exact .inr (.inr z2)
                 . have w:iE (upd Hf l u4) H4 b=some o':=w
                   rw[z',ah bl] at w
                   rcases S.gr.new b o' w with⟨Ny,y⟩ | y | y
                   . have y:(upd G0.Hf l _) b=some Ny:=y
                     rw[ah bl] at y;exact .inl ⟨Ny,y⟩
                   . have y:(upd G0.H l _) b=none:=y
                     rw[ah bl] at y;exact .inr (.inl y)
                   . exact .inr (.inr y)
               . have y:(upd G0.H l (.bj ls [N,N])) b=none:=S.gr.big.free (ZQ b w)
                 rw[ah bl] at y;exact .inr (.inl y)
               . exact .inr (.inr w)
       have VS:aF (upd Hf l u4) r0:=R4.trans g5.bh
       have XC:bQ r0 l ls:=.inr ⟨_,VS _ _ ak⟩
       have Oq:∀ {v:V} {d:Dt},qw l d=true->Rep X.K Hf v d->Rep X.K (iE (upd r0 l (.memo ls)) (upd H6 l (.memo ls))) v d:=fun {v d} hn r=>(gW XC (.inl rfl) hn ((gW hm T9 hn r).mono VS)).mono GC
       refine k st H6 ⟨by rw[eR];exact VP,_,⟨g6,by have:=S.len;simpa using this,fun i d h=>?_,fun i o h=>?_,fun i j o o' a h=>?_⟩⟩
       . cases i with
         | zero=>
           cases h
           refine⟨_,hv,.obj (back _ (GC _ _ (by rw[ah R3];exact f4 _ _ Bm R3))) ?_⟩
           have r5:=(iD hm T9 (v8 hs) rf).mono VS
           exact(L8 hs XC r5).mono GC
         | succ i=>
           have h:tl[i]?=some (.val d):=h
           have e:ng≠i:=fun z=>by rw[<- z,hu] at h;cases h
           obtain⟨w,w1,w2⟩:=S.val (i+1) d (by show(tl.set ng _)[i]?=_;rw[List.getElem?_set_ne e];exact h)
           exact⟨w,w1,Oq (lq ht h) w2⟩
       . cases i with
         | zero=>cases h
         | succ i=>exact absurd h (aQ (gh ht) i o)
       . cases i with
         | zero=>cases h
         | succ i=>exact absurd h (aQ (gh ht) i o)
end
def XD:HO->Bool
 | .lst _=>true
 | .dK _=>true
 | _=>false
def conv (H:Hp)(p p2 q1 q2:Addr)(u1 u2 u3 u4:HO):Hp:=upd (upd (upd (upd H p u1) p2 u2) q1 u3) q2 u4
section
variable {X:Cx}{pins:List (Addr×Obj)}{σ:L2.St}{H:Hp}{s:Shared}{p p2 q1 q2:Addr}{mq yz:List (Key×V)}{f g:Nat->List (Key×FD)}
theorem Inv.Ot (I:L2.Inv X pins σ H s)(hp:H p=some (.lst [.ref q1]))(u7:H p2=some (.lst [.ref q2]))(IT:H q1=some (.dK mq))(R6:H q2=some (.dK yz))(f1:pZ H mq (f 0))(f2:pZ H yz (g 0))(n1:p≠p2)(n2:q1≠q2):∃ o1 o2,L2.Inv X pins σ (conv H p p2 q1 q2 (.memo [(p,f),(p2,g)]) (.part p) (.kd (some (p,0)) o1 mq) (.kd (some (p2,0)) o2 yz)) s:=by
 obtain⟨z1,i1,c1,r1,e1⟩:=(show aJ X.prog X.w H s.heap p (.lst [.ref q1]) from I.aZ p _ hp)
 obtain⟨z2,i2,c2,r2,e2⟩:=(show aJ X.prog X.w H s.heap p2 (.lst [.ref q2]) from I.aZ p2 _ u7)
 obtain⟨Kb,lo1,VT,VU,o1,VV,VW,R7,P8⟩:=(show aJ X.prog X.w H s.heap q1 (.dK mq) from I.aZ q1 _ IT)
 obtain⟨ZV,ZW,ZX,ZY,o2,ZZ,Z0,Ua,Z1⟩:=(show aJ X.prog X.w H s.heap q2 (.dK yz) from I.aZ q2 _ R6)
 obtain⟨u1,rfl,w1⟩:=vals1 r1
 obtain⟨u2,rfl,w2⟩:=vals1 r2
 cases (show u1=Value.ref q1 from w1)
 cases (show u2=Value.ref q2 from w2)
 refine⟨o1,o2,?_⟩
 have m1:p≠q1:=fun z=>by rw[z,IT] at hp;cases hp
 have m2:p≠q2:=fun z=>by rw[z,R6] at hp;cases hp
 have m3:p2≠q1:=fun z=>by rw[z,IT] at u7;cases u7
 have m4:p2≠q2:=fun z=>by rw[z,R6] at u7;cases u7
 generalize Kc:conv H p p2 q1 q2 (.memo [(p,f),(p2,g)]) (.part p) (.kd (some (p,0)) o1 mq) (.kd (some (p2,0)) o2 yz)=H'
 have R8:H' p=some (.memo [(p,f),(p2,g)]):=by rw[<- Kc];unfold conv;rw[ah m2,ah m1,ah n1,ak]
 have Ou:H' p2=some (.part p):=by rw[<- Kc];unfold conv;rw[ah m4,ah m3,ak]
 have GD:H' q1=some (.kd (some (p,0)) o1 mq):=by rw[<- Kc];unfold conv;rw[ah n2,ak]
 have R9:H' q2=some (.kd (some (p2,0)) o2 yz):=by rw[<- Kc];unfold conv;rw[ak]
 have Bj:∀ b,b≠p->b≠p2->b≠q1->b≠q2->H' b=H b:=fun b a1 a2 a3 a4=>by rw[<- Kc];unfold conv;rw[ah a4,ah a3,ah a2,ah a1]
 have rj:∀ b o,H b=some o->XD o=false->H' b=some o:=fun b o e n=>by
   rw[Bj b (fun z=>by rw[z,hp] at e;cases e;cases n) (fun z=>by rw[z,u7] at e;cases e;cases n) (fun z=>by rw[z,IT] at e;cases e;cases n) (fun z=>by rw[z,R6] at e;cases e;cases n)]
   exact e
 have kp:Kp H H':=⟨fun b o e kq=>rj b _ e (by cases o <;> first | rfl | exact(show False from kq).elim),fun b e=>by
   cases q:H b with
   | none=>rw[q] at e;exact e.elim
   | some u=>
     rw[q] at e
     rw[rj b u q (by cases u <;> first | rfl | exact e.elim)]
     exact e,fun b x e=>rj b _ e rfl⟩
 refine I.un (h':=s.heap) (t':=s.toks) ⟨fun b o e _ _ _=>e,fun b o e _ _ _=>⟨o.slots,e⟩,fun b o e n _=>?_,fun b o e _=>⟨o,e⟩,fun b xs e=>rj b _ e rfl,fun b o u e=>rj b _ e rfl,fun b ps e=>⟨#[],by rw[rj b _ e rfl];simp⟩⟩ fun b u e=>?_
 . rw[Bj b (fun z=>by rw[z,hp] at n;cases n) (fun z=>by rw[z,u7] at n;cases n) (fun z=>by rw[z,IT] at n;cases n) (fun z=>by rw[z,R6] at n;cases n)]
   exact n
 . by_cases b1:b=p
   . subst b1
     rw[R8] at e;cases e
     refine⟨⟨_,e1⟩,1,by decide,⟨f,rfl⟩,rfl,fun j a h hj=>?_,by simp[n1],fun n hn=>by rw[List.mem_replicate] at hn;omega,fun j a h n hj hn=>?_⟩
     . match j,hj with
       | 0,hj=>cases hj;exact .inl rfl
       | 1,hj=>cases hj;exact .inr Ou
     . match j,hj,hn with
       | 0,hj,hn=>
         cases hj;cases hn
         refine⟨_,_,e1,rfl,fun i hi=>?_⟩
         have:i=0:=by omega
         subst this
         exact⟨q1,o1,mq,rfl,GD,f1.kp kp⟩
       | 1,hj,hn=>
         cases hj;cases hn
         refine⟨_,_,e2,rfl,fun i hi=>?_⟩
         have:i=0:=by omega
         subst this
         exact⟨q2,o2,yz,rfl,R9,f2.kp kp⟩
   . by_cases b2:b=p2
     . subst b2;rw[Ou] at e;cases e;exact⟨_,e2⟩
     . by_cases b3:b=q1
       . subst b3;rw[GD] at e;cases e
         refine⟨R7,⟨Kb,lo1,VT,VU,o1,VV,VW,R7,P8⟩,fun a i ht=>?_⟩
         cases ht
         exact⟨by rw[R8];trivial,_,_,e1,rfl⟩
       . by_cases b4:b=q2
         . subst b4;rw[R9] at e;cases e
           refine⟨Ua,⟨ZV,ZW,ZX,ZY,o2,ZZ,Z0,Ua,Z1⟩,fun a i ht=>?_⟩
           cases ht
           exact⟨by rw[Ou];trivial,_,_,e2,rfl⟩
         . rw[Bj b b1 b2 b3 b4] at e
           exact(I.aZ b u e).wG (fun _ _ _ q=>q) (fun c q=>rj c _ q rfl) (fun c xs q=>rj c _ q rfl) kp
end
theorem CD (n0:Str)(v:V):∀ fv:List (Str×V),(eG n0 v fv).length<=fv.length+1
 | []=>Nat.le_refl _
 | (k,w)::r=>by
   have ih:=CD n0 v r
   unfold eG
   split
   . simp
   . simp only[List.length_cons];omega
section
variable {X:Cx}{G:Gr}{E:XK}{e1 e2:Expr}{fs:List (Str×Dt)}{z C:Addr}{tl:List Slot}{f g:Nat->List (Key×FD)}{n0 n1 x0:Str}{Ov VX Ow VY Ox VZ q1 q2:Pos}
theorem xy (no:noOwn tl=true)(cl:rV X.K C)(Oh:bu X.K C n0)(VB:bu X.K C n1)(V0:EO X G (.own (.zg z C fs)::tl) e1 (.d0 (mD (f 0))))(NJ:EO X G (.aO::tl) e2 (.d0 (mD (g 0))))(Oy:∀ p ls,putD n1 (.memo p ls 1 1) (putD n0 (.memo p ls 0 1) fs)=qR fs [n0,n1] p ls 1:=by intro _ _;rfl)(hlen:Nat.ble fs.length 990=true:=by rfl)(hN:X.N[0]?=some x0:=by rfl)(hv:sU X.env.scope x0:=by first | exact Or.inl rfl | exact Or.inr (Or.inl rfl) | exact Or.inr (Or.inr rfl))(lG:(x0 == ("__debug__":Str))=false:=by decide)(k7:(x0 == ("__classdict__":Str))=false:=by decide)(xw:starEach [e1] X.env=[(false,eval e1 X.env)]:=by rfl)(Ka:starEach [e2] X.env=[(false,eval e2 X.env)]:=by rfl)(EH:swapsWith (.List [e1] Ox) (some (.Attribute (.Name x0 Ov) n0 Ow)) q1.line X.env=pure false:=by rfl)(yP:swapsWith (.List [e2] VZ) (some (.Attribute (.Name x0 VX) n1 VY)) q2.line X.env=pure false:=by rfl):lM X G E (.own (.zg z C fs)::tl) [.Assign [.Attribute (.Name x0 Ov) n0 Ow] (.List [e1] Ox) q1,.Assign [.Attribute (.Name x0 VX) n1 VY] (.List [e2] VZ) q2] (.nx (.own (.wZ z C fs [f,g] [n0,n1] 1)::tl)):=by
 intro pins s st H D I ⟨Hf,S,k⟩
 have base:=mJ (sZ (pos:=q1) (pos':=Ow) (iy (pos:=Ov) hN hv lG k7) (tf (pos:=Ox) (kE V0 mM xw)) EH) (lJ (sZ (pos:=q2) (pos':=VY) (iy (pos:=VX) hN hv lG k7) (tf (pos:=VZ) (kE NJ mM Ka)) yP))
 let RQ:L2.St->Hp->Prop:=fun ju H'=>∃ p p2 a1 a2 mq yz,H' p=some (.lst [.ref a1])/\H' p2=some (.lst [.ref a2])/\H' a1=some (.dK mq)/\H' a2=some (.dK yz)/\pZ H' mq (f 0)/\pZ H' yz (g 0)/\p≠p2/\a1≠a2/\ ∀ o1 o2,D.nx ju (conv H' p p2 a1 a2 (.memo [(p,f),(p2,g)]) (.part p) (.kd (some (p,0)) o1 mq) (.kd (some (p2,0)) o2 yz))
 refine bK (base pins s st H { D with nx:=RQ} I ?_) fun fl s7 q7=>?_
 . obtain⟨za,hz,V1,P9,ez,dx,fv,Kd,rf⟩:=S.own 0 _ rfl
   subst ez
   refine⟨Hf,S,fun a1 av H1 g1 Sa Oz ⟨mq,N3,V2⟩=>⟨Nat.le_of_ble_eq_true rfl,fun p hp=>?_⟩⟩
   have Kb:H1 za=some (.ins C dx fv):=g1.big _ _ Kd
   have IU:za≠p:=ax Kb hp
   have Sb:a1≠p:=ax N3 hp
   have Mb:za≠a1:=fun w=>by rw[w,Sa] at Kd;cases Kd
   have V3:(upd H1 p (.lst [.ref a1])) za=some (.ins C dx fv):=by rw[ah IU];exact Kb
   refine⟨_,hz,za,C,dx,fv,rfl,V3,cl,Oh,by rw[rf.length];exact Nat.lt_of_le_of_lt (Nat.le_of_ble_eq_true hlen) (by decide),?_⟩
   let H2:Hp:=upd (upd H1 p (.lst [.ref a1])) za (.ins C dx (eG n0 (.ref p) fv))
   have D5:av za=none:=g1.ka V1 Kd
   have V4:bc av H1 av (upd H1 p (.lst [.ref a1])):=.d5 g1.sub hp
   have S0:dk X.K G st Hf H (.aO::tl):=S.weak ⟨rfl,fun i s' e n=>by
     cases i with
     | zero=>cases e;exact absurd rfl n
     | succ i=>exact e⟩
   have Ub:noOwn (.aO::tl)=true:=no
   have S2:dk X.K G st av H2 (.aO::tl):=nB ((S0.grow g1).grow V4) Ub D5 P9
   refine⟨av,S2,fun a2 iu H3 g3 n3 Z2 ⟨yz,LZ,RC⟩=>⟨Nat.le_of_ble_eq_true rfl,fun p2 u7=>?_⟩⟩
   have V5:H2 a2=none:=n3
   have Uc:H2 za=some (.ins C dx (eG n0 (.ref p) fv)):=ak
   have Ud:H2 p=some (.lst [.ref a1]):=by show(upd (upd H1 p _) za _) p=_;rw[ah (Ne.symm IU),ak]
   have Ue:H2 a1=some (.dK mq):=by show(upd (upd H1 p _) za _) a1=_;rw[ah (Ne.symm Mb),ah Sb];exact N3
   have XE:=g3.big _ _ Uc
   have XG:=g3.big _ _ Ud
   have XH:=g3.big _ _ Ue
   have Ke:za≠p2:=ax XE u7
   have OA:p≠p2:=ax XG u7
   have Mc:a1≠p2:=ax XH u7
   have Md:a2≠p2:=ax LZ u7
   have OB:za≠a2:=fun w=>by rw[w,V5] at Uc;cases Uc
   have V6:p≠a2:=fun w=>by rw[w,V5] at Ud;cases Ud
   have Sd:a1≠a2:=fun w=>by rw[w,V5] at Ue;cases Ue
   have V7:(upd H3 p2 (.lst [.ref a2])) za=some (.ins C dx (eG n0 (.ref p) fv)):=by rw[ah Ke];exact XE
   refine⟨_,hz,za,C,dx,_,rfl,V7,cl,VB,?_,?_⟩
   . have:=CD n0 (.ref p) fv
     have h9:=Nat.le_of_ble_eq_true hlen
     have:=rf.length
     omega
   let H4:Hp:=upd (upd H3 p2 (.lst [.ref a2])) za (.ins C dx (eG n1 (.ref p2) (eG n0 (.ref p) fv)))
   have V8:H4 p=some (.lst [.ref a1]):=by show(upd (upd H3 p2 _) za _) p=_;rw[ah (Ne.symm IU),ah OA];exact XG
   have V9:H4 p2=some (.lst [.ref a2]):=by show(upd (upd H3 p2 _) za _) p2=_;rw[ah (Ne.symm Ke),ak]
   have OC:H4 a1=some (.dK mq):=by show(upd (upd H3 p2 _) za _) a1=_;rw[ah (Ne.symm Mb),ah Mc];exact XH
   have Wa:H4 a2=some (.dK yz):=by show(upd (upd H3 p2 _) za _) a2=_;rw[ah (Ne.symm OB),ah Md];exact LZ
   have Wb:H4 za=some (.ins C dx (eG n1 (.ref p2) (eG n0 (.ref p) fv))):=ak
   have Wc:iu za=none:=g3.ka D5 Uc
   have Ug:iu p=none:=g3.ka (g1.sub.free hp) Ud
   have Wd:iu a1=none:=g3.ka Oz Ue
   have Se:iu p2=none:=g3.sub.free u7
   have xx:aF iu H4:=fun b o e=>by
     have b1:b≠za:=fun w=>by rw[w,Wc] at e;cases e
     have b2:b≠p2:=fun w=>by rw[w,Se] at e;cases e
     show(upd (upd H3 p2 _) za _) b=_
     rw[ah b1,ah b2];exact g3.sub _ _ e
   have S4:dk X.K G st iu H4 (.aO::tl):=nB ((S2.grow g3).grow (.d5 g3.sub u7)) Ub Wc P9
   have gp:G.H p=none:=S.gr.big.free (g1.big.free hp)
   have Sf:G.H a1=none:=S.gr.big.free Sa
   have XI:G.H p2=none:=S2.gr.big.free (g3.big.free u7)
   have XJ:G.H a2=none:=S2.gr.big.free n3
   have Sh:pZ iu mq (f 0):=oK (V2.mono g3.bh)
   have XM:pZ iu yz (g 0):=oK RC
   refine⟨p,p2,a1,a2,mq,yz,V8,V9,OC,Wa,fG (fun b u e _=>xx _ _ e) Sh,fG (fun b u e _=>xx _ _ e) XM,OA,Sd,fun o1 o2=>?_⟩
   let ls:je:=[(p,f),(p2,g)]
   let u1:HO:=.memo ls
   let u3:HO:=.kd (some (p,0)) o1 mq
   let u4:HO:=.kd (some (p2,0)) o2 yz
   have m1:p≠a1:=Ne.symm Sb
   have cat:∀ (B:Hp),conv B p p2 a1 a2 u1 (.part p) u3 u4 p=some u1/\conv B p p2 a1 a2 u1 (.part p) u3 u4 p2=some (.part p)/\conv B p p2 a1 a2 u1 (.part p) u3 u4 a1=some u3/\conv B p p2 a1 a2 u1 (.part p) u3 u4 a2=some u4:=fun B=>by
     unfold conv
     refine⟨?_,?_,?_,?_⟩
     . rw[ah V6,ah m1,ah OA,ak]
     . rw[ah (Ne.symm Md),ah (Ne.symm Mc),ak]
     . rw[ah Sd,ak]
     . rw[ak]
   have t7:∀ (B:Hp) b,b≠p->b≠p2->b≠a1->b≠a2->conv B p p2 a1 a2 u1 (.part p) u3 u4 b=B b:=fun B b c1 c2 c3 c4=>by unfold conv;rw[ah c4,ah c3,ah c2,ah c1]
   let r0:Hp:=conv iu p p2 a1 a2 u1 (.part p) u3 u4
   have EN:aF iu r0:=fun b o e=>by
     show conv iu p p2 a1 a2 u1 (.part p) u3 u4 b=some o
     rw[t7 iu b (fun w=>by rw[w,Ug] at e;cases e) (fun w=>by rw[w,Se] at e;cases e) (fun w=>by rw[w,Wd] at e;cases e) (fun w=>by rw[w,Z2] at e;cases e)]
     exact e
   have key:∀ (A B:Hp),aF A B->aF (conv A p p2 a1 a2 u1 (.part p) u3 u4) (conv B p p2 a1 a2 u1 (.part p) u3 u4):=fun A B sm=>cJ (cJ (cJ (cJ sm)))
   have OD:aF r0 (conv H4 p p2 a1 a2 u1 (.part p) u3 u4):=key _ _ xx
   have GG:aW X.K r0 (eG n1 (.ref p2) (eG n0 (.ref p) fv)) (qR fs [n0,n1] p ls 1):=by
     rw[<- Oy p ls]
     refine((rf.mono ((g1.bh.trans g3.bh).trans EN)).put (f:=n0) (d:=.memo p ls 0 1) ?_).put (f:=n1) (d:=.memo p ls 1 1) ?_
     . refine .memo (f:=f) rfl (cat iu).1 (.inl rfl) fun i hi=>?_
       have:i=0:=by omega
       subst this
       exact⟨a1,o1,mq,(cat iu).2.2.1,fG (fun b u e _=>EN _ _ e) Sh⟩
     . refine .memo (f:=g) rfl (cat iu).1 (.inr (cat iu).2.1) fun i hi=>?_
       have:i=0:=by omega
       subst this
       exact⟨a2,o2,yz,(cat iu).2.2.2,fG (fun b u e _=>EN _ _ e) XM⟩
   have We:conv H4 p p2 a1 a2 u1 (.part p) u3 u4 za=some (.ins C dx (eG n1 (.ref p2) (eG n0 (.ref p) fv))):=by rw[t7 H4 za IU Ke Mb OB];exact Wb
   have Wf:r0 za=none:=by show conv iu p p2 a1 a2 u1 (.part p) u3 u4 za=none;rw[t7 iu za IU Ke Mb OB];exact Wc
   refine k st r0 _ ((g1.bh.trans g3.bh).trans EN) ⟨⟨fun b o e=>?_,S4.gr.bh.trans EN,OD,fun b o e=>?_⟩,by have:=S4.len;simpa using this,fun i d h=>?_,fun i o h=>?_,fun i j o o' a w1 w2=>?_⟩
   . rw[t7 H4 b (fun w=>by rw[w,gp] at e;cases e) (fun w=>by rw[w,XI] at e;cases e) (fun w=>by rw[w,Sf] at e;cases e) (fun w=>by rw[w,XJ] at e;cases e)]
     exact S4.gr.big _ _ e
   . by_cases c1:b=p
     . rw[c1];exact .inr (.inl gp)
     . by_cases c2:b=p2
       . rw[c2];exact .inr (.inl XI)
       . by_cases c3:b=a1
         . rw[c3];exact .inr (.inl Sf)
         . by_cases c4:b=a2
           . rw[c4];exact .inr (.inl XJ)
           . have e:conv iu p p2 a1 a2 u1 (.part p) u3 u4 b=some o:=e
             rw[t7 iu b c1 c2 c3 c4] at e
             exact S4.gr.new b o e
   . cases i with
     | zero=>cases h
     | succ i=>
       obtain⟨w,w1,w2⟩:=S4.val (i+1) d h
       exact⟨w,w1,w2.mono EN⟩
   . cases i with
     | zero=>
       cases h
       exact⟨za,hz,Wf,P9,rfl,dx,_,p,ls,rfl,We,GG⟩
     | succ i=>exact absurd h (aQ no i o)
   . cases i with
     | zero=>cases j with
       | zero=>exact fun _ _=>rfl
       | succ j=>exact absurd w2 (aQ no j o')
     | succ i=>exact absurd w1 (aQ no i o)
 . cases fl with
   | next=>
     obtain⟨σ7,H7,I7,p,p2,a1,a2,mq,yz,y1,y2,y3,y4,y5,y6,y7,y8,kk⟩:=q7
     obtain⟨o1,o2,I8⟩:=Inv.Ot I7 y1 y2 y3 y4 y5 y6 y7 y8
     exact⟨σ7,_,I8,kk o1 o2⟩
   | cont=>exact q7
   | brk=>exact q7
   | ret v=>exact q7
end
section
variable {X:Cx}{G:Gr}{E:XK}{dl:List Slot}{a b e:Expr}{pos:Pos}{k:Str}
variable {d1 d2 d3 d4:Dt}
theorem Kf (n1 n2 n3 n4:Nat){a b c f:Str}{pa pb pc pf tp:Pos}{cx:Nat}(hN:X.N.Nodup)(hc:X.calm=true)(he:EE X G dl e (.tup [d1,d2,d3,d4]))(Rt:X.N[n1]?=some a:=by rfl)(Ru:X.N[n2]?=some b:=by rfl)(Z3:X.N[n3]?=some c:=by rfl)(Z4:X.N[n4]?=some f:=by rfl)(Rv:Loc X.env.scope a:=by first | exact Or.inl rfl | exact Or.inr rfl)(Nx:Loc X.env.scope b:=by first | exact Or.inl rfl | exact Or.inr rfl)(Z5:Loc X.env.scope c:=by first | exact Or.inl rfl | exact Or.inr rfl)(Z6:Loc X.env.scope f:=by first | exact Or.inl rfl | exact Or.inr rfl)(Rw:X.fn a=true\/X.env.scope.names.lookup a=some .local:=by first | exact .inl rfl | exact .inr rfl)(Rx:X.fn b=true\/X.env.scope.names.lookup b=some .local:=by first | exact .inl rfl | exact .inr rfl)(Z7:X.fn c=true\/X.env.scope.names.lookup c=some .local:=by first | exact .inl rfl | exact .inr rfl)(Z8:X.fn f=true\/X.env.scope.names.lookup f=some .local:=by first | exact .inl rfl | exact .inr rfl)(hn:(assignEach [.Name a pa,.Name b pb,.Name c pc,.Name f pf] X.env).length=4:=by rfl)(mB:(assignEach [.Name a pa,.Name b pb,.Name c pc,.Name f pf] X.env).findIdx? (·.1)=none:=by rfl)(q1:(assignEach [.Name a pa,.Name b pb,.Name c pc,.Name f pf] X.env).map (·.2)=assign (.Name a pa) X.env::(assignEach [.Name b pb,.Name c pc,.Name f pf] X.env).map (·.2):=by rfl)(q2:(assignEach [.Name b pb,.Name c pc,.Name f pf] X.env).map (·.2)=assign (.Name b pb) X.env::(assignEach [.Name c pc,.Name f pf] X.env).map (·.2):=by rfl)(q3:(assignEach [.Name c pc,.Name f pf] X.env).map (·.2)=assign (.Name c pc) X.env::(assignEach [.Name f pf] X.env).map (·.2):=by rfl)(q4:(assignEach [.Name f pf] X.env).map (·.2)=assign (.Name f pf) X.env::(assignEach [] X.env).map (·.2):=by rfl)(hs:swapsWithSole [.Tuple [.Name a pa,.Name b pb,.Name c pc,.Name f pf] cx tp] e pos.line X.env=pure false:=by rfl)(hw:swappedStores [.Tuple [.Name a pa,.Name b pb,.Name c pc,.Name f pf] cx tp] e X.env=pure none:=by rfl)(h1:(assignEach [.Tuple [.Name a pa,.Name b pb,.Name c pc,.Name f pf] cx tp] X.env).map (·.2)=[assign (.Tuple [.Name a pa,.Name b pb,.Name c pc,.Name f pf] cx tp) X.env]:=by rfl):ES X G E dl (.Assign [.Tuple [.Name a pa,.Name b pb,.Name c pc,.Name f pf] cx tp] e pos) (.nx ((((dl.set n1 (.val d1)).set n2 (.val d2)).set n3 (.val d3)).set n4 (.val d4))):=
 rb (wK he (sW hc (c6 (bD (pos:=pa) hN Rt Rv Rw) (c6 (bD (pos:=pb) hN Ru Nx Rx) (c6 (bD (pos:=pc) hN Z3 Z5 Z7) (c6 (bD (pos:=pf) hN Z4 Z6 Z8) nh q4) q3) q2) q1) hn mB) hs hw h1) fun D st H ⟨Hf,S,k⟩=>⟨Hf,S,fun v av H1 g1 r1=>by
   cases r1 with
   | @tup q vs _ hq rp=>
     cases rp with
     | cons r1 t1=>cases t1 with
       | cons r2 t2=>cases t2 with
         | cons r3 t3=>cases t3 with
           | cons r4 t4=>
             cases t4
             exact⟨q,_,rfl,fm g1.sub hq,rfl,_,_,rfl,_,_,rfl,_,_,rfl,_,_,rfl,rfl,k _ av H1 g1.bh (((((S.grow g1).set r1).set r2).set r3).set r4)⟩⟩
end
theorem gi:PySem.Slot "reversed" "__next__" "reversed.__next__":=
 .of (owner:="reversed") (n:="__next__") (by rw[typeLookup_type,builtinLookup_eq_fast];kernel_rfl) (by decide +kernel) (by decide +kernel) (by decide +kernel)
   (by first | exact .inl (by decide +kernel) | exact .inr (by decide +kernel)) (by rw[isSubtype_type];kernel_rfl)
theorem mT:entryFor table "reversed.__next__"=some Builtin.«reversed.__next__»:=entryFor_of_tree (by kernel_rfl)
theorem mv (a:Value):argsOk "reversed.__next__" ⟨[a],[]⟩:=by unfold argsOk;kernel_rfl
theorem om:PySem.Slot "reversed" "__iter__" "reversed.__iter__":=
 .of (owner:="reversed") (n:="__iter__") (by rw[typeLookup_type,builtinLookup_eq_fast];kernel_rfl) (by decide +kernel) (by decide +kernel) (by decide +kernel)
   (by first | exact .inl (by decide +kernel) | exact .inr (by decide +kernel)) (by rw[isSubtype_type];kernel_rfl)
theorem rm (a:Value):argsOk "reversed.__iter__" ⟨[a],[]⟩:=by unfold argsOk;kernel_rfl
theorem t8:entryFor table "reversed.__iter__"=some Builtin.«dict_keyiterator.__iter__»:=
 entryFor_alias (id':="dict_keyiterator.__iter__") (by kernel_rfl) (by first | rfl | decide +kernel | (unfold String.splitOn;simp +decide [String.splitOnAux])) (by decide +kernel) (by kernel_rfl)
theorem vf:PySem.Slot "reversed" "__init__" "object.__init__":=
 .of (owner:="object") (n:="__init__") (by rw[typeLookup_type,builtinLookup_eq_fast];kernel_rfl) (by decide +kernel) (by decide +kernel) (by decide +kernel)
   (by first | exact .inl (by decide +kernel) | exact .inr (by decide +kernel)) (by rw[isSubtype_type];kernel_rfl)
theorem Bo:TypeCalled "reversed" "reversed.__new__" "object.__init__":=
 ⟨by decide +kernel,by decide +kernel,⟨_,_,F.mro_reversed⟩,F.made_reversed,by decide +kernel,F.sub_reversed_self,vf⟩
theorem nZ:typeLookup (.type "str") "__reversed__"=pure none:=by rw[typeLookup_type,builtinLookup_eq_fast];kernel_rfl
theorem kf:typeLookup (.type "str") "__getitem__"=pure (some (.builtin "str.__getitem__")):=by rw[typeLookup_type,builtinLookup_eq_fast];kernel_rfl
theorem vg:isSubtype (.type "str") (.type "dict")=pure false:=by rw[isSubtype_type];kernel_rfl
section
variable {prog:Program}{w:World}{A:Around}{E:Value->Shared->Prop}{s:Shared}
def Me (x:Str)(t:Tok)(i:Int):Obj:={ cls:=.type "reversed",data:=.fields #[.str x t,rawInt i]}
def oN (h:Heap)(a:Addr)(x:Str)(t:Tok)(i:Int):Prop:=∃ o,h.get? a=some o/\o.cls=.type "reversed"/\o.data=.fields #[.str x t,rawInt i]
theorem oN.typeIs {a:Addr}{x:Str}{t:Tok}{i:Int}(q:oN s.heap a x t i):s.TypeIs (.ref a) "reversed":=let ⟨o,ho,hc,_⟩:=q;⟨o,ho,hc⟩
theorem GH (x:Str)(t:Tok)(tE:¬ (x.length:Int) >= 2 ^ 63):MeetsIn prog w (Builtin.«reversed.__new__» ⟨[.type "reversed",.str x t],[]⟩) (fun A R s=>R (.ok (.ret (.ref s.heap.objs.size))) { s with heap:=s.heap.push (Me x t ((x.length:Int) - 1)),toks:=s.toks+1+1}):=
 .of_wp fun A R s h=>by
   unfold Builtin.«reversed.__new__»
   refine wpAny_bind (wpAny_of_eq (newClass_reversed _) ?_)
   try dsimp only
   refine wpAny_bind (wpAny_of_eq (a:=()) (by first | rfl | kernel_rfl) ?_)
   refine wpAny_bind (wpAny_of_eq (a:=()) (by first | rfl | kernel_rfl) ?_)
   try dsimp only
   refine wpAny_bind (wpAny_specialOf (typeIs_str s x t) nZ ?_)
   try dsimp only
   refine wpAny_bind (wpAny_bind (wpAny_isInstance (typeIs_str s x t) vg ?_))
   rw[if_neg Bool.false_ne_true]
   refine wpAny_bind (wpAny_specialOf (typeIs_str s x t) kf ?_)
   refine wpAny_of_eq (a:=true) (by kernel_rfl) ?_
   rw[if_neg (show ¬ ((!true)=true) from Bool.false_ne_true)]
   try dsimp only
   refine wpAny_bind (len_str tE ?_)
   refine wpAny_bind (wpAny_of_eq (a:=some (x.length:Int)) rfl ?_)
   try dsimp only
   refine wpAny_bind ?_
   show wpAny _ _ (newObj (.type "reversed") (.fields #[.str x t,rawInt ((x.length:Int) - 1)])) _ _ _
   exact wpAny_newObj_type (wpAny_pure ⟨_,rfl,h⟩)
theorem D6 {x:Str}{t:Tok}{Q:Value->Shared->Prop}(tE:¬ (x.length:Int) >= 2 ^ 63)(h:Q (.ref s.heap.objs.size) { s with heap:=s.heap.push (Me x t ((x.length:Int) - 1)),toks:=s.toks+1+1}):wpAny (model prog w) A (call (.type "reversed") [.str x t]) Q E s:=
 callType_newIn Bo (by decide) (F.typeCall_reversed_1 _) (F.newCall_reversed_1 _) (fun obj=>F.args_object_init_2 obj _) F.entry_reversed_new (GH x t tE) ⟨⟨_,Heap.get?_push_size _ rfl,rfl⟩,h⟩
theorem qy {it:Addr}{x:Str}{t:Tok}{i c:Nat}{Q:Option Value->Shared->Prop}(hit:oN s.heap it x t (i:Int))(hx:x.cps[i]?=some c)(tE:¬ (x.length:Int) >= 2 ^ 63)(hQ:∀ h',oN h' it x t ((i:Int) - 1)->Heap.SameBut it s.heap h'->Q (some (.str ⟨#[c]⟩ (s.toks+1))) { s with heap:=h',toks:=s.toks+1+1}):wpAny (model prog w) A (pyNext (.ref it)) Q E s:=by
 obtain⟨o,ho,hc,hd⟩:=id hit
 have TR:i < x.length:=by
   have:=(Array.getElem?_eq_some_iff.mp hx).1
   exact this
 unfold pyNext
 refine wpAny_bind (wpAny_attempt (wpAny_callSpecial?_slot (name:=Str.ofString "__next__") hit.typeIs gi
   (wpAny_call_entry gi hit.typeIs mT ?_ (mv _))))
 unfold Builtin.«reversed.__next__»
 refine wpAny_bind (wpAny_of_eq (a:=(Value.ref it,[])) rfl ?_)
 try dsimp only
 refine wpAny_bind (wpAny_field ho hd (x:=.str x t) rfl ?_)
 refine wpAny_bind (wpAny_field ho hd (x:=rawInt (i:Int)) rfl ?_)
 show wpAny _ _ (if (i:Int) < 0 then _ else _) _ _ s
 rw[if_neg (by omega)]
 refine wpAny_bind (wpAny_specialOf (typeIs_str s x t) kf ?_)
 rw[if_neg (show ¬ ((some (Value.builtin "str.__getitem__")).isNone=true) from Bool.false_ne_true)]
 try dsimp only
 refine wpAny_bind (wpAny_mkInt ?_)
 refine wpAny_bind (wpAny_attempt (getItem_str (c:=c) ?_ ?_ ?_))
 . have e1:decide ((i:Int) < -(2 ^ 63:Int))=false:=decide_eq_false (by omega)
   have e2:decide ((i:Int) >= 2 ^ 63)=false:=decide_eq_false (by omega)
   rw[e1,e2];rfl
 . have e:seqIndex? (i:Int) x.length=some i:=by
     unfold seqIndex?
     simp
     omega
   rw[e];exact hx
 try dsimp only
 refine wpAny_bind (wpAny_field ho hd (x:=rawInt (i:Int)) rfl ?_)
 try dsimp only
 refine wpAny_bind (wpAny_setField ho hd (by simp) ?_)
 refine wpAny_pure ⟨_,rfl,wpAny_pure (hQ _ ?_ (Heap.SameBut.update ..))⟩
 exact⟨_,Heap.get?_update_self _ ho (Obj.isFreed_of_fields (Obj.data_mapFields hd _)),(Obj.cls_mapFields ..).trans hc,by
   rw[Obj.data_mapFields hd];simp⟩
theorem rq {it:Addr}{x:Str}{t:Tok}{Q:Option Value->Shared->Prop}(hh:A.handled=none)(hit:oN s.heap it x t (-1))(hQ:∀ h',Heap.ExtBut it s.heap h'->Q none { s with heap:=h'}):wpAny (model prog w) A (pyNext (.ref it)) Q E s:=by
 obtain⟨o,ho,hc,hd⟩:=id hit
 unfold pyNext
 refine wpAny_bind (wpAny_attempt (wpAny_callSpecial?_slot (name:=Str.ofString "__next__") hit.typeIs gi
   (wpAny_call_entry gi hit.typeIs mT ?_ (mv _))))
 unfold Builtin.«reversed.__next__»
 refine wpAny_bind (wpAny_of_eq (a:=(Value.ref it,[])) rfl ?_)
 try dsimp only
 refine wpAny_bind (wpAny_field ho hd (x:=.str x t) rfl ?_)
 refine wpAny_bind (wpAny_field ho hd (x:=rawInt (-1)) rfl ?_)
 show wpAny _ _ (if (-1:Int) < 0 then _ else _) _ _ s
 rw[if_pos (by decide)]
 refine wpAny_bind (wpAny_rule ?_)
 refine wpAny_bind (wpAny_bind (wpAny_setField ho hd (by simp) ?_))
 have Ua:=Heap.get?_update_self (Obj.mapFields (·.setIfInBounds 1 (rawInt (-1)))) ho (Obj.isFreed_of_fields (Obj.data_mapFields hd _))
 refine wpAny_setField Ua (Obj.data_mapFields hd _) (by simp) ?_
 refine wpAny_bind ?_
 show wpAny _ _ (newExc (.type "StopIteration") [] >>= _) _ _ _
 refine wpAny_bind ?_
 simp only[newExc,newTuple]
 refine wpAny_bind (wpAny_newObj_type ?_ (by size_fits))
 refine wpAny_bind (m:=firstArgMember _ _) (wpAny_of_eq (a:=Value.none) (by first | rfl | (simp only[firstArgMember];rfl)) ?_)
 refine wpAny_newObj_type ?_ (by size_fits)
 simp only[raiseNew]
 refine wpAny_bind (wpAny_handled ?_)
 first | rw[show A.in1.handled=none from hh] | rw[hh]
 refine wpAny_bind (wpAny_pure (wpAny_throw ?_))
 refine wpAny_bind (wpAny_isInstance (T:="StopIteration") (b:=true) ⟨_,Heap.get?_push_size _ rfl,rfl⟩ isSubtype_stop ?_)
 exact wpAny_pure (hQ _ (Heap.ExtBut.push (Heap.ExtBut.push (fun b o ne e=>((Heap.SameBut.update ..).2 b ne).trans (((Heap.SameBut.update ..).2 b ne).trans e)) _) _))
theorem qU {it:Addr}{x:Str}{t:Tok}{i:Int}{Q:Value->Shared->Prop}(hit:oN s.heap it x t i)(h:Q (.ref it) s):wpAny (model prog w) A (pyIter (.ref it)) Q E s:=by
 refine wpAny_pyIter_slot hit.typeIs om (wpAny_call_entry om hit.typeIs t8 ?_ (rm _))
 show wpAny _ _ (ret (.ref it)) _ _ s
 exact wpAny_pure ⟨_,rfl,"reversed",_,hit.typeIs,gi.lookup,h⟩
end
def Si (x:Str):It:=
 ⟨fun i H=>i < x.length,fun i H v H'=>H'=H/\∃ c,x.cps[x.length - 1 - i]?=some c/\v=.str ⟨#[c]⟩,fun i H=>i=x.length⟩
theorem D7 {P:Program}{w:World}{K:W.Frag}{tg:Expr}(x:Str)(t:Tok)(it:Addr)(tE:¬ (x.length:Int) >= 2 ^ 63):Turn P w K tg (Si x) [it] it (fun i h=>oN h it x t ((x.length:Int) - 1 - i)) where
 mem:=by simp
 obj:=fun i h st b hb=>by
   have e:b=it:=by simpa using hb
   subst e
   obtain⟨o,e,c,d⟩:=st
   exact⟨o,e,fun v z=>by rw[d] at z;cases z⟩
 keep:=fun i h h' st k=>let ⟨o,e,c,d⟩:=st;⟨o,k it (by simp) o e,c,d⟩
 item:=by
   intro X hP hw hK hc i pins s σ H E I hf st hg
   subst hP hw hK
   have hg:i < x.length:=hg
   obtain⟨f0,f1,f2,f3,f4,f5⟩:=hf it (by simp)
   have e1:(x.length:Int) - 1 - i=((x.length - 1 - i:Nat):Int):=by omega
   rw[e1] at st
   have cS:x.length - 1 - i < x.cps.size:=by show _ < x.length;omega
   refine qy (c:=x.cps[x.length - 1 - i]) st (Array.getElem?_eq_getElem cS) tE fun h' ju sb=>?_
   have I1:L2.Inv X pins σ H { s with heap:=h',toks:=s.toks+1+1}:=I.turned (t':=s.toks+1+1) (fun b o hb e=>(sb.2 b hb).trans e) f0 f1 f3 f4 f5
   have e2:((x.length - 1 - i:Nat):Int) - 1=(x.length:Int) - 1 - ((i+1:Nat):Int):=by omega
   rw[e2] at ju
   obtain⟨o,e,c,d⟩:=id ju
   exact⟨_,rfl,BZ (s:={ s with heap:=h',toks:=s.toks+1+1}) e c d (by decide) ⟨.str ⟨#[x.cps[x.length - 1 - i]]⟩,H,I1,⟨_,rfl⟩,⟨rfl,_,Array.getElem?_eq_getElem cS,rfl⟩,ju,fun b hb=>(hf b hb).1⟩⟩
 done:=by
   intro X hP hw hK hc i pins s σ H E I hf st hg
   subst hP hw hK
   have hg:i=x.length:=hg
   subst hg
   obtain⟨f0,f1,f2,f3,f4,f5⟩:=hf it (by simp)
   have e1:(x.length:Int) - 1 - (x.length:Nat)=-1:=by omega
   rw[e1] at st
   exact rq (I.ok.hd hc) st fun h' eb=>⟨rfl,I.turned (t':=s.toks) (fun b o hb e=>eb b o hb e) f0 f1 f3 f4 f5⟩
 self:=fun _ _ _ _ _ st h=>qU st h
theorem GI:bootBuiltins "reversed"=some (.type "reversed"):=by decide +kernel
section
variable {X:Cx}{G:Gr}{dl:List Slot}{a:Expr}{x:Str}{p pos:Pos}
def Mf (ta:TA):TI:=fun σ H R=>ta σ H fun vs H1=>∃ x,vs=[.str x]/\(¬ (x.length:Int) >= 2 ^ 63)/\R (Si x) H1
theorem Kg {tg:Expr}{ta:TA}(hm:X.mg "reversed"=none)(ha:PA X [a] ta)(hg:Gl X "reversed":=by rfl)(hs:starEach [a] X.env=[(false,eval a X.env)]:=by rfl):PI X tg (.Call (.Name "reversed" p) [a] [] pos) (Mf ta):=by
 intro pins s σ H R I h
 refine Call_ (oE I hg hm GI (PyProof.Rows.callWith_type1 (bK (ha pos pins s σ H _ I h) fun us s1 ⟨vs,H1,I1,r1,q1⟩=>?_) hs rfl))
 obtain⟨x,e,tE,q⟩:=q1
 subst e
 cases r1 with
 | cons r rr=>
   cases rr
   obtain⟨t,rfl⟩:=(show ∃ t,_=Value.str x t from r)
   refine D6 tE (qU (x:=x) (t:=t) (i:=(x.length:Int) - 1) ⟨_,Heap.get?_push_size _ rfl,rfl,rfl⟩ ?_)
   refine⟨s1.heap.objs.size,[s1.heap.objs.size],_,_,H1,rfl,I1.kept (t':=s1.toks+1+1) fun b o e=>Heap.get?_push_of_some _ e,D7 x t _ tE,?_,fun b hb=>?_,q⟩
   . have e:((x.length:Int) - 1)=(x.length:Int) - 1 - ((0:Nat):Int):=by omega
     rw[<- e]
     exact⟨_,Heap.get?_push_size _ rfl,rfl,rfl⟩
   . have e:b=s1.heap.objs.size:=by simpa using hb
     subst e
     exact I1.u5 (Nat.le_refl _) (I1.aZ.fresh (Nat.le_refl _))
theorem D8 (hl:x.length<=1000000):rh X G dl (signs x).reverse (Mf (Q0 X.K G dl [.str x])):=fun st H R ⟨Hf,S,k⟩=>⟨Hf,S,fun vs av H1 g1 r1=>by
 cases r1 with
 | cons r t=>
   cases t
   cases r
   have XO:=nA x
   refine⟨x,rfl,by omega,k _ av H1 g1 fun bW H2 s1 s2 i=>⟨fun z hz=>?_,fun hi=>?_⟩⟩
   . have hi:i < (signs x).length:=by
       have:=(List.getElem?_eq_some_iff.mp hz).1
       simpa using this
     rw[List.getElem?_reverse hi,signs_get,XO] at hz
     refine⟨by show i < x.length;omega,fun v H3 hy=>?_⟩
     obtain⟨e1,c,e2,e3⟩:=hy
     subst e1 e3
     rw[e2] at hz
     cases hz
     exact⟨bW,.refl s2,.str _⟩
   . show i=x.length
     rw[hi,List.length_reverse,XO]⟩
theorem v9 {K:W.Frag}{H:Hp}:∀ {ds:List Dt} {d:Dt} {vs:List V},bg K H vs (ds ++ [d])->∃ ws v,vs=ws ++ [v]/\bg K H ws ds/\Rep K H v d
 | [],d,_,.cons r .nil=>⟨[],_,rfl,.nil,r⟩
 | e::ds,d,_,.cons r t=>by
   obtain⟨ws,v,e1,r1,r2⟩:=v9 t
   exact⟨_::ws,v,by rw[e1];rfl,.cons r r1,r2⟩
variable {E:XK}{d:Dt}{ds:List Dt}{y z:Str}{px pn apos bP:Pos}
theorem OE (m n:Nat)(hN:X.N.Nodup)(hd:dl[n]?=some (.own (.lst (ds ++ [d]))))(hm:X.N[m]?=some y:=by rfl)(hy:Loc X.env.scope y:=by first | exact Or.inl rfl | exact Or.inr rfl)(Vj:X.N[n]?=some z:=by rfl)(hv:sU X.env.scope z:=by first | exact Or.inl rfl | exact Or.inr (Or.inl rfl) | exact Or.inr (Or.inr rfl))(lG:(z == ("__debug__":Str))=false:=by decide)(k7:(z == ("__classdict__":Str))=false:=by decide)(i4:attributeBase (.Name z pn) "pop" X.env (eval (.Name z pn) X.env)=eval (.Name z pn) X.env:=by rfl)(i5:(apos.endLine == bP.line)=true:=by rfl)(hs:swapsWith (.Call (.Attribute (.Name z pn) "pop" apos) [] [] bP) (some (.Name y px)) pos.line X.env=pure false:=by rfl)(hf:X.fn y=true\/X.env.scope.names.lookup y=some .local:=by first | exact .inl rfl | exact .inr rfl | assumption):ES X G E dl (.Assign [.Name y px] (.Call (.Attribute (.Name z pn) "pop" apos) [] [] bP) pos) (.nx ((dl.set n (.own (.lst ds))).set m (.val d))):=
 rb (AF hN hm hy (Fj PySem.F.plainAttrs_list PySem.F.slot_list_pop PySem.F.type_list_pop Nm (tQ (G:=G) (p:=pn) n hd Vj hv lG k7) i4 i5) hs hf) fun D st H ⟨Hf,S,k⟩=>by
   obtain⟨q,z1,z2,z3,vs,hq,rp⟩:=S.own n _ hd
   obtain⟨ws,v,ev,r1,r2⟩:=v9 rp
   subst ev
   refine⟨Hf,q,S,z1,z2,⟨_,hq,rp⟩,.inl ⟨rfl,_,.of hq⟩,q,_,v,rfl,rfl,hq,by simp,k _ Hf _ (aF.refl _) ((S.DG hd z1 (w':=.lst ds) ⟨_,ak,?_⟩).set r2)⟩
   rw[List.dropLast_concat];exact r1
end
section
variable {X:Cx}{G:Gr}{dl:List Slot}{a b e:Expr}{pos p:Pos}{ns ns':List Int}
theorem k9:∀ {ns:List Int} {aD:List Value},Vals (ns.map V.int) aD->IntsAre aD ns
 | [],_,r=>by cases r;exact .nil
 | n::ns,_,r=>by
   cases r with
   | cons h t=>obtain⟨tk,rfl⟩:=h;exact .cons _ tk (k9 t)
theorem qz:∀ {ns:List Int} {aD:List Value},IntsAre aD ns->Vals (ns.map V.int) aD
 | [],_,r=>by cases r;exact .nil
 | n::ns,_,r=>by
   cases r with
   | cons n tk t=>exact .cons ⟨_,rfl⟩ (qz t)
theorem xA:jv X (.builtin "sorted") (fun xs H Q=>∃ (p:Addr) (ns ns':List Int),xs=[.ref p]/\lI X.K H p (ns.map V.int)/\ns.length < 64/\ns'.Perm ns/\ns'.Pairwise (·<=·)/\∀ l,H l=none->Q (.ref l) (upd H l (.lst (ns'.map V.int)))):=by
 intro pins s σ H xs us Q I r h
 obtain⟨p,ns,ns',rfl,hq,XQ,hp,ho,q⟩:=h
 obtain⟨u,rfl,rx⟩:=vals1 r
 cases rx
 obtain⟨aD,rv,pl,hz⟩:=I.list hq
 have hlen:=rv.length
 rw[List.length_map] at hlen
 refine sorted_ints (vs:=aD) pl.isList (k9 rv) (by omega) fun out Wg a1 a2 a3=>?_
 have e:Wg=ns':=W.ksm_same (a2.trans hp.symm) a3 ho
 subst e
 obtain⟨c,hc⟩:=sortedAll_at s.heap aD out
 have LH:=(qz a1).length
 rw[List.length_map] at LH
 have hl3:=hp.length_eq
 refine⟨.ref (s.heap.objs.size+1),_,I.laid (t':=s.toks) (fun b o=>sortedAll_old) (Nat.le_succ _) (show aJ X.prog X.w _ (sortedAll s.heap aD out) _ (.lst (Wg.map V.int)) from⟨?_,out.toList,c,qz a1,?_⟩),rfl,q _ (I.aZ.fresh (Nat.le_succ _))⟩
 . rw[List.length_map];exact Nat.le_trans (show Wg.length<=64 by omega) (by decide)
 . exact hc
theorem boot_sorted:bootBuiltins "sorted"=some (.builtin "sorted"):=by decide +kernel
theorem wb {K:W.Frag}{H:Hp}:∀ ns:List Int,bg K H (ns.map V.int) (ns.map Dt.int)
 | []=>.nil
 | n::ns=>.cons (.int n) (wb ns)
theorem D9 (hm:X.mg "sorted"=none)(ha:EE X G dl a (.lst (ns.map .int)))(XQ:ns.length < 64)(hp:ns'.Perm ns)(ho:ns'.Pairwise (·<=·))(hg:Gl X "sorted":=by rfl)(he:starEach [a] X.env=[(false,eval a X.env)]:=by rfl):EO X G dl (.Call (.Name "sorted" p) [a] [] pos) (.lst (ns'.map .int)):=
 gd (fk xA hg hm boot_sorted (ae ha aj he) (by decide) (by decide) he rfl) fun st H Q ⟨Hf,S,k⟩=>⟨Hf,S,fun vs av H1 g1 r1=>by
   cases r1 with
   | cons r t=>cases t;cases r with
     | @lst q vs _ z r=>
       have ev:=oJ r
       subst ev
       exact⟨q,ns,ns',rfl,.of (g1.sub _ _ z),XQ,hp,ho,fun l hl=>k l av _ (g1.trans (.d5 g1.sub hl)) (g1.big.free hl) (g1.sub.free hl) ⟨_,ak,wb ns'⟩⟩⟩
end
theorem wc {K:W.Frag}{H:Hp}:∀ (ns:List Int),bg K H (ns.map V.int) (ns.map Dt.int)
 | []=>.nil
 | n::r=>.cons (.int n) (wc r)
theorem pJ {K:W.Frag}{H:Hp}:∀ {ns:List Int} {vs:List V},bg K H vs (ns.map Dt.int)->vs=ns.map V.int
 | [],_,.nil=>rfl
 | n::r,_,.cons h t=>by cases h;rw[pJ t];rfl
def ER (fs:List (Str×FD)):List (Str×Dt):=fs.map fun kd=>(kd.1,TZ kd.2)
theorem CF {K:W.Frag}{H:Hp}:∀ {fv:List (Str×V)} {fs:List (Str×FD)},EV H fv fs->aW K H fv (ER fs)
 | _,_,.nil=>.nil
 | _,_,.cons h t=>.cons (Gv h) (CF t)
theorem GJ {K:W.Frag}{H:Hp}:∀ {fv:List (Str×V)} {fs:List (Str×FD)},aW K H fv (ER fs)->EV H fv fs
 | _,[],.nil=>.nil
 | _,(k,d)::fd,.cons h t=>.cons (L6 h) (GJ t)
section
variable {X:Cx}{G:Gr}{E:XK}{dl:List Slot}{e:Expr}{sts:List Stmt}{ou:Out}{C:Addr}{fs:List (Str×FD)}{ns:List Int}{K':W.Frag}
theorem Mg (h:EE X G dl e (.gU (.obj C fs))):EE X G dl e (.obj C (ER fs)):=gd h fun st H Q ⟨Hf,S,k⟩=>⟨Hf,S,fun v av H1 g1 r1=>by
 cases r1 with
 | gU h=>cases h with
   | @obj a _ dx o fv _ e f=>exact k _ av H1 g1 (.obj (.inr (.inr (.inr ⟨o,e⟩))) (CF f))⟩
theorem oO (h:EE X G dl e (.gU (.lst ns))):EE X G dl e (.nv ns):=gd h fun st H Q ⟨Hf,S,k⟩=>⟨Hf,S,fun v av H1 g1 r1=>by
 cases r1 with
 | gU h=>cases h with
   | @lst a o _ e=>exact k _ av H1 g1 (.nv (.inl (.inr (.inr (.inr ⟨o,e⟩)))))⟩
theorem OF (h:EE X G dl e (.gU (.tup K' ns)))(hK:K'=X.K):EE X G dl e (.tup (ns.map .int)):=gd h fun st H Q ⟨Hf,S,k⟩=>⟨Hf,S,fun v av H1 g1 r1=>by
 subst hK
 cases r1 with
 | gU h=>cases h with
   | tup e=>exact k _ av H1 g1 (.tup e (wc _))⟩
theorem OG (h:EE X G dl e (.tup (ns.map .int)))(hK:K'=X.K):EE X G dl e (.gU (.tup K' ns)):=gd h fun st H Q ⟨Hf,S,k⟩=>⟨Hf,S,fun v av H1 g1 r1=>by
 subst hK
 cases r1 with
 | tup s r=>
   rw[pJ r] at s
   exact k _ av H1 g1 (.gU (.tup s))⟩
theorem GK (h:EO X G dl e (.obj C (ER fs))):EE X G dl e (.gU (.obj C fs)):=by
 intro pins s st H Q I ⟨Hf,S,kk⟩
 refine bK (h pins s st H (fun v H'=>∃ p aH,v=.ref p/\bc Hf H aH H'/\H p=none/\aH p=none/\gc X.K aH H' p (.obj C (ER fs))) I ⟨Hf,S,fun p aH H' g n n' r=>⟨p,aH,rfl,g,n,n',r⟩⟩) fun u s1 ⟨v,H',I1,rv,q,aH,ev,g,n,n',dx,fv,hq,rp⟩=>?_
 subst ev
 obtain⟨hd,hz,ne,ho,mA,hr⟩:=(show aJ X.prog X.w H' s1.heap q (.ins C dx fv) from I1.aZ q _ hq)
 let ob:=W.instObj C dx
 have I2:L2.Inv X pins st (upd H' q (.kx ob (.ins C dx fv))) s1:=lL (h':=s1.heap) (t':=s1.toks) I1 (by rw[hq];trivial) ⟨rfl,fun _ _=>rfl⟩ ⟨ob,ho⟩ ⟨ho,⟨by rw[ah ne];exact hd,hz,ne,ho,mA,hr⟩⟩
 have sm:aF aH (upd aH q (.kx ob (.ins C dx fv))):=bB n'
 refine⟨.ref q,_,I2,rv,kk _ (upd aH q (.kx ob (.ins C dx fv))) _ ⟨fun b o hb=>?_,g.bh.trans sm,cJ g.sub,fun b o hb=>?_⟩ (.gU (.obj ak ((GJ rp).st fun b u e _=>sm b u e)))⟩
 . rw[ah (ax hb n)];exact g.big _ _ hb
 . by_cases e:b=q
   . subst e;exact .inr (.inl n)
   . rw[ah e] at hb;exact g.new b o hb
theorem OH (h:EO X G dl e (.lst (ns.map .int))):EE X G dl e (.gU (.lst ns)):=by
 intro pins s st H Q I ⟨Hf,S,kk⟩
 refine bK (h pins s st H (fun v H'=>∃ p aH,v=.ref p/\bc Hf H aH H'/\H p=none/\aH p=none/\gc X.K aH H' p (.lst (ns.map .int))) I ⟨Hf,S,fun p aH H' g n n' r=>⟨p,aH,rfl,g,n,n',r⟩⟩) fun u s1 ⟨v,H',I1,rv,q,aH,ev,g,n,n',vs,hq,rp⟩=>?_
 subst ev
 have ev:=pJ rp
 subst ev
 obtain⟨hz,aD,c,r,ho⟩:=(show aJ X.prog X.w H' s1.heap q (.lst (ns.map V.int)) from I1.aZ q _ hq)
 let ob:Obj:={ cls:=.type "list",data:=.seq aD.toArray c}
 have I2:L2.Inv X pins st (upd H' q (.kx ob (.lst (ns.map V.int)))) s1:=lL (h':=s1.heap) (t':=s1.toks) I1 (by rw[hq];trivial) ⟨rfl,fun _ _=>rfl⟩ ⟨ob,ho⟩ ⟨ho,hz,aD,c,r,ho⟩
 have sm:aF aH (upd aH q (.kx ob (.lst (ns.map V.int)))):=bB n'
 refine⟨.ref q,_,I2,rv,kk _ (upd aH q (.kx ob (.lst (ns.map V.int)))) _ ⟨fun b o hb=>?_,g.bh.trans sm,cJ g.sub,fun b o hb=>?_⟩ (.gU (.lst ak))⟩
 . rw[ah (ax hb n)];exact g.big _ _ hb
 . by_cases e:b=q
   . subst e;exact .inr (.inl n)
   . rw[ah e] at hb;exact g.new b o hb
theorem se (n:Nat)(h:lM X G E (dl.set n (.val (.gU (.lst ns)))) sts ou)(hd:dl[n]?=some (.own (.lst (ns.map .int))):=by rfl):lM X G E dl sts ou:=by
 intro pins s st H D I ⟨Hf,S,k⟩
 have ln:=S.len
 obtain⟨q,h1,h2,h3,vs,h4,h5⟩:=S.own n _ hd
 have ev:=pJ h5
 subst ev
 have hl:n < dl.length:=(List.getElem?_eq_some_iff.mp hd).1
 obtain⟨hz,aD,c,r,ho⟩:=(show aJ X.prog X.w H s.heap q (.lst (ns.map V.int)) from I.aZ q _ h4)
 let ob:Obj:={ cls:=.type "list",data:=.seq aD.toArray c}
 have I':L2.Inv X pins st (upd H q (.kx ob (.lst (ns.map V.int)))) s:=lL (h':=s.heap) (t':=s.toks) I (by rw[h4];trivial) ⟨rfl,fun _ _=>rfl⟩ ⟨ob,ho⟩ ⟨ho,hz,aD,c,r,ho⟩
 have sm:aF Hf (upd Hf q (.kx ob (.lst (ns.map V.int)))):=bB h2
 refine h pins s st _ D I' ⟨upd Hf q (.kx ob (.lst (ns.map V.int))),⟨⟨fun b o hb=>?_,S.gr.bh.trans sm,cJ S.sub,fun c o hc=>?_⟩,by simp[S.len],fun j y hj=>?_,fun j o' hj=>?_,fun j m o1 o2 c q1 q2 q3 q4=>?_⟩,k.mono sm⟩
 . rw[ah (ax hb h3)];exact S.gr.big _ _ hb
 . by_cases hb:c=q
   . subst hb;exact .inr (.inl h3)
   . rw[ah hb] at hc;exact S.gr.new c o hc
 . by_cases e:n=j
   . subst e
     rw[List.getElem?_set_self hl] at hj;cases hj
     exact⟨_,h1,.gU (.lst ak)⟩
   . rw[List.getElem?_set_ne e] at hj
     obtain⟨v,z1,z2⟩:=S.val j y hj
     exact⟨v,z1,z2.mono sm⟩
 . by_cases e:n=j
   . subst e;rw[List.getElem?_set_self hl] at hj;cases hj
   . rw[List.getElem?_set_ne e] at hj
     obtain⟨c,z1,z2,z3,z4⟩:=S.own j o' hj
     have ne:c≠q:=fun z=>by subst z;exact e (S.DF n j _ _ _ hd hj h1 z1)
     exact⟨c,z1,by rw[ah ne];exact z2,z3,z4.grow (ah ne) sm⟩
 . have nj:n≠j:=fun e=>by subst e;rw[List.getElem?_set_self hl] at q1;cases q1
   have nm:n≠m:=fun e=>by subst e;rw[List.getElem?_set_self hl] at q2;cases q2
   rw[List.getElem?_set_ne nj] at q1
   rw[List.getElem?_set_ne nm] at q2
   exact S.DF j m o1 o2 c q1 q2 q3 q4
theorem Kh {zs:List Int}:FT X G dl zs.length (fun k=>(zs.map Dt.int).getD k .cL) (E4 X.K (tD X.K G dl (.nv zs))):=fun st H R ⟨Hf,S,k⟩=>⟨Hf,S,fun v av H1 g1 r1=>by
 cases r1 with
 | @nv q _ hq=>
   refine⟨q,rfl,⟨_,g1.sub.seq hq⟩,k _ av H1 g1 fun bW H2 g2 i=>⟨fun hi=>?_,fun hi=>⟨_,g2.big.seq (g1.sub.seq hq),by rw[List.length_map];omega⟩⟩⟩
   have hs:lI X.K H2 q (zs.map V.int):=g2.big.seq (g1.sub.seq hq)
   have z1:(zs.map V.int)[i]?=some (.int zs[i]):=by rw[List.getElem?_map,List.getElem?_eq_getElem hi];rfl
   refine⟨⟨_,_,hs,z1⟩,fun v H3 hy=>?_⟩
   obtain⟨e1,e2⟩:=hy
   have e2:=e2 _ hs
   rw[z1] at e2;cases e2
   refine⟨e1,?_⟩
   have e3:(zs.map Dt.int).getD i .cL=.int zs[i]:=by rw[List.getD_eq_getElem?_getD,List.getElem?_map,List.getElem?_eq_getElem hi];rfl
   show Rep _ _ _ ((zs.map Dt.int).getD i .cL)
   rw[e3];exact .int _⟩
theorem zM {x:Str}{p pos:Pos}(M:NH X.K C)(hm:X.mg x=some (.ref C))(hg:Gl X x:=by rfl)(lG:(x == ("__debug__":Str))=false:=by decide):EE X G dl (.Call (.Name x p) [] [] pos) (.gU (.obj C [])):=by
 refine GK (fs:=[]) ?_
 intro pins s st H Q I ⟨Hf,S,k⟩
 refine wpAny_Call_Name_kw (rR I hg hm ?_ lG)
 refine W.callWith_K0 I.lH M.kp (DJ M I fun x dx hx Rn ne=>?_)
 have EK:(upd H dx (.own x)) x=none:=by rw[ah (Ne.symm ne)];exact hx
 have g1:bc Hf H Hf (upd H dx (.own x)):=.d5 S.sub Rn
 have g2:bc Hf (upd H dx (.own x)) Hf (upd (upd H dx (.own x)) x (.ins C dx [])):=.d5 g1.sub EK
 exact k _ _ _ (g1.trans g2) hx (S.sub.free hx) ⟨dx,[],ak,.nil⟩
end
def gX (H:Hp)(p q1:Addr)(u1 u3:HO):Hp:=upd (upd H p u1) q1 u3
section
variable {X:Cx}{pins:List (Addr×Obj)}{σ:L2.St}{H:Hp}{s:Shared}{p q1:Addr}{mq:List (Key×V)}{f:Nat->List (Key×FD)}
theorem Inv.Ki (I:L2.Inv X pins σ H s)(hp:H p=some (.lst [.ref q1]))(IT:H q1=some (.dK mq))(f1:pZ H mq (f 0)):∃ o1,L2.Inv X pins σ (gX H p q1 (.memo [(p,f)]) (.kd (some (p,0)) o1 mq)) s:=by
 obtain⟨z1,i1,c1,r1,e1⟩:=(show aJ X.prog X.w H s.heap p (.lst [.ref q1]) from I.aZ p _ hp)
 obtain⟨Kb,lo1,VT,VU,o1,VV,VW,R7,P8⟩:=(show aJ X.prog X.w H s.heap q1 (.dK mq) from I.aZ q1 _ IT)
 obtain⟨u1,rfl,w1⟩:=vals1 r1
 cases (show u1=Value.ref q1 from w1)
 refine⟨o1,?_⟩
 have m1:p≠q1:=fun z=>by rw[z,IT] at hp;cases hp
 generalize Kc:gX H p q1 (.memo [(p,f)]) (.kd (some (p,0)) o1 mq)=H'
 have R8:H' p=some (.memo [(p,f)]):=by rw[<- Kc];unfold gX;rw[ah m1,ak]
 have GD:H' q1=some (.kd (some (p,0)) o1 mq):=by rw[<- Kc];unfold gX;rw[ak]
 have Bj:∀ b,b≠p->b≠q1->H' b=H b:=fun b a1 a3=>by rw[<- Kc];unfold gX;rw[ah a3,ah a1]
 have rj:∀ b o,H b=some o->XD o=false->H' b=some o:=fun b o e n=>by
   rw[Bj b (fun z=>by rw[z,hp] at e;cases e;cases n) (fun z=>by rw[z,IT] at e;cases e;cases n)]
   exact e
 have kp:Kp H H':=⟨fun b o e kq=>rj b _ e (by cases o <;> first | rfl | exact(show False from kq).elim),fun b e=>by
   cases q:H b with
   | none=>rw[q] at e;exact e.elim
   | some u=>
     rw[q] at e
     rw[rj b u q (by cases u <;> first | rfl | exact e.elim)]
     exact e,fun b x e=>rj b _ e rfl⟩
 refine I.un (h':=s.heap) (t':=s.toks) ⟨fun b o e _ _ _=>e,fun b o e _ _ _=>⟨o.slots,e⟩,fun b o e n _=>?_,fun b o e _=>⟨o,e⟩,fun b xs e=>rj b _ e rfl,fun b o u e=>rj b _ e rfl,fun b ps e=>⟨#[],by rw[rj b _ e rfl];simp⟩⟩ fun b u e=>?_
 . rw[Bj b (fun z=>by rw[z,hp] at n;cases n) (fun z=>by rw[z,IT] at n;cases n)]
   exact n
 . by_cases b1:b=p
   . subst b1
     rw[R8] at e;cases e
     refine⟨⟨_,e1⟩,1,by decide,⟨f,rfl⟩,rfl,fun j a h hj=>?_,by simp,fun n hn=>by rw[List.mem_replicate] at hn;omega,fun j a h n hj hn=>?_⟩
     . match j,hj with
       | 0,hj=>cases hj;exact .inl rfl
     . match j,hj,hn with
       | 0,hj,hn=>
         cases hj;cases hn
         refine⟨_,_,e1,rfl,fun i hi=>?_⟩
         have:i=0:=by omega
         subst this
         exact⟨q1,o1,mq,rfl,GD,f1.kp kp⟩
   . by_cases b3:b=q1
     . subst b3;rw[GD] at e;cases e
       refine⟨R7,⟨Kb,lo1,VT,VU,o1,VV,VW,R7,P8⟩,fun a i ht=>?_⟩
       cases ht
       exact⟨by rw[R8];trivial,_,_,e1,rfl⟩
     . rw[Bj b b1 b3] at e
       exact(I.aZ b u e).wG (fun _ _ _ q=>q) (fun c q=>rj c _ q rfl) (fun c xs q=>rj c _ q rfl) kp
end
section
variable {X:Cx}{G:Gr}{E:XK}{e1:Expr}{fs:List (Str×Dt)}{z C:Addr}{tl:List Slot}{f:Nat->List (Key×FD)}{n0 x0:Str}{Ov Ow Ox q1:Pos}
theorem vh (no:noOwn tl=true)(cl:rV X.K C)(Oh:bu X.K C n0)(V0:EO X G (.own (.zg z C fs)::tl) e1 (.d0 (mD (f 0))))(Oy:∀ p ls,putD n0 (.memo p ls 0 1) fs=qR fs [n0] p ls 1:=by intro _ _;rfl)(hlen:Nat.ble fs.length 990=true:=by rfl)(hN:X.N[0]?=some x0:=by rfl)(hv:sU X.env.scope x0:=by first | exact Or.inl rfl | exact Or.inr (Or.inl rfl) | exact Or.inr (Or.inr rfl))(lG:(x0 == ("__debug__":Str))=false:=by decide)(k7:(x0 == ("__classdict__":Str))=false:=by decide)(xw:starEach [e1] X.env=[(false,eval e1 X.env)]:=by rfl)(EH:swapsWith (.List [e1] Ox) (some (.Attribute (.Name x0 Ov) n0 Ow)) q1.line X.env=pure false:=by rfl):lM X G E (.own (.zg z C fs)::tl) [.Assign [.Attribute (.Name x0 Ov) n0 Ow] (.List [e1] Ox) q1] (.nx (.own (.wZ z C fs [f] [n0] 1)::tl)):=by
 intro pins s st H D I ⟨Hf,S,k⟩
 have base:=lJ (sZ (pos:=q1) (pos':=Ow) (iy (pos:=Ov) hN hv lG k7) (tf (pos:=Ox) (kE V0 mM xw)) EH)
 let RQ:L2.St->Hp->Prop:=fun ju H'=>∃ p a1 mq,H' p=some (.lst [.ref a1])/\H' a1=some (.dK mq)/\pZ H' mq (f 0)/\∀ o1,D.nx ju (gX H' p a1 (.memo [(p,f)]) (.kd (some (p,0)) o1 mq))
 refine bK (base pins s st H { D with nx:=RQ} I ?_) fun fl s7 q7=>?_
 . obtain⟨za,hz,V1,P9,ez,dx,fv,Kd,rf⟩:=S.own 0 _ rfl
   subst ez
   refine⟨Hf,S,fun a1 av H1 g1 Sa Oz ⟨mq,N3,V2⟩=>⟨Nat.le_of_ble_eq_true rfl,fun p hp=>?_⟩⟩
   have Kb:H1 za=some (.ins C dx fv):=g1.big _ _ Kd
   have IU:za≠p:=ax Kb hp
   have Sb:a1≠p:=ax N3 hp
   have Mb:za≠a1:=fun w=>by rw[w,Sa] at Kd;cases Kd
   have V3:(upd H1 p (.lst [.ref a1])) za=some (.ins C dx fv):=by rw[ah IU];exact Kb
   refine⟨_,hz,za,C,dx,fv,rfl,V3,cl,Oh,by rw[rf.length];exact Nat.lt_of_le_of_lt (Nat.le_of_ble_eq_true hlen) (by decide),?_⟩
   let H4:Hp:=upd (upd H1 p (.lst [.ref a1])) za (.ins C dx (eG n0 (.ref p) fv))
   have D5:av za=none:=g1.ka V1 Kd
   have V4:bc av H1 av (upd H1 p (.lst [.ref a1])):=.d5 g1.sub hp
   have S0:dk X.K G st Hf H (.aO::tl):=S.weak ⟨rfl,fun i s' e n=>by
     cases i with
     | zero=>cases e;exact absurd rfl n
     | succ i=>exact e⟩
   have Ub:noOwn (.aO::tl)=true:=no
   have S4:dk X.K G st av H4 (.aO::tl):=nB ((S0.grow g1).grow V4) Ub D5 P9
   have Wb:H4 za=some (.ins C dx (eG n0 (.ref p) fv)):=ak
   have V8:H4 p=some (.lst [.ref a1]):=by show(upd (upd H1 p _) za _) p=_;rw[ah (Ne.symm IU),ak]
   have OC:H4 a1=some (.dK mq):=by show(upd (upd H1 p _) za _) a1=_;rw[ah (Ne.symm Mb),ah Sb];exact N3
   have Ug:av p=none:=g1.sub.free hp
   have xx:aF av H4:=fun b o e=>by
     have b1:b≠za:=fun w=>by rw[w,D5] at e;cases e
     have b2:b≠p:=fun w=>by rw[w,Ug] at e;cases e
     show(upd (upd H1 p _) za _) b=_
     rw[ah b1,ah b2];exact g1.sub _ _ e
   have gp:G.H p=none:=S.gr.big.free (g1.big.free hp)
   have Sf:G.H a1=none:=S.gr.big.free Sa
   have Sh:pZ av mq (f 0):=oK V2
   refine⟨p,a1,mq,V8,OC,fG (fun b u e _=>xx _ _ e) Sh,fun o1=>?_⟩
   let ls:je:=[(p,f)]
   let u1:HO:=.memo ls
   let u3:HO:=.kd (some (p,0)) o1 mq
   have m1:p≠a1:=Ne.symm Sb
   have cat:∀ (B:Hp),gX B p a1 u1 u3 p=some u1/\gX B p a1 u1 u3 a1=some u3:=fun B=>by
     unfold gX
     refine⟨?_,?_⟩
     . rw[ah m1,ak]
     . rw[ak]
   have t7:∀ (B:Hp) b,b≠p->b≠a1->gX B p a1 u1 u3 b=B b:=fun B b c1 c3=>by unfold gX;rw[ah c3,ah c1]
   let r0:Hp:=gX av p a1 u1 u3
   have EN:aF av r0:=fun b o e=>by
     show gX av p a1 u1 u3 b=some o
     rw[t7 av b (fun w=>by rw[w,Ug] at e;cases e) (fun w=>by rw[w,Oz] at e;cases e)]
     exact e
   have key:∀ (A B:Hp),aF A B->aF (gX A p a1 u1 u3) (gX B p a1 u1 u3):=fun A B sm=>cJ (cJ sm)
   have OD:aF r0 (gX H4 p a1 u1 u3):=key _ _ xx
   have GG:aW X.K r0 (eG n0 (.ref p) fv) (qR fs [n0] p ls 1):=by
     rw[<- Oy p ls]
     refine(rf.mono (g1.bh.trans EN)).put (f:=n0) (d:=.memo p ls 0 1) ?_
     refine .memo (f:=f) rfl (cat av).1 (.inl rfl) fun i hi=>?_
     have:i=0:=by omega
     subst this
     exact⟨a1,o1,mq,(cat av).2,fG (fun b u e _=>EN _ _ e) Sh⟩
   have We:gX H4 p a1 u1 u3 za=some (.ins C dx (eG n0 (.ref p) fv)):=by rw[t7 H4 za IU Mb];exact Wb
   have Wf:r0 za=none:=by show gX av p a1 u1 u3 za=none;rw[t7 av za IU Mb];exact D5
   refine k st r0 _ (g1.bh.trans EN) ⟨⟨fun b o e=>?_,S4.gr.bh.trans EN,OD,fun b o e=>?_⟩,by have:=S4.len;simpa using this,fun i d h=>?_,fun i o h=>?_,fun i j o o' a w1 w2=>?_⟩
   . rw[t7 H4 b (fun w=>by rw[w,gp] at e;cases e) (fun w=>by rw[w,Sf] at e;cases e)]
     exact S4.gr.big _ _ e
   . by_cases c1:b=p
     . rw[c1];exact .inr (.inl gp)
     . by_cases c3:b=a1
       . rw[c3];exact .inr (.inl Sf)
       . have e:gX av p a1 u1 u3 b=some o:=e
         rw[t7 av b c1 c3] at e
         exact S4.gr.new b o e
   . cases i with
     | zero=>cases h
     | succ i=>
       obtain⟨w,w1,w2⟩:=S4.val (i+1) d h
       exact⟨w,w1,w2.mono EN⟩
   . cases i with
     | zero=>
       cases h
       exact⟨za,hz,Wf,P9,rfl,dx,_,p,ls,rfl,We,GG⟩
     | succ i=>exact absurd h (aQ no i o)
   . cases i with
     | zero=>cases j with
       | zero=>exact fun _ _=>rfl
       | succ j=>exact absurd w2 (aQ no j o')
     | succ i=>exact absurd w1 (aQ no i o)
 . cases fl with
   | next=>
     obtain⟨σ7,H7,I7,p,a1,mq,y1,y3,y5,kk⟩:=q7
     obtain⟨o1,I8⟩:=Inv.Ki I7 y1 y3 y5
     exact⟨σ7,_,I8,kk o1⟩
   | cont=>exact q7
   | brk=>exact q7
   | ret v=>exact q7
end
section
variable {X:Cx}{G0:Gr}{E:XK}{fs:List (Str×Dt)}{l C:Addr}{ls:je}{n N:Nat}{tl:List Slot}{f:Nat->List (Key×FD)}{n0 x0 xg:Str}{p1 p2 p3 a1 c1 q1:Pos}
theorem zN (ng:Nat)(hs:jE l fs=true)(ht:pH l tl=true)(hu:tl[ng]?=some .aO)(nY:ls.map (·.2)=[f])(hN:N < 9000)(cl:rV X.K C)(Oh:bu X.K C n0)(hA:G0.Hf l=some (.memo ls))(hB:G0.H l=some (.memo ls))
   (P6:(nX fs [n0] l ls n).lookup n0=some (.dY l ls 0 n):=by rfl)
   (P5:X.N[0]?=some x0:=by rfl) (T1:sU X.env.scope x0:=by first | exact Or.inl rfl | exact Or.inr (Or.inl rfl) | exact Or.inr (Or.inr rfl)) (T2:(x0 == ("__debug__":Str))=false:=by decide) (T3:(x0 == ("__classdict__":Str))=false:=by decide)
   (VD:X.N[ng+1]?=some xg:=by rfl) (VE:sU X.env.scope xg:=by first | exact Or.inl rfl | exact Or.inr (Or.inl rfl) | exact Or.inr (Or.inr rfl)) (VF:(xg == ("__debug__":Str))=false:=by decide) (VG:(xg == ("__classdict__":Str))=false:=by decide)
   (T4:attributeBase (.Name x0 p1) n0 X.env (eval (.Name x0 p1) X.env)=eval (.Name x0 p1) X.env:=by rfl)
   (Bk:attributeBase (.Attribute (.Name x0 p1) n0 p2) "append" X.env (eval (.Attribute (.Name x0 p1) n0 p2) X.env)=eval (.Attribute (.Name x0 p1) n0 p2) X.env:=by rfl)
   (GA:((backTo c1 (starEach [.Name xg p3] X.env)).all (fun x=>!x.1) && (backToKw c1 (keywordEach [] X.env)).all (fun x=>x.1.isSome) && decide ([Expr.Name xg p3].length+([]:List Keyword).length+(if ([]:List Keyword).isEmpty then 0 else 1) < 30))=true:=by rfl)
   (Bl:(a1.endLine == c1.line)=true:=by rfl) (xw:starEach [.Name xg p3] X.env=(false,eval (.Name xg p3) X.env)::starEach [] X.env:=by rfl)
   (EH:swapsWith (.Call (.Attribute (.Attribute (.Name x0 p1) n0 p2) "append" a1) [.Name xg p3] [] c1) none q1.line X.env=pure false:=by rfl) :
   lM X (RW G0 l (.bj ls (List.replicate ls.length N))) E (.val (.obj C (nX fs [n0] l ls n))::tl.set ng (.own (.d0 (mD (f N)))))
     [.Expr (.Call (.Attribute (.Attribute (.Name x0 p1) n0 p2) "append" a1) [.Name xg p3] [] c1) q1] (.raw (RM X.K G0 C fs [n0] l ls n tl (N+1))):=by
 refine zh (lJ (kB (tu PySem.F.plainAttrs_list PySem.F.slot_list_append PySem.F.type_list_append oM (sY (iy (pos:=p1) P5 T1 T2 T3) T4) (kE (iy (pos:=p3) VD VE VF VG) mM xw) Bk GA Bl xw rfl) EH)) fun D st H ⟨Hf,S,k⟩=>?_
 have e2:ls.length=1:=by have:=congrArg List.length nY;simpa using this
 have eR:∀ M:Nat,List.replicate ls.length M=[M]:=fun M=>by rw[e2];rfl
 rw[eR] at S
 have RZ:ng < tl.length:=(List.getElem?_eq_some_iff.mp hu).1
 obtain⟨v0,hv,rv⟩:=S.val 0 _ rfl
 cases rv with
 | @obj sa _ dx fv _ Ol rf=>
   obtain⟨oa,Bm,T5,_,back⟩:=Rd.ex Ol
   have Om:Hf l=some (.bj ls [N]):=S.gr.bh _ _ ak
   have L9:H l=some (.bj ls [N]):=S.sub _ _ Om
   have hm:bQ Hf l ls:=.inr ⟨_,Om⟩
   obtain⟨y0,VH,VI⟩:=rf.lookup P6
   obtain⟨qa,hq,R0,VJ,kvs,Ma,rk⟩:=S.own (ng+1) (.d0 (mD (f N))) (by show(tl.set ng _)[ng]?=_;rw[List.getElem?_set_self RZ])
   cases VI with
   | @dY _ p _ _ _ f0 zE _ VL _=>
       have VM:f0=f:=by
         have:=congrArg (fun z=>z[0]?) nY
         simp only[List.getElem?_map,zE] at this
         exact Option.some.inj this
       subst VM
       have T6:pZ H kvs (f0 N):=fG (fun b u e _=>S.sub _ _ e) (oK rk)
       have VN:qa≠l:=fun z=>by rw[z,L9] at Ma;cases Ma
       have R3:sa≠l:=fun z=>by rw[z,Om] at Bm;cases Bm;cases T5
       have Xz:sa≠qa:=fun z=>by rw[z,R0] at Bm;cases Bm
       refine⟨_,hv,sa,C,dx,fv,_,rfl,back _ (S.sub _ _ Bm),cl,Oh,VH,.inr (.inr (.inr (.inr ⟨rfl,l,ls,[N],0,f0,N,L9,zE,rfl⟩))),_,hq,l,ls,[N],0,p,f0,N,qa,kvs,rfl,rfl,L9,zE,rfl,hN,Ma,T6,fun oq=>?_⟩
       let H6:Hp:=upd (upd H l (.bj ls ([N].set 0 (N+1)))) qa (.kd (some (p,N)) oq kvs)
       show D.nx st H6
       have VP:H6 l=some (.bj ls [N+1]):=by show(upd (upd H l _) qa _) l=_;rw[ah (Ne.symm VN),ak];rfl
       have R5:∀ b o,H b=some o->b≠l->b≠qa->(upd H6 l (.memo ls)) b=some o:=fun b o e n1 n2=>by
         rw[ah n1]
         show(upd (upd H l _) qa _) b=_
         rw[ah n2,ah n1];exact e
       have VQ:∀ b o,Hf b=some o->b≠qa:=fun b o e z=>by rw[z,R0] at e;cases e
       have GB:aF (upd Hf l (.memo ls)) (upd H6 l (.memo ls)):=fun b o e=>by
         by_cases bl:b=l
         . rw[bl,ak] at e ⊢;exact e
         . rw[ah bl] at e;exact R5 b o (S.sub _ _ e) bl (VQ b o e)
       have GC:=fF GB
       have g6:bc G0.Hf G0.H (iE (upd Hf l (.memo ls)) (upd H6 l (.memo ls))) (upd H6 l (.memo ls)):=by
         refine⟨fun b o e=>?_,fun b o e=>?_,mS GB,fun b o e=>?_⟩
         . by_cases bl:b=l
           . rw[bl,hB] at e;cases e;rw[bl];exact ak
           . have h3:H b=some o:=S.gr.big _ _ (by show(upd G0.H l _) b=_;rw[ah bl];exact e)
             have VR:b≠qa:=fun z=>by
               have:(upd G0.H l (.bj ls [N])) qa=none:=VJ
               rw[<- z,ah bl,e] at this;cases this
             exact R5 b o h3 bl VR
         . by_cases bl:b=l
           . rw[bl,hA] at e;cases e;rw[bl];exact GC _ _ ak
           . have h3:Hf b=some o:=S.gr.bh _ _ (by show(upd G0.Hf l _) b=_;rw[ah bl];exact e)
             exact GC _ _ (by rw[ah bl];exact h3)
         . rcases nF (Hf:=upd Hf l (.memo ls)) (H:=upd H6 l (.memo ls)) b with⟨u',z1,z2,z3⟩ | z
           . rw[z3] at e;cases e;exact .inr (.inr z2)
           . rw[z] at e
             by_cases bl:b=l
             . rw[bl];exact .inl ⟨_,hA⟩
             . rw[ah bl] at e
               rcases S.gr.new b o e with⟨Ny,y⟩ | y | y
               . have y:(upd G0.Hf l _) b=some Ny:=y
                 rw[ah bl] at y;exact .inl ⟨Ny,y⟩
               . have y:(upd G0.H l _) b=none:=y
                 rw[ah bl] at y;exact .inr (.inl y)
               . exact .inr (.inr y)
       have Oq:∀ {v:V} {d:Dt},qw l d=true->Rep X.K Hf v d->Rep X.K (iE (upd Hf l (.memo ls)) (upd H6 l (.memo ls))) v d:=fun {v d} hn r=>(gW hm (.inl rfl) hn r).mono GC
       refine k st H6 ⟨by rw[eR];exact VP,_,⟨g6,by have:=S.len;simpa using this,fun i d h=>?_,fun i o h=>?_,fun i j o o' a h=>?_⟩⟩
       . cases i with
         | zero=>
           cases h
           refine⟨_,hv,.obj (back _ (GC _ _ (by rw[ah R3];exact Bm))) ?_⟩
           exact(L8 hs hm rf).mono GC
         | succ i=>
           have h:tl[i]?=some (.val d):=h
           have e:ng≠i:=fun z=>by rw[<- z,hu] at h;cases h
           obtain⟨w,w1,w2⟩:=S.val (i+1) d (by show(tl.set ng _)[i]?=_;rw[List.getElem?_set_ne e];exact h)
           exact⟨w,w1,Oq (lq ht h) w2⟩
       . cases i with
         | zero=>cases h
         | succ i=>exact absurd h (aQ (gh ht) i o)
       . cases i with
         | zero=>cases h
         | succ i=>exact absurd h (aQ (gh ht) i o)
end
abbrev Qa (g:Str)(C':Addr)(fs':List (Str×Dt))(nm':List Str)(l':Addr)(ls':je)(n':Nat):List (Str×Dt):=[(g,.obj C' (qR fs' nm' l' ls' n'))]
section
variable {X:Cx}{G:Gr}{E:XK}{dl:List Slot}{e:Expr}{pos:Pos}{sts:List Stmt}{o:Out}{C C' l l':Addr}{ls ls':je}{n n' m:Nat}{nm nm':List Str}{fs':List (Str×Dt)}{g:Str}{tl:List Slot}{K:W.Frag}{Hf H:Hp}{st:L2.St}
theorem CG {fv:List (Str×V)}(r:aW K Hf fv (qR (Qa g C' fs' nm' l' ls' n') nm l ls n)):∃ v f2,fv=(g,v)::f2/\Rep K Hf v (.obj C' (qR fs' nm' l' ls' n'))/\aW K Hf f2 ((List.range nm.length).map fun j=>(nm.getD j "",.memo l ls j n)):=by
 have r:aW K Hf fv ((g,.obj C' (qR fs' nm' l' ls' n'))::(List.range nm.length).map fun j=>(nm.getD j "",.memo l ls j n)):=r
 cases r with
 | cons h t=>exact⟨_,_,rfl,h,t⟩
theorem Ea (i:Nat)(hn:0 < nm.length)(PU:0 < nm'.length)(hl:ls'.length≠ls.length)(h:l'≠l->lM X G E dl sts o)(hd:dl[i]?=some (.val (.obj C (qR (Qa g C' fs' nm' l' ls' n') nm l ls n))):=by rfl):lM X G E dl sts o:=by
 intro pins s st H D I ⟨Hf,S,k⟩
 obtain⟨v,hv,rv⟩:=S.val i _ hd
 refine h ?_ pins s st H D I ⟨Hf,S,k⟩
 cases rv with
 | obj q r=>
   obtain⟨v',f2,_,r1,r2⟩:=CG r
   have h1:=t6 hn r
   cases r1 with
   | obj q' r'=>
     have h2:=t6 PU r'
     intro z
     rw[z,h1] at h2
     have:=HO.memo.inj (Option.some.inj h2)
     exact hl (by rw[this])
theorem Eb (he:EE X G (.val (.obj C (qR (Qa g C' fs' nm' l' ls' n') nm l ls n))::tl) e (.u0 l' ls' m))(hs:swapsWith e none pos.line X.env=pure false:=by rfl):ES X G E (.val (.obj C (qR (Qa g C' fs' nm' l' ls' n') nm l ls n))::tl) (.Expr e pos) (.nx (.val (.obj C (qR (Qa g C' fs' nm' l' ls' m) nm l ls n))::tl)):=
 rb (kB he hs) fun D st H ⟨Hf,S,k⟩=>⟨Hf,S,fun v av H1 g1 r1=>by
   have S1:=S.grow g1
   cases r1 with
   | u0 kn=>
     refine k st av H1 g1.bh ⟨S1.gr,S1.len,fun i d h=>?_,fun i o h=>S1.own i o ?_,fun i j o o' a h1 h2=>S1.DF i j o o' a ?_ ?_⟩
     . cases i with
       | zero=>
         cases h
         obtain⟨v,hv,rv⟩:=S1.val 0 _ rfl
         cases rv with
         | obj q r=>
           obtain⟨v',f2,ef,r1,r2⟩:=CG r
           subst ef
           cases r1 with
           | obj q' r'=>exact⟨_,hv,.obj q (.cons (.obj q' (zI kn r')) r2)⟩
       | succ i=>exact S1.val (i+1) d h
     . cases i with
       | zero=>cases h
       | succ i=>exact h
     . cases i with
       | zero=>cases h1
       | succ i=>exact h1
     . cases j with
       | zero=>cases h2
       | succ j=>exact h2⟩
end
def Wh (K:W.Frag)(n:Nat)(t:Ji):TG:=fun v σ H Q=>∃ a xs,v=.ref a/\lI K H a xs/\xs.length=n/\t xs σ H Q
theorem OI {X:Cx}{es:List Expr}{k:Nat}{t:Ji}{n:Nat}{pos:Pos}(hc:X.calm=true)(h:Qq X es t)(hn:(assignEach es X.env).length=n:=by rfl)(mB:(assignEach es X.env).findIdx? (·.1)=none:=by rfl):PG X (.Tuple es k pos) (Wh X.K n t):=by
 intro pins s σ H v u Q I r hw
 obtain⟨a,xs,e1,hq,hl,hw⟩:=hw
 subst e1
 cases r
 obtain⟨aD,rv,hp,hz⟩:=I.list hq
 obtain⟨o,m,e,h1,h2,h3⟩:=hp
 have hL:s.heap.IsList a aD.toArray:=⟨o,e,h1,m,h3⟩
 rw[assign_Tuple]
 refine wpAny_bind (wpAny_standAt ?_)
 unfold unpack
 have e5:(assignEach es X.env).length=aD.toArray.size:=by simp[hn,<- hl,rv.length]
 rw[e5,mB]
 refine wpAny_bind (wpAny_holding (W.kun_itemsOf (I.ok.hd hc) hL fun h' hx=>?_))
 have I1:Inv X pins σ H { s with heap:=h'}:=I.kept (t':=s.toks) fun b o e=>hx b o (Nat.ne_of_lt (Heap.lt_size e)) e
 exact h pins _ σ H xs _ Q I1 (by simpa using rv) hw
section
variable {X:Cx}{G:Gr}{E:XK}{dl:List Slot}{e:Expr}{d1 d2:Dt}{pos:Pos}
theorem GL (n1 n2:Nat){a b:Str}{pa pb tp:Pos}{cx:Nat}(hN:X.N.Nodup)(hc:X.calm=true)(he:EE X G dl e (.lst [d1,d2]))(Rt:X.N[n1]?=some a:=by rfl)(Ru:X.N[n2]?=some b:=by rfl)(Rv:Loc X.env.scope a:=by first | exact Or.inl rfl | exact Or.inr rfl)(Nx:Loc X.env.scope b:=by first | exact Or.inl rfl | exact Or.inr rfl)(Rw:X.fn a=true\/X.env.scope.names.lookup a=some .local:=by first | exact .inl rfl | exact .inr rfl)(Rx:X.fn b=true\/X.env.scope.names.lookup b=some .local:=by first | exact .inl rfl | exact .inr rfl)(hn:(assignEach [.Name a pa,.Name b pb] X.env).length=2:=by rfl)(mB:(assignEach [.Name a pa,.Name b pb] X.env).findIdx? (·.1)=none:=by rfl)(q1:(assignEach [.Name a pa,.Name b pb] X.env).map (·.2)=assign (.Name a pa) X.env::(assignEach [.Name b pb] X.env).map (·.2):=by rfl)(q2:(assignEach [.Name b pb] X.env).map (·.2)=assign (.Name b pb) X.env::(assignEach [] X.env).map (·.2):=by rfl)(hs:swapsWithSole [.Tuple [.Name a pa,.Name b pb] cx tp] e pos.line X.env=pure false:=by rfl)(hw:swappedStores [.Tuple [.Name a pa,.Name b pb] cx tp] e X.env=pure none:=by rfl)(h1:(assignEach [.Tuple [.Name a pa,.Name b pb] cx tp] X.env).map (·.2)=[assign (.Tuple [.Name a pa,.Name b pb] cx tp) X.env]:=by rfl):ES X G E dl (.Assign [.Tuple [.Name a pa,.Name b pb] cx tp] e pos) (.nx ((dl.set n1 (.val d1)).set n2 (.val d2))):=
 rb (wK he (OI hc (c6 (bD (pos:=pa) hN Rt Rv Rw) (c6 (bD (pos:=pb) hN Ru Nx Rx) nh q2) q1) hn mB) hs hw h1) fun D st H ⟨Hf,S,k⟩=>⟨Hf,S,fun v av H1 g1 r1=>by
   cases r1 with
   | @lst q vs _ hq rp=>
     cases rp with
     | cons r1 t1=>cases t1 with
       | cons r2 t2=>
         cases t2
         exact⟨q,_,rfl,.of (g1.sub _ _ hq),rfl,_,_,rfl,_,_,rfl,rfl,k _ av H1 g1.bh (((S.grow g1).set r1).set r2)⟩⟩
end
end Sg
namespace Pf
open PySem PySem.Spec PyProof.Rows L2 Sg
structure gK (K:W.Frag)(x q:Str)(st:Stmt)(ps:List Str)(f:Addr)(d:FuncData):Prop where
 F:PY K x q st f d
 b:Binds K d ps []
structure Kj (K:W.Frag)(x q:Str)(st:Stmt)(ps:List Str)(f:Addr)(d:FuncData):Prop where
 F:zq K x q st f d
 b:Binds K d ps []
structure kA (K:W.Frag)(x:Str)(st:Stmt)(ps:List Str)(f:Addr)(d:FuncData):Prop where
 F:PY K x x st f d
 b:Binds K d ps []
 a:W.nsIn K mainGlobals x=some (some (.ref f))
structure Ec (K:W.Frag)(x:Str)(C:Addr):Prop where
 a:W.nsIn K mainGlobals x=some (some (.ref C))
 cl:rV K C
 kc:W.keepIn K (.ref C)=true
abbrev OJ (x q:Str)(st:Stmt)(ps:List Str):Prop:=∀ (kV doc pm:Value) (an:Option Addr) (bA ct:Value) (us:List Value),us.length=ps.length->bindArgs (W.fnOf x q (bS st) (aE st) (af st) .none kV doc pm an bA ct) ⟨us,[]⟩=pure (ps.zip us)
section
variable {K:W.Frag}{x q:Str}{st:Stmt}{ps:List Str}{f:Addr}{oc:Value}{od an:Option Addr}{vP:Array (Option Value)}{kV doc pm bA ct:Value}
theorem OK (l:K.lookup f=some ⟨oc,od,.func (W.fnOf x q (bS st) (aE st) (af st) .none kV doc pm an bA ct),vP⟩)(c:W.codeIn K bA q=true)(k:W.keepIn K (.ref f)=true)(b:OJ x q st ps):gK K x q st ps f (W.fnOf x q (bS st) (aE st) (af st) .none kV doc pm an bA ct):=⟨tF l c k,(tF l c k).binds b⟩
theorem OL (l:K.lookup f=some ⟨oc,od,.func (W.fnOf x q (bS st) (aE st) (af st) .none kV doc pm an bA ct),vP⟩)(c:W.codeIn K bA q=true)(k:W.keepIn K (.ref f)=true)(b:OJ x q st ps):Kj K x q st ps f (W.fnOf x q (bS st) (aE st) (af st) .none kV doc pm an bA ct):=⟨pC l c,(tF l c k).binds b⟩
theorem OM (a:W.nsIn K mainGlobals q=some (some (.ref f)))(l:K.lookup f=some ⟨oc,od,.func (W.fnOf q q (bS st) (aE st) (af st) .none kV doc pm an bA ct),vP⟩)(c:W.codeIn K bA q=true)(k:W.keepIn K (.ref f)=true)(b:OJ q q st ps):kA K q st ps f (W.fnOf q q (bS st) (aE st) (af st) .none kV doc pm an bA ct):=⟨tF l c k,(tF l c k).binds b,a⟩
theorem ON {C:Addr}(a:W.nsIn K mainGlobals x=some (some (.ref C)))(p:W.plainGet K C Str.empty=true)(h:W.hasDictIn K C=true)(o:W.plainOver K C=true)(s:W.findIn K (.ref C) "__setattr__"=some (some (.builtin "object.__setattr__")))(k:W.keepIn K (.ref C)=true):Ec K x C:=⟨a,⟨p,h,o,s⟩,k⟩
end
theorem gT {N P:List Str}{sc:Scope}(h:(sc.kind == .function && !sc.isCoroutine && !sc.isGenerator && decide N.Nodup && decide (N.take P.length=P) && P.all (fun x=>decide (sc.names.lookup x=some .local\/sc.names.lookup x=some .cell)) && sc.names.all fun y=>decide (y.2≠.free))=true):ar N P sc:=by
 simp only[Bool.and_eq_true,List.all_eq_true,decide_eq_true_eq,Bool.not_eq_true',beq_iff_eq] at h
 exact⟨h.1.1.1.1.1.1,h.1.1.1.1.1.2,h.1.1.1.1.2,h.1.1.1.2,h.1.1.2,h.1.2,h.2⟩
def top (i:Nat):Stmt:=PySem.Challenge.pw_strokegrow_k55_whole_reach_touched.main.body.getD i (.Pass ⟨0,0,0,0⟩)
abbrev xB:Stmt:=top 13
abbrev xC:Stmt:=top 14
abbrev kg:Stmt:=top 15
abbrev lS:Stmt:=inClass (top 16) 3
abbrev lU:Stmt:=inClass (top 16) 4
abbrev oP:Stmt:=inClass (top 16) 5
abbrev mU:Stmt:=inClass (top 16) 6
abbrev kh:Stmt:=inClass (top 17) 0
abbrev eV:Stmt:=inClass (top 17) 1
abbrev jl:Stmt:=inClass (top 17) 2
abbrev lV:Stmt:=inClass (top 18) 0
abbrev fT:Stmt:=inClass (top 18) 1
abbrev kS:Stmt:=inClass (top 18) 2
abbrev t9:Stmt:=top 19
abbrev lW:Stmt:=inClass (top 21) 0
abbrev lX:Stmt:=inClass (top 21) 1
abbrev lY:Stmt:=inClass (top 21) 2
abbrev jm:Stmt:=inClass (top 21) 3
abbrev b5:Stmt:=inClass (top 21) 4
abbrev eJ:Stmt:=inClass (top 21) 5
abbrev b6:Stmt:=inClass (top 21) 6
abbrev b7:Stmt:=inClass (top 21) 7
abbrev lZ:Stmt:=inClass (top 21) 8
abbrev ki:Stmt:=inClass (top 21) 10
abbrev xD:Stmt:=top 22
abbrev cu:Stmt:=top 23
abbrev oQ:Stmt:=top 24
abbrev kT:Stmt:=top 27
abbrev pK:Stmt:=top 28
abbrev fq:Stmt:=inClass (top 30) 0
abbrev gL:Stmt:=inClass (top 30) 1
abbrev bL:Stmt:=inClass (top 30) 2
abbrev ck:Stmt:=inClass (top 30) 4
abbrev i8:Stmt:=top 32
abbrev dC:Stmt:=top 33
abbrev dg:Stmt:=inClass (top 34) 0
abbrev fU:Stmt:=inClass (top 34) 1
abbrev bw:Stmt:=inClass (top 34) 3
abbrev kj:Stmt:=inClass (top 34) 4
abbrev fu:Stmt:=inClass (top 34) 5
abbrev d7:Stmt:=inClass (top 34) 8
abbrev cU:Stmt:=inClass (top 34) 9
abbrev gj:Stmt:=inClass (top 34) 11
abbrev gY:Stmt:=top 38
abbrev fw:Stmt:=top 39
abbrev d8:Stmt:=top 40
abbrev jF:Stmt:=inClass (top 41) 0
abbrev mV:Stmt:=inClass (top 41) 1
abbrev jo:Stmt:=inClass (top 41) 2
abbrev gZ:Stmt:=inClass (top 41) 4
abbrev l1:Stmt:=inClass (top 41) 5
abbrev l2:Stmt:=inClass (top 41) 6
abbrev aS:Stmt:=inClass (top 41) 7
abbrev Bp:Stmt:=top 43
abbrev xE:Stmt:=top 44
abbrev oR:Stmt:=top 45
abbrev Bq:Stmt:=top 46
abbrev xF:Stmt:=top 47
abbrev GN:Stmt:=top 48
abbrev xG:Stmt:=top 49
abbrev GO:Stmt:=top 50
abbrev Kk:List Str:=["one","other"]
theorem GP:ar Kk ["one","other"] (af xB):=gT (by decide +kernel)
abbrev Kl:List Str:=["one","other"]
theorem GQ:ar Kl ["one","other"] (af xC):=gT (by decide +kernel)
abbrev ua:List Str:=["deed"]
theorem rA:ar ua ["deed"] (af kg):=gT (by decide +kernel)
abbrev xH:List Str:=["self","number"]
theorem vi:ar xH ["self","number"] (af lS):=gT (by decide +kernel)
abbrev xI:List Str:=["self","spot","by","turns"]
theorem kU:ar xI ["self","spot","by"] (af lU):=gT (by decide +kernel)
abbrev Br:List Str:=["self","way"]
theorem zO:ar Br ["self","way"] (af oP):=gT (by decide +kernel)
abbrev zP:List Str:=["self","deed","spot","way"]
theorem pL:ar zP ["self","deed","spot","way"] (af mU):=gT (by decide +kernel)
abbrev ub:List Str:=["self"]
theorem rB:ar ub ["self"] (af kh):=gT (by decide +kernel)
abbrev mE:List Str:=["self","spot"]
theorem l3:ar mE ["self","spot"] (af eV):=gT (by decide +kernel)
abbrev rC:List Str:=["self","way","spot","x","y"]
theorem iF:ar rC ["self","way","spot"] (af jl):=gT (by decide +kernel)
abbrev xJ:List Str:=["self"]
theorem vj:ar xJ ["self"] (af lV):=gT (by decide +kernel)
abbrev n6:List Str:=["self","spot"]
theorem mW:ar n6 ["self","spot"] (af fT):=gT (by decide +kernel)
abbrev vk:List Str:=["self","way","spot","x","y"]
theorem kl:ar vk ["self","way","spot"] (af kS):=gT (by decide +kernel)
abbrev GR:List Str:=["ways"]
theorem Ed:ar GR ["ways"] (af t9):=gT (by decide +kernel)
abbrev xK:List Str:=["self","pen","deed_count","last_way","last_spot","stroke_count","reaches","touches","crosses"]
theorem vm:ar xK ["self","pen","deed_count","last_way","last_spot","stroke_count","reaches","touches","crosses"] (af lW):=gT (by decide +kernel)
abbrev xM:List Str:=["self"]
theorem vn:ar xM ["self"] (af lX):=gT (by decide +kernel)
abbrev xN:List Str:=["self"]
theorem vo:ar xN ["self"] (af lY):=gT (by decide +kernel)
abbrev rD:List Str:=["self"]
theorem qA:ar rD ["self"] (af jm):=gT (by decide +kernel)
abbrev vp:List Str:=["self","first"]
theorem ue:ar vp ["self","first"] (af b5):=gT (by decide +kernel)
abbrev mw:List Str:=["self","numbers","first"]
theorem qB:ar mw ["self","numbers","first"] (af eJ):=gT (by decide +kernel)
abbrev vq:List Str:=["self","first"]
theorem uf:ar vq ["self","first"] (af b6):=gT (by decide +kernel)
abbrev vt:List Str:=["self","first"]
theorem ug:ar vt ["self","first"] (af b7):=gT (by decide +kernel)
abbrev xO:List Str:=["self"]
theorem vv:ar xO ["self"] (af lZ):=gT (by decide +kernel)
abbrev uh:List Str:=["self","other","pen","shift","reaches","touches","way"]
theorem mx:ar uh ["self","other"] (af ki):=gT (by decide +kernel)
abbrev Km:List Str:=["pen"]
theorem GS:ar Km ["pen"] (af xD):=gT (by decide +kernel)
abbrev jq:List Str:=["pen","deed","behind","spot","reaches","touches"]
theorem lr:ar jq ["pen","deed"] (af cu):=gT (by decide +kernel)
abbrev Bs:List Str:=["pen","deeds","track","deed"]
theorem qV:ar Bs ["pen","deeds"] (af oQ):=gT (by decide +kernel)
abbrev vw:List Str:=["age","first","last"]
theorem uk:ar vw ["age","first","last"] (af kT):=gT (by decide +kernel)
abbrev CH:List Str:=["rules","word"]
theorem zQ:ar CH ["rules","word"] (af pK):=gT (by decide +kernel)
abbrev mX:List Str:=["self","growth","rules"]
theorem my:ar mX ["self","growth"] (af fq):=gT (by decide +kernel)
abbrev oS:List Str:=["self","tracks","whole","track"]
theorem jy:ar oS ["self","tracks"] (af gL):=gT (by decide +kernel)
abbrev jz:List Str:=["self","age","rules","last","grown","letter"]
theorem i9:ar jz ["self","age"] (af bL):=gT (by decide +kernel)
abbrev kI:List Str:=["self","age","begin","end"]
theorem oT:ar kI ["self","age","begin","end"] (af ck):=gT (by decide +kernel)
abbrev zR:List Str:=["tallies","letters"]
theorem we:ar zR ["tallies","letters"] (af i8):=gT (by decide +kernel)
abbrev lu:List Str:=["word","rounds"]
theorem pM:ar lu ["word","rounds"] (af dC):=gT (by decide +kernel)
abbrev kW:List Str:=["self","rules","start"]
theorem mY:ar kW ["self","rules","start"] (af dg):=gT (by decide +kernel)
abbrev n8:List Str:=["self"]
theorem mZ:ar n8 ["self"] (af fU):=gT (by decide +kernel)
abbrev gM:List Str:=["self","age","letters","last","grown","letter"]
theorem jA:ar gM ["self","age"] (af bw):=gT (by decide +kernel)
abbrev um:List Str:=["self","age"]
theorem rE:ar um ["self","age"] (af kj):=gT (by decide +kernel)
abbrev m5:List Str:=["self","age","place"]
theorem mF:ar m5 ["self","age","place"] (af fu):=gT (by decide +kernel)
abbrev l4:List Str:=["self","age","begin","end"]
theorem lx:ar l4 ["self","age","begin","end"] (af d7):=gT (by decide +kernel)
abbrev mz:List Str:=["self","age"]
theorem qC:ar mz ["self","age"] (af cU):=gT (by decide +kernel)
abbrev rF:List Str:=["self","age","begin","end","between","waiting","place","piece","rounds","behind"]
theorem ly:ar rF ["self","age","begin","end"] (af gj):=gT (by decide +kernel)
abbrev pN:List Str:=["text"]
theorem oU:ar pN ["text"] (af gY):=gT (by decide +kernel)
abbrev m6:List Str:=["word","letters"]
theorem rG:ar m6 ["word","letters"] (af fw):=gT (by decide +kernel)
abbrev l5:List Str:=["rows","firsts","letters","number","row","letter_fits"]
theorem oo:ar l5 ["rows"] (af d8):=gT (by decide +kernel)
abbrev xP:List Str:=["self","ways","rows","drawer","row"]
theorem ow:ar xP ["self","ways","rows"] (af jF):=gT (by decide +kernel)
abbrev zS:List Str:=["self"]
theorem xQ:ar zS ["self"] (af mV):=gT (by decide +kernel)
abbrev rH:List Str:=["self"]
theorem qD:ar rH ["self"] (af jo):=gT (by decide +kernel)
abbrev uo:List Str:=["self","letter"]
theorem rJ:ar uo ["self","letter"] (af gZ):=gT (by decide +kernel)
abbrev xR:List Str:=["self","letter"]
theorem vx:ar xR ["self","letter"] (af l1):=gT (by decide +kernel)
abbrev xS:List Str:=["self","letter"]
theorem vy:ar xS ["self","letter"] (af l2):=gT (by decide +kernel)
abbrev rK:List Str:=["self","text","most","at","sign"]
theorem lz:ar rK ["self","text","most"] (af aS):=gT (by decide +kernel)
abbrev OO:List Str:=["_law_script","_law_k","_law_cell_here","_law_low"]
theorem sh:ar OO ["_law_script","_law_k"] (af Bp):=gT (by decide +kernel)
abbrev Kn:List Str:=["_law_found"]
theorem GU:ar Kn ["_law_found"] (af xE):=gT (by decide +kernel)
abbrev Bt:List Str:=["_law_cell_here","_law_many","_law_free","_law_found","_law_k","_law_at"]
theorem qW:ar Bt ["_law_cell_here","_law_many"] (af oR):=gT (by decide +kernel)
abbrev OP:List Str:=["_law_number","_law_alphabet_here","_law_most","_law_found","_law_size","_law_k"]
theorem CI:ar OP ["_law_number","_law_alphabet_here","_law_most"] (af Bq):=gT (by decide +kernel)
abbrev Ko:List Str:=["_law_script","_law_far","_law_first","_law_way","_law_age","_law_many","_law_most","_law_alphabet_here","_law_rows","_law_k","_law_cell_here","_law_deed","_law_start"]
theorem zT:ar Ko ["_law_script","_law_far"] (af xF):=gT (by decide +kernel)
abbrev Sk:List Str:=["_law_script","_law_k","_law_far","_law_number"]
theorem GV:ar Sk ["_law_script","_law_k"] (af GN):=gT (by decide +kernel)
abbrev Kq:List Str:=["_law_ways","_law_spot","_law_x","_law_y"]
theorem zU:ar Kq ["_law_ways","_law_spot"] (af xG):=gT (by decide +kernel)
abbrev Sl:List Str:=["_law_script","_law_ways","_law_rows","_law_start","_law_age","_law_growth","_law_drawing","_law_younger","_law_size","_law_begin","_law_end","_law_way","_law_track","_law_reach","_law_touch","_law_asked","_law_k","_law_place","_law_far","_law_first","_law_v"]
theorem GW:ar Sl ["_law_script"] (af GO):=gT (by decide +kernel)
structure dX where
 (si sj g7 c7 c8 fz dZ dD bf cV fH bM eK pO fJ fK fL cW b8 cX b9 cb fM dF sk gk l6 iN sq dH bX a5 bF m7 fN eO bN bx dJ bC aY cv cw e9 g8 jG d9 gS cY cM fO fP aT xU su l7 xV sv CJ sx pP:Addr)
 (sy sA g9 jH jI l8 kJ hE cQ gm jJ dm iO pQ jK jL jM gq iP gu iQ iR jN hU sC gv l9 iS sD hV ee dn fe pR fQ iT dq eh hX c9 cD gw gx ff hZ jO jP kK gy ia jQ jR gz xW sE ma xX sF CK sG uq:FuncData)
 (iU iV iW gA:Tok)
 (aM bT aK au aw aC jS cI:Addr)
 (zV ur xY:Tok)
 K:W.Frag
structure Txt (K:W.Frag)(mg:Str->Option Value)(t:dX):Prop where
 hK:t.K=K
 g:∀ {x:Str} {v:Value},W.nsIn K mainGlobals x=some (some v)->mg x=some v
 gn:∀ {x:Str},W.nsIn K mainGlobals x=some none->mg x=none
 iG:Ec K "Quarter" t.aM
 me:Ec K "Sixth" t.bT
 dt:Ec K "Rules" t.aK
 aP:Ec K "Growth" t.au
 aA:Ec K "Track" t.aw
 bO:Ec K "Drawing" t.aC
 oV:NH K t.aM
 uu:NH K t.bT
 uv:L2.Mk K t.aK t.d9
 qE:L2.Mk K t.au t.eO
 uw:L2.Mk K t.aw t.fJ
 oW:L2.Mk K t.aC t.dH
 gB:bu K t.aK "drawer"
 aN:bu K t.aK "row_by_letter"
 cy:bu K t.au "rules"
 fA:bu K t.au "seed"
 cm:bu K t.au "tallies"
 cn:bu K t.au "lengths"
 cZ:bu K t.aw "drawer"
 a6:bu K t.aw "deed_count"
 bb:bu K t.aw "last_way"
 aR:bu K t.aw "last_spot"
 bV:bu K t.aw "stroke_count"
 bY:bu K t.aw "reaches"
 dM:bu K t.aw "touches"
 dN:bu K t.aw "crosses"
 bG:bu K t.aC "growth"
 bH:bu K t.aC "tracks"
 xZ:mg "DEEDS"=some (.ref t.jS)
 x3:∀ H,Rep K H (.ref t.jS) (.tup [.str "stroke",.str "step",.str "left",.str "right",.str "rest"])
 oy:mg "GOING_DEEDS"=some (.ref t.cI)
 oA:∀ H,Rep K H (.ref t.cI) (.tup [.str "stroke",.str "step"])
 zW:mg "MOST_ROWS"=some (.int 6 t.zV)
 ux:mg "MOST_IN_WORD"=some (.int 8 t.ur)
 x4:mg "LAST_ROUND"=some (.int 200 t.xY)
 nJ:kA K "added" xB ["one","other"] t.si t.sy
 nK:kA K "cross" xC ["one","other"] t.sj t.sA
 dO:kA K "turn_of_deed" kg ["deed"] t.g7 t.g9
 eW:Meth K t.aM "way_of" t.c7
 fV:Meth K t.bT "way_of" t.c7
 jT:gK K "way_of" "Pen.way_of" lS ["self","number"] t.c7 t.jH
 eX:Meth K t.aM "turned" t.c8
 fW:Meth K t.bT "turned" t.c8
 jU:gK K "turned" "Pen.turned" lU ["self","spot","by"] t.c8 t.jI
 fX:Meth K t.aM "step" t.fz
 ib:Meth K t.bT "step" t.fz
 mf:gK K "step" "Pen.step" oP ["self","way"] t.fz t.l8
 fB:Meth K t.aM "after" t.dZ
 gN:Meth K t.bT "after" t.dZ
 kL:gK K "after" "Pen.after" mU ["self","deed","spot","way"] t.dZ t.kJ
 dP:Meth K t.aM "ways" t.dD
 ig:gK K "ways" "Quarter.ways" kh ["self"] t.dD t.hE
 bZ:Meth K t.aM "turned_left" t.bf
 cR:gK K "turned_left" "Quarter.turned_left" eV ["self","spot"] t.bf t.cQ
 dh:Meth K t.aM "along" t.cV
 gC:gK K "along" "Quarter.along" jl ["self","way","spot"] t.cV t.gm
 fY:Meth K t.bT "ways" t.fH
 jV:gK K "ways" "Sixth.ways" lV ["self"] t.fH t.jJ
 cN:Meth K t.bT "turned_left" t.bM
 du:gK K "turned_left" "Sixth.turned_left" fT ["self","spot"] t.bM t.dm
 fC:Meth K t.bT "along" t.eK
 iX:gK K "along" "Sixth.along" kS ["self","way","spot"] t.eK t.iO
 lC:kA K "pen_of" t9 ["ways"] t.pO t.pQ
 jW:Kj K "__init__" "Track.__init__" lW ["self","pen","deed_count","last_way","last_spot","stroke_count","reaches","touches","crosses"] t.fJ t.jK
 fZ:Meth K t.aw "many" t.fK
 jX:gK K "many" "Track.many" lX ["self"] t.fK t.jL
 f6:Meth K t.aw "turn" t.fL
 jY:gK K "turn" "Track.turn" lY ["self"] t.fL t.jM
 er:Meth K t.aw "strokes" t.cW
 gD:gK K "strokes" "Track.strokes" jm ["self"] t.cW t.gq
 da:Meth K t.aw "shift" t.b8
 uy:Binds K t.iP ["self","first"] [.int 0 t.iU]
 vz:zq K "shift" "Track.shift" b5 t.b8 t.iP
 IV:W.keepIn K (.ref t.b8)=true
 vA:Binds K t.iP ["self","first"] []
 eu:Meth K t.aw "by_ways" t.cX
 gF:gK K "by_ways" "Track.by_ways" eJ ["self","numbers","first"] t.cX t.gu
 dc:Meth K t.aw "reach" t.b9
 uz:Binds K t.iQ ["self","first"] [.int 0 t.iV]
 vB:zq K "reach" "Track.reach" b6 t.b9 t.iQ
 IW:W.keepIn K (.ref t.b9)=true
 vC:Binds K t.iQ ["self","first"] []
 de:Meth K t.aw "touch" t.cb
 uA:Binds K t.iR ["self","first"] [.int 0 t.iW]
 vD:zq K "touch" "Track.touch" b7 t.cb t.iR
 IY:W.keepIn K (.ref t.cb)=true
 vE:Binds K t.iR ["self","first"] []
 f7:Meth K t.aw "area" t.fM
 jZ:gK K "area" "Track.area" lZ ["self"] t.fM t.jN
 eY:Meth K t.aw "joined" t.dF
 ij:gK K "joined" "Track.joined" ki ["self","other"] t.dF t.hU
 nL:kA K "still" xD ["pen"] t.sk t.sC
 c5:kA K "track_of_deed" cu ["pen","deed"] t.gk t.gv
 iH:kA K "track_of" oQ ["pen","deeds"] t.l6 t.l9
 eP:kA K "check_round" kT ["age","first","last"] t.iN t.iS
 nM:kA K "tally" pK ["rules","word"] t.sq t.sD
 ik:Kj K "__init__" "Drawing.__init__" fq ["self","growth"] t.dH t.hV
 cE:Meth K t.aC "join_all" t.bX
 eA:gK K "join_all" "Drawing.join_all" gL ["self","tracks"] t.bX t.ee
 cz:Meth K t.aC "deepen_to" t.a5
 dv:gK K "deepen_to" "Drawing.deepen_to" bL ["self","age"] t.a5 t.dn
 cO:Meth K t.aC "stretch" t.bF
 fg:gK K "stretch" "Drawing.stretch" ck ["self","age","begin","end"] t.bF t.fe
 lD:kA K "summed" i8 ["tallies","letters"] t.m7 t.pR
 cK:kA K "waiting_pieces" dC ["word","rounds"] t.fN t.fQ
 iY:Kj K "__init__" "Growth.__init__" dg ["self","rules","start"] t.eO t.iT
 cF:Meth K t.au "rules_told" t.bN
 dw:gK K "rules_told" "Growth.rules_told" fU ["self"] t.bN t.dq
 cP:Meth K t.au "deepen_to" t.bx
 eB:gK K "deepen_to" "Growth.deepen_to" bw ["self","age"] t.bx t.eh
 eC:Meth K t.au "enter" t.dJ
 il:gK K "enter" "Growth.enter" kj ["self","age"] t.dJ t.hX
 cA:Meth K t.au "check_place" t.bC
 df:gK K "check_place" "Growth.check_place" fu ["self","age","place"] t.bC t.c9
 b0:Meth K t.au "check_stretch" t.aY
 cG:gK K "check_stretch" "Growth.check_stretch" d7 ["self","age","begin","end"] t.aY t.cD
 dQ:Meth K t.au "length" t.cv
 gG:gK K "length" "Growth.length" cU ["self","age"] t.cv t.gw
 dR:Meth K t.au "pieces" t.cw
 gH:gK K "pieces" "Growth.pieces" gj ["self","age","begin","end"] t.cw t.gx
 cq:kA K "is_small_letter" gY ["text"] t.e9 t.ff
 dS:kA K "is_word_over" fw ["word","letters"] t.g8 t.hZ
 fR:kA K "check_rows" d8 ["rows"] t.jG t.jO
 j0:Kj K "__init__" "Rules.__init__" jF ["self","ways","rows"] t.d9 t.jP
 gO:Meth K t.aK "pen" t.gS
 kM:gK K "pen" "Rules.pen" mV ["self"] t.gS t.kK
 eD:Meth K t.aK "letters" t.cY
 gI:gK K "letters" "Rules.letters" jo ["self"] t.cY t.gy
 eZ:Meth K t.aK "row_of" t.cM
 ip:gK K "row_of" "Rules.row_of" gZ ["self","letter"] t.cM t.ia
 f9:Meth K t.aK "deed" t.fO
 j4:gK K "deed" "Rules.deed" l1 ["self","letter"] t.fO t.jQ
 gb:Meth K t.aK "word" t.fP
 j5:gK K "word" "Rules.word" l2 ["self","letter"] t.fP t.jR
 eE:Meth K t.aK "word_of" t.aT
 qF:Binds K t.gz ["self","text","most"] [.int 8 t.gA]
 rL:zq K "word_of" "Rules.word_of" aS t.aT t.gz
 ET:W.keepIn K (.ref t.aT)=true
 EU:Binds K t.gz ["self","text","most"] []
 qG:kA K "_law_cell" Bp ["_law_script","_law_k"] t.xU t.xW
 nO:kA K "_law_whole" xE ["_law_found"] t.su t.sE
 iI:kA K "_law_alphabet" oR ["_law_cell_here","_law_many"] t.l7 t.ma
 qH:kA K "_law_text" Bq ["_law_number","_law_alphabet_here","_law_most"] t.xV t.xX
 nP:kA K "_law_shape" xF ["_law_script","_law_far"] t.sv t.sF
 wg:kA K "_law_big" GN ["_law_script","_law_k"] t.CJ t.CK
 nQ:kA K "_law_along" xG ["_law_ways","_law_spot"] t.sx t.sG
 zX:kA K "law" GO ["_law_script"] t.pP t.uq
 GX:mg "all"=none
 Bu:mg "bool"=none
 m8:mg "dict"=none
 kN:mg "enumerate"=none
 GY:mg "int"=none
 j6:mg "isinstance"=none
 jB:mg "len"=none
 x5:mg "list"=none
 wj:mg "max"=none
 CL:mg "min"=none
 iZ:mg "range"=none
 oX:mg "reversed"=none
 uB:mg "sorted"=none
 zY:mg "sum"=none
 x6:mg "tuple"=none
theorem OQ {K:W.Frag}{h:Heap}{mg:Str->Option Value}(X:K.In h)(G:h.Ns mainGlobals mg){si sj g7 c7 c8 fz dZ dD bf cV fH bM eK pO fJ fK fL cW b8 cX b9 cb fM dF sk gk l6 iN sq dH bX a5 bF m7 fN eO bN bx dJ bC aY cv cw e9 g8 jG d9 gS cY cM fO fP aT xU su l7 xV sv CJ sx pP aM bT aK au aw aC jS cI:Addr}{sy sA g9 jH jI l8 kJ hE cQ gm jJ dm iO pQ jK jL jM gq gu jN hU sC gv l9 iS sD hV ee dn fe pR fQ iT dq eh hX c9 cD gw gx ff hZ jO jP kK gy ia jQ jR xW sE ma xX sF CK sG uq:FuncData}{iU iV iW gA y0 y1 y2:Tok}{y3:Option Addr}{y4:Nat}{y5:Array (Option Value)}{GZ G1 G3 G4 G5:Tok}{y6:Option Addr}{y7:Nat}{y8:Array (Option Value)}{uC uD:Tok}{y9 XR:Option Addr}{Z9:Array (Option Value)}{y12 XS XT XU Wi XW:Value}{kX:Addr}{y18:Option Addr}{y19:Value}{y20:Nat}{y21:Array (Option Value)}{y22 XY:Option Addr}{y24:Array (Option Value)}{y25 XZ X0 X1 Wj X2:Value}{kY:Addr}{y31:Option Addr}{y32:Value}{y33:Nat}{y34:Array (Option Value)}{y35 X3:Option Addr}{y37:Array (Option Value)}{y38 X4 X5 X6 Wk X7:Value}{kZ:Addr}{y44:Option Addr}{y45:Value}{y46:Nat}{y47:Array (Option Value)}{y48 X8:Option Addr}{y50:Array (Option Value)}{y51 X9 Ya Yb Wl Yc:Value}{jr:Addr}{y57:Option Addr}{y58:Value}{y59:Nat}{y60:Array (Option Value)}
   (iG:Ec K "Quarter" aM)
   (me:Ec K "Sixth" bT)
   (dt:Ec K "Rules" aK)
   (aP:Ec K "Growth" au)
   (aA:Ec K "Track" aw)
   (bO:Ec K "Drawing" aC)
   (oV:NH K aM)
   (uu:NH K bT)
   (uv:L2.Mk K aK d9)
   (qE:L2.Mk K au eO)
   (uw:L2.Mk K aw fJ)
   (oW:L2.Mk K aC dH)
   (gB:W.findIn K (.ref aK) "drawer"=some none)
   (aN:W.findIn K (.ref aK) "row_by_letter"=some none)
   (cy:W.findIn K (.ref au) "rules"=some none)
   (fA:W.findIn K (.ref au) "seed"=some none)
   (cm:W.findIn K (.ref au) "tallies"=some none)
   (cn:W.findIn K (.ref au) "lengths"=some none)
   (cZ:W.findIn K (.ref aw) "drawer"=some none)
   (a6:W.findIn K (.ref aw) "deed_count"=some none)
   (bb:W.findIn K (.ref aw) "last_way"=some none)
   (aR:W.findIn K (.ref aw) "last_spot"=some none)
   (bV:W.findIn K (.ref aw) "stroke_count"=some none)
   (bY:W.findIn K (.ref aw) "reaches"=some none)
   (dM:W.findIn K (.ref aw) "touches"=some none)
   (dN:W.findIn K (.ref aw) "crosses"=some none)
   (bG:W.findIn K (.ref aC) "growth"=some none)
   (bH:W.findIn K (.ref aC) "tracks"=some none)
   (G6:W.nsIn K mainGlobals "DEEDS"=some (some (.ref jS)))
   (G7:K.lookup jS=some ⟨.type "tuple",y3,.seq #[.str "stroke" GZ,.str "step" G1,.str "left" G3,.str "right" G4,.str "rest" G5] y4,y5⟩)
   (uE:W.nsIn K mainGlobals "GOING_DEEDS"=some (some (.ref cI)))
   (uF:K.lookup cI=some ⟨.type "tuple",y6,.seq #[.str "stroke" uC,.str "step" uD] y7,y8⟩)
   (x8:W.nsIn K mainGlobals "MOST_ROWS"=some (some (.int 6 y0)))
   (rM:W.nsIn K mainGlobals "MOST_IN_WORD"=some (some (.int 8 y1)))
   (vF:W.nsIn K mainGlobals "LAST_ROUND"=some (some (.int 200 y2)))
   (nJ:kA K "added" xB ["one","other"] si sy)
   (nK:kA K "cross" xC ["one","other"] sj sA)
   (dO:kA K "turn_of_deed" kg ["deed"] g7 g9)
   (eW:Meth K aM "way_of" c7)
   (fV:Meth K bT "way_of" c7)
   (jT:gK K "way_of" "Pen.way_of" lS ["self","number"] c7 jH)
   (eX:Meth K aM "turned" c8)
   (fW:Meth K bT "turned" c8)
   (jU:gK K "turned" "Pen.turned" lU ["self","spot","by"] c8 jI)
   (fX:Meth K aM "step" fz)
   (ib:Meth K bT "step" fz)
   (mf:gK K "step" "Pen.step" oP ["self","way"] fz l8)
   (fB:Meth K aM "after" dZ)
   (gN:Meth K bT "after" dZ)
   (kL:gK K "after" "Pen.after" mU ["self","deed","spot","way"] dZ kJ)
   (dP:Meth K aM "ways" dD)
   (ig:gK K "ways" "Quarter.ways" kh ["self"] dD hE)
   (bZ:Meth K aM "turned_left" bf)
   (cR:gK K "turned_left" "Quarter.turned_left" eV ["self","spot"] bf cQ)
   (dh:Meth K aM "along" cV)
   (gC:gK K "along" "Quarter.along" jl ["self","way","spot"] cV gm)
   (fY:Meth K bT "ways" fH)
   (jV:gK K "ways" "Sixth.ways" lV ["self"] fH jJ)
   (cN:Meth K bT "turned_left" bM)
   (du:gK K "turned_left" "Sixth.turned_left" fT ["self","spot"] bM dm)
   (fC:Meth K bT "along" eK)
   (iX:gK K "along" "Sixth.along" kS ["self","way","spot"] eK iO)
   (lC:kA K "pen_of" t9 ["ways"] pO pQ)
   (jW:Kj K "__init__" "Track.__init__" lW ["self","pen","deed_count","last_way","last_spot","stroke_count","reaches","touches","crosses"] fJ jK)
   (fZ:Meth K aw "many" fK)
   (jX:gK K "many" "Track.many" lX ["self"] fK jL)
   (f6:Meth K aw "turn" fL)
   (jY:gK K "turn" "Track.turn" lY ["self"] fL jM)
   (er:Meth K aw "strokes" cW)
   (gD:gK K "strokes" "Track.strokes" jm ["self"] cW gq)
   (da:Meth K aw "shift" b8)
   (y61:K.lookup b8=some ⟨y12,y9,.func (W.fnOf "shift" "Track.shift" (bS b5) (aE b5) (af b5) (.ref kX) XS XT XU XR Wi XW),Z9⟩)
   (Yd:K.lookup kX=some ⟨y19,y18,.seq #[.int 0 iU] y20,y21⟩)
   (y63:W.codeIn K Wi "Track.shift"=true)
   (y64:W.keepIn K (.ref b8)=true)
   (eu:Meth K aw "by_ways" cX)
   (gF:gK K "by_ways" "Track.by_ways" eJ ["self","numbers","first"] cX gu)
   (dc:Meth K aw "reach" b9)
   (y65:K.lookup b9=some ⟨y25,y22,.func (W.fnOf "reach" "Track.reach" (bS b6) (aE b6) (af b6) (.ref kY) XZ X0 X1 XY Wj X2),y24⟩)
   (Ye:K.lookup kY=some ⟨y32,y31,.seq #[.int 0 iV] y33,y34⟩)
   (y67:W.codeIn K Wj "Track.reach"=true)
   (y68:W.keepIn K (.ref b9)=true)
   (de:Meth K aw "touch" cb)
   (y69:K.lookup cb=some ⟨y38,y35,.func (W.fnOf "touch" "Track.touch" (bS b7) (aE b7) (af b7) (.ref kZ) X4 X5 X6 X3 Wk X7),y37⟩)
   (Yf:K.lookup kZ=some ⟨y45,y44,.seq #[.int 0 iW] y46,y47⟩)
   (y71:W.codeIn K Wk "Track.touch"=true)
   (y72:W.keepIn K (.ref cb)=true)
   (f7:Meth K aw "area" fM)
   (jZ:gK K "area" "Track.area" lZ ["self"] fM jN)
   (eY:Meth K aw "joined" dF)
   (ij:gK K "joined" "Track.joined" ki ["self","other"] dF hU)
   (nL:kA K "still" xD ["pen"] sk sC)
   (c5:kA K "track_of_deed" cu ["pen","deed"] gk gv)
   (iH:kA K "track_of" oQ ["pen","deeds"] l6 l9)
   (eP:kA K "check_round" kT ["age","first","last"] iN iS)
   (nM:kA K "tally" pK ["rules","word"] sq sD)
   (ik:Kj K "__init__" "Drawing.__init__" fq ["self","growth"] dH hV)
   (cE:Meth K aC "join_all" bX)
   (eA:gK K "join_all" "Drawing.join_all" gL ["self","tracks"] bX ee)
   (cz:Meth K aC "deepen_to" a5)
   (dv:gK K "deepen_to" "Drawing.deepen_to" bL ["self","age"] a5 dn)
   (cO:Meth K aC "stretch" bF)
   (fg:gK K "stretch" "Drawing.stretch" ck ["self","age","begin","end"] bF fe)
   (lD:kA K "summed" i8 ["tallies","letters"] m7 pR)
   (cK:kA K "waiting_pieces" dC ["word","rounds"] fN fQ)
   (iY:Kj K "__init__" "Growth.__init__" dg ["self","rules","start"] eO iT)
   (cF:Meth K au "rules_told" bN)
   (dw:gK K "rules_told" "Growth.rules_told" fU ["self"] bN dq)
   (cP:Meth K au "deepen_to" bx)
   (eB:gK K "deepen_to" "Growth.deepen_to" bw ["self","age"] bx eh)
   (eC:Meth K au "enter" dJ)
   (il:gK K "enter" "Growth.enter" kj ["self","age"] dJ hX)
   (cA:Meth K au "check_place" bC)
   (df:gK K "check_place" "Growth.check_place" fu ["self","age","place"] bC c9)
   (b0:Meth K au "check_stretch" aY)
   (cG:gK K "check_stretch" "Growth.check_stretch" d7 ["self","age","begin","end"] aY cD)
   (dQ:Meth K au "length" cv)
   (gG:gK K "length" "Growth.length" cU ["self","age"] cv gw)
   (dR:Meth K au "pieces" cw)
   (gH:gK K "pieces" "Growth.pieces" gj ["self","age","begin","end"] cw gx)
   (cq:kA K "is_small_letter" gY ["text"] e9 ff)
   (dS:kA K "is_word_over" fw ["word","letters"] g8 hZ)
   (fR:kA K "check_rows" d8 ["rows"] jG jO)
   (j0:Kj K "__init__" "Rules.__init__" jF ["self","ways","rows"] d9 jP)
   (gO:Meth K aK "pen" gS)
   (kM:gK K "pen" "Rules.pen" mV ["self"] gS kK)
   (eD:Meth K aK "letters" cY)
   (gI:gK K "letters" "Rules.letters" jo ["self"] cY gy)
   (eZ:Meth K aK "row_of" cM)
   (ip:gK K "row_of" "Rules.row_of" gZ ["self","letter"] cM ia)
   (f9:Meth K aK "deed" fO)
   (j4:gK K "deed" "Rules.deed" l1 ["self","letter"] fO jQ)
   (gb:Meth K aK "word" fP)
   (j5:gK K "word" "Rules.word" l2 ["self","letter"] fP jR)
   (eE:Meth K aK "word_of" aT)
   (y73:K.lookup aT=some ⟨y51,y48,.func (W.fnOf "word_of" "Rules.word_of" (bS aS) (aE aS) (af aS) (.ref jr) X9 Ya Yb X8 Wl Yc),y50⟩)
   (Yg:K.lookup jr=some ⟨y58,y57,.seq #[.int 8 gA] y59,y60⟩)
   (y75:W.codeIn K Wl "Rules.word_of"=true)
   (y76:W.keepIn K (.ref aT)=true)
   (qG:kA K "_law_cell" Bp ["_law_script","_law_k"] xU xW)
   (nO:kA K "_law_whole" xE ["_law_found"] su sE)
   (iI:kA K "_law_alphabet" oR ["_law_cell_here","_law_many"] l7 ma)
   (qH:kA K "_law_text" Bq ["_law_number","_law_alphabet_here","_law_most"] xV xX)
   (nP:kA K "_law_shape" xF ["_law_script","_law_far"] sv sF)
   (wg:kA K "_law_big" GN ["_law_script","_law_k"] CJ CK)
   (nQ:kA K "_law_along" xG ["_law_ways","_law_spot"] sx sG)
   (zX:kA K "law" GO ["_law_script"] pP uq)
   (GX:W.nsIn K mainGlobals "all"=some none)
   (Bu:W.nsIn K mainGlobals "bool"=some none)
   (m8:W.nsIn K mainGlobals "dict"=some none)
   (kN:W.nsIn K mainGlobals "enumerate"=some none)
   (GY:W.nsIn K mainGlobals "int"=some none)
   (j6:W.nsIn K mainGlobals "isinstance"=some none)
   (jB:W.nsIn K mainGlobals "len"=some none)
   (x5:W.nsIn K mainGlobals "list"=some none)
   (wj:W.nsIn K mainGlobals "max"=some none)
   (CL:W.nsIn K mainGlobals "min"=some none)
   (iZ:W.nsIn K mainGlobals "range"=some none)
   (oX:W.nsIn K mainGlobals "reversed"=some none)
   (uB:W.nsIn K mainGlobals "sorted"=some none)
   (zY:W.nsIn K mainGlobals "sum"=some none)
   (x6:W.nsIn K mainGlobals "tuple"=some none)
   : ∃ t,Txt K mg t/\t.pP=pP:=
 ⟨⟨si,sj,g7,c7,c8,fz,dZ,dD,bf,cV,fH,bM,eK,pO,fJ,fK,fL,cW,b8,cX,b9,cb,fM,dF,sk,gk,l6,iN,sq,dH,bX,a5,bF,m7,fN,eO,bN,bx,dJ,bC,aY,cv,cw,e9,g8,jG,d9,gS,cY,cM,fO,fP,aT,xU,su,l7,xV,sv,CJ,sx,pP,sy,sA,g9,jH,jI,l8,kJ,hE,cQ,gm,jJ,dm,iO,pQ,jK,jL,jM,gq,(W.fnOf "shift" "Track.shift" (bS b5) (aE b5) (af b5) (.ref kX) XS XT XU XR Wi XW),gu,(W.fnOf "reach" "Track.reach" (bS b6) (aE b6) (af b6) (.ref kY) XZ X0 X1 XY Wj X2),(W.fnOf "touch" "Track.touch" (bS b7) (aE b7) (af b7) (.ref kZ) X4 X5 X6 X3 Wk X7),jN,hU,sC,gv,l9,iS,sD,hV,ee,dn,fe,pR,fQ,iT,dq,eh,hX,c9,cD,gw,gx,ff,hZ,jO,jP,kK,gy,ia,jQ,jR,(W.fnOf "word_of" "Rules.word_of" (bS aS) (aE aS) (af aS) (.ref jr) X9 Ya Yb X8 Wl Yc),xW,sE,ma,xX,sF,CK,sG,uq,iU,iV,iW,gA,aM,bT,aK,au,aw,aC,jS,cI,y0,y1,y2,K⟩,⟨rfl,
   W.mg_of X G,
   W.mg_none_of X G,
   iG,
   me,
   dt,
   aP,
   aA,
   bO,
   oV,
   uu,
   uv,
   qE,
   uw,
   oW,
   gB,
   aN,
   cy,
   fA,
   cm,
   cn,
   cZ,
   a6,
   bb,
   aR,
   bV,
   bY,
   dM,
   dN,
   bG,
   bH,
   W.mg_of X G G6,
   fun H=>.tup (vs:=[.str "stroke",.str "step",.str "left",.str "right",.str "rest"]) (.inr ⟨_,_,_,G7,rfl,rfl,Nat.le_of_ble_eq_true rfl,.cons ⟨_,rfl⟩ (.cons ⟨_,rfl⟩ (.cons ⟨_,rfl⟩ (.cons ⟨_,rfl⟩ (.cons ⟨_,rfl⟩ (.nil)))))⟩) (.cons (.str _) (.cons (.str _) (.cons (.str _) (.cons (.str _) (.cons (.str _) (.nil)))))),
   W.mg_of X G uE,
   fun H=>.tup (vs:=[.str "stroke",.str "step"]) (.inr ⟨_,_,_,uF,rfl,rfl,Nat.le_of_ble_eq_true rfl,.cons ⟨_,rfl⟩ (.cons ⟨_,rfl⟩ (.nil))⟩) (.cons (.str _) (.cons (.str _) (.nil))),
   W.mg_of X G x8,
   W.mg_of X G rM,
   W.mg_of X G vF,
   nJ,
   nK,
   dO,
   eW,
   fV,
   jT,
   eX,
   fW,
   jU,
   fX,
   ib,
   mf,
   fB,
   gN,
   kL,
   dP,
   ig,
   bZ,
   cR,
   dh,
   gC,
   fY,
   jV,
   cN,
   du,
   fC,
   iX,
   lC,
   jW,
   fZ,
   jX,
   f6,
   jY,
   er,
   gD,
   da,
   fun s us X hl=>by obtain⟨z,rfl⟩:=A5 hl;exact BindsTo.of_defaults rfl (X _ _ Yd) rfl rfl rfl,
   pC (st:=b5) y61 y63,
   y64,
   fun s us X hl=>by obtain⟨z,y,rfl⟩:=xk hl;exact BindsTo.of_defaults rfl (X _ _ Yd) rfl rfl rfl,
   eu,
   gF,
   dc,
   fun s us X hl=>by obtain⟨z,rfl⟩:=A5 hl;exact BindsTo.of_defaults rfl (X _ _ Ye) rfl rfl rfl,
   pC (st:=b6) y65 y67,
   y68,
   fun s us X hl=>by obtain⟨z,y,rfl⟩:=xk hl;exact BindsTo.of_defaults rfl (X _ _ Ye) rfl rfl rfl,
   de,
   fun s us X hl=>by obtain⟨z,rfl⟩:=A5 hl;exact BindsTo.of_defaults rfl (X _ _ Yf) rfl rfl rfl,
   pC (st:=b7) y69 y71,
   y72,
   fun s us X hl=>by obtain⟨z,y,rfl⟩:=xk hl;exact BindsTo.of_defaults rfl (X _ _ Yf) rfl rfl rfl,
   f7,
   jZ,
   eY,
   ij,
   nL,
   c5,
   iH,
   eP,
   nM,
   ik,
   cE,
   eA,
   cz,
   dv,
   cO,
   fg,
   lD,
   cK,
   iY,
   cF,
   dw,
   cP,
   eB,
   eC,
   il,
   cA,
   df,
   b0,
   cG,
   dQ,
   gG,
   dR,
   gH,
   cq,
   dS,
   fR,
   j0,
   gO,
   kM,
   eD,
   gI,
   eZ,
   ip,
   f9,
   j4,
   gb,
   j5,
   eE,
   fun s us X hl=>by obtain⟨z,y,rfl⟩:=N5 hl;exact BindsTo.of_defaults rfl (X _ _ Yg) rfl rfl rfl,
   pC (st:=aS) y73 y75,
   y76,
   fun s us X hl=>match us,hl with | [_,_,_],_=>BindsTo.of_defaults rfl (X _ _ Yg) rfl rfl rfl,
   qG,
   nO,
   iI,
   qH,
   nP,
   wg,
   nQ,
   zX,
   W.mg_none_of X G GX,
   W.mg_none_of X G Bu,
   W.mg_none_of X G m8,
   W.mg_none_of X G kN,
   W.mg_none_of X G GY,
   W.mg_none_of X G j6,
   W.mg_none_of X G jB,
   W.mg_none_of X G x5,
   W.mg_none_of X G wj,
   W.mg_none_of X G CL,
   W.mg_none_of X G iZ,
   W.mg_none_of X G oX,
   W.mg_none_of X G uB,
   W.mg_none_of X G zY,
   W.mg_none_of X G x6⟩,rfl⟩
theorem OR {K:W.Frag}{mg:Str->Option Value}{t:dX}(T:Txt K mg t)(s:Shared)(u:Value):BindsTo s t.uq ⟨[u],[]⟩ [("_law_script",u)]:=by
 obtain⟨oc,od,kV,doc,pm,an,bA,ct,vP,e,lk,k7⟩:=T.zX.F.ex
 rw[e];exact .of_eq rfl
abbrev CX:qe:=W6
def sg (c:Nat):Str:=⟨#[c]⟩
def tx (w:List Nat):Str:=⟨w.toArray⟩
structure Row where
 c:Nat
 d:Str
 w:List Nat
def oB:List Str:=["stroke","step","left","right","rest"]
def pS (r:Row):Dt:=.tup [.str (sg r.c),.str r.d,.str (tx r.w)]
def small (c:Nat):Prop:=97<=c/\c<=122
structure bR (rows:List Row):Prop where
 pos:0 < rows.length
 le:rows.length<=6
 nd:(rows.map (·.c)).Nodup
 sm:∀ r∈rows,small r.c
 dd:∀ r∈rows,r.d∈oB
 wp:∀ r∈rows,0 < r.w.length/\r.w.length<=8
 wo:∀ r∈rows,∀ x∈r.w,x∈rows.map (·.c)
def qI (rows:List Row):List (Key×Dt):=rows.map fun r=>(.inr (sg r.c),pS r)
abbrev Rl:=List Dt->Res->Prop
def wy (six:Bool):Int:=if six then 6 else 4
def dX.pc (t:dX)(six:Bool):Addr:=if six then t.bT else t.aM
def dX.yA (t:dX)(six:Bool)(rows:List Row):Dt:=.obj t.aK [("drawer",.gU (.obj (t.pc six) [])),("row_by_letter",.d0 (qI rows))]
theorem qJ {a b:Nat}(h:sg a=sg b):a=b:=by
 have:=congrArg (fun s:Str=>s.cps.toList) h
 simpa [sg] using this
theorem G8 {c:Nat}{L:List Nat}:sg c∈L.map sg ↔ c∈L:=by
 constructor
 . intro h
   obtain⟨x,hx,e⟩:=List.mem_map.mp h
   rw[<- qJ e];exact hx
 . exact fun h=>List.mem_map.mpr ⟨c,h,rfl⟩
theorem Wm {c:Nat}(h:97<=c):NZ "a" (sg c)=true:=by
 have e:("a":Str).cps.toList=[97]:=rfl
 unfold NZ
 rw[e]
 show(!decide ([c] < [97]))=true
 have:¬ ([c] < [97]):=by
   intro z
   rcases List.cons_lt_cons_iff.mp z with z | ⟨_,z⟩
   . omega
   . exact absurd z (by simp)
 simp[this]
theorem Wn {c:Nat}(h:c<=122):NZ (sg c) "z"=true:=by
 have e:("z":Str).cps.toList=[122]:=rfl
 unfold NZ
 rw[e]
 show(!decide ([122] < [c]))=true
 have:¬ ([122] < [c]):=by
   intro z
   rcases List.cons_lt_cons_iff.mp z with z | ⟨_,z⟩
   . omega
   . exact absurd z (by simp)
 simp[this]
theorem uG (w:List Nat):Sg.signs (tx w)=(w.map sg).map Dt.str:=by
 unfold Sg.signs tx
 rw[List.map_map];rfl
theorem gQ (w:List Nat):(tx w).length=w.length:=by show w.toArray.size=w.length;simp
theorem ja {w:List Nat}(h:∀ x∈w,x < 128):ji (tx w)=true:=by
 unfold ji tx
 rw[Array.all_eq_true_iff_forall_mem]
 intro x hx
 exact decide_eq_true (h x (by simpa using hx))
theorem qK:∀ {rows:List Row},(rows.map (·.c)).Nodup->∀ {r:Row},r∈rows->lj (qI rows) (.inr (sg r.c))=some (pS r)
 | [],_,r,h=>by cases h
 | q::rows,nd,r,h=>by
   rw[List.map_cons,List.nodup_cons] at nd
   rcases List.mem_cons.mp h with rfl | h
   . exact pF (p:=(.inr (sg r.c),pS r)) rfl
   . have ne:¬ (Sum.inr (sg q.c):Key)=.inr (sg r.c):=fun z=>nd.1 (by
       rw[qJ (Sum.inr.inj z)]
       exact List.mem_map.mpr ⟨r,h,rfl⟩)
     show lj ((.inr (sg q.c),pS q)::qI rows) _=_
     rw[mR (p:=(.inr (sg q.c),pS q)) ne]
     exact qK nd.2 h
theorem qX {n:Nat}(h:n<=2000):n<=sizeLine:=Nat.le_trans h (by decide)
def Kr:Rl:=fun ds r=>∃ c,ds=[.str (sg c)]/\small c/\r=.ret (.bl true)
def OS:Rl:=fun ds r=>∃ (w L:List Nat),ds=[.str (tx w),.lst ((L.map sg).map .str)]/\(0 < w.length/\w.length<=8)/\(∀ x∈w,x∈L)/\(∀ x∈L,small x)/\r=.ret (.bl true)
def Kt:Rl:=fun ds r=>∃ rows,ds=[.lst (rows.map pS)]/\bR rows/\r=.ret .cL
def OT:Stmt->Scope
 | .Return (some (.BoolOp _ [_,.Call _ [.ListComp _ _ sc _] _ _] _)) _=>sc
 | _=>af (.Pass ⟨0,0,0,0⟩)
abbrev Ku:Scope:=OT ((aE fw).getD 0 (.Pass ⟨0,0,0,0⟩))
theorem CM:jx Ku (af fw) m6 ["sign","letters"] ["sign"] [1]=true:=by decide +kernel
abbrev Ee:Scope:=Rp ((aE d8).getD 2 (.Pass ⟨0,0,0,0⟩))
theorem wk:jx Ee (af d8) l5 ["row"] ["row"] []=true:=by decide +kernel
abbrev Kv:Scope:=Rp ((aE d8).getD 3 (.Pass ⟨0,0,0,0⟩))
theorem CN:jx Kv (af d8) l5 ["first"] ["first"] []=true:=by decide +kernel
theorem fh {X:Cx}{G:Gr}{dl:List Slot}{zs Yh:List Dt}{wi:TI}(h:rh X G dl zs wi)(e:Yh=zs):rh X G dl Yh wi:=by subst e;exact h
variable {P:Program}{w:World}{K:W.Frag}{mg:Str->Option Value}{base:Heap}{t:dX}
theorem G9 (T:Txt K mg t):GF P w K mg base CX 1 "is_small_letter" 1 Kr:=by
 refine⟨_,_,_,i6 T.cq.F oU rfl fun bA A outer s H E G ds r hr hl hR=>?_,(T.g T.cq.a),T.cq.F.kp,T.cq.b⟩
 obtain⟨c,rfl,⟨h1,h2⟩,rfl⟩:=hR
 exact⟨_,.rt _,aq (aI (tK (u:=true) (v:=true) (aU (A4 (w6 T.jB (aa 0 rfl) (qX (n:=1) (by decide))) ao) rfl) fun _=>(pj (aU (F8 eU (aa 0 rfl) eU) (by rw[Wm h1,Wn h2];rfl)))))⟩
theorem Kw (T:Txt K mg t):GF P w K mg base CX 1 "is_word_over" 2 OS:=by
 refine⟨_,_,_,i6 T.dS.F rG rfl fun bA A outer s H E G ds r hr hl hR=>?_,(T.g T.dS.a),T.dS.F.kp,T.dS.b⟩
 obtain⟨wd,L,rfl,⟨h0,h8⟩,hw,hL,rfl⟩:=hR
 have N4:ji (tx wd)=true:=ja fun x hx=>by have:=hL x (hw x hx);unfold small at this;omega
 have hlen:=gQ wd
 have e1:(decide ((1:Int)<=((tx wd).length:Nat)) && decide (((tx wd).length:Nat)<=(8:Int)))=true:=by
   rw[hlen,decide_eq_true (by omega),decide_eq_true (by omega)];rfl
 have e2:(((wd.filter fun _=>true).map fun x=>Dt.bl (decide (sg x∈L.map sg))))=((List.replicate wd.length true).map Dt.bl):=by
   rw[List.filter_eq_self.mpr (fun _ _=>rfl)]
   refine List.ext_getElem (by simp) fun i h1 h2=>?_
   simp only[List.getElem_map,List.getElem_replicate]
   have hi:i < wd.length:=by simpa using h1
   rw[decide_eq_true (G8.mpr (hw _ (List.getElem_mem hi)))]
 have e3:(List.replicate wd.length true).all id=true:=by simp
 have es:wd.map (fun x=>Dt.str (sg x))=Sg.signs (tx wd):=by rw[uG,List.map_map];rfl
 refine⟨_,.rt _,aq (aI (tK (u:=true) (v:=true) (aU (F9 ao (w6 T.jB (aa 0 rfl) (qX (by omega))) (kG (w:=.int 8) T.ux ⟨_,rfl⟩ fun _=>.int 8)) (congrArg Dt.bl e1)) fun _=>(pj (aU (N2 (bs:=List.replicate wd.length true) T.GX rfl (aU (jw (jh wd (fun x=>Dt.str (sg x)) (fun x=>.bl (decide (sg x∈L.map sg))) (fun x=>[.val (.str (sg x))]) (fun _=>true) rfl (dj CM) (jk (aa 0 rfl)) (dB (dj CM) rfl) (fh (eI N4) es) (fun a _=>e6) (.nil fun _ _=>rfl)
   (fun a ha _ C fp s' H' G'=>N1 (aa 0 rfl) (aa 1 rfl)) (qX (by omega)))) (congrArg Dt.lst e2))) (congrArg Dt.bl e3)))))⟩
theorem Bv {k:Nat}{ds:List Dt}{K:W.Frag}{H:Hp}{vs:List V}(r:bg K H vs ds)(hk:k<=ds.length):bg K H (Dw vs none (some (k:Int))) (ds.take k):=by
 unfold Dw
 rw[HT.Fg,HT.Js,List.drop_zero,r.length,Nat.min_eq_left hk,Nat.sub_zero]
 exact r.take k
theorem Kx {X:Cx}{G:Gr}{dl:List Slot}{a b:Expr}{ds:List Dt}{k:Nat}{pos p2:Pos}(ha:EE X G dl a (.lst ds))(hb:EE X G dl b (.int (k:Int)))(hk:k<=ds.length):EO X G dl (.Subscript a (.Slice none (some b) none p2) pos) (.lst (ds.take k)):=
 gd (yV Jv ha B4 (B5 hb)) fun st H Q ⟨Hf,S,kk⟩=>⟨Hf,S,fun v av H1 g1 r1=>by
   cases r1 with
   | @lst q vs _ hq rp=>
     refine⟨av,S.grow g1,fun z bW H2 g2 r2=>?_⟩
     cases r2
     have g:=g1.trans g2
     refine⟨(k:Int),rfl,q,vs,rfl,.of (g2.big _ _ (g1.sub _ _ hq)),fun p hp=>kk p bW _ (g.trans (.d5 g.sub hp)) (g.big.free hp) (g.sub.free hp) ⟨_,ak,Bv (rp.mono g2.bh) hk⟩⟩⟩
theorem iJ {L:List Dt}{L':List Dt}(e:L=L'){X:Cx}{G:Gr}{dl:List Slot}{z:Expr}(h:EO X G dl z (.lst L)):EE X G dl z (.lst L'):=by subst e;exact jw h
theorem Hc (T:Txt K mg t):GF P w K mg base CX 2 "check_rows" 1 Kt:=by
 refine⟨_,_,_,i6 T.fR.F oo rfl fun bA A outer s H E G ds r hr hl hR=>?_,(T.g T.fR.a),T.fR.F.kp,T.fR.b⟩
 obtain⟨rows,rfl,ok,rfl⟩:=hR
 have CO:=G9 (P:=P) (w:=w) (base:=base) T
 have OU:=Kw (P:=P) (w:=w) (base:=base) T
 have nd:=oo.nd
 have hp:=ok.pos
 have hl6:=ok.le
 let cs:=rows.map (·.c)
 let lt:List Dt:=(cs.map sg).map Dt.str
 have e0:(decide ((((rows.map pS).length:Nat):Int)=0))=false:=by rw[List.length_map];exact decide_eq_false (by omega)
 have e1:(decide ((6:Int) < (((rows.map pS).length:Nat):Int)))=false:=by rw[List.length_map];exact decide_eq_false (by omega)
 have ef:((rows.filter fun _=>true).map fun r=>Dt.str (sg r.c))=lt:=by
   rw[List.filter_eq_self.mpr (fun _ _=>rfl)]
   show _=((rows.map (·.c)).map sg).map Dt.str
   rw[List.map_map,List.map_map];rfl
 have ez:(rows.map fun r=>Dt.str (sg r.c))=lt:=by
   show _=((rows.map (·.c)).map sg).map Dt.str
   rw[List.map_map,List.map_map];rfl
 have hsz:rows.length<=sizeLine:=qX (by omega)
 let S:Nat->List Slot:=fun _=>[.val (.lst (rows.map pS)),.val (.lst lt),.val (.lst lt),.aO,.aO,.aO]
 let xs:=rows.map pS
 have Ky:xs.length=rows.length:=List.length_map ..
 refine⟨.nx (S rows.length),.nx _,ai (cj (u:=false) (di (lO (Ci T.jB (aa 0 rfl)) ao) e0) (fun h=>nomatch h) (fun h=>cg))
   (ai (cj (u:=false) (di (zk (Ci T.jB (aa 0 rfl)) (kG (w:=.int 6) T.zW ⟨_,rfl⟩ fun _=>.int 6)) e1) (fun h=>nomatch h) (fun h=>cg))
   (ai (F2 1 rows pS (fun r=>Dt.str (sg r.c)) (fun r=>[.val (pS r)]) (fun _=>true) rfl nd (dj wk) (kC (aa 0 rfl)) (dB (dj wk) rfl) lh (fun a _=>e6) (.nil fun _ _=>rfl) (fun a ha _ C fp s' H' G'=>a0 (aa 0 rfl) ao rfl) hsz)
   ?r1))⟩
 rw[ef]
 refine tP 1 (w:=.lst lt) (ai (F2 2 rows (fun r=>Dt.str (sg r.c)) (fun r=>Dt.str (sg r.c)) (fun r=>[.val (.str (sg r.c))]) (fun _=>true) rfl nd (dj CN) (kC (aa 1 rfl)) (dB (dj CN) rfl) (fh lh ez) (fun a _=>e6)
   (.one fun a ha C fp s' H' G'=>zi (bU CO aB hr (ae (aa 0 rfl) aj) ⟨a.c,rfl,ok.sm a ha,rfl⟩)) (fun a ha _ C fp s' H' G'=>aa 0 rfl) hsz) ?r2)
 rw[ef]
 refine tP 2 (w:=.lst lt) (aq (pE (o:=.nx (S rows.length)) (m:=rows.length) (List.range xs.length) (fun(j:Nat)=>.tup [.int j,xs.getD j .cL]) (fun(j:Nat) dl=>(dl.set 3 (.val (.int j))).set 4 (.val (xs.getD j .cL))) S rfl PassesOwn.leaving
   (JW rfl T.kN (ae (aa 0 rfl) aj)) (DR (xs:=xs)) (sW rfl (c6 (bD nd rfl (.inl rfl)) (c6 (bD nd rfl (.inl rfl)) nh))) (fun a _=>Cr) (Le.of ⟨rfl,rfl,rfl,trivial⟩) (by rw[List.length_range,Ky];exact Nat.le_refl _) (fun j a hj ha=>?l) (by rw[List.length_range,Ky];exact .all rfl)))
 rw[List.getElem?_range (by omega)] at ha
 cases ha
 have ex:xs.getD j .cL=pS rows[j]:=by
   show(rows.map pS).getD j .cL=_
   rw[List.getD_eq_getElem?_getD,List.getElem?_map,List.getElem?_eq_getElem hj];rfl
 have hm:=List.getElem_mem hj
 have Vu:cs.length=rows.length:=List.length_map ..
 have eT:lt.take j=((cs.take j).map sg).map Dt.str:=by
   show((cs.map sg).map Dt.str).take j=_
   rw[<- List.map_take,<- List.map_take]
 have cS:lt.length=rows.length:=by show((cs.map sg).map Dt.str).length=_;rw[List.length_map,List.length_map,Vu]
 have Wo:sg rows[j].c ∉ (cs.take j).map sg:=by
   intro z
   have z:=G8.mp z
   obtain⟨i,hi,e⟩:=List.mem_iff_getElem.mp z
   rw[List.length_take] at hi
   rw[List.getElem_take] at e
   have h:=List.pairwise_iff_getElem.mp ok.nd i j (by rw[List.length_map];omega) (by rw[List.length_map];exact hj) (by omega)
   exact h (e.trans (List.getElem_map (f:=Row.c) (l:=rows) (i:=j) (h:=by rw[List.length_map];exact hj)).symm)
 have en:(!decide (sg rows[j].c∈(cs.take j).map sg))=true:=by rw[decide_eq_false Wo];rfl
 have v4:∀ {X:Cx} {G:Gr} {dl:List Slot} {e:Expr},EE X G dl e (xs.getD j .cL)->EE X G dl e (.tup [.str (sg rows[j].c),.str rows[j].d,.str (tx rows[j].w)]):=fun h=>by rw[ex] at h;exact h
 refine .nx (ai (ay 5 nd (tK (u:=true) (v:=true) (bU CO aB hr (ae (a0 (v4 (aa 4 rfl)) ao rfl) aj) ⟨_,rfl,ok.sm _ hm,rfl⟩) fun _=>(pj (aU (JX (xs:=(cs.take j).map sg) (a0 (v4 (aa 4 rfl)) ao rfl) (iJ eT (Kx (aa 1 rfl) (aa 3 rfl) (by rw[cS];exact Nat.le_of_lt hj)))) (congrArg Dt.bl en)))))
   (aq (cj (u:=false) (w4 (u:=true) (vb (qj (u:=true) (v:=true) (zi (aa 5 rfl)) fun _=>(qj (u:=true) (v:=true) (di (A8 (xs:=oB) (a0 (v4 (aa 4 rfl)) ao rfl) (kG (w:=.ref t.jS) T.xZ rfl T.x3)) (decide_eq_true (ok.dd _ hm))) fun _=>(rW (zi (bU OU aB hr (ae (a0 (v4 (aa 4 rfl)) ao rfl) (ae (aa 2 rfl) aj)) ⟨rows[j].w,cs,rfl,ok.wp _ hm,ok.wo _ hm,fun x hx=>?_,rfl⟩))))))) (fun h=>nomatch h) (fun h=>cg)))) (Le.of ⟨rfl,rfl,rfl,trivial⟩)
 obtain⟨r,hr',rfl⟩:=List.mem_map.mp hx
 exact ok.sm r hr'
def Hd (t:dX):Rl:=fun ds r=>∃ six,ds=[.int (wy six)]/\r=.ret (.gU (.obj (t.pc six) []))
def Kz (t:dX):Rl:=fun ds r=>∃ six rows,ds=[.int (wy six),.lst (rows.map pS)]/\bR rows/\r=.own (.obj t.aK [("drawer",.gU (.obj (t.pc six) [])),("row_by_letter",.d0 (qI rows))])
def rr (r:Row):Str×List Dt:=(sg r.c,[.str r.d,.str (tx r.w)])
theorem CP (rows:List Row):rows.map pS=(rows.map rr).map tX:=by rw[List.map_map];rfl
theorem OV (rows:List Row):qI rows=oi (rows.map rr):=by unfold oi qI;rw[List.map_map];rfl
theorem Sm {rows:List Row}(nd:(rows.map (·.c)).Nodup):((rows.map rr).map (·.1)).Nodup:=by
 have e:(rows.map rr).map (·.1)=(rows.map (·.c)).map sg:=by rw[List.map_map,List.map_map];rfl
 rw[e]
 exact List.Pairwise.map sg (fun a b h z=>h (qJ z)) nd
theorem Ef (T:Txt K mg t):GF P w K mg base CX 1 "pen_of" 1 (Hd t):=by
 refine⟨_,_,_,i6 T.lC.F Ed rfl fun bA A outer s H E G ds r hr hl hR=>?_,(T.g T.lC.a),T.lC.F.kp,T.lC.b⟩
 obtain⟨six,rfl,rfl⟩:=hR
 cases six with
 | false=>exact⟨_,.rt _,pk (cj (lO (aa 0 rfl) ao) (fun h=>aq (aI (zM T.oV (T.g T.iG.a)))) (fun h=>absurd h (by decide)))⟩
 | true=>exact⟨_,.rt _,ai (cj (lO (aa 0 rfl) ao) (fun h=>absurd h (by decide)) (fun h=>cg)) (pk (cj (lO (aa 0 rfl) ao) (fun h=>aq (aI (zM T.uu (T.g T.me.a)))) (fun h=>absurd h (by decide))))⟩
theorem He (T:Txt K mg t):P2 P w K mg base CX 3 "Rules" t.aK 3 (Kz t):=by
 refine⟨_,_,_,TM T.j0.F ow rfl fun bA A outer s H E G z ds r hr hl hR=>?_,T.uv,(T.g T.dt.a),T.j0.b⟩
 obtain⟨six,rows,rfl,ok,rfl⟩:=hR
 have So:=Ef (P:=P) (w:=w) (base:=base) T
 have KA:=Hc (P:=P) (w:=w) (base:=base) T
 have nd:=ow.nd
 have hu:(A.deeper (envOfC "Rules.__init__" (af jF) s.heap.objs.size t.d9 bA)).units+1 < cLine:=by have:=hr.units;omega
 rw[OV,CP]
 refine⟨_,.nx ?fin,ai (ay 3 nd (bU So aB hr (ae (aa 1 rfl) aj) ⟨six,rfl,rfl⟩))
   (ai (pq (bU KA aB hr (ae (aa 2 rfl) aj) ⟨rows,by rw[CP],ok,rfl⟩))
   (ai (jg (aa 3 rfl) T.dt.cl T.gB)
   (Ge 2 4 (C:=t.aK) (rows:=rows.map rr) (dlu:=[.aO,.val (.int (wy six)),.val (.lst ((rows.map rr).map tX)),.val (.gU (.obj (t.pc six) [])),.aO]) hu nd rfl PassesOwn.leaving T.dt.cl T.aN rfl rfl rfl rfl (by decide) (by decide) rfl (Sm ok.nd) (by rw[List.length_map];exact Nat.lt_of_le_of_lt ok.le (by decide))
     (fun r=>a0 (aa 4 rfl) ao (kF (j:=0) rfl)) (fun r=>J1 T.x6 (aa 4 rfl)))))⟩
 rfl
open PySem.Builtin.Str in
theorem wq (x:Str){a b:Nat}(Qb:a<=b)(hb:b<=x.length){l u:Option Int}(h:strSliceIndices l u 1 x.length=strSliceIndices (some (a:Int)) (some (b:Int)) 1 x.length):Txt.slice x l u=⟨((x.cps.toList.drop a).take (b - a)).toArray⟩:=by
 unfold Txt.slice
 rw[h,PySem.StrLaws.sliced_plain x Qb hb]
 split
 . rename_i q
   rw[PySem.StrLaws.strSliceIndices_plain Qb hb,List.length_map,List.length_range] at q
   have q:b - a=x.length:=by simpa using q
   have ea:a=0:=by omega
   have eb:b=x.length:=by omega
   subst ea eb
   rw[List.drop_zero,Nat.sub_zero]
   have:x.cps.toList.take x.length=x.cps.toList:=List.take_of_length_le (by simp[Str.length])
   rw[this]
 . rfl
open PySem.Builtin.Str in
theorem Hg (L:List Nat){k:Nat}(h:k<=L.length):Txt.slice (tx L) none (some (k:Int))=tx (L.take k):=by
 rw[wq (tx L) (a:=0) (b:=k) (Nat.zero_le _) (by rw[gQ];exact h)]
 . show(⟨(((L.toArray.toList).drop 0).take (k - 0)).toArray⟩:Str)=_
   simp[tx]
 . simp[strSliceIndices]
   have e:max (0:Int) (min 0 ((tx L).length:Int))=0:=by omega
   rw[e]
open PySem.Builtin.Str in
theorem Bw (L:List Nat){k:Nat}(h:k<=L.length):Txt.slice (tx L) (some (k:Int)) none=tx (L.drop k):=by
 rw[wq (tx L) (a:=k) (b:=(tx L).length) (by rw[gQ];exact h) (Nat.le_refl _)]
 . show(⟨(((L.toArray.toList).drop k).take ((tx L).length - k)).toArray⟩:Str)=_
   rw[gQ,List.toList_toArray,List.take_of_length_le (by rw[List.length_drop];exact Nat.le_refl _)]
   rfl
 . simp[strSliceIndices]
   have e:max (0:Int) (min (if ((tx L).length:Int) < 0 then ((tx L).length:Int)+(tx L).length else (tx L).length) ((tx L).length:Int))=(tx L).length:=by
     rw[if_neg (by omega)];omega
   rw[e]
theorem OW (a b:List Nat):tx a ++ tx b=tx (a ++ b):=by
 show(⟨a.toArray ++ b.toArray⟩:Str)=⟨(a ++ b).toArray⟩
 simp
theorem Sq (L:List Nat){k:Nat}(h:k < L.length):lK (tx L).cps.toList (k:Int)=some (L.getD k 0):=by
 show lK L.toArray.toList (k:Int)=_
 rw[List.toList_toArray]
 refine kF ?_
 rw[List.getD_eq_getElem?_getD,List.getElem?_eq_getElem h];rfl
section
variable {X:Cx}{G:Gr}{dl:List Slot}{a b:Expr}{L M:List Nat}{k:Nat}{pos p p2:Pos}
theorem x9 (ha:EE X G dl a (.str (tx L)))(hb:EE X G dl b (.str (tx M)))(h:L.length+M.length<=2000):EE X G dl (.BinOp a .Add b pos) (.str (tx (L ++ M))):=
 aU (NA ha hb (by rw[gQ,gQ];exact qX h)) (by rw[OW])
theorem ya (ha:EE X G dl a (.str (tx L)))(hb:EE X G dl b (.int (k:Int)))(h:k < L.length)(hl:L.length<=2000)(hs:jC b:=by intro _ _;rfl):EE X G dl (.Subscript a b pos) (.str (tx [L.getD k 0])):=
 ND ha hb (Sq L h) (by rw[gQ];exact qX hl) hs
theorem KC (ha:EE X G dl a (.str (tx L)))(hb:EE X G dl b (.int (k:Int)))(h:k<=L.length)(hl:L.length<=2000):EE X G dl (.Subscript a (.Slice none (some b) none p2) pos) (.str (tx (L.take k))):=
 aU (F5 ha F4 (Ct hb) (by rw[gQ];exact qX hl)) (by rw[Hg L h])
theorem Eg (ha:EE X G dl a (.str (tx L)))(hb:EE X G dl b (.int (k:Int)))(h:k<=L.length)(hl:L.length<=2000):EE X G dl (.Subscript a (.Slice (some b) none none p2) pos) (.str (tx (L.drop k))):=
 aU (F5 ha (Ct hb) F4 (by rw[gQ];exact qX hl)) (by rw[Bw L h])
theorem pT (hm:X.mg "len"=none)(ha:EE X G dl a (.str (tx L)))(hl:L.length<=2000)(hg:Gl X "len":=by rfl)(he:starEach [a] X.env=[(false,eval a X.env)]:=by rfl):EE X G dl (.Call (.Name "len" p) [a] [] pos) (.int (L.length:Nat)):=
 aU (w6 hm ha (by rw[gQ];exact qX hl) hg he) (by rw[gQ])
end
theorem CQ:∀ (Ls:List (List Nat)) (a:List Nat),(Ls.map tx).foldl (fun acc p=>acc ++ (("":Str).cps) ++ p.cps) a.toArray=(a ++ Ls.flatten).toArray
 | [],a=>by simp
 | l::r,a=>by
   have e:a.toArray ++ ("":Str).cps ++ (tx l).cps=(a ++ l).toArray:=by
     show a.toArray ++ (#[]:Array Nat) ++ l.toArray=_
     simp
   rw[List.map_cons,List.foldl_cons,e,CQ r,List.flatten_cons,List.append_assoc]
theorem KD (Ls:List (List Nat)):Txt.join "" (Ls.map tx)=tx Ls.flatten:=by
 cases Ls with
 | nil=>rfl
 | cons l r=>
   show(⟨(r.map tx).foldl (fun acc p=>acc ++ (("":Str).cps) ++ p.cps) l.toArray⟩:Str)=_
   rw[CQ,List.flatten_cons];rfl
theorem Eh {X:Cx}{G:Gr}{dl:List Slot}{a e:Expr}{apos bP:Pos}{Ls:List (List Nat)}(ha:EE X G dl a (.str ""))(he:EE X G dl e (.lst ((Ls.map tx).map .str)))(hw:Ls.flatten.length+Ls.length<=100000)(i4:attributeBase a "join" X.env (eval a X.env)=eval a X.env:=by rfl)
   (tw:((backTo bP (starEach [e] X.env)).all (fun x=>!x.1) && (backToKw bP (keywordEach [] X.env)).all (fun x=>x.1.isSome) && decide ([e].length+([]:List Keyword).length+(if ([]:List Keyword).isEmpty then 0 else 1) < 30))=true:=by rfl)
   (i5:(apos.endLine == bP.line)=true:=by rfl) (mB:starEach [e] X.env=(false,eval e X.env)::starEach [] X.env:=by rfl):EE X G dl (.Call (.Attribute a "join" apos) [e] [] bP) (.str (tx Ls.flatten)):=by
 have e1:((Ls.map tx).map (·.length)).sum=Ls.flatten.length:=by
   rw[List.length_flatten,List.map_map]
   congr 1
 exact aU (JZ ha he (joinOk_of_weight (by rw[e1,List.length_map];omega) (by decide)) i4 tw i5 mB) (by rw[KD])
theorem zZ:∀ rows:List Row,(rows.map fun r=>[r.c]).flatten=rows.map (·.c)
 | []=>rfl
 | a::r=>by rw[List.map_cons,List.flatten_cons,zZ r];rfl
def dX.wt (t:dX)(six:Bool)(rows:List Row):List (Str×Dt):=[("drawer",.gU (.obj (t.pc six) [])),("row_by_letter",.d0 (qI rows))]
def mh (rows:List Row)(x:Nat):Str:=((rows.find? fun r=>decide (r.c=x)).map (·.d)).getD ""
def wordOf (rows:List Row)(x:Nat):List Nat:=((rows.find? fun r=>decide (r.c=x)).map (·.w)).getD []
theorem jb {rows:List Row}{x:Nat}(h:x∈rows.map (·.c)):∃ r∈rows,r.c=x/\mh rows x=r.d/\wordOf rows x=r.w:=by
 obtain⟨q,hq,e⟩:=List.mem_map.mp h
 cases f:rows.find? (fun r=>decide (r.c=x)) with
 | none=>exact absurd (decide_eq_true e) (by simpa using List.find?_eq_none.mp f q hq)
 | some r=>
   refine⟨r,List.mem_of_find?_eq_some f,of_decide_eq_true (List.find?_some (p:=fun r:Row=>decide (r.c=x)) f),?_,?_⟩
   . unfold mh;rw[f];rfl
   . unfold wordOf;rw[f];rfl
def Bx (t:dX):Rl:=fun ds r=>∃ six rows,ds=[t.yA six rows]/\bR rows/\r=.ret (.str (tx (rows.map (·.c))))
def Hh (t:dX):Rl:=fun ds r=>∃ six rows q,ds=[t.yA six rows,.str (sg q.c)]/\bR rows/\q∈rows/\r=.ret (pS q)
def KG (t:dX):Rl:=fun ds r=>∃ six rows x,ds=[t.yA six rows,.str (sg x)]/\bR rows/\x∈rows.map (·.c)/\r=.ret (.str (mh rows x))
def KH (t:dX):Rl:=fun ds r=>∃ six rows x,ds=[t.yA six rows,.str (sg x)]/\bR rows/\x∈rows.map (·.c)/\r=.ret (.str (tx (wordOf rows x)))
theorem wu (T:Txt K mg t):MF P w K mg base CX 1 t.aK "row_of" 2 (Hh t):=by
 refine⟨T.dt.cl,_,_,_,i6 T.ip.F rJ rfl fun bA A outer s H E G ds r hr hl hR=>?_,T.eZ,T.ip.b⟩
 obtain⟨six,rows,q,rfl,ok,hq,rfl⟩:=hR
 have hu:(A.deeper (envOfC "Rules.row_of" (af gZ) s.heap.objs.size t.cM bA)).units+1 < cLine:=by have:=hr.units;omega
 have hv:=qK ok.nd hq
 exact⟨_,.rt _,ai (cj (u:=false) (di (Cv hu (aa 1 rfl) (aG (fs:=t.wt six rows) (aa 0 rfl) T.dt.cl T.aN rfl)) (by rw[hv];rfl)) (fun h=>nomatch h) (fun h=>cg))
   (aq (aI (J0 hu (aG (fs:=t.wt six rows) (aa 0 rfl) T.dt.cl T.aN rfl) (aa 1 rfl) hv (fun _ _=>rfl))))⟩
theorem uH (T:Txt K mg t):MF P w K mg base CX 2 t.aK "word" 2 (KH t):=by
 refine⟨T.dt.cl,_,_,_,i6 T.j5.F vy rfl fun bA A outer s H E G ds r hr hl hR=>?_,T.gb,T.j5.b⟩
 obtain⟨six,rows,x,rfl,ok,hx,rfl⟩:=hR
 obtain⟨q,hq,rfl,e1,e2⟩:=jb hx
 have m:=wu (P:=P) (w:=w) (base:=base) T
 rw[e2]
 exact⟨_,.rt _,aq (aI (a0 (bE (fs:=t.wt six rows) (aa 0 rfl) m aB hr (ae (aa 1 rfl) aj) ⟨six,rows,q,rfl,ok,hq,rfl⟩) ao rfl))⟩
theorem jc (T:Txt K mg t):MF P w K mg base CX 1 t.aK "letters" 1 (Bx t):=by
 refine⟨T.dt.cl,_,_,_,i6 T.gI.F qD rfl fun bA A outer s H E G ds r hr hl hR=>?_,T.eD,T.gI.b⟩
 obtain⟨six,rows,rfl,ok,rfl⟩:=hR
 have h6:=ok.le
 have el:((qI rows).map fun kd=>kD kd.1)=((rows.map fun r=>[r.c]).map tx).map Dt.str:=by
   unfold qI
   rw[List.map_map,List.map_map,List.map_map];rfl
 have ef:(rows.map fun r=>[r.c]).flatten=rows.map (·.c):=zZ rows
 refine⟨_,.rt _,aq (aI (aU (Eh (Ls:=rows.map fun r=>[r.c]) eU (iJ el (Gg T.x5 rfl (aG (fs:=t.wt six rows) (aa 0 rfl) T.dt.cl T.aN rfl))) (by rw[ef,List.length_map,List.length_map];omega)) (by rw[ef])))⟩
theorem Hi (T:Txt K mg t):MF P w K mg base CX 2 t.aK "deed" 2 (KG t):=by
 refine⟨T.dt.cl,_,_,_,i6 T.j4.F vx rfl fun bA A outer s H E G ds r hr hl hR=>?_,T.f9,T.j4.b⟩
 obtain⟨six,rows,x,rfl,ok,hx,rfl⟩:=hR
 obtain⟨q,hq,rfl,e1,e2⟩:=jb hx
 have m:=wu (P:=P) (w:=w) (base:=base) T
 rw[e1]
 exact⟨_,.rt _,aq (aI (a0 (bE (fs:=t.wt six rows) (aa 0 rfl) m aB hr (ae (aa 1 rfl) aj) ⟨six,rows,q,rfl,ok,hq,rfl⟩) ao rfl))⟩
def wz (t:dX):Rl:=fun ds r=>∃ (six:Bool) (rows:List Row) (w:List Nat) (m:Nat),ds=[t.yA six rows,.str (tx w),.int (m:Nat)]/\bR rows/\(∀ x∈w,x∈rows.map (·.c))/\(0 < w.length/\w.length<=m/\m<=1000)/\r=.ret (.str (tx w))
theorem KI (w:List Nat):w.map (fun x=>Dt.str (sg x))=Sg.signs (tx w):=by rw[uG,List.map_map];rfl
theorem sH {rows:List Row}(ok:bR rows){w:List Nat}(h:∀ x∈w,x∈rows.map (·.c)):ji (tx w)=true:=ja fun x hx=>by
 obtain⟨r,hr,rfl⟩:=List.mem_map.mp (h x hx)
 have:=ok.sm r hr
 unfold small at this;omega
theorem By (T:Txt K mg t):i3 P w K mg base CX 1 t.aT t.gz ["self","text","most"] (Cf K 3 (wz t)):=by
 refine TL T.rL lz rfl fun bA A outer s H E G ds r hr hl hR=>?_
 obtain⟨six,rows,wd,m,rfl,ok,hw,⟨h0,hm,Xv⟩,rfl⟩:=hR
 have nd:=lz.nd
 have hu:(A.deeper (envOfC "Rules.word_of" (af aS) s.heap.objs.size t.aT bA)).units+1 < cLine:=by have:=hr.units;omega
 have ne:¬ tx wd=("":Str):=fun z=>by
   have:=congrArg Str.length z
   rw[gQ] at this
   have e:("":Str).length=0:=rfl
   omega
 let xs:=Sg.signs (tx wd)
 have Ky:xs.length=wd.length:=by show(Sg.signs (tx wd)).length=_;rw[nA,gQ]
 let S:Nat->List Slot:=fun _=>[.val (t.yA six rows),.val (.str (tx wd)),.val (.int (m:Nat)),.aO,.aO]
 refine⟨_,.rt _,ai (cj (u:=false) (di (oH (aa 1 rfl) eU) (decide_eq_false ne)) (fun h=>nomatch h) (fun h=>cg))
   (ai (pE (o:=.nx (S wd.length)) (m:=wd.length) (List.range xs.length) (fun(j:Nat)=>.tup [.int j,xs.getD j .cL]) (fun(j:Nat) dl=>(dl.set 3 (.val (.int j))).set 4 (.val (xs.getD j .cL))) S rfl PassesOwn.leaving
     (Gi rfl T.kN (ae (aa 1 rfl) aj)) (Bf (sH ok hw)) (sW rfl (c6 (bD nd rfl (.inl rfl)) (c6 (bD nd rfl (.inl rfl)) nh))) (fun a _=>Cr) (Le.of ⟨rfl,rfl,rfl,trivial⟩) (by rw[List.length_range,Ky];exact Nat.le_refl _) (fun j a hj ha=>?_) (by rw[List.length_range,Ky];exact .all rfl))
   (aq (aI (aa 1 rfl))))⟩
 rw[List.getElem?_range (by omega)] at ha
 cases ha
 have ex:xs.getD j .cL=.str (sg wd[j]):=by
   show(Sg.signs (tx wd)).getD j .cL=_
   rw[<- KI,List.getD_eq_getElem?_getD,List.getElem?_map,List.getElem?_eq_getElem hj];rfl
 have v4:∀ {X:Cx} {G:Gr} {dl:List Slot} {e:Expr},EE X G dl e (xs.getD j .cL)->EE X G dl e (.str (sg wd[j])):=fun h=>by rw[ex] at h;exact h
 obtain⟨q,hq,hc,_,_⟩:=jb (hw _ (List.getElem_mem hj))
 have hv:=qK ok.nd hq
 rw[hc] at hv
 exact .nx (aq (cj (u:=false) (vb (vT (u:=false) (v:=false) (di (FE (aa 3 rfl) (aa 2 rfl)) (decide_eq_false (by omega))) fun _=>(tJ (di (Cv hu (v4 (aa 4 rfl)) (aG (fs:=t.wt six rows) (aa 0 rfl) T.dt.cl T.aN rfl)) (by rw[hv];rfl))))) (fun h=>nomatch h) (fun h=>cg))) (Le.of ⟨rfl,rfl,rfl,trivial⟩)
theorem Wq {K:W.Frag}:∀ H,bg K H [.int 8] [.int 8]:=fun _=>.cons (.int 8) .nil
theorem z5 (T:Txt K mg t):EI P w K mg base CX 1 t.aK "word_of" 3 [.int 8] (wz t):=⟨T.dt.cl,_,_,_,_,[.int 8],By T,T.eE,T.qF,.cons ⟨_,rfl⟩ .nil,Wq⟩
def OX (t:dX):Rl:=fun ds r=>∃ six rows,ds=[t.yA six rows]/\r=.ret (.gU (.obj (t.pc six) []))
theorem CS (T:Txt K mg t):MF P w K mg base CX 1 t.aK "pen" 1 (OX t):=by
 refine⟨T.dt.cl,_,_,_,i6 T.kM.F xQ rfl fun bA A outer s H E G ds r hr hl hR=>?_,T.gO,T.kM.b⟩
 obtain⟨six,rows,rfl,rfl⟩:=hR
 exact⟨_,.rt _,aq (aI (aG (fs:=t.wt six rows) (aa 0 rfl) T.dt.cl T.gB rfl))⟩
def tl (six:Bool)(p:Int×Int):Int×Int:=if six then (-p.2,p.1+p.2) else (-p.2,p.1)
def tn (six:Bool):Nat->Int×Int->Int×Int
 | 0,p=>p
 | n+1,p=>tl six (tn six n p)
def sp (p:Int×Int):Dt:=.tup [.int p.1,.int p.2]
theorem iq (six:Bool):0 < wy six:=by cases six <;> decide
def OY (t:dX)(six:Bool):Rl:=fun ds r=>ds=[.obj (t.pc six) []]/\r=.ret (.int (wy six))
def OZ (t:dX)(six:Bool):Rl:=fun ds r=>∃ p,ds=[.obj (t.pc six) [],sp p]/\r=.ret (sp (tl six p))
def Hj (t:dX)(six:Bool):Rl:=fun ds r=>∃ z,ds=[.obj (t.pc six) [],.int z]/\r=.ret (.int (z % wy six))
def Hk (t:dX)(six:Bool):Rl:=fun ds r=>∃ p b,ds=[.obj (t.pc six) [],sp p,.int b]/\r=.ret (sp (tn six (b % wy six).toNat p))
theorem sI (T:Txt K mg t)(six:Bool):MF P w K mg base CX 1 (t.pc six) "ways" 1 (OY t six):=by
 cases six with
 | false=>
   refine⟨T.iG.cl,_,_,_,i6 T.ig.F rB rfl fun bA A outer s H E G ds r hr hl hR=>?_,T.dP,T.ig.b⟩
   obtain⟨rfl,rfl⟩:=hR
   exact⟨_,.rt _,aq (aI ao)⟩
 | true=>
   refine⟨T.me.cl,_,_,_,i6 T.jV.F vj rfl fun bA A outer s H E G ds r hr hl hR=>?_,T.fY,T.jV.b⟩
   obtain⟨rfl,rfl⟩:=hR
   exact⟨_,.rt _,aq (aI ao)⟩
theorem KJ (T:Txt K mg t)(six:Bool):MF P w K mg base CX 1 (t.pc six) "turned_left" 2 (OZ t six):=by
 cases six with
 | false=>
   refine⟨T.iG.cl,_,_,_,i6 T.cR.F l3 rfl fun bA A outer s H E G ds r hr hl hR=>?_,T.bZ,T.cR.b⟩
   obtain⟨p,rfl,rfl⟩:=hR
   exact⟨_,.rt _,(aq (aI (dy (ae (iz (a0 (aa 1 rfl) ao rfl)) (ae (a0 (aa 1 rfl) ao rfl) aj)) AA3)))⟩
 | true=>
   refine⟨T.me.cl,_,_,_,i6 T.du.F mW rfl fun bA A outer s H E G ds r hr hl hR=>?_,T.cN,T.du.b⟩
   obtain⟨p,rfl,rfl⟩:=hR
   exact⟨_,.rt _,(aq (aI (dy (ae (iz (a0 (aa 1 rfl) ao rfl)) (ae (aL (a0 (aa 1 rfl) ao rfl) (a0 (aa 1 rfl) ao rfl)) aj)) AA3)))⟩
theorem CT {six:Bool}{m:Str}{f:Addr}(hQ:Meth K t.aM m f)(hS:Meth K t.bT m f):Meth K (t.pc six) m f:=by cases six <;> assumption
theorem CU (T:Txt K mg t)(six:Bool):rV K (t.pc six):=by cases six;exact T.iG.cl;exact T.me.cl
theorem lE (T:Txt K mg t)(six:Bool):MF P w K mg base CX 2 (t.pc six) "way_of" 2 (Hj t six):=by
 refine⟨CU T six,_,_,_,i6 T.jT.F vi rfl fun bA A outer s H E G ds r hr hl hR=>?_,CT T.eW T.fV,T.jT.b⟩
 obtain⟨z,rfl,rfl⟩:=hR
 have h1:=sI (P:=P) (w:=w) (base:=base) T six
 refine⟨_,.rt _,aq (aI (cf (aa 1 rfl) (dA (aa 0 rfl) h1 aB hr ⟨rfl,rfl⟩) (iq six)))⟩
theorem wA (T:Txt K mg t)(six:Bool):MF P w K mg base CX 3 (t.pc six) "turned" 3 (Hk t six):=by
 refine⟨CU T six,_,_,_,i6 T.jU.F kU rfl fun bA A outer s H E G ds r hr hl hR=>?_,CT T.eX T.fW,T.jU.b⟩
 obtain⟨p,b,rfl,rfl⟩:=hR
 have h1:=lE (P:=P) (w:=w) (base:=base) T six
 have h2:=KJ (P:=P) (w:=w) (base:=base) T six
 have T4:=Int.emod_nonneg b (Int.ne_of_gt (iq six))
 have Xy:=Int.emod_lt_of_pos b (iq six)
 have hb3:wy six<=6:=by cases six <;> decide
 refine⟨_,.rt _,ai (j7 3 (fun k=>[.val (.obj (t.pc six) []),.val (sp (tn six k p)),.val (.int b),.aO]) kU.nd rfl PassesOwn.leaving T.iZ
   (ae (bE (aa 0 rfl) h1 aB hr (ae (aa 2 rfl) aj) ⟨b,rfl,rfl⟩) aj) ⟨by omega,by omega⟩ (Le.of ⟨rfl,rfl,rfl,trivial⟩) (Nat.le_refl _) (fun k hk=>?_) (.all rfl)) (aq (aI (aa 1 rfl)))⟩
 refine .nx (aq (ay 1 kU.nd (bE (aa 0 rfl) h2 aB hr (ae (aa 1 rfl) aj) ⟨_,rfl,rfl⟩))) (Le.of ⟨rfl,rfl,rfl,trivial⟩)
theorem CV {m n:Nat}{a b:Int}(ha:a.natAbs < 2 ^ m)(hb:b.natAbs < 2 ^ n)(h:m+n<=134217728):IntMulOk a b:=IntMulOk.of_le (PySem.intBits_le_iff.mpr ha) (PySem.intBits_le_iff.mpr hb) h
def jt (six:Bool)(w:Int)(p:Int×Int):Int:=
 if six then (if w=0 then 2 * p.1+p.2 else if w=1 then p.1+2 * p.2 else if w=2 then p.2 - p.1 else if w=3 then -2 * p.1 - p.2 else if w=4 then -p.1 - 2 * p.2 else p.1 - p.2)
 else (if w=0 then p.1 else if w=1 then p.2 else if w=2 then -p.1 else -p.2)
theorem Hl (six:Bool){w:Int}(h0:0<=w)(h1:w < wy six)(b:Int)(p:Int×Int):jt six ((w+b) % wy six) (tn six (b % wy six).toNat p)=jt six w p:=by
 obtain⟨x,y⟩:=p
 cases six with
 | false=>
   have e:wy false=4:=rfl
   have h1:w < 4:=h1
   rw[e]
   have h:w=0\/w=1\/w=2\/w=3:=by omega
   have g:b % 4=0\/b % 4=1\/b % 4=2\/b % 4=3:=by omega
   have q:(w+b) % 4=(w+b % 4) % 4:=by omega
   rw[q]
   rcases h with rfl | rfl | rfl | rfl <;> rcases g with g | g | g | g <;> rw[g] <;> simp[jt,tn,tl]
 | true=>
   have e:wy true=6:=rfl
   have h1:w < 6:=h1
   rw[e]
   have h:w=0\/w=1\/w=2\/w=3\/w=4\/w=5:=by omega
   have g:b % 6=0\/b % 6=1\/b % 6=2\/b % 6=3\/b % 6=4\/b % 6=5:=by omega
   have q:(w+b) % 6=(w+b % 6) % 6:=by omega
   rw[q]
   rcases h with rfl | rfl | rfl | rfl | rfl | rfl <;> rcases g with g | g | g | g | g | g <;> rw[g] <;> simp[jt,tn,tl] <;> omega
def KL (t:dX)(six:Bool):Rl:=fun ds r=>∃ z p,ds=[.obj (t.pc six) [],.int z,sp p]/\(0<=z/\z < wy six)/\r=.ret (.int (jt six z p))
theorem Sr {z:Int}(p:Int×Int)(h0:0<=z)(h1:z < 4):lK [Dt.int p.1,Dt.int p.2,Dt.int (-p.1),Dt.int (-p.2)] z=some (Dt.int (jt false z p)):=by
 have h:z=0\/z=1\/z=2\/z=3:=by omega
 rcases h with rfl | rfl | rfl | rfl <;> rfl
theorem Ss {z:Int}(p:Int×Int)(h0:0<=z)(h1:z < 6):lK [Dt.int (2 * p.1+p.2),Dt.int (p.1+2 * p.2),Dt.int (p.2 - p.1),Dt.int (-2 * p.1 - p.2),Dt.int (-p.1 - 2 * p.2),Dt.int (p.1 - p.2)] z=some (Dt.int (jt true z p)):=by
 have h:z=0\/z=1\/z=2\/z=3\/z=4\/z=5:=by omega
 rcases h with rfl | rfl | rfl | rfl | rfl | rfl <;> rfl
theorem mod_lt {z m:Int}(h0:0<=z)(h1:z < m):z % m=z:=Int.emod_eq_of_lt h0 h1
theorem z6 (T:Txt K mg t)(six:Bool):MF P w K mg base CX 3 (t.pc six) "along" 3 (KL t six):=by
 have pU:=lE (P:=P) (w:=w) (base:=base) T six
 cases six with
 | false=>
   refine⟨T.iG.cl,_,_,_,i6 T.gC.F iF rfl fun bA A outer s H E G ds r hr hl hR=>?_,T.dh,T.gC.b⟩
   obtain⟨z,p,rfl,⟨h0,h1⟩,rfl⟩:=hR
   exact⟨_,.rt _,(ai (ay 3 iF.nd (a0 (aa 2 rfl) ao rfl))
 (ai (ay 4 iF.nd (a0 (aa 2 rfl) ao rfl))
 (aq (aI (a0 (dy (ae (aa 3 rfl) (ae (aa 4 rfl) (ae (iz (aa 3 rfl)) (ae (iz (aa 4 rfl)) aj)))) AA3) (bE (aa 0 rfl) pU aB hr (ae (aa 1 rfl) aj) ⟨z,rfl,rfl⟩) (by rw[mod_lt h0 h1];exact Sr p h0 h1))))))⟩
 | true=>
   refine⟨T.me.cl,_,_,_,i6 T.iX.F kl rfl fun bA A outer s H E G ds r hr hl hR=>?_,T.fC,T.iX.b⟩
   obtain⟨z,p,rfl,⟨h0,h1⟩,rfl⟩:=hR
   exact⟨_,.rt _,(ai (ay 3 kl.nd (a0 (aa 2 rfl) ao rfl))
 (ai (ay 4 kl.nd (a0 (aa 2 rfl) ao rfl))
 (aq (aI (a0 (dy (ae (aL (fS ao (aa 3 rfl) (o3.ok (Or.inl ⟨by decide,by decide⟩))) (aa 4 rfl)) (ae (aL (aa 3 rfl) (fS ao (aa 4 rfl) (o3.ok (Or.inl ⟨by decide,by decide⟩)))) (ae (d6 (aa 4 rfl) (aa 3 rfl)) (ae (d6 (fS (iz ao) (aa 3 rfl) (o3.ok (Or.inl ⟨by decide,by decide⟩))) (aa 4 rfl)) (ae (d6 (iz (aa 3 rfl)) (fS ao (aa 4 rfl) (o3.ok (Or.inl ⟨by decide,by decide⟩)))) (ae (d6 (aa 3 rfl) (aa 4 rfl)) aj)))))) AA3) (bE (aa 0 rfl) pU aB hr (ae (aa 1 rfl) aj) ⟨z,rfl,rfl⟩) (by rw[mod_lt h0 h1];exact Ss p h0 h1))))))⟩
def ad (p q:Int×Int):Int×Int:=(p.1+q.1,p.2+q.2)
def KN:Rl:=fun ds r=>∃ p q,ds=[sp p,sp q]/\r=.ret (sp (ad p q))
def Mh:List Str:=["stroke","step"]
def pV (d:Str):Int:=if d="left" then 1 else if d="right" then -1 else 0
def sJ (six:Bool)(d:Str)(p:Int×Int)(w:Int):(Int×Int)×Int:=(if d∈Mh then ad p (tn six (w % wy six).toNat (1,0)) else p,(w+pV d) % wy six)
def KO:Rl:=fun ds r=>∃ d:Str,ds=[.str d]/\r=.ret (.int (pV d))
def O0 (t:dX)(six:Bool):Rl:=fun ds r=>∃ w,ds=[.obj (t.pc six) [],.int w]/\r=.ret (sp (tn six (w % wy six).toNat (1,0)))
def KP (t:dX)(six:Bool):Rl:=fun ds r=>∃ d p w,ds=[.obj (t.pc six) [],.str d,sp p,.int w]/\d∈oB/\r=.ret (.tup [sp (sJ six d p w).1,.int (sJ six d p w).2])
theorem z7 (T:Txt K mg t):GF P w K mg base CX 1 "added" 2 KN:=by
 refine⟨_,_,_,i6 T.nJ.F GP rfl fun bA A outer s H E G ds r hr hl hR=>?_,(T.g T.nJ.a),T.nJ.F.kp,T.nJ.b⟩
 obtain⟨p,q,rfl,rfl⟩:=hR
 exact⟨_,.rt _,(aq (aI (dy (ae (aL (a0 (aa 0 rfl) ao rfl) (a0 (aa 1 rfl) ao rfl)) (ae (aL (a0 (aa 0 rfl) ao rfl) (a0 (aa 1 rfl) ao rfl)) aj)) AA3)))⟩
theorem Hm (T:Txt K mg t):GF P w K mg base CX 1 "turn_of_deed" 1 KO:=by
 refine⟨_,_,_,i6 T.dO.F rA rfl fun bA A outer s H E G ds r hr hl hR=>?_,(T.g T.dO.a),T.dO.F.kp,T.dO.b⟩
 obtain⟨d,rfl,rfl⟩:=hR
 by_cases c0:d="left"
 . rw[show pV d=1 from if_pos c0]
   exact⟨_,.rt _,pk (cj (oH (aa 0 rfl) eU) (fun h=>aq (aI ao)) (fun h=>absurd c0 (of_decide_eq_false h)))⟩
 by_cases c1:d="right"
 . rw[show pV d=-1 by unfold pV;rw[if_neg c0,if_pos c1]]
   exact⟨_,.rt _,ai (cj (oH (aa 0 rfl) eU) (fun h=>absurd (of_decide_eq_true h) c0) (fun h=>cg)) (pk (cj (oH (aa 0 rfl) eU) (fun h=>aq (aI (iz ao))) (fun h=>absurd c1 (of_decide_eq_false h))))⟩
 . rw[show pV d=0 by unfold pV;rw[if_neg c0,if_neg c1]]
   exact⟨_,.rt _,ai (cj (oH (aa 0 rfl) eU) (fun h=>absurd (of_decide_eq_true h) c0) (fun h=>cg)) (ai (cj (oH (aa 0 rfl) eU) (fun h=>absurd (of_decide_eq_true h) c1) (fun h=>cg)) (aq (aI ao)))⟩
theorem KQ (T:Txt K mg t)(six:Bool):MF P w K mg base CX 4 (t.pc six) "step" 2 (O0 t six):=by
 refine⟨CU T six,_,_,_,i6 T.mf.F zO rfl fun bA A outer s H E G ds r hr hl hR=>?_,CT T.fX T.ib,T.mf.b⟩
 obtain⟨z,rfl,rfl⟩:=hR
 have h1:=wA (P:=P) (w:=w) (base:=base) T six
 exact⟨_,.rt _,aq (aI (bE (aa 0 rfl) h1 aB hr (ae (dy (ae ao (ae ao aj)) AA3) (ae (aa 1 rfl) aj)) ⟨(1,0),z,rfl,rfl⟩))⟩
theorem Hn (T:Txt K mg t)(six:Bool):MF P w K mg base CX 5 (t.pc six) "after" 4 (KP t six):=by
 refine⟨CU T six,_,_,_,i6 T.kL.F pL rfl fun bA A outer s H E G ds r hr hl hR=>?_,CT T.fB T.gN,T.kL.b⟩
 obtain⟨d,p,z,rfl,hd,rfl⟩:=hR
 have h1:=KQ (P:=P) (w:=w) (base:=base) T six
 have h2:=z7 (P:=P) (w:=w) (base:=base) T
 have h3:=Hm (P:=P) (w:=w) (base:=base) T
 have h4:=lE (P:=P) (w:=w) (base:=base) T six
 by_cases c:d∈Mh
 . rw[show sJ six d p z=(ad p (tn six (z % wy six).toNat (1,0)),(z+pV d) % wy six) by unfold sJ;rw[if_pos c]]
   exact⟨_,.rt _,(ai (cj (Cn (xs:=oB) (aa 1 rfl) (kG (w:=.ref t.jS) T.xZ rfl T.x3)) (fun h=>absurd h (by simp[hd])) (fun h=>cg))
 (ai (cj (A8 (xs:=Mh) (aa 1 rfl) (kG (w:=.ref t.cI) T.oy rfl T.oA)) (fun h=>
     (aq (ay 2 pL.nd (bU h2 aB hr (ae (aa 2 rfl) (ae (bE (aa 0 rfl) h1 aB hr (ae (aa 3 rfl) aj) ⟨_,rfl,rfl⟩) aj)) ⟨_,_,rfl,rfl⟩)))) (fun h=>absurd c (of_decide_eq_false h)))
 (aq (aI (dy (ae (aa 2 rfl) (ae (bE (aa 0 rfl) h4 aB hr (ae (aL (aa 3 rfl) (bU h3 aB hr (ae (aa 1 rfl) aj) ⟨_,rfl,rfl⟩)) aj) ⟨_,rfl,rfl⟩) aj)) AA3)))))⟩
 . rw[show sJ six d p z=(p,(z+pV d) % wy six) by unfold sJ;rw[if_neg c]]
   exact⟨_,.rt _,(ai (cj (Cn (xs:=oB) (aa 1 rfl) (kG (w:=.ref t.jS) T.xZ rfl T.x3)) (fun h=>absurd h (by simp[hd])) (fun h=>cg))
 (ai (cj (A8 (xs:=Mh) (aa 1 rfl) (kG (w:=.ref t.cI) T.oy rfl T.oA)) (fun h=>absurd (of_decide_eq_true h) c) (fun h=>cg))
 (aq (aI (dy (ae (aa 2 rfl) (ae (bE (aa 0 rfl) h4 aB hr (ae (aL (aa 3 rfl) (bU h3 aB hr (ae (aa 1 rfl) aj) ⟨_,rfl,rfl⟩)) aj) ⟨_,rfl,rfl⟩) aj)) AA3)))))⟩
def sm (p:Int×Int):Prop:=p.1.natAbs < 2 ^ 1000/\p.2.natAbs < 2 ^ 1000
def cr (p q:Int×Int):Int:=p.1 * q.2 - p.2 * q.1
def KR:Rl:=fun ds r=>∃ p q,ds=[sp p,sp q]/\(sm p/\sm q)/\r=.ret (.int (cr p q))
theorem Ho (T:Txt K mg t):GF P w K mg base CX 1 "cross" 2 KR:=by
 refine⟨_,_,_,i6 T.nK.F GQ rfl fun bA A outer s H E G ds r hr hl hR=>?_,(T.g T.nK.a),T.nK.F.kp,T.nK.b⟩
 obtain⟨p,q,rfl,⟨hp,hq⟩,rfl⟩:=hR
 exact⟨_,.rt _,(aq (aI (d6 (fS (a0 (aa 0 rfl) ao rfl) (a0 (aa 1 rfl) ao rfl) (CV hp.1 hq.2 (by decide))) (fS (a0 (aa 0 rfl) ao rfl) (a0 (aa 1 rfl) ao rfl) (CV hp.2 hq.1 (by decide))))))⟩
structure Tr where
 many:Int
 turn:Int
 shift:Int×Int
 eF:Int
 reach:List Int
 bI:List Int
 mG:Int
def dX.Wr (t:dX)(six:Bool)(x:Tr):List (Str×FD):=[("drawer",.obj (t.pc six) []),("deed_count",.int x.many),("last_way",.int x.turn),("last_spot",.tup t.K [x.shift.1,x.shift.2]),("stroke_count",.int x.eF),("reaches",.lst x.reach),("touches",.lst x.bI),("crosses",.int x.mG)]
def dX.km (t:dX)(six:Bool)(x:Tr):List (Str×Dt):=[("drawer",.gU (.obj (t.pc six) [])),("deed_count",.int x.many),("last_way",.int x.turn),("last_spot",.gU (.tup t.K [x.shift.1,x.shift.2])),("stroke_count",.int x.eF),("reaches",.gU (.lst x.reach)),("touches",.gU (.lst x.bI)),("crosses",.int x.mG)]
def dX.CW (t:dX)(six:Bool)(x:Tr):Dt:=.obj t.aw (t.km six x)
def dX.nS (t:dX)(six:Bool)(x:Tr):Dt:=.gU (.obj t.aw (t.Wr six x))
theorem k4 {X:Cx}{G:Gr}{dl:List Slot}{e:Expr}{t:dX}{six:Bool}{x:Tr}(h:EE X G dl e (t.nS six x)):EE X G dl e (t.CW six x):=Mg h
theorem Bz {X:Cx}{G:Gr}{dl:List Slot}{e:Expr}{t:dX}{six:Bool}{x:Tr}(h:EO X G dl e (.obj t.aw (t.km six x))):EE X G dl e (t.nS six x):=GK (fs:=t.Wr six x) h
theorem ko {X:Cx}{G:Gr}{dl:List Slot}{e:Expr}{t:dX}{six:Bool}(h:EE X G dl e (.gU (.obj (t.pc six) []))):EE X G dl e (.obj (t.pc six) []):=Mg h
theorem uI {X:Cx}{G:Gr}{dl:List Slot}{e:Expr}{K':W.Frag}{p:Int×Int}(hK:K'=X.K)(h:EE X G dl e (.gU (.tup K' [p.1,p.2]))):EE X G dl e (sp p):=OF h hK
theorem BA {X:Cx}{G:Gr}{dl:List Slot}{e:Expr}{K':W.Frag}{p:Int×Int}(hK:K'=X.K)(h:EE X G dl e (sp p)):EE X G dl e (.gU (.tup K' [p.1,p.2])):=OG (ns:=[p.1,p.2]) h hK
def wn (six:Bool):Nat:=if six then 6 else 4
theorem qY (six:Bool):(wn six:Int)=wy six:=by cases six <;> rfl
def mi (six:Bool)(ns:List Int)(f:Int):List Int:=(List.range (wn six)).map fun(w:Nat)=>ns.getD (((w:Int) - f) % wy six).toNat 0
def vG (six:Bool)(x y:Tr)(w:Nat):Int:=if (mi six y.reach x.turn).getD w 0+jt six w x.shift<=x.reach.getD w 0 then x.reach.getD w 0 else (mi six y.reach x.turn).getD w 0+jt six w x.shift
def yb (six:Bool)(x y:Tr)(w:Nat):Int:=if (mi six y.reach x.turn).getD w 0+jt six w x.shift<=x.reach.getD w 0 then x.bI.getD w 0 else (mi six y.bI x.turn).getD w 0+x.many
def jn (six:Bool)(x y:Tr):Tr where
 many:=x.many+y.many
 turn:=(x.turn+y.turn) % wy six
 shift:=ad x.shift (tn six (x.turn % wy six).toNat y.shift)
 eF:=x.eF+y.eF
 reach:=(List.range (wn six)).map (vG six x y)
 bI:=(List.range (wn six)).map (yb six x y)
 mG:=x.mG+y.mG+cr x.shift (tn six (x.turn % wy six).toNat y.shift)
def Az (six:Bool):Tr:=⟨0,0,(0,0),0,List.replicate (wn six) 0,List.replicate (wn six) 0,0⟩
def one (six:Bool)(d:Str):Tr:=⟨1,(sJ six d (0,0) 0).2,(sJ six d (0,0) 0).1,if d="stroke" then 1 else 0,(List.range (wn six)).map fun(w:Nat)=>if jt six w (sJ six d (0,0) 0).1 > 0 then jt six w (sJ six d (0,0) 0).1 else 0,
 (List.range (wn six)).map fun(w:Nat)=>if (if jt six w (sJ six d (0,0) 0).1 > 0 then jt six w (sJ six d (0,0) 0).1 else 0) < 1 then (if jt six w (sJ six d (0,0) 0).1 > 0 then jt six w (sJ six d (0,0) 0).1 else 0) else 1,0⟩
def bJ (six:Bool)(ds:List Str):Tr:=ds.foldl (fun x d=>jn six x (one six d)) (Az six)
structure WF (six:Bool)(x:Tr):Prop where
 rl:x.reach.length=wn six
 tl:x.bI.length=wn six
 sm:x.shift.1.natAbs < 2 ^ 990/\x.shift.2.natAbs < 2 ^ 990
def O1 (t:dX):Rl:=fun ds r=>∃ six x,ds=[.gU (.obj (t.pc six) []),.int x.many,.int x.turn,.gU (.tup t.K [x.shift.1,x.shift.2]),.int x.eF,.gU (.lst x.reach),.gU (.lst x.bI),.int x.mG]/\r=.own (.obj t.aw (t.km six x))
def CY (t:dX)(f:Tr->Dt):Rl:=fun ds r=>∃ six x,ds=[t.CW six x]/\r=.ret (f x)
def yc (t:dX):Rl:=fun ds r=>∃ six x f,ds=[t.CW six x,.int f]/\r=.ret (sp (tn six (f % wy six).toNat x.shift))
def Sv (t:dX):Rl:=fun ds r=>∃ six x ns f,ds=[t.CW six x,.nv ns,.int f]/\ns.length=wn six/\r=.own (.lst ((mi six ns f).map .int))
def yd (t:dX):Rl:=fun ds r=>∃ six x f,ds=[t.CW six x,.int f]/\WF six x/\r=.own (.lst ((mi six x.reach f).map .int))
def ye (t:dX):Rl:=fun ds r=>∃ six x f,ds=[t.CW six x,.int f]/\WF six x/\r=.own (.lst ((mi six x.bI f).map .int))
def Hq (t:dX):Rl:=fun ds r=>∃ six x y,ds=[t.CW six x,t.CW six y]/\(WF six x/\WF six y)/\r=.ret (t.nS six (jn six x y))
def KS (t:dX):Rl:=fun ds r=>∃ six,ds=[.gU (.obj (t.pc six) [])]/\r=.ret (t.nS six (Az six))
def Ei (t:dX):Rl:=fun ds r=>∃ six d,ds=[.gU (.obj (t.pc six) []),.str d]/\d∈oB/\r=.ret (t.nS six (one six d))
def BB (t:dX):Rl:=fun ds r=>∃ (six:Bool) (xs:List Str),ds=[.gU (.obj (t.pc six) []),.lst (xs.map .str)]/\(∀ d∈xs,d∈oB)/\xs.length<=1000/\r=.ret (t.nS six (bJ six xs))
theorem yf (T:Txt K mg t):P2 P w K mg base CX 1 "Track" t.aw 9 (O1 t):=by
 refine⟨_,_,_,TM T.jW.F vm rfl fun bA A outer s H E G z ds r hr hl hR=>?_,T.uw,(T.g T.aA.a),T.jW.b⟩
 obtain⟨six,x,rfl,rfl⟩:=hR
 exact⟨_,.nx rfl,ai (jg (aa 1 rfl) T.aA.cl T.cZ) (ai (jg (aa 2 rfl) T.aA.cl T.a6) (ai (jg (aa 3 rfl) T.aA.cl T.bb) (ai (jg (aa 4 rfl) T.aA.cl T.aR)
   (ai (jg (aa 5 rfl) T.aA.cl T.bV) (ai (jg (aa 6 rfl) T.aA.cl T.bY) (ai (jg (aa 7 rfl) T.aA.cl T.dM) (aq (jg (aa 8 rfl) T.aA.cl T.dN))))))))⟩
theorem KU (T:Txt K mg t):MF P w K mg base CX 1 t.aw "many" 1 (CY t fun x=>.int x.many):=by
 refine⟨T.aA.cl,_,_,_,i6 T.jX.F vn rfl fun bA A outer s H E G ds r hr hl hR=>?_,T.fZ,T.jX.b⟩
 obtain⟨six,x,rfl,rfl⟩:=hR
 exact⟨_,.rt _,aq (aI (aG (fs:=t.km six x) (aa 0 rfl) T.aA.cl T.a6 rfl))⟩
theorem KW (T:Txt K mg t):MF P w K mg base CX 1 t.aw "turn" 1 (CY t fun x=>.int x.turn):=by
 refine⟨T.aA.cl,_,_,_,i6 T.jY.F vo rfl fun bA A outer s H E G ds r hr hl hR=>?_,T.f6,T.jY.b⟩
 obtain⟨six,x,rfl,rfl⟩:=hR
 exact⟨_,.rt _,aq (aI (aG (fs:=t.km six x) (aa 0 rfl) T.aA.cl T.bb rfl))⟩
theorem BC (T:Txt K mg t):MF P w K mg base CX 1 t.aw "strokes" 1 (CY t fun x=>.int x.eF):=by
 refine⟨T.aA.cl,_,_,_,i6 T.gD.F qA rfl fun bA A outer s H E G ds r hr hl hR=>?_,T.er,T.gD.b⟩
 obtain⟨six,x,rfl,rfl⟩:=hR
 exact⟨_,.rt _,aq (aI (aG (fs:=t.km six x) (aa 0 rfl) T.aA.cl T.bV rfl))⟩
theorem KY (T:Txt K mg t):MF P w K mg base CX 1 t.aw "area" 1 (CY t fun x=>.int x.mG):=by
 refine⟨T.aA.cl,_,_,_,i6 T.jZ.F vv rfl fun bA A outer s H E G ds r hr hl hR=>?_,T.f7,T.jZ.b⟩
 obtain⟨six,x,rfl,rfl⟩:=hR
 exact⟨_,.rt _,aq (aI (aG (fs:=t.km six x) (aa 0 rfl) T.aA.cl T.dN rfl))⟩
theorem z8 (T:Txt K mg t):i3 P w K mg base CX 4 t.b8 t.iP ["self","first"] (Cf K 2 (yc t)):=by
 refine TL T.vz ue rfl fun bA A outer s H E G ds r hr hl hR=>?_
 obtain⟨six,x,f,rfl,rfl⟩:=hR
 have h1:=wA (P:=P) (w:=w) (base:=base) T six
 exact⟨_,.rt _,aq (aI (bE (ko (aG (fs:=t.km six x) (aa 0 rfl) T.aA.cl T.cZ rfl)) h1 aB hr (ae (uI T.hK (aG (fs:=t.km six x) (aa 0 rfl) T.aA.cl T.aR rfl)) (ae (aa 1 rfl) aj)) ⟨_,_,rfl,rfl⟩))⟩
theorem rep0 {K:W.Frag}:∀ H,bg K H [.int 0] [.int 0]:=fun _=>.cons (.int 0) .nil
theorem Hr (T:Txt K mg t):EI P w K mg base CX 4 t.aw "shift" 2 [] (yc t):=⟨T.aA.cl,_,_,_,[],[],z8 T,T.da,T.vA,.nil,fun _=>.nil⟩
theorem Ej (T:Txt K mg t):EI P w K mg base CX 4 t.aw "shift" 2 [.int 0] (yc t):=⟨T.aA.cl,_,_,_,_,[.int 0],z8 T,T.da,T.uy,.cons ⟨_,rfl⟩ .nil,rep0⟩
abbrev BD:Scope:=Rp ((aE eJ).getD 0 (.Pass ⟨0,0,0,0⟩))
theorem BE:tU BD (af eJ) mw ["way","self","numbers","first"] [0,1,2] "way"=true:=by decide +kernel
theorem sL {ns:List Int}{k:Int}(h0:0<=k)(h1:k < ns.length):lK (ns.map Dt.int) k=some (.int (ns.getD k.toNat 0)):=by
 obtain⟨n,rfl⟩:=Int.eq_ofNat_of_zero_le h0
 refine kF ?_
 have h:n < ns.length:=by omega
 rw[List.getElem?_map,List.getElem?_eq_getElem h,Int.toNat_natCast,List.getD_eq_getElem?_getD,List.getElem?_eq_getElem h];rfl
theorem uJ {ns:List Int}{k:Int}(h0:0<=k)(h1:k < ns.length):lK ns k=some (ns.getD k.toNat 0):=by
 obtain⟨n,rfl⟩:=Int.eq_ofNat_of_zero_le h0
 refine kF ?_
 have h:n < ns.length:=by omega
 rw[List.getElem?_eq_getElem h,Int.toNat_natCast,List.getD_eq_getElem?_getD,List.getElem?_eq_getElem h];rfl
theorem nT {f:Nat->Int}{n k:Nat}(h:k < n):(((List.range n).map f).map Dt.int).getD k .cL=.int (f k):=by
 rw[List.getD_eq_getElem?_getD,List.getElem?_map,List.getElem?_map,List.getElem?_range h];rfl
theorem uK (T:Txt K mg t):MF P w K mg base CX 3 t.aw "by_ways" 3 (Sv t):=by
 refine⟨T.aA.cl,_,_,_,i6 T.gF.F qB rfl fun bA A outer s H E G ds r hr hl hR=>?_,T.eu,T.gF.b⟩
 obtain⟨six,x,ns,f,rfl,hn,rfl⟩:=hR
 have h1:=lE (P:=P) (w:=w) (base:=base) T six
 have hw:=qY six
 have Yi:wn six<=6:=by cases six <;> decide
 have PU:ns.length=wn six:=hn
 refine⟨_,.ro _,aq (kH (Rm (N:=["way","self","numbers","first"]) (ix:=[0,1,2]) rfl (A7 BE) (p9 rfl T.iZ (ae (rX T.jB (aa 1 rfl)) aj)) (tR ?_) (fun k hk C fp s' H' G'=>?_) ?_ ?_))⟩
 . omega
 . rw[Int.toNat_natCast,PU] at hk
   have e:((mi six ns f).map Dt.int).getD k .cL=.int (ns.getD (((k:Int) - f) % wy six).toNat 0):=nT hk
   rw[e]
   have NG:=Int.emod_nonneg ((k:Int) - f) (Int.ne_of_gt (iq six))
   have Xu:=Int.emod_lt_of_pos ((k:Int) - f) (iq six)
   exact qk (aa 2 rfl) (bE (ko (aG (fs:=t.km six x) (aa 1 rfl) T.aA.cl T.cZ rfl)) h1 aB hr (ae (d6 (aa 0 rfl) (aa 3 rfl)) aj) ⟨_,rfl,rfl⟩) (uJ NG (by omega))
 . rw[List.length_map,Int.toNat_natCast,PU]
   unfold mi
   simp
 . rw[Int.toNat_natCast]
   exact Nat.le_of_lt (qg (by omega))
theorem z9 (T:Txt K mg t):i3 P w K mg base CX 4 t.b9 t.iQ ["self","first"] (Cf K 2 (yd t)):=by
 refine TL T.vB uf rfl fun bA A outer s H E G ds r hr hl hR=>?_
 obtain⟨six,x,f,rfl,hw,rfl⟩:=hR
 have h1:=NQ (uK (P:=P) (w:=w) (base:=base) T)
 exact⟨_,.ro _,aq (kH (tT (fs:=t.km six x) (aa 0 rfl) h1 aB hr (ae (oO (aG (fs:=t.km six x) (aa 0 rfl) T.aA.cl T.bY rfl)) (ae (aa 1 rfl) aj)) ⟨six,x,_,_,rfl,hw.rl,rfl⟩))⟩
theorem Aa (T:Txt K mg t):i3 P w K mg base CX 4 t.cb t.iR ["self","first"] (Cf K 2 (ye t)):=by
 refine TL T.vD ug rfl fun bA A outer s H E G ds r hr hl hR=>?_
 obtain⟨six,x,f,rfl,hw,rfl⟩:=hR
 have h1:=NQ (uK (P:=P) (w:=w) (base:=base) T)
 exact⟨_,.ro _,aq (kH (tT (fs:=t.km six x) (aa 0 rfl) h1 aB hr (ae (oO (aG (fs:=t.km six x) (aa 0 rfl) T.aA.cl T.dM rfl)) (ae (aa 1 rfl) aj)) ⟨six,x,_,_,rfl,hw.tl,rfl⟩))⟩
theorem Ab (T:Txt K mg t):EI P w K mg base CX 4 t.aw "reach" 2 [] (yd t):=⟨T.aA.cl,_,_,_,[],[],z9 T,T.dc,T.vC,.nil,fun _=>.nil⟩
theorem Ac (T:Txt K mg t):EI P w K mg base CX 4 t.aw "touch" 2 [] (ye t):=⟨T.aA.cl,_,_,_,[],[],Aa T,T.de,T.vE,.nil,fun _=>.nil⟩
theorem Ek (T:Txt K mg t):EI P w K mg base CX 4 t.aw "reach" 2 [.int 0] (yd t):=⟨T.aA.cl,_,_,_,_,[.int 0],z9 T,T.dc,T.uz,.cons ⟨_,rfl⟩ .nil,rep0⟩
theorem El (T:Txt K mg t):EI P w K mg base CX 4 t.aw "touch" 2 [.int 0] (ye t):=⟨T.aA.cl,_,_,_,_,[.int 0],Aa T,T.de,T.uA,.cons ⟨_,rfl⟩ .nil,rep0⟩
theorem Ad (T:Txt K mg t):GF P w K mg base CX 3 "still" 1 (KS t):=by
 refine⟨_,_,_,i6 T.nL.F GS rfl fun bA A outer s H E G ds r hr hl hR=>?_,(T.g T.nL.a),T.nL.F.kp,T.nL.b⟩
 obtain⟨six,rfl,rfl⟩:=hR
 have h1:=sI (P:=P) (w:=w) (base:=base) T six
 have h2:=yf (P:=P) (w:=w) (base:=base) T
 have e:∀ {X:Cx} {G:Gr} {dl:List Slot} {e:Expr},EO X G dl e (.lst (List.replicate (wy six).toNat [Dt.int 0]).flatten)->EE X G dl e (.gU (.lst (List.replicate (wn six) (0:Int)))):=fun h=>by
   refine OH (FL h ?_)
   cases six <;> rfl
 have hb:-(2 ^ 63)<=wy six/\wy six < 2 ^ 63/\[Dt.int 0].length * (wy six).toNat<=sizeLine:=by cases six <;> decide
 exact⟨_,.rt _,aq (aI (Bz (rY h2 aB hr (ae (aa 0 rfl) (ae ao (ae ao (ae (BA (p:=(0,0)) T.hK (dy (ae ao (ae ao aj)) AA3)) (ae ao
   (ae (e (FN (Fv (ae ao aj) AA3) (dA (ko (aa 0 rfl)) h1 aB hr ⟨rfl,rfl⟩) hb.1 hb.2.1 hb.2.2)) (ae (e (FN (Fv (ae ao aj) AA3) (dA (ko (aa 0 rfl)) h1 aB hr ⟨rfl,rfl⟩) hb.1 hb.2.1 hb.2.2)) (ae ao aj)))))))) ⟨six,Az six,rfl,rfl⟩)))⟩
abbrev O2:Scope:=Rp ((aE cu).getD 2 (.Pass ⟨0,0,0,0⟩))
abbrev O3:Scope:=Rp ((aE cu).getD 3 (.Pass ⟨0,0,0,0⟩))
theorem O4:tU O2 (af cu) jq ["way","pen","spot"] [0,3] "way"=true:=by decide +kernel
theorem O5:tU O3 (af cu) jq ["reach"] [] "reach"=true:=by decide +kernel
def mj (six:Bool)(d:Str)(w:Nat):Int:=if jt six w (sJ six d (0,0) 0).1 > 0 then jt six w (sJ six d (0,0) 0).1 else 0
theorem BF (T:Txt K mg t):GF P w K mg base CX 6 "track_of_deed" 2 (Ei t):=by
 refine⟨_,_,_,i6 T.c5.F lr rfl fun bA A outer s H E G ds r hr hl hR=>?_,(T.g T.c5.a),T.c5.F.kp,T.c5.b⟩
 obtain⟨six,d,rfl,hd,rfl⟩:=hR
 have h1:=sI (P:=P) (w:=w) (base:=base) T six
 have h2:=yf (P:=P) (w:=w) (base:=base) T
 have h3:=Hn (P:=P) (w:=w) (base:=base) T six
 have h4:=z6 (P:=P) (w:=w) (base:=base) T six
 have hw:=qY six
 have Yi:wn six<=6:=by cases six <;> decide
 have Sx:(wy six).toNat=wn six:=by omega
 have nd:=lr.nd
 refine⟨_,.rt _,ai (ay 2 nd (bE (ko (aa 0 rfl)) h3 aB hr (ae (aa 1 rfl) (ae (dy (ae ao (ae ao aj)) AA3) (ae ao aj))) ⟨d,(0,0),0,rfl,hd,rfl⟩)) (ai (ay 3 nd (a0 (aa 2 rfl) ao rfl))
   (ai (LQ (ys:=((List.range (wn six)).map (mj six d)).map .int) 4 (N:=["way","pen","spot"]) (ix:=[0,3]) rfl nd (A7 O4) (p9 rfl T.iZ (ae (dA (ko (aa 0 rfl)) h1 aB hr ⟨rfl,rfl⟩) aj)) (tR ?_) (fun k hk C fp s' H' G'=>?_) ?_ ?_)
   (se (ns:=(List.range (wn six)).map (mj six d)) 4 (ai (LQ (ys:=((List.range (wn six)).map (fun k=>if mj six d k < 1 then mj six d k else 1)).map .int) 5 (N:=["reach"]) (ix:=[]) rfl nd (A7 O5) (kC (oO (aa 4 rfl))) Kh (fun k hk C fp s' H' G'=>?_) ?_ ?_)
   (se (ns:=(List.range (wn six)).map fun k=>if mj six d k < 1 then mj six d k else 1) 5 (aq (aI (Bz (rY h2 aB hr (ae (aa 0 rfl) (ae ao (ae (a0 (aa 2 rfl) ao rfl) (ae (BA T.hK (aa 3 rfl)) (ae (aU (d:=.int (if d="stroke" then 1 else 0)) ?_ rfl) (ae (aa 4 rfl) (ae (aa 5 rfl) (ae ao aj)))))))) ⟨six,one six d,rfl,rfl⟩)))))))))⟩
 . omega
 . rw[Sx] at hk
   rw[nT hk]
   exact xj T.wj rfl (ae ao (ae (bE (ko (aa 1 rfl)) h4 aB hr (ae (aa 0 rfl) (ae (aa 2 rfl) aj)) ⟨_,_,rfl,⟨by omega,by omega⟩,rfl⟩) aj))
 . rw[List.length_map,List.length_map,List.length_range,Sx]
 . rw[Sx];exact Nat.le_of_lt (qg (by omega))
 . rw[List.length_map,List.length_range] at hk
   rw[show(((List.range (wn six)).map (fun k=>if mj six d k < 1 then mj six d k else 1)).map Dt.int).getD k .cL=.int (if mj six d k < 1 then mj six d k else 1) from nT hk]
   have e:((List.map (mj six d) (List.range (wn six))).map Dt.int).getD k .cL=.int (mj six d k):=nT hk
   refine FO (i:=1) (j:=mj six d k) T.CL rfl (ae ao (ae ?_ aj))
   rw[<- e]
   exact aa 0 rfl
 . simp
 . rw[List.length_map,List.length_range];exact Nat.le_of_lt (qg (by omega))
 . exact NC (oH (aa 1 rfl) eU) (fun h=>aU ao (by rw[if_pos (of_decide_eq_true h)])) (fun h=>aU ao (by rw[if_neg (of_decide_eq_false h)]))
theorem sM {f g:Nat->Int}{n k:Nat}(h:k < n):((List.range n).map fun w=>if w < k then f w else g w).set k (f k)=(List.range n).map fun w=>if w < k+1 then f w else g w:=by
 refine List.ext_getElem? fun i=>?_
 by_cases hi:i < n
 . by_cases e:k=i
   . subst e
     rw[List.getElem?_set_self (by simp;exact h),List.getElem?_map,List.getElem?_range h]
     simp
   . rw[List.getElem?_set_ne e,List.getElem?_map,List.getElem?_map,List.getElem?_range hi]
     have:(i < k+1) ↔ (i < k):=by omega
     simp[this]
 . rw[List.getElem?_eq_none (by simp;omega),List.getElem?_eq_none (by simp;omega)]
theorem Mi {f g:Nat->Int}{n:Nat}:((List.range n).map fun w=>if w < 0 then f w else g w)=(List.range n).map g:=by simp
theorem Mj {f g:Nat->Int}{n:Nat}:((List.range n).map fun w=>if w < n then f w else g w)=(List.range n).map f:=by
 refine List.map_congr_left fun i hi=>?_
 rw[if_pos (List.mem_range.mp hi)]
theorem pW {l:List Int}{k:Nat}{z:Int}:(l.map Dt.int).set k (.int z)=(l.set k z).map Dt.int:=by rw[List.map_set]
theorem CZ (six:Bool)(ns:List Int)(f:Int):(List.range (wn six)).map (fun w=>(mi six ns f).getD w 0)=mi six ns f:=by
 refine List.ext_getElem? fun i=>?_
 by_cases hi:i < wn six
 . rw[List.getElem?_map,List.getElem?_range hi]
   have hl:i < (mi six ns f).length:=by unfold mi;simpa using hi
   rw[List.getElem?_eq_getElem hl]
   simp[List.getD_eq_getElem?_getD,hl]
 . rw[List.getElem?_eq_none (by simp;omega),List.getElem?_eq_none (by unfold mi;simp;omega)]
theorem KZ {n k:Nat}(h:k < n):AR n (k:Int)=some k:=by
 unfold AR
 simp[h]
theorem Sy {six:Bool}{b:Int}{p:Int×Int}(h:p.1.natAbs < 2 ^ 990/\p.2.natAbs < 2 ^ 990):sm (tn six (b % wy six).toNat p):=by
 obtain⟨x,y⟩:=p
 obtain⟨h1,h2⟩:=h
 simp only at h1 h2
 unfold sm
 cases six with
 | false=>
   have e:wy false=4:=rfl
   rw[e]
   have h:b % 4=0\/b % 4=1\/b % 4=2\/b % 4=3:=by omega
   rcases h with h | h | h | h <;> rw[h] <;> simp[tn,Pf.tl] <;> omega
 | true=>
   have e:wy true=6:=rfl
   rw[e]
   have h:b % 6=0\/b % 6=1\/b % 6=2\/b % 6=3\/b % 6=4\/b % 6=5:=by omega
   rcases h with h | h | h | h | h | h <;> rw[h] <;> simp[tn,Pf.tl] <;> omega
theorem wC (T:Txt K mg t):MF P w K mg base CX 5 t.aw "joined" 2 (Hq t):=by
 refine⟨T.aA.cl,_,_,_,i6 T.ij.F mx rfl fun bA A outer s H E G ds r hr hl hR=>?_,T.eY,T.ij.b⟩
 obtain⟨six,x,y,rfl,⟨wx,Ws⟩,rfl⟩:=hR
 have sN:=Hr (P:=P) (w:=w) (base:=base) T
 have yg:=Ab (P:=P) (w:=w) (base:=base) T
 have yh:=Ac (P:=P) (w:=w) (base:=base) T
 have O6:=sI (P:=P) (w:=w) (base:=base) T six
 have C0:=z6 (P:=P) (w:=w) (base:=base) T six
 have pU:=lE (P:=P) (w:=w) (base:=base) T six
 have O7:=KU (P:=P) (w:=w) (base:=base) T
 have O8:=KW (P:=P) (w:=w) (base:=base) T
 have Em:=BC (P:=P) (w:=w) (base:=base) T
 have O9:=KY (P:=P) (w:=w) (base:=base) T
 have K0:=z7 (P:=P) (w:=w) (base:=base) T
 have K1:=Ho (P:=P) (w:=w) (base:=base) T
 have Pa:=yf (P:=P) (w:=w) (base:=base) T
 have hw:=qY six
 have Sx:(wy six).toNat=wn six:=by omega
 have Yi:wn six<=6:=by cases six <;> decide
 have nd:=mx.nd
 let S:Nat->List Slot:=fun k=>[.val (t.CW six x),.val (t.CW six y),.val (.gU (.obj (t.pc six) [])),.val (sp (tn six (x.turn % wy six).toNat y.shift)),
   .own (.lst (((List.range (wn six)).map fun w=>if w < k then vG six x y w else (mi six y.reach x.turn).getD w 0).map .int)),
   .own (.lst (((List.range (wn six)).map fun w=>if w < k then yb six x y w else (mi six y.bI x.turn).getD w 0).map .int)),.aO]
 have e0:S 0=[.val (t.CW six x),.val (t.CW six y),.val (.gU (.obj (t.pc six) [])),.val (sp (tn six (x.turn % wy six).toNat y.shift)),.own (.lst ((mi six y.reach x.turn).map .int)),.own (.lst ((mi six y.bI x.turn).map .int)),.aO]:=by
   show [_,_,_,_,Slot.own (.lst (((List.range (wn six)).map fun w=>if w < 0 then _ else _).map .int)),Slot.own (.lst (((List.range (wn six)).map fun w=>if w < 0 then _ else _).map .int)),_]=_
   rw[Mi,Mi,CZ,CZ]
 have en:S (wn six)=[.val (t.CW six x),.val (t.CW six y),.val (.gU (.obj (t.pc six) [])),.val (sp (tn six (x.turn % wy six).toNat y.shift)),.own (.lst ((jn six x y).reach.map .int)),.own (.lst ((jn six x y).bI.map .int)),.aO]:=by
   show [_,_,_,_,Slot.own (.lst (((List.range (wn six)).map fun w=>if w < wn six then _ else _).map .int)),Slot.own (.lst (((List.range (wn six)).map fun w=>if w < wn six then _ else _).map .int)),_]=_
   rw[Mj,Mj];rfl
 refine⟨_,.rt _,ai (ay 2 nd (aG (fs:=t.km six x) (aa 0 rfl) T.aA.cl T.cZ rfl))
   (ai (ay 3 nd (FW (fs:=t.km six y) (aa 1 rfl) sN aB hr (ae (aG (fs:=t.km six x) (aa 0 rfl) T.aA.cl T.bb rfl) aj) ⟨six,y,_,rfl,rfl⟩))
   (ai (jD 4 nd (tT (fs:=t.km six y) (aa 1 rfl) yg aB hr (ae (aG (fs:=t.km six x) (aa 0 rfl) T.aA.cl T.bb rfl) aj) ⟨six,y,_,rfl,Ws,rfl⟩))
   (ai (jD 5 nd (tT (fs:=t.km six y) (aa 1 rfl) yh aB hr (ae (aG (fs:=t.km six x) (aa 0 rfl) T.aA.cl T.bb rfl) aj) ⟨six,y,_,rfl,Ws,rfl⟩))
   (ai (j7 (m:=wn six) 6 S nd rfl PassesOwn.leaving T.iZ (ae (dA (ko (aa 2 rfl)) O6 aB hr ⟨rfl,rfl⟩) aj) ⟨by omega,by omega⟩ (by rw[e0];exact Le.of ⟨rfl,rfl,rfl,rfl,rfl,rfl,trivial⟩) (by omega) (fun k hk=>?_) (by rw[Sx];exact .all rfl))
   ?_))))⟩
 . have TH:k < ((List.range (wn six)).map fun w=>if w < k then vG six x y w else (mi six y.reach x.turn).getD w 0).length:=by simpa using hk
   have aaN:k < ((List.range (wn six)).map fun w=>if w < k then yb six x y w else (mi six y.bI x.turn).getD w 0).length:=by simpa using hk
   have ga:∀ (f g:Nat->Int) (z:Int),lK ((((List.range (wn six)).map fun w=>if w < k then f w else g w)).map Dt.int) (k:Int)=some (.int (g k)):=fun f g z=>by
     refine kF ?_
     rw[List.getElem?_map,List.getElem?_map,List.getElem?_range hk]
     simp
   have gs:∀ (l:List Int) (z:Int),l.length=wn six->lK ((l.map Dt.int).set k (.int z)) (k:Int)=some (.int z):=fun l z hl=>by
     refine kF ?_
     rw[List.getElem?_set_self (by simp;omega)]
   have ix:∀ (l:List Dt),l.length=wn six->AR l.length (k:Int)=some k:=fun l hl=>KZ (by omega)
   have xr:lK x.reach (k:Int)=some (x.reach.getD k 0):=by
     have:=uJ (ns:=x.reach) (k:=k) (by omega) (by rw[wx.rl];omega)
     simpa using this
   have xt:lK x.bI (k:Int)=some (x.bI.getD k 0):=by
     have:=uJ (ns:=x.bI) (k:=k) (by omega) (by rw[wx.tl];omega)
     simpa using this
   have lA:(((List.range (wn six)).map fun w=>if w < k then vG six x y w else (mi six y.reach x.turn).getD w 0).map Dt.int).length=wn six:=by simp
   have lB:(((List.range (wn six)).map fun w=>if w < k then yb six x y w else (mi six y.bI x.turn).getD w 0).map Dt.int).length=wn six:=by simp
   have Yj:((List.range (wn six)).map fun w=>if w < k then vG six x y w else (mi six y.reach x.turn).getD w 0).length=wn six:=by simp
   have iA:=ix _ lA
   have iB:=ix _ lB
   have iA':∀ z,AR (List.length (List.set (((List.range (wn six)).map fun w=>if w < k then vG six x y w else (mi six y.reach x.turn).getD w 0).map Dt.int) k z)) (k:Int)=some k:=fun z=>ix _ (by rw[List.length_set];exact lA)
   have iB':∀ z,AR (List.length (List.set (((List.range (wn six)).map fun w=>if w < k then yb six x y w else (mi six y.bI x.turn).getD w 0).map Dt.int) k z)) (k:Int)=some k:=fun z=>ix _ (by rw[List.length_set];exact lB)
   by_cases c:(mi six y.reach x.turn).getD k 0+jt six k x.shift<=x.reach.getD k 0
   . have eR:vG six x y k=x.reach.getD k 0:=if_pos c
     have eT:yb six x y k=x.bI.getD k 0:=if_pos c
     refine .nx (ai (lg (m:=k) 4 (aL (qm 4 (aa 6 rfl) (ga _ _ 0)) (bE (ko (aa 2 rfl)) C0 aB hr (ae (aa 6 rfl) (ae (uI T.hK (aG (fs:=t.km six x) (aa 0 rfl) T.aA.cl T.aR rfl)) aj)) ⟨_,_,rfl,⟨by omega,by omega⟩,rfl⟩)) (aa 6 rfl) iA)
       (ai (lg (m:=k) 5 (aL (qm 5 (aa 6 rfl) (ga _ _ 0)) (aG (fs:=t.km six x) (aa 0 rfl) T.aA.cl T.a6 rfl)) (aa 6 rfl) iB)
       (aq (cj (FE (qk (oO (aG (fs:=t.km six x) (aa 0 rfl) T.aA.cl T.bY rfl)) (aa 6 rfl) xr) (qm 4 (aa 6 rfl) (gs _ _ Yj)))
         (fun h=>ai (lg (m:=k) 4 (qk (oO (aG (fs:=t.km six x) (aa 0 rfl) T.aA.cl T.bY rfl)) (aa 6 rfl) xr) (aa 6 rfl) (iA' _))
           (aq (lg (m:=k) 5 (qk (oO (aG (fs:=t.km six x) (aa 0 rfl) T.aA.cl T.dM rfl)) (aa 6 rfl) xt) (aa 6 rfl) (iB' _))))
         (fun h=>absurd c (of_decide_eq_false h)))))) (Le.of ⟨rfl,rfl,rfl,rfl,?_,?_,trivial⟩)
     . rw[List.set_set,pW,<- eR,sM hk]
     . rw[List.set_set,pW,<- eT,sM hk]
   . have eR:vG six x y k=(mi six y.reach x.turn).getD k 0+jt six k x.shift:=if_neg c
     have eT:yb six x y k=(mi six y.bI x.turn).getD k 0+x.many:=if_neg c
     refine .nx (ai (lg (m:=k) 4 (aL (qm 4 (aa 6 rfl) (ga _ _ 0)) (bE (ko (aa 2 rfl)) C0 aB hr (ae (aa 6 rfl) (ae (uI T.hK (aG (fs:=t.km six x) (aa 0 rfl) T.aA.cl T.aR rfl)) aj)) ⟨_,_,rfl,⟨by omega,by omega⟩,rfl⟩)) (aa 6 rfl) iA)
       (ai (lg (m:=k) 5 (aL (qm 5 (aa 6 rfl) (ga _ _ 0)) (aG (fs:=t.km six x) (aa 0 rfl) T.aA.cl T.a6 rfl)) (aa 6 rfl) iB)
       (aq (cj (FE (qk (oO (aG (fs:=t.km six x) (aa 0 rfl) T.aA.cl T.bY rfl)) (aa 6 rfl) xr) (qm 4 (aa 6 rfl) (gs _ _ Yj)))
         (fun h=>absurd (of_decide_eq_true h) c)
         (fun h=>cg))))) (Le.of ⟨rfl,rfl,rfl,rfl,?_,?_,trivial⟩)
     . rw[pW,<- eR,sM hk]
     . rw[pW,<- eT,sM hk]
 . rw[en]
   exact se (ns:=(jn six x y).reach) 4 (se (ns:=(jn six x y).bI) 5 (aq (aI (Bz (rY Pa aB hr (ae (aa 2 rfl) (ae (aL (aG (fs:=t.km six x) (aa 0 rfl) T.aA.cl T.a6 rfl) (dA (fs:=t.km six y) (aa 1 rfl) O7 aB hr ⟨six,y,rfl,rfl⟩))
     (ae (bE (ko (aa 2 rfl)) pU aB hr (ae (aL (aG (fs:=t.km six x) (aa 0 rfl) T.aA.cl T.bb rfl) (dA (fs:=t.km six y) (aa 1 rfl) O8 aB hr ⟨six,y,rfl,rfl⟩)) aj) ⟨_,rfl,rfl⟩)
     (ae (BA T.hK (bU K0 aB hr (ae (uI T.hK (aG (fs:=t.km six x) (aa 0 rfl) T.aA.cl T.aR rfl)) (ae (aa 3 rfl) aj)) ⟨_,_,rfl,rfl⟩))
     (ae (aL (aG (fs:=t.km six x) (aa 0 rfl) T.aA.cl T.bV rfl) (dA (fs:=t.km six y) (aa 1 rfl) Em aB hr ⟨six,y,rfl,rfl⟩))
     (ae (aa 4 rfl) (ae (aa 5 rfl) (ae (aL (aL (aG (fs:=t.km six x) (aa 0 rfl) T.aA.cl T.dN rfl) (dA (fs:=t.km six y) (aa 1 rfl) O9 aB hr ⟨six,y,rfl,rfl⟩))
       (bU K1 aB hr (ae (uI T.hK (aG (fs:=t.km six x) (aa 0 rfl) T.aA.cl T.aR rfl)) (ae (aa 3 rfl) aj)) ⟨_,_,rfl,⟨⟨by have:=wx.sm;omega,by have:=wx.sm;omega⟩,Sy Ws.sm⟩,rfl⟩)) aj)))))))) ⟨six,jn six x y,rfl,rfl⟩)))))
theorem kr (six:Bool)(xs:List Str)(d:Str):bJ six (xs ++ [d])=jn six (bJ six xs) (one six d):=by
 unfold bJ
 rw[List.foldl_append];rfl
theorem sO (six:Bool):∀ n:Nat,tn six n (0,0)=(0,0)
 | 0=>rfl
 | n+1=>by rw[tn,sO six n];cases six <;> rfl
theorem Ae (six:Bool)(d:Str):(sJ six d (0,0) 0).1=if d∈Mh then (1,0) else (0,0):=by
 have e:tn six ((0:Int) % wy six).toNat (1,0)=(1,0):=by cases six <;> rfl
 unfold sJ
 show(if d∈Mh then ad (0,0) (tn six ((0:Int) % wy six).toNat (1,0)) else (0,0))=_
 rw[e];rfl
theorem K2 (six:Bool)(b:Int):(tn six (b % wy six).toNat (1,0)).1.natAbs<=1/\(tn six (b % wy six).toNat (1,0)).2.natAbs<=1:=by
 cases six with
 | false=>
   have e:wy false=4:=rfl
   rw[e]
   have h:b % 4=0\/b % 4=1\/b % 4=2\/b % 4=3:=by omega
   rcases h with h | h | h | h <;> rw[h] <;> decide
 | true=>
   have e:wy true=6:=rfl
   rw[e]
   have h:b % 6=0\/b % 6=1\/b % 6=2\/b % 6=3\/b % 6=4\/b % 6=5:=by omega
   rcases h with h | h | h | h | h | h <;> rw[h] <;> decide
theorem K3 (six:Bool)(x:Tr)(d:Str):(jn six x (one six d)).shift.1.natAbs<=x.shift.1.natAbs+1/\(jn six x (one six d)).shift.2.natAbs<=x.shift.2.natAbs+1:=by
 show(x.shift.1+(tn six (x.turn % wy six).toNat (sJ six d (0,0) 0).1).1).natAbs<=_/\(x.shift.2+(tn six (x.turn % wy six).toNat (sJ six d (0,0) 0).1).2).natAbs<=_
 rw[Ae]
 by_cases c:d∈Mh
 . rw[if_pos c]
   have:=K2 six x.turn
   omega
 . rw[if_neg c,sO]
   simp
theorem Pb (six:Bool)(d:Str):WF six (one six d):=⟨by unfold one;simp,by unfold one;simp,by
 show(sJ six d (0,0) 0).1.1.natAbs < _/\(sJ six d (0,0) 0).1.2.natAbs < _
 rw[Ae]
 by_cases c:d∈Mh
 . rw[if_pos c];decide
 . rw[if_neg c];decide⟩
theorem Pd (six:Bool):WF six (Az six):=⟨by unfold Az;simp,by unfold Az;simp,by show(0:Int).natAbs < _/\(0:Int).natAbs < _;decide⟩
theorem Hs (six:Bool):∀ (n:Nat) (xs:List Str),xs.length=n->(bJ six xs).shift.1.natAbs<=n/\(bJ six xs).shift.2.natAbs<=n/\(bJ six xs).reach.length=wn six/\(bJ six xs).bI.length=wn six:=by
 intro n
 induction n with
 | zero=>
   intro xs h
   have e:xs=[]:=List.eq_nil_of_length_eq_zero h
   subst e
   have w:=Pd six
   exact⟨Nat.le_refl _,Nat.le_refl _,w.rl,w.tl⟩
 | succ n ih=>
   intro xs h
   have AA:xs≠[]:=fun e=>by rw[e] at h;cases h
   have e:=List.dropLast_concat_getLast AA
   have hl:xs.dropLast.length=n:=by rw[List.length_dropLast];omega
   obtain⟨h1,h2,h3,h4⟩:=ih _ hl
   rw[<- e,kr]
   obtain⟨q1,q2⟩:=K3 six (bJ six xs.dropLast) (xs.getLast AA)
   refine⟨by omega,by omega,?_,?_⟩
   . unfold jn;simp
   . unfold jn;simp
theorem sP (six:Bool){xs:List Str}(h:xs.length < 2 ^ 990):WF six (bJ six xs):=by
 obtain⟨h1,h2,h3,h4⟩:=Hs six _ xs rfl
 exact⟨h3,h4,Nat.lt_of_le_of_lt h1 h,Nat.lt_of_le_of_lt h2 h⟩
theorem Pe (six:Bool){xs:List Str}(h:xs.length<=100000):WF six (bJ six xs):=sP six (Nat.lt_of_le_of_lt h (Nat.lt_of_lt_of_le (show 100000 < 2 ^ 20 by decide) (Nat.pow_le_pow_right (by decide) (by decide))))
theorem Af (T:Txt K mg t):GF P w K mg base CX 7 "track_of" 2 (BB t):=by
 refine⟨_,_,_,i6 T.iH.F qV rfl fun bA A outer s H E G ds r hr hl hR=>?_,(T.g T.iH.a),T.iH.F.kp,T.iH.b⟩
 obtain⟨six,xs,rfl,hd,hn,rfl⟩:=hR
 have yi:=Ad (P:=P) (w:=w) (base:=base) T
 have Sz:=BF (P:=P) (w:=w) (base:=base) T
 have uL:=wC (P:=P) (w:=w) (base:=base) T
 have nd:=qV.nd
 let S:Nat->List Slot:=fun k=>[.val (.gU (.obj (t.pc six) [])),.val (.lst (xs.map .str)),.val (t.nS six (bJ six (xs.take k))),.aO]
 have en:S (xs.map Dt.str).length=[.val (.gU (.obj (t.pc six) [])),.val (.lst (xs.map .str)),.val (t.nS six (bJ six xs)),.aO]:=by
   show [_,_,Slot.val (t.nS six (bJ six (xs.take (xs.map Dt.str).length))),_]=_
   rw[List.length_map,List.take_length]
 refine⟨_,.rt _,ai (ay 2 nd (bU yi aB hr (ae (aa 0 rfl) aj) ⟨six,rfl,rfl⟩))
   (ai (Ce (m:=(xs.map Dt.str).length) 3 S nd rfl PassesOwn.leaving (aa 1 rfl) (Le.of ⟨rfl,rfl,rfl,trivial⟩) (Nat.le_refl _) (fun k z hk hz=>?_) (.all rfl)) ?_)⟩
 . rw[List.length_map] at hk
   rw[List.getElem?_map,List.getElem?_eq_getElem hk] at hz
   cases hz
   have hm:xs[k]∈xs:=List.getElem_mem hk
   have e:bJ six (xs.take (k+1))=jn six (bJ six (xs.take k)) (one six xs[k]):=by
     rw[List.take_add_one,List.getElem?_eq_getElem hk]
     exact kr _ _ _
   have hl:(xs.take k).length<=100000:=by rw[List.length_take];omega
   refine .nx (aq (ay 2 nd (bE (fs:=t.km six (bJ six (xs.take k))) (k4 (aa 2 rfl)) uL aB hr (ae (k4 (bU Sz aB hr (ae (aa 0 rfl) (ae (aa 3 rfl) aj)) ⟨six,xs[k],rfl,hd _ hm,rfl⟩)) aj) ⟨six,_,one six xs[k],rfl,⟨Pe six hl,Pb six _⟩,rfl⟩))) (Le.of ⟨rfl,rfl,?_,trivial⟩)
   show Slot.val (t.nS six (bJ six (xs.take (k+1))))=_
   rw[e]
 . rw[en]
   exact aq (aI (aa 2 rfl))
theorem Ht (six:Bool):∀ (n:Nat) (xs:List Str),xs.length=n->(bJ six xs).many=n/\(bJ six xs).eF=(xs.count ("stroke":Str):Nat):=by
 intro n
 induction n with
 | zero=>
   intro xs h
   have e:xs=[]:=List.eq_nil_of_length_eq_zero h
   subst e
   exact⟨rfl,rfl⟩
 | succ n ih=>
   intro xs h
   have AA:xs≠[]:=fun e=>by rw[e] at h;cases h
   have e:=List.dropLast_concat_getLast AA
   have hl:xs.dropLast.length=n:=by rw[List.length_dropLast];omega
   obtain⟨h1,h2⟩:=ih _ hl
   have ec:xs.count ("stroke":Str)=xs.dropLast.count ("stroke":Str)+if xs.getLast AA="stroke" then 1 else 0:=by
     conv=>lhs;rw[<- e]
     rw[List.count_append,List.count_singleton]
     congr 1
     by_cases c:xs.getLast AA="stroke" <;> simp[c]
   rw[ec]
   conv=>lhs;rw[<- e]
   rw[show(bJ six xs).eF=(bJ six (xs.dropLast ++ [xs.getLast AA])).eF by rw[e],kr]
   refine⟨?_,?_⟩
   . show(bJ six xs.dropLast).many+1=_
     rw[h1];omega
   . show(bJ six xs.dropLast).eF+(if xs.getLast AA="stroke" then 1 else 0)=_
     rw[h2]
     by_cases c:xs.getLast AA="stroke"
     . rw[if_pos c,if_pos c];omega
     . rw[if_neg c,if_neg c];omega
open PySem.Builtin.Str PySem.StrLaws in
theorem yj (s:Str)(c limit:Nat):∀ (n i:Nat) (acc:Array Nat) (free:Nat),free<=i->acc.size+n<=limit->(forIn (List.range' i n) (acc,free) (occBody s ⟨#[c]⟩ s.length limit)).run.fst.size=acc.size+(List.range' i n).countP (fun j=>decide (s.cps.toList[j]?=some c))
 | 0,i,acc,free,_,_=>by simp
 | n+1,i,acc,free,hf,hl=>by
   rw[List.range'_succ,List.forIn_cons,List.countP_cons]
   have Yk:=subAt_one s c i
   by_cases hc:s.cps.toList[i]?=some c
   . obtain⟨h1,h2⟩:=Yk.mpr hc
     have e:occBody s ⟨#[c]⟩ s.length limit i (acc,free)=pure (ForInStep.yield (acc.push i,i+(⟨#[c]⟩:Str).length)):=by
       unfold occBody
       exact if_pos ⟨⟨⟨by show acc.size < limit;omega,hf⟩,h1⟩,h2⟩
     rw[e]
     show(forIn (List.range' (i+1) n) (acc.push i,i+(⟨#[c]⟩:Str).length) (occBody s ⟨#[c]⟩ s.length limit)).run.fst.size=_
     rw[yj s c limit n (i+1) (acc.push i) _ (by show i+1<=i+1;omega) (by rw[Array.size_push];omega),Array.size_push,if_pos (decide_eq_true hc)]
     omega
   . have e:occBody s ⟨#[c]⟩ s.length limit i (acc,free)=pure (ForInStep.yield (acc,free)):=by
       unfold occBody
       exact if_neg fun h=>hc (Yk.mp ⟨h.1.2,h.2⟩)
     rw[e]
     show(forIn (List.range' (i+1) n) (acc,free) (occBody s ⟨#[c]⟩ s.length limit)).run.fst.size=_
     rw[yj s c limit n (i+1) acc free (by omega) (by omega),if_neg (by simpa using hc)]
     omega
theorem En (L:List Nat)(c:Nat):(List.range' 0 (L.length+1)).countP (fun j=>decide (L[j]?=some c))=L.count c:=by
 rw[<- List.range_eq_range',List.range_succ,List.countP_append]
 have e1:(List.range L.length).map (fun j=>L[j]?)=L.map some:=by
   refine List.ext_getElem? fun i=>?_
   rw[List.getElem?_map,List.getElem?_map]
   by_cases h:i < L.length
   . rw[List.getElem?_range h];simp[h]
   . rw[List.getElem?_eq_none (by simp;omega),List.getElem?_eq_none (by omega)];rfl
 have e2:(List.range L.length).countP (fun j=>decide (L[j]?=some c))=((List.range L.length).map (fun j=>L[j]?)).countP (fun o=>decide (o=some c)):=by
   rw[List.countP_map];rfl
 rw[e2,e1,List.countP_map]
 have e3:((fun o=>decide (o=some c)) ∘ some)=fun x:Nat=>x == c:=by
   funext x
   by_cases h:x=c <;> simp[h]
 rw[e3]
 simp[List.count]
open PySem.Builtin.Str PySem.StrLaws in
theorem Hu (w:List Nat)(x:Nat):Txt.count (tx w) (sg x)=((w.count x:Nat):Int):=by
 unfold Txt.count
 have hl:=gQ w
 rw[occ_eq,Array.length_toList]
 show(((forIn (List.range' 0 ((tx w).length+1 - 0)) (#[],0) (occBody (tx w) ⟨#[x]⟩ (tx w).length ((tx w).length+1))).run.fst.size:Nat):Int)=_
 rw[yj (tx w) x _ _ 0 #[] 0 (Nat.le_refl _) (by simp)]
 have e:(tx w).cps.toList=w:=by show w.toArray.toList=w;simp
 rw[e,hl,Nat.sub_zero,En]
 simp
def Ml (L w:List Nat):List (Key×Int):=L.map fun x=>(.inr (sg x),((w.count x:Nat):Int))
theorem Hv (L w:List Nat):(dI (Ml L w)).map (·.1)=L.map fun x=>(Sum.inr (sg x):Key):=by
 unfold dI Ml
 rw[List.map_map,List.map_map];rfl
theorem j8 {L:List Nat}(h:L.Nodup):(L.map fun x=>(Sum.inr (sg x):Key)).Nodup:=by
 rw[List.nodup_iff_pairwise_ne,List.pairwise_map]
 exact(List.nodup_iff_pairwise_ne.mp h).imp fun hn e=>hn (qJ (Sum.inr.inj e))
theorem Pg (L w:List Nat):(L.map fun x=>Dt.tup [.str (sg x),.int ((w.count x:Nat):Int)])=(dI (Ml L w)).map IS:=by
 unfold dI Ml
 rw[List.map_map,List.map_map];rfl
def K4 (t:dX):Rl:=fun ds r=>∃ six rows w,ds=[t.yA six rows,.str (tx w)]/\bR rows/\r=.own (.d0 (dI (Ml (rows.map (·.c)) w)))
abbrev Wt:Stmt->Scope
 | .Return (some (.Call _ (.ListComp _ _ sc _::_) _ _)) _=>sc
 | _=>af (.Pass ⟨0,0,0,0⟩)
abbrev Hw:Scope:=Wt ((aE pK).getD 0 (.Pass ⟨0,0,0,0⟩))
theorem Ag:jx Hw (af pK) CH ["letter","word"] ["letter"] [1]=true:=by decide +kernel
theorem gJ (w:List Nat):w.map (fun x=>Dt.str (sg x))=Sg.signs (tx w):=by rw[uG,List.map_map];rfl
theorem uM {rows:List Row}(ok:bR rows):ji (tx (rows.map (·.c)))=true:=ja fun x hx=>by
 obtain⟨r,hr,rfl⟩:=List.mem_map.mp hx
 have:=ok.sm r hr
 unfold small at this;omega
theorem Hx (T:Txt K mg t):GF P w K mg base CX 3 "tally" 2 (K4 t):=by
 refine⟨_,_,_,i6 T.nM.F zQ rfl fun bA A outer s H E G ds r hr hl hR=>?_,(T.g T.nM.a),T.nM.F.kp,T.nM.b⟩
 obtain⟨six,rows,wd,rfl,ok,rfl⟩:=hR
 have eQ:=jc (P:=P) (w:=w) (base:=base) T
 have nd:=zQ.nd
 have h6:=ok.le
 let L:=rows.map (·.c)
 have e2:((L.filter fun _=>true).map fun x=>Dt.tup [.str (sg x),.int ((wd.count x:Nat):Int)])=(dI (Ml L wd)).map IS:=by
   rw[List.filter_eq_self.mpr (fun _ _=>rfl)]
   exact Pg L wd
 refine⟨_,.ro _,aq (kH (ll T.m8 rfl (iJ e2 (jh L (fun x=>Dt.str (sg x)) (fun x=>.tup [.str (sg x),.int ((wd.count x:Nat):Int)]) (fun x=>[.val (.str (sg x))]) (fun _=>true) rfl (dj Ag) (jk (dA (fs:=t.wt six rows) (aa 0 rfl) eQ aB hr ⟨six,rows,rfl,ok,rfl⟩)) (dB (dj Ag) rfl) (fh (eI (uM ok)) (gJ L)) (fun a _=>e6) (.nil fun _ _=>rfl)
     (fun a ha _ C fp s' H' G'=>dy (ae (aa 0 rfl) (ae (aU (DX (aa 1 rfl) (aa 0 rfl)) (congrArg Dt.int (Hu wd a))) aj)) AA3) (qX (by show(rows.map (·.c)).length<=_;rw[List.length_map];omega)))) ?_ ?_))⟩
 . rw[Hv];exact j8 ok.nd
 . show((Ml (rows.map (·.c)) wd).map _).length<=_
   unfold Ml
   rw[List.length_map,List.length_map,List.length_map]
   exact qX (by omega)
def cT (rows:List Row):Nat->Nat->Nat->Int
 | 0,c,x=>(([c].count x:Nat):Int)
 | i+1,c,x=>((wordOf rows c).map fun y=>cT rows i y x).sum
def kc (L:List Nat)(T:Nat->Int):List (Key×Int):=L.map fun x=>(.inr (sg x),T x)
def lT (rows:List Row)(i c:Nat):Int:=((rows.map (·.c)).map fun x=>cT rows i c x).sum
def uN (rows:List Row)(i:Nat):List (Key×FD):=(rows.map (·.c)).map fun c=>(.inr (sg c),.d0 (kc (rows.map (·.c)) (cT rows i c)))
def yk (rows:List Row)(i:Nat):List (Key×FD):=(rows.map (·.c)).map fun c=>(.inr (sg c),.int (lT rows i c))
theorem K5 (L:List Nat)(T:Nat->Int):(kc L T).map (·.2)=L.map T:=by unfold kc;rw[List.map_map];rfl
theorem K6 (L:List Nat)(T:Nat->Int):(dI (kc L T)).map (·.1)=L.map fun x=>(Sum.inr (sg x):Key):=by unfold dI kc;rw[List.map_map,List.map_map];rfl
theorem Ph (L:List Nat)(T:Nat->Int):(dI (kc L T)).length=L.length:=by unfold dI kc;rw[List.length_map,List.length_map]
def kd (L:List Nat)(D:Nat->Dt):List (Key×Dt):=L.map fun x=>(.inr (sg x),D x)
theorem kO {D:Nat->Dt}:∀ {L:List Nat} {x:Nat},x∈L->lj (kd L D) (.inr (sg x))=some (D x)
 | [],_,h=>by cases h
 | y::L,x,h=>by
   by_cases e:y=x
   . subst e
     exact pF (p:=((.inr (sg y):Key),D y)) rfl
   . have ne:¬ (Sum.inr (sg y):Key)=.inr (sg x):=fun z=>e (qJ (Sum.inr.inj z))
     have hx:x∈L:=by
       rcases List.mem_cons.mp h with z | z
       . exact absurd z.symm e
       . exact z
     exact(mR (p:=((.inr (sg y):Key),D y)) ne).trans (kO hx)
theorem Mm (L:List Nat)(T:Nat->Int):dI (kc L T)=kd L fun x=>.int (T x):=by unfold dI kc kd;rw[List.map_map];rfl
theorem ER (rows:List Row)(i:Nat):mD (uN rows i)=kd (rows.map (·.c)) fun c=>.dW (dI (kc (rows.map (·.c)) (cT rows i c))):=by unfold mD uN kd;rw[List.map_map];rfl
theorem Mn (rows:List Row)(i:Nat):mD (yk rows i)=kd (rows.map (·.c)) fun c=>.int (lT rows i c):=by unfold mD yk kd;rw[List.map_map];rfl
theorem pX (L:List Nat)(D:Nat->Dt):(kd L D).map (·.1)=L.map fun x=>(Sum.inr (sg x):Key):=by unfold kd;rw[List.map_map];rfl
theorem Ah (L:List Nat)(D:Nat->Dt):(L.map fun x=>Dt.tup [.str (sg x),D x])=(kd L D).map IS:=by unfold kd;rw[List.map_map];rfl
theorem Hy {L:List Nat}(nd:L.Nodup){D:Nat->Dt}{j:Nat}(hj:j < L.length):tW (kd (L.take j) D) (.inr (sg L[j])) (D L[j])=kd (L.take (j+1)) D:=by
 have hn:lj (kd (L.take j) D) (.inr (sg L[j]))=none:=by
   refine qu fun kv Vi=>?_
   have:kv.1∈(kd (L.take j) D).map (·.1):=List.mem_map.mpr ⟨kv,Vi,rfl⟩
   rw[pX] at this
   obtain⟨y,hy,e⟩:=List.mem_map.mp this
   intro z
   rw[<- e] at z
   have z:y=L[j]:=qJ (Sum.inr.inj z)
   obtain⟨i,hi,e⟩:=List.mem_iff_getElem.mp hy
   rw[List.length_take] at hi
   rw[List.getElem_take] at e
   exact List.pairwise_iff_getElem.mp nd i j (by omega) hj (by omega) (e.trans z)
 unfold tW
 rw[hn,if_neg (by simp)]
 unfold kd
 rw[List.take_add_one,List.getElem?_eq_getElem hj,List.map_append];rfl
def Hz (L:List Nat)(T:Nat->Int):Dt:=.dW (dI (kc L T))
def HA:Rl:=fun ds r=>∃ (L:List Nat) (ts:List (Nat->Int)),ds=[.lst (ts.map (Hz L)),.str (tx L)]/\L.Nodup/\L.length<=6/\(∀ x∈L,x < 128)/\ts.length<=1000/\r=.own (.d0 (dI (kc L fun x=>(ts.map fun T=>T x).sum)))
abbrev Pj:Stmt->Scope
 | .Return (some (.Call _ (.ListComp _ _ sc _::_) _ _)) _=>sc
 | _=>af (.Pass ⟨0,0,0,0⟩)
abbrev SD:Stmt->Scope
 | .Return (some (.Call _ (.ListComp (.Tuple [_,.Call _ (.ListComp _ _ sc _::_) _ _] _ _) _ _ _::_) _ _)) _=>sc
 | _=>af (.Pass ⟨0,0,0,0⟩)
abbrev Mo:Scope:=Pj ((aE i8).getD 0 (.Pass ⟨0,0,0,0⟩))
abbrev Pk:Scope:=SD ((aE i8).getD 0 (.Pass ⟨0,0,0,0⟩))
def Wu (sc:Scope):Env:={ scope:=sc,locals:=0,globals:=0,cells:=[],qual:="",func:=none,code:=.none,frame:=none,builtins:=0}
abbrev SE:Scope:=relabel Mo (Wu (af i8))
theorem Mp:Gq Mo (af i8) zR ["letter","tallies"] "letter" [0]=true:=by decide +kernel
theorem HB:jx Pk SE ["letter","tallies"] ["counts","letter"] ["counts"] [0]=true:=by decide +kernel
theorem Eo (T:Txt K mg t):GF P w K mg base CX 2 "summed" 2 HA:=by
 refine⟨_,_,_,i6 T.lD.F we rfl fun bA A outer s H E G ds r hr hl hR=>?_,(T.g T.lD.a),T.lD.F.kp,T.lD.b⟩
 obtain⟨L,ts,rfl,hnd,hL,h7,Yl,rfl⟩:=hR
 have nd:=we.nd
 have hu:(A.deeper (envOfC "summed" (af i8) s.heap.objs.size t.m7 bA)).units+1 < cLine:=by have:=hr.units;omega
 let D:Nat->Dt:=fun x=>.int (ts.map fun T=>T x).sum
 have e2:((L.filter fun _=>true).map fun x=>Dt.tup [.str (sg x),D x])=(dI (kc L fun x=>(ts.map fun T=>T x).sum)).map IS:=by
   rw[List.filter_eq_self.mpr (fun _ _=>rfl),Mm]
   exact Ah L D
 refine⟨_,.ro _,aq (kH (ll T.m8 rfl (iJ e2 (Oa L (fun x=>Dt.str (sg x)) (fun x=>.tup [.str (sg x),D x]) (fun x=>[.val (.str (sg x))]) (fun _=>true) rfl (L5 Mp) (jk (aa 1 rfl)) (Gp (L5 Mp)) (fh (eI (ja h7)) (gJ L)) (fun a _=>e6) (.nil fun _ _=>rfl)
     (fun a ha _ c C fp s' H' G'=>?_) (qX (by omega)))) (by rw[K6];exact j8 hnd) (by rw[Ph];exact qX (by omega))))⟩
 have e3:((ts.filter fun _=>true).map fun T=>Dt.int (T a))=(ts.map fun T=>T a).map Dt.int:=by
   rw[List.filter_eq_self.mpr (fun _ _=>rfl),List.map_map];rfl
 refine dy (ae (aa 0 rfl) (ae (Gb T.zY rfl (iJ e3 (jh ts (Hz L) (fun T=>Dt.int (T a)) (fun T=>[.val (Hz L T)]) (fun _=>true) rfl (dj HB) (kC (aa 1 rfl)) (dB (dj HB) rfl) lh (fun a _=>e6) (.nil fun _ _=>rfl)
   (fun T' hT' _ C2 Vp s2 H2 G2=>?_) (qX (by omega))))) aj)) AA3
 exact ke hu (aa 0 rfl) (aa 1 rfl) (by rw[Mm];exact kO ha) (fun _ _=>rfl)
def dX.yl (t:dX)(six:Bool)(rows:List Row)(w:List Nat):List (Str×Dt):=[("rules",t.yA six rows),("seed",.str (tx w))]
def pY (rows:List Row):List (Nat->List (Key×FD)):=[uN rows,yk rows]
abbrev dX.iK (t:dX)(six:Bool)(rows:List Row)(w:List Nat)(l:Addr)(ls:je)(n:Nat):List (Str×Dt):=qR (t.yl six rows w) ["tallies","lengths"] l ls n
abbrev dX.Ep (t:dX)(six:Bool)(rows:List Row)(w:List Nat)(l:Addr)(ls:je)(n:Nat):List (Str×Dt):=nX (t.yl six rows w) ["tallies","lengths"] l ls n
abbrev dX.Wv (t:dX)(six:Bool)(rows:List Row)(w:List Nat)(n:Nat):Dt:=.u9 t.au (t.yl six rows w) (pY rows) ["tallies","lengths"] n
structure mH (rows:List Row)(w:List Nat):Prop where
 ok:bR rows
 w0:0 < w.length
 w8:w.length<=8
 wm:∀ x∈w,x∈rows.map (·.c)
theorem Ai {a:Addr}:∀ rows:List Row,xu a (qI rows)=true
 | []=>rfl
 | r::rows=>by
   show(qw a (pS r) && xu a (qI rows))=true
   rw[Ai rows];rfl
theorem BG {a:Addr}(t:dX)(six:Bool)(rows:List Row):qw a (t.yA six rows)=true:=by
 show jE a [("drawer",.gU (.obj (t.pc six) [])),("row_by_letter",.d0 (qI rows))]=true
 show(true && (xu a (qI rows) && true))=true
 rw[Ai];rfl
theorem Aj {a:Addr}(t:dX)(six:Bool)(rows:List Row)(w:List Nat):jE a (t.yl six rows w)=true:=by
 show(qw a (t.yA six rows) && (true && true))=true
 rw[BG];rfl
def K7 (t:dX):Rl:=fun ds r=>∃ six rows w,ds=[t.yA six rows,.str (tx w)]/\mH rows w/\r=.own (.qi t.au (t.yl six rows w) (pY rows) ["tallies","lengths"] 1)
abbrev BH:Stmt->Scope
 | .Assign _ (.List [.Call _ (.ListComp _ _ sc _::_) _ _] _) _=>sc
 | _=>af (.Pass ⟨0,0,0,0⟩)
abbrev Pl:Scope:=BH ((aE dg).getD 2 (.Pass ⟨0,0,0,0⟩))
abbrev Pm:Scope:=BH ((aE dg).getD 3 (.Pass ⟨0,0,0,0⟩))
theorem HC:jx Pl (af dg) kW ["letter","rules"] ["letter"] [1]=true:=by decide +kernel
theorem HD:jx Pm (af dg) kW ["letter"] ["letter"] []=true:=by decide +kernel
theorem C1:∀ {L:List Nat} {c:Nat},L.Nodup->c∈L->(L.map fun x=>(([c].count x:Nat):Int)).sum=1
 | [],_,_,h=>by cases h
 | y::L,c,nd,h=>by
   rw[List.nodup_cons] at nd
   rw[List.map_cons,List.sum_cons]
   by_cases e:c=y
   . subst e
     have z:(L.map fun x=>(([c].count x:Nat):Int)).sum=0:=by
       have:∀ x∈L,(([c].count x:Nat):Int)=0:=fun x hx=>by
         have:¬ c=x:=fun z=>nd.1 (z ▸ hx)
         simp[List.count_cons,this]
       rw[List.map_congr_left this]
       clear this nd h
       induction L with
       | nil=>rfl
       | cons a r ih=>rw[List.map_cons,List.sum_cons,ih];rfl
     rw[z]
     simp
   . have hc:c∈L:=by
       rcases List.mem_cons.mp h with z | z
       . exact absurd z e
       . exact z
     rw[C1 nd.2 hc]
     simp[List.count_cons,e]
theorem SF {rows:List Row}(ok:bR rows){c:Nat}(h:c∈rows.map (·.c)):lT rows 0 c=1:=C1 ok.nd h
theorem HE (T:Txt K mg t):P2 P w K mg base CX 4 "Growth" t.au 3 (K7 t):=by
 refine⟨_,_,_,TM T.iY.F mY rfl fun bA A outer s H E G z ds r hr hl hR=>?_,T.qE,(T.g T.aP.a),T.iY.b⟩
 obtain⟨six,rows,wd,rfl,ok,rfl⟩:=hR
 have eQ:=jc (P:=P) (w:=w) (base:=base) T
 have Er:=z5 (P:=P) (w:=w) (base:=base) T
 have K8:=Hx (P:=P) (w:=w) (base:=base) T
 have h6:=ok.ok.le
 let L:=rows.map (·.c)
 have hL:L.length<=6:=by show(rows.map (·.c)).length<=6;rw[List.length_map];exact h6
 have nd:=mY.nd
 have e1:((L.filter fun _=>true).map fun x=>Dt.tup [.str (sg x),Hz L (cT rows 0 x)])=(mD (uN rows 0)).map IS:=by
   rw[List.filter_eq_self.mpr (fun _ _=>rfl),ER]
   exact Ah L _
 have e2:((L.filter fun _=>true).map fun x=>Dt.tup [.str (sg x),.int 1])=(mD (yk rows 0)).map IS:=by
   rw[List.filter_eq_self.mpr (fun _ _=>rfl),Mn,<- Ah]
   exact List.map_congr_left fun x hx=>by rw[SF ok.ok hx]
 refine⟨_,.U9 (fs:=t.yl six rows wd) (gs:=pY rows) (nm:=["tallies","lengths"]) (n:=1) rfl,ai (jg (aa 1 rfl) T.aP.cl T.cy) (ai (jg (FW (fs:=t.wt six rows) (aa 1 rfl) Er aB hr (ae (aa 2 rfl) aj) ⟨six,rows,wd,8,rfl,ok.ok,ok.wm,⟨ok.w0,ok.w8,by decide⟩,rfl⟩) T.aP.cl T.fA)
   (xy (f:=uN rows) (g:=yk rows) rfl T.aP.cl T.cm T.cn ?_ ?_))⟩
 . refine ll T.m8 rfl (iJ e1 (jh L (fun x=>Dt.str (sg x)) (fun x=>.tup [.str (sg x),Hz L (cT rows 0 x)]) (fun x=>[.val (.str (sg x))]) (fun _=>true) rfl (dj HC) (jk (dA (fs:=t.wt six rows) (aa 1 rfl) eQ aB hr ⟨six,rows,rfl,ok.ok,rfl⟩)) (dB (dj HC) rfl) (fh (eI (uM ok.ok)) (gJ L)) (fun a _=>e6) (.nil fun _ _=>rfl)
     (fun a ha _ C fp s' H' G'=>dy (ae (aa 0 rfl) (ae (L7 (vX K8 aB hr (ae (aa 1 rfl) (ae (aa 0 rfl) aj)) ⟨six,rows,[a],rfl,ok.ok,rfl⟩)) aj)) AA3) (qX (by omega)))) (by rw[ER,pX];exact j8 ok.ok.nd) (by rw[ER];show(List.map _ _).length<=_;rw[List.length_map,List.length_map];exact qX (by omega))
 . refine ll T.m8 rfl (iJ e2 (jh L (fun x=>Dt.str (sg x)) (fun x=>.tup [.str (sg x),.int 1]) (fun x=>[.val (.str (sg x))]) (fun _=>true) rfl (dj HD) (jk (dA (fs:=t.wt six rows) (aa 1 rfl) eQ aB hr ⟨six,rows,rfl,ok.ok,rfl⟩)) (dB (dj HD) rfl) (fh (eI (uM ok.ok)) (gJ L)) (fun a _=>e6) (.nil fun _ _=>rfl)
     (fun a ha _ C fp s' H' G'=>dy (ae (aa 0 rfl) (ae ao aj)) AA3) (qX (by omega)))) (by rw[Mn,pX];exact j8 ok.ok.nd) (by rw[Mn];show(List.map _ _).length<=_;rw[List.length_map,List.length_map];exact qX (by omega))
def HF (t:dX):Rl:=fun ds r=>∃ six rows w l ls n age,ds=[.obj t.au (t.iK six rows w l ls n),.int ((age:Nat):Int)]/\mH rows w/\ls.map (·.2)=pY rows/\age<=1000/\r=.ret (.u0 l ls (age+1))
abbrev SG:Stmt->List Stmt
 | .While _ b _ _=>b
 | _=>[]
abbrev Ak:Stmt->Scope
 | .For _ _ [.Assign _ (.Call _ (.ListComp _ _ sc _::_) _ _) _] _ _=>sc
 | _=>af (.Pass ⟨0,0,0,0⟩)
abbrev K9:Stmt->Scope
 | .Expr (.Call _ [.Call _ (.ListComp _ _ sc _::_) _ _] _ _) _=>sc
 | _=>af (.Pass ⟨0,0,0,0⟩)
abbrev wB:List Stmt:=SG ((aE bw).getD 1 (.Pass ⟨0,0,0,0⟩))
abbrev SH:Scope:=Ak (wB.getD 2 (.Pass ⟨0,0,0,0⟩))
abbrev SI:Scope:=K9 (wB.getD 4 (.Pass ⟨0,0,0,0⟩))
theorem Mq:jx SH (af bw) gM ["younger","last"] ["younger"] [3]=true:=by decide +kernel
theorem Mr:jx SI (af bw) gM ["letter","grown"] ["letter"] [4]=true:=by decide +kernel
theorem Es (T:Txt K mg t):MF P w K mg base CX 4 t.au "deepen_to" 2 (HF t):=by
 refine⟨T.aP.cl,_,_,_,i6 T.eB.F jA rfl fun bA A outer s H E G ds r hr hl hR=>?_,T.cP,T.eB.b⟩
 obtain⟨six,rows,wd,l,ls,n,age,rfl,ok,nY,kR,rfl⟩:=hR
 have eQ:=jc (P:=P) (w:=w) (base:=base) T
 have uO:=uH (P:=P) (w:=w) (base:=base) T
 have HG:=Eo (P:=P) (w:=w) (base:=base) T
 have nd:=jA.nd
 have h6:=ok.ok.le
 let L:=rows.map (·.c)
 have hL:L.length<=6:=by show(rows.map (·.c)).length<=6;rw[List.length_map];exact h6
 have h7:∀ x∈L,x < 128:=fun x hx=>by
   obtain⟨r,hr,rfl⟩:=List.mem_map.mp hx
   have:=ok.ok.sm r hr
   unfold small at this;omega
 have hu:(A.deeper (envOfC "Growth.deepen_to" (af bw) s.heap.objs.size t.bx bA)).units+1 < cLine:=by have:=hr.units;omega
 have e2:ls.length=2:=by have:=congrArg List.length nY;simpa [pY] using this
 let tl:List Slot:=[.val (.int ((age:Nat):Int)),.val (.str (tx L)),.aO,.aO,.aO]
 refine⟨_,nI (by rw[e2];exact Nat.le_refl 2),ai (dl1:=yy t.au (t.yl six rows wd) ["tallies","lengths"] l ls n tl) (ay 2 nd (dA (fs:=t.wt six rows) (aG (fs:=t.iK six rows wd l ls n) (aa 0 rfl) T.aP.cl T.cy rfl) eQ aB hr ⟨six,rows,rfl,ok.ok,rfl⟩))
   (aq (v7 (age:=age) PassesOwn.leaving (Aj t six rows wd) rfl (by decide) (by omega) (fun N G hx=>?_) (fun N hN hNa G0 hA hB=>?_)))⟩
 . exact di (pA (CC (N:=N) T.jB hx (aG (fs:=t.Ep six rows wd l ls n) (aa 0 rfl) T.aP.cl T.cm rfl) (by rw[e2];rfl)) (aa 1 rfl)) (decide_eq_decide.mpr (by omega))
 . let Dk:Nat->Dt:=fun c=>Hz L (cT rows N c)
   let S:Nat->List Slot:=fun k=>[.val (.obj t.au (t.Ep six rows wd l ls n)),.val (.int ((age:Nat):Int)),.val (.str (tx L)),.val (.dW (mD (uN rows (N - 1)))),.own (.d0 (kd (L.take k) Dk)),.aO]
   have eS:S L.length=[.val (.obj t.au (t.Ep six rows wd l ls n)),.val (.int ((age:Nat):Int)),.val (.str (tx L)),.val (.dW (mD (uN rows (N - 1)))),.own (.d0 (mD (uN rows N))),.aO]:=by
     show [_,_,_,_,Slot.own (.d0 (kd (L.take L.length) Dk)),_]=_
     rw[List.take_length,ER rows N];rfl
   refine ai (ay 3 nd (zH (f:=uN rows) (N:=N) ak (aG (fs:=t.Ep six rows wd l ls n) (aa 0 rfl) T.aP.cl T.cm rfl) (iz ao) (by rw[nY];rfl) (by rw[e2];rfl) hN)) (ai (jD 4 nd Cw)
     (ai (dl1:=S L.length) (pE (o:=.nx (S L.length)) (m:=L.length) L (fun x=>Dt.str (sg x)) (fun x dl=>dl.set 5 (.val (.str (sg x)))) S rfl PassesOwn.leaving (jk (aa 2 rfl)) (fh (eI (ja h7)) (gJ L)) (bD nd rfl (.inl rfl)) (fun a _=>xm) (Le.of ⟨rfl,rfl,rfl,rfl,rfl,trivial⟩) (Nat.le_refl _) (fun k a hk ha=>?_) (.all rfl)) ?_))
   . rw[List.getElem?_eq_getElem hk] at ha
     cases ha
     have hm:L[k]∈L:=List.getElem_mem hk
     obtain⟨q,hq,hc,_,ew⟩:=jb hm
     have Ww:=ok.ok.wp q hq
     have SJ:∀ y∈wordOf rows L[k],y∈L:=fun y hy=>ok.ok.wo q hq y (by rw[ew] at hy;exact hy)
     have Nu:(wordOf rows L[k]).length<=8:=by rw[ew];exact Ww.2
     have RD:(kd (L.take k) Dk).length < sizeLine:=by
       unfold kd
       rw[List.length_map,List.length_take];exact Nat.lt_of_lt_of_le (show min k L.length < 2000 by omega) (by decide)
     have e3:(((wordOf rows L[k]).filter fun _=>true).map fun y=>Hz L (cT rows (N - 1) y))=((wordOf rows L[k]).map fun y=>cT rows (N - 1) y).map (Hz L):=by
       rw[List.filter_eq_self.mpr (fun _ _=>rfl),List.map_map];rfl
     have eN:N=(N - 1)+1:=by omega
     have ed:Dk L[k]=.dW (dI (kc L fun x=>(((wordOf rows L[k]).map fun y=>cT rows (N - 1) y).map fun T=>T x).sum)):=by
       have e7:(cT rows N L[k])=fun x=>(((wordOf rows L[k]).map fun y=>cT rows (N - 1) y).map fun T=>T x).sum:=by
         funext x
         rw[List.map_map]
         obtain⟨M,rfl⟩:∃ M,N=M+1:=⟨N - 1,eN⟩
         rfl
       show Hz L (cT rows N L[k])=_
       rw[e7];rfl
     refine .nx (aq (Cy (kds:=kd (L.take k) Dk) (d:=Dk L[k]) 4 hu (by rw[ed];exact L7 (vX HG aB hr (ae (iJ e3 (jh (wordOf rows L[k]) (fun x=>Dt.str (sg x)) (fun y=>Hz L (cT rows (N - 1) y)) (fun x=>[.val (.str (sg x))]) (fun _=>true) rfl (dj Mq) (jk (bE (fs:=t.wt six rows) (aG (fs:=t.Ep six rows wd l ls n) (aa 0 rfl) T.aP.cl T.cy rfl) uO aB hr (ae (aa 5 rfl) aj) ⟨six,rows,L[k],rfl,ok.ok,hm,rfl⟩)) (dB (dj Mq) rfl) (fh (eI (sH ok.ok SJ)) (gJ _)) (fun a _=>e6) (.nil fun _ _=>rfl)
       (fun y hy _ C fp s' H' G'=>ke hu (aa 1 rfl) (aa 0 rfl) (by rw[ER];exact kO (SJ y hy)) (fun _ _=>rfl)) (qX (by omega)))) (ae (aa 2 rfl) aj)) ⟨L,_,rfl,ok.ok.nd,hL,h7,by rw[List.length_map];omega,rfl⟩)) (aa 5 rfl) RD)) (Le.of ⟨rfl,rfl,rfl,rfl,?_,trivial⟩)
     show Slot.own (.d0 (kd (L.take (k+1)) Dk))=Slot.own (.d0 (tW (kd (L.take k) Dk) (.inr (sg L[k])) (Dk L[k])))
     rw[Hy ok.ok.nd hk]
   . rw[eS]
     refine Cd (dl1:=.val (.obj t.au (t.Ep six rows wd l ls n))::tl.set 3 (.own (.d0 (mD (uN rows N))))) (zL (f:=uN rows) (g:=yk rows) (tl:=tl) 3 (Aj t six rows wd) rfl rfl nY (by omega) T.aP.cl T.cm T.cn hA hB (fun G2=>?_)) (Le.of ⟨rfl,rfl,rfl,rfl,trivial⟩)
     have e4:((L.filter fun _=>true).map fun x=>Dt.tup [.str (sg x),.int (lT rows N x)])=(mD (yk rows N)).map IS:=by
       rw[List.filter_eq_self.mpr (fun _ _=>rfl),Mn]
       exact Ah L _
     exact ll T.m8 rfl (iJ e4 (jh L (fun x=>Dt.str (sg x)) (fun x=>.tup [.str (sg x),.int (lT rows N x)]) (fun x=>[.val (.str (sg x))]) (fun _=>true) rfl (dj Mr) (jk (aa 2 rfl)) (dB (dj Mr) rfl) (fh (eI (ja h7)) (gJ L)) (fun a _=>e6) (.nil fun _ _=>rfl)
       (fun a ha _ C fp s' H' G'=>dy (ae (aa 0 rfl) (ae (aU (J8 (kds:=kc L (cT rows N a)) T.zY rfl (ke (d:=Hz L (cT rows N a)) hu (aa 1 rfl) (aa 0 rfl) (by rw[ER];exact kO ha) (fun _ _=>rfl)) (.inl rfl)) (by rw[K5];rfl)) aj)) AA3) (qX (by omega)))) (by rw[Mn,pX];exact j8 ok.ok.nd) (by rw[Mn];show(List.map _ _).length<=_;rw[List.length_map,List.length_map];exact qX (by omega))
def Wx:Rl:=fun ds r=>∃ z f l:Int,ds=[.int z,.int f,.int l]/\f<=z/\z<=l/\r=.ret .cL
def La (t:dX):Rl:=fun ds r=>∃ six rows w l ls n age,ds=[.obj t.au (t.iK six rows w l ls n),.int ((age:Nat):Int)]/\mH rows w/\ls.map (·.2)=pY rows/\age<=200/\r=.ret (.u0 l ls (age+1))
def Wy (rows:List Row)(w:List Nat)(age:Nat):Int:=(w.map (lT rows age)).sum
def Pn (t:dX):Rl:=fun ds r=>∃ six rows w l ls n age,ds=[.obj t.au (t.iK six rows w l ls n),.int ((age:Nat):Int)]/\mH rows w/\ls.map (·.2)=pY rows/\age<=200/\r=.ret (.int (Wy rows w age))
def Po (t:dX):Rl:=fun ds r=>∃ six rows w l ls n,ds=[.obj t.au (t.iK six rows w l ls n)]/\r=.ret (t.yA six rows)
abbrev HH:Stmt->Scope
 | .Return (some (.Call _ (.ListComp _ _ sc _::_) _ _)) _=>sc
 | _=>af (.Pass ⟨0,0,0,0⟩)
abbrev SK:Scope:=HH ((aE cU).getD 1 (.Pass ⟨0,0,0,0⟩))
theorem Ms:jx SK (af cU) mz ["letter","self","age"] ["letter"] [0,1]=true:=by decide +kernel
theorem mH.asc {rows:List Row}{w:List Nat}(ok:mH rows w):ji (tx w)=true:=sH ok.ok ok.wm
theorem SM (T:Txt K mg t):GF P w K mg base CX 1 "check_round" 3 Wx:=by
 refine⟨_,_,_,i6 T.eP.F uk rfl fun bA A outer s H E G ds r hr hl hR=>?_,(T.g T.eP.a),T.eP.F.kp,T.eP.b⟩
 obtain⟨z,f,l,rfl,h1,h2,rfl⟩:=hR
 exact⟨_,.nx _,aq (cj (u:=false) (vb (vT (u:=false) (v:=false) (di (tL (aa 0 rfl) (aa 1 rfl)) (decide_eq_false (by omega))) fun _=>(tJ (di (zk (aa 0 rfl) (aa 2 rfl)) (decide_eq_false (by omega)))))) (fun h=>nomatch h) (fun h=>cg))⟩
theorem Al (T:Txt K mg t):MF P w K mg base CX 5 t.au "enter" 2 (La t):=by
 refine⟨T.aP.cl,_,_,_,i6 T.il.F rE rfl fun bA A outer s H E G ds r hr hl hR=>?_,T.eC,T.il.b⟩
 obtain⟨six,rows,wd,l,ls,n,age,rfl,ok,nY,kR,rfl⟩:=hR
 have Wz:=SM (P:=P) (w:=w) (base:=base) T
 have BI:=Es (P:=P) (w:=w) (base:=base) T
 have e2:ls.length=2:=by have:=congrArg List.length nY;simpa [pY] using this
 exact⟨_,nI (nm:=["tallies","lengths"]) (by rw[e2];exact Nat.le_refl 2),ai (pq (bU Wz aB hr (ae (aa 1 rfl) (ae ao (ae (kG (w:=.int 200) T.x4 ⟨_,rfl⟩ fun _=>.int 200) aj))) ⟨_,_,_,rfl,by omega,by omega,rfl⟩))
   (aq (pI (m:=age+1) (tl:=[.val (.int ((age:Nat):Int))]) (bE (fs:=t.iK six rows wd l ls n) (aa 0 rfl) BI aB hr (ae (aa 1 rfl) aj) ⟨six,rows,wd,l,ls,n,age,rfl,ok,nY,by omega,rfl⟩)))⟩
theorem C3 (T:Txt K mg t):MF P w K mg base CX 6 t.au "length" 2 (Pn t):=by
 refine⟨T.aP.cl,_,_,_,i6 T.gG.F qC rfl fun bA A outer s H E G ds r hr hl hR=>?_,T.dQ,T.gG.b⟩
 obtain⟨six,rows,wd,l,ls,n,age,rfl,ok,nY,kR,rfl⟩:=hR
 have HI:=Al (P:=P) (w:=w) (base:=base) T
 have hu:(A.deeper (envOfC "Growth.length" (af cU) s.heap.objs.size t.cv bA)).units+1 < cLine:=by have:=hr.units;omega
 have w8:=ok.w8
 have e3:((wd.filter fun _=>true).map fun x=>Dt.int (lT rows age x))=(wd.map (lT rows age)).map Dt.int:=by
   rw[List.filter_eq_self.mpr (fun _ _=>rfl),List.map_map];rfl
 exact⟨_,.rt _,ai (pI (m:=age+1) (tl:=[.val (.int ((age:Nat):Int))]) (bE (fs:=t.iK six rows wd l ls n) (aa 0 rfl) HI aB hr (ae (aa 1 rfl) aj) ⟨six,rows,wd,l,ls,n,age,rfl,ok,nY,by omega,rfl⟩))
   (aq (aI (Gb T.zY rfl (iJ e3 (jh wd (fun x=>Dt.str (sg x)) (fun x=>Dt.int (lT rows age x)) (fun x=>[.val (.str (sg x))]) (fun _=>true) rfl (dj Ms) (jk (aG (fs:=t.iK six rows wd l ls (age+1)) (aa 0 rfl) T.aP.cl T.fA rfl)) (dB (dj Ms) rfl) (fh (eI ok.asc) (gJ wd)) (fun a _=>e6) (.nil fun _ _=>rfl)
     (fun a ha _ C fp s' H' G'=>ke hu (Bh (n:=age+1) (j:=1) (f:=yk rows) (aG (fs:=t.iK six rows wd l ls (age+1)) (aa 1 rfl) T.aP.cl T.cn rfl) (aa 2 rfl) (by rw[nY];rfl) (by omega) (by omega)) (aa 0 rfl) (by rw[Mn];exact kO (ok.wm a ha)) (fun _ _=>rfl)) (qX (by omega)))))))⟩
theorem ym (T:Txt K mg t):MF P w K mg base CX 1 t.au "rules_told" 1 (Po t):=by
 refine⟨T.aP.cl,_,_,_,i6 T.dw.F mZ rfl fun bA A outer s H E G ds r hr hl hR=>?_,T.cF,T.dw.b⟩
 obtain⟨six,rows,wd,l,ls,n,rfl,rfl⟩:=hR
 exact⟨_,.rt _,aq (aI (aG (fs:=t.iK six rows wd l ls n) (aa 0 rfl) T.aP.cl T.cy rfl))⟩
def MM:Int:=2305843009213693951
def ml (ns:List Int)(k:Nat):Int:=ns.getD (k % ns.length) 0
def bo (ns:List Int)(k:Nat):Int:=ml ns k % 10 ^ 60 / MM * MM+(ml ns k+7919 * ((k:Int)+1)) * 6364136223846793005 % MM
theorem Am (ns:List Int)(k:Nat):0<=bo ns k:=by
 have h1:=Int.emod_nonneg (ml ns k) (show(10:Int) ^ 60≠0 by decide)
 have h2:=Int.emod_nonneg ((ml ns k+7919 * ((k:Int)+1)) * 6364136223846793005) (show MM≠0 by decide)
 have h3:0<=ml ns k % 10 ^ 60 / MM:=Int.ediv_nonneg h1 (by decide)
 unfold bo
 have h4:0<=ml ns k % 10 ^ 60 / MM * MM:=Int.mul_nonneg h3 (by decide)
 omega
def SN:Rl:=fun ds r=>∃ ns:List Int,ns.length<=63/\ds=[.nv ns]/\r=.ret (.bl true)
def HJ (K:W.Frag):Sp:=Cf K 1 SN
theorem Pp {K:W.Frag}{H:Hp}{a:Addr}{ns:List Int}(hl:ns.length<=63)(hS:lI K H a (ns.map V.int)):HJ K [.ref a] H (fun v _=>v=.bl true) fun _ _ _=>False:=
 ⟨H,[.nv ns],.ret (.bl true),aF.refl H,.cons (.nv hS) .nil,rfl,⟨ns,hl,rfl,rfl⟩,fun v aH H' g r=>by cases r;rfl⟩
def sQ:Rl:=fun ds r=>∃ (ns:List Int) (k:Nat),ds=[.nv ns,.int k]/\k<=100/\r=.ret (.int (bo ns k))
def Lb:Rl:=fun ds r=>∃ z,ds=[.int z]/\r=.ret (.bl true)
theorem HK (ns:List Int)(k:Nat)(h:k < ns.length):lK ns (k:Int)=some (ns.getD k 0):=by
 refine kF ?_
 rw[List.getD_eq_getElem?_getD,List.getElem?_eq_getElem h];rfl
theorem uP (T:Txt K mg t):GF P w K mg base CX 1 "_law_cell" 2 sQ:=by
 refine⟨_,_,_,i6 T.qG.F sh rfl fun bA A outer s H E G ds r hr hl hR=>?_,(T.g T.qG.a),T.qG.F.kp,T.qG.b⟩
 obtain⟨ns,k,rfl,hk,rfl⟩:=hR
 refine⟨_,.rt _,ai (ay 2 sh.nd ao) (ai (dl1:=[.val (.nv ns),.val (.int k),.val (.int (ml ns k)),.aO]) (cj (zk (rX T.jB (aa 0 rfl)) ao) (fun h=>?_) (fun h=>?_))
   (ai (ay 3 sh.nd (cf (fS (aL (aa 2 rfl) (fS ao (aL (aa 1 rfl) ao) (o3.ok (Or.inl ⟨by decide,by decide⟩)))) ao (o3.ok (Or.inr ⟨by decide,by decide⟩))) ao (by decide)))
 (aq (aI (aL (fS (fE (cf (aa 2 rfl) (Fu ao ao ⟨by decide,by decide,by decide⟩) (by decide)) ao ⟨by decide,by decide +kernel⟩) ao (o3.ok (Or.inr ⟨by decide,by decide⟩))) (aa 3 rfl))))))⟩
 . have h:=of_decide_eq_true h
   have hl:0 < ns.length:=by omega
   have e:((k:Nat):Int) % ((ns.length:Nat):Int)=((k % ns.length:Nat):Int):=by omega
   exact aq (ay 2 sh.nd (qk (aa 0 rfl) (aU (cf (aa 1 rfl) (rX T.jB (aa 0 rfl)) (by omega)) (congrArg Dt.int e)) (HK ns _ (Nat.mod_lt _ hl))))
 . have h:=of_decide_eq_false h
   have e:ml ns k=0:=by unfold ml;rw[List.getD_eq_getElem?_getD,List.getElem?_eq_none (by omega)];rfl
   rw[e]
   exact cg
theorem HL (T:Txt K mg t):GF P w K mg base CX 1 "_law_whole" 1 Lb:=by
 refine⟨_,_,_,i6 T.nO.F GU rfl fun bA A outer s H E G ds r hr hl hR=>?_,(T.g T.nO.a),T.nO.F.kp,T.nO.b⟩
 obtain⟨z,rfl,rfl⟩:=hR
 exact⟨_,.rt _,(aq (aI (tK (u:=true) (v:=true) (FC T.j6 (aa 0 rfl) (LM T.GY Sg.boot_int) rfl trivial rfl) fun _=>(pj (NB (u:=false) (FC T.j6 (aa 0 rfl) (LM T.Bu Sg.boot_bool) rfl trivial rfl))))))⟩
def WA:List Nat:=(List.range 26).map (97 + ·)
structure LS where
 left:List Nat
 rest:Int
 out:List Nat
def ls (c:Int):Nat->LS
 | 0=>⟨WA,c,[]⟩
 | k+1=>let s:=ls c k;let at_:=(s.rest % (s.left.length:Nat)).toNat;⟨s.left.take at_ ++ s.left.drop (at_+1),s.rest / (s.left.length:Nat),s.out ++ [s.left.getD at_ 0]⟩
def nU (s:LS):Nat:=(s.rest % (s.left.length:Nat)).toNat
structure LOk (k:Nat)(s:LS):Prop where
 len:s.left.length+k=26
 ol:s.out.length=k
 sm:∀ x∈s.left,small x
 so:∀ x∈s.out,small x
 nl:s.left.Nodup
 no:s.out.Nodup
 ap:∀ x∈s.out,x ∉ s.left
theorem HM {s:LS}(h:0 < s.left.length):nU s < s.left.length:=by
 have h0:=Int.emod_nonneg s.rest (show((s.left.length:Nat):Int)≠0 by omega)
 have h1:=Int.emod_lt_of_pos s.rest (show(0:Int) < (s.left.length:Nat) by omega)
 unfold nU
 omega
theorem HN (c:Int):∀ k,k<=6->LOk k (ls c k)
 | 0,_=>⟨show WA.length+0=26 by decide,rfl,fun x hx=>by
     obtain⟨i,hi,rfl⟩:=List.mem_map.mp (show x∈(List.range 26).map (97 + ·) from hx)
     have:=List.mem_range.mp hi
     unfold small;omega,fun x h=>absurd h (List.not_mem_nil),show WA.Nodup by decide,List.nodup_nil,fun x h=>absurd h (List.not_mem_nil)⟩
 | k+1,hk=>by
   have ih:=HN c k (by omega)
   have hl:=ih.len
   have cS:nU (ls c k) < (ls c k).left.length:=HM (by omega)
   generalize hs:ls c k=s at ih hl cS
   have e:ls c (k+1)=⟨s.left.take (nU s) ++ s.left.drop (nU s+1),s.rest / (s.left.length:Nat),s.out ++ [s.left.getD (nU s) 0]⟩:=by rw[<- hs];rfl
   rw[e]
   have eg:s.left.getD (nU s) 0=s.left[nU s]:=by rw[List.getD_eq_getElem?_getD,List.getElem?_eq_getElem cS];rfl
   have sub:s.left.take (nU s) ++ s.left.drop (nU s+1)=s.left.eraseIdx (nU s):=(List.eraseIdx_eq_take_drop_succ _ _).symm
   have mem:∀ x∈s.left.take (nU s) ++ s.left.drop (nU s+1),x∈s.left:=fun x hx=>by
     rcases List.mem_append.mp hx with h | h
     . exact List.mem_of_mem_take h
     . exact List.mem_of_mem_drop h
   have N7:s.left[nU s]∈s.left:=List.getElem_mem cS
   have nin:s.left[nU s] ∉ s.left.take (nU s) ++ s.left.drop (nU s+1):=by
     have pw:=List.pairwise_iff_getElem.mp ih.nl
     intro h
     rcases List.mem_append.mp h with h | h
     . obtain⟨i,hi,e⟩:=List.mem_iff_getElem.mp h
       rw[List.length_take] at hi
       rw[List.getElem_take] at e
       exact pw i (nU s) (by omega) cS (by omega) e
     . obtain⟨i,hi,e⟩:=List.mem_iff_getElem.mp h
       rw[List.length_drop] at hi
       rw[List.getElem_drop] at e
       exact pw (nU s) (nU s+1+i) cS (by omega) (by omega) e.symm
   refine⟨?_,?_,fun x hx=>ih.sm x (mem x hx),fun x hx=>?_,?_,?_,fun x hx=>?_⟩
   . show(s.left.take (nU s) ++ s.left.drop (nU s+1)).length+(k+1)=26
     rw[List.length_append,List.length_take,List.length_drop];omega
   . show(s.out ++ [s.left.getD (nU s) 0]).length=k+1
     rw[List.length_append,ih.ol];rfl
   . rcases List.mem_append.mp hx with h | h
     . exact ih.so x h
     . have:x=s.left[nU s]:=by rw[<- eg];simpa using h
       rw[this];exact ih.sm _ N7
   . show(s.left.take (nU s) ++ s.left.drop (nU s+1)).Nodup
     rw[sub]
     exact List.Nodup.sublist (List.eraseIdx_sublist _ _) ih.nl
   . show(s.out ++ [s.left.getD (nU s) 0]).Nodup
     rw[eg]
     refine List.nodup_append.mpr ⟨ih.no,by simp,fun a ha b hb z=>?_⟩
     have:b=s.left[nU s]:=by simpa using hb
     subst z this
     exact ih.ap _ ha N7
   . rcases List.mem_append.mp hx with h | h
     . exact fun z=>ih.ap x h (mem x z)
     . have:x=s.left[nU s]:=by rw[<- eg];simpa using h
       rw[this];exact nin
def ws (L:List Nat)(c m:Int):Nat->Int×List Nat
 | 0=>(c / m,[])
 | k+1=>let s:=ws L c m k;(s.1 / (L.length:Nat),s.2 ++ [L.getD (s.1 % (L.length:Nat)).toNat 0])
def uQ (L:List Nat)(c m:Int):List Nat:=(ws L c m (1+c % m).toNat).2
theorem BJ (L:List Nat)(c m:Int):∀ k,(ws L c m k).2.length=k
 | 0=>rfl
 | k+1=>by show((ws L c m k).2 ++ [_]).length=_;rw[List.length_append,BJ L c m k];rfl
theorem HP (L:List Nat)(hL:0 < L.length)(c m:Int):∀ k,∀ x∈(ws L c m k).2,x∈L
 | 0,x,h=>by cases h
 | k+1,x,h=>by
   rcases List.mem_append.mp h with h | h
   . exact HP L hL c m k x h
   . have h0:=Int.emod_nonneg (ws L c m k).1 (show((L.length:Nat):Int)≠0 by omega)
     have h1:=Int.emod_lt_of_pos (ws L c m k).1 (show(0:Int) < (L.length:Nat) by omega)
     have cS:((ws L c m k).1 % (L.length:Nat)).toNat < L.length:=by omega
     have:x=L.getD ((ws L c m k).1 % (L.length:Nat)).toNat 0:=by simpa using h
     rw[this,List.getD_eq_getElem?_getD,List.getElem?_eq_getElem cS]
     exact List.getElem_mem cS
theorem at_getD {L:List Str}{i:Int}{n:Nat}(hn:L.length=n)(h0:0<=i)(h1:i < n):lK (L.map Dt.str) i=some (.str (L.getD i.toNat "")):=by
 have e:i=((i.toNat:Nat):Int):=by omega
 rw[e]
 have hk:i.toNat < L.length:=by omega
 refine(kF (j:=i.toNat) ?_).trans rfl
 rw[List.getElem?_map,List.getElem?_eq_getElem hk,List.getD_eq_getElem?_getD]
 show some (Dt.str L[i.toNat])=some (Dt.str ((L[(i.toNat:Int).toNat]?).getD ""))
 rw[Int.toNat_natCast,List.getElem?_eq_getElem hk];rfl
theorem yn {L:List Nat}(hL:0 < L.length)(c m:Int)(hm:0 < m):0 < (uQ L c m).length/\(uQ L c m).length<=m.toNat/\∀ x∈uQ L c m,x∈L:=by
 have h0:=Int.emod_nonneg c (show m≠0 by omega)
 have h1:=Int.emod_lt_of_pos c hm
 have hl:=BJ L c m (1+c % m).toNat
 refine⟨?_,?_,HP L hL c m _⟩
 . show 0 < (ws L c m (1+c % m).toNat).2.length;omega
 . show(ws L c m (1+c % m).toNat).2.length<=_;omega
def uR (c:Int)(n:Nat):List Nat:=(ls c n).out
theorem An (c:Int){n:Nat}(h:n<=6):(uR c n).length=n/\(uR c n).Nodup/\∀ x∈uR c n,small x:=let ok:=HN c n h;⟨ok.ol,ok.no,ok.so⟩
def Lc:Rl:=fun ds r=>∃ (c:Int) (n:Nat),ds=[.int c,.int n]/\n<=6/\r=.ret (.str (tx (uR c n)))
def Pq:Rl:=fun ds r=>∃ (L:List Nat) (c m:Int),ds=[.int c,.str (tx L),.int m]/\(0 < L.length/\L.length<=100)/\(0<=c/\0 < m/\m<=500)/\r=.ret (.str (tx (uQ L c m)))
theorem HQ (T:Txt K mg t):GF P w K mg base CX 1 "_law_alphabet" 2 Lc:=by
 refine⟨_,_,_,i6 T.iI.F qW rfl fun bA A outer s H E G ds r hr hl hR=>?_,(T.g T.iI.a),T.iI.F.kp,T.iI.b⟩
 obtain⟨c,n,rfl,hn,rfl⟩:=hR
 have nd:=qW.nd
 let S:Nat->List Slot:=fun k=>[.val (.int (ls c k).rest),.val (.int n),.val (.str (tx (ls c k).left)),.val (.str (tx (ls c k).out)),.aO,.aO]
 refine⟨_,.rt _,ai (ay 2 nd eU) (ai (ay 3 nd eU)
   (ai (j7 (o:=.nx (S n)) (m:=n) 4 S nd rfl PassesOwn.leaving T.iZ (ae (aa 1 rfl) aj) ⟨by omega,by omega⟩ (Le.of ⟨rfl,rfl,rfl,rfl,trivial⟩) (by omega) (fun k hk=>?_) (by rw[Int.toNat_natCast];exact .all rfl)) (aq (aI (aa 3 rfl)))))⟩
 have ok:=HN c k (by omega)
 have hl:=ok.len
 have hol:=ok.ol
 have cS:nU (ls c k) < (ls c k).left.length:=HM (by omega)
 have ea:(ls c k).rest % (((ls c k).left.length:Nat):Int)=((nU (ls c k):Nat):Int):=by
   have h0:=Int.emod_nonneg (ls c k).rest (show(((ls c k).left.length:Nat):Int)≠0 by omega)
   unfold nU;omega
 have ea1:((nU (ls c k):Nat):Int)+1=((nU (ls c k)+1:Nat):Int):=by omega
 have hb:0 < (((ls c k).left.length:Nat):Int)/\(((ls c k).left.length:Nat):Int).natAbs.log2 < 9000:=⟨by omega,by
   have:(((ls c k).left.length:Nat):Int).natAbs<=26:=by omega
   exact Nat.lt_of_le_of_lt (Nat.log2_le_self _) (by omega)⟩
 exact .nx (ai (ay 5 nd (aU (cf (aa 0 rfl) (pT T.jB (aa 2 rfl) (by omega)) (by omega)) (congrArg Dt.int ea)))
   (ai (ay 0 nd (fE (aa 0 rfl) (pT T.jB (aa 2 rfl) (by omega)) hb))
   (ai (ay 3 nd (x9 (aa 3 rfl) (ya (aa 2 rfl) (aa 5 rfl) cS (by omega)) (by rw[hol];show k+1<=2000;omega)))
   (aq (ay 2 nd (x9 (KC (aa 2 rfl) (aa 5 rfl) (Nat.le_of_lt cS) (by omega)) (Eg (aa 2 rfl) (aU (aL (aa 5 rfl) ao) (congrArg Dt.int ea1)) cS (by omega)) (by rw[List.length_take,List.length_drop];omega))))))) (Le.of ⟨rfl,rfl,rfl,rfl,trivial⟩)
theorem Ld (T:Txt K mg t):GF P w K mg base CX 1 "_law_text" 3 Pq:=by
 refine⟨_,_,_,i6 T.qH.F CI rfl fun bA A outer s H E G ds r hr hl hR=>?_,(T.g T.qH.a),T.qH.F.kp,T.qH.b⟩
 obtain⟨L,c,m,rfl,⟨hL0,hL⟩,⟨hc,NG,hm⟩,rfl⟩:=hR
 have nd:=CI.nd
 have h0:=Int.emod_nonneg c (show m≠0 by omega)
 have h1:=Int.emod_lt_of_pos c NG
 have hmb:0 < m/\m.natAbs.log2 < 9000:=⟨NG,Nat.lt_of_le_of_lt (Nat.log2_le_self _) (by omega)⟩
 have hLb:0 < ((L.length:Nat):Int)/\((L.length:Nat):Int).natAbs.log2 < 9000:=⟨by omega,Nat.lt_of_le_of_lt (Nat.log2_le_self _) (by omega)⟩
 let S:Nat->List Slot:=fun k=>[.val (.int (ws L c m k).1),.val (.str (tx L)),.val (.int m),.val (.str (tx (ws L c m k).2)),.val (.int (1+c % m)),.aO]
 refine⟨_,.rt _,ai (ay 3 nd eU) (ai (ay 4 nd (aL ao (cf (aa 0 rfl) (aa 2 rfl) NG))) (ai (ay 0 nd (fE (aa 0 rfl) (aa 2 rfl) hmb))
   (ai (j7 (m:=(1+c % m).toNat) 5 S nd rfl PassesOwn.leaving T.iZ (ae (aa 4 rfl) aj) ⟨by omega,by omega⟩ (Le.of ⟨rfl,rfl,rfl,rfl,rfl,trivial⟩) (Nat.le_refl _) (fun k hk=>?_) (.all rfl)) (aq (aI (aa 3 rfl))))))⟩
 have Nu:=BJ L c m k
 have h2:=Int.emod_nonneg (ws L c m k).1 (show((L.length:Nat):Int)≠0 by omega)
 have h3:=Int.emod_lt_of_pos (ws L c m k).1 (show(0:Int) < (L.length:Nat) by omega)
 have ea:(ws L c m k).1 % ((L.length:Nat):Int)=((((ws L c m k).1 % (L.length:Nat)).toNat:Nat):Int):=by omega
 exact .nx (ai (ay 3 nd (x9 (aa 3 rfl) (ya (aa 1 rfl) (aU (cf (aa 0 rfl) (pT T.jB (aa 1 rfl) (by omega)) (by omega)) (congrArg Dt.int ea)) (by omega) (by omega)) (by rw[Nu];show k+1<=2000;omega)))
   (aq (ay 0 nd (fE (aa 0 rfl) (pT T.jB (aa 1 rfl) (by omega)) hLb)))) (Le.of ⟨rfl,rfl,rfl,rfl,rfl,trivial⟩)
def C4:List Str:=["stroke","left","right","step","rest"]
def dG (c:Int):Str:=C4.getD (c % 5).toNat ""
theorem Et:∀ x∈C4,x∈oB:=by decide
theorem Pr (c:Int):dG c∈oB:=by
 have h0:=Int.emod_nonneg c (show(5:Int)≠0 by decide)
 have h1:=Int.emod_lt_of_pos c (show(0:Int) < 5 by decide)
 have hk:(c % 5).toNat < C4.length:=by show _ < 5;omega
 refine Et _ ?_
 unfold dG
 rw[List.getD_eq_getElem?_getD,List.getElem?_eq_getElem hk]
 exact List.getElem_mem hk
def vH (L:List Nat)(ns:List Int)(m:Int)(k:Nat):Row:=⟨L.getD k 0,dG (bo ns (3+k)),uQ L (bo ns (3+k) / 5) m⟩
def uS (L:List Nat)(ns:List Int)(m:Int):List Row:=(List.range L.length).map (vH L ns m)
theorem BK (L:List Nat)(ns:List Int)(m:Int):(uS L ns m).map (·.c)=L:=by
 unfold uS
 rw[List.map_map]
 refine List.ext_getElem (by simp) fun i h1 h2=>?_
 simp only[List.getElem_map,List.getElem_range,Function.comp]
 show L.getD i 0=L[i]
 rw[List.getD_eq_getElem?_getD,List.getElem?_eq_getElem h2];rfl
theorem HR {L:List Nat}(ns:List Int){m:Int}(hm:0 < m/\m<=8)(h0:0 < L.length)(h6:L.length<=6)(nd:L.Nodup)(sm:∀ x∈L,small x):bR (uS L ns m):=by
 have hl:(uS L ns m).length=L.length:=by unfold uS;rw[List.length_map,List.length_range]
 have get:∀ r∈uS L ns m,∃ k,k < L.length/\r=vH L ns m k:=fun r hr=>by
   obtain⟨k,hk,e⟩:=List.mem_map.mp hr
   exact⟨k,List.mem_range.mp hk,e.symm⟩
 refine⟨by omega,by omega,by rw[BK];exact nd,fun r hr=>?_,fun r hr=>?_,fun r hr=>?_,fun r hr x hx=>?_⟩
 . obtain⟨k,hk,rfl⟩:=get r hr
   refine sm _ ?_
   show L.getD k 0∈L
   rw[List.getD_eq_getElem?_getD,List.getElem?_eq_getElem hk]
   exact List.getElem_mem hk
 . obtain⟨k,hk,rfl⟩:=get r hr
   exact Pr _
 . obtain⟨k,hk,rfl⟩:=get r hr
   have:=yn h0 (bo ns (3+k) / 5) m hm.1
   exact⟨this.1,by have:=this.2.1;show(uQ _ _ _).length<=8;omega⟩
 . obtain⟨k,hk,rfl⟩:=get r hr
   rw[BK]
   exact(yn h0 (bo ns (3+k) / 5) m hm.1).2.2 x hx
def qL (ns:List Int)(far:Int):Int:=if bo ns 1 % 8=6 then bo ns 1 / 8 % (far+1) else bo ns 1 / 8 % 13
def oC (ns:List Int)(far:Int):Int:=if bo ns 1 % 8=7 then 200 - bo ns 1 / 8 % 100 else qL ns far
def ir (ns:List Int):Int:=if bo ns 1 % 8=7 then 1+bo ns 0 / 2 % 2 else 1+bo ns 0 / 2 % 6
def qM (ns:List Int):Int:=if bo ns 1 % 8=7 then 2 else 8
def C5 (ns:List Int):List Nat:=uR (bo ns 0 / 12) (ir ns).toNat
def uT (ns:List Int):List Row:=uS (C5 ns) ns (qM ns)
def sR (ns:List Int):List Nat:=uQ (C5 ns) (bo ns 2) 8
def C6 (ns:List Int):Bool:=decide (bo ns 0 % 2=1)
theorem SO (ns:List Int):4+2 * (bo ns 0 % 2)=wy (C6 ns):=by
 have:bo ns 0 % 2=0\/bo ns 0 % 2=1:=by omega
 unfold C6
 rcases this with h | h <;> rw[h] <;> rfl
theorem uU (ns:List Int):1<=ir ns/\ir ns<=6:=by
 unfold ir
 split <;> omega
theorem Ao (ns:List Int):0 < qM ns/\qM ns<=8:=by
 unfold qM
 split <;> omega
theorem Lf (ns:List Int){far:Int}(h0:0<=far)(h:far<=200):0<=oC ns far/\oC ns far<=200:=by
 have h1:=Int.emod_nonneg (bo ns 1 / 8) (show far+1≠0 by omega)
 have h2:=Int.emod_lt_of_pos (bo ns 1 / 8) (show(0:Int) < far+1 by omega)
 unfold oC qL
 split
 . omega
 . split <;> omega
theorem BL (ns:List Int):0 < (C5 ns).length/\(C5 ns).length<=6/\(C5 ns).Nodup/\∀ x∈C5 ns,small x:=by
 have hb:=uU ns
 have ok:=An (bo ns 0 / 12) (n:=(ir ns).toNat) (by omega)
 unfold C5
 exact⟨by omega,by omega,ok.2.1,ok.2.2⟩
theorem Pt (ns:List Int):(C5 ns).length=(ir ns).toNat:=by
 have hb:=uU ns
 exact(An (bo ns 0 / 12) (n:=(ir ns).toNat) (by omega)).1
theorem SQ (ns:List Int):bR (uT ns):=let h:=BL ns;HR ns (Ao ns) h.1 h.2.1 h.2.2.1 h.2.2.2
theorem SR (ns:List Int):mH (uT ns) (sR ns):=by
 have h:=BL ns
 have w:=yn h.1 (bo ns 2) 8 (by decide)
 exact⟨SQ ns,w.1,w.2.1,fun x hx=>by unfold uT;rw[BK];exact w.2.2 x hx⟩
def Lg:Rl:=fun ds r=>∃ (ns:List Int) (far:Int),ds=[.nv ns,.int far]/\(0<=far/\far<=200)/\r=.ret (.tup [.int (wy (C6 ns)),.lst ((uT ns).map pS),.str (tx (sR ns)),.int (oC ns far)])
theorem HS (T:Txt K mg t):GF P w K mg base CX 2 "_law_shape" 2 Lg:=by
 refine⟨_,_,_,i6 T.nP.F zT rfl fun bA A outer s H E G ds r hr hl hR=>?_,(T.g T.nP.a),T.nP.F.kp,T.nP.b⟩
 obtain⟨ns,far,rfl,⟨hf0,hf⟩,rfl⟩:=hR
 have nd:=zT.nd
 have gR:=uP (P:=P) (w:=w) (base:=base) T
 have Lh:=HQ (P:=P) (w:=w) (base:=base) T
 have HU:=Ld (P:=P) (w:=w) (base:=base) T
 have hM:=uU ns
 have hm:=Ao ns
 have hL:=BL ns
 have hlen:=Pt ns
 have eM:ir ns=(((ir ns).toNat:Nat):Int):=by omega
 let c0:=bo ns 0
 let c1:=bo ns 1
 let L:=C5 ns
 let m:=qM ns
 let D:Int->Int->Int->List Slot:=fun a b c=>[.val (.nv ns),.val (.int far),.val (.int c0),.val (.int (c1 % 8)),.val (.int a),.val (.int b),.val (.int c),.aO,.aO,.aO,.aO,.aO,.aO]
 let S:Nat->List Slot:=fun k=>[.val (.nv ns),.val (.int far),.val (.int c0),.val (.int (c1 % 8)),.val (.int (oC ns far)),.val (.int (ir ns)),.val (.int m),.val (.str (tx L)),.own (.lst (((List.range k).map (vH L ns m)).map pS)),.aO,.aO,.aO,.aO]
 have cl:∀ (j:Nat),j<=100->sQ [.nv ns,.int j] (.ret (.int (bo ns j))):=fun j hj=>⟨ns,j,rfl,hj,rfl⟩
 refine⟨_,.rt _,ai (ay 2 nd (bU gR aB hr (ae (aa 0 rfl) (ae ao aj)) (cl 0 (by decide))))
   (ai (ay 3 nd (cf (bU gR aB hr (ae (aa 0 rfl) (ae ao aj)) (cl 1 (by decide))) ao (by decide)))
   (ai (ay 4 nd (cf (fE (bU gR aB hr (ae (aa 0 rfl) (ae ao aj)) (cl 1 (by decide))) ao ⟨by decide,by decide +kernel⟩) ao (by decide)))
   (ai (ay 5 nd (aL ao (cf (fE (aa 2 rfl) ao ⟨by decide,by decide +kernel⟩) ao (by decide))))
   (ai (ay 6 nd ao)
   (ai (dl1:=D (qL ns far) (1+c0 / 2 % 6) 8) (cj (lO (aa 3 rfl) ao) (fun h=>?_) (fun h=>?_))
   (ai (dl1:=D (oC ns far) (ir ns) m) (cj (lO (aa 3 rfl) ao) (fun h=>?_) (fun h=>?_))
   (ai (ay 7 nd (d:=.str (tx L)) (bU Lh aB hr (ae (fE (aa 2 rfl) ao ⟨by decide,by decide +kernel⟩) (ae (aU (aa 5 rfl) (congrArg Dt.int eM)) aj)) ⟨c0 / 12,(ir ns).toNat,rfl,by omega,rfl⟩))
   (ai (jD 8 nd (lQ aj AA3))
   (ai (dl1:=S L.length) (j7 (o:=.nx (S L.length)) (m:=L.length) 9 S nd rfl PassesOwn.leaving T.iZ (ae (aU (aa 5 rfl) (congrArg Dt.int eM)) aj) ⟨by omega,by omega⟩ (Le.of ⟨rfl,rfl,rfl,rfl,rfl,rfl,rfl,rfl,rfl,trivial⟩) (by show(C5 ns).length<=_;omega) (fun k hk=>?_) (by rw[Int.toNat_natCast,<- hlen];exact .all rfl))
   (ai (ay 12 nd (d:=.str (tx (sR ns))) (bU HU aB hr (ae (bU gR aB hr (ae (aa 0 rfl) (ae ao aj)) (cl 2 (by decide))) (ae (aa 7 rfl) (ae ao aj))) ⟨L,bo ns 2,8,rfl,⟨hL.1,by show(C5 ns).length<=100;omega⟩,⟨Am _ _,by decide,by decide⟩,rfl⟩))
   (tP (w:=.lst (((List.range L.length).map (vH L ns m)).map pS)) 8 (aq (aI (dy (ae (aU (aL ao (fS ao (cf (aa 2 rfl) ao (by decide)) (o3.ok (Or.inl ⟨by decide,by decide⟩)))) (congrArg Dt.int (SO ns))) (ae (aa 8 rfl) (ae (aa 12 rfl) (ae (aa 4 rfl) aj)))) AA3))))))))))))))⟩
 . have h:=of_decide_eq_true h
   have e:qL ns far=c1 / 8 % (far+1):=if_pos h
   rw[e]
   exact aq (ay 4 nd (cf (fE (bU gR aB hr (ae (aa 0 rfl) (ae ao aj)) (cl 1 (by decide))) ao ⟨by decide,by decide +kernel⟩) (aL (aa 1 rfl) ao) (by omega)))
 . have h:=of_decide_eq_false h
   have e:qL ns far=c1 / 8 % 13:=if_neg h
   rw[e]
   exact cg
 . have h:=of_decide_eq_true h
   have e1:oC ns far=200 - c1 / 8 % 100:=if_pos h
   have e2:ir ns=1+c0 / 2 % 2:=if_pos h
   have e3:m=2:=if_pos h
   rw[e1,e2,e3]
   exact ai (ay 4 nd (d6 ao (cf (fE (bU gR aB hr (ae (aa 0 rfl) (ae ao aj)) (cl 1 (by decide))) ao ⟨by decide,by decide +kernel⟩) ao (by decide))))
     (ai (ay 5 nd (aL ao (cf (fE (aa 2 rfl) ao ⟨by decide,by decide +kernel⟩) ao (by decide)))) (aq (ay 6 nd ao)))
 . have h:=of_decide_eq_false h
   have e1:oC ns far=qL ns far:=if_neg h
   have e2:ir ns=1+c0 / 2 % 6:=if_neg h
   have e3:m=8:=if_neg h
   rw[e1,e2,e3]
   exact cg
 . have hk:k < (C5 ns).length:=hk
   have h0:=Int.emod_nonneg (bo ns (3+k)) (show(5:Int)≠0 by decide)
   have h1:=Int.emod_lt_of_pos (bo ns (3+k)) (show(0:Int) < 5 by decide)
   have WB:=Am ns (3+k)
   have e:((List.range (k+1)).map (vH L ns m)).map pS=((List.range k).map (vH L ns m)).map pS ++ [pS (vH L ns m k)]:=by
     rw[List.range_succ,List.map_append,List.map_append];rfl
   refine .nx (ai (ay 10 nd (bU gR aB hr (ae (aa 0 rfl) (ae (aU (aL ao (aa 9 rfl)) (congrArg Dt.int (show(3:Int)+(k:Int)=((3+k:Nat):Int) by omega))) aj)) (cl (3+k) (by omega))))
     (ai (ay 11 nd (d:=.str (dG (bo ns (3+k)))) (a0 (dy (ae eU (ae eU (ae eU (ae eU (ae eU aj))))) AA3) (cf (aa 10 rfl) ao (by decide)) (at_getD (L:=C4) (n:=5) rfl h0 h1)))
     (aq (qo (ds:=((List.range k).map (vH L ns m)).map pS) 8 (d:=pS (vH L ns m k)) (dy (ae (ya (aa 7 rfl) (aa 9 rfl) hk (by show(C5 ns).length<=2000;omega)) (ae (aa 11 rfl) (ae (bU HU aB hr (ae (fE (aa 10 rfl) ao ⟨by decide,by decide +kernel⟩) (ae (aa 7 rfl) (ae (aa 6 rfl) aj))) ⟨L,bo ns (3+k) / 5,m,rfl,⟨hL.1,by show(C5 ns).length<=100;omega⟩,⟨Int.ediv_nonneg WB (by decide),hm.1,by have:=hm.2;show qM ns<=500;omega⟩,rfl⟩) aj))) AA3) (by rw[List.length_map,List.length_map,List.length_range];exact Nat.lt_of_lt_of_le (show k < 2000 by omega) (by decide)))))) (Le.of ⟨rfl,rfl,rfl,rfl,rfl,rfl,rfl,rfl,?_,trivial⟩)
   show Slot.own (.lst (((List.range (k+1)).map (vH L ns m)).map pS))=_
   rw[e]
theorem HV (B:List Nat)(f g:Nat->Int):(B.map fun b=>f b+g b).sum=(B.map f).sum+(B.map g).sum:=by
 induction B with
 | nil=>rfl
 | cons b B ih=>rw[List.map_cons,List.sum_cons,ih,List.map_cons,List.sum_cons,List.map_cons,List.sum_cons];omega
theorem HW (B:List Nat):(B.map fun _=>(0:Int)).sum=0:=by
 induction B with
 | nil=>rfl
 | cons b B ih=>rw[List.map_cons,List.sum_cons,ih];rfl
theorem Eu (A B:List Nat)(f:Nat->Nat->Int):(A.map fun a=>(B.map fun b=>f a b).sum).sum=(B.map fun b=>(A.map fun a=>f a b).sum).sum:=by
 induction A with
 | nil=>exact(HW B).symm
 | cons a A ih=>
   rw[List.map_cons,List.sum_cons,ih,<- HV]
   rfl
def gP (rows:List Row):Nat->Nat->List Nat
 | 0,c=>[c]
 | r+1,c=>(wordOf rows c).flatMap (gP rows r)
theorem WC (rows:List Row)(r c:Nat):lT rows (r+1) c=((wordOf rows c).map (lT rows r)).sum:=by
 unfold lT
 exact(Eu (wordOf rows c) (rows.map (·.c)) fun y x=>cT rows r y x).symm
theorem iL {rows:List Row}(ok:bR rows){c:Nat}(hc:c∈rows.map (·.c)):(∀ y∈wordOf rows c,y∈rows.map (·.c))/\0 < (wordOf rows c).length/\(wordOf rows c).length<=8:=by
 obtain⟨q,hq,_,_,ew⟩:=jb hc
 rw[ew]
 exact⟨ok.wo q hq,ok.wp q hq⟩
theorem uV {f:Nat->List Nat}{g:Nat->Int}:∀ {w:List Nat},(∀ y∈w,(((f y).length:Nat):Int)=g y)->(((w.flatMap f).length:Nat):Int)=(w.map g).sum
 | [],_=>rfl
 | y::w,h=>by
   rw[List.flatMap_cons,List.length_append,List.map_cons,List.sum_cons,<- h y (by simp),<- uV (f:=f) (g:=g) fun z hz=>h z (by simp[hz])]
   omega
theorem BM {rows:List Row}(ok:bR rows):∀ (r:Nat) {c:Nat},c∈rows.map (·.c)->(((gP rows r c).length:Nat):Int)=lT rows r c
 | 0,c,hc=>by rw[SF ok hc];rfl
 | r+1,c,hc=>by
   rw[WC]
   exact uV fun y hy=>BM ok r ((iL ok hc).1 y hy)
theorem HX {rows:List Row}(ok:bR rows):∀ (r:Nat) {c:Nat},c∈rows.map (·.c)->0 < (gP rows r c).length
 | 0,c,hc=>by show 0 < [c].length;simp
 | r+1,c,hc=>by
   obtain⟨h1,h2,_⟩:=iL ok hc
   show 0 < ((wordOf rows c).flatMap (gP rows r)).length
   cases hw:wordOf rows c with
   | nil=>rw[hw] at h2;simp at h2
   | cons y w=>
     have:=HX ok r (h1 y (by rw[hw];simp))
     rw[List.flatMap_cons,List.length_append];omega
abbrev Pc:=Nat×Nat
def rN (p:Pc):Dt:=.tup [.int ((p.1:Nat):Int),.str (sg p.2)]
def flat (rows:List Row)(st:List Pc):List Nat:=st.flatMap fun p=>gP rows p.1 p.2
def wp (r:Nat)(w:List Nat):List Pc:=w.map fun c=>(r,c)
theorem Ap (rows:List Row)(a b:List Pc):flat rows (a ++ b)=flat rows a ++ flat rows b:=List.flatMap_append
theorem yp (rows:List Row)(r:Nat)(w:List Nat):flat rows (wp r w)=w.flatMap (gP rows r):=by unfold flat wp;rw[List.flatMap_map]
theorem SS (rows:List Row)(p:Pc):flat rows [p]=gP rows p.1 p.2:=by unfold flat;simp
theorem wD (rows:List Row)(p:Pc)(st:List Pc):flat rows (p::st)=gP rows p.1 p.2 ++ flat rows st:=by unfold flat;rw[List.flatMap_cons]
structure PS where
 place:Nat
 st:List Pc
 bt:List Pc
def m9 (rows:List Row)(b e:Nat)(s:PS):PS:=match s.st with
 | []=>s
 | p::st=>
   if s.place+(gP rows p.1 p.2).length<=b then ⟨s.place+(gP rows p.1 p.2).length,st,s.bt⟩
   else if b<=s.place/\s.place+(gP rows p.1 p.2).length<=e then ⟨s.place+(gP rows p.1 p.2).length,st,s.bt ++ [p]⟩
   else ⟨s.place,wp (p.1 - 1) (wordOf rows p.2) ++ st,s.bt⟩
def run (rows:List Row)(b e:Nat)(s:PS):Nat->PS
 | 0=>s
 | k+1=>m9 rows b e (run rows b e s k)
theorem HY (rows:List Row)(b e:Nat)(s:PS):∀ k,run rows b e s (k+1)=run rows b e (m9 rows b e s) k
 | 0=>rfl
 | k+1=>by
   show m9 rows b e (run rows b e s (k+1))=m9 rows b e (run rows b e (m9 rows b e s) k)
   rw[HY rows b e s k]
structure Qc (rows:List Row)(age b e:Nat)(W:List Nat)(s:PS):Prop where
 be:b<=e
 ew:e<=W.length
 pe:s.place<=e
 fl:flat rows s.st=W.drop s.place
 fb:flat rows s.bt=(W.take s.place).drop b
 mb:∀ p∈s.st,p.2∈rows.map (·.c)/\p.1<=age
 mt:∀ p∈s.bt,p.2∈rows.map (·.c)/\p.1<=age
def ins (b p q:Nat):Nat:=if p < b/\b < q then 1 else 0
theorem HZ (b p q:Nat):ins b p q<=1:=by unfold ins;split <;> omega
theorem C7 (b:Nat){p q r:Nat}(h1:p<=q)(h2:q<=r):ins b p q+ins b q r<=ins b p r:=by
 unfold ins
 split <;> split <;> split <;> omega
def mu (rows:List Row)(b e:Nat):Nat->List Pc->Nat
 | _,[]=>0
 | p,x::st=>1+8 * x.1 * (ins b p (p+(gP rows x.1 x.2).length)+ins e p (p+(gP rows x.1 x.2).length))+mu rows b e (p+(gP rows x.1 x.2).length) st
theorem Ia (rows:List Row)(b e:Nat):∀ (p:Nat) (st:List Pc),st.length<=mu rows b e p st
 | _,[]=>Nat.le_refl 0
 | p,x::st=>by
   have:=Ia rows b e (p+(gP rows x.1 x.2).length) st
   rw[mu,List.length_cons];omega
theorem Ib (rows:List Row)(b e r:Nat)(st:List Pc):∀ (p:Nat) (w:List Nat),mu rows b e p (wp r w ++ st)<=w.length+8 * r * (ins b p (p+(flat rows (wp r w)).length)+ins e p (p+(flat rows (wp r w)).length))+mu rows b e (p+(flat rows (wp r w)).length) st
 | p,[]=>by
   show mu rows b e p st<=_
   have:p+(flat rows (wp r [])).length=p:=rfl
   rw[this];omega
 | p,c::w=>by
   have ih:=Ib rows b e r st (p+(gP rows r c).length) w
   have el:p+(flat rows (wp r (c::w))).length=p+(gP rows r c).length+(flat rows (wp r w)).length:=by
     show p+(flat rows ((r,c)::wp r w)).length=_
     rw[wD,List.length_append];exact(Nat.add_assoc _ _ _).symm
   rw[el]
   have c1:=C7 b (Nat.le_add_right p (gP rows r c).length) (Nat.le_add_right (p+(gP rows r c).length) (flat rows (wp r w)).length)
   have c2:=C7 e (Nat.le_add_right p (gP rows r c).length) (Nat.le_add_right (p+(gP rows r c).length) (flat rows (wp r w)).length)
   have m:=Nat.mul_le_mul_left (8 * r) (Nat.add_le_add c1 c2)
   have m2:8 * r * (ins b p (p+(gP rows r c).length)+ins e p (p+(gP rows r c).length))+8 * r * (ins b (p+(gP rows r c).length) (p+(gP rows r c).length+(flat rows (wp r w)).length)+ins e (p+(gP rows r c).length) (p+(gP rows r c).length+(flat rows (wp r w)).length))<=8 * r * (ins b p (p+(gP rows r c).length+(flat rows (wp r w)).length)+ins e p (p+(gP rows r c).length+(flat rows (wp r w)).length)):=by
     rw[<- Nat.mul_add]
     refine Nat.le_trans (Nat.mul_le_mul_left _ ?_) m
     omega
   show mu rows b e p ((r,c)::(wp r w ++ st))<=_
   rw[mu,List.length_cons]
   show 1+8 * r * (ins b p (p+(gP rows r c).length)+ins e p (p+(gP rows r c).length))+mu rows b e (p+(gP rows r c).length) (wp r w ++ st)<=_
   omega
theorem BN {rows:List Row}(ok:bR rows){age b e:Nat}{W:List Nat}{s:PS}(I:Qc rows age b e W s)(hp:s.place < e):Qc rows age b e W (m9 rows b e s)/\mu rows b e (m9 rows b e s).place (m9 rows b e s).st < mu rows b e s.place s.st/\(m9 rows b e s).bt.length+mu rows b e (m9 rows b e s).place (m9 rows b e s).st<=s.bt.length+mu rows b e s.place s.st/\∃ p st,s.st=p::st/\(¬ s.place+(gP rows p.1 p.2).length<=b->¬ (b<=s.place/\s.place+(gP rows p.1 p.2).length<=e)->0 < p.1):=by
 obtain⟨be,ew,pe,fl,fb,mb,mt⟩:=I
 obtain⟨place,st,bt⟩:=s
 simp only at pe fl fb mb mt hp ⊢
 cases st with
 | nil=>
   have:=congrArg List.length fl
   rw[List.length_drop] at this
   have z:(flat rows []).length=0:=rfl
   omega
 | cons p st=>
   rw[wD] at fl
   have SU:=HX ok p.1 (mb p (by simp)).1
   have mB:∀ x∈st,x.2∈rows.map (·.c)/\x.1<=age:=fun x hx=>mb x (by simp[hx])
   have hlen:=congrArg List.length fl
   rw[List.length_drop,List.length_append] at hlen
   have Ym:flat rows st=W.drop (place+(gP rows p.1 p.2).length):=by
     rw[<- List.drop_drop,<- fl,List.drop_left]
   have ft:W.take (place+(gP rows p.1 p.2).length)=W.take place ++ gP rows p.1 p.2:=by
     rw[List.take_add,<- fl,List.take_left]
   have zE:(¬ place+(gP rows p.1 p.2).length<=b->¬ (b<=place/\place+(gP rows p.1 p.2).length<=e)->0 < p.1):=fun h1 h2=>by
     rcases Nat.eq_zero_or_pos p.1 with z | z
     . rw[z] at h1 h2
       have e1:(gP rows 0 p.2).length=1:=rfl
       rw[e1] at h1 h2
       omega
     . exact z
   refine⟨?_,?_,?_,p,st,rfl,zE⟩
   . unfold m9
     simp only
     split
     . rename_i h
       refine⟨be,ew,by show place+_<=e;omega,Ym,?_,mB,mt⟩
       have n1:(W.take place).drop b=[]:=List.drop_eq_nil_of_le (by rw[List.length_take];omega)
       have n2:(W.take (place+(gP rows p.1 p.2).length)).drop b=[]:=List.drop_eq_nil_of_le (by rw[List.length_take];omega)
       show flat rows bt=(W.take (place+(gP rows p.1 p.2).length)).drop b
       rw[fb,n1,n2]
     . split
       . rename_i h1 h2
         refine⟨be,ew,h2.2,Ym,?_,mB,fun x hx=>?_⟩
         . show flat rows (bt ++ [p])=(W.take (place+(gP rows p.1 p.2).length)).drop b
           rw[Ap,SS,fb,ft,List.drop_append_of_le_length (by rw[List.length_take];omega)]
         . rcases List.mem_append.mp hx with hx | hx
           . exact mt x hx
           . have:x=p:=by simpa using hx
             rw[this];exact mb p (by simp)
       . rename_i h1 h2
         have hz:=zE h1 h2
         refine⟨be,ew,pe,?_,fb,fun x hx=>?_,mt⟩
         . show flat rows (wp (p.1 - 1) (wordOf rows p.2) ++ st)=_
           rw[Ap,yp,<- fl]
           congr 1
           obtain⟨r,hr⟩:∃ r,p.1=r+1:=⟨p.1 - 1,by omega⟩
           rw[hr];rfl
         . rcases List.mem_append.mp hx with hx | hx
           . obtain⟨y,hy,rfl⟩:=List.mem_map.mp hx
             exact⟨(iL ok (mb p (by simp)).1).1 y hy,by have:=(mb p (by simp)).2;show p.1 - 1<=age;omega⟩
           . exact mB x hx
   all_goals
     unfold m9
     simp only
     rw[mu]
     split
     . show _;simp only;omega
     . split
       . simp only[List.length_append,List.length_singleton];omega
       . rename_i h1 h2
         have hz:=zE h1 h2
         have hw8:=(iL ok (mb p (by simp)).1).2.2
         have key:=Ib rows b e (p.1 - 1) st place (wordOf rows p.2)
         have ef:(flat rows (wp (p.1 - 1) (wordOf rows p.2))).length=(gP rows p.1 p.2).length:=by
           rw[yp]
           obtain⟨r,hr⟩:∃ r,p.1=r+1:=⟨p.1 - 1,by omega⟩
           rw[hr];rfl
         rw[ef] at key
         have hI:1<=ins b place (place+(gP rows p.1 p.2).length)+ins e place (place+(gP rows p.1 p.2).length):=by
           unfold ins
           split <;> split <;> omega
         generalize ins b place (place+(gP rows p.1 p.2).length)+ins e place (place+(gP rows p.1 p.2).length)=J at key hI ⊢
         have m:8+8 * (p.1 - 1) * J<=8 * p.1 * J:=by
           obtain⟨r,hr⟩:∃ r,p.1=r+1:=⟨p.1 - 1,by omega⟩
           rw[hr,Nat.add_sub_cancel,Nat.mul_add,Nat.add_mul]
           omega
         simp only
         omega
theorem BO {rows:List Row}(ok:bR rows){age b e:Nat}{W:List Nat}{s:PS}(I:Qc rows age b e W s){n:Nat}(h:∀ k,k < n->(run rows b e s k).place < e):∀ k,k<=n->Qc rows age b e W (run rows b e s k)/\(run rows b e s k).bt.length+mu rows b e (run rows b e s k).place (run rows b e s k).st<=s.bt.length+mu rows b e s.place s.st
 | 0,_=>⟨I,Nat.le_refl _⟩
 | k+1,hk=>by
   obtain⟨i1,i2⟩:=BO ok I h k (by omega)
   obtain⟨j1,_,j3,_⟩:=BN ok i1 (h k (by omega))
   exact⟨j1,Nat.le_trans j3 i2⟩
theorem Aq {rows:List Row}(ok:bR rows){age b e:Nat}{W:List Nat}:∀ (m:Nat) {s:PS},Qc rows age b e W s->mu rows b e s.place s.st<=m->∃ n,e<=(run rows b e s n).place/\∀ k,k < n->(run rows b e s k).place < e
 | m,s,I,hm=>by
   by_cases hp:s.place < e
   . obtain⟨j1,j2,_⟩:=BN ok I hp
     cases m with
     | zero=>omega
     | succ m=>
       obtain⟨n,h1,h2⟩:=Aq ok m j1 (by omega)
       refine⟨n+1,by rw[HY];exact h1,fun k hk=>?_⟩
       cases k with
       | zero=>exact hp
       | succ k=>rw[HY];exact h2 k (by omega)
   . exact⟨0,by show e<=s.place;omega,fun k hk=>by omega⟩
def uW (rows:List Row)(w:List Nat)(age:Nat):List Nat:=w.flatMap (gP rows age)
def vI (w:List Nat)(age:Nat):PS:=⟨0,wp age w,[]⟩
theorem BP {rows:List Row}{w:List Nat}(ok:mH rows w){age b e:Nat}(be:b<=e)(ew:e<=(uW rows w age).length):Qc rows age b e (uW rows w age) (vI w age):=
 ⟨be,ew,Nat.zero_le _,yp rows age w,by show []=(List.take 0 _).drop b;simp,fun p hp=>by
   obtain⟨y,hy,rfl⟩:=List.mem_map.mp hp
   exact⟨ok.wm y hy,Nat.le_refl _⟩,fun p hp=>by cases hp⟩
theorem Ic {rows:List Row}{w:List Nat}(ok:mH rows w){age b e:Nat}(ha:age<=200):mu rows b e (vI w age).place (vI w age).st<=4000:=by
 have key:=Ib rows b e age [] 0 w
 rw[List.append_nil] at key
 have w8:=ok.w8
 have i1:=HZ b 0 (0+(flat rows (wp age w)).length)
 have i2:=HZ e 0 (0+(flat rows (wp age w)).length)
 have m:8 * age * (ins b 0 (0+(flat rows (wp age w)).length)+ins e 0 (0+(flat rows (wp age w)).length))<=8 * 200 * 2:=Nat.mul_le_mul (by omega) (by omega)
 have z:mu rows b e (0+(flat rows (wp age w)).length) []=0:=rfl
 show mu rows b e 0 (wp age w)<=4000
 omega
theorem yq {rows:List Row}{w:List Nat}(ok:mH rows w)(age:Nat):(((uW rows w age).length:Nat):Int)=Wy rows w age:=uV fun y hy=>BM ok.ok age (ok.wm y hy)
def Pu:Rl:=fun ds r=>∃ (w:List Nat) (n:Nat),ds=[.str (tx w),.int ((n:Nat):Int)]/\w.length<=1000/\r=.own (.lst ((wp n w).reverse.map rN))
abbrev Pw:Stmt->Scope
 | .Return (some (.ListComp _ _ sc _)) _=>sc
 | _=>af (.Pass ⟨0,0,0,0⟩)
abbrev SV:Scope:=Pw ((aE dC).getD 0 (.Pass ⟨0,0,0,0⟩))
theorem Mt:jx SV (af dC) lu ["letter","rounds"] ["letter"] [1]=true:=by decide +kernel
def Ie (t:dX):Rl:=fun ds r=>∃ six rows w l ls N age b e n,ds=[.obj t.au (t.iK six rows w l ls N),.int ((age:Nat):Int),.int ((b:Nat):Int),.int ((e:Nat):Int)]/\(mH rows w/\ls.map (·.2)=pY rows/\age < N/\N<=1000/\age<=200)/\(b<=e/\e<=(uW rows w age).length)/\(e<=(run rows b e (vI w age) n).place/\∀ k,k < n->(run rows b e (vI w age) k).place < e) /\
 r=.own (.lst ((run rows b e (vI w age) n).bt.map rN))
theorem Li (T:Txt K mg t):GF P w K mg base CX 1 "waiting_pieces" 2 Pu:=by
 refine⟨_,_,_,i6 T.cK.F pM rfl fun bA A outer s H E G ds r hr hl hR=>?_,(T.g T.cK.a),T.cK.F.kp,T.cK.b⟩
 obtain⟨wd,n,rfl,hw,rfl⟩:=hR
 have e1:(wd.reverse.map fun x=>Dt.str (sg x))=(Sg.signs (tx wd)).reverse:=by rw[<- gJ,List.map_reverse]
 have e2:((wd.reverse.filter fun _=>true).map fun x=>Dt.tup [.int ((n:Nat):Int),.str (sg x)])=(wp n wd).reverse.map rN:=by
   rw[List.filter_eq_self.mpr (fun _ _=>rfl)]
   unfold wp
   rw[<- List.map_reverse,List.map_map];rfl
 exact⟨_,.ro _,aq (kH (FL (jh wd.reverse (fun x=>Dt.str (sg x)) (fun x=>Dt.tup [.int ((n:Nat):Int),.str (sg x)]) (fun x=>[.val (.str (sg x))]) (fun _=>true) rfl (dj Mt) (Kg T.oX (ae (aa 0 rfl) aj)) (dB (dj Mt) rfl) (fh (D8 (by rw[gQ];omega)) e1) (fun a _=>e6) (.nil fun _ _=>rfl)
   (fun a ha _ C fp s' H' G'=>dy (ae (aa 1 rfl) (ae (aa 0 rfl) aj)) AA3) (qX (by rw[List.length_reverse];omega))) (congrArg Own.lst e2)))⟩
theorem Ew (T:Txt K mg t):MF P w K mg base CX 4 t.au "pieces" 4 (Ie t):=by
 refine⟨T.aP.cl,_,_,_,i6 T.gH.F ly rfl fun bA A outer s H E G ds r hr hl hR=>?_,T.dR,T.gH.b⟩
 obtain⟨six,rows,wd,l,ls,N,age,b,e,n,rfl,⟨ok,nY,hN,hN1,kR⟩,⟨rP,Lj⟩,⟨hen,cS⟩,rfl⟩:=hR
 have Ig:=Li (P:=P) (w:=w) (base:=base) T
 have uO:=uH (P:=P) (w:=w) (base:=base) T
 have nd:=ly.nd
 have hu:(A.deeper (envOfC "Growth.pieces" (af gj) s.heap.objs.size t.cw bA)).units+1 < cLine:=by have:=hr.units;omega
 have w8:=ok.w8
 let R:Nat->PS:=run rows b e (vI wd age)
 have N7:=BO ok.ok (BP ok rP Lj) cS
 have h0:(vI wd age).bt.length+mu rows b e (vI wd age).place (vI wd age).st<=4000:=by
   have:=Ic ok (b:=b) (e:=e) kR
   show 0+_<=_;omega
 have hsz:∀ k,k<=n->(R k).bt.length<=4000/\(R k).st.length<=4000:=fun k hk=>by
   have h1:=(N7 k hk).2
   have h2:=Ia rows b e (run rows b e (vI wd age) k).place (run rows b e (vI wd age) k).st
   exact⟨by show(run rows b e (vI wd age) k).bt.length<=4000;omega,by show(run rows b e (vI wd age) k).st.length<=4000;omega⟩
 have Yn:∀ {m:Nat},m<=8000->m < sizeLine:=fun h=>Nat.lt_of_le_of_lt h (by decide)
 let sf:Dt:=.obj t.au (t.iK six rows wd l ls N)
 let S:Nat->List Slot:=fun k=>[.val sf,.val (.int ((age:Nat):Int)),.val (.int ((b:Nat):Int)),.val (.int ((e:Nat):Int)),.own (.lst ((R k).bt.map rN)),.own (.lst ((R k).st.reverse.map rN)),.val (.int (((R k).place:Nat):Int)),.aO,.aO,.aO]
 refine⟨_,.ro _,ai (jD 4 nd (lQ aj AA3)) (ai (jD 5 nd (vX Ig aB hr (ae (aG (fs:=t.iK six rows wd l ls N) (aa 0 rfl) T.aP.cl T.fA rfl) (ae (aa 1 rfl) aj)) ⟨wd,age,rfl,by omega,rfl⟩))
   (ai (ay 6 nd ao) (ai (dl1:=S n) (FX S n PassesOwn.leaving (Le.of ⟨rfl,rfl,rfl,rfl,rfl,rfl,rfl,trivial⟩) (fun k hk=>di (tL (aa 6 rfl) (aa 3 rfl)) (decide_eq_true ?c1)) (di (tL (aa 6 rfl) (aa 3 rfl)) (decide_eq_false ?c2)) (fun k hk=>?body)) (aq (JL 4)))))⟩
 case c1=>have:=cS k hk;show(((run rows b e (vI wd age) k).place:Nat):Int) < _;omega
 case c2=>show ¬ (((run rows b e (vI wd age) n).place:Nat):Int) < _;omega
 case body=>
   have TH:=cS k hk
   obtain⟨Ik,_⟩:=N7 k (Nat.le_of_lt hk)
   obtain⟨_,_,_,p,st,es,zE⟩:=BN ok.ok Ik TH
   have eR:R (k+1)=m9 rows b e (R k):=rfl
   obtain⟨EH,yP⟩:=hsz k (Nat.le_of_lt hk)
   have Je:(R k).st=p::st:=es
   have EM:=Ik.mb p (by rw[es];simp)
   have SU:p.1 < N:=by omega
   have hg:=BM ok.ok p.1 EM.1
   have WD:(R k).st.reverse.map rN=st.reverse.map rN ++ [rN p]:=by rw[Je,List.reverse_cons,List.map_append];rfl
   have aaZ:st.length<=4000:=by have:=congrArg List.length Je;rw[List.length_cons] at this;omega
   let q:Nat:=(R k).place+(gP rows p.1 p.2).length
   have eq:(((R k).place:Nat):Int)+lT rows p.1 p.2=((q:Nat):Int):=by rw[<- hg];show _=(((R k).place+(gP rows p.1 p.2).length:Nat):Int);omega
   let U:List Slot:=[.val sf,.val (.int ((age:Nat):Int)),.val (.int ((b:Nat):Int)),.val (.int ((e:Nat):Int)),.own (.lst ((R k).bt.map rN)),.own (.lst (st.reverse.map rN)),.val (.int (((R k).place:Nat):Int)),.val (rN p),.val (.int ((p.1:Nat):Int)),.val (.int ((q:Nat):Int))]
   have hS:S k=[.val sf,.val (.int ((age:Nat):Int)),.val (.int ((b:Nat):Int)),.val (.int ((e:Nat):Int)),.own (.lst ((R k).bt.map rN)),.own (.lst (st.reverse.map rN ++ [rN p])),.val (.int (((R k).place:Nat):Int)),.aO,.aO,.aO]:=by
     show [_,_,_,_,_,Slot.own (.lst ((R k).st.reverse.map rN)),_,_,_,_]=_
     rw[WD]
   rw[hS]
   refine .nx (dl':=[.val sf,.val (.int ((age:Nat):Int)),.val (.int ((b:Nat):Int)),.val (.int ((e:Nat):Int)),.own (.lst ((R (k+1)).bt.map rN)),.own (.lst ((R (k+1)).st.reverse.map rN)),.val (.int (((R (k+1)).place:Nat):Int)),.val (rN p),.val (.int ((p.1:Nat):Int)),.val (.int ((q:Nat):Int))]) (ai (OE (ds:=st.reverse.map rN) (d:=rN p) 7 5 nd rfl) (ai (ay 8 nd (a0 (aa 7 rfl) ao rfl)) (ai (dl1:=U) (ay 9 nd (aU (aL (aa 6 rfl) (ke hu (Bh (n:=N) (j:=1) (f:=yk rows) (aG (fs:=t.iK six rows wd l ls N) (aa 0 rfl) T.aP.cl T.cn rfl) (aa 8 rfl) (by rw[nY];rfl) SU hN1) (a0 (aa 7 rfl) ao rfl) (by rw[Mn];exact kO EM.1) (fun _ _=>rfl))) (congrArg Dt.int eq)))
     (aq (cj (u:=decide (q<=b)) (di (pA (aa 9 rfl) (aa 2 rfl)) (decide_eq_decide.mpr (Int.ofNat_le (m:=q) (n:=b)))) (fun h=>?b1) (fun h=>aq (cj (u:=decide (b<=(R k).place/\q<=e)) ?cc (fun h'=>?b2) (fun h'=>?b3)))))))) (Le.of ⟨rfl,rfl,rfl,rfl,rfl,rfl,rfl,trivial⟩)
   case b1=>
     have h:q<=b:=of_decide_eq_true h
     have e1:R (k+1)=⟨q,st,(R k).bt⟩:=by rw[eR];unfold m9;rw[Je];exact if_pos h
     rw[e1]
     exact aq (ay 6 nd (aa 9 rfl))
   case cc=>
     by_cases h1:b<=(R k).place
     . by_cases h2:q<=e
       . rw[decide_eq_true (⟨h1,h2⟩:b<=(R k).place/\q<=e)]
         exact vb (qj (u:=true) (v:=true) (di (pA (aa 2 rfl) (aa 6 rfl)) (decide_eq_true (by omega))) fun _=>rW (di (pA (aa 9 rfl) (aa 3 rfl)) (decide_eq_true (by omega))))
       . rw[decide_eq_false (fun z:b<=(R k).place/\q<=e=>h2 z.2)]
         exact vb (qj (u:=true) (v:=false) (di (pA (aa 2 rfl) (aa 6 rfl)) (decide_eq_true (by omega))) fun _=>rW (di (pA (aa 9 rfl) (aa 3 rfl)) (decide_eq_false (by omega))))
     . rw[decide_eq_false (fun z:b<=(R k).place/\q<=e=>h1 z.1)]
       exact vb (qj (u:=false) (v:=false) (di (pA (aa 2 rfl) (aa 6 rfl)) (decide_eq_false (by omega))) fun z=>nomatch z)
   case b2=>
     have h:¬ q<=b:=of_decide_eq_false h
     have h':=of_decide_eq_true h'
     have e1:R (k+1)=⟨q,st,(R k).bt ++ [p]⟩:=by rw[eR];unfold m9;rw[Je];exact(if_neg h).trans (if_pos h')
     rw[e1]
     show lM _ _ _ _ _ (.nx [_,_,_,_,.own (.lst (((R k).bt ++ [p]).map rN)),_,_,_,_,_])
     rw[List.map_append]
     exact ai (qo (ds:=(R k).bt.map rN) 4 (aa 7 rfl) (by rw[List.length_map];exact Yn (by omega))) (aq (ay 6 nd (aa 9 rfl)))
   case b3=>
     have h:¬ q<=b:=of_decide_eq_false h
     have h':=of_decide_eq_false h'
     have hz:=zE h h'
     have e1:R (k+1)=⟨(R k).place,wp (p.1 - 1) (wordOf rows p.2) ++ st,(R k).bt⟩:=by rw[eR];unfold m9;rw[Je];exact(if_neg h).trans (if_neg h')
     rw[e1]
     have hw:=iL ok.ok EM.1
     show lM _ _ _ _ _ (.nx [_,_,_,_,_,.own (.lst ((wp (p.1 - 1) (wordOf rows p.2) ++ st).reverse.map rN)),_,_,_,_])
     rw[List.reverse_append,List.map_append]
     exact aq (DU (ds:=st.reverse.map rN) 5 (jw (vX Ig aB hr (ae (bE (fs:=t.wt six rows) (aG (fs:=t.iK six rows wd l ls N) (aa 0 rfl) T.aP.cl T.cy rfl) uO aB hr (ae (a0 (aa 7 rfl) ao rfl) aj) ⟨six,rows,p.2,rfl,ok.ok,EM.1,rfl⟩) (ae (aU (d6 (aa 8 rfl) ao) (congrArg Dt.int (show((p.1:Nat):Int) - 1=((p.1 - 1:Nat):Int) by omega))) aj)) ⟨wordOf rows p.2,p.1 - 1,rfl,by omega,rfl⟩)) (by
       rw[List.length_map,List.length_map,List.length_reverse,List.length_reverse]
       show st.length+((wordOf rows p.2).map fun c=>(p.1 - 1,c)).length<=_
       rw[List.length_map]
       exact Nat.le_of_lt (Yn (by omega))))
def grow (rows:List Row)(w:List Nat):List Nat:=(w.map (wordOf rows)).flatten
theorem Ih (rows:List Row)(a b:List Nat):grow rows (a ++ b)=grow rows a ++ grow rows b:=by
 unfold grow;rw[List.map_append,List.flatten_append]
theorem yr (rows:List Row)(f:Nat->List Nat):∀ w:List Nat,grow rows (w.flatMap f)=w.flatMap fun y=>grow rows (f y)
 | []=>rfl
 | y::w=>by rw[List.flatMap_cons,List.flatMap_cons,Ih,yr rows f w]
theorem C8 (rows:List Row):∀ (r c:Nat),grow rows (gP rows r c)=gP rows (r+1) c
 | 0,c=>by
   show [wordOf rows c].flatten=(wordOf rows c).flatMap fun y=>[y]
   simp
 | r+1,c=>by
   show grow rows ((wordOf rows c).flatMap (gP rows r))=_
   rw[yr]
   show _=(wordOf rows c).flatMap (gP rows (r+1))
   congr 1
   funext y
   exact C8 rows r y
theorem Mu (rows:List Row)(w:List Nat)(n:Nat):grow rows (uW rows w n)=uW rows w (n+1):=by
 unfold uW
 rw[yr]
 congr 1
 funext y
 exact C8 rows n y
theorem SW (rows:List Row)(w:List Nat):uW rows w 0=w:=by
 show w.flatMap (fun y=>[y])=w
 simp
theorem C9 {rows:List Row}(ok:bR rows){w:List Nat}(h:∀ x∈w,x∈rows.map (·.c)):∀ n,∀ x∈uW rows w n,x∈rows.map (·.c)
 | 0=>by rw[SW];exact h
 | n+1=>fun x hx=>by
   rw[<- Mu] at hx
   obtain⟨l,hl,hx⟩:=List.mem_flatten.mp hx
   obtain⟨y,hy,rfl⟩:=List.mem_map.mp hl
   exact(iL ok (C9 ok h n y hy)).1 x hx
theorem Dc {rows:List Row}(ok:bR rows):∀ {w:List Nat},(∀ x∈w,x∈rows.map (·.c))->w.length<=(grow rows w).length/\(grow rows w).length<=8 * w.length
 | [],_=>⟨Nat.zero_le _,Nat.zero_le _⟩
 | x::w,h=>by
   have ih:=Dc ok (w:=w) fun y hy=>h y (List.mem_cons_of_mem _ hy)
   have hw:=iL ok (h x (List.mem_cons_self ..))
   have e:(grow rows (x::w)).length=(wordOf rows x).length+(grow rows w).length:=by
     show((wordOf rows x::w.map (wordOf rows)).flatten).length=_
     rw[List.flatten_cons,List.length_append];rfl
   rw[e,List.length_cons];omega
theorem Ii {rows:List Row}(ok:bR rows){w:List Nat}(h:∀ x∈w,x∈rows.map (·.c))(n:Nat):∀ k,(uW rows w n).length<=(uW rows w (n+k)).length
 | 0=>Nat.le_refl _
 | k+1=>Nat.le_trans (Ii ok h n k) (by rw[<- Nat.add_assoc,<- Mu];exact(Dc ok (C9 ok h (n+k))).1)
theorem Px {rows:List Row}(ok:bR rows){w:List Nat}(h:∀ x∈w,x∈rows.map (·.c)){n m:Nat}(hm:n<=m):(uW rows w n).length<=(uW rows w m).length:=by
 have:=Ii ok h n (m - n)
 rwa [Nat.add_sub_cancel' hm] at this
abbrev BQ (t:dX)(six:Bool)(rows:List Row)(w:List Nat)(l:Addr)(ls:je)(n:Nat):Dt:=.obj t.au (t.iK six rows w l ls n)
def WE (t:dX):Rl:=fun ds r=>∃ six rows w l ls n age z,ds=[BQ t six rows w l ls n,.int ((age:Nat):Int),.int z]/\mH rows w/\ls.map (·.2)=pY rows/\age<=200/\(0<=z/\z<=((uW rows w age).length:Nat))/\r=.ret .cL
def WG (t:dX):Rl:=fun ds r=>∃ six rows w l ls n age,∃ b e:Nat,ds=[BQ t six rows w l ls n,.int ((age:Nat):Int),.int (b:Int),.int (e:Int)]/\mH rows w/\ls.map (·.2)=pY rows/\age<=200/\(b<=e/\e<=(uW rows w age).length)/\r=.ret (.u0 l ls (age+1))
def cut (W:List Nat)(b e:Nat):List Nat:=(W.take e).drop b
theorem SY (T:Txt K mg t):MF P w K mg base CX 7 t.au "check_place" 3 (WE t):=by
 refine⟨T.aP.cl,_,_,_,i6 T.df.F mF rfl fun bA A outer s H E G ds r hr hl hR=>?_,T.cA,T.df.b⟩
 obtain⟨six,rows,wd,l,ls,n,age,z,rfl,ok,nY,kR,hz,rfl⟩:=hR
 have Dd:=C3 (P:=P) (w:=w) (base:=base) T
 have e:=yq ok age
 exact⟨_,.nx _,aq (cj (u:=false) (vb (vT (u:=false) (v:=false) (di (tL (aa 2 rfl) ao) (decide_eq_false (by omega))) fun _=>(tJ (di (zk (aa 2 rfl) (bE (fs:=t.iK six rows wd l ls n) (aa 0 rfl) Dd aB hr (ae (aa 1 rfl) aj) ⟨six,rows,wd,l,ls,n,age,rfl,ok,nY,kR,rfl⟩)) (decide_eq_false (by omega)))))) (fun h=>nomatch h) (fun h=>cg))⟩
theorem S5 (T:Txt K mg t):MF P w K mg base CX 8 t.au "check_stretch" 4 (WG t):=by
 refine⟨T.aP.cl,_,_,_,i6 T.cG.F lx rfl fun bA A outer s H E G ds r hr hl hR=>?_,T.b0,T.cG.b⟩
 obtain⟨six,rows,wd,l,ls,n,age,b,e,rfl,ok,nY,kR,⟨rP,Lj⟩,rfl⟩:=hR
 have HI:=Al (P:=P) (w:=w) (base:=base) T
 have S6:=SY (P:=P) (w:=w) (base:=base) T
 have e2:ls.length=2:=by have:=congrArg List.length nY;simpa [pY] using this
 exact⟨_,nI (nm:=["tallies","lengths"]) (tl:=[.val (.int ((age:Nat):Int)),.val (.int (b:Int)),.val (.int (e:Int))]) (by rw[e2];exact Nat.le_refl 2),ai (pI (m:=age+1) (tl:=[.val (.int ((age:Nat):Int)),.val (.int (b:Int)),.val (.int (e:Int))]) (bE (fs:=t.iK six rows wd l ls n) (aa 0 rfl) HI aB hr (ae (aa 1 rfl) aj) ⟨six,rows,wd,l,ls,n,age,rfl,ok,nY,by omega,rfl⟩))
   (ai (pq (bE (fs:=t.iK six rows wd l ls (age+1)) (aa 0 rfl) S6 aB hr (ae (aa 1 rfl) (ae (aa 2 rfl) aj)) ⟨six,rows,wd,l,ls,_,age,b,rfl,ok,nY,kR,⟨by omega,by omega⟩,rfl⟩))
   (ai (cj (u:=false) (di (tL (aa 3 rfl) (aa 2 rfl)) (decide_eq_false (by omega))) (fun h=>nomatch h) (fun h=>cg))
   (aq (pq (bE (fs:=t.iK six rows wd l ls (age+1)) (aa 0 rfl) S6 aB hr (ae (aa 1 rfl) (ae (aa 3 rfl) aj)) ⟨six,rows,wd,l,ls,_,age,e,rfl,ok,nY,kR,⟨by omega,by omega⟩,rfl⟩)))))⟩
theorem BR (six:Bool)(w:Int)(p q:Int×Int):jt six w (ad p q)=jt six w p+jt six w q:=by
 unfold jt ad
 cases six
 . simp only[Bool.false_eq_true,if_false]
   split
   . rfl
   . split
     . rfl
     . split <;> omega
 . simp only[if_true]
   split
   . omega
   . split
     . omega
     . split
       . omega
       . split
         . omega
         . split <;> omega
theorem Ar (six:Bool){w:Nat}(h:w < wn six)(b:Int)(p:Int×Int):jt six (((w:Int) - b) % wy six) p=jt six w (tn six (b % wy six).toNat p):=by
 have hw:=qY six
 have h0:=Int.emod_nonneg ((w:Int) - b) (Int.ne_of_gt (iq six))
 have h1:=Int.emod_lt_of_pos ((w:Int) - b) (iq six)
 have k:=Hl six h0 h1 b p
 rw[<- k]
 congr 1
 cases six with
 | false=>show(((w:Int) - b) % 4+b) % 4=w;have:w < 4:=h;omega
 | true=>show(((w:Int) - b) % 6+b) % 6=w;have:w < 6:=h;omega
theorem uX (six:Bool)(ns:List Int)(f:Int){w:Nat}(h:w < wn six):(mi six ns f).getD w 0=ns.getD (((w:Int) - f) % wy six).toNat 0:=by
 unfold mi
 rw[List.getD_eq_getElem?_getD,List.getElem?_map,List.getElem?_range h];rfl
theorem yt (six:Bool)(w:Nat)(b:Int):(((w:Int) - b) % wy six).toNat < wn six/\((((w:Int) - b) % wy six).toNat:Int)=((w:Int) - b) % wy six:=by
 have hw:=qY six
 have h0:=Int.emod_nonneg ((w:Int) - b) (Int.ne_of_gt (iq six))
 have h1:=Int.emod_lt_of_pos ((w:Int) - b) (iq six)
 omega
theorem mn {f:Nat->Int}{n k:Nat}(h:k < n):((List.range n).map f).getD k 0=f k:=by
 rw[List.getD_eq_getElem?_getD,List.getElem?_map,List.getElem?_range h];rfl
def Py (p q:Int):Int:=if q<=p then p else q
theorem jd (six:Bool)(x y:Tr){w:Nat}(h:w < wn six):(jn six x y).reach.getD w 0=Py (x.reach.getD w 0) (y.reach.getD (((w:Int) - x.turn) % wy six).toNat 0+jt six w x.shift):=by
 show((List.range (wn six)).map (vG six x y)).getD w 0=_
 rw[mn h]
 unfold vG Py
 rw[uX six _ _ h]
theorem lF (six:Bool)(x y:Tr){w:Nat}(h:w < wn six):(jn six x y).bI.getD w 0=if y.reach.getD (((w:Int) - x.turn) % wy six).toNat 0+jt six w x.shift<=x.reach.getD w 0 then x.bI.getD w 0 else y.bI.getD (((w:Int) - x.turn) % wy six).toNat 0+x.many:=by
 show((List.range (wn six)).map (yb six x y)).getD w 0=_
 rw[mn h]
 unfold yb
 rw[uX six _ _ h,uX six _ _ h]
theorem Ij (six:Bool):∀ (n:Nat) (p q:Int×Int),tn six n (ad p q)=ad (tn six n p) (tn six n q)
 | 0,p,q=>rfl
 | n+1,p,q=>by
   rw[tn,tn,tn,Ij six n]
   generalize tn six n p=a
   generalize tn six n q=b
   cases six
   . simp only[Pf.tl,ad,Bool.false_eq_true,if_false];refine Prod.ext ?_ ?_ <;> simp only <;> omega
   . simp only[Pf.tl,ad,if_true];refine Prod.ext ?_ ?_ <;> simp only <;> omega
theorem Il (six:Bool)(a b:Int)(p:Int×Int):tn six (a % wy six).toNat (tn six (b % wy six).toNat p)=tn six (((a+b) % wy six) % wy six).toNat p:=by
 obtain⟨x,y⟩:=p
 cases six with
 | false=>
   have e:wy false=4:=rfl
   rw[e]
   have h:a % 4=0\/a % 4=1\/a % 4=2\/a % 4=3:=by omega
   have g:b % 4=0\/b % 4=1\/b % 4=2\/b % 4=3:=by omega
   have q:(a+b) % 4 % 4=(a % 4+b % 4) % 4:=by omega
   rw[q]
   rcases h with h | h | h | h <;> rcases g with g | g | g | g <;> rw[h,g] <;> simp[tn,Pf.tl]
 | true=>
   have e:wy true=6:=rfl
   rw[e]
   have h:a % 6=0\/a % 6=1\/a % 6=2\/a % 6=3\/a % 6=4\/a % 6=5:=by omega
   have g:b % 6=0\/b % 6=1\/b % 6=2\/b % 6=3\/b % 6=4\/b % 6=5:=by omega
   have q:(a+b) % 6 % 6=(a % 6+b % 6) % 6:=by omega
   rw[q]
   rcases h with h | h | h | h | h | h <;> rcases g with g | g | g | g | g | g <;> rw[h,g] <;> simp[tn,Pf.tl] <;> omega
theorem S9 (six:Bool)(p q:Int×Int):cr (Pf.tl six p) (Pf.tl six q)=cr p q:=by
 unfold cr Pf.tl
 cases six
 . simp only[Bool.false_eq_true,if_false]
   have h1:-p.2 * q.1=-(p.2 * q.1):=Int.neg_mul _ _
   have h2:p.1 * -q.2=-(p.1 * q.2):=Int.mul_neg _ _
   omega
 . simp only[if_true]
   have h1:-p.2 * (q.1+q.2)=-(p.2 * q.1) - p.2 * q.2:=by rw[Int.neg_mul,Int.mul_add];omega
   have h2:(p.1+p.2) * -q.2=-(p.1 * q.2) - p.2 * q.2:=by rw[Int.mul_neg,Int.add_mul];omega
   omega
theorem Mv (six:Bool):∀ (n:Nat) (p q:Int×Int),cr (tn six n p) (tn six n q)=cr p q
 | 0,_,_=>rfl
 | n+1,p,q=>by rw[tn,tn,S9,Mv six n]
theorem Lk (p q r:Int×Int):cr p (ad q r)=cr p q+cr p r:=by
 unfold cr ad
 simp only[Int.mul_add];omega
theorem Ll (p q r:Int×Int):cr (ad p q) r=cr p r+cr q r:=by
 unfold cr ad
 simp only[Int.add_mul];omega
theorem Im (p q r:Int×Int):ad p (ad q r)=ad (ad p q) r:=by
 unfold ad
 refine Prod.ext ?_ ?_ <;> simp only <;> omega
theorem list_eq {six:Bool}{a b:List Int}(ha:a.length=wn six)(hb:b.length=wn six)(h:∀ w,w < wn six->a.getD w 0=b.getD w 0):a=b:=by
 refine List.ext_getElem (by omega) fun i h1 h2=>?_
 have:=h i (by omega)
 rw[List.getD_eq_getElem?_getD,List.getD_eq_getElem?_getD,List.getElem?_eq_getElem h1,List.getElem?_eq_getElem h2] at this
 exact this
theorem qN (six:Bool)(x y:Tr):(jn six x y).reach.length=wn six/\(jn six x y).bI.length=wn six:=by unfold jn;simp
theorem Io (six:Bool)(x y z:Tr):jn six x (jn six y z)=jn six (jn six x y) z:=by
 have key:∀ w,w < wn six->∃ v u:Nat,v < wn six/\u < wn six/\(((w:Int) - x.turn) % wy six).toNat=v/\(((v:Int) - y.turn) % wy six).toNat=u/\(((w:Int) - (x.turn+y.turn) % wy six) % wy six).toNat=u/\jt six w (tn six (x.turn % wy six).toNat y.shift)=jt six v y.shift:=by
   intro w hw
   obtain⟨h1,h2⟩:=yt six w x.turn
   obtain⟨h3,h4⟩:=yt six (((w:Int) - x.turn) % wy six).toNat y.turn
   refine⟨_,_,h1,h3,rfl,rfl,?_,?_⟩
   . rw[h2]
     cases six with
     | false=>show(((w:Int) - (x.turn+y.turn) % 4) % 4).toNat=(((w - x.turn) % 4 - y.turn) % 4).toNat;congr 1;omega
     | true=>show(((w:Int) - (x.turn+y.turn) % 6) % 6).toNat=(((w - x.turn) % 6 - y.turn) % 6).toNat;congr 1;omega
   . rw[h2,Ar six hw]
 have hr:(jn six x (jn six y z)).reach=(jn six (jn six x y) z).reach:=by
   refine list_eq (qN _ _ _).1 (qN _ _ _).1 fun w hw=>?_
   obtain⟨v,u,hv,hu,e1,e2,e3,e4⟩:=key w hw
   rw[jd six _ _ hw,jd six _ _ hw,jd six _ _ hw,e1,jd six _ _ hv,e2]
   show _=Py _ (z.reach.getD (((w:Int) - (x.turn+y.turn) % wy six) % wy six).toNat 0+jt six w (ad x.shift (tn six (x.turn % wy six).toNat y.shift)))
   rw[e3,BR,e4]
   unfold Py
   split <;> split <;> split <;> (try split) <;> omega
 have ht:(jn six x (jn six y z)).bI=(jn six (jn six x y) z).bI:=by
   refine list_eq (qN _ _ _).2 (qN _ _ _).2 fun w hw=>?_
   obtain⟨v,u,hv,hu,e1,e2,e3,e4⟩:=key w hw
   rw[lF six _ _ hw,lF six (jn six x y) _ hw,lF six x y hw,jd six x y hw,e1,jd six _ _ hv,lF six _ _ hv,e2]
   show _=if z.reach.getD (((w:Int) - (x.turn+y.turn) % wy six) % wy six).toNat 0+jt six w (ad x.shift (tn six (x.turn % wy six).toNat y.shift))<=_ then _ else z.bI.getD (((w:Int) - (x.turn+y.turn) % wy six) % wy six).toNat 0+(x.many+y.many)
   rw[e3,BR,e4]
   unfold Py
   split <;> split <;> split <;> (try split) <;> (try split) <;> omega
 have e1:(jn six x (jn six y z)).turn=(jn six (jn six x y) z).turn:=by
   show(x.turn+(y.turn+z.turn) % wy six) % wy six=((x.turn+y.turn) % wy six+z.turn) % wy six
   rw[Int.add_emod_emod,Int.emod_add_emod,Int.add_assoc]
 have e2:(jn six x (jn six y z)).shift=(jn six (jn six x y) z).shift:=by
   show ad x.shift (tn six (x.turn % wy six).toNat (ad y.shift (tn six (y.turn % wy six).toNat z.shift)))=ad (ad x.shift (tn six (x.turn % wy six).toNat y.shift)) (tn six (((x.turn+y.turn) % wy six) % wy six).toNat z.shift)
   rw[Ij,Il,Im]
 have e3:(jn six x (jn six y z)).mG=(jn six (jn six x y) z).mG:=by
   show x.mG+(y.mG+z.mG+cr y.shift (tn six (y.turn % wy six).toNat z.shift))+cr x.shift (tn six (x.turn % wy six).toNat (ad y.shift (tn six (y.turn % wy six).toNat z.shift)))
     = x.mG+y.mG+cr x.shift (tn six (x.turn % wy six).toNat y.shift)+z.mG+cr (ad x.shift (tn six (x.turn % wy six).toNat y.shift)) (tn six (((x.turn+y.turn) % wy six) % wy six).toNat z.shift)
   have q:=Mv six (x.turn % wy six).toNat y.shift (tn six (y.turn % wy six).toNat z.shift)
   rw[Il] at q
   rw[Ij,Il,Lk,Ll,<- q]
   omega
 have e4:(jn six x (jn six y z)).many=(jn six (jn six x y) z).many:=(Int.add_assoc _ _ _).symm
 have e5:(jn six x (jn six y z)).eF=(jn six (jn six x y) z).eF:=(Int.add_assoc _ _ _).symm
 generalize jn six x (jn six y z)=a at hr ht e1 e2 e3 e4 e5
 generalize jn six (jn six x y) z=b at hr ht e1 e2 e3 e4 e5
 cases a;cases b
 simp only at hr ht e1 e2 e3 e4 e5
 subst hr ht e1 e2 e3 e4 e5
 rfl
def k6 (six:Bool)(xs:List Str)(k:Nat):Int×Int:=(bJ six (xs.take k)).shift
theorem Ip (six:Bool)(xs:List Str):0<=(bJ six xs).turn/\(bJ six xs).turn < wy six:=by
 by_cases h:xs=[]
 . subst h;exact⟨Int.le_refl _,iq six⟩
 . rw[<- List.dropLast_concat_getLast h,kr]
   exact⟨Int.emod_nonneg _ (Int.ne_of_gt (iq six)),Int.emod_lt_of_pos _ (iq six)⟩
def rec (six:Bool)(xs:List Str)(w:Int):Nat->Int×Int
 | 0=>(0,0)
 | j+1=>if (rec six xs w j).1 < jt six w (k6 six xs j) then (jt six w (k6 six xs j),j) else rec six xs w j
theorem As (six:Bool)(xs:List Str)(d:Str)(w:Int):∀ j,j<=xs.length+1->rec six (xs ++ [d]) w j=rec six xs w j
 | 0,_=>rfl
 | j+1,h=>by
   rw[rec,rec,As six xs d w j (by omega)]
   have e:k6 six (xs ++ [d]) j=k6 six xs j:=by
     unfold k6
     rw[List.take_append_of_le_length (by omega)]
   rw[e]
theorem uY (six:Bool)(w:Int):jt six w (0,0)=0:=by
 unfold jt
 cases six <;> simp
theorem yu (six:Bool){w:Nat}(hw:w < wn six):∀ (n:Nat) (xs:List Str),xs.length=n->rec six xs w (n+1)=((bJ six xs).reach.getD w 0,(bJ six xs).bI.getD w 0)/\jt six w (bJ six xs).shift<=(bJ six xs).reach.getD w 0:=by
 intro n
 induction n with
 | zero=>
   intro xs h
   have e:xs=[]:=List.eq_nil_of_length_eq_zero h
   subst e
   have e1:(bJ six []).reach.getD w 0=0:=by
     show(List.replicate (wn six) (0:Int)).getD w 0=0
     rw[List.getD_eq_getElem?_getD,List.getElem?_replicate];split <;> rfl
   have e2:(bJ six []).bI.getD w 0=0:=e1
   have e3:jt six w (k6 six [] 0)=0:=uY six w
   have e4:jt six w (bJ six []).shift=0:=uY six w
   rw[e1,e2,e4,rec,rec,e3]
   simp
 | succ n ih=>
   intro xs h
   have AA:xs≠[]:=fun e=>by rw[e] at h;cases h
   have e:=List.dropLast_concat_getLast AA
   have hl:xs.dropLast.length=n:=by rw[List.length_dropLast];omega
   generalize xs.getLast AA=d at e
   generalize xs.dropLast=ys at e hl
   subst e
   obtain⟨h1,h2⟩:=ih ys hl
   rw[rec,As six ys d w (n+1) (by omega),h1]
   have es:k6 six (ys ++ [d]) (n+1)=(bJ six (ys ++ [d])).shift:=by
     unfold k6
     rw[List.take_of_length_le (by rw[List.length_append];simp;omega)]
   rw[es,kr,jd six _ _ hw,lF six _ _ hw]
   obtain⟨b1,b2⟩:=yt six w (bJ six ys).turn
   have r1:(one six d).reach.getD (((w:Int) - (bJ six ys).turn) % wy six).toNat 0=mj six d (((w:Int) - (bJ six ys).turn) % wy six).toNat:=mn b1
   have t1:(one six d).bI.getD (((w:Int) - (bJ six ys).turn) % wy six).toNat 0=if mj six d (((w:Int) - (bJ six ys).turn) % wy six).toNat < 1 then mj six d (((w:Int) - (bJ six ys).turn) % wy six).toNat else 1:=mn (f:=fun k=>if mj six d k < 1 then mj six d k else 1) b1
   rw[r1,t1]
   unfold mj
   rw[b2,Ar six hw]
   have ec:jt six w (jn six (bJ six ys) (one six d)).shift=jt six w (bJ six ys).shift+jt six w (tn six ((bJ six ys).turn % wy six).toNat (sJ six d (0,0) 0).1):=BR six w _ _
   rw[ec]
   have hm:=(Ht six n ys hl).1
   rw[hm]
   generalize jt six w (tn six ((bJ six ys).turn % wy six).toNat (sJ six d (0,0) 0).1)=D
   generalize jt six w (bJ six ys).shift=B at h2 ⊢
   generalize (bJ six ys).reach.getD w 0=A at h2 ⊢
   generalize (bJ six ys).bI.getD w 0=U
   unfold Py
   refine⟨?_,?_⟩
   . by_cases c1:D > 0
     . simp only[if_pos c1]
       by_cases c2:D+B<=A
       . simp only[if_pos c2]
         rw[if_neg (by omega)]
       . simp only[if_neg c2]
         rw[if_pos (by omega),if_neg (by omega)]
         refine Prod.ext ?_ ?_
         . show B+D=D+B;omega
         . show((n+1:Nat):Int)=1+n;omega
     . simp only[if_neg c1]
       rw[if_neg (by omega)]
       have c2:0+B<=A:=by omega
       simp only[if_pos c2]
   . by_cases c1:D > 0
     . simp only[if_pos c1];split <;> omega
     . simp only[if_neg c1];split <;> omega
theorem Pz (six:Bool)(xs:List Str):jn six (bJ six xs) (Az six)=bJ six xs:=by
 have w:=Hs six _ xs rfl
 have tt:=Ip six xs
 have z:∀ k,(Az six).reach.getD k 0=0:=fun k=>by
   show(List.replicate (wn six) (0:Int)).getD k 0=0
   rw[List.getD_eq_getElem?_getD,List.getElem?_replicate];split <;> rfl
 have hr:(jn six (bJ six xs) (Az six)).reach=(bJ six xs).reach:=list_eq (qN _ _ _).1 w.2.2.1 fun v hv=>by
   have:=(yu six hv _ xs rfl).2
   rw[jd six _ _ hv,z]
   unfold Py
   rw[if_pos (by omega)]
 have ht:(jn six (bJ six xs) (Az six)).bI=(bJ six xs).bI:=list_eq (qN _ _ _).2 w.2.2.2 fun v hv=>by
   have:=(yu six hv _ xs rfl).2
   rw[lF six _ _ hv,z,if_pos (by omega)]
 have e1:(jn six (bJ six xs) (Az six)).turn=(bJ six xs).turn:=by
   show((bJ six xs).turn+0) % wy six=_
   rw[Int.add_zero,Int.emod_eq_of_lt tt.1 tt.2]
 have e2:(jn six (bJ six xs) (Az six)).shift=(bJ six xs).shift:=by
   show ad (bJ six xs).shift (tn six _ (0,0))=_
   rw[sO];unfold ad;simp
 have e3:(jn six (bJ six xs) (Az six)).mG=(bJ six xs).mG:=by
   show(bJ six xs).mG+0+cr (bJ six xs).shift (tn six _ (0,0))=_
   rw[sO];unfold cr;simp
 have e4:(jn six (bJ six xs) (Az six)).many=(bJ six xs).many:=Int.add_zero _
 have e5:(jn six (bJ six xs) (Az six)).eF=(bJ six xs).eF:=Int.add_zero _
 generalize jn six (bJ six xs) (Az six)=a at hr ht e1 e2 e3 e4 e5 ⊢
 generalize bJ six xs=b at hr ht e1 e2 e3 e4 e5 ⊢
 cases a;cases b
 simp only at hr ht e1 e2 e3 e4 e5
 subst hr ht e1 e2 e3 e4 e5
 rfl
theorem Lm (six:Bool)(xs:List Str):∀ (n:Nat) (ys:List Str),ys.length=n->jn six (bJ six xs) (bJ six ys)=bJ six (xs ++ ys):=by
 intro n
 induction n with
 | zero=>
   intro ys h
   have e:ys=[]:=List.eq_nil_of_length_eq_zero h
   subst e
   rw[List.append_nil]
   exact Pz six xs
 | succ n ih=>
   intro ys h
   have AA:ys≠[]:=fun e=>by rw[e] at h;cases h
   have e:=List.dropLast_concat_getLast AA
   have hl:ys.dropLast.length=n:=by rw[List.length_dropLast];omega
   rw[<- e,kr,Io,ih _ hl,<- List.append_assoc,kr]
def yv (rows:List Row)(w:List Nat):List Str:=w.map (mh rows)
theorem Iq {rows:List Row}(ok:bR rows):∀ (r:Nat) {c:Nat},c∈rows.map (·.c)->(gP rows r c).length<=8 ^ r
 | 0,_,_=>Nat.le_refl _
 | r+1,c,h=>by
   obtain⟨q,hq,_,_,ew⟩:=jb h
   have hw:∀ y∈wordOf rows c,y∈rows.map (·.c):=fun y hy=>ok.wo q hq y (by rw[ew] at hy;exact hy)
   have hl:(wordOf rows c).length<=8:=by rw[ew];exact(ok.wp q hq).2
   have:∀ (w:List Nat),(∀ y∈w,y∈rows.map (·.c))->(w.flatMap (gP rows r)).length<=w.length * 8 ^ r:=by
     intro w
     induction w with
     | nil=>intro _;simp
     | cons a w ih=>
       intro h
       rw[List.flatMap_cons,List.length_append,List.length_cons,Nat.add_mul,Nat.one_mul]
       have h1:=Iq ok r (h a (by simp))
       have h2:=ih fun y hy=>h y (by simp[hy])
       omega
   have h3:=this _ hw
   have h4:(wordOf rows c).length * 8 ^ r<=8 * 8 ^ r:=Nat.mul_le_mul_right _ hl
   show((wordOf rows c).flatMap (gP rows r)).length<=8 ^ (r+1)
   rw[Nat.pow_succ];omega
theorem Mw {rows:List Row}{w:List Nat}(ok:mH rows w){age:Nat}(h:age<=200):(uW rows w age).length < 2 ^ 990:=by
 have:∀ (v:List Nat),(∀ y∈v,y∈rows.map (·.c))->(v.flatMap (gP rows age)).length<=v.length * 8 ^ age:=by
   intro v
   induction v with
   | nil=>intro _;simp
   | cons a v ih=>
     intro h
     rw[List.flatMap_cons,List.length_append,List.length_cons,Nat.add_mul,Nat.one_mul]
     have h1:=Iq ok.ok age (h a (by simp))
     have h2:=ih fun y hy=>h y (by simp[hy])
     omega
 have h1:=this w ok.wm
 have h2:w.length * 8 ^ age<=8 * 8 ^ 200:=Nat.mul_le_mul ok.w8 (Nat.pow_le_pow_right (by decide) h)
 have h3:8 * 8 ^ 200 < 2 ^ 990:=by decide +kernel
 exact Nat.lt_of_le_of_lt (Nat.le_trans h1 h2) h3
theorem WH {rows:List Row}(ok:bR rows){r c:Nat}(h:c∈rows.map (·.c))(hr:r<=200):(gP rows r c).length < 2 ^ 990:=by
 have h1:=Iq ok r h
 have h2:8 ^ r<=8 ^ 200:=Nat.pow_le_pow_right (by decide) hr
 exact Nat.lt_of_le_of_lt (Nat.le_trans h1 h2) (by decide +kernel)
def Ln (six:Bool)(rows:List Row)(i c:Nat):Tr:=bJ six (yv rows (gP rows i c))
def dX.oY (t:dX)(six:Bool)(rows:List Row)(i:Nat):List (Key×FD):=(rows.map (·.c)).map fun c=>(.inr (sg c),.obj t.aw (t.Wr six (Ln six rows i c)))
theorem Qd (t:dX)(six:Bool)(rows:List Row)(i:Nat):mD (t.oY six rows i)=kd (rows.map (·.c)) fun c=>t.nS six (Ln six rows i c):=by unfold mD dX.oY kd;rw[List.map_map];rfl
abbrev dX.yw (t:dX)(six:Bool)(rows:List Row)(w:List Nat)(l':Addr)(ls':je)(n':Nat):List (Str×Dt):=Qa "growth" t.au (t.yl six rows w) ["tallies","lengths"] l' ls' n'
abbrev dX.Ex (t:dX)(six:Bool)(rows:List Row)(w:List Nat)(l':Addr)(ls':je)(n':Nat)(l:Addr)(ls:je)(n:Nat):List (Str×Dt):=qR (t.yw six rows w l' ls' n') ["tracks"] l ls n
abbrev dX.Ta (t:dX)(six:Bool)(rows:List Row)(w:List Nat)(l':Addr)(ls':je)(n':Nat)(l:Addr)(ls:je)(n:Nat):List (Str×Dt):=nX (t.yw six rows w l' ls' n') ["tracks"] l ls n
theorem PB {l l':Addr}{ls':je}{n':Nat}(h:l'≠l)(t:dX)(six:Bool)(rows:List Row)(w:List Nat):jE l (t.yw six rows w l' ls' n')=true:=by
 have e:qw l (.memo l' ls' 0 n')=true/\qw l (.memo l' ls' 1 n')=true:=by
   unfold qw
   simp[h]
 show((qw l (t.yA six rows) && (qw l (.str (tx w)) && (qw l (.memo l' ls' 0 n') && (qw l (.memo l' ls' 1 n') && true)))) && true)=true
 rw[BG,e.1,e.2];rfl
theorem Ir (six:Bool)(xs:List (List Str)){k:Nat}(h:k < xs.length):jn six (bJ six (xs.take k).flatten) (bJ six xs[k])=bJ six (xs.take (k+1)).flatten:=by
 rw[Lm six _ _ _ rfl,List.take_add_one,List.getElem?_eq_getElem h,List.flatten_append]
 simp
theorem PD {rows:List Row}{w:List Nat}(ok:mH rows w){age b e:Nat}(kR:age<=200)(rP:b<=e)(Lj:e<=(uW rows w age).length):∃ k bt,(e<=(run rows b e (vI w age) k).place/\∀ j,j < k->(run rows b e (vI w age) j).place < e)/\(run rows b e (vI w age) k).bt=bt/\flat rows bt=cut (uW rows w age) b e/\bt.length<=4000/\∀ p∈bt,p.2∈rows.map (·.c)/\p.1<=age:=by
 obtain⟨k,WI,Uh⟩:=Aq ok.ok _ (BP ok rP Lj) (Nat.le_refl _)
 obtain⟨Ik,Jk⟩:=BO ok.ok (BP ok rP Lj) Uh k (Nat.le_refl _)
 have hmu:=Ic ok (b:=b) (e:=e) kR
 have hp:(run rows b e (vI w age) k).place=e:=by have:=Ik.pe;omega
 refine⟨k,_,⟨WI,Uh⟩,rfl,by rw[Ik.fb,hp];rfl,?_,Ik.mt⟩
 have:(vI w age).bt.length=0:=rfl
 omega
def Ey (t:dX):Rl:=fun ds r=>∃ six rows w l ls n rest,∃ xs:List (List Str),ds=[.obj t.aC (("growth",BQ t six rows w l ls n)::rest),.lst (xs.map fun x=>t.nS six (bJ six x))]/\xs.flatten.length < 2 ^ 990/\r=.ret (t.nS six (bJ six xs.flatten))
def Lo (t:dX):Rl:=fun ds r=>∃ six rows w l ls n,ds=[BQ t six rows w l ls n]/\mH rows w/\r=.own (.qi t.aC (t.yw six rows w l ls n) [t.oY six rows] ["tracks"] 1)
structure PF (t:dX)(six:Bool)(rows:List Row)(w:List Nat)(ls' ls:je):Prop where
 ok:mH rows w
 gs:ls'.map (·.2)=pY rows
 ts:ls.map (·.2)=[t.oY six rows]
def Lp (t:dX):Rl:=fun ds r=>∃ six rows w l' ls' n' l ls n age,ds=[.obj t.aC (t.Ex six rows w l' ls' n' l ls n),.int ((age:Nat):Int)]/\PF t six rows w ls' ls/\age<=200/\r=.ret (.u0 l ls (age+1))
def wF (t:dX):Rl:=fun ds r=>∃ six rows w l' ls' n' l ls n age,∃ b e:Nat,ds=[.obj t.aC (t.Ex six rows w l' ls' n' l ls n),.int ((age:Nat):Int),.int (b:Int),.int (e:Int)]/\PF t six rows w ls' ls/\age<=200/\(b<=e/\e<=(uW rows w age).length)/\r=.ret (t.nS six (bJ six (yv rows (cut (uW rows w age) b e))))
abbrev Tb:Scope:=BH ((aE fq).getD 2 (.Pass ⟨0,0,0,0⟩))
theorem Mx:jx Tb (af fq) mX ["letter","rules"] ["letter"] [2]=true:=by decide +kernel
abbrev wBd:List Stmt:=SG ((aE bL).getD 1 (.Pass ⟨0,0,0,0⟩))
abbrev Tc:Scope:=Ak (wBd.getD 2 (.Pass ⟨0,0,0,0⟩))
theorem My:jx Tc (af bL) jz ["younger","last"] ["younger"] [3]=true:=by decide +kernel
abbrev Td:Scope:=HH ((aE ck).getD 2 (.Pass ⟨0,0,0,0⟩))
theorem Mz:jx Td (af ck) kI ["rounds","letter","self"] ["rounds","letter"] [0]=true:=by decide +kernel
theorem Iu {rows:List Row}(ok:bR rows){x:Nat}(h:x∈rows.map (·.c)):mh rows x∈oB:=by
 obtain⟨q,hq,_,e,_⟩:=jb h
 rw[e];exact ok.dd q hq
theorem uZ (T:Txt K mg t):MF P w K mg base CX 6 t.aC "join_all" 2 (Ey t):=by
 refine⟨T.bO.cl,_,_,_,i6 T.eA.F jy rfl fun bA A outer s H E G ds r hr hl hR=>?_,T.cE,T.eA.b⟩
 obtain⟨six,rows,wd,l,ls,n,rest,xs,rfl,hx,rfl⟩:=hR
 have yi:=Ad (P:=P) (w:=w) (base:=base) T
 have Au:=ym (P:=P) (w:=w) (base:=base) T
 have Iv:=CS (P:=P) (w:=w) (base:=base) T
 have uL:=wC (P:=P) (w:=w) (base:=base) T
 have nd:=jy.nd
 let D:Dt:=.obj t.aC (("growth",BQ t six rows wd l ls n)::rest)
 let tr:List Str->Dt:=fun x=>t.nS six (bJ six x)
 let S:Nat->List Slot:=fun k=>[.val D,.val (.lst (xs.map tr)),.val (t.nS six (bJ six (xs.take k).flatten)),.aO]
 have en:S (xs.map tr).length=[.val D,.val (.lst (xs.map tr)),.val (t.nS six (bJ six xs.flatten)),.aO]:=by
   show [_,_,Slot.val (t.nS six (bJ six (xs.take (xs.map tr).length).flatten)),_]=_
   rw[List.length_map,List.take_length]
 have hle:∀ k,(xs.take k).flatten.length < 2 ^ 990:=fun k=>by
   have e:=List.take_append_drop k xs
   rw[<- e,List.flatten_append,List.length_append] at hx
   omega
 refine⟨_,.rt _,ai (ay 2 nd (bU yi aB hr (ae (dA (fs:=t.wt six rows) (dA (fs:=t.iK six rows wd l ls n) (aG (fs:=("growth",BQ t six rows wd l ls n)::rest) (aa 0 rfl) T.bO.cl T.bG rfl) Au aB hr ⟨six,rows,wd,l,ls,n,rfl,rfl⟩) Iv aB hr ⟨six,rows,rfl,rfl⟩) aj) ⟨six,rfl,rfl⟩))
   (ai (Ce (m:=(xs.map tr).length) 3 S nd rfl PassesOwn.leaving (aa 1 rfl) (Le.of ⟨rfl,rfl,rfl,trivial⟩) (Nat.le_refl _) (fun k z hk hz=>?_) (.all rfl)) ?_)⟩
 . rw[List.length_map] at hk
   rw[List.getElem?_map,List.getElem?_eq_getElem hk] at hz
   cases hz
   have h1:xs[k].length < 2 ^ 990:=by
     have:=hle (k+1)
     rw[List.take_add_one,List.getElem?_eq_getElem hk,List.flatten_append,List.length_append] at this
     simp at this
     omega
   refine .nx (aq (ay 2 nd (bE (fs:=t.km six (bJ six (xs.take k).flatten)) (k4 (aa 2 rfl)) uL aB hr (ae (k4 (x:=bJ six xs[k]) (aa 3 rfl)) aj) ⟨six,_,bJ six xs[k],rfl,⟨sP six (hle k),sP six h1⟩,rfl⟩))) (Le.of ⟨rfl,rfl,?_,trivial⟩)
   show Slot.val (t.nS six (bJ six (xs.take (k+1)).flatten))=_
   rw[Ir six xs hk]
 . rw[en]
   exact aq (aI (aa 2 rfl))
theorem Iw (T:Txt K mg t):P2 P w K mg base CX 8 "Drawing" t.aC 2 (Lo t):=by
 refine⟨_,_,_,TM T.ik.F my rfl fun bA A outer s H E G z ds r hr hl hR=>?_,T.oW,(T.g T.bO.a),T.ik.b⟩
 obtain⟨six,rows,wd,l,ls,n,rfl,ok,rfl⟩:=hR
 have eQ:=jc (P:=P) (w:=w) (base:=base) T
 have Au:=ym (P:=P) (w:=w) (base:=base) T
 have Iv:=CS (P:=P) (w:=w) (base:=base) T
 have PH:=Hi (P:=P) (w:=w) (base:=base) T
 have WJ:=Af (P:=P) (w:=w) (base:=base) T
 have h6:=ok.ok.le
 let L:=rows.map (·.c)
 have hL:L.length<=6:=by show(rows.map (·.c)).length<=6;rw[List.length_map];exact h6
 have nd:=my.nd
 have e1:((L.filter fun _=>true).map fun x=>Dt.tup [.str (sg x),t.nS six (Ln six rows 0 x)])=(mD (t.oY six rows 0)).map IS:=by
   rw[List.filter_eq_self.mpr (fun _ _=>rfl),Qd]
   exact Ah L _
 have h7:∀ x∈L,x < 128:=fun x hx=>by
   obtain⟨r,hr,rfl⟩:=List.mem_map.mp hx
   have:=ok.ok.sm r hr
   unfold small at this;omega
 refine⟨_,.U9 (fs:=t.yw six rows wd l ls n) (gs:=[t.oY six rows]) (nm:=["tracks"]) (n:=1) rfl,ai (jg (aa 1 rfl) T.bO.cl T.bG) (ai (ay 2 nd (dA (fs:=t.iK six rows wd l ls n) (aa 1 rfl) Au aB hr ⟨six,rows,wd,l,ls,n,rfl,rfl⟩))
   (vh (f:=t.oY six rows) rfl T.bO.cl T.bH ?_))⟩
 refine ll T.m8 rfl (iJ e1 (jh L (fun x=>Dt.str (sg x)) (fun x=>.tup [.str (sg x),t.nS six (Ln six rows 0 x)]) (fun x=>[.val (.str (sg x))]) (fun _=>true) rfl (dj Mx) (jk (dA (fs:=t.wt six rows) (aa 2 rfl) eQ aB hr ⟨six,rows,rfl,ok.ok,rfl⟩)) (dB (dj Mx) rfl) (fh (eI (ja h7)) (gJ L)) (fun a _=>e6) (.nil fun _ _=>rfl)
     (fun a ha _ C fp s' H' G'=>dy (ae (aa 0 rfl) (ae (bU WJ aB hr (ae (dA (fs:=t.wt six rows) (aa 1 rfl) Iv aB hr ⟨six,rows,rfl,rfl⟩) (ae (jw (lQ (ae (bE (fs:=t.wt six rows) (aa 1 rfl) PH aB hr (ae (aa 0 rfl) aj) ⟨six,rows,a,rfl,ok.ok,ha,rfl⟩) aj) AA3)) aj)) ⟨six,[mh rows a],rfl,fun d hd=>by
       have:d=mh rows a:=by simpa using hd
       rw[this];exact Iu ok.ok ha,by simp,rfl⟩) aj)) AA3) (qX (by omega)))) (by rw[Qd,pX];exact j8 ok.ok.nd) (by rw[Qd];show(List.map _ _).length<=_;rw[List.length_map,List.length_map];exact qX (by omega))
theorem Iy (T:Txt K mg t):MF P w K mg base CX 7 t.aC "deepen_to" 2 (Lp t):=by
 refine⟨T.bO.cl,_,_,_,i6 T.dv.F i9 rfl fun bA A outer s H E G ds r hr hl hR=>?_,T.cz,T.dv.b⟩
 obtain⟨six,rows,wd,l',ls',n',l,ls,n,age,rfl,ok,kR,rfl⟩:=hR
 have nY:=ok.ts
 have Lq:=ok.ok.ok
 have Au:=ym (P:=P) (w:=w) (base:=base) T
 have eQ:=jc (P:=P) (w:=w) (base:=base) T
 have uO:=uH (P:=P) (w:=w) (base:=base) T
 have BS:=uZ (P:=P) (w:=w) (base:=base) T
 have nd:=i9.nd
 have h6:=Lq.le
 let L:=rows.map (·.c)
 have hL:L.length<=6:=by show(rows.map (·.c)).length<=6;rw[List.length_map];exact h6
 have h7:∀ x∈L,x < 128:=fun x hx=>by
   obtain⟨r,hr,rfl⟩:=List.mem_map.mp hx
   have:=Lq.sm r hr
   unfold small at this;omega
 have hu:(A.deeper (envOfC "Drawing.deepen_to" (af bL) s.heap.objs.size t.a5 bA)).units+1 < cLine:=by have:=hr.units;omega
 have e1:ls.length=1:=by have:=congrArg List.length nY;simpa using this
 have e2:ls'.length=2:=by have:=congrArg List.length ok.gs;simpa [pY] using this
 let tl:List Slot:=[.val (.int ((age:Nat):Int)),.val (t.yA six rows),.aO,.aO,.aO]
 refine⟨_,nI (C:=t.aC) (fs:=t.yw six rows wd l' ls' n') (nm:=["tracks"]) (tl:=tl) (by rw[e1];exact Nat.le_refl 1),Ea (nm:=["tracks"]) (nm':=["tallies","lengths"]) (C:=t.aC) (C':=t.au) (l:=l) (l':=l') (ls:=ls) (ls':=ls') (n:=n) (n':=n') (fs':=t.yl six rows wd) (g:="growth") 0 (by decide) (by decide) (by omega) (fun AA=>?_) rfl⟩
 have hs:=PB (ls':=ls') (n':=n') AA t six rows wd
 have ht:pH l tl=true:=by
   have:pH l [.val (t.yA six rows),.aO,.aO,.aO]=true:=by
     unfold pH;rw[BG];rfl
   exact this
 refine ai (dl1:=yy t.aC (t.yw six rows wd l' ls' n') ["tracks"] l ls n tl) (ay 2 nd (dA (fs:=t.iK six rows wd l' ls' n') (aG (fs:=t.Ex six rows wd l' ls' n' l ls n) (aa 0 rfl) T.bO.cl T.bG rfl) Au aB hr ⟨six,rows,wd,l',ls',n',rfl,rfl⟩))
   (aq (v7 (age:=age) PassesOwn.leaving hs ht (by decide) (by omega) (fun N G hx=>?_) (fun N hN hNa G0 hA hB=>?_)))
 . exact di (pA (CC (N:=N) T.jB hx (aG (fs:=t.Ta six rows wd l' ls' n' l ls n) (aa 0 rfl) T.bO.cl T.bH rfl) (by rw[e1];rfl)) (aa 1 rfl)) (decide_eq_decide.mpr (by omega))
 . let Dk:Nat->Dt:=fun c=>t.nS six (Ln six rows N c)
   let O:Dt:=.obj t.aC (t.Ta six rows wd l' ls' n' l ls n)
   let S:Nat->List Slot:=fun k=>[.val O,.val (.int ((age:Nat):Int)),.val (t.yA six rows),.val (.dW (mD (t.oY six rows (N - 1)))),.own (.d0 (kd (L.take k) Dk)),.aO]
   have eS:S L.length=[.val O,.val (.int ((age:Nat):Int)),.val (t.yA six rows),.val (.dW (mD (t.oY six rows (N - 1)))),.own (.d0 (mD (t.oY six rows N))),.aO]:=by
     show [_,_,_,_,Slot.own (.d0 (kd (L.take L.length) Dk)),_]=_
     rw[List.take_length,Qd t six rows N]
   refine ai (ay 3 nd (zH (f:=t.oY six rows) (N:=N) ak (aG (fs:=t.Ta six rows wd l' ls' n' l ls n) (aa 0 rfl) T.bO.cl T.bH rfl) (iz ao) (by rw[nY];rfl) (by rw[e1];rfl) hN)) (ai (jD 4 nd Cw)
     (ai (dl1:=S L.length) (pE (o:=.nx (S L.length)) (m:=L.length) L (fun x=>Dt.str (sg x)) (fun x dl=>dl.set 5 (.val (.str (sg x)))) S rfl PassesOwn.leaving (jk (dA (fs:=t.wt six rows) (aa 2 rfl) eQ aB hr ⟨six,rows,rfl,Lq,rfl⟩)) (fh (eI (ja h7)) (gJ L)) (bD nd rfl (.inl rfl)) (fun a _=>xm) (Le.of ⟨rfl,rfl,rfl,rfl,rfl,trivial⟩) (Nat.le_refl _) (fun k a hk ha=>?_) (.all rfl)) ?_))
   . rw[List.getElem?_eq_getElem hk] at ha
     cases ha
     have hm:L[k]∈L:=List.getElem_mem hk
     obtain⟨q,hq,hc,_,ew⟩:=jb hm
     have Ww:=Lq.wp q hq
     have SJ:∀ y∈wordOf rows L[k],y∈L:=fun y hy=>Lq.wo q hq y (by rw[ew] at hy;exact hy)
     have Nu:(wordOf rows L[k]).length<=8:=by rw[ew];exact Ww.2
     have RD:(kd (L.take k) Dk).length < sizeLine:=by
       unfold kd
       rw[List.length_map,List.length_take];exact Nat.lt_of_lt_of_le (show min k L.length < 2000 by omega) (by decide)
     let xs:List (List Str):=(wordOf rows L[k]).map fun y=>yv rows (gP rows (N - 1) y)
     have e3:(((wordOf rows L[k]).filter fun _=>true).map fun y=>t.nS six (Ln six rows (N - 1) y))=xs.map fun x=>t.nS six (bJ six x):=by
       rw[List.filter_eq_self.mpr (fun _ _=>rfl),List.map_map];rfl
     have Te:xs.flatten=yv rows (gP rows N L[k]):=by
       obtain⟨M,rfl⟩:∃ M,N=M+1:=⟨N - 1,by omega⟩
       show((wordOf rows L[k]).map fun y=>yv rows (gP rows M y)).flatten=((wordOf rows L[k]).flatMap (gP rows M)).map (mh rows)
       rw[List.map_flatMap,List.flatMap_def];rfl
     have ed:Dk L[k]=t.nS six (bJ six xs.flatten):=by rw[Te];rfl
     have hb:xs.flatten.length < 2 ^ 990:=by
       rw[Te];unfold yv;rw[List.length_map];exact WH Lq hm (by omega)
     refine .nx (aq (Cy (kds:=kd (L.take k) Dk) (d:=Dk L[k]) 4 hu (by rw[ed];exact bE (fs:=t.Ta six rows wd l' ls' n' l ls n) (aa 0 rfl) BS aB hr (ae (iJ e3 (jh (wordOf rows L[k]) (fun x=>Dt.str (sg x)) (fun y=>t.nS six (Ln six rows (N - 1) y)) (fun x=>[.val (.str (sg x))]) (fun _=>true) rfl (dj My) (jk (bE (fs:=t.wt six rows) (aa 2 rfl) uO aB hr (ae (aa 5 rfl) aj) ⟨six,rows,L[k],rfl,Lq,hm,rfl⟩)) (dB (dj My) rfl) (fh (eI (sH Lq SJ)) (gJ _)) (fun a _=>e6) (.nil fun _ _=>rfl)
       (fun y hy _ C fp s' H' G'=>ke hu (aa 1 rfl) (aa 0 rfl) (by rw[Qd];exact kO (SJ y hy)) (fun _ _=>rfl)) (qX (by omega)))) aj) ⟨six,rows,wd,l',ls',n',_,xs,rfl,hb,rfl⟩) (aa 5 rfl) RD)) (Le.of ⟨rfl,rfl,rfl,rfl,?_,trivial⟩)
     show Slot.own (.d0 (kd (L.take (k+1)) Dk))=Slot.own (.d0 (tW (kd (L.take k) Dk) (.inr (sg L[k])) (Dk L[k])))
     rw[Hy Lq.nd hk]
   . rw[eS]
     exact Cd (dl1:=.val (.obj t.aC (t.Ta six rows wd l' ls' n' l ls n))::tl.set 3 (.own (.d0 (mD (t.oY six rows N))))) (zN (f:=t.oY six rows) (tl:=tl) 3 hs ht rfl nY (by omega) T.bO.cl T.bH hA hB) (Le.of ⟨rfl,rfl,rfl,rfl,trivial⟩)
theorem BU (T:Txt K mg t):MF P w K mg base CX 9 t.aC "stretch" 4 (wF t):=by
 refine⟨T.bO.cl,_,_,_,i6 T.fg.F oT rfl fun bA A outer s H E G ds r hr hl hR=>?_,T.cO,T.fg.b⟩
 obtain⟨six,rows,wd,l',ls',n',l,ls,n,age,b,e,rfl,ok,kR,⟨rP,Lj⟩,rfl⟩:=hR
 have WK:=S5 (P:=P) (w:=w) (base:=base) T
 have BI:=Iy (P:=P) (w:=w) (base:=base) T
 have BS:=uZ (P:=P) (w:=w) (base:=base) T
 have Iz:=Ew (P:=P) (w:=w) (base:=base) T
 have hu:(A.deeper (envOfC "Drawing.stretch" (af ck) s.heap.objs.size t.bF bA)).units+1 < cLine:=by have:=hr.units;omega
 obtain⟨k,bt,⟨WI,Uh⟩,hbt,Xg,hb4,hmt⟩:=PD ok.ok kR rP Lj
 let xs:List (List Str):=bt.map fun p=>yv rows (gP rows p.1 p.2)
 have e3:((bt.filter fun _=>true).map fun p=>t.nS six (Ln six rows p.1 p.2))=xs.map fun x=>t.nS six (bJ six x):=by
   rw[List.filter_eq_self.mpr (fun _ _=>rfl),List.map_map];rfl
 have Te:xs.flatten=yv rows (cut (uW rows wd age) b e):=by
   rw[<- Xg]
   show(bt.map fun p=>yv rows (gP rows p.1 p.2)).flatten=(bt.flatMap fun p=>gP rows p.1 p.2).map (mh rows)
   rw[List.map_flatMap,List.flatMap_def];rfl
 have hb:xs.flatten.length < 2 ^ 990:=by
   rw[Te];unfold yv cut
   rw[List.length_map,List.length_drop,List.length_take]
   have:=Mw ok.ok kR
   omega
 rw[<- Te]
 refine⟨_,.rt _,ai (Eb (m:=age+1) (tl:=[.val (.int ((age:Nat):Int)),.val (.int (b:Int)),.val (.int (e:Int))]) (bE (fs:=t.iK six rows wd l' ls' n') (aG (fs:=t.Ex six rows wd l' ls' n' l ls n) (aa 0 rfl) T.bO.cl T.bG rfl) WK aB hr (ae (aa 1 rfl) (ae (aa 2 rfl) (ae (aa 3 rfl) aj))) ⟨six,rows,wd,l',ls',n',age,b,e,rfl,ok.ok,ok.gs,kR,⟨rP,Lj⟩,rfl⟩))
   (ai (pI (m:=age+1) (fs:=t.yw six rows wd l' ls' (age+1)) (nm:=["tracks"]) (tl:=[.val (.int ((age:Nat):Int)),.val (.int (b:Int)),.val (.int (e:Int))]) (bE (fs:=t.Ex six rows wd l' ls' (age+1) l ls n) (aa 0 rfl) BI aB hr (ae (aa 1 rfl) aj) ⟨six,rows,wd,l',ls',_,l,ls,n,age,rfl,ok,kR,rfl⟩))
   (aq (aI (bE (fs:=t.Ex six rows wd l' ls' (age+1) l ls (age+1)) (aa 0 rfl) BS aB hr (ae (iJ e3 (jh bt rN (fun p=>t.nS six (Ln six rows p.1 p.2)) (fun p=>[.val (.int ((p.1:Nat):Int)),.val (.str (sg p.2))]) (fun _=>true) rfl (dj Mz) (kC (jw (FL (tT (fs:=t.iK six rows wd l' ls' (age+1)) (aG (fs:=t.Ex six rows wd l' ls' (age+1) l ls (age+1)) (aa 0 rfl) T.bO.cl T.bG rfl) (NQ Iz) aB hr (ae (aa 1 rfl) (ae (aa 2 rfl) (ae (aa 3 rfl) aj))) ⟨six,rows,wd,l',ls',age+1,age,b,e,k,rfl,⟨ok.ok,ok.gs,by omega,by omega,kR⟩,⟨rP,Lj⟩,⟨WI,Uh⟩,rfl⟩) (by rw[hbt])))) (F3 rfl (dj Mz) rfl) lh (fun a _=>JS) (.nil fun _ _=>rfl)
     (fun p hp _ C fp s' H' G'=>?_) (Nat.le_trans hb4 (by decide)))) aj) ⟨six,rows,wd,l',ls',age+1,_,xs,rfl,hb,rfl⟩))))⟩
 obtain⟨m1,m2⟩:=hmt p hp
 exact ke hu (Bh (n:=age+1) (j:=0) (f:=t.oY six rows) (aG (fs:=t.Ex six rows wd l' ls' (age+1) l ls (age+1)) (aa 2 rfl) T.bO.cl T.bH rfl) (aa 0 rfl) (by rw[ok.ts];rfl) (by omega) (by omega)) (aa 1 rfl) (by rw[Qd];exact kO m1) (fun _ _=>rfl)
def vJ (ns:List Int)(k:Nat):Int:=(bo ns k % 10 ^ 59 * 10 ^ 59+bo ns (k+1) % 10 ^ 59) * 10 ^ 59+bo ns (k+2) % 10 ^ 59
def Tf:Rl:=fun ds r=>∃ (ns:List Int) (k:Nat),ds=[.nv ns,.int k]/\k<=90/\r=.ret (.int (vJ ns k))
theorem PJ (T:Txt K mg t):GF P w K mg base CX 2 "_law_big" 2 Tf:=by
 refine⟨_,_,_,i6 T.wg.F GV rfl fun bA A outer s H E G ds r hr hl hR=>?_,(T.g T.wg.a),T.wg.F.kp,T.wg.b⟩
 obtain⟨ns,k,rfl,hk,rfl⟩:=hR
 have gR:=uP (P:=P) (w:=w) (base:=base) T
 have nd:=GV.nd
 have cl:∀ (j:Nat),j<=100->sQ [.nv ns,.int j] (.ret (.int (bo ns j))):=fun j hj=>⟨ns,j,rfl,hj,rfl⟩
 have fb:∀ z:Int,0<=z % 10 ^ 59/\z % 10 ^ 59 < 10 ^ 59:=fun z=>⟨Int.emod_nonneg _ (by decide),Int.emod_lt_of_pos _ (by decide)⟩
 have f59:(10 ^ 59:Int) < 2 ^ 200:=by decide
 have aa4:(10 ^ 59 * 10 ^ 59:Int) < 2 ^ 400:=by decide
 have h1:=fb (bo ns k)
 have h2:=fb (bo ns (k+1))
 exact⟨_,.rt _,ai (ay 2 nd (d:=.int (10 ^ 59)) (Fu ao ao ⟨by decide,by decide,by decide⟩))
   (ai (ay 3 nd (aL (fS (cf (bU gR aB hr (ae (aa 0 rfl) (ae (aa 1 rfl) aj)) (cl k (by omega))) (aa 2 rfl) (by decide)) (aa 2 rfl) (CV (m:=200) (n:=200) (by omega) (by decide) (by decide))) (cf (bU gR aB hr (ae (aa 0 rfl) (ae (aU (aL (aa 1 rfl) ao) (congrArg Dt.int (show(k:Int)+1=((k+1:Nat):Int) by omega))) aj)) (cl (k+1) (by omega))) (aa 2 rfl) (by decide))))
   (aq (aI (aL (fS (aa 3 rfl) (aa 2 rfl) (CV (m:=401) (n:=200) (by omega) (by decide) (by decide))) (cf (bU gR aB hr (ae (aa 0 rfl) (ae (aU (aL (aa 1 rfl) ao) (congrArg Dt.int (show(k:Int)+2=((k+2:Nat):Int) by omega))) aj)) (cl (k+2) (by omega))) (aa 2 rfl) (by decide))))))⟩
section
variable {X:Cx}{G:Gr}{dl:List Slot}{a b c:Expr}{d1 d2 d3:Dt}{pos:Pos}{u v:Bool}{i j k:Int}
theorem IA {op AH:CmpOp}{r r':R2}(ho:mI X (compareOp op) r)(AB:mI X (compareOp AH) r')(h1:AZ X.K r d1 d2 (.bl u))(h2:AZ X.K r' d2 d3 (.bl v))(ha:EE X G dl a d1)(hb:EE X G dl b d2)(hc:EE X G dl c d3)(hm:lastMarks [op,AH] [b,c]=false:=by with_unfolding_all rfl):EB X G dl (.Compare a [op,AH] [b,c] pos) (u && v):=
 Q2 (Fb ho AB ha hb hc hm) fun st H Q ⟨Hf,S,k⟩=>⟨Hf,S,fun x av H1 g1 r1=>⟨av,S.grow g1,fun y bW H2 g2 r2=>h1 x y bW H2 _ g2.sub (r1.mono g2.bh) r2 fun z iu H3 g3 r3=>by
   cases r3
   refine⟨u,rfl,?_⟩
   cases u with
   | false=>exact wW ⟨false,rfl,k iu H3 ((g1.trans g2).trans g3)⟩
   | true=>exact wX ⟨iu,((S.grow g1).grow g2).grow g3,fun w EJ H4 g4 r4=>h2 y w EJ H4 _ g4.sub (r2.mono (g3.bh.trans g4.bh)) r4 fun q r0 H5 g5 r5=>by cases r5;exact⟨v,rfl,k r0 H5 ((((g1.trans g2).trans g3).trans g4).trans g5)⟩⟩⟩⟩
theorem IB (ha:EE X G dl a (.int i))(hb:EE X G dl b (.int j))(hc:EE X G dl c (.int k))(hm:lastMarks [.LtE,.LtE] [b,c]=false:=by with_unfolding_all rfl):EB X G dl (.Compare a [.LtE,.LtE] [b,c] pos) (decide (i<=j) && decide (j<=k)):=
 IA yO yO (og (g':=fun i j=>.bl (decide (i<=j))) fun _ _ _ _=>.bl _) (og (g':=fun i j=>.bl (decide (i<=j))) fun _ _ _ _=>.bl _) ha hb hc hm
end
def Ui (six:Bool)(p:Int×Int):List Dt:=if six then [.int (2 * p.1+p.2),.int (p.1+2 * p.2),.int (p.2 - p.1),.int (-2 * p.1 - p.2),.int (-p.1 - 2 * p.2),.int (p.1 - p.2)] else [.int p.1,.int p.2,.int (-p.1),.int (-p.2)]
theorem IC (six:Bool)(p:Int×Int){z:Int}(h0:0<=z)(h1:z < wy six):lK (Ui six p) z=some (.int (jt six z p)):=by
 cases six with
 | false=>exact Sr p h0 h1
 | true=>exact Ss p h0 h1
def ID:Rl:=fun ds r=>∃ six p,ds=[.int (wy six),sp p]/\r=.own (.lst (Ui six p))
theorem Ez (T:Txt K mg t):GF P w K mg base CX 1 "_law_along" 2 ID:=by
 refine⟨_,_,_,i6 T.nQ.F zU rfl fun bA A outer s H E G ds r hr hl hR=>?_,(T.g T.nQ.a),T.nQ.F.kp,T.nQ.b⟩
 obtain⟨six,p,rfl,rfl⟩:=hR
 have nd:=zU.nd
 cases six with
 | false=>
   exact⟨_,.ro _,ai (Cs 2 3 nd rfl (aa 1 rfl)) (pk (cj (u:=true) (di (lO (aa 0 rfl) ao) (decide_eq_true rfl)) (fun h=>aq (kH (lQ (ae (aa 2 rfl) (ae (aa 3 rfl) (ae (iz (aa 2 rfl)) (ae (iz (aa 3 rfl)) aj)))) AA3))) (fun h=>nomatch h)))⟩
 | true=>
   exact⟨_,.ro _,ai (Cs 2 3 nd rfl (aa 1 rfl)) (ai (cj (u:=false) (di (lO (aa 0 rfl) ao) (decide_eq_false (by decide))) (fun h=>nomatch h) (fun h=>cg))
     (aq (kH (lQ (ae (aL (fS ao (aa 2 rfl) (o3.ok (Or.inl ⟨by decide,by decide⟩))) (aa 3 rfl)) (ae (aL (aa 2 rfl) (fS ao (aa 3 rfl) (o3.ok (Or.inl ⟨by decide,by decide⟩)))) (ae (d6 (aa 3 rfl) (aa 2 rfl)) (ae (d6 (fS (iz ao) (aa 2 rfl) (o3.ok (Or.inl ⟨by decide,by decide⟩))) (aa 3 rfl)) (ae (d6 (iz (aa 2 rfl)) (fS ao (aa 3 rfl) (o3.ok (Or.inl ⟨by decide,by decide⟩)))) (ae (d6 (aa 2 rfl) (aa 3 rfl)) aj)))))) AA3))))⟩
theorem De (six:Bool)(xs:List Str)(w:Int):∀ n,∃ r,∃ tn:Nat,rec six xs w (n+1)=(r,(tn:Int))/\tn<=n/\jt six w (k6 six xs tn)=r/\(∀ k,k<=n->jt six w (k6 six xs k)<=r)/\∀ k,k < tn->jt six w (k6 six xs k) < r
 | 0=>by
   have e:jt six w (k6 six xs 0)=0:=uY six w
   refine⟨0,0,?_,Nat.le_refl _,e,fun k hk=>?_,fun k hk=>absurd hk (Nat.not_lt_zero _)⟩
   . rw[rec,e,rec];rfl
   . have:k=0:=by omega
     subst this;omega
 | n+1=>by
   obtain⟨r,tn,e,h1,h2,h3,h4⟩:=De six xs w n
   rw[rec,e]
   by_cases c:r < jt six w (k6 six xs (n+1))
   . refine⟨_,n+1,if_pos c,Nat.le_refl _,rfl,fun k hk=>?_,fun k hk=>?_⟩
     . by_cases z:k=n+1
       . subst z;exact Int.le_refl _
       . have:=h3 k (by omega);omega
     . have:=h3 k (by omega);omega
   . refine⟨r,tn,if_neg c,by omega,h2,fun k hk=>?_,h4⟩
     by_cases z:k=n+1
     . subst z;omega
     . exact h3 k (by omega)
theorem IE {W:List Nat}{b e k:Nat}(h:b+k<=e):cut W b (b+k)=(cut W b e).take k:=by
 unfold cut
 rw[List.take_drop,List.take_take,Nat.min_eq_left h]
theorem IF (six:Bool)(rows:List Row){W:List Nat}{b e k:Nat}(h:b+k<=e):(bJ six (yv rows (cut W b (b+k)))).shift=k6 six (yv rows (cut W b e)) k:=by
 unfold k6 yv
 rw[IE h,List.map_take]
theorem Lr {W:List Nat}{b e:Nat}(h:b<=e)(he:e<=W.length):(cut W b e).length=e - b:=by
 unfold cut;rw[List.length_drop,List.length_take];omega
theorem Tg (six:Bool)(p:Int×Int):tn six ((0:Int) % wy six).toNat p=p:=by cases six <;> rfl
theorem MA (six:Bool)(ns:List Int){w:Nat}(h:w < wn six):(mi six ns 0).getD w 0=ns.getD w 0:=by
 rw[uX six ns 0 h]
 have e:=qY six
 rw[Int.sub_zero,Int.emod_eq_of_lt (by omega) (by omega),Int.toNat_natCast]
theorem sS (six:Bool)(ns:List Int)(f:Int):(mi six ns f).length=wn six:=by unfold mi;simp
theorem MB (six:Bool)(ns:List Int){w:Nat}(h:w < wn six)(f:Int):∃ v:Nat,((w:Int)+f) % wy six=(v:Int)/\v < wn six/\(mi six ns f).getD v 0=ns.getD w 0:=by
 have e:=qY six
 have p:=iq six
 have h1:=Int.emod_nonneg ((w:Int)+f) (Int.ne_of_gt p)
 have h2:=Int.emod_lt_of_pos ((w:Int)+f) p
 refine⟨(((w:Int)+f) % wy six).toNat,by omega,by omega,?_⟩
 rw[uX six ns f (by omega)]
 have e2:((((((w:Int)+f) % wy six).toNat:Nat):Int) - f) % wy six=(w:Int):=by
   rw[Int.toNat_of_nonneg h1,Int.emod_sub_emod,Int.add_sub_cancel,Int.emod_eq_of_lt (by omega) (by omega)]
 rw[e2,Int.toNat_natCast]
theorem PK (T:Txt K mg t):i3 P w K mg base CX 12 t.pP t.uq ["_law_script"] (HJ K):=by
 refine i6 T.zX.F GW rfl fun bA A outer s H E G ds r hr hl hR=>?_
 obtain⟨ns,hlen,rfl,rfl⟩:=hR
 have gR:=uP (P:=P) (w:=w) (base:=base) T
 have Df:=HL (P:=P) (w:=w) (base:=base) T
 have IG:=PJ (P:=P) (w:=w) (base:=base) T
 have Lu:=HS (P:=P) (w:=w) (base:=base) T
 have Dg:=Ez (P:=P) (w:=w) (base:=base) T
 have Lv:=He (P:=P) (w:=w) (base:=base) T
 have PL:=HE (P:=P) (w:=w) (base:=base) T
 have WL:=Iw (P:=P) (w:=w) (base:=base) T
 have Dd:=C3 (P:=P) (w:=w) (base:=base) T
 have Lw:=BU (P:=P) (w:=w) (base:=base) T
 have sN:=Ej (P:=P) (w:=w) (base:=base) T
 have IH:=Ek (P:=P) (w:=w) (base:=base) T
 have II:=El (P:=P) (w:=w) (base:=base) T
 have yg:=Ab (P:=P) (w:=w) (base:=base) T
 have yh:=Ac (P:=P) (w:=w) (base:=base) T
 have nd:=GW.nd
 let six:=C6 ns
 let rows:=uT ns
 let wd:=sR ns
 have IZ:mH rows wd:=SR ns
 have ok:bR rows:=IZ.ok
 have hb:=Lf ns (far:=16) (by decide) (by decide)
 obtain⟨age,kR⟩:∃ age:Nat,oC ns 16=((age:Nat):Int):=⟨(oC ns 16).toNat,by omega⟩
 have LZ:age<=200:=by omega
 obtain⟨yo,hyo,WM⟩:∃ yo:Nat,(if ((age:Nat):Int) - 1 > 0 then ((age:Nat):Int) - 1 else 0)=((yo:Nat):Int)/\yo<=age:=by
   split
   . exact⟨age - 1,by omega,by omega⟩
   . exact⟨0,rfl,by omega⟩
 obtain⟨Ja,WN⟩:∃ c,c=bo ns 15:=⟨_,rfl⟩
 obtain⟨ag,hag,WO⟩:∃ ag:Nat,lK [Dt.int ((age:Nat):Int),.int ((yo:Nat):Int)] (Ja / 101 % 2)=some (.int ((ag:Nat):Int))/\ag<=age:=by
   have:Ja / 101 % 2=0\/Ja / 101 % 2=1:=by omega
   rcases this with h | h <;> rw[h]
   . exact⟨age,rfl,Nat.le_refl _⟩
   . exact⟨yo,rfl,WM⟩
 obtain⟨W,hW⟩:∃ W:List Nat,W=uW rows wd age:=⟨_,rfl⟩
 obtain⟨sz,hsz⟩:∃ sz:Nat,sz=(uW rows wd ag).length:=⟨_,rfl⟩
 have esz:((sz:Nat):Int)=Wy rows wd ag:=by rw[hsz];exact yq IZ ag
 have hsW:sz<=W.length:=by rw[hsz,hW];exact Px ok IZ.wm WO
 have md:∀ z:Int,∃ p:Nat,z % (((sz:Nat):Int)+1)=((p:Nat):Int)/\p<=sz:=fun z=>by
   have a:=Int.emod_nonneg z (show((sz:Nat):Int)+1≠0 by omega)
   have b:=Int.emod_lt_of_pos z (show(0:Int) < ((sz:Nat):Int)+1 by omega)
   generalize z % (((sz:Nat):Int)+1)=y at a b
   exact⟨y.toNat,by omega,by omega⟩
 obtain⟨p1,R1,WQ⟩:=md (vJ ns 9)
 obtain⟨p2,u7,WR⟩:=md (vJ ns 12)
 obtain⟨b,e,Th,rP,hes⟩:∃ b e:Nat,[((b:Nat):Int),((e:Nat):Int)].Perm [((p1:Nat):Int),((p2:Nat):Int)]/\b<=e/\e<=sz:=by
   by_cases h:p1<=p2
   . exact⟨p1,p2,.refl _,h,WR⟩
   . exact⟨p2,p1,.swap _ _ _,by omega,WQ⟩
 have Uj:e<=W.length:=by omega
 have Ti:=iq six
 have ewn:=qY six
 obtain⟨wa,hwa,IJ⟩:∃ wa:Nat,Ja % wy six=((wa:Nat):Int)/\wa < wn six:=by
   have h1:=Int.emod_nonneg Ja (Int.ne_of_gt Ti)
   have h2:=Int.emod_lt_of_pos Ja Ti
   exact⟨(Ja % wy six).toNat,by omega,by omega⟩
 have Tj:((wa:Nat):Int) < wy six:=by omega
 obtain⟨xs,Ky⟩:∃ xs:List Str,xs=yv rows (cut W b e):=⟨_,rfl⟩
 have DM:xs.length=e - b:=by rw[Ky];unfold yv;rw[List.length_map];exact Lr rP Uj
 have wf:WF six (bJ six xs):=sP six (by
   have:=Mw IZ LZ
   rw[<- hW] at this
   rw[DM];omega)
 obtain⟨R,tt,WS,Yo,hR1,hR2,hR3⟩:=De six xs ((wa:Nat):Int) (e - b)
 have P8:=(yu six IJ (e - b) xs DM).1
 rw[WS] at P8
 obtain⟨Yp,Yq⟩:=Prod.mk.inj P8
 have Tn:∀ k:Nat,k<=e - b->(bJ six (yv rows (cut W b (b+k)))).shift=k6 six xs k:=fun k hk=>by
   rw[Ky];exact IF six rows (by omega)
 have e0R:lK ((mi six (bJ six xs).reach 0).map Dt.int) ((wa:Nat):Int)=some (.int R):=by
   rw[sL (by omega) (by rw[sS];omega),Int.toNat_natCast,MA six _ IJ,Yp]
 have e0T:lK ((mi six (bJ six xs).bI 0).map Dt.int) ((wa:Nat):Int)=some (.int ((tt:Nat):Int)):=by
   rw[sL (by omega) (by rw[sS];omega),Int.toNat_natCast,MA six _ IJ,Yq]
 obtain⟨fi,hfi⟩:∃ fi,fi=(Ja / 6 % 13 - 6) % wy six:=⟨_,rfl⟩
 obtain⟨v,hv,hvn,Vk⟩:=MB six (bJ six xs).reach IJ fi
 have hvt:(mi six (bJ six xs).bI fi).getD v 0=(bJ six xs).bI.getD wa 0:=by
   obtain⟨v',h1,h2,h3⟩:=MB six (bJ six xs).bI IJ fi
   have:v=v':=by omega
   rw[this];exact h3
 have eFR:lK ((mi six (bJ six xs).reach fi).map Dt.int) ((v:Nat):Int)=some (.int R):=by
   rw[sL (by omega) (by rw[sS];omega),Int.toNat_natCast,Vk,Yp]
 have eFT:lK ((mi six (bJ six xs).bI fi).map Dt.int) ((v:Nat):Int)=some (.int ((tt:Nat):Int)):=by
   rw[sL (by omega) (by rw[sS];omega),Int.toNat_natCast,hvt,Yq]
 have mdE:∀ z:Int,∃ p:Nat,z % (((e:Nat):Int) - ((b:Nat):Int)+1)=((p:Nat):Int)/\p<=e - b:=fun z=>by
   have a:=Int.emod_nonneg z (show((e:Nat):Int) - ((b:Nat):Int)+1≠0 by omega)
   have b:=Int.emod_lt_of_pos z (show(0:Int) < ((e:Nat):Int) - ((b:Nat):Int)+1 by omega)
   generalize z % (((e:Nat):Int) - _+1)=y at a b
   exact⟨y.toNat,by omega,by omega⟩
 obtain⟨pl,mC⟩:∃ pl:Nat->Nat,∀ k,vJ ns (16+k) % (((e:Nat):Int) - ((b:Nat):Int)+1)=((pl k:Nat):Int)/\pl k<=e - b:=by
   refine⟨fun k=>(vJ ns (16+k) % (((e:Nat):Int) - ((b:Nat):Int)+1)).toNat,fun k=>?_⟩
   obtain⟨p,h1,h2⟩:=mdE (vJ ns (16+k))
   have h3:(vJ ns (16+k) % (((e:Nat):Int) - ((b:Nat):Int)+1)).toNat=p:=by rw[h1];exact Int.toNat_natCast p
   show vJ ns (16+k) % (((e:Nat):Int) - ((b:Nat):Int)+1)=(((vJ ns (16+k) % (((e:Nat):Int) - ((b:Nat):Int)+1)).toNat:Nat):Int)/\(vJ ns (16+k) % (((e:Nat):Int) - ((b:Nat):Int)+1)).toNat<=e - b
   rw[h3];exact⟨h1,h2⟩
 obtain⟨tm,htm,abl⟩:∃ tm:Nat,(if ((tt:Nat):Int) - 1 > 0 then ((tt:Nat):Int) - 1 else 0)=((tm:Nat):Int)/\tm<=e - b:=by
   split
   . exact⟨tt - 1,by omega,by omega⟩
   . exact⟨0,rfl,by omega⟩
 obtain⟨nn,WB,Na⟩:∃ nn:Nat,(if (if ((ns.length:Nat):Int) - 16 < 4 then ((ns.length:Nat):Int) - 16 else 4) > 0 then (if ((ns.length:Nat):Int) - 16 < 4 then ((ns.length:Nat):Int) - 16 else 4) else 0)=((nn:Nat):Int)/\nn<=4:=by
   generalize ((ns.length:Nat):Int) - 16=z
   by_cases h1:z < 4
   . rw[if_pos h1]
     by_cases h2:z > 0
     . rw[if_pos h2];exact⟨z.toNat,by omega,by omega⟩
     . rw[if_neg h2];exact⟨0,rfl,by omega⟩
   . rw[if_neg h1,if_pos (by decide)];exact⟨4,rfl,by omega⟩
 let nD:Nat->Dt:=fun a=>.int ((a:Nat):Int)
 let L3:List Nat:=[tm,0,e - b]
 let AK:Nat->List Nat:=fun k=>L3 ++ (List.range k).map pl
 let as:List Nat:=if age < 25 then AK nn else [tm]
 have has:∀ a∈as,a<=e - b:=by
   intro a h
   show a<=e - b
   by_cases c:age < 25
   . have h:a∈AK nn:=by have e:as=AK nn:=if_pos c;rw[<- e];exact h
     rcases List.mem_append.mp h with h | h
     . have:a=tm\/a=0\/a=e - b:=by simpa [L3] using h
       omega
     . obtain⟨k,_,rfl⟩:=List.mem_map.mp h
       exact(mC k).2
   . have h:a∈[tm]:=by have e:as=[tm]:=if_neg c;rw[<- e];exact h
     have:a=tm:=by simpa using h
     omega
 have cl:sQ [.nv ns,.int ((15:Nat):Int)] (.ret (.int Ja)):=⟨ns,15,rfl,by decide,by rw[WN]⟩
 refine⟨_,.rt _,?_⟩
 refine ai (Kf 1 2 3 4 nd rfl (aU (bU Lu aB hr (ae (aa 0 rfl) (ae ao aj)) ⟨ns,16,rfl,⟨by decide,by decide⟩,rfl⟩) (by rw[kR]))) ?_
 refine ai (ay 5 nd (d:=t.Wv six rows wd 1) (JK (zr PL aB hr (ae (Rg (rY Lv aB hr (ae (aa 1 rfl) (ae (jw (JM T.x5 (aa 2 rfl))) aj)) ⟨six,rows,rfl,ok,rfl⟩)) (ae (aa 3 rfl) aj)) ⟨six,rows,wd,rfl,IZ,rfl⟩))) ?_
 refine zJ 5 fun l' ls' nY=>?_
 refine ai (ay 6 nd (d:=.u9 t.aC (t.yw six rows wd l' ls' 1) [t.oY six rows] ["tracks"] 1) (JK (zr WL aB hr (ae (aa 5 rfl) aj) ⟨six,rows,wd,l',ls',1,rfl,IZ,rfl⟩))) ?_
 refine zJ 6 fun l ls Yl=>?_
 have WT:PF t six rows wd ls' ls:=⟨IZ,nY,Yl⟩
 let gE:Dt:=BQ t six rows wd l' ls' 1
 let dE:Dt:=.obj t.aC (t.Ex six rows wd l' ls' 1 l ls 1)
 let D:Slot->Slot->Slot->Slot->Slot->Slot->Slot->Slot->List Slot:=fun a7 a8 a9 a10 a11 a12 a13 a14=>[.val (.nv ns),.val (.int (wy six)),.val (.lst (rows.map pS)),.val (.str (tx wd)),.val (nD age),.val gE,.val dE,a7,a8,a9,a10,a11,a12,a13,a14,.aO,.aO,.aO,.aO,.aO,.aO]
 have Yr:∀ k:Nat,k<=e - b->wF t [dE,nD age,nD b,nD (b+k)] (.ret (t.nS six (bJ six (yv rows (cut W b (b+k)))))):=fun k hk=>by
   rw[hW] at Uj ⊢
   exact⟨six,rows,wd,l',ls',1,l,ls,1,age,b,b+k,rfl,WT,LZ,⟨by omega,by omega⟩,rfl⟩
 show lM _ _ _ (D .aO .aO .aO .aO .aO .aO .aO .aO) _ _
 refine ai (dl1:=D (.val (nD yo)) .aO .aO .aO .aO .aO .aO .aO) (ay 7 nd (aU (xj T.wj rfl (ae ao (ae (d6 (aa 4 rfl) ao) aj))) (congrArg Dt.int hyo))) ?_
 refine ai (dl1:=D (.val (nD yo)) (.val (nD sz)) .aO .aO .aO .aO .aO .aO) (ay 8 nd (bE (fs:=t.iK six rows wd l' ls' 1) (aa 5 rfl) Dd aB hr (ae (oG (ds:=[nD age,nD yo]) (jw (lQ (ae (aa 4 rfl) (ae (aa 7 rfl) aj)) AA3)) (cf (fE (bU gR aB hr (ae (aa 0 rfl) (ae ao aj)) cl) ao (by decide)) ao (by decide)) hag) aj) ⟨six,rows,wd,l',ls',1,ag,rfl,IZ,nY,by omega,by show Res.ret (.int ((sz:Nat):Int))=_;rw[esz]⟩)) ?_
 refine ai (dl1:=D (.val (nD yo)) (.val (nD sz)) (.val (nD b)) (.val (nD e)) .aO .aO .aO .aO) (GL 9 10 nd rfl (jw (D9 (ns:=[((p1:Nat):Int),((p2:Nat):Int)]) (ns':=[((b:Nat):Int),((e:Nat):Int)]) T.uB (jw (lQ (ae (aU (cf (bU IG aB hr (ae (aa 0 rfl) (ae ao aj)) ⟨ns,9,rfl,by decide,rfl⟩) (aL (aa 8 rfl) ao) (by omega)) (congrArg Dt.int R1)) (ae (aU (cf (bU IG aB hr (ae (aa 0 rfl) (ae ao aj)) ⟨ns,12,rfl,by decide,rfl⟩) (aL (aa 8 rfl) ao) (by omega)) (congrArg Dt.int u7)) aj)) AA3)) (show 2 < 64 by decide) Th (by simpa using rP)))) ?_
 refine ai (dl1:=D (.val (nD yo)) (.val (nD sz)) (.val (nD b)) (.val (nD e)) (.val (nD wa)) .aO .aO .aO) (ay 11 nd (aU (cf (bU gR aB hr (ae (aa 0 rfl) (ae ao aj)) cl) (aa 1 rfl) Ti) (congrArg Dt.int hwa))) ?_
 refine ai (dl1:=D (.val (nD yo)) (.val (nD sz)) (.val (nD b)) (.val (nD e)) (.val (nD wa)) .aO .aO .aO) (cj (pA (aa 10 rfl) (bE (fs:=t.iK six rows wd l' ls' 1) (aa 5 rfl) Dd aB hr (ae (aa 7 rfl) aj) ⟨six,rows,wd,l',ls',1,yo,rfl,IZ,nY,by omega,rfl⟩)) (fun h=>?_) (fun h=>cg)) ?_
 . have h:=of_decide_eq_true h
   rw[<- yq IZ yo] at h
   exact aq (pq (bE (fs:=t.Ex six rows wd l' ls' 1 l ls 1) (aa 6 rfl) Lw aB hr (ae (aa 7 rfl) (ae (aa 9 rfl) (ae (aa 10 rfl) aj))) ⟨six,rows,wd,l',ls',1,l,ls,1,yo,b,e,rfl,WT,by omega,⟨rP,by omega⟩,rfl⟩))
 let D2:Slot->Slot->Slot->List Slot:=D (.val (nD yo)) (.val (nD sz)) (.val (nD b)) (.val (nD e)) (.val (nD wa))
 refine ai (dl1:=D2 (.val (t.nS six (bJ six xs))) .aO .aO) (ay 12 nd (bE (fs:=t.Ex six rows wd l' ls' 1 l ls 1) (aa 6 rfl) Lw aB hr (ae (aa 4 rfl) (ae (aa 9 rfl) (ae (aa 10 rfl) aj))) (by
   rw[Ky,hW];rw[hW] at Uj
   exact⟨six,rows,wd,l',ls',1,l,ls,1,age,b,e,rfl,WT,LZ,⟨rP,Uj⟩,rfl⟩))) ?_
 refine ai (dl1:=D2 (.val (t.nS six (bJ six xs))) (.val (.int R)) .aO) (ay 13 nd (oG (jw (FV (fs:=t.km six (bJ six xs)) (k4 (aa 12 rfl)) IH aB hr ⟨six,_,0,rfl,wf,rfl⟩)) (aa 11 rfl) e0R)) ?_
 refine ai (dl1:=D2 (.val (t.nS six (bJ six xs))) (.val (.int R)) (.val (nD tt))) (ay 14 nd (oG (jw (FV (fs:=t.km six (bJ six xs)) (k4 (aa 12 rfl)) II aB hr ⟨six,_,0,rfl,wf,rfl⟩)) (aa 11 rfl) e0T)) ?_
 refine ai (cj (u:=false) (vb (vT (u:=false) (v:=false) (w4 (u:=true) (zi (bU Df aB hr (ae (aa 14 rfl) aj) ⟨_,rfl,rfl⟩))) fun _=>(vT (u:=false) (v:=false) (di (w4 (IB ao (aa 14 rfl) (d6 (aa 10 rfl) (aa 9 rfl)))) (by rw[decide_eq_true (by omega),decide_eq_true (by omega)];rfl)) fun _=>(tJ (w4 (u:=true) (zi (bU Df aB hr (ae (aa 13 rfl) aj) ⟨_,rfl,rfl⟩))))))) (fun h=>nomatch h) (fun h=>cg)) ?_
 refine ai (cj (u:=false) (di (NK (oG (ds:=Ui six (k6 six xs tt)) (jw (vX Dg aB hr (ae (aa 1 rfl) (ae (Cm (fs:=t.km six (bJ six (yv rows (cut W b (b+tt))))) (k4 (bE (fs:=t.Ex six rows wd l' ls' 1 l ls 1) (aa 6 rfl) Lw aB hr (ae (aa 4 rfl) (ae (aa 9 rfl) (ae (aU (aL (aa 9 rfl) (aa 14 rfl)) (congrArg Dt.int (show((b:Nat):Int)+((tt:Nat):Int)=((b+tt:Nat):Int) by omega))) aj))) (Yr tt Yo))) sN aB hr ⟨six,_,0,rfl,by rw[Tg,Tn tt Yo]⟩) aj)) ⟨six,k6 six xs tt,rfl,rfl⟩)) (aa 11 rfl) (by rw[IC six _ (by omega) Tj])) (aa 13 rfl)) (by rw[hR1,decide_eq_true rfl];rfl)) (fun h=>nomatch h) (fun h=>cg)) ?_
 let D3:Slot->Slot->Slot->Slot->Slot->Slot->List Slot:=fun a15 a16 a17 a18 a19 a20=>[.val (.nv ns),.val (.int (wy six)),.val (.lst (rows.map pS)),.val (.str (tx wd)),.val (nD age),.val gE,.val dE,.val (nD yo),.val (nD sz),.val (nD b),.val (nD e),.val (nD wa),.val (t.nS six (bJ six xs)),.val (.int R),.val (nD tt),a15,a16,a17,a18,a19,a20]
 show lM _ _ _ (D3 .aO .aO .aO .aO .aO .aO) _ _
 refine ai (dl1:=D3 (.own (.lst [nD tm])) .aO .aO .aO .aO .aO) (jD 15 nd (lQ (ae (aU (xj T.wj rfl (ae ao (ae (d6 (aa 14 rfl) ao) aj))) (congrArg Dt.int htm)) aj) AA3)) ?_
 let SA:Nat->List Slot:=fun k=>D3 (.own (.lst ((AK k).map nD))) .aO .aO .aO .aO .aO
 refine ai (dl1:=D3 (.own (.lst (as.map nD))) .aO .aO .aO .aO .aO) (cj (tL (aa 4 rfl) ao) (fun h=>?_) (fun h=>?_)) ?_
 . have h:=of_decide_eq_true h
   have WU:as=AK nn:=if_pos (by omega)
   rw[WU]
   refine tP (w:=.lst [nD tm]) 15 ?_
   show lM _ _ _ (D3 (.val (.lst [nD tm])) .aO .aO .aO .aO .aO) _ _
   refine ai (dl1:=SA 0) (jD (w:=.lst ([nD tm] ++ [nD 0,nD (e - b)])) 15 nd (NN (ds:=[nD tm]) (ds':=[nD 0,nD (e - b)]) (aa 15 rfl) (jw (lQ (ae ao (ae (aU (d6 (aa 10 rfl) (aa 9 rfl)) (congrArg Dt.int (show((e:Nat):Int) - ((b:Nat):Int)=((e - b:Nat):Int) by omega))) aj)) AA3)) (show 1+2<=sizeLine by decide))) (aq ?_)
   refine j7 (o:=.nx (SA nn)) (m:=nn) 16 SA nd rfl PassesOwn.leaving T.iZ (ae (aU (xj T.wj rfl (ae ao (ae (FO T.CL rfl (ae ao (ae (d6 (rX T.jB (aa 0 rfl)) ao) aj))) aj))) (congrArg Dt.int WB)) aj) ⟨by omega,by omega⟩ (Le.of ⟨rfl,rfl,rfl,rfl,rfl,rfl,rfl,rfl,rfl,rfl,rfl,rfl,rfl,rfl,rfl,rfl,trivial⟩) (by omega) (fun k hk=>?_) (by rw[Int.toNat_natCast];exact .all rfl)
   refine .nx (aq (qo 15 (ds:=(AK k).map nD) (d:=nD (pl k)) (aU (cf (bU IG aB hr (ae (aa 0 rfl) (ae (aU (aL ao (aa 16 rfl)) (congrArg Dt.int (show(16:Int)+(k:Int)=((16+k:Nat):Int) by omega))) aj)) ⟨ns,16+k,rfl,by omega,rfl⟩) (aL (d6 (aa 10 rfl) (aa 9 rfl)) ao) (by omega)) (congrArg Dt.int (mC k).1)) (by
     rw[List.length_map]
     show(L3 ++ (List.range k).map pl).length < _
     rw[List.length_append,List.length_map,List.length_range]
     exact Nat.lt_of_lt_of_le (show 3+k < 100 by omega) (by decide)))) (Le.of ⟨rfl,rfl,rfl,rfl,rfl,rfl,rfl,rfl,rfl,rfl,rfl,rfl,rfl,rfl,rfl,?_,trivial⟩)
   show Slot.own (.lst ((L3 ++ (List.range (k+1)).map pl).map nD))=Slot.own (.lst ((L3 ++ (List.range k).map pl).map nD ++ [nD (pl k)]))
   rw[List.range_succ,List.map_append,List.map_append,List.map_append]
   simp
 . have h:=of_decide_eq_false h
   have WU:as=[tm]:=if_neg (by omega)
   rw[WU]
   exact cg
 refine tP (w:=.lst (as.map nD)) 15 ?_
 let S:Nat->List Slot:=fun _=>D3 (.val (.lst (as.map nD))) .aO .aO .aO .aO .aO
 refine ai (dl1:=S as.length) (pE (o:=.nx (S as.length)) (m:=as.length) as nD (fun a dl=>dl.set 17 (.val (nD a))) S rfl PassesOwn.leaving (kC (aa 15 rfl)) lh (bD nd rfl (.inl rfl)) (fun a _=>xm) (Le.of ⟨rfl,rfl,rfl,rfl,rfl,rfl,rfl,rfl,rfl,rfl,rfl,rfl,rfl,rfl,rfl,rfl,trivial⟩) (Nat.le_refl _) (fun k a hk ha=>?_) (.all rfl)) ?_
 . have hm:a∈as:=by
     rw[List.getElem?_eq_getElem hk] at ha
     cases ha
     exact List.getElem_mem hk
   have Qb:=has a hm
   let fa:Int:=jt six ((wa:Nat):Int) (k6 six xs a)
   have h1:fa<=R:=hR2 a Qb
   have h2:a < tt->fa < R:=hR3 a
   refine .nx (dl':=D3 (.val (.lst (as.map nD))) .aO (.val (nD a)) (.val (.int fa)) .aO .aO) (ai (ay 18 nd (oG (ds:=Ui six (k6 six xs a)) (jw (vX Dg aB hr (ae (aa 1 rfl) (ae (Cm (fs:=t.km six (bJ six (yv rows (cut W b (b+a))))) (k4 (bE (fs:=t.Ex six rows wd l' ls' 1 l ls 1) (aa 6 rfl) Lw aB hr (ae (aa 4 rfl) (ae (aa 9 rfl) (ae (aU (aL (aa 9 rfl) (aa 17 rfl)) (congrArg Dt.int (show((b:Nat):Int)+((a:Nat):Int)=((b+a:Nat):Int) by omega))) aj))) (Yr a Qb))) sN aB hr ⟨six,_,0,rfl,by rw[Tg,Tn a Qb]⟩) aj)) ⟨six,k6 six xs a,rfl,rfl⟩)) (aa 11 rfl) (by rw[IC six _ (by omega) Tj])))
     (aq (cj (u:=false) (di (vb (vT (u:=false) (di (zk (aa 18 rfl) (aa 13 rfl)) (decide_eq_false (by omega))) fun _=>(tJ (vb (qj (tL (aa 17 rfl) (aa 14 rfl)) fun _=>(rW (lO (aa 18 rfl) (aa 13 rfl)))))))) (by
       by_cases c:a < tt
       . rw[decide_eq_false (show ¬ fa=R by have:=h2 c;omega)]
         simp
       . rw[decide_eq_false (show ¬ ((a:Nat):Int) < ((tt:Nat):Int) by omega)]
         rfl)) (fun h=>nomatch h) (fun h=>cg)))) (Le.of ⟨rfl,rfl,rfl,rfl,rfl,rfl,rfl,rfl,rfl,rfl,rfl,rfl,rfl,rfl,rfl,rfl,trivial⟩)
 refine ai (ay 19 nd (d:=.int (Ja / 6 % 13 - 6)) (d6 (cf (fE (bU gR aB hr (ae (aa 0 rfl) (ae ao aj)) cl) ao (by decide)) ao (by decide)) ao)) ?_
 refine ai (dl1:=D3 (.val (.lst (as.map nD))) .aO .aO .aO (.val (.int fi)) .aO) (ay 19 nd (aU (cf (aa 19 rfl) (aa 1 rfl) Ti) (congrArg Dt.int hfi.symm))) ?_
 refine ai (dl1:=D3 (.val (.lst (as.map nD))) .aO .aO .aO (.val (.int fi)) (.val (nD v))) (ay 20 nd (aU (cf (aL (aa 11 rfl) (aa 19 rfl)) (aa 1 rfl) Ti) (congrArg Dt.int hv))) ?_
 exact aq (aI (aU (tK (u:=true) (v:=true) (aU (A4 (oG (jw (tT (fs:=t.km six (bJ six xs)) (k4 (aa 12 rfl)) yg aB hr (ae (aa 19 rfl) aj) ⟨six,_,fi,rfl,wf,rfl⟩)) (aa 20 rfl) eFR) (aa 13 rfl)) (congrArg Dt.bl (decide_eq_true rfl))) fun _=>(pj (aU (A4 (oG (jw (tT (fs:=t.km six (bJ six xs)) (k4 (aa 12 rfl)) yh aB hr (ae (aa 19 rfl) aj) ⟨six,_,fi,rfl,wf,rfl⟩)) (aa 20 rfl) eFT) (aa 14 rfl)) (congrArg Dt.bl (decide_eq_true rfl))))) rfl))
end Pf
local macro_rules | `(tactic| walk_at "b")=>`(tactic| first
 | exact fun _ _ _ _ _ _ us hl=>match us,hl with | [_],_=>rfl
 | exact fun _ _ _ _ _ _ us hl=>match us,hl with | [_,_],_=>rfl
 | exact fun _ _ _ _ _ _ us hl=>match us,hl with | [_,_,_],_=>rfl
 | exact fun _ _ _ _ _ _ us hl=>match us,hl with | [_,_,_,_],_=>rfl
 | exact fun _ _ _ _ _ _ us hl=>match us,hl with | [_,_,_,_,_],_=>rfl
 | exact fun _ _ _ _ _ _ us hl=>match us,hl with | [_,_,_,_,_,_],_=>rfl
 | exact fun _ _ _ _ _ _ us hl=>match us,hl with | [_,_,_,_,_,_,_],_=>rfl
 | exact fun _ _ _ _ _ _ us hl=>match us,hl with | [_,_,_,_,_,_,_,_],_=>rfl
 | exact fun _ _ _ _ _ _ us hl=>match us,hl with | [_,_,_,_,_,_,_,_,_],_=>rfl
 | exact fun _ _ _ _ _ _ us hl=>match us,hl with | [],_=>rfl)
local macro_rules | `(tactic| walk_at "z")=>`(tactic| first
 | (refine' Pf.OM ?a ?l ?c ?k ?b;(case a=>k_is);(case l=>k_is);(case c=>k_is);(case k=>k_is);(case b=>walk_at "b"))
 | (refine' Pf.OK ?l ?c ?k ?b;(case l=>k_is);(case c=>k_is);(case k=>k_is);(case b=>walk_at "b"))
 | (refine' Pf.OL ?l ?c ?k ?b;(case l=>k_is);(case c=>k_is);(case k=>k_is);(case b=>walk_at "b"))
 | (refine' Pf.ON ?a ?p ?h ?o ?s ?k;(case a=>k_is);(case p=>k_is);(case h=>k_is);(case o=>k_is);(case s=>k_is);(case k=>k_is))
 | (refine' L2.Meth.mk ?a ?i ?k;(case a=>k_is);(case i=>k_is);(case k=>k_is))
 | (refine' L2.Mk.mk ?a ?i ?f ?k;(case a=>k_is);(case i=>k_is);(case f=>k_is);(case k=>k_is))
 | (refine' Sg.NH.mk ?a ?i ?k;(case a=>k_is);(case i=>k_is);(case k=>k_is))
 | k_is | kernel_rfl)
namespace PySem.W.Fast
def tw18054468062255165344:=()
def tw4034118765419948184:=()
def tw3830917575568014624:=()
def tw15810078568789357876:=()
def tw11829009894862206543:=()
def tw3024226519970632997:=()
def tw15768724874021973685:=()
def tw431393177538092006:=()
def tw566282544862857033:=()
def tw1106642796756173761:=()
def tw16606765033026014688:=()
def tw2057355376646543241:=()
def tw14816863556878349787:=()
def tw8225331969302836937:=()
def tw257572926584130196:=()
def tw12338197501379186602:=()
def tw9246612593732311498:=()
def tw5108038328077444045:=()
def tw16328110452141866320:=()
def tw4417736514417691985:=()
def tw1110160178219445224:=()
def tw1185705657379990630:=()
def tw9662739603556781348:=()
def tw14572742062291480978:=()
def tw21657664614535240:=()
def tw14455624613857292033:=()
def tw12537102092078791186:=()
def tw5806555115749845903:=()
def tw10190835656282067304:=()
def tw2382736552133604669:=()
def tw7181389029982092789:=()
def tw1604052691035175299:=()
def tw5837397587707663494:=()
def tw11356086315847843795:=()
def tw8287804834028245384:=()
def tw17082382110369573192:=()
def tw8142616356296845063:=()
def tw13196641673557946816:=()
def tw15426712372086983151:=()
def tw9663990550512742731:=()
def tw5141867604201087899:=()
def tw18235680912761960218:=()
def tw377082839205795366:=()
def tw10859718611986958475:=()
def tw13470831798081937421:=()
def tw16682715157905342656:=()
def tw5575251415602849511:=()
def tw14262039892564013633:=()
def tw1465953381325876558:=()
def tw13548330157156497166:=()
def tw424425783090068295:=()
def tw8957334933235775062:=()
def tw6756454919085070389:=()
def tw2029415270681195346:=()
def tw989338657861163579:=()
def tw595407882548444553:=()
def tw14801001374255745153:=()
def tw3877443673148584077:=()
def tw10468698339640072485:=()
def tw16812545845399373592:=()
def tw8470673465481586539:=()
def tw4367514074230011317:=()
def tw9717217829354500875:=()
def tw18431121622047701855:=()
def tw15267776302727253340:=()
def tw14970646607324669873:=()
def tw13692361546428913007:=()
def tw15258820150898631666:=()
def tw15824501090459541452:=()
def tw7048361593611452373:=()
def tw12512732087691959501:=()
def tw225873425403053171:=()
def tw2448915287690711696:=()
def tw4925411344437016603:=()
def tw3593796721381355883:=()
def tw8933637914260986927:=()
def tw2032607857205528703:=()
def tw14221044097258458461:=()
def tw5358292085162107842:=()
def tw4252338384077691706:=()
def tw4187390824333774242:=()
def tw375868492559173922:=()
def tw15973795750265313059:=()
def tw8036595417699846130:=()
def tw17092686256114374162:=()
def tw9937222277498552080:=()
def tw6693059911153302579:=()
def tw10089623101579977496:=()
def tw11283123900007919917:=()
def tw2364615596744553906:=()
def tw5063529535600505156:=()
def tw18390390878810503795:=()
def tw2307455054460514825:=()
def tw10296645951436208556:=()
def tw572100816681616825:=()
def tw7428294889157488632:=()
def tw3317784188769570399:=()
def tw14486698780583311820:=()
def tw16328629055884108904:=()
def tw8706305881229909932:=()
def tw13554417807089800467:=()
def tw8094310235967640805:=()
def tw9939453201484790503:=()
def tw9931605273318831560:=()
def tw917647819329486950:=()
def tw9688318170537151695:=()
def tw17372722292570632674:=()
def tw17475454833161898407:=()
def tw11196819687071771094:=()
def tw10787626374439069543:=()
def tw11039627624961109594:=()
def tw409474698510798336:=()
def tw8244865889730165357:=()
def tw15500555115625263671:=()
def tw10619624095499751383:=()
def tw9885304159556444008:=()
def tw1711118762487541779:=()
def tw1210392992104701339:=()
def tw7723863167219120405:=()
def tw11146513503145681210:=()
def tw710254288646853316:=()
def tw10525185802783021397:=()
def tw13258395573421536454:=()
def tw7029824679462019461:=()
def tw3038179804866361728:=()
def tw14200678130989091371:=()
def tw16746244440195443349:=()
def tw9960312429222257040:=()
def tw14194453352252394938:=()
def tw1183587272211185737:=()
def tw11227719516005422369:=()
def tw7567071872783372718:=()
def tw5551183746508519219:=()
def tw3389748820499209726:=()
def tw3097758858622437850:=()
def tw810885958539123678:=()
def tw17412594759052620660:=()
def tw583715684446881678:=()
def tw11889765758242727717:=()
def tw15297304741558589090:=()
def tw14916266872754253920:=()
def tw4442656081887796050:=()
def tw2806018370832013859:=()
def tw5663139275755936276:=()
def tw1008068689790744693:=()
def tw6314306535954933796:=()
def tw1096030460186485507:=()
def tw15519859678264803399:=()
def tw6672604814151602608:=()
def tw3085858963512414296:=()
def tw17899284390884667900:=()
def tw7743425308363904746:=()
def tw2297613629997713668:=()
def tw1998942477908987924:=()
def tw3008963705995320026:=()
def tw4128181668023358591:=()
def tw1857349454609185279:=()
def tw7255740608965567614:=()
def tw11291178594953351661:=()
def tw16852709521959699220:=()
def tw17033551044978588103:=()
def tw9044787651902427805:=()
def tw2972805496531371732:=()
def tw8361979428042381655:=()
def tw16444230845697015281:=()
def tw2839456728364735179:=()
def tw13664635681712709728:=()
def tw10539560489858965488:=()
def tw11822718669693857650:=()
def tw1247449046250936880:=()
def tw7046098049402746073:=()
def tw8537093745874139217:=()
def tw10391839919048611555:=()
def tw17106862730948203177:=()
def tw4009796018782046290:=()
def tw15545321005458600579:=()
def tw14490537408329648395:=()
def tw14512863174595370862:=()
def tw1866951631678077294:=()
def tw2713846871418014285:=()
def tw10410039817361200110:=()
def tw1703286711963347691:=()
def tw547069276775837429:=()
def tw5279380088741338472:=()
def tw1910994975967307790:=()
def tw14666983686747089640:=()
def tw2316250260403036177:=()
def tw13443655807614519038:=()
def tw6531642426846731514:=()
def tw4931555543630562204:=()
def tw15941985066422073717:=()
def tw9764575612817899880:=()
def tw68009860750766104:=()
def tw7993696958995549717:=()
def tw2543633109922128431:=()
def tw4411287037095185740:=()
def tw2198691529173618152:=()
def tw14977112598797360208:=()
def tw12778476204565125568:=()
def tw8590429953625392381:=()
def tw11733481014201673682:=()
def tw8392303804330041185:=()
def tw14717023688039940335:=()
def tw14822801363607281477:=()
def tw6825938490643496404:=()
def tw15343904647969195938:=()
def tw14439352384378497107:=()
def tw9522076521170887951:=()
def tw8941142220084655106:=()
def tw8477136107531192277:=()
def tw7508757880276663744:=()
def tw7755076129543361633:=()
def tw7505610122617600811:=()
def tw10928338219578012119:=()
def tw858660984115288179:=()
def tw10685530993107246016:=()
def tw10042341593311318403:=()
def tw10680455616007309193:=()
def tw15528437870954423786:=()
def tw7915647647013585314:=()
def tw9967794194144334980:=()
def tw1257501993994144451:=()
def tw8982016557786016283:=()
def tw6938563833638092402:=()
def tw14171634383965426241:=()
def tw13063965255240273398:=()
def tw11191333695523590909:=()
def tw8145944501796330050:=()
def tw2212234863236229057:=()
def tw2843572921860169331:=()
def tw1307854585408980289:=()
def tw12827423862618673267:=()
def tw6881853071530760455:=()
def tw3495416971409162336:=()
def tw904564049652791705:=()
def tw513298365656778450:=()
def tw16339632013727522219:=()
def tw14642793930941135641:=()
def tw16158381025163497914:=()
def tw9176776316592782217:=()
def tw14234316306717907669:=()
def tw122502001537109647:=()
def tw13310376274884590012:=()
def tw3889561566938329442:=()
def tw7234730875730503763:=()
def tw4575037859786997478:=()
def tw6045037391403216603:=()
def tw12178767290460440895:=()
def tw719504585726605923:=()
def tw4828628626431598905:=()
def tw8521277645332973397:=()
def tw16738005609832890629:=()
def tw18235017551650436346:=()
def tw2250132154686376851:=()
def tw9844656323458909396:=()
def tw10143836657115943424:=()
def tw5278989779868348064:=()
def tw4858661764563328590:=()
def tw13094887935599128877:=()
def tw6646271443705430213:=()
def tw13644307577254863539:=()
def tw10428080798628639179:=()
def tw5074764444035142557:=()
def tw17347197649694845131:=()
def tw17023223766808776041:=()
def tw16113381626210325168:=()
def tw12930425188899955405:=()
def tw896257453499929628:=()
def tw18410423982103780889:=()
def tw147335455935329462:=()
def tw5487394254543067844:=()
def tw10984896510458514346:=()
def tw2143704017631039549:=()
def tw11548287191657672555:=()
def tw10679611866982218651:=()
def tw17661738185188622512:=()
def tw885518338303073837:=()
def tw5051483164174108123:=()
def tw2174553028203860307:=()
def tw5933477151619248186:=()
def tw6849355386818262851:=()
def tw14994766698810798557:=()
def tw9363441619965466947:=()
def tw16575533381445502537:=()
def tw7295116342988238163:=()
def tw15922827596704408765:=()
def tw14297597449223893064:=()
def tw3321237072823015608:=()
def tw3790391768652543155:=()
def tw4713570108886260405:=()
def tw7205835103687892203:=()
def tw17043637175433013578:=()
def tw15848170564483775922:=()
def tw7898341025385421200:=()
def tw14080702427112657261:=()
def tw8218455434086333809:=()
def tw6194438565150797109:=()
def tw8654785408828757033:=()
def tw10032093073711662677:=()
def tw9907008185679804613:=()
def tw940355328511743079:=()
def tw10926497531247283764:=()
def tw558806544805975410:=()
def tw5540353147966097265:=()
def tw4326582325606540116:=()
def tw6218647390436227794:=()
def tw17615383269506117198:=()
def tw8489687315931286484:=()
def tw6395521895854176239:=()
def tw7053955669581542647:=()
def tw17174320753220602541:=()
def tw7847028210069724063:=()
def tw6788320014766204628:=()
def tw17625323959839861287:=()
def tw16296598196299507290:=()
def tw5140898055532030468:=()
def tw2913457643563557725:=()
def tw2660753517897818263:=()
def tw17839482668852528020:=()
def tw13890817291020113240:=()
def tw7937115010866986922:=()
def tw6161871180005264789:=()
def tw16288481246129254375:=()
def tw13072998974572700555:=()
def tw18273963412200056978:=()
def tw15719160550727702144:=()
def tw115835307368562544:=()
def tw6182677660186464068:=()
def tw3390468326917988193:=()
def tw14380767367510826979:=()
def tw2754878300954774873:=()
def tw4204223833099230562:=()
def tw1629131151604097141:=()
def tw14466316462421545223:=()
def tw13226878036786041447:=()
def tw9775097424140716382:=()
def tw9582189437909754712:=()
def tw6585015269179598901:=()
def tw380237349061486912:=()
def tw13499156753046461070:=()
def tw8077631775058839645:=()
def tw13699425047695118301:=()
def tw6993099159900231361:=()
def tw11947875937882231799:=()
def tw5091066403258105907:=()
def tw2293217025200068548:=()
def tw15302579240832225409:=()
def tw11239343003675844877:=()
def tw676686879764004723:=()
def tw13637659982766096873:=()
def tw12572483124509819709:=()
def tw15202453878520444022:=()
def tw15064696423374064910:=()
def tw11901793365425375269:=()
def tw8990791578790982037:=()
def tw15049609869865288813:=()
def tw13175873471826235586:=()
def tw8446896539541925900:=()
def tw6736215463692265449:=()
def tw186733469126049607:=()
def tw17105438607970764468:=()
def tw5731314530751475128:=()
def tw4755522571182878431:=()
def tw3758102129470538165:=()
def tw18055043318400014699:=()
def tw14762901462366524995:=()
def tw11831299884969190436:=()
def tw17978671310292234716:=()
def tw1256887930849554025:=()
def tw9742833245587513861:=()
def tw6403488522842652270:=()
def tw4389466092200379548:=()
def tw10976488676658214918:=()
def tw10466908347376298338:=()
def tw13163565113579193667:=()
def tw9210147902025136000:=()
def tw16174843797778746106:=()
def tw10165090057727307300:=()
def tw1187230728679746060:=()
def tw11269058508647582652:=()
def tw11870275572161005395:=()
def tw722992156493665388:=()
def tw621731013184866185:=()
def tw13119664564735609073:=()
def tw10622986580781127577:=()
def tw10104829102241037393:=()
def tw10892545154273132647:=()
def tw12241737496893192917:=()
def tw13254820698637068211:=()
def tw7254340566788997870:=()
def tw2843843487372627902:=()
def tw15736410271720230983:=()
def tw9712478291172271159:=()
def tw4374926797426605290:=()
def tw136562185222164056:=()
def tw14283005729540906594:=()
def tw605835402394881953:=()
def tw5556123407617307391:=()
def tw2722777951392711768:=()
def tw8452714292768052602:=()
def tw706561223506319103:=()
def tw2790757270966315414:=()
def tw2654411317486308484:=()
def tw15935250636036999250:=()
def tw11958590189387305001:=()
def tw1403237767411605888:=()
def tw15160416373377097193:=()
def tw14308222797537406733:=()
def tw17014185917829750048:=()
def tw16684754931457360362:=()
def tw18168408418484832319:=()
def tw4038184737878994021:=()
def tw3924685196474824512:=()
def tw16649452505197784686:=()
def tw15854989838327753890:=()
def tw10118372385970473358:=()
def tw2190214527630040330:=()
def tw12560748519691866935:=()
def tw6990532261056596087:=()
def tw12940246997051769188:=()
def tw165462535277288390:=()
def tw9050822101509345690:=()
def tw8777554756917477740:=()
def tw2224691238160845943:=()
def tw17583932295457350236:=()
def tw14845084957468252097:=()
def tw8490949985721083799:=()
def tw16465425899757384257:=()
def tw11496021029017664621:=()
def tw3299879304624957341:=()
def tw2871479188388335877:=()
def tw2440354033981331646:=()
def tw16988548519772340948:=()
def tw15326681417826864104:=()
def tw14971139297145181334:=()
def tw12017511260405803121:=()
def tw4260609427366326943:=()
def tw1615572255465263875:=()
def tw3526937780534096255:=()
def tw10594039712526435007:=()
def tw8786602902875319802:=()
def tw9171152609709656039:=()
def tw11175443109310302443:=()
def tw11760819570776832314:=()
def tw13358699725121574297:=()
def tw6162528879976297254:=()
def tw15208814378885940136:=()
end PySem.W.Fast
open PySem PySem.W PyProof.Rows
set_option maxRecDepth 100000 in
set_option maxHeartbeats 0 in
theorem PySem.Challenge.cw_strokegrow_k55_whole_reach_touched_holds : PySem.Challenge.rw_strokegrow_k55_whole_reach_touched.Holds := by
 w_on;o_law;k_head;(case hw=>w_witness2)
 k_fill
 refine L2.Fp (l:=PySem.Challenge.rw_strokegrow_k55_whole_reach_touched) (n:=63) (k:=12) (x:="_law_script") (CX:=Pf.CX) (sp:=fun K=>Pf.HJ K) rfl (by decide) rfl ⟨rfl,by decide,by decide⟩ (fun w h Y=>PySem.W.kIn_of Y) ?F ?S ?C
 case F=>
   intro w mg fa h KX G QV
   have T:∃ t,Pf.Txt (L2.W5 KX) mg t∧t.pP=fa:=by
     dsimp only [L2.W5]
     obtain⟨t,T,e⟩:∃ t,Pf.Txt _ mg t∧t.pP=_:=by
       refine' Pf.OQ KX G ?_ ?_ ?_ ?_ ?_ ?_ ?_ ?_ ?_ ?_ ?_ ?_ ?_ ?_ ?_ ?_ ?_ ?_ ?_ ?_ ?_ ?_ ?_ ?_ ?_ ?_ ?_ ?_ ?_ ?_ ?_ ?_ ?_ ?_ ?_ ?_ ?_ ?_ ?_ ?_ ?_ ?_ ?_ ?_ ?_ ?_ ?_ ?_ ?_ ?_ ?_ ?_ ?_ ?_ ?_ ?_ ?_ ?_ ?_ ?_ ?_ ?_ ?_ ?_ ?_ ?_ ?_ ?_ ?_ ?_ ?_ ?_ ?_ ?_ ?_ ?_ ?_ ?_ ?_ ?_ ?_ ?_ ?_ ?_ ?_ ?_ ?_ ?_ ?_ ?_ ?_ ?_ ?_ ?_ ?_ ?_ ?_ ?_ ?_ ?_ ?_ ?_ ?_ ?_ ?_ ?_ ?_ ?_ ?_ ?_ ?_ ?_ ?_ ?_ ?_ ?_ ?_ ?_ ?_ ?_ ?_ ?_ ?_ ?_ ?_ ?_ ?_ ?_ ?_ ?_ ?_ ?_ ?_ ?_ ?_ ?_ ?_ ?_ ?_ ?_ ?_ ?_ ?_ ?_ ?_ ?_ ?_ ?_ ?_ ?_ ?_ ?_ ?_ ?_ ?_ ?_ ?_ ?_ ?_ ?_ ?_ ?_
       any_goals walk_at "z"
     refine⟨t,T,?_⟩
     have e0:=QV.symm.trans (T.g T.zX.a)
     cases e0
     rfl
   obtain⟨t,T,e⟩:=T
   subst e
   refine' ⟨t.uq,?b,fun base kb nb=>Pf.PK T⟩
   exact Pf.OR T
 case S=>exact fun K H a ns hl hO hS=>Pf.Pp hl hS
 case C=>exact fun H s e s' h=>h
