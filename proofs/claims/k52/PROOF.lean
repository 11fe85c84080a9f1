import PyProof.Rows.All
import Wide.All
import OpenK.AllK
import Wide.FinOn
import Lean
import PyProof.EqAt
import PyProof.EqKinds
import PyProof.TupleCall
import PyProof.WalksEnum
import PyProof.EnumMake
import PyProof.ZipIter
import PyProof.ReprStr
import PyProof.StrBlockG
import PyProof.StrWalks
import PyProof.FString5
import PyProof.ConsumeWalk
import PyProof.SumAny
import PyProof.StrCalls2
import KE.KDictList
import PyProof.Draws
import PyProof.StrBlock2
import PyProof.DictIter
import PyProof.ExcInit
import PyProof.ExcClass3
import PyProof.FString
import PyProof.FitsInt
import PyProof.StrLawsRepr
import PyProof.Rows.Range3
import PyProof.StrCalls
import PyProof.ListRange
import PyProof.AttrMissHeap
import KE.KDictOf
import PyProof.StrCalls3
import PyProof.FactsAll.dict_2
import PyProof.MeetsIn
import PyProof.Cells
import KE.KDictSum
import PyProof.DictWalks
import KE.KRevIter
import PyProof.FactsAll.subtypes_3
import PyProof.Rows.SortWalk
import KE.KSortedM
import PyProof.Rows.SortStr
import PyProof.MinMaxWalk
import PyProof.WalkInts
import PyProof.SeqI3
import PyProof.Rows.CallKwBuiltin
import KE.KUnpack
import PySem.Challenge.RW_strokegrow_k52_whole_cut_anywhere
theorem AA3 {a b:Nat}(h:Nat.ble a b=true:=by rfl):a<=b:=Nat.le_of_ble_eq_true h
set_option Elab.async false
set_option linter.all false
set_option maxRecDepth 100000
namespace L2
open PySem PySem.Spec PyProof.Rows
noncomputable abbrev Key:=Sum Int Str
noncomputable def xa:Key->Value->Bool
 | .inl k,v=>Value.isInt k v
 | .inr x,v=>Value.isStrOf x v
noncomputable def VT (w:World):Key->Int
 | .inl k=>hashInt k
 | .inr x=>hashStr w x
theorem cO:∀ {k:Key} {v:Value},xa k v=true->(∃ i t,k=Sum.inl i/\v=Value.int i t)\/(∃ x t,k=Sum.inr x/\v=Value.str x t)
 | .inl i,v,h=>by
   obtain⟨t,e⟩:=Value.isInt_shape (k:=i) (v:=v) h
   exact .inl ⟨i,t,rfl,e⟩
 | .inr x,v,h=>by
   obtain⟨t,e⟩:=Value.isStrOf_shape (x:=x) (v:=v) h
   exact .inr ⟨x,t,rfl,e⟩
theorem EG (i:Int)(t:Tok):xa (.inl i) (.int i t)=true:=by simp[xa,Value.isInt]
theorem EH (x:Str)(t:Tok):xa (.inr x) (.str x t)=true:=by simp[xa,Value.isStrOf]
theorem N6 (a b:Int):decide ((Sum.inl a:Key)=Sum.inl b)=(a == b):=by
 by_cases e:a=b
 . subst e;simp
 . have h:¬ (Sum.inl a:Key)=Sum.inl b:=fun q=>e (Sum.inl.inj q)
   rw[decide_eq_false h]
   exact(beq_eq_false_iff_ne.mpr e).symm
theorem N7 (a b:Str):decide ((Sum.inr a:Key)=Sum.inr b)=decide (a=b):=by
 by_cases e:a=b
 . subst e;simp
 . have h:¬ (Sum.inr a:Key)=Sum.inr b:=fun q=>e (Sum.inr.inj q)
   rw[decide_eq_false h,decide_eq_false e]
theorem N8 (a:Int)(b:Str):decide ((Sum.inl a:Key)=Sum.inr b)=false:=decide_eq_false (fun q=>nomatch q)
theorem N9 (a:Str)(b:Int):decide ((Sum.inr a:Key)=Sum.inl b)=false:=decide_eq_false (fun q=>nomatch q)
noncomputable def cH (prog:Program)(w:World):PySem.KeyKind prog w Key where
 is:=xa
 hash:=VT w
 inj:=fun v a b ha hb=>by
   rcases cO ha with⟨i,t,rfl,rfl⟩ | ⟨x,t,rfl,rfl⟩
   . rcases cO hb with⟨j,u,rfl,e⟩ | ⟨y,u,rfl,e⟩
     . injection e with e1 _;rw[e1]
     . exact nomatch e
   . rcases cO hb with⟨j,u,rfl,e⟩ | ⟨y,u,rfl,e⟩
     . exact nomatch e
     . injection e with e1 _;rw[e1]
 byValue:=fun k v h=>by
   rcases cO h with⟨i,t,rfl,rfl⟩ | ⟨x,t,rfl,rfl⟩ <;> rfl
 pyHash:=fun hv h=>by
   rcases cO hv with⟨i,t,rfl,rfl⟩ | ⟨x,t,rfl,rfl⟩
   . exact wpAny_pyHash_int h
   . exact wpAny_pyHash_str h
 eqBool:=fun hu hv h=>by
   rcases cO hu with⟨i,t,rfl,rfl⟩ | ⟨x,t,rfl,rfl⟩
   . rcases cO hv with⟨j,u,rfl,rfl⟩ | ⟨y,u,rfl,rfl⟩
     . rw[N6] at h;exact wpAny_eqBool_int h
     . rw[N8] at h;exact SeqAt.EqAt.int_str i t y u _ _ _ _ h
   . rcases cO hv with⟨j,u,rfl,rfl⟩ | ⟨y,u,rfl,rfl⟩
     . rw[N9] at h;exact SeqAt.EqAt.str_int x t j u _ _ _ _ h
     . rw[N7] at h;exact wpAny_eqBool_str h
 «strs»:=fun k x t v h=>by
   rcases cO h with⟨i,u,rfl,e⟩ | ⟨y,u,rfl,e⟩
   . exact nomatch e
   . injection e with e1 _
     subst e1
     cases v <;> rfl
theorem zP (prog:Program)(w:World)(i:Int)(t:Tok):(cH prog w).is (.inl i) (.int i t)=true:=EG i t
theorem zQ (prog:Program)(w:World)(x:Str)(t:Tok):(cH prog w).is (.inr x) (.str x t)=true:=EH x t
inductive V where
 | cP | bl (b:Bool) | int (i:Int) | str (x:Str) | F8 (b:Array UInt8) | Oa (b:UInt64) | ref (a:Addr) | ty (n:String)
 deriving DecidableEq
noncomputable def RelV:V->Value->Prop
 | .cP,u=>u=Value.none
 | .bl b,u=>u=Value.bool b
 | .int i,u=>∃ t,u=Value.int i t
 | .str x,u=>∃ t,u=Value.str x t
 | .F8 b,u=>∃ t,u=Value.bytes b t
 | .Oa b,u=>∃ t,u=Value.float b t
 | .ref a,u=>u=Value.ref a
 | .ty n,u=>u=Value.type n
noncomputable abbrev Vals:List V->List Value->Prop:=Paired RelV
theorem Vals.length {xs:List V}{us:List Value}(r:Vals xs us):xs.length=us.length:=Paired.length r
theorem Vals.get:∀ {xs:List V} {us:List Value} {i:Nat} {x:V},Vals xs us->xs[i]?=some x->∃ u,us[i]?=some u/\RelV x u
 | _,_,_,_,.nil,e=>by simp at e
 | _,_,0,_,.cons r _,e=>by simp at e;subst e;exact⟨_,rfl,r⟩
 | _,_,i+1,x,.cons _ t,e=>by
   obtain⟨u,h1,h2⟩:=Vals.get (i:=i) (x:=x) t (by simpa using e)
   exact⟨u,by simpa using h1,h2⟩
theorem Vals.set {x:V}{u:Value}(r:RelV x u):∀ {xs:List V} {us:List Value} (i:Nat),Vals xs us->Vals (xs.set i x) (us.set i u)
 | _,_,_,.nil=>.nil
 | _,_,0,.cons _ t=>.cons r t
 | _,_,i+1,.cons q t=>.cons q (Vals.set r i t)
theorem Vals.append:∀ {xs ys:List V} {us ws:List Value},Vals xs us->Vals ys ws->Vals (xs ++ ys) (us ++ ws)
 | _,_,_,_,.nil,s=>s
 | _,_,_,_,.cons r t,s=>.cons r (Vals.append t s)
theorem Vals.take:∀ {xs:List V} {us:List Value} (n:Nat),Vals xs us->Vals (xs.take n) (us.take n)
 | _,_,0,_=>.nil
 | _,_,_+1,.nil=>.nil
 | _,_,n+1,.cons r t=>.cons r (Vals.take n t)
theorem Vals.drop:∀ {xs:List V} {us:List Value} (n:Nat),Vals xs us->Vals (xs.drop n) (us.drop n)
 | _,_,0,r=>r
 | _,_,_+1,.nil=>.nil
 | _,_,n+1,.cons _ t=>Vals.drop n t
noncomputable def oX:Option V->Option Value->Prop
 | some v,some u=>RelV v u
 | none,none=>True
 | _,_=>False
noncomputable def KV {κ:Type}:List (κ×V)->List (κ×Value)->Prop:=Paired fun(p:κ×V) (q:κ×Value)=>p.1=q.1/\RelV p.2 q.2
noncomputable def kV:Key->V
 | .inl i=>.int i
 | .inr x=>.str x
inductive FD where
 | int (i:Int)
 | eB (kds:List (Key×Int))
 | lst (ns:List Int)
 | tup (K:W.Frag) (ns:List Int)
 | obj (C:Addr) (fs:List (Str×FD))
noncomputable abbrev jL:=List (Addr×(Nat->List (Key×FD)))
inductive HO where
   | lst (xs:List V)
   | tup (xs:List V)
   | dK (kvs:List (Key×V)) | dT (kvs:List (List Key×V))
   | set (S:Int->Bool) (n:Nat)
   | ins (C dx:Addr) (fs:List (Str×V))
   | own (x:Addr)
   | xd (fs:List (Str×V))
   | met (f x:Addr)
   | VU (lo hi:Int)
   | bC (o:Obj) (u:HO)
   | Ob (ps:Array Value)
   | ext (φ:Heap->Prop)
   | memo (ls:jL)
 | bA (ls:jL) (ns:List Nat)
   | part (p:Addr)
   | kd (tg:Option (Addr×Nat)) (o:Obj) (kvs:List (Key×V))
   | kx (o:Obj) (u:HO)
noncomputable abbrev Hp:=Addr->Option HO
noncomputable def upd (H:Hp)(a:Addr)(o:HO):Hp:=fun b=>if b=a then some o else H b
theorem ak {H:Hp}{a:Addr}{o:HO}:upd H a o a=some o:=by unfold upd;rw[if_pos rfl]
theorem ag {H:Hp}{a b:Addr}{o:HO}(h:b≠a):upd H a o b=H b:=by unfold upd;rw[if_neg h]
theorem tE {H:Hp}{a:Addr}{o u:HO}:upd (upd H a o) a u=upd H a u:=by
 funext b;unfold upd;split <;> rfl
theorem RO {H:Hp}{a b:Addr}{o u:HO}(h:H a=some o)(h':H b=some u)(d:o≠u):a≠b:=by
 intro e;subst e;rw[h] at h';exact d (Option.some.inj h')
theorem aw {H:Hp}{a b:Addr}{o:HO}(h:H a=some o)(h':H b=none):a≠b:=by
 intro e;subst e;rw[h] at h';cases h'
noncomputable def lu:Option HO->Prop
 | some (.memo _)=>True
 | some (.bA _ _)=>True
 | some (.part _)=>True
 | _=>False
noncomputable def Kept:HO->Prop
 | .kd _ _ _=>True
 | .kx _ _=>True
 | .tup _=>True
 | _=>False
noncomputable def TupAt (K:W.Frag)(H:Hp)(a:Addr)(xs:List V):Prop:=
 H a=some (.tup xs) \/
   ∃ (o:Obj) (aC:Array Value) (n:Nat),K.lookup a=some o/\o.cls=.type "tuple"/\o.data=.seq aC n/\aC.size<=sizeLine/\Vals xs aC.toList
mutual
inductive Fz (H:Hp):V->FD->Prop
 | int (i:Int):Fz H (.int i) (.int i)
 | eB {a:Addr} {tg:Option (Addr×Nat)} {o:Obj} {kds:List (Key×Int)}:H a=some (.kd tg o (kds.map fun kd=>(kd.1,V.int kd.2)))->Fz H (.ref a) (.eB kds)
 | lst {a:Addr} {o:Obj} {ns:List Int}:H a=some (.kx o (.lst (ns.map V.int)))->Fz H (.ref a) (.lst ns)
 | tup {a:Addr} {K:W.Frag} {ns:List Int}:TupAt K H a (ns.map V.int)->Fz H (.ref a) (.tup K ns)
 | obj {a C dx:Addr} {o:Obj} {fv:List (Str×V)} {fs:List (Str×FD)}:H a=some (.kx o (.ins C dx fv))->Gm H fv fs->Fz H (.ref a) (.obj C fs)
inductive Gm (H:Hp):List (Str×V)->List (Str×FD)->Prop
 | nil:Gm H [] []
 | cons {k:Str} {v:V} {d:FD} {vs:List (Str×V)} {ds:List (Str×FD)}:Fz H v d->Gm H vs ds->Gm H ((k,v)::vs) ((k,d)::ds)
end
inductive qU (H:Hp):List (Key×V)->List (Key×FD)->Prop
 | nil:qU H [] []
 | cons {k:Key} {v:V} {d:FD} {kvs:List (Key×V)} {kds:List (Key×FD)}:Fz H v d->qU H kvs kds->qU H ((k,v)::kvs) ((k,d)::kds)
noncomputable def Oc (H:Hp)(p:Addr)(i:Nat)(aC:List Value)(fd:List (Key×FD)):Prop:=∃ q o kvs,aC[i]?=some (.ref q)/\H q=some (.kd (some (p,i)) o kvs)/\qU H kvs fd
noncomputable def Dl (H:Hp)(h:Heap)(p:Addr)(f:Nat->List (Key×FD))(n:Nat):Prop:=∃ aC c,h.get? p=some { cls:=.type "list",data:=.seq (aC:List Value).toArray c}/\aC.length=n/\∀ i,i < n->Oc H p i aC (f i)
noncomputable def uz (H:Hp)(h:Heap)(a:Addr)(ls:jL)(ns:List Nat):Prop:=(∃ f,ls[0]?=some (a,f))/\ls.length=ns.length/\(∀ (j:Nat) (p:Addr) (f:Nat->List (Key×FD)),ls[j]?=some (p,f)->(p=a\/H p=some (.part a)))/\(ls.map (·.1)).Nodup/\(∀ n∈ns,n<=10000)/\∀ (j:Nat) (p:Addr) (f:Nat->List (Key×FD)) (n:Nat),ls[j]?=some (p,f)->ns[j]?=some n->Dl H h p f n
section
variable (P:Program)(w:World)
noncomputable def aJ (H:Hp)(h:Heap)(a:Addr):HO->Prop
 | .lst xs=>xs.length<=sizeLine/\∃ (aC:List Value) (n:Nat),Vals xs aC/\h.get? a=some { cls:=.type "list",data:=.seq aC.toArray n}
 | .tup xs=>xs.length<=sizeLine/\∃ aC:List Value,Vals xs aC/\IsTup h a aC.toArray
 | .dK kvs=>kvs.length<=sizeLine/\(a == sysModules)=false/\∃ vs,KV kvs vs/\h.DictOf (cH P w) a vs
 | .dT kvs=>kvs.length<=sizeLine/\(a == sysModules)=false/\∃ xs:List (List Key×Addr×Value),
     Paired (fun(p:List Key×V) (q:List Key×Addr×Value)=>p.1=q.1/\H q.2.1=some (.tup (p.1.map kV))/\RelV p.2 q.2.2) kvs xs /\
     ∃ o es ep,h.get? a=some o/\o.ExactDict/\o.data=.dict es ep/\es.toList=xs.map (entryOfKey (tupleKind (cH P w)))/\(xs.map (·.1)).Nodup
 | .set S n=>h.SetOf (intKind P w) a S n
 | .ins C dx fs=>H dx=some (.own a)/\fs.length<=1000/\dx≠a/\h.get? a=some (W.instObj C dx) /\
     ∃ mA,h.Ns1 dx mA/\(∀ f,oX (fs.lookup f) (mA f))/\PySem.Within mA (fs.map (·.1))
 | .own _=>∃ o,h.get? a=some o
 | .xd fs=>∃ mA,h.Ns1 a mA/\∀ f,oX (fs.lookup f) (mA f)
 | .VU lo hi=>∃ t u v,h.get? a=some { cls:=.type "range",data:=.fields #[.int lo t,.int hi u,.int 1 v]}
 | .bC o u=>h.get? a=some o/\aJ H h a u
 | .Ob ps=>h.get? a=some { cls:=.none,data:=.fields ps}
 | .met f x=>h.get? a=some (W.methodObj (.ref f) (.ref x))
 | .ext φ=>φ h/\(∃ o,h.get? a=some o)/\∀ h1 h2:Heap,φ h1->(∀ o,h1.get? a=some o->h2.get? a=some o)->φ h2
 | .memo ls=>(∃ o,h.get? a=some o)/\∃ n,0 < n/\uz H h a ls (List.replicate ls.length n)
 | .bA ls ns=>(∃ o,h.get? a=some o)/\uz H h a ls ns
 | .part _=>∃ o,h.get? a=some o
 | .kd tg o kvs=>h.get? a=some o/\(kvs.length<=sizeLine/\(a == sysModules)=false/\∃ vs,KV kvs vs/\h.DictOf (cH P w) a vs) /\
     ∀ p i,tg=some (p,i)->lu (H p)/\∃ aC c,h.get? p=some { cls:=.type "list",data:=.seq (aC:List Value).toArray c}/\aC[i]?=some (.ref a)
 | .kx o u=>h.get? a=some o/\aJ H h a u
noncomputable def qb (H:Hp)(h:Heap):Prop:=∀ a o,H a=some o->aJ P w H h a o
end
section
variable {P:Program}{w:World}{H H':Hp}{h h':Heap}{a:Addr}{o:HO}
theorem aJ.lt (x:aJ P w H h a o):a < h.objs.size:=by
 cases o with
 | lst xs=>obtain⟨_,_,_,_,e⟩:=x;exact Heap.lt_size e
 | tup xs=>obtain⟨_,_,_,p⟩:=x;exact p.lt
 | dK kvs=>obtain⟨_,_,_,_,o,_,_,e,_⟩:=x;exact Heap.lt_size e
 | dT kvs=>obtain⟨_,_,_,_,o,_,_,e,_⟩:=x;exact Heap.lt_size e
 | set S n=>obtain⟨o,_,_,_,e,_⟩:=x;exact Heap.lt_size e
 | ins C dx fs=>obtain⟨_,_,_,e,_⟩:=x;exact Heap.lt_size e
 | own y=>obtain⟨_,e⟩:=x;exact Heap.lt_size e
 | xd fs=>obtain⟨_,⟨_,_,_,e,_⟩,_⟩:=x;exact Heap.lt_size e
 | VU lo hi=>obtain⟨_,_,_,e⟩:=x;exact Heap.lt_size e
 | bC ob u=>obtain⟨e,_⟩:=x;exact Heap.lt_size e
 | Ob ps=>exact Heap.lt_size (show h.get? a=some _ from x)
 | met f y=>exact Heap.lt_size (show h.get? a=some _ from x)
 | ext φ=>obtain⟨_,⟨_,e⟩,_⟩:=x;exact Heap.lt_size e
 | memo ls=>obtain⟨⟨_,e⟩,_⟩:=x;exact Heap.lt_size e
 | bA ls ns=>obtain⟨⟨_,e⟩,_⟩:=x;exact Heap.lt_size e
 | part y=>obtain⟨_,e⟩:=x;exact Heap.lt_size e
 | kd tg ob kvs=>exact Heap.lt_size x.1
 | kx ob u=>exact Heap.lt_size x.1
theorem Paired.Od {α β:Type}{F G:α->β->Prop}:∀ {l₁:List α} {l₂:List β},Paired F l₁ l₂->(∀ a b,F a b->G a b)->Paired G l₁ l₂
 | _,_,.nil,_=>.nil
 | _,_,.cons r t,f=>.cons (f _ _ r) (Paired.Od t f)
structure Kp (H H':Hp):Prop where
 st:∀ b u,H b=some u->Kept u->H' b=some u
 mem:∀ b,lu (H b)->lu (H' b)
 part:∀ b x,H b=some (.part x)->H' b=some (.part x)
theorem Kp.kd (kp:Kp H H')(b:Addr)(tg:Option (Addr×Nat))(o:Obj)(kvs:List (Key×V))(e:H b=some (.kd tg o kvs)):H' b=some (.kd tg o kvs):=kp.st b _ e trivial
theorem Kp.refl:Kp H H:=⟨fun _ _ e _=>e,fun _ e=>e,fun _ _ e=>e⟩
theorem Kp.of (s:∀ b u,H b=some u->H' b=some u):Kp H H':=⟨fun _ _ e _=>s _ _ e,fun b e=>by
 cases q:H b with
 | none=>rw[q] at e;exact e.elim
 | some u=>rw[s b u q,<- q];exact e,fun _ _ e=>s _ _ e⟩
theorem TupAt.kp {K:W.Frag}{xs:List V}(k:∀ b u,H b=some u->Kept u->H' b=some u)(h:TupAt K H a xs):TupAt K H' a xs:=h.imp (fun e=>k _ _ e trivial) id
mutual
theorem Fz.st (k:∀ b u,H b=some u->Kept u->H' b=some u):∀ {v:V} {d:FD},Fz H v d->Fz H' v d
 | _,_,.int i=>.int i
 | _,_,.eB e=>.eB (k _ _ e trivial)
 | _,_,.lst e=>.lst (k _ _ e trivial)
 | _,_,.tup e=>.tup (e.kp k)
 | _,_,.obj e f=>.obj (k _ _ e trivial) (Gm.st k f)
theorem Gm.st (k:∀ b u,H b=some u->Kept u->H' b=some u):∀ {v:List (Str×V)} {d:List (Str×FD)},Gm H v d->Gm H' v d
 | _,_,.nil=>.nil
 | _,_,.cons h t=>.cons (Fz.st k h) (Gm.st k t)
end
theorem Fz.kp (kp:Kp H H'){v:V}{d:FD}(h:Fz H v d):Fz H' v d:=h.st kp.st
theorem qU.kp (kp:Kp H H'):∀ {kvs:List (Key×V)} {kds:List (Key×FD)},qU H kvs kds->qU H' kvs kds
 | _,_,.nil=>.nil
 | _,_,.cons h t=>.cons (h.kp kp) (qU.kp kp t)
theorem Dl.kp {p:Addr}{f:Nat->List (Key×FD)}{n:Nat}(kp:Kp H H')(x:Dl H h p f n)(k:∀ u,h.get? p=some u->h'.get? p=some u):Dl H' h' p f n:=by
 obtain⟨aC,c,e,hl,hi⟩:=x
 exact⟨aC,c,k _ e,hl,fun i hn=>let ⟨q,o,kvs,h1,h2,h3⟩:=hi i hn;⟨q,o,kvs,h1,kp.kd _ _ _ _ h2,h3.kp kp⟩⟩
theorem uz.kp {ls:jL}{ns:List Nat}(kp:Kp H H')(x:uz H h a ls ns)(k:∀ b u,b=a\/H b=some (.part a)->h.get? b=some u->h'.get? b=some u):uz H' h' a ls ns:=by
 obtain⟨h1,h2,h3,h4,h5,h6⟩:=x
 exact⟨h1,h2,fun j p f e=>(h3 j p f e).imp id fun z=>kp.part _ _ z,h4,h5,fun j p f n e1 e2=>(h6 j p f n e1 e2).kp kp fun u e=>k p u (h3 j p f e1) e⟩
noncomputable def RP (h:Heap)(p:Addr)(i:Nat)(c:Addr):Prop:=∃ aC n,h.get? p=some { cls:=.type "list",data:=.seq (aC:List Value).toArray n}/\aC[i]?=some (.ref c)
theorem aJ.M8 (x:aJ P w H h a o)(k:∀ b u,(b=a\/H b=some (.own a)\/H b=some (.part a))->h.get? b=some u->h'.get? b=some u)(ho:∀ b,H b=some (.own a)->H' b=some (.own a))(ht:∀ b xs,H b=some (.tup xs)->H' b=some (.tup xs))(kp:Kp H H')(hl:∀ p i c,lu (H p)->RP h p i c->RP h' p i c):aJ P w H' h' a o:=by
 induction o with
 | lst xs=>obtain⟨z,aC,n,r,e⟩:=x;exact⟨z,aC,n,r,k _ _ (.inl rfl) e⟩
 | tup xs=>obtain⟨z,aC,r,ob,e,c⟩:=x;exact⟨z,aC,r,ob,k _ _ (.inl rfl) e,c⟩
 | dK kvs=>obtain⟨z,y,vs,r,ob,es,ep,e,c⟩:=x;exact⟨z,y,vs,r,ob,es,ep,k _ _ (.inl rfl) e,c⟩
 | dT kvs=>
   obtain⟨z,y,xs,r,ob,es,ep,e,c⟩:=x
   exact⟨z,y,xs,Paired.Od r fun p q z=>⟨z.1,ht _ _ z.2.1,z.2.2⟩,ob,es,ep,k _ _ (.inl rfl) e,c⟩
 | set S n=>obtain⟨ob,es,ep,t,e,c⟩:=x;exact⟨ob,es,ep,t,k _ _ (.inl rfl) e,c⟩
 | ins C dx fs=>
   obtain⟨d,z,ne,e,mA,⟨od,es,ep,e2,c⟩,r⟩:=x
   exact⟨ho _ d,z,ne,k _ _ (.inl rfl) e,mA,⟨od,es,ep,k _ _ (.inr (.inl d)) e2,c⟩,r⟩
 | own y=>obtain⟨ob,e⟩:=x;exact⟨ob,k _ _ (.inl rfl) e⟩
 | xd fs=>obtain⟨mA,⟨od,es,ep,e,c⟩,r⟩:=x;exact⟨mA,⟨od,es,ep,k _ _ (.inl rfl) e,c⟩,r⟩
 | VU lo hi=>obtain⟨t,u,v,e⟩:=x;exact⟨t,u,v,k _ _ (.inl rfl) e⟩
 | bC ob u ih=>obtain⟨e,q⟩:=x;exact⟨k _ _ (.inl rfl) e,ih q⟩
 | Ob ps=>
   have e:h.get? a=some { cls:=.none,data:=.fields ps}:=x
   show h'.get? a=some { cls:=.none,data:=.fields ps}
   exact k a _ (.inl rfl) e
 | met f y=>
   have e:h.get? a=some (W.methodObj (.ref f) (.ref y)):=x
   show h'.get? a=some (W.methodObj (.ref f) (.ref y))
   exact k a _ (.inl rfl) e
 | ext φ=>obtain⟨p,⟨o,e⟩,st⟩:=x;exact⟨st _ _ p fun o q=>k _ _ (.inl rfl) q,⟨o,k _ _ (.inl rfl) e⟩,st⟩
 | memo ls=>
   obtain⟨⟨o,e⟩,n,hn,q⟩:=x
   refine⟨⟨o,k _ _ (.inl rfl) e⟩,n,hn,q.kp kp fun b u hb=>k b u ?_⟩
   rcases hb with z | z
   . exact .inl z
   . exact .inr (.inr z)
 | bA ls ns=>
   obtain⟨⟨o,e⟩,q⟩:=x
   refine⟨⟨o,k _ _ (.inl rfl) e⟩,q.kp kp fun b u hb=>k b u ?_⟩
   rcases hb with z | z
   . exact .inl z
   . exact .inr (.inr z)
 | part y=>obtain⟨o,e⟩:=x;exact⟨o,k _ _ (.inl rfl) e⟩
 | kd tg ob kvs=>
   obtain⟨e,⟨z,y,vs,r,Z8,es,ep,e',c⟩,q⟩:=x
   refine⟨k _ _ (.inl rfl) e,⟨z,y,vs,r,Z8,es,ep,k _ _ (.inl rfl) e',c⟩,fun p i ht=>?_⟩
   obtain⟨q1,q2⟩:=q p i ht
   exact⟨kp.mem _ q1,hl p i _ q1 q2⟩
 | kx ob u ih=>obtain⟨e,q⟩:=x;exact⟨k _ _ (.inl rfl) e,ih q⟩
theorem aJ.xS (x:aJ P w H h a o)(k:∀ b u,(b=a\/H b=some (.own a)\/lu (H b))->h.get? b=some u->h'.get? b=some u)(ho:∀ b,H b=some (.own a)->H' b=some (.own a))(ht:∀ b xs,H b=some (.tup xs)->H' b=some (.tup xs))(kp:Kp H H'):aJ P w H' h' a o:=
 x.M8 (fun b u hb=>k b u (by
   rcases hb with z | z | z
   . exact .inl z
   . exact .inr (.inl z)
   . exact .inr (.inr (by rw[z];trivial)))) ho ht kp fun p i c hm ⟨aC,n,e,q⟩=>⟨aC,n,k p _ (.inr (.inr hm)) e,q⟩
theorem qb.lt (x:qb P w H h)(e:H a=some o):a < h.objs.size:=(x a o e).lt
theorem qb.fresh (x:qb P w H h)(e:h.objs.size<=a):H a=none:=by
 cases q:H a with
 | none=>rfl
 | some u=>exact absurd (Nat.lt_of_lt_of_le (x.lt q) e) (Nat.lt_irrefl _)
theorem qb.kept (x:qb P w H h)(k:∀ b u,h.get? b=some u->h'.get? b=some u):qb P w H h':=fun a o e=>
 (x a o e).xS (fun b u _ q=>k b u q) (fun _ q=>q) (fun _ _ q=>q) .refl
theorem qb.laid (x:qb P w H h)(k:∀ b u,h.get? b=some u->h'.get? b=some u)(hp:h.objs.size<=a)(new:aJ P w (upd H a o) h' a o):qb P w (upd H a o) h':=fun b u e=>by
 have hn:=x.fresh hp
 by_cases hb:b=a
 . subst hb;rw[ak] at e;cases e;exact new
 . rw[ag hb] at e
   exact(x b u e).xS (fun c v _ q=>k c v q) (fun c q=>by rw[ag (aw q hn)];exact q) (fun c xs q=>by rw[ag (aw q hn)];exact q) (.of fun c u q=>by rw[ag (aw q hn)];exact q)
end
noncomputable def Rd (H:Hp)(a:Addr)(u:HO):Prop:=H a=some u\/(∃ o,H a=some (.bC o u))\/(∃ tg o kvs,H a=some (.kd tg o kvs)/\u=.dK kvs)\/∃ o,H a=some (.kx o u)
theorem Rd.of {H:Hp}{a:Addr}{u:HO}(h:H a=some u):Rd H a u:=.inl h
theorem Rd.ok {P:Program}{w:World}{H:Hp}{h:Heap}{a:Addr}{u:HO}(r:Rd H a u)(x:qb P w H h):aJ P w H h a u:=by
 rcases r with r | ⟨o,r⟩ | ⟨tg,o,kvs,r,rfl⟩ | ⟨o,r⟩
 . exact x a u r
 . obtain⟨_,q⟩:=x a _ r
   exact q
 . obtain⟨_,q,_⟩:=x a _ r
   exact q
 . obtain⟨_,q⟩:=x a _ r
   exact q
noncomputable def Ro:Option HO->Prop
 | some (.lst _)=>True
 | some (.dK _)=>True
 | some (.dT _)=>True
 | some (.set _ _)=>True
 | some (.ins _ _ _)=>True
 | some (.ext _)=>True
 | _=>False
section
variable {P:Program}{w:World}{H:Hp}{h h':Heap}{x e:Addr}{o':HO}
theorem qb.write (ok:qb P w H h)(mu:Ro (H x))(he:e=x\/H e=some (.own x))(k:∀ b u,b≠e->h.get? b=some u->h'.get? b=some u)(Rp:∃ u,h'.get? e=some u)(new:aJ P w (upd H x o') h' x o'):qb P w (upd H x o') h':=fun b u q=>by
 have xU:∀ c y,H c=some (.own y)->c≠x:=fun c y r z=>by subst z;rw[r] at mu;exact mu
 have VV:∀ c xs,H c=some (.tup xs)->c≠x:=fun c xs r z=>by subst z;rw[r] at mu;exact mu
 by_cases hb:b=x
 . subst hb;rw[ak] at q;cases q;exact new
 . rw[ag hb] at q
   by_cases tF:b=e
   . have q':H b=some (.own x):=by
       rcases he with z | z
       . exact absurd (tF.trans z) hb
       . rw[tF];exact z
     rw[q] at q';cases q'
     obtain⟨v,hv⟩:=Rp
     exact⟨v,by rw[tF];exact hv⟩
   . have YD:∀ c u,H c=some u->¬ Ro (some u)->c≠x:=fun c u r nm z=>by subst z;rw[r] at mu;exact nm mu
     have YE:∀ c,lu (H c)->c≠x:=fun c r z=>by
       subst z
       cases qq:H c with
       | none=>rw[qq] at r;exact r
       | some u=>rw[qq] at r mu;cases u <;> first | exact mu | exact r
     refine(ok b u q).xS (fun c v hc r=>k c v ?_ r) (fun c r=>by rw[ag (xU c b r)];exact r) (fun c xs r=>by rw[ag (VV c xs r)];exact r) ⟨fun c u r kq=>by rw[ag (YD c _ r (by cases u <;> first | exact(show False from kq).elim | exact fun z=>z))];exact r,fun c r=>by rw[ag (YE c r)];exact r,fun c y r=>by rw[ag (YD c _ r fun z=>z)];exact r⟩
     rcases hc with rfl | hc | hc
     . exact tF
     . rintro rfl
       rcases he with z | z
       . exact xU c b hc z
       . rw[hc] at z;cases z;exact hb rfl
     . rintro rfl
       rcases he with z | z
       . exact YE c hc z
       . rw[z] at hc;exact hc
end
structure Un (fs ex:List Addr)(H H':Hp)(h h':Heap):Prop where
 keep:∀ b o,h.get? b=some o->H b=none->b ∉ fs->b ∉ ex->h'.get? b=some o
 slot:∀ b o,h.get? b=some o->H b=none->b∈fs->b ∉ ex->∃ sl,h'.get? b=some { o with slots:=sl}
 free:∀ b o,h.get? b=some o->H b=none->b ∉ ex->H' b=none
 there:∀ b o,h.get? b=some o->b ∉ ex->∃ o',h'.get? b=some o'
 zR:∀ b xs,H b=some (.tup xs)->H' b=some (.tup xs)
 xV:∀ b o u,H b=some (.bC o u)->H' b=some (.bC o u)
 zS:∀ b ps,H b=some (.Ob ps)->∃ more,H' b=some (.Ob (ps ++ more))
section
variable {fs ex:List Addr}{H H1:Hp}{h h1 h':Heap}{a x e:Addr}{o:HO}
theorem Un.any (u:Un fs ex H H1 h h1){b:Addr}{ob:Obj}(q:h.get? b=some ob)(n:H b=none)(hx:b ∉ ex):∃ sl,h1.get? b=some { ob with slots:=sl}:=by
 by_cases hb:b∈fs
 . exact u.slot b ob q n hb hx
 . exact⟨ob.slots,u.keep b ob q n hb hx⟩
theorem Un.kept (k:∀ b u,h.get? b=some u->h'.get? b=some u):Un fs ex H H h h':=
 ⟨fun b ob q _ _ _=>k b ob q,fun b ob q _ _ _=>⟨ob.slots,k b ob q⟩,fun _ _ _ n _=>n,fun b ob q _=>⟨ob,k b ob q⟩,fun _ _ q=>q,fun _ _ _ q=>q,fun _ ps q=>⟨#[],by rw[q];simp⟩⟩
theorem Un.refl:Un fs ex H H h h:=Un.kept fun _ _ q=>q
theorem Un.laid (k:∀ b u,h.get? b=some u->h'.get? b=some u)(hp:h.objs.size<=a)(hn:H a=none):Un fs ex H (upd H a o) h h' where
 keep:=fun b u q _ _ _=>k b u q
 slot:=fun b u q _ _ _=>⟨u.slots,k b u q⟩
 free:=fun b u q n _=>by rw[ag (Nat.ne_of_lt (Nat.lt_of_lt_of_le (Heap.lt_size q) hp))];exact n
 there:=fun b u q _=>⟨u,k b u q⟩
 zR:=fun b xs q=>by rw[ag (aw q hn)];exact q
 xV:=fun b u xs q=>by rw[ag (aw q hn)];exact q
 zS:=fun b ps q=>⟨#[],by rw[ag (aw q hn),q];simp⟩
theorem Un.write (mu:Ro (H x))(he:e=x\/H e=some (.own x))(k:∀ b u,b≠e->h.get? b=some u->h'.get? b=some u)(Rp:∃ u,h'.get? e=some u):Un fs ex H (upd H x o) h h':=by
 have hx:∀ b,H b=none->b≠x:=fun b n z=>by subst z;rw[n] at mu;exact mu
 have hb:∀ b,H b=none->b≠e:=fun b n z=>by
   subst z
   rcases he with r | r
   . exact hx b n r
   . rw[n] at r;cases r
 have hm:∀ b u,H b=some u->¬ Ro (some u)->b≠x:=fun b u q nm z=>by subst z;rw[q] at mu;exact nm mu
 refine⟨fun b u q n _ _=>k b u (hb b n) q,fun b u q n _ _=>⟨u.slots,k b u (hb b n) q⟩,fun b u q n _=>by rw[ag (hx b n)];exact n,fun b u q _=>?_,
   fun b xs q=>by rw[ag (hm b _ q fun z=>z)];exact q,fun b u xs q=>by rw[ag (hm b _ q fun z=>z)];exact q,fun b ps q=>⟨#[],by rw[ag (hm b _ q fun z=>z),q];simp⟩⟩
 by_cases tF:b=e
 . subst tF;exact Rp
 . exact⟨u,k b u tF q⟩
end
noncomputable def bD (h:Heap)(H:Hp):List Addr:=(List.range h.objs.size).filter fun a=>(H a).isSome
noncomputable def xW (h:Heap)(H:Hp):Heap:=PySem.W.hideAll h (bD h H)
theorem EI (h:Heap)(H:Hp):(xW h H).objs.size=h.objs.size:=W.hideAll_size _ _
theorem Gn {h:Heap}{H:Hp}{b:Addr}{o:Obj}(e:h.get? b=some o)(n:H b=none):(xW h H).get? b=some o:=
 W.hideAll_get _ e fun hm=>by
   have q:(H b).isSome=true:=(List.mem_filter.mp hm).2
   rw[n] at q;simp at q
theorem Kx {h:Heap}{H:Hp}{b:Addr}{o:Obj}(e:(xW h H).get? b=some o):h.get? b=some o/\H b=none:=by
 have e':h.get? b=some o:=W.of_hideAll (bD h H) e
 refine⟨e',?_⟩
 cases q:H b with
 | none=>rfl
 | some x=>
   have hm:b∈bD h H:=List.mem_filter.mpr ⟨List.mem_range.mpr (Heap.lt_size e'),by simp[q]⟩
   have z:(xW h H).get? b=none:=W.hideAll_none (bD h H) hm
   rw[z] at e;cases e
noncomputable def Ky (g h:Heap)(L:Addr):List (Addr×Obj):=(List.range h.objs.size).filterMap fun a=>if a=L\/(g.get? a).isSome=true then none else (h.get? a).map fun o=>(a,o)
noncomputable def rest (g h:Heap)(L d:Addr):List (Addr×Obj):=(Ky g h L).filter fun p=>decide (p.1≠d)
structure Mod (K:W.Frag)(mg:Str->Option Value)(base:Heap):Prop where
 RS:K.In base
 glob:base.Ns mainGlobals mg
 blt:∃ mb,base.Ns builtinsNs mb/\∀ x:Str,x≠"__name__"->mb x=bootBuiltins x
 nolimit:base.NoLimit
structure Cx where
 prog:Program
 w:World
 K:W.Frag
 mg:Str->Option Value
 base:Heap
 A:Around
 N:List Str
 s₀:Shared
 H₀:Hp
 env:Env
 outer:List Env
 stack:List Env
 ex:List Addr
 fn:Str->Bool
 calm:Bool
 pn:List (Addr×Obj)
 xe:Value->Shared->Prop
noncomputable def Gp (l:List Env):List Addr:=l.filterMap (·.frame)
noncomputable abbrev Cx.fs (X:Cx):List Addr:=Gp X.outer
noncomputable def uA (sc:Scope)(x:Str):Prop:=sc.names.lookup x=some .local\/sc.names.lookup x=some .cell\/sc.names.lookup x=some .free
noncomputable def Loc (sc:Scope)(x:Str):Prop:=sc.names.lookup x=some .local\/sc.names.lookup x=some .cell
noncomputable def Look (env:Env)(h:Heap)(m:Str->Option Value)(x:Str)(u:Value):Prop:=
 (env.kindOf x=some .local/\m x=some u)\/((env.kindOf x=some .cell\/env.kindOf x=some .free)/\∃ c,env.cells.lookup x=some c/\h.IsCell c (some u))
structure Cx.Ok (X:Cx):Prop where
 mod:Mod X.K X.mg X.base
 kind:X.env.scope.kind=.function
 glob:X.env.globals=mainGlobals
 blt:X.env.builtins=builtinsNs
 above:X.s₀.heap.objs.size<=X.env.locals
 inj:∀ x y c,X.env.cells.lookup x=some c->X.env.cells.lookup y=some c->x=y
 has:∀ x,(X.env.kindOf x=some .cell\/X.env.kindOf x=some .free)->∃ c,X.env.cells.lookup x=some c
 Rq:∀ x c,X.fn x=true->X.env.cells.lookup x=some c->X.s₀.heap.objs.size<=c
 hd:X.calm=true->X.A.handled=none
 frames:X.A.frames=some X.stack
 RT:X.stack=X.outer\/(X.stack=X.env::X.outer/\X.env.frame=some X.env.locals)
 Kz:∀ b∈X.ex,b≠X.env.locals/\∀ x c,X.env.cells.lookup x=some c->c≠b
 bs:∀ b o,X.base.get? b=some o->X.s₀.heap.get? b=some o/\X.H₀ b=none
 Dm:X.base.objs.size<=X.s₀.heap.objs.size
 zT:∀ b o,X.base.get? b=some o->b ∉ X.ex
 zU:∀ b∈X.ex,b ∉ X.fs
 qV:X.s₀.heap.FunFrames X.base X.outer
 M9:∀ b∈X.fs,X.H₀ b=none
structure Inv (X:Cx)(pins:List (Addr×Obj))(σ:List (Option V))(H:Hp)(s:Shared):Prop where
 ok:X.Ok
 os:s.os=X.s₀.os
 bare:AllBare s.gens
 base:Un X.fs X.ex X.H₀ H X.s₀.heap s.heap
 loc:∃ m,s.heap.Ns X.env.locals m/\∀ (i:Nat) (x:Str) (v:V),X.N[i]?=some x->σ[i]?=some (some v)->uA X.env.scope x->∃ u,RelV v u/\Look X.env s.heap m x u
 cell:∀ x c,X.env.cells.lookup x=some c->∃ v,s.heap.IsCell c v
 free:H X.env.locals=none
 o9:∀ x c,X.env.cells.lookup x=some c->H c=none
 pin:∀ p∈X.pn ++ pins,s.heap.get? p.1=some p.2/\H p.1=none/\p.1≠X.env.locals/\p.1 ∉ X.fs/\∀ v,p.2.data≠.cell v
 a5:qb X.prog X.w H s.heap
 len:σ.length=X.N.length
section
variable {X:Cx}{pins:List (Addr×Obj)}{σ:List (Option V)}{H H':Hp}{s:Shared}{h':Heap}
theorem Cx.Ok.Oe (ok:X.Ok){b:Addr}{o:Obj}(e:X.base.get? b=some o):b ∉ X.fs:=fun hb=>by
 have:=(ok.qV.mem hb).1
 rw[e] at this;cases this
theorem Inv.bs (I:Inv X pins σ H s):∀ b o,X.base.get? b=some o->s.heap.get? b=some o/\H b=none:=fun b o e=>
 ⟨I.base.keep b o (I.ok.bs b o e).1 (I.ok.bs b o e).2 (I.ok.Oe e) (I.ok.zT b o e),I.base.free b o (I.ok.bs b o e).1 (I.ok.bs b o e).2 (I.ok.zT b o e)⟩
theorem Inv.bk (I:Inv X pins σ H s):∀ b o,X.base.get? b=some o->s.heap.get? b=some o:=fun b o e=>(I.bs b o e).1
theorem Inv.mod (I:Inv X pins σ H s):Mod X.K X.mg X.base:=I.ok.mod
theorem Inv.mf (I:Inv X pins σ H s):X.K.In s.heap:=I.ok.mod.RS.keeps I.bk
theorem Inv.lt (I:Inv X pins σ H s):X.env.locals < s.heap.objs.size:=let ⟨_,hn,_⟩:=I.loc;hn.lt
theorem Inv.sz (I:Inv X pins σ H s):X.s₀.heap.objs.size<=s.heap.objs.size:=Nat.le_trans I.ok.above (Nat.le_of_lt I.lt)
theorem Inv.VW (I:Inv X pins σ H s){a:Addr}(h:s.heap.objs.size<=a):a ∉ X.fs:=fun hb=>by
 obtain⟨_,o,ho,_⟩:=I.ok.qV.mem hb
 exact absurd (Nat.lt_of_lt_of_le (Heap.lt_size ho) (Nat.le_trans I.sz h)) (Nat.lt_irrefl _)
theorem Inv.BP (I:Inv X pins σ H s):∀ x c,X.env.cells.lookup x=some c->c≠X.env.locals:=fun x c e z=>by
 obtain⟨v,o,ho,hd⟩:=I.cell x c e
 obtain⟨m,⟨o',es,ep,zV,Rr,_⟩,_⟩:=I.loc
 rw[z,zV] at ho;cases ho;rw[Rr] at hd;cases hd
theorem Inv.qV (I:Inv X pins σ H s):s.heap.FunFrames X.base X.outer:=by
 have all:∀ (l:List Env),(∀ b∈Gp l,b∈X.fs)->X.s₀.heap.FunFrames X.base l->s.heap.FunFrames X.base l:=by
   intro l
   induction l with
   | nil=>intro _ _;trivial
   | cons env r ih=>
     intro hs hl
     obtain⟨hk,⟨L,o,hf,hn,ho,hd⟩,hr⟩:=hl
     have hL:L∈X.fs:=hs L (by unfold Gp;rw[List.filterMap_cons,hf];exact List.mem_cons_self)
     obtain⟨sl,e⟩:=I.base.slot L o ho (I.ok.M9 L hL) hL fun z=>I.ok.zU L z hL
     exact⟨hk,⟨L,_,hf,hn,e,hd⟩,ih (fun b hb=>hs b (by unfold Gp;rw[List.filterMap_cons,hf];exact List.mem_cons_of_mem _ hb)) hr⟩
 exact all X.outer (fun _ hb=>hb) I.ok.qV
theorem Inv.stack (I:Inv X pins σ H s):s.heap.FunFrames X.base X.stack:=by
 rcases I.ok.RT with e | ⟨e,hf⟩
 . rw[e];exact I.qV
 . rw[e]
   obtain⟨m,hn,_⟩:=I.loc
   refine .cons (by rw[I.ok.kind];decide) hf hn ?_ I.qV
   exact Heap.get?_none_of_le (Nat.le_trans I.ok.Dm I.ok.above)
theorem Inv.uB (I:Inv X pins σ H s):∀ b∈Gp X.stack,b∈X.env.locals::X.fs:=fun b hb=>by
 rcases I.ok.RT with e | ⟨e,hf⟩
 . rw[e] at hb;exact List.mem_cons_of_mem _ hb
 . rw[e] at hb
   unfold Gp at hb
   rw[List.filterMap_cons,hf] at hb
   exact hb
theorem Inv.tG (I:Inv X pins σ H s):∀ b∈Gp X.stack,H b=none:=fun b hb=>by
 rcases List.mem_cons.mp (I.uB b hb) with e | hb
 . rw[e];exact I.free
 . obtain⟨_,o,ho,_⟩:=I.ok.qV.mem hb
   exact I.base.free b o ho (I.ok.M9 b hb) fun z=>I.ok.zU b z hb
theorem Inv.step {g':Array GenState}{t':Nat}{d':Drawn}{ch:List Addr}(I:Inv X pins σ H s)(zK:∀ b∈ch,(b∈X.ex\/X.s₀.heap.objs.size<=b)/\b≠X.env.locals/\(∀ x c,X.env.cells.lookup x=some c->c≠b)/\∀ p∈X.pn ++ pins,p.1≠b)(keep:∀ b o,b≠X.env.locals->b ∉ X.fs->b ∉ ch->s.heap.get? b=some o->H b=none->h'.get? b=some o)(slot:∀ b o,b≠X.env.locals->b∈X.fs->b ∉ ch->s.heap.get? b=some o->H b=none->∃ sl,h'.get? b=some { o with slots:=sl})(free:∀ b o,b ∉ ch->s.heap.get? b=some o->H b=none->H' b=none)(there:∀ b o,b ∉ ch->s.heap.get? b=some o->∃ o',h'.get? b=some o')(zR:∀ b xs,H b=some (.tup xs)->H' b=some (.tup xs))(xV:∀ b o u,H b=some (.bC o u)->H' b=some (.bC o u))(zS:∀ b ps,H b=some (.Ob ps)->∃ more,H' b=some (.Ob (ps ++ more)))(ns:∀ m,s.heap.Ns X.env.locals m->h'.Ns X.env.locals m)(a5:qb X.prog X.w H' h')(hg:AllBare g'):Inv X pins σ H' { s with heap:=h',gens:=g',drawn:=d',toks:=t'}:=by
 have YF:∀ b o,X.s₀.heap.get? b=some o->b≠X.env.locals:=fun b o e=>Nat.ne_of_lt (Nat.lt_of_lt_of_le (Heap.lt_size e) I.ok.above)
 have Vd:∀ b o,X.s₀.heap.get? b=some o->b ∉ X.ex->b ∉ ch:=fun b o e hx hb=>by
   rcases (zK b hb).1 with z | z
   . exact hx z
   . exact absurd (Nat.lt_of_lt_of_le (Heap.lt_size e) z) (Nat.lt_irrefl _)
 have cellK:∀ x c,X.env.cells.lookup x=some c->∀ v,s.heap.IsCell c v->h'.IsCell c v:=fun x c e v ⟨o,ho,hd⟩=>by
   have RU:c ∉ ch:=fun z=>(zK c z).2.2.1 x c e rfl
   by_cases hc:c∈X.fs
   . obtain⟨sl,q⟩:=slot c o (I.BP x c e) hc RU ho (I.o9 x c e)
     exact⟨_,q,hd⟩
   . exact⟨o,keep c o (I.BP x c e) hc RU ho (I.o9 x c e),hd⟩
 refine⟨I.ok,I.os,hg,⟨fun b o e n hb hx=>?_,fun b o e n hb hx=>?_,fun b o e n hx=>?_,fun b o e hx=>?_,fun b xs e=>zR b xs (I.base.zR b xs e),fun b o xs e=>xV b o xs (I.base.xV b o xs e),fun b ps e=>?_⟩,?_,fun x c e=>?_,?_,fun x c e=>?_,fun p hp=>?_,a5,I.len⟩
 . exact keep b o (YF b o e) hb (Vd b o e hx) (I.base.keep b o e n hb hx) (I.base.free b o e n hx)
 . obtain⟨sl,e1⟩:=I.base.slot b o e n hb hx
   obtain⟨Z9,e2⟩:=slot b _ (YF b o e) hb (Vd b o e hx) e1 (I.base.free b o e n hx)
   exact⟨Z9,e2⟩
 . obtain⟨o',e1⟩:=I.base.there b o e hx
   exact free b o' (Vd b o e hx) e1 (I.base.free b o e n hx)
 . obtain⟨o',e1⟩:=I.base.there b o e hx
   exact there b o' (Vd b o e hx) e1
 . obtain⟨m1,e1⟩:=I.base.zS b ps e
   obtain⟨m2,e2⟩:=zS b _ e1
   exact⟨m1 ++ m2,by rw[e2,Array.append_assoc]⟩
 . obtain⟨m,hn,hl⟩:=I.loc
   refine⟨m,ns m hn,fun i x v e1 e2 e3=>?_⟩
   obtain⟨u,r,l⟩:=hl i x v e1 e2 e3
   refine⟨u,r,?_⟩
   rcases l with l | ⟨k,c,e,z⟩
   . exact .inl l
   . exact .inr ⟨k,c,e,cellK x c e _ z⟩
 . obtain⟨v,z⟩:=I.cell x c e
   exact⟨v,cellK x c e v z⟩
 . obtain⟨m,⟨o,_,_,ho,_⟩,_⟩:=I.loc
   exact free _ o (fun z=>(zK _ z).2.1 rfl) ho I.free
 . obtain⟨v,o,ho,hd⟩:=I.cell x c e
   exact free c o (fun z=>(zK c z).2.2.1 x c e rfl) ho (I.o9 x c e)
 . obtain⟨e,n,ne,nf,d⟩:=I.pin p hp
   have RU:p.1 ∉ ch:=fun z=>(zK p.1 z).2.2.2 p hp rfl
   exact⟨keep p.1 p.2 ne nf RU e n,free p.1 p.2 RU e n,ne,nf,d⟩
theorem Inv.un {t':Nat}(I:Inv X pins σ H s)(u:Un X.fs [] H H' s.heap h')(a5:qb X.prog X.w H' h'):Inv X pins σ H' { s with heap:=h',toks:=t'}:=by
 obtain⟨m,⟨o,es,ep,ho,r⟩,_⟩:=id I.loc
 obtain⟨sl,hL⟩:=u.any ho I.free (by simp)
 exact I.step (g':=s.gens) (d':=s.drawn) (ch:=[]) (fun _ z=>nomatch z) (fun b o _ hb _ e n=>u.keep b o e n hb (by simp)) (fun b o _ hb _ e n=>u.slot b o e n hb (by simp)) (fun b o _ e n=>u.free b o e n (by simp)) (fun b o _ e=>u.there b o e (by simp)) u.zR u.xV u.zS (fun m' hm=>by
   obtain⟨o',KA,VX,zV,r'⟩:=hm
   rw[ho] at zV;cases zV
   exact⟨_,KA,VX,hL,r'⟩) a5 I.bare
theorem Inv.call {g':Array GenState}{t':Nat}{d':Drawn}{ch:List Addr}(I:Inv X pins σ H s)(u:Un (Gp X.stack) ch H H' s.heap h')(a5:qb X.prog X.w H' h')(hg:AllBare g')(zK:∀ b∈ch,(b∈X.ex\/X.s₀.heap.objs.size<=b)/\b≠X.env.locals/\(∀ x c,X.env.cells.lookup x=some c->c≠b)/\∀ p∈X.pn ++ pins,p.1≠b):Inv X pins σ H' { s with heap:=h',gens:=g',drawn:=d',toks:=t'}:=by
 obtain⟨m,⟨o,es,ep,ho,r⟩,_⟩:=id I.loc
 obtain⟨sl,hL⟩:=u.any ho I.free fun z=>(zK _ z).2.1 rfl
 exact I.step (ch:=ch) zK (fun b o hL hb hc e n=>u.keep b o e n (fun z=>(List.mem_cons.mp (I.uB b z)).elim hL hb) hc) (fun b o _ _ hc e n=>u.any e n hc) (fun b o hc e n=>u.free b o e n hc) (fun b o hc e=>u.there b o e hc) u.zR u.xV u.zS (fun m' hm=>by
   obtain⟨o',KA,VX,zV,r'⟩:=hm
   rw[ho] at zV;cases zV
   exact⟨_,KA,VX,hL,r'⟩) a5 hg
theorem Inv.turned {t':Nat}{it:Addr}(I:Inv X pins σ H s)(k:∀ b o,b≠it->s.heap.get? b=some o->h'.get? b=some o)(hn:H it=none)(hL:it≠X.env.locals)(h1:it∈X.ex\/X.s₀.heap.objs.size<=it)(h2:∀ x c,X.env.cells.lookup x=some c->c≠it)(h3:∀ p∈X.pn ++ pins,p.1≠it):Inv X pins σ H { s with heap:=h',toks:=t'}:=by
 have RV:∀ b u,H b=some u->b≠it:=fun b u e z=>by rw[z,hn] at e;cases e
 refine I.step (g':=s.gens) (d':=s.drawn) (ch:=[it]) (fun b hb=>?_) (fun b o _ _ hc e _=>k b o (fun z=>hc (by simp[z])) e) (fun b o _ _ hc e _=>⟨o.slots,k b o (fun z=>hc (by simp[z])) e⟩) (fun _ _ _ _ n=>n)
   (fun b o hc e=>⟨o,k b o (fun z=>hc (by simp[z])) e⟩) (fun _ _ e=>e) (fun _ _ _ e=>e) (fun b ps e=>⟨#[],by rw[e];simp⟩) (fun m hm=>?_) (fun b u e=>?_) I.bare
 . have e:b=it:=by simpa using hb
   subst e
   exact⟨h1,hL,h2,h3⟩
 . obtain⟨o,es,ep,ho,r⟩:=hm
   exact⟨o,es,ep,k _ o (Ne.symm hL) ho,r⟩
 . refine(I.a5 b u e).xS (fun c v hc q=>k c v ?_ q) (fun _ q=>q) (fun _ _ q=>q) .refl
   rcases hc with z | z | z
   . rw[z];exact RV b u e
   . exact RV c _ z
   . exact fun z'=>by rw[z',hn] at z;exact z
theorem Inv.tok (I:Inv X pins σ H s)(t:Nat):Inv X pins σ H { s with toks:=t}:=I.un (h':=s.heap) (t':=t) Un.refl I.a5
theorem Inv.kept {t':Nat}(I:Inv X pins σ H s)(k:∀ b u,s.heap.get? b=some u->h'.get? b=some u):Inv X pins σ H { s with heap:=h',toks:=t'}:=I.un (Un.kept k) (I.a5.kept k)
theorem Inv.laid {a:Addr}{o:HO}{t':Nat}(I:Inv X pins σ H s)(k:∀ b u,s.heap.get? b=some u->h'.get? b=some u)(hp:s.heap.objs.size<=a)(new:aJ X.prog X.w (upd H a o) h' a o):Inv X pins σ (upd H a o) { s with heap:=h',toks:=t'}:=I.un (Un.laid k hp (I.a5.fresh hp)) (I.a5.laid k hp new)
theorem Inv.write {x e:Addr}{o:HO}{t':Nat}(I:Inv X pins σ H s)(mu:Ro (H x))(he:e=x\/H e=some (.own x))(k:∀ b u,b≠e->s.heap.get? b=some u->h'.get? b=some u)(Rp:∃ u,h'.get? e=some u)(new:aJ X.prog X.w (upd H x o) h' x o):Inv X pins σ (upd H x o) { s with heap:=h',toks:=t'}:=I.un (Un.write mu he k Rp) (I.a5.write mu he k Rp new)
theorem Inv.Dn {Gq:List (Addr×Obj)}(I:Inv X pins σ H s)(h:∀ p∈Gq,s.heap.get? p.1=some p.2/\H p.1=none/\p.1≠X.env.locals/\p.1 ∉ X.fs/\∀ v,p.2.data≠.cell v):Inv X Gq σ H s:=
 ⟨I.ok,I.os,I.bare,I.base,I.loc,I.cell,I.free,I.o9,fun p hp=>(List.mem_append.mp hp).elim (fun z=>I.pin p (List.mem_append_left _ z)) (h p),I.a5,I.len⟩
theorem zW {N:List Str}(hN:N.Nodup){i j:Nat}{x:Str}(a:N[i]?=some x)(b:N[j]?=some x):i=j:=by
 obtain⟨h1,e1⟩:=List.getElem?_eq_some_iff.mp a
 obtain⟨h2,e2⟩:=List.getElem?_eq_some_iff.mp b
 exact(List.getElem_inj hN).mp (e1.trans e2.symm)
theorem qW {M:Model}{A:Around}{E:Value->Shared->Prop}{i:Nat}{x:Str}{v:V}{u:Value}{Q:Unit->Shared->Prop}(I:Inv X pins σ H s)(hN:X.N.Nodup)(hi:X.N[i]?=some x)(hx:Loc X.env.scope x)(r:RelV v u)(h:∀ s',Inv X pins (σ.set i (some v)) H s'->(∃ a,Heap.SameBut a s.heap s'.heap/\(a=X.env.locals\/X.env.cells.lookup x=some a))->Q () s')(hf:X.fn x=true\/X.env.scope.names.lookup x=some .local:=by first | exact .inl rfl | exact .inr rfl | assumption):wpAny M A (storeName X.env x u) Q E s:=by
 obtain⟨m,hn,hl⟩:=id I.loc
 have VY:(X.env.scope.kind == .class || (X.env.scope.kind == .module && X.env.locals != X.env.globals))=false:=by rw[I.ok.kind];rfl
 have YG:i < σ.length:=by rw[I.len];exact(List.getElem?_eq_some_iff.mp hi).1
 have BP:=I.BP
 have tracked:∀ {a:Addr} {h':Heap},(∃ o,s.heap.get? a=some o/\H a=none)->Heap.SameBut a s.heap h'->qb X.prog X.w H h':=fun {a h'} ha hs b ob e=>by
   obtain⟨_,_,Gs⟩:=ha
   refine(I.a5 b ob e).xS (fun c w' hc q=>(hs.2 c ?_).trans q) (fun _ q=>q) (fun _ _ q=>q) .refl
   rintro rfl
   rcases hc with rfl | hc | hc
   . rw[Gs] at e;cases e
   . rw[Gs] at hc;cases hc
   . rw[Gs] at hc;exact hc
 rcases hx with hk | hk
 . refine wpAny_storeName_local hk hn (fun h' Rt hs=>?_) VY
   obtain⟨oL,_,_,hoL,_⟩:=id hn
   refine h _ ⟨I.ok,I.os,I.bare,⟨fun b o e n hb hx=>?_,fun b o e n hb hx=>?_,I.base.free,fun b o e hx=>?_,I.base.zR,I.base.xV,I.base.zS⟩,⟨_,Rt,fun j y v' e1 e2 e3=>?_⟩,fun y c e=>?_,I.free,I.o9,fun p hp=>?_,tracked ⟨oL,hoL,I.free⟩ hs,by simpa using I.len⟩ ⟨_,hs,.inl rfl⟩
   . exact(hs.2 b (Nat.ne_of_lt (Nat.lt_of_lt_of_le (Heap.lt_size e) I.ok.above))).trans (I.base.keep b o e n hb hx)
   . obtain⟨sl,e1⟩:=I.base.slot b o e n hb hx
     exact⟨sl,(hs.2 b (Nat.ne_of_lt (Nat.lt_of_lt_of_le (Heap.lt_size e) I.ok.above))).trans e1⟩
   . obtain⟨o',e1⟩:=I.base.there b o e hx
     exact⟨o',(hs.2 b (Nat.ne_of_lt (Nat.lt_of_lt_of_le (Heap.lt_size e) I.ok.above))).trans e1⟩
   . by_cases hj:j=i
     . subst hj
       rw[hi] at e1;cases e1
       rw[List.getElem?_set_self YG] at e2
       cases e2
       exact⟨u,r,.inl ⟨hk,by simp⟩⟩
     . rw[List.getElem?_set_ne (Ne.symm hj)] at e2
       obtain⟨u',r',q⟩:=hl j y v' e1 e2 e3
       refine⟨u',r',?_⟩
       rcases q with⟨k,e⟩ | ⟨k,c,e,z⟩
       . refine .inl ⟨k,?_⟩
         have:y≠x:=fun e=>hj (zW hN e1 (e ▸ hi))
         simp[this,e]
       . exact .inr ⟨k,c,e,z.sameBut hs (BP y c e)⟩
   . obtain⟨w',z⟩:=I.cell y c e
     exact⟨w',z.sameBut hs (BP y c e)⟩
   . obtain⟨e,n,ne,nf,d⟩:=I.pin p hp
     exact⟨(hs.2 p.1 ne).trans e,n,ne,nf,d⟩
 . have VZ:X.fn x=true:=by
     rcases hf with z | z
     . exact z
     . rw[z] at hk;cases hk
   obtain⟨c,hc⟩:=I.ok.has x (.inl hk)
   obtain⟨w',z⟩:=I.cell x c hc
   refine wpAny_storeName_cell I.ok.kind hk hc z (fun h' BQ hs=>?_)
   obtain⟨oc,Dp,V0⟩:=id z
   refine h { s with heap:=h'} ⟨I.ok,I.os,I.bare,⟨fun b o e n hb hx=>?_,fun b o e n hb hx=>?_,I.base.free,fun b o e hx=>?_,I.base.zR,I.base.xV,I.base.zS⟩,⟨m,hn.sameBut hs (Ne.symm (BP x c hc)),fun j y v' e1 e2 e3=>?_⟩,fun y c' e=>?_,I.free,I.o9,fun p hp=>?_,tracked ⟨oc,Dp,I.o9 x c hc⟩ hs,by simpa using I.len⟩ ⟨c,hs,.inr hc⟩
   . exact(hs.2 b (Nat.ne_of_lt (Nat.lt_of_lt_of_le (Heap.lt_size e) (I.ok.Rq x c VZ hc)))).trans (I.base.keep b o e n hb hx)
   . obtain⟨sl,e1⟩:=I.base.slot b o e n hb hx
     exact⟨sl,(hs.2 b (Nat.ne_of_lt (Nat.lt_of_lt_of_le (Heap.lt_size e) (I.ok.Rq x c VZ hc)))).trans e1⟩
   . obtain⟨o',e1⟩:=I.base.there b o e hx
     exact⟨o',(hs.2 b (Nat.ne_of_lt (Nat.lt_of_lt_of_le (Heap.lt_size e) (I.ok.Rq x c VZ hc)))).trans e1⟩
   . by_cases hj:j=i
     . subst hj
       rw[hi] at e1;cases e1
       rw[List.getElem?_set_self YG] at e2
       cases e2
       exact⟨u,r,.inr ⟨.inl hk,c,hc,BQ⟩⟩
     . rw[List.getElem?_set_ne (Ne.symm hj)] at e2
       obtain⟨u',r',q⟩:=hl j y v' e1 e2 e3
       refine⟨u',r',?_⟩
       rcases q with q | ⟨k,c',e,z'⟩
       . exact .inl q
       . refine .inr ⟨k,c',e,z'.sameBut hs ?_⟩
         rintro rfl
         exact hj (zW hN e1 (I.ok.inj _ _ _ e hc ▸ hi))
   . by_cases RW:c'=c
     . subst RW;exact⟨_,BQ⟩
     . obtain⟨w2,z2⟩:=I.cell y c' e
       exact⟨w2,z2.sameBut hs RW⟩
   . obtain⟨e,n,ne,nf,d⟩:=I.pin p hp
     refine⟨(hs.2 p.1 ?_).trans e,n,ne,nf,d⟩
     intro q
     rw[q,Dp] at e
     have q':oc=p.2:=Option.some.inj e
     exact d w' (by rw[<- q'];exact V0)
theorem qd {M:Model}{A:Around}{E:Value->Shared->Prop}{i:Nat}{x:Str}{v:V}{u:Value}{Q:Unit->Shared->Prop}(I:Inv X pins σ H s)(hN:X.N.Nodup)(hi:X.N[i]?=some x)(hx:Loc X.env.scope x)(r:RelV v u)(h:∀ s',Inv X pins (σ.set i (some v)) H s'->Q () s')(hf:X.fn x=true\/X.env.scope.names.lookup x=some .local:=by first | exact .inl rfl | exact .inr rfl | assumption):wpAny M A (storeName X.env x u) Q E s:=
 qW I hN hi hx r (fun s' I' _=>h s' I') hf
theorem Inv.Gu {s':Shared}{ch:List Addr}(I:Inv X pins σ H s)(ho:s'.os=s.os)(u:Un (Gp X.stack) ch H H' s.heap s'.heap)(a5:qb X.prog X.w H' s'.heap)(hg:AllBare s'.gens)(zK:∀ b∈ch,(b∈X.ex\/X.s₀.heap.objs.size<=b)/\b≠X.env.locals/\(∀ x c,X.env.cells.lookup x=some c->c≠b)/\∀ p∈X.pn ++ pins,p.1≠b):Inv X pins σ H' s':=by
 obtain⟨h',g',d',t',o'⟩:=s'
 have e:o'=s.os:=ho
 subst e
 exact I.call (g':=g') (t':=t') (d':=d') u a5 hg zK
end
noncomputable abbrev XK:=Value->Option Addr->Hp->Prop
noncomputable abbrev St:=List (Option V)
noncomputable abbrev VK:=V->Hp->Prop
noncomputable abbrev TE:=St->Hp->VK->Prop
noncomputable abbrev TT:=St->Hp->(Bool->Hp->Prop)->Prop
noncomputable abbrev TA:=St->Hp->(List V->Hp->Prop)->Prop
structure Ends where
 nx:St->Hp->Prop
 rt:VK
 bk:St->Hp->Prop:=fun _ _=>False
 ct:St->Hp->Prop:=fun _ _=>False
noncomputable abbrev TS:=Ends->St->Hp->Prop
noncomputable def EP (X:Cx)(pins:List (Addr×Obj))(σ:St)(Q:VK)(u:Value)(s':Shared):Prop:=∃ v H',Inv X pins σ H' s'/\RelV v u/\Q v H'
noncomputable def TP (X:Cx)(pins:List (Addr×Obj))(σ:St)(Q:Bool->Hp->Prop)(b:Bool)(s':Shared):Prop:=∃ H',Inv X pins σ H' s'/\Q b H'
noncomputable def AP (X:Cx)(pins:List (Addr×Obj))(σ:St)(Q:List V->Hp->Prop)(us:List Value)(s':Shared):Prop:=∃ vs H',Inv X pins σ H' s'/\Vals vs us/\Q vs H'
noncomputable def SP (X:Cx)(pins:List (Addr×Obj))(D:Ends)(f:Flow)(s':Shared):Prop:=
 match f with
 | .next=>∃ σ' H',Inv X pins σ' H' s'/\D.nx σ' H'
 | .brk=>∃ σ' H',Inv X pins σ' H' s'/\D.bk σ' H'
 | .cont=>∃ σ' H',Inv X pins σ' H' s'/\D.ct σ' H'
 | .ret u=>∃ v σ' H',Inv X pins σ' H' s'/\RelV v u/\D.rt v H'
noncomputable def PE (X:Cx)(e:Expr)(t:TE):Prop:=
 ∀ (pins:List (Addr×Obj)) (s:Shared) (σ:St) (H:Hp) (Q:VK),Inv X pins σ H s->t σ H Q->wpAny (model X.prog X.w) X.A (eval e X.env) (EP X pins σ Q) X.xe s
noncomputable def PT (X:Cx)(e:Expr)(t:TT):Prop:=
 ∀ (pins:List (Addr×Obj)) (s:Shared) (σ:St) (H:Hp) (Q:Bool->Hp->Prop),Inv X pins σ H s->t σ H Q->wpAny (model X.prog X.w) X.A (isTrue e X.env (eval e X.env)) (TP X pins σ Q) X.xe s
noncomputable def PW (X:Cx)(e:Expr)(t:TT):Prop:=
 ∀ (whole:Sem Value) (pins:List (Addr×Obj)) (s:Shared) (σ:St) (H:Hp) (Q:Bool->Hp->Prop),Inv X pins σ H s->t σ H Q->wpAny (model X.prog X.w) X.A (isTrue e X.env whole) (TP X pins σ Q) X.xe s
theorem PW.pt {X:Cx}{e:Expr}{t:TT}(h:PW X e t):PT X e t:=h _
noncomputable def PA (X:Cx)(es:List Expr)(t:TA):Prop:=
 ∀ (pos:Pos) (pins:List (Addr×Obj)) (s:Shared) (σ:St) (H:Hp) (Q:List V->Hp->Prop),Inv X pins σ H s->t σ H Q->wpAny (model X.prog X.w) X.A (spliced (backTo pos (starEach es X.env))) (AP X pins σ Q) X.xe s
noncomputable def PS (X:Cx)(st:Stmt)(t:TS):Prop:=
 ∀ (pins:List (Addr×Obj)) (s:Shared) (σ:St) (H:Hp) (D:Ends),Inv X pins σ H s->t D σ H->wpAny (model X.prog X.w) X.A (exec st X.env) (SP X pins D) X.xe s
noncomputable def BW (X:Cx)(st:List Stmt)(t:TS):Prop:=
 ∀ (pins:List (Addr×Obj)) (s:Shared) (σ:St) (H:Hp) (D:Ends),Inv X pins σ H s->t D σ H->wpAny (model X.prog X.w) X.A (execs st X.env) (SP X pins D) X.xe s
theorem bX {α:Type}{t:Sem α}{Q Q':α->Shared->Prop}{M:Model}{A:Around}{E:Value->Shared->Prop}{s:Shared}(h:wpAny M A t Q E s)(hQ:∀ a s,Q a s->Q' a s):wpAny M A t Q' E s:=wpAny_mono h hQ fun _ _ x=>x
section
variable {X:Cx}
noncomputable def V1 (i:Nat):TE:=fun σ H Q=>∃ v,σ[i]?=some (some v)/\Q v H
noncomputable def tC (v:V):TE:=fun _ H Q=>Q v H
theorem i0 {i:Nat}{x:Str}{pos:Pos}(hN:X.N[i]?=some x)(hv:uA X.env.scope x)(hd:(x == ("__debug__":Str))=false:=by decide)(lO:(x == ("__classdict__":Str))=false:=by decide):PE X (.Name x pos) (V1 i):=by
 intro pins s σ H Q I h
 obtain⟨v,e,h⟩:=h
 obtain⟨m,hn,hl⟩:=I.loc
 obtain⟨u,r,l⟩:=hl i x v hN e hv
 have fin:EP X pins σ Q u s:=⟨v,H,I,r,h⟩
 rcases l with⟨hk,hm⟩ | ⟨hk,c,hc,Na⟩
 . exact wpAny_Name (wpAny_loadName_local I.ok.kind hk hn hm fin) hd
 . rcases hk with hk | hk
   . exact wpAny_Name (wpAny_loadName_cell I.ok.kind hk hc Na fin) hd
   . exact wpAny_Name (wpAny_loadName_free I.ok.kind hk hc Na fin lO) hd
theorem Of {i j pos}:PE X (.Constant (.int i) j pos) (tC (.int i)):=fun _ _ _ H _ I h=>wpAny_Constant_int ⟨.int i,H,I.tok _,⟨_,rfl⟩,h⟩
theorem Og {x j pos}:PE X (.Constant (.str x) j pos) (tC (.str x)):=fun _ _ _ H _ I h=>Calls.Constant_str ⟨.str x,H,I.tok _,⟨_,rfl⟩,h⟩
noncomputable def Gl (X:Cx)(x:Str):Prop:=X.env.kindOf x=some .globalImplicit
theorem tH {E:Value->Shared->Prop}{pins:List (Addr×Obj)}{s:Shared}{σ:St}{H:Hp}{x:Str}{u:Value}{pos:Pos}{Q:Value->Shared->Prop}(I:Inv X pins σ H s)(hg:Gl X x)(hm:X.mg x=some u)(h:Q u s)(hd:(x == ("__debug__":Str))=false:=by decide):wpAny (model X.prog X.w) X.A (eval (.Name x pos) X.env) Q E s:=
 Calls.Name_function_global I.ok.kind hg (Calls.loadGlobal_global (by rw[I.ok.glob];exact I.mod.glob.keeps I.bk) hm h) hd
theorem pH {E:Value->Shared->Prop}{pins:List (Addr×Obj)}{s:Shared}{σ:St}{H:Hp}{x:Str}{u:Value}{pos:Pos}{Q:Value->Shared->Prop}(I:Inv X pins σ H s)(hg:Gl X x)(hm:X.mg x=none)(hv:bootBuiltins x=some u)(h:Q u s)(hn:x≠"__name__":=by decide)(hd:(x == ("__debug__":Str))=false:=by decide):wpAny (model X.prog X.w) X.A (eval (.Name x pos) X.env) Q E s:=by
 obtain⟨mb,h1,h2⟩:=I.mod.blt
 exact Calls.Name_function_global I.ok.kind hg (Calls.loadGlobal_builtin (by rw[I.ok.glob];exact I.mod.glob.keeps I.bk) hm (by rw[I.ok.blt];exact h1.keeps I.bk) ((h2 x hn).trans hv) h) hd
theorem KC {x:Str}{v:V}{u:Value}{pos:Pos}(hg:Gl X x)(hm:X.mg x=some u)(r:RelV v u)(hd:(x == ("__debug__":Str))=false:=by decide):PE X (.Name x pos) (tC v):=
 fun _ _ _ H _ I h=>tH I hg hm ⟨v,H,I,r,h⟩ hd
theorem KD {x:Str}{v:V}{u:Value}{pos:Pos}(hg:Gl X x)(hm:X.mg x=none)(hv:bootBuiltins x=some u)(r:RelV v u)(hn:x≠"__name__":=by decide)(hd:(x == ("__debug__":Str))=false:=by decide):PE X (.Name x pos) (tC v):=
 fun _ _ _ H _ I h=>pH I hg hm hv ⟨v,H,I,r,h⟩ hn hd
variable {a b:Expr}{ta tb:TE}{pos:Pos}
noncomputable def PC (X:Cx)(op:CmpOp)(a b:Expr)(t:TE):Prop:=
 ∀ (pins:List (Addr×Obj)) (s:Shared) (σ:St) (H:Hp) (Q:VK),Inv X pins σ H s->t σ H Q ->
   wpAny (model X.prog X.w) X.A (eval a X.env) (fun v s₁=>wpAny (model X.prog X.w) X.A (eval b X.env) (fun u s₂=>wpAny (model X.prog X.w) X.A (compareOp op v u) (EP X pins σ Q) X.xe s₂) X.xe s₁) X.xe s
noncomputable def tB (t:TE):TT:=fun σ H Q=>t σ H fun x H1=>∃ c,x=.bl c/\Q c H1
theorem Gv {op:CmpOp}{t:TE}(h:PC X op a b t)(h1:behindInMarks op b=false:=by first | exact RX _ (by decide) (by decide) | rfl):PT X (.Compare a [op] [b] pos) (tB t):=by
 intro pins s σ H Q I hw
 refine wpAny_isTrue_Compare1 (bX (h pins s σ H _ I hw) fun v s1 h1=>bX h1 fun u s2 h2=>bX h2 fun c s3 ⟨x,H1,I1,r1,q1⟩=>?_) h1
 obtain⟨d,rfl,q⟩:=q1
 cases r1
 exact wpAny_truthy_bool ⟨H1,I1,q⟩
theorem Oh {e:Expr}{t:TE}(h:PE X e t)(he:∀ whole,isTrue e X.env whole=(do let v <- whole;standAt e.pos;holding [v] (truthy v)):=by intro _;rfl):PT X e (tB t):=by
 intro pins s σ H Q I hw
 refine isTrue_plain (bX (h pins s σ H _ I hw) fun v s1 ⟨x,H1,I1,r1,q1⟩=>?_) (he _)
 obtain⟨d,rfl,q⟩:=q1
 cases r1
 exact wpAny_truthy_bool ⟨H1,I1,q⟩
variable {tA Ve:TT}{rest:List Expr}
noncomputable def V2 (t u:TT):TT:=fun σ H Q=>t σ H fun c H1=>if c=true then u σ H1 Q else Q false H1
noncomputable def tOr (t u:TT):TT:=fun σ H Q=>t σ H fun c H1=>if c=true then Q true H1 else u σ H1 Q
noncomputable def V3 (t:TT):TT:=fun σ H Q=>t σ H fun c H1=>Q (!c) H1
theorem pw_and1 (ha:PT X a tA):PW X (.BoolOp .And [a] pos) tA:=by
 intro wh pins s σ H Q I h
 refine isTrue_and (bX (ha pins s σ H Q I h) fun c s1 e=>?_)
 cases c with
 | true=>exact isTrue_and_nil e
 | false=>exact e
theorem pw_or1 (ha:PT X a tA):PW X (.BoolOp .Or [a] pos) tA:=by
 intro wh pins s σ H Q I h
 refine isTrue_or (bX (ha pins s σ H Q I h) fun c s1 e=>?_)
 cases c with
 | false=>exact isTrue_or_nil e
 | true=>exact e
theorem pw_and (ha:PT X a tA)(hb:PW X (.BoolOp .And (b::rest) pos) Ve):PW X (.BoolOp .And (a::b::rest) pos) (V2 tA Ve):=by
 intro wh pins s σ H Q I h
 refine isTrue_and (bX (ha pins s σ H _ I h) fun c s1 ⟨H1,I1,q1⟩=>?_)
 cases c with
 | true=>exact hb wh pins s1 σ H1 Q I1 q1
 | false=>exact⟨H1,I1,q1⟩
theorem pw_or (ha:PT X a tA)(hb:PW X (.BoolOp .Or (b::rest) pos) Ve):PW X (.BoolOp .Or (a::b::rest) pos) (tOr tA Ve):=by
 intro wh pins s σ H Q I h
 refine isTrue_or (bX (ha pins s σ H _ I h) fun c s1 ⟨H1,I1,q1⟩=>?_)
 cases c with
 | true=>exact⟨H1,I1,q1⟩
 | false=>exact hb wh pins s1 σ H1 Q I1 q1
theorem Oi (ha:PT X a tA):PT X (.UnaryOp .Not a pos) (V3 tA):=by
 intro pins s σ H Q I h
 exact isTrue_not (ha pins s σ H (fun c H1=>Q (!c) H1) I h)
noncomputable def RY (ta tb:TE):TE:=fun σ H Q=>ta σ H fun x H1=>∃ c,x=.bl c/\if c=true then tb σ H1 Q else Q (.bl false) H1
noncomputable def RZ (ta:TE):TE:=fun σ H Q=>ta σ H fun x H1=>∃ c,x=.bl c/\Q (.bl (!c)) H1
theorem Oj {op}{t:TE}(h:PE X a t):PE X (.BoolOp op [a] pos) t:=fun pins s σ H Q I hw=>BoolOp_one (h pins s σ H Q I hw)
theorem Gw (ha:PE X a ta)(hb:PE X (.BoolOp .And (b::rest) pos) tb):PE X (.BoolOp .And (a::b::rest) pos) (RY ta tb):=by
 intro pins s σ H Q I h
 refine BoolOp_and (bX (ha pins s σ H _ I h) fun v s1 ⟨x,H1,I1,r1,q1⟩=>?_)
 obtain⟨c,rfl,q1⟩:=q1
 cases r1
 refine wpAny_truthy_bool ?_
 cases c with
 | true=>exact hb pins s1 σ H1 Q I1 q1
 | false=>exact⟨.bl false,H1,I1,rfl,q1⟩
theorem Ol (ha:PE X a ta):PE X (.UnaryOp .Not a pos) (RZ ta):=by
 intro pins s σ H Q I h
 refine UnaryOp_ (bX (ha pins s σ H _ I h) fun v s1 ⟨x,H1,I1,r1,q1⟩=>?_)
 obtain⟨c,rfl,q1⟩:=q1
 cases r1
 exact not_of (wpAny_truthy_bool ⟨.bl (!c),H1,I1,rfl,q1⟩)
noncomputable def tIf (t:TT)(ta tb:TE):TE:=fun σ H Q=>t σ H fun c H1=>if c=true then ta σ H1 Q else tb σ H1 Q
theorem zX {c:Expr}(hc:PT X c tA)(ha:PE X a ta)(hb:PE X b tb):PE X (.IfExp c a b pos) (tIf tA ta tb):=by
 intro pins s σ H Q I h
 refine wpAny_IfExp (bX (hc pins s σ H _ I h) fun d s1 ⟨H1,I1,q1⟩=>?_)
 cases d with
 | true=>exact ha pins s1 σ H1 Q I1 q1
 | false=>exact hb pins s1 σ H1 Q I1 q1
end
noncomputable def mh (K:PySem.W.Frag)(H:Hp)(a:Addr)(xs:List V):Prop:=
 Rd H a (.lst xs) \/
   ∃ (o:Obj) (aC:Array Value) (n:Nat),K.lookup a=some o/\o.cls=.type "list"/\o.dict=none/\o.data=.seq aC n/\aC.size<=sizeLine/\Vals xs aC.toList
noncomputable abbrev uC (K:PySem.W.Frag)(H:Hp)(a:Addr)(xs:List V):Prop:=TupAt K H a xs
noncomputable def V4:Value->Option V
 | .none=>some .cP
 | .bool b=>some (.bl b)
 | .int i _=>some (.int i)
 | .str x _=>some (.str x)
 | .bytes b _=>some (.F8 b)
 | .float b _=>some (.Oa b)
 | .ref a=>some (.ref a)
 | .type n=>some (.ty n)
 | _=>none
theorem RelV.abs {x:V}{u:Value}(r:RelV x u):V4 u=some x:=by
 cases x with
 | cP=>cases r;rfl
 | bl _=>cases r;rfl
 | int _=>obtain⟨t,rfl⟩:=r;rfl
 | str _=>obtain⟨t,rfl⟩:=r;rfl
 | F8 _=>obtain⟨t,rfl⟩:=r;rfl
 | Oa _=>obtain⟨t,rfl⟩:=r;rfl
 | ref _=>cases r;rfl
 | ty _=>cases r;rfl
theorem RelV.inj {x y:V}{u:Value}(r:RelV x u)(q:RelV y u):x=y:=Option.some.inj (r.abs.symm.trans q.abs)
theorem Vals.inj:∀ {xs ys:List V} {us:List Value},Vals xs us->Vals ys us->xs=ys
 | _,_,_,.nil,.nil=>rfl
 | _,_,_,.cons r t,.cons r' t'=>by rw[r.inj r',Vals.inj t t']
section
variable {X:Cx}{pins:List (Addr×Obj)}{σ:St}{H:Hp}{s:Shared}{a:Addr}{xs ys:List V}
theorem mh.of {K:W.Frag}(h:H a=some (.lst xs)):mh K H a xs:=.inl (.inl h)
theorem uC.of {K:W.Frag}(h:H a=some (.tup xs)):uC K H a xs:=.inl h
theorem Inv.list (I:Inv X pins σ H s)(h:mh X.K H a xs):∃ aC:List Value,Vals xs aC/\PlainL s.heap a aC.toArray/\xs.length<=sizeLine:=by
 rcases h with h | ⟨o,aC,n,hk,hc,hd,hs,hz,r⟩
 . obtain⟨z,aC,n,r,e⟩:=h.ok I.a5
   exact⟨aC,r,⟨_,n,e,rfl,rfl,rfl⟩,z⟩
 . refine⟨aC.toList,r,⟨o,n,I.mf a o hk,hc,hd,by simpa using hs⟩,?_⟩
   have e:=r.length
   simp only[Array.length_toList] at e
   omega
theorem Inv.tuple (I:Inv X pins σ H s)(h:uC X.K H a xs):∃ aC:List Value,Vals xs aC/\IsTup s.heap a aC.toArray/\xs.length<=sizeLine:=by
 rcases h with h | ⟨o,aC,n,hk,hc,hs,hz,r⟩
 . obtain⟨z,aC,r,p⟩:=(show aJ X.prog X.w H s.heap a (.tup xs) from I.a5 a _ h)
   exact⟨aC,r,p,z⟩
 . refine⟨aC.toList,r,⟨o,I.mf a o hk,hc,n,by simpa using hs⟩,?_⟩
   have e:=r.length
   simp only[Array.length_toList] at e
   omega
theorem Inv.zY (I:Inv X pins σ H s)(h:mh X.K H a xs)(h':mh X.K H a ys):xs=ys:=by
 obtain⟨aC,r,⟨o,n,e,_,_,d⟩,_⟩:=I.list h
 obtain⟨its',r',⟨o',n',e',_,_,d'⟩,_⟩:=I.list h'
 rw[e] at e';cases e'
 rw[d] at d'
 injection d' with d1 _
 have:aC=its':=by simpa using congrArg Array.toList d1
 subst this
 exact r.inj r'
theorem Inv.EJ (I:Inv X pins σ H s)(h:uC X.K H a xs)(h':uC X.K H a ys):xs=ys:=by
 obtain⟨aC,r,⟨o,e,_,n,d⟩,_⟩:=I.tuple h
 obtain⟨its',r',⟨o',e',_,n',d'⟩,_⟩:=I.tuple h'
 rw[e] at e';cases e'
 rw[d] at d'
 injection d' with d1 _
 have:aC=its':=by simpa using congrArg Array.toList d1
 subst this
 exact r.inj r'
end
section
variable {X:Cx}{st:Stmt}{rest:List Stmt}{t u:TS}{e:Expr}{te:TE}{pos:Pos}
noncomputable def R0:TS:=fun D σ H=>D.nx σ H
noncomputable def V5 (t u:TS):TS:=fun D σ H=>t { D with nx:=u D} σ H
theorem KG:BW X [] R0:=fun _ _ σ H _ I h=>wpAny_execs_nil ⟨σ,H,I,h⟩
theorem nz (h1:PS X st t)(h2:BW X rest u):BW X (st::rest) (V5 t u):=by
 intro pins s σ H D I h
 refine wpAny_execs_cons (bX (h1 pins s σ H { D with nx:=u D} I h) fun f s1 q=>?_)
 cases f with
 | next=>
   obtain⟨σ',H',I',q⟩:=q
   exact h2 pins s1 σ' H' D I' q
 | ret v=>exact q
 | brk=>exact q
 | cont=>exact q
theorem mi (h1:PS X st t):BW X [st] t:=by
 intro pins s σ H D I h
 refine wpAny_execs_cons (bX (h1 pins s σ H D I h) fun f s1 q=>?_)
 cases f with
 | next=>exact wpAny_execs_nil q
 | ret v=>exact q
 | brk=>exact q
 | cont=>exact q
theorem Inv.quiet {pins:List (Addr×Obj)}{σ:St}{H:Hp}{s:Shared}(I:Inv X pins σ H s):interactive X.env=false:=by simp[interactive,I.ok.kind]
noncomputable def R1 (te:TE):TS:=fun D σ H=>te σ H fun _ H1=>D.nx σ H1
theorem k8 (he:PE X e te)(hs:swapsWith e none pos.line X.env=pure false:=by rfl):PS X (.Expr e pos) (R1 te):=by
 intro pins s σ H D I h
 exact wpAny_Expr_any (bX (he pins s σ H _ I h) fun v s1 ⟨x,H1,I1,r1,q1⟩=>⟨σ,H1,I1,q1⟩) I.quiet hs
noncomputable def V6 (te:TE):TS:=fun D σ H=>te σ H D.rt
theorem BX (he:PE X e te):PS X (.Return (some e) pos) (V6 te):=by
 intro pins s σ H D I h
 exact wpAny_Return_some (bX (he pins s σ H _ I h) fun v s1 ⟨x,H1,I1,r1,q1⟩=>⟨x,σ,H1,I1,r1,q1⟩)
noncomputable def V7 (c:TT)(t u:TS):TS:=fun D σ H=>c σ H fun b H1=>if b=true then t D σ H1 else u D σ H1
theorem Nb {c:Expr}{a b:List Stmt}{tc:TT}(hc:PT X c tc)(ha:BW X a t)(hb:BW X b u):PS X (.If c a b pos) (V7 tc t u):=by
 intro pins s σ H D I h
 refine wpAny_If (bX (hc pins s σ H _ I h) fun d s1 ⟨H1,I1,q1⟩=>?_)
 cases d with
 | true=>exact ha pins s1 σ H1 D I1 q1
 | false=>exact hb pins s1 σ H1 D I1 q1
noncomputable def Om:TS:=fun _ _ _=>False
theorem qX {sts:List Stmt}:BW X sts Om:=fun _ _ _ _ _ _ h=>h.elim
end
noncomputable abbrev TG:=V->St->Hp->(St->Hp->Prop)->Prop
noncomputable abbrev KH:=List V->St->Hp->(St->Hp->Prop)->Prop
noncomputable def PG (X:Cx)(target:Expr)(t:TG):Prop:=
 ∀ (pins:List (Addr×Obj)) (s:Shared) (σ:St) (H:Hp) (v:V) (u:Value) (Q:St->Hp->Prop),Inv X pins σ H s->RelV v u->t v σ H Q ->
   wpAny (model X.prog X.w) X.A (assign target X.env u) (fun _ s'=>∃ σ' H',Inv X pins σ' H' s'/\Q σ' H') X.xe s
noncomputable def R3 (X:Cx)(ts:List Expr)(t:KH):Prop:=
 ∀ (pins:List (Addr×Obj)) (s:Shared) (σ:St) (H:Hp) (vs:List V) (us:List Value) (Q:St->Hp->Prop),Inv X pins σ H s->Vals vs us->t vs σ H Q ->
   wpAny (model X.prog X.w) X.A (assignInOrder ((assignEach ts X.env).map (·.2)) us) (fun _ s'=>∃ σ' H',Inv X pins σ' H' s'/\Q σ' H') X.xe s
noncomputable abbrev Oo:=V->V->V->Hp->(Hp->Prop)->Prop
noncomputable def R4 (X:Cx)(t:Oo):Prop:=
 ∀ (pins:List (Addr×Obj)) (s:Shared) (σ:St) (H:Hp) (o i v:V) (ov iv u:Value) (Q:Hp->Prop),Inv X pins σ H s->RelV o ov->RelV i iv->RelV v u->t o i v H Q ->
   wpAny (model X.prog X.w) X.A (setItem ov iv u) (fun _ s'=>∃ H',Inv X pins σ H' s'/\Q H') X.xe s
section
variable {X:Cx}{pos:Pos}
noncomputable def pj (i:Nat):TG:=fun v σ H Q=>Q (σ.set i (some v)) H
theorem bx {i:Nat}{x:Str}(hN:X.N.Nodup)(hi:X.N[i]?=some x)(hx:Loc X.env.scope x)(hf:X.fn x=true\/X.env.scope.names.lookup x=some .local:=by first | exact .inl rfl | exact .inr rfl | assumption):PG X (.Name x pos) (pj i):=by
 intro pins s σ H v u Q I r h
 exact wpAny_assign_Name (qd I hN hi hx r (fun s' I'=>⟨_,H,I',h⟩) hf)
noncomputable def Oq:KH:=fun vs σ H Q=>vs=[]/\Q σ H
noncomputable def zZ (t:TG)(u:KH):KH:=fun vs σ H Q=>∃ v r,vs=v::r/\t v σ H fun σ' H'=>u r σ' H' Q
theorem n6:R3 X [] Oq:=by
 intro pins s σ H vs us Q I r h
 obtain⟨e,h⟩:=h
 subst e
 cases r
 exact assignInOrder_nil ⟨σ,H,I,h⟩
theorem cV {e:Expr}{es:List Expr}{t:TG}{u:KH}(h1:PG X e t)(h2:R3 X es u)(hs:(assignEach (e::es) X.env).map (·.2)=assign e X.env::(assignEach es X.env).map (·.2):=by rfl):R3 X (e::es) (zZ t u):=by
 intro pins s σ H vs us Q I r h
 obtain⟨v,vr,e1,h⟩:=h
 subst e1
 cases r with
 | cons r rr=>
   rw[hs]
   refine assignInOrder_cons (bX (h1 pins s σ H _ _ _ I r h) fun _ s1 ⟨σ1,H1,I1,q1⟩=>?_)
   exact h2 pins s1 σ1 H1 _ _ Q I1 rr q1
noncomputable def Ot (K:W.Frag)(n:Nat)(t:KH):TG:=fun v σ H Q=>∃ a xs,v=.ref a/\uC K H a xs/\xs.length=n/\t xs σ H Q
theorem uD {es:List Expr}{k:Nat}{t:KH}{n:Nat}(hc:X.calm=true)(h:R3 X es t)(hn:(assignEach es X.env).length=n:=by rfl)(m7:(assignEach es X.env).findIdx? (·.1)=none:=by rfl):PG X (.Tuple es k pos) (Ot X.K n t):=by
 intro pins s σ H v u Q I r hw
 obtain⟨a,xs,e1,hq,hl,hw⟩:=hw
 subst e1
 cases r
 obtain⟨aC,rv,ht,hz⟩:=I.tuple hq
 refine assign_Tuple_tuple (I.ok.hd hc) ht (by simp[hn,<- hl,rv.length]) m7 fun h' hx=>?_
 have I1:Inv X pins σ H { s with heap:=h'}:=I.kept (t':=s.toks) fun b o e=>hx b o (Nat.ne_of_lt (Heap.lt_size e)) e
 exact h pins _ σ H xs _ Q I1 (by simpa using rv) hw
noncomputable def V8 (to ti:TE)(t:Oo):TG:=fun v σ H Q=>to σ H fun o H1=>ti σ H1 fun i H2=>t o i v H2 fun H3=>Q σ H3
theorem Ou {o i:Expr}{to ti:TE}{t:Oo}(ho:PE X o to)(hi:PE X i ti)(hs:R4 X t)
   (ha:∀ v,assign (.Subscript o i pos) X.env v=(do
     let ov <- holding [v] (eval o X.env)
     let iv <- holding [v,ov] (eval i X.env)
     standAt pos
     holding [v,ov,iv] (setItem ov iv v)
     release [v,ov,iv] []):=by intro _;rfl):PG X (.Subscript o i pos) (V8 to ti t):=by
 intro pins s σ H v u Q I r h
 rw[ha]
 refine wpAny_bind (wpAny_holding (bX (ho pins s σ H _ I h) fun ov s1 ⟨x,H1,I1,r1,q1⟩=>?_))
 refine wpAny_bind (wpAny_holding (bX (hi pins s1 σ H1 _ I1 q1) fun iv s2 ⟨y,H2,I2,r2,q2⟩=>?_))
 refine wpAny_bind (wpAny_standAt (wpAny_bind (wpAny_holding (bX (hs pins s2 σ H2 x y v ov iv u _ I2 r1 r2 r q2) fun _ s3 ⟨H3,I3,q3⟩=>?_))))
 exact wpAny_release ⟨σ,H3,I3,q3⟩
noncomputable def R5 (te:TE)(g:TG):TS:=fun D σ H=>te σ H fun x H1=>g x σ H1 D.nx
theorem xX {tg e:Expr}{te:TE}{g:TG}(he:PE X e te)(hg:PG X tg g)(hs:swapsWithSole [tg] e pos.line X.env=pure false:=by rfl)(hw:swappedStores [tg] e X.env=pure none:=by rfl)(h1:(assignEach [tg] X.env).map (·.2)=[assign tg X.env]:=by rfl):PS X (.Assign [tg] e pos) (R5 te g):=by
 intro pins s σ H D I h
 refine wpAny_Assign_stores (bX (he pins s σ H _ I h) fun v s1 ⟨x,H1,I1,r1,q1⟩=>?_) hs hw
 rw[h1]
 exact bX (hg pins s1 σ H1 x v _ I1 r1 q1) fun _ s2 q=>q
theorem BY {i:Nat}{x:Str}{e:Expr}{te:TE}{pos':Pos}(hN:X.N.Nodup)(hi:X.N[i]?=some x)(hx:Loc X.env.scope x)(he:PE X e te)(hs:swapsWith e (some (.Name x pos')) pos.line X.env=pure false:=by rfl)(hf:X.fn x=true\/X.env.scope.names.lookup x=some .local:=by first | exact .inl rfl | exact .inr rfl | assumption):PS X (.Assign [.Name x pos'] e pos) (R5 te (pj i)):=by
 intro pins s σ H D I h
 refine wpAny_Assign_Name (bX (he pins s σ H _ I h) fun v s1 ⟨y,H1,I1,r1,q1⟩=>?_) hs
 exact qd I1 hN hi hx r1 (fun s2 I2=>⟨_,H1,I2,q1⟩) hf
noncomputable def V9 (i j:Nat)(ta:TA):TS:=fun D σ H=>ta σ H fun vs H1=>∃ v w,vs=[v,w]/\D.nx ((σ.set i (some v)).set j (some w)) H1
theorem Ov {i j:Nat}{x y:Str}{a b:Expr}{ta:TA}{px py pt:Pos}{kt k2 Ow}(hc:X.calm=true)(hN:X.N.Nodup)(hi:X.N[i]?=some x)(hj:X.N[j]?=some y)(R6:i≠j)(hx:X.env.scope.names.lookup x=some .local)(hy:X.env.scope.names.lookup y=some .local)(ha:PA X [a,b] ta)(hw:swappedStores [.Tuple [.Name x px,.Name y py] kt pt] (.Tuple [a,b] k2 Ow) X.env=pure (some [x,y]))(hs:swapsWithSole [.Tuple [.Name x px,.Name y py] kt pt] (.Tuple [a,b] k2 Ow) pos.line X.env=pure false:=by rfl):PS X (.Assign [.Tuple [.Name x px,.Name y py] kt pt] (.Tuple [a,b] k2 Ow) pos) (V9 i j ta):=by
 intro pins s σ H D I h
 rw[exec_Assign_arm]
 refine wpAny_bind (wpAny_standAt ?_)
 rw[hs]
 refine wpAny_bind (wpAny_pure ?_)
 rw[if_neg (by decide)]
 refine wpAny_bind (Tuple_ (bX (ha _ pins s σ H _ I h) fun us s1 ⟨vs,H1,I1,r1,q1⟩=>?_))
 obtain⟨v,w,e1,q1⟩:=q1
 subst e1
 obtain⟨u1,u2,rfl,rv,Gx⟩:∃ u1 u2,us=[u1,u2]/\RelV v u1/\RelV w u2:=by
   cases r1 with
   | cons p q=>
     cases q with
     | cons p' q'=>
       cases q'
       exact⟨_,_,rfl,p,p'⟩
 refine wpAny_newObj_type ?_ (by show 2<=sizeLine;decide)
 have I2:Inv X pins σ H1 { s1 with heap:=s1.heap.push { cls:=.type "tuple",data:=.seq [u1,u2].toArray}}:=I1.kept (t':=s1.toks) fun b o e=>Heap.get?_push_of_some _ e
 rw[hw]
 refine wpAny_bind (wpAny_pure ?_)
 show wpAny (model X.prog X.w) X.A (do rule "assign.swapped-stores";let items <- unpackItems (.ref s1.heap.objs.size) 2 none;assignInOrder [fun v=>bindName X.env y v,fun v=>bindName X.env x v] items.reverse;pure Flow.next) _ _ _
 refine wpAny_bind (wpAny_rule (wpAny_bind (unpackItems_tuple (items:=#[u1,u2]) (I.ok.hd hc) (IsTup.new s1.heap _) fun h' Dq=>?_)))
 have I3:=I2.kept (h':=h') (t':=s1.toks) fun b o e=>Dq b o (Nat.ne_of_lt (Heap.lt_size e)) e
 show wpAny _ _ (assignInOrder [fun v=>bindName X.env y v,fun v=>bindName X.env x v] [u2,u1] >>= fun _=>pure Flow.next) _ _ _
 refine wpAny_bind (assignInOrder_cons (wpAny_bindName (qd I3 hN hj (.inl hy) Gx (fun s2 I4=>?_) (.inr hy))))
 refine assignInOrder_cons (wpAny_bindName (qd I4 hN hi (.inl hx) rv (fun s3 I5=>assignInOrder_nil (wpAny_pure ?_)) (.inr hx)))
 rw[List.set_comm _ _ (Ne.symm R6)] at I5
 exact⟨_,H1,I5,q1⟩
end
section
variable {X:Cx}{pos:Pos}
noncomputable def Ox (c:TT)(tb:TS):TS:=fun D σ H=>∃ W:Nat->St->Hp->Prop,(∃ m,W m σ H)/\∀ m σ H,W m σ H ->
 c σ H fun b H1=>if b=true then ∃ N:St->Hp->Prop,(∀ σ' H',N σ' H'->∃ m',m' < m/\W m' σ' H')/\tb { D with nx:=N,ct:=N,bk:=D.nx} σ H1 else D.nx σ H1
theorem z5 {c:Expr}{body:List Stmt}{tc:TT}{tb:TS}(hp:PassesOwn (model X.prog X.w) X.A X.env X.xe)(hc:PT X c tc)(hb:BW X body tb):PS X (.While c body [] pos) (Ox tc tb):=by
 intro pins s σ H D I h
 obtain⟨W,⟨m0,w0⟩,turn⟩:=h
 refine wpAny_While (codeAny_whileLoop (fun n s'=>∃ σ' H',Inv X pins σ' H' s'/\W n σ' H') ?_ m0 ⟨σ,H,I,w0⟩)
 rintro n s1 ⟨σ1,H1,I1,w1⟩
 refine wpAny_passesOwn hp (bX (hc pins s1 σ1 H1 _ I1 (turn n σ1 H1 w1)) fun b s2 ⟨H2,I2,q2⟩=>?_)
 cases b with
 | true=>
   obtain⟨N,hN,q2⟩:=q2
   rw[if_pos rfl]
   refine wpAny_passesOwn hp (bX (hb pins s2 σ1 H2 _ I2 q2) fun f s3 q3=>?_)
   cases f with
   | next=>
     obtain⟨σ3,H3,I3,n3⟩:=q3
     obtain⟨m',hm,w3⟩:=hN σ3 H3 n3
     exact⟨m',hm,σ3,H3,I3,w3⟩
   | cont=>
     obtain⟨σ3,H3,I3,n3⟩:=q3
     obtain⟨m',hm,w3⟩:=hN σ3 H3 n3
     exact⟨m',hm,σ3,H3,I3,w3⟩
   | brk=>exact q3
   | ret v=>exact q3
 | false=>
   rw[if_neg Bool.false_ne_true]
   exact wpAny_execs_nil ⟨σ1,H2,I2,q2⟩
end
structure It where
 go:Nat->Hp->Prop
 Gy:Nat->Hp->V->Hp->Prop
 stop:Nat->Hp->Prop
noncomputable def kL (X:Cx)(pins:List (Addr×Obj))(H:Hp)(b:Addr):Prop:=
 H b=none/\b≠X.env.locals/\b ∉ X.fs/\(b∈X.ex\/X.s₀.heap.objs.size<=b)/\(∀ x c,X.env.cells.lookup x=some c->c≠b)/\∀ p∈X.pn ++ pins,p.1≠b
theorem Inv.uE {X:Cx}{pins:List (Addr×Obj)}{σ:St}{H H':Hp}{s:Shared}{b:Addr}(I:Inv X pins σ H s)(hb:s.heap.objs.size<=b)(hn:H' b=none):kL X pins H' b:=by
 refine⟨hn,Nat.ne_of_gt (Nat.lt_of_lt_of_le I.lt hb),I.VW hb,.inr (Nat.le_trans I.sz hb),fun x c e z=>?_,fun p hp z=>?_⟩
 . obtain⟨v,q⟩:=I.cell x c e
   exact absurd (Nat.lt_of_lt_of_le q.lt (by rw[z];exact hb)) (Nat.lt_irrefl _)
 . exact absurd (Nat.lt_of_lt_of_le (Heap.lt_size (I.pin p hp).1) (by rw[z];exact hb)) (Nat.lt_irrefl _)
structure Turn (P:Program)(w:World)(K:W.Frag)(tg:Expr)(J:It)(fp:List Addr)(it:Addr)(tn:Nat->Heap->Prop):Prop where
 mem:it∈fp
 obj:∀ i h,tn i h->∀ b∈fp,∃ o,h.get? b=some o/\∀ v,o.data≠.cell v
 keep:∀ i h h',tn i h->(∀ b∈fp,∀ o,h.get? b=some o->h'.get? b=some o)->tn i h'
 item:∀ (X:Cx),X.prog=P->X.w=w->X.K=K->X.calm=true->∀ (i:Nat) (pins:List (Addr×Obj)) (s:Shared) (σ:St) (H:Hp) (E:Value->Shared->Prop),Inv X pins σ H s->(∀ b∈fp,kL X pins H b)->tn i s.heap->J.go i H ->
   wpAny (model P w) X.A (pyNext (.ref it)) (fun r s1=>∃ u,r=some u /\
     wpAny (model P w) X.A (letOwnedTupleGo tg (.ref it) u) (fun _ s2=>∃ x H',Inv X pins σ H' s2/\RelV x u/\J.Gy i H x H'/\tn (i+1) s2.heap/\∀ b∈fp,H' b=none) E s1) E s
 done:∀ (X:Cx),X.prog=P->X.w=w->X.K=K->X.calm=true->∀ (i:Nat) (pins:List (Addr×Obj)) (s:Shared) (σ:St) (H:Hp) (E:Value->Shared->Prop),Inv X pins σ H s->(∀ b∈fp,kL X pins H b)->tn i s.heap->J.stop i H ->
   wpAny (model P w) X.A (pyNext (.ref it)) (fun r s1=>r=none/\Inv X pins σ H s1) E s
 self:∀ (A:Around) (i:Nat) (s:Shared) (Q:Value->Shared->Prop) (E:Value->Shared->Prop),tn i s.heap->Q (.ref it) s->wpAny (model P w) A (pyIter (.ref it)) Q E s
noncomputable abbrev TI:=St->Hp->(It->Hp->Prop)->Prop
noncomputable def YH (X:Cx)(pins:List (Addr×Obj))(σ:St)(tg:Expr)(R:It->Hp->Prop)(Oy:Value)(s2:Shared):Prop:=
 ∃ (it:Addr) (fp:List Addr) (tn:Nat->Heap->Prop) (J:It) (H':Hp),Oy=.ref it/\Inv X pins σ H' s2/\Turn X.prog X.w X.K tg J fp it tn/\tn 0 s2.heap/\(∀ b∈fp,kL X pins H' b)/\R J H'
noncomputable def PI (X:Cx)(tg iter:Expr)(wi:TI):Prop:=
 ∀ (pins:List (Addr×Obj)) (s:Shared) (σ:St) (H:Hp) (R:It->Hp->Prop),Inv X pins σ H s->wi σ H R ->
   wpAny (model X.prog X.w) X.A (eval iter X.env) (fun v s1=>wpAny (model X.prog X.w) X.A (pyIter v) (YH X pins σ tg R) X.xe s1) X.xe s
theorem z6 {M:Model}{A:Around}{E:Value->Shared->Prop}{s:Shared}{tg:Expr}{it:Addr}{u:Value}{o:Obj}{n:String}{vs:Array Value}{Q:Unit->Shared->Prop}(ho:s.heap.get? it=some o)(hc:o.cls=.type n)(hd:o.data=.fields vs)(hn:["enumerate","zip","dict_itemiterator","dict_reverseitemiterator","odict_iterator","itertools.zip_longest","itertools.pairwise"].contains n=false)(hQ:Q () s):wpAny M A (letOwnedTupleGo tg (.ref it) u) Q E s:=by
 unfold letOwnedTupleGo
 cases tg <;> first
   | exact wpAny_pure hQ
   | (cases u <;> first
       | exact wpAny_pure hQ
       | (refine wpAny_bind (wpAny_load ho ?_)
          rw[hc,hd]
          show wpAny M A (if (["enumerate","zip","dict_itemiterator","dict_reverseitemiterator","odict_iterator","itertools.zip_longest","itertools.pairwise"].contains n && vs[0]? == some (rawInt _))=true then _ else _) Q E s
          rw[if_neg (by intro h;rw[hn,Bool.false_and] at h;cases h)]
          exact wpAny_pure hQ))
noncomputable def R7 (K:W.Frag)(a:Addr):It:=
 ⟨fun i H=>∃ xs x,mh K H a xs/\xs[i]?=some x,fun i H x H'=>H'=H/\∀ xs,mh K H a xs->xs[i]?=some x,fun i H=>∃ xs,mh K H a xs/\xs.length<=i⟩
noncomputable def YI (K:W.Frag)(a:Addr):It:=
 ⟨fun i H=>∃ xs x,uC K H a xs/\xs[i]?=some x,fun i H x H'=>H'=H/\∀ xs,uC K H a xs->xs[i]?=some x,fun i H=>∃ xs,uC K H a xs/\xs.length<=i⟩
noncomputable def Ke (lo:Int)(n:Nat):It:=⟨fun i _=>i < n,fun i H x H'=>H'=H/\x=.int (lo+i),fun i _=>n<=i⟩
theorem EK {P:Program}{w:World}{K:W.Frag}{tg:Expr}(a it:Addr):Turn P w K tg (R7 K a) [it] it (fun i h=>h.IsListIter it a i) where
 mem:=by simp
 obj:=fun i h st b hb=>by
   have e:b=it:=by simpa using hb
   subst e
   obtain⟨o,e,c,d⟩:=st
   exact⟨o,e,fun v z=>by rw[d] at z;cases z⟩
 keep:=fun i h h' st k=>st.at fun o e=>k it (by simp) o e
 item:=by
   intro X hP hw hK hc i pins s σ H E I hf st hg
   subst hP hw hK
   obtain⟨xs,x,hq,hx⟩:=hg
   obtain⟨aC,rv,p,hz⟩:=I.list hq
   obtain⟨u,hu,ru⟩:=rv.get hx
   obtain⟨f0,f1,f2,f3,f4,f5⟩:=hf it (by simp)
   refine wpAny_pyNext_list_item st p.isList (x:=u) (by simpa using hu) fun h' jv sb=>?_
   have I1:Inv X pins σ H { s with heap:=h'}:=I.turned (t':=s.toks) (fun b o hb e=>(sb.2 b hb).trans e) f0 f1 f3 f4 f5
   obtain⟨o,e,c,d⟩:=id jv
   exact⟨u,rfl,z6 (s:={ s with heap:=h'}) e c d (by decide) ⟨x,H,I1,ru,⟨rfl,fun ys hy=>by rw[I.zY hy hq];exact hx⟩,jv,fun b hb=>(hf b hb).1⟩⟩
 done:=by
   intro X hP hw hK hc i pins s σ H E I hf st hg
   subst hP hw hK
   obtain⟨xs,hq,hx⟩:=hg
   obtain⟨aC,rv,p,hz⟩:=I.list hq
   obtain⟨f0,f1,f2,f3,f4,f5⟩:=hf it (by simp)
   have hl:=rv.length
   exact wpAny_pyNext_list_end (I.ok.hd hc) st p.isList (by simp;omega) fun h' eb=>⟨rfl,I.turned (t':=s.toks) (fun b o hb e=>eb b o hb e) f0 f1 f3 f4 f5⟩
 self:=fun _ _ _ _ _ st h=>wpAny_pyIter_listiter st h
theorem BZ {P:Program}{w:World}{K:W.Frag}{tg:Expr}(a it:Addr):Turn P w K tg (YI K a) [it] it (fun i h=>h.IsTupleIter it a i) where
 mem:=by simp
 obj:=fun i h st b hb=>by
   have e:b=it:=by simpa using hb
   subst e
   obtain⟨o,e,c,d⟩:=st
   exact⟨o,e,fun v z=>by rw[d] at z;cases z⟩
 keep:=fun i h h' st k=>st.at fun o e=>k it (by simp) o e
 item:=by
   intro X hP hw hK hc i pins s σ H E I hf st hg
   subst hP hw hK
   obtain⟨xs,x,hq,hx⟩:=hg
   obtain⟨aC,rv,p,hz⟩:=I.tuple hq
   obtain⟨u,hu,ru⟩:=rv.get hx
   obtain⟨f0,f1,f2,f3,f4,f5⟩:=hf it (by simp)
   refine wpAny_pyNext_tuple_item st (show s.heap.IsTuple a aC.toArray from p) (x:=u) (by simpa using hu) fun h' jv sb=>?_
   have I1:Inv X pins σ H { s with heap:=h'}:=I.turned (t':=s.toks) (fun b o hb e=>(sb.2 b hb).trans e) f0 f1 f3 f4 f5
   obtain⟨o,e,c,d⟩:=id jv
   exact⟨u,rfl,z6 (s:={ s with heap:=h'}) e c d (by decide) ⟨x,H,I1,ru,⟨rfl,fun ys hy=>by rw[I.EJ hy hq];exact hx⟩,jv,fun b hb=>(hf b hb).1⟩⟩
 done:=by
   intro X hP hw hK hc i pins s σ H E I hf st hg
   subst hP hw hK
   obtain⟨xs,hq,hx⟩:=hg
   obtain⟨aC,rv,p,hz⟩:=I.tuple hq
   obtain⟨f0,f1,f2,f3,f4,f5⟩:=hf it (by simp)
   have hl:=rv.length
   exact wpAny_pyNext_tuple_end (I.ok.hd hc) st (show s.heap.IsTuple a aC.toArray from p) (by simp;omega) fun h' eb=>⟨rfl,I.turned (t':=s.toks) (fun b o hb e=>eb b o hb e) f0 f1 f3 f4 f5⟩
 self:=fun _ _ _ _ _ st h=>wpAny_pyIter_tupleiter st h
theorem B0 {P:Program}{w:World}{K:PySem.W.Frag}{tg:Expr}(it:Addr)(lo:Int)(n:Nat):Turn P w K tg (Ke lo n) [it] it (fun i h=>IsRangeIter h it (lo+(i:Nat) * 1) ((n:Int) - (i:Nat)) 1) where
 mem:=by simp
 obj:=fun i h st b hb=>by
   have e:b=it:=by simpa using hb
   subst e
   exact⟨_,st,fun v z=>by
     have z':Data.fields _=Data.cell v:=z
     cases z'⟩
 keep:=fun i h h' st k=>k it (by simp) _ st
 item:=by
   intro X hP hw hK hc i pins s σ H E I hf st hg
   subst hP hw hK
   obtain⟨f0,f1,f2,f3,f4,f5⟩:=hf it (by simp)
   have W:=Walks.range (prog:=X.prog) (w:=X.w) (I.ok.hd hc) it lo 1 n
   refine W.item i s _ _ hg st fun v h' tk hv jv kk=>?_
   obtain⟨t,rfl⟩:=hv
   have I1:Inv X pins σ H { s with heap:=h',toks:=tk}:=I.turned (fun b o hb e=>kk b o (by simpa using hb) e) f0 f1 f3 f4 f5
   refine⟨_,rfl,z6 (s:={ s with heap:=h',toks:=tk}) (n:="range_iterator") jv rfl rfl (by decide) ⟨.int (lo+i),H,I1,⟨t,?_⟩,⟨rfl,rfl⟩,jv,fun b hb=>(hf b hb).1⟩⟩
   rw[Int.mul_one]
 done:=by
   intro X hP hw hK hc i pins s σ H E I hf st hg
   subst hP hw hK
   obtain⟨f0,f1,f2,f3,f4,f5⟩:=hf it (by simp)
   exact wpAny_pyNext_range_end (I.ok.hd hc) st (by have:n<=i:=hg;omega) fun h' eb=>⟨rfl,I.turned (t':=s.toks) (fun b o hb e=>eb b o hb e) f0 f1 f3 f4 f5⟩
 self:=fun _ _ _ _ _ st h=>wpAny_pyIter_rangeiter st h
section
variable {X:Cx}{tg:Expr}
noncomputable def Gz (K:W.Frag)(tl:TE):TI:=fun σ H R=>tl σ H fun x H1=>∃ a,x=.ref a/\(∃ xs,mh K H1 a xs)/\R (R7 K a) H1
noncomputable def R8 (K:W.Frag)(tl:TE):TI:=fun σ H R=>tl σ H fun x H1=>∃ a,x=.ref a/\(∃ xs,uC K H1 a xs)/\R (YI K a) H1
theorem k9 {l:Expr}{tl:TE}(hl:PE X l tl):PI X tg l (Gz X.K tl):=by
 intro pins s σ H R I h
 refine bX (hl pins s σ H _ I h) fun v s1 ⟨x,H1,I1,r1,q1⟩=>?_
 obtain⟨a,e,⟨xs,hq⟩,q⟩:=q1
 subst e
 cases r1
 obtain⟨aC,rv,p,hz⟩:=I1.list hq
 refine wpAny_pyIter_list p.isList ?_
 refine⟨s1.heap.objs.size,[s1.heap.objs.size],_,_,H1,rfl,I1.kept (t':=s1.toks) fun b o e=>Heap.get?_push_of_some _ e,EK a _,⟨_,Heap.get?_push_size _ rfl,rfl,rfl⟩,fun b hb=>?_,q⟩
 have e:b=s1.heap.objs.size:=by simpa using hb
 subst e
 exact I1.uE (Nat.le_refl _) (I1.a5.fresh (Nat.le_refl _))
theorem Oz {l:Expr}{tl:TE}(hl:PE X l tl):PI X tg l (R8 X.K tl):=by
 intro pins s σ H R I h
 refine bX (hl pins s σ H _ I h) fun v s1 ⟨x,H1,I1,r1,q1⟩=>?_
 obtain⟨a,e,⟨xs,hq⟩,q⟩:=q1
 subst e
 cases r1
 obtain⟨aC,rv,p,hz⟩:=I1.tuple hq
 refine wpAny_pyIter_tuple (show s1.heap.IsTuple a aC.toArray from p) ?_
 refine⟨s1.heap.objs.size,[s1.heap.objs.size],_,_,H1,rfl,I1.kept (t':=s1.toks) fun b o e=>Heap.get?_push_of_some _ e,BZ a _,⟨_,Heap.get?_push_size _ rfl,rfl,rfl⟩,fun b hb=>?_,q⟩
 have e:b=s1.heap.objs.size:=by simpa using hb
 subst e
 exact I1.uE (Nat.le_refl _) (I1.a5.fresh (Nat.le_refl _))
theorem GA {pins:List (Addr×Obj)}{σ:St}{H:Hp}{s:Shared}{R:It->Hp->Prop}{E:Value->Shared->Prop}{lo hi:Int}{t u v:Tok}{tk:Nat}(I:Inv X pins σ H s)(h1:-(2 ^ 62)<=lo)(h2:lo < 2 ^ 62)(h3:-(2 ^ 62)<=hi)(h4:hi < 2 ^ 62)(q:R (Ke lo (hi - lo).toNat) H):wpAny (model X.prog X.w) X.A (pyIter (.ref s.heap.objs.size)) (YH X pins σ tg R) E { s with heap:=s.heap.push { cls:=.type "range",data:=.fields #[.int lo t,.int hi u,.int 1 v]},toks:=tk}:=by
 refine wpAny_pyIter_range (IsRange.new ..) (small_one h1 h2 h3 h4) ?_
 have I1:Inv X pins σ H { s with heap:=s.heap.push { cls:=.type "range",data:=.fields #[.int lo t,.int hi u,.int 1 v]},toks:=tk}:=I.kept fun b o e=>Heap.get?_push_of_some _ e
 refine⟨(s.heap.push { cls:=.type "range",data:=.fields #[.int lo t,.int hi u,.int 1 v]}).objs.size,[(s.heap.push { cls:=.type "range",data:=.fields #[.int lo t,.int hi u,.int 1 v]}).objs.size],_,_,H,rfl,
   I1.kept (t':=tk) fun b o e=>Heap.get?_push_of_some _ e,B0 _ lo (hi - lo).toNat,?_,fun b hb=>?_,q⟩
 . have e1:lo+((0:Nat):Int) * 1=lo:=by simp
   have e2:(((hi - lo).toNat:Nat):Int) - ((0:Nat):Int)=Builtin.Range.rangeSize lo hi 1:=by rw[rangeSize_one];split <;> omega
   show IsRangeIter _ _ (lo+((0:Nat):Int) * 1) ((((hi - lo).toNat:Nat):Int) - ((0:Nat):Int)) 1
   rw[e1,e2]
   exact Heap.get?_push_size _ rfl
 . have e:b=(s.heap.push { cls:=.type "range",data:=.fields #[.int lo t,.int hi u,.int 1 v]}).objs.size:=by simpa using hb
   subst e
   exact I1.uE (Nat.le_refl _) (I1.a5.fresh (Nat.le_refl _))
noncomputable def GB (ta:TA):TI:=fun σ H R=>ta σ H fun vs H1=>∃ j:Int,vs=[.int j]/\-(2 ^ 62)<=j/\j < 2 ^ 62/\R (Ke 0 j.toNat) H1
theorem n8 {a:Expr}{ta:TA}{p pos:Pos}(hg:Gl X "range")(hm:X.mg "range"=none)(ha:PA X [a] ta)(hs:starEach [a] X.env=[(false,eval a X.env)]:=by rfl):PI X tg (.Call (.Name "range" p) [a] [] pos) (GB ta):=by
 intro pins s σ H R I h
 refine Call_ (pH I hg hm boot_range (PyProof.Rows.callWith_type1 (bX (ha pos pins s σ H _ I h) fun us s1 ⟨vs,H1,I1,r1,q1⟩=>?_) hs rfl))
 obtain⟨j,e,q1,q2,q⟩:=q1
 subst e
 cases r1 with
 | cons r rr=>
   cases rr
   obtain⟨t,rfl⟩:=r
   exact call_range_1 (GA I1 (by omega) (by omega) q1 q2 (by simpa using q))
noncomputable def Wa (wi:TI)(g:TG)(tb:TS):TS:=fun D σ H=>wi σ H fun J H1=>∃ W:Nat->Nat->St->Hp->Prop,(∃ m,W 0 m σ H1)/\∀ i m σ H,W i m σ H ->
 (J.stop i H/\D.nx σ H)\/(J.go i H/\∃ N:St->Hp->Prop,(∀ σ' H',N σ' H'->∃ m',m' < m/\W (i+1) m' σ' H')/\∀ x H',J.Gy i H x H'->g x σ H' fun σ2 H2=>tb { D with nx:=N,ct:=N,bk:=D.nx} σ2 H2)
noncomputable def qY (fp:List Addr)(h:Heap):List (Addr×Obj):=fp.filterMap fun b=>(h.get? b).map fun o=>(b,o)
theorem fG {fp:List Addr}{h:Heap}{b:Addr}{o:Obj}(hb:b∈fp)(e:h.get? b=some o):(b,o)∈qY fp h:=List.mem_filterMap.mpr ⟨b,hb,by rw[e];rfl⟩
theorem EL {fp:List Addr}{h:Heap}{p:Addr×Obj}(hp:p∈qY fp h):p.1∈fp/\h.get? p.1=some p.2:=by
 obtain⟨b,hb,e⟩:=List.mem_filterMap.mp hp
 cases q:h.get? b with
 | none=>rw[q] at e;cases e
 | some o=>
   rw[q] at e
   have e':(b,o)=p:=Option.some.inj e
   subst e'
   exact⟨hb,q⟩
theorem Inv.pinned {pins:List (Addr×Obj)}{σ:St}{H:Hp}{s:Shared}{fp:List Addr}(I:Inv X pins σ H s)(hf:∀ b∈fp,kL X pins H b)(ho:∀ b∈fp,∃ o,s.heap.get? b=some o/\∀ v,o.data≠.cell v):Inv X (pins ++ qY fp s.heap) σ H s:=
 I.Dn fun p hp=>(List.mem_append.mp hp).elim (fun z=>I.pin p (List.mem_append_right _ z)) fun z=>by
   obtain⟨hb,e⟩:=EL z
   obtain⟨f0,f1,f2,_⟩:=hf p.1 hb
   obtain⟨o,e',d⟩:=ho p.1 hb
   rw[e] at e';cases e'
   exact⟨e,f0,f1,f2,d⟩
theorem Inv.jw {pins pl:List (Addr×Obj)}{σ:St}{H:Hp}{s:Shared}(I:Inv X (pins ++ pl) σ H s):Inv X pins σ H s:=I.Dn fun p hp=>I.pin p (List.mem_append_right _ (List.mem_append_left _ hp))
theorem xY {iter:Expr}{body:List Stmt}{wi:TI}{g:TG}{tb:TS}{pos:Pos}(hp:PassesOwn (model X.prog X.w) X.A X.env X.xe)(hc:X.calm=true)(hi:PI X tg iter wi)(hg:PG X tg g)(hb:BW X body tb)(hs:∀ x,foldedSetIterable iter X.env x=pure x:=by intro _;rfl):PS X (.For tg iter body [] pos) (Wa wi g tb):=by
 intro pins s σ H D I h
 refine wpAny_For (bX (hi pins s σ H _ I h) fun v s1 h1=>bX h1 fun Oy s2 h2=>?_) hs
 obtain⟨it,fp,tn,J,H2,e,I2,T,F9,f2,W,⟨m0,w0⟩,turn⟩:=h2
 subst e
 have pI:∀ {H':Hp},(∀ b∈fp,H' b=none)->∀ b∈fp,kL X pins H' b:=fun hn b hb=>⟨hn b hb,(f2 b hb).2⟩
 refine codeAny_forLoop_any (fun n s'=>∃ i σ' H',Inv X pins σ' H' s'/\tn i s'.heap/\(∀ b∈fp,H' b=none)/\W i n σ' H') ?_ m0 ⟨0,σ,H2,I2,F9,fun b hb=>(f2 b hb).1,w0⟩
 rintro n s3 ⟨i,σ3,H3,I3,Vf,YJ,w3⟩
 rcases turn i n σ3 H3 w3 with⟨stop,qn⟩ | ⟨go,N,hN,step⟩
 . refine wpAny_passesOwn hp (bX (T.done X rfl rfl rfl hc i pins s3 σ3 H3 X.xe I3 (pI YJ) Vf stop) fun r s4 ⟨hr,I4⟩=>?_)
   subst hr
   exact wpAny_execs_nil ⟨σ3,H3,I4,qn⟩
 . refine wpAny_passesOwn hp (bX (T.item X rfl rfl rfl hc i pins s3 σ3 H3 X.xe I3 (pI YJ) Vf go) fun r s4 ⟨u,hr,h4⟩=>?_)
   subst hr
   refine wpAny_passesOwn hp (bX h4 fun _ s5 ⟨x,H5,I5,r5,y5,Ga,Kf⟩=>?_)
   have I5':=I5.pinned (pI Kf) (T.obj _ _ Ga)
   refine wpAny_passesOwn hp (bX (hg _ s5 σ3 H5 x u _ I5' r5 (step x H5 y5)) fun _ s6 ⟨σ6,H6,I6,q6⟩=>?_)
   refine wpAny_passesOwn hp (bX (hb _ s6 σ6 H6 _ I6 q6) fun f s7 q7=>?_)
   have again:∀ {σ7:St} {H7:Hp},Inv X (pins ++ qY fp s5.heap) σ7 H7 s7->N σ7 H7->∃ m,m < n/\∃ i σ' H',Inv X pins σ' H' s7/\tn i s7.heap/\(∀ b∈fp,H' b=none)/\W i m σ' H':=fun {σ7 H7} I7 n7=>by
     obtain⟨m',hm,w7⟩:=hN σ7 H7 n7
     refine⟨m',hm,i+1,σ7,H7,I7.jw,T.keep _ _ _ Ga fun b hb o e=>(I7.pin (b,o) (List.mem_append_right _ (List.mem_append_right _ (fG hb e)))).1,fun b hb=>?_,w7⟩
     obtain⟨o,e,d⟩:=T.obj _ _ Ga b hb
     exact(I7.pin (b,o) (List.mem_append_right _ (List.mem_append_right _ (fG hb e)))).2.1
   cases f with
   | next=>obtain⟨σ7,H7,I7,n7⟩:=q7;exact again I7 n7
   | cont=>obtain⟨σ7,H7,I7,n7⟩:=q7;exact again I7 n7
   | brk=>obtain⟨σ7,H7,I7,q7⟩:=q7;exact⟨σ7,H7,I7.jw,q7⟩
   | ret v=>obtain⟨x7,σ7,H7,I7,r7,q7⟩:=q7;exact⟨x7,σ7,H7,I7.jw,r7,q7⟩
end
theorem z7 {K:PySem.W.Frag}{a:Addr}{xs:List V}{g:TG}{tb:TS}{D:Ends}{σ:St}{H:Hp}(Pv:Nat->St->Hp->Prop)(h0:Pv 0 σ H)(hl:∀ i σ H,i<=xs.length->Pv i σ H->mh K H a xs)(hs:∀ i x σ H,xs[i]?=some x->Pv i σ H->g x σ H fun σ2 H2=>tb { D with nx:=Pv (i+1),ct:=Pv (i+1),bk:=D.nx} σ2 H2)(hd:∀ σ H,Pv xs.length σ H->D.nx σ H):∃ W:Nat->Nat->St->Hp->Prop,(∃ m,W 0 m σ H)/\∀ i m σ H,W i m σ H->((R7 K a).stop i H/\D.nx σ H)\/((R7 K a).go i H/\∃ N:St->Hp->Prop,(∀ σ' H',N σ' H'->∃ m',m' < m/\W (i+1) m' σ' H')/\∀ x H',(R7 K a).Gy i H x H'->g x σ H' fun σ2 H2=>tb { D with nx:=N,ct:=N,bk:=D.nx} σ2 H2):=by
 refine⟨fun i m σ H=>m=xs.length - i/\i<=xs.length/\Pv i σ H,⟨xs.length,by simp,Nat.zero_le _,h0⟩,?_⟩
 rintro i m σ H ⟨rfl,hi,p⟩
 have q:=hl i σ H hi p
 by_cases de:i < xs.length
 . refine .inr ⟨⟨xs,xs[i],q,by simp[de]⟩,Pv (i+1),fun σ' H' p'=>⟨xs.length - (i+1),by omega,rfl,de,p'⟩,fun x H' y=>?_⟩
   obtain⟨e,y⟩:=y
   subst e
   exact hs i x σ _ (y xs q) p
 . have e:i=xs.length:=by omega
   subst e
   exact .inl ⟨⟨xs,q,Nat.le_refl _⟩,hd σ H p⟩
theorem EM {lo:Int}{n:Nat}{g:TG}{tb:TS}{D:Ends}{σ:St}{H:Hp}(Pv:Nat->St->Hp->Prop)(h0:Pv 0 σ H)(hs:∀ i σ H,i < n->Pv i σ H->g (.int (lo+i)) σ H fun σ2 H2=>tb { D with nx:=Pv (i+1),ct:=Pv (i+1),bk:=D.nx} σ2 H2)(hd:∀ σ H,Pv n σ H->D.nx σ H):∃ W:Nat->Nat->St->Hp->Prop,(∃ m,W 0 m σ H)/\∀ i m σ H,W i m σ H->((Ke lo n).stop i H/\D.nx σ H)\/((Ke lo n).go i H/\∃ N:St->Hp->Prop,(∀ σ' H',N σ' H'->∃ m',m' < m/\W (i+1) m' σ' H')/\∀ x H',(Ke lo n).Gy i H x H'->g x σ H' fun σ2 H2=>tb { D with nx:=N,ct:=N,bk:=D.nx} σ2 H2):=by
 refine⟨fun i m σ H=>m=n - i/\i<=n/\Pv i σ H,⟨n,by simp,Nat.zero_le _,h0⟩,?_⟩
 rintro i m σ H ⟨rfl,hi,p⟩
 by_cases de:i < n
 . refine .inr ⟨de,Pv (i+1),fun σ' H' p'=>⟨n - (i+1),by omega,rfl,de,p'⟩,fun x H' y=>?_⟩
   obtain⟨e,y⟩:=y
   subst e y
   exact hs i σ _ de p
 . have e:i=n:=by omega
   subst e
   exact .inl ⟨Nat.le_refl _,hd σ H p⟩
noncomputable abbrev R2:=V->V->Hp->VK->Prop
noncomputable def n9 (X:Cx)(f:Value->Value->Sem Value)(r:R2):Prop:=
 ∀ (pins:List (Addr×Obj)) (s:Shared) (σ:St) (H:Hp) (x y:V) (v u:Value) (Q:VK),Inv X pins σ H s->RelV x v->RelV y u->r x y H Q ->
   wpAny (model X.prog X.w) X.A (f v u) (EP X pins σ Q) X.xe s
noncomputable def Wb (X:Cx)(f:Value->Sem Value)(r:V->Hp->VK->Prop):Prop:=
 ∀ (pins:List (Addr×Obj)) (s:Shared) (σ:St) (H:Hp) (x:V) (v:Value) (Q:VK),Inv X pins σ H s->RelV x v->r x H Q ->
   wpAny (model X.prog X.w) X.A (f v) (EP X pins σ Q) X.xe s
noncomputable def jU (X:Cx)(f:Value)(r:List V->Hp->VK->Prop):Prop:=
 ∀ (pins:List (Addr×Obj)) (s:Shared) (σ:St) (H:Hp) (xs:List V) (us:List Value) (Q:VK),Inv X pins σ H s->Vals xs us->r xs H Q ->
   wpAny (model X.prog X.w) X.A (call f us) (EP X pins σ Q) X.xe s
noncomputable def R9 (r:R2)(ta tb:TE):TE:=fun σ H Q=>ta σ H fun x H1=>tb σ H1 fun y H2=>r x y H2 Q
noncomputable def tUn (r:V->Hp->VK->Prop)(ta:TE):TE:=fun σ H Q=>ta σ H fun x H1=>r x H1 Q
noncomputable def rI (C:Int->Int->Prop)(g:Int->Int->V):R2:=fun x y H Q=>∃ i j,x=.int i/\y=.int j/\C i j/\Q (g i j) H
noncomputable def KI (g:Int->Int->V):R2:=fun x y H Q=>∃ i j,x=.int i/\y=.int j/\Q (g i j) H
noncomputable def rU (g:Int->V):V->Hp->VK->Prop:=fun x H Q=>∃ i,x=.int i/\Q (g i) H
section
variable {X:Cx}{a b:Expr}{ta tb:TE}{pos:Pos}
theorem OA (ha:PE X a ta)(hb:PE X b tb){pins:List (Addr×Obj)}{s:Shared}{σ:St}{H:Hp}{R:V->V->Hp->Prop}(I:Inv X pins σ H s)(h:ta σ H fun x H1=>tb σ H1 fun y H2=>R x y H2){Q:Value->Shared->Prop}{f:Value->Value->Sem Value}(hf:∀ v u s2 x y H2,Inv X pins σ H2 s2->RelV x v->RelV y u->R x y H2->wpAny (model X.prog X.w) X.A (f v u) Q X.xe s2):wpAny (model X.prog X.w) X.A (eval a X.env) (fun v s₁=>wpAny (model X.prog X.w) X.A (eval b X.env) (fun u s₂=>wpAny (model X.prog X.w) X.A (f v u) Q X.xe s₂) X.xe s₁) X.xe s:=by
 refine bX (ha pins s σ H _ I h) fun v s1 ⟨x,H1,I1,r1,q1⟩=>?_
 refine bX (hb pins s1 σ H1 _ I1 q1) fun u s2 ⟨y,H2,I2,r2,q2⟩=>?_
 exact hf v u s2 x y H2 I2 r1 r2 q2
theorem Nc {op:Operator}{r:R2}(ho:n9 X (binaryOp op) r)(ha:PE X a ta)(hb:PE X b tb):PE X (.BinOp a op b pos) (R9 r ta tb):=by
 intro pins s σ H Q I h
 exact wpAny_BinOp (OA ha hb I h fun v u s2 x y H2 I2 rx ry q=>ho pins s2 σ H2 x y v u Q I2 rx ry q)
theorem Sa {op:UnaryOp}{r:V->Hp->VK->Prop}(ho:Wb X (unaryOp op) r)(ha:PE X a ta):PE X (.UnaryOp op a pos) (tUn r ta):=by
 intro pins s σ H Q I h
 exact UnaryOp_ (bX (ha pins s σ H _ I h) fun v s1 ⟨x,H1,I1,r1,q1⟩=>ho pins s1 σ H1 x v Q I1 r1 q1)
theorem Vg {f:Value->Value->Sem Value}{C:Int->Int->Prop}{g:Int->Int->Int}(rule:∀ (i j:Int) (t u:Tok) (s:Shared) (Q:Value->Shared->Prop) (E:Value->Shared->Prop),C i j->Q (.int (g i j) s.toks) { s with toks:=s.toks+1}->wpAny (model X.prog X.w) X.A (f (.int i t) (.int j u)) Q E s):n9 X f (rI C fun i j=>.int (g i j)):=by
 intro pins s σ H x y v u Q I rx ry h
 obtain⟨i,j,rfl,rfl,hc,q⟩:=h
 obtain⟨t,rfl⟩:=rx
 obtain⟨t',rfl⟩:=ry
 exact rule i j t t' s _ _ hc ⟨.int (g i j),H,I.tok _,⟨_,rfl⟩,q⟩
theorem Sb {f:Value->Value->Sem Value}{g:Int->Int->Int}(rule:∀ (i j:Int) (t u:Tok) (s:Shared) (Q:Value->Shared->Prop) (E:Value->Shared->Prop),Q (.int (g i j) s.toks) { s with toks:=s.toks+1}->wpAny (model X.prog X.w) X.A (f (.int i t) (.int j u)) Q E s):n9 X f (KI fun i j=>.int (g i j)):=by
 intro pins s σ H x y v u Q I rx ry h
 obtain⟨i,j,rfl,rfl,q⟩:=h
 obtain⟨t,rfl⟩:=rx
 obtain⟨t',rfl⟩:=ry
 exact rule i j t t' s _ _ ⟨.int (g i j),H,I.tok _,⟨_,rfl⟩,q⟩
theorem KJ {f:Value->Value->Sem Value}{g:Int->Int->Bool}(rule:∀ (i j:Int) (t u:Tok) (s:Shared) (Q:Value->Shared->Prop) (E:Value->Shared->Prop),Q (.bool (g i j)) s->wpAny (model X.prog X.w) X.A (f (.int i t) (.int j u)) Q E s):n9 X f (KI fun i j=>.bl (g i j)):=by
 intro pins s σ H x y v u Q I rx ry h
 obtain⟨i,j,rfl,rfl,q⟩:=h
 obtain⟨t,rfl⟩:=rx
 obtain⟨t',rfl⟩:=ry
 exact rule i j t t' s _ _ ⟨.bl (g i j),H,I,rfl,q⟩
noncomputable def Sd (i j:Int):Prop:=0<=j/\j<=1000000/\i.natAbs < 2 ^ 64
noncomputable def qe (i j:Int):Prop:=(-(2 ^ 64) < i/\i < 2 ^ 64)\/(-(2 ^ 64) < j/\j < 2 ^ 64)
theorem qe.ok {i j:Int}(h:qe i j):IntMulOk i j:=by
 rcases h with⟨h1,h2⟩ | ⟨h1,h2⟩
 . exact .of_left (intBits_le_64 h1 h2)
 . exact .of_right (intBits_le_64 h1 h2)
theorem OB:n9 X (binaryOp .Add) (KI fun i j=>.int (i+j)):=Sb fun _ _ _ _ _ _ _ q=>add_int q
theorem OC:n9 X (binaryOp .Sub) (KI fun i j=>.int (i - j)):=Sb fun _ _ _ _ _ _ _ q=>sub_int q
theorem OD:n9 X (binaryOp .Mod) (rI (fun _ j=>0 < j) fun i j=>.int (i % j)):=Vg fun i j _ _ _ _ _ hc q=>by
 have h1:(0:Int) < j:=hc
 exact mod_int' (by omega) (by rw[Int.fmod_eq_emod_of_nonneg i (by omega)];exact q)
theorem OE:n9 X (binaryOp .Pow) (rI Sd fun i j=>.int (i ^ j.toNat)):=Vg fun _ _ _ _ _ _ _ hc q=>pow_int_small hc.1 hc.2.1 hc.2.2 q
theorem unI {f:Value->Sem Value}{g:Int->Int}(rule:∀ (i:Int) (t:Tok) (s:Shared) (Q:Value->Shared->Prop) (E:Value->Shared->Prop),Q (.int (g i) s.toks) { s with toks:=s.toks+1}->wpAny (model X.prog X.w) X.A (f (.int i t)) Q E s):Wb X f (rU fun i=>.int (g i)):=by
 intro pins s σ H x v Q I rx h
 obtain⟨i,rfl,q⟩:=h
 obtain⟨t,rfl⟩:=rx
 exact rule i t s _ _ ⟨.int (g i),H,I.tok _,⟨_,rfl⟩,q⟩
theorem OF:Wb X (unaryOp .USub) (rU fun i=>.int (-i)):=unI fun _ _ _ _ _ q=>neg_int q
end
noncomputable def KL:V->V->Bool
 | .cP,.cP=>true | .cP,.int _=>true | .int _,.cP=>true | .cP,.bl _=>true | .bl _,.cP=>true | .cP,.str _=>true | .str _,.cP=>true
 | .int _,.int _=>true | .bl _,.bl _=>true | .str _,.str _=>true | .F8 _,.F8 _=>true
 | .int _,.str _=>true | .str _,.int _=>true | .bl _,.str _=>true | .str _,.bl _=>true
 | _,_=>false
noncomputable def rEq:R2:=fun x y H Q=>KL x y=true/\Q (.bl (decide (x=y))) H
noncomputable def rNe:R2:=fun x y H Q=>KL x y=true/\Q (.bl (!decide (x=y))) H
theorem oe {i j:Int}:decide (V.int i=V.int j)=(i == j):=by
 rw[Bool.eq_iff_iff]
 simp
theorem GC {i j:Bool}:decide (V.bl i=V.bl j)=(i == j):=by
 rw[Bool.eq_iff_iff]
 simp
theorem tJ {i j:Str}:decide (V.str i=V.str j)=(i == j):=by
 rw[Bool.eq_iff_iff]
 simp
theorem Dr {i j:Array UInt8}:decide (V.F8 i=V.F8 j)=(i.toList == j.toList):=by
 rw[Bool.eq_iff_iff]
 cases i
 cases j
 simp
section
variable {X:Cx}{a b c:Expr}{ta tb tc:TE}{pos:Pos}
theorem bE {pins:List (Addr×Obj)}{σ:St}{H:Hp}{s:Shared}{Q:VK}{k k':Bool}(I:Inv X pins σ H s)(q:Q (.bl k) H)(e:k=k'):EP X pins σ Q (.bool k') s:=by
 subst e
 exact⟨.bl k,H,I,rfl,q⟩
theorem GD:n9 X (compareOp .Eq) rEq:=by
 intro pins s σ H x y v u Q I rx ry h
 obtain⟨hs,q⟩:=h
 cases x with
 | cP=>
   cases rx
   cases y with
   | cP=>cases ry;exact PySem.EqNone.eq_none_none (bE I q (by simp))
   | bl j=>cases ry;exact PySem.EqNone.eq_none_bool (bE I q (by simp))
   | int j=>obtain⟨t',rfl⟩:=ry;exact PySem.EqNone.eq_none_int (bE I q (by simp))
   | str j=>obtain⟨t',rfl⟩:=ry;exact PySem.EqNone.eq_none_str (bE I q (by simp))
   | _=>exact absurd (show false=true from hs) Bool.false_ne_true
 | bl i=>
   cases rx
   cases y with
   | cP=>cases ry;exact PySem.EqNone.eq_bool_none (bE I q (by simp))
   | bl j=>cases ry;exact eq_bool (bE I q GC)
   | str j=>obtain⟨t',rfl⟩:=ry;exact PySem.EqMixed.eq_bool_str (bE I q (by simp))
   | _=>exact absurd (show false=true from hs) Bool.false_ne_true
 | int i=>
   obtain⟨t,rfl⟩:=rx
   cases y with
   | cP=>cases ry;exact PySem.EqNone.eq_int_none (bE I q (by simp))
   | int j=>obtain⟨t',rfl⟩:=ry;exact eq_int (bE I q oe)
   | str j=>obtain⟨t',rfl⟩:=ry;exact PySem.EqMixed.eq_int_str (bE I q (by simp))
   | _=>exact absurd (show false=true from hs) Bool.false_ne_true
 | str i=>
   obtain⟨t,rfl⟩:=rx
   cases y with
   | cP=>cases ry;exact PySem.EqNone.eq_str_none (bE I q (by simp))
   | bl j=>cases ry;exact PySem.EqMixed.eq_str_bool (bE I q (by simp))
   | int j=>obtain⟨t',rfl⟩:=ry;exact PySem.EqMixed.eq_str_int (bE I q (by simp))
   | str j=>obtain⟨t',rfl⟩:=ry;exact eq_str (bE I q tJ)
   | _=>exact absurd (show false=true from hs) Bool.false_ne_true
 | F8 i=>
   obtain⟨t,rfl⟩:=rx
   cases y with
   | F8 j=>obtain⟨t',rfl⟩:=ry;exact W.eq_bytes (bE I q Dr)
   | _=>exact absurd (show false=true from hs) Bool.false_ne_true
 | _=>cases y <;> exact absurd (show false=true from hs) Bool.false_ne_true
theorem Se:n9 X (compareOp .NotEq) rNe:=by
 intro pins s σ H x y v u Q I rx ry h
 obtain⟨hs,q⟩:=h
 cases x with
 | cP=>
   cases rx
   cases y with
   | cP=>cases ry;exact PySem.EqNone.ne_none_none (bE I q (by simp))
   | bl j=>cases ry;exact PySem.EqNone.ne_none_bool (bE I q (by simp))
   | int j=>obtain⟨t',rfl⟩:=ry;exact PySem.EqNone.ne_none_int (bE I q (by simp))
   | str j=>obtain⟨t',rfl⟩:=ry;exact PySem.EqNone.ne_none_str (bE I q (by simp))
   | _=>exact absurd (show false=true from hs) Bool.false_ne_true
 | bl i=>
   cases rx
   cases y with
   | cP=>cases ry;exact PySem.EqNone.ne_bool_none (bE I q (by simp))
   | bl j=>cases ry;exact ne_bool (bE I q (congrArg not GC))
   | str j=>obtain⟨t',rfl⟩:=ry;exact PySem.EqMixed.ne_bool_str (bE I q (by simp))
   | _=>exact absurd (show false=true from hs) Bool.false_ne_true
 | int i=>
   obtain⟨t,rfl⟩:=rx
   cases y with
   | cP=>cases ry;exact PySem.EqNone.ne_int_none (bE I q (by simp))
   | int j=>obtain⟨t',rfl⟩:=ry;exact ne_int (bE I q (congrArg not oe))
   | str j=>obtain⟨t',rfl⟩:=ry;exact PySem.EqMixed.ne_int_str (bE I q (by simp))
   | _=>exact absurd (show false=true from hs) Bool.false_ne_true
 | str i=>
   obtain⟨t,rfl⟩:=rx
   cases y with
   | cP=>cases ry;exact PySem.EqNone.ne_str_none (bE I q (by simp))
   | bl j=>cases ry;exact PySem.EqMixed.ne_str_bool (bE I q (by simp))
   | int j=>obtain⟨t',rfl⟩:=ry;exact PySem.EqMixed.ne_str_int (bE I q (by simp))
   | str j=>obtain⟨t',rfl⟩:=ry;exact ne_str (bE I q (congrArg not tJ))
   | _=>exact absurd (show false=true from hs) Bool.false_ne_true
 | F8 i=>
   obtain⟨t,rfl⟩:=rx
   cases y with
   | F8 j=>obtain⟨t',rfl⟩:=ry;exact W.ne_bytes (bE I q (congrArg not Dr))
   | _=>exact absurd (show false=true from hs) Bool.false_ne_true
 | _=>cases y <;> exact absurd (show false=true from hs) Bool.false_ne_true
theorem Sf:n9 X (compareOp .Lt) (KI fun i j=>.bl (decide (i < j))):=KJ fun _ _ _ _ _ _ _ q=>lt_int q
theorem GG:n9 X (compareOp .LtE) (KI fun i j=>.bl (decide (i<=j))):=KJ fun _ _ _ _ _ _ _ q=>le_int q
theorem Sh:n9 X (compareOp .Gt) (KI fun i j=>.bl (decide (j < i))):=KJ fun _ _ _ _ _ _ _ q=>gt_int q
theorem Si:n9 X (compareOp .GtE) (KI fun i j=>.bl (decide (j<=i))):=KJ fun _ _ _ _ _ _ _ q=>ge_int q
theorem lx (b:Expr){op:CmpOp}(h:op≠.In:=by decide)(h2:op≠.NotIn:=by decide):behindInMarks op b=false:=by
 have e1:(op == CmpOp.In)=false:=by cases op <;> first | rfl | exact absurd rfl h
 have e2:(op == CmpOp.NotIn)=false:=by cases op <;> first | rfl | exact absurd rfl h2
 cases b <;> simp[behindInMarks,e1,e2]
theorem KN {op:CmpOp}{r:R2}(ho:n9 X (compareOp op) r)(ha:PE X a ta)(hb:PE X b tb)(hm:behindInMarks op b=false):PE X (.Compare a [op] [b] pos) (R9 r ta tb):=by
 intro pins s σ H Q I h
 exact wpAny_Compare1 (OA ha hb I h fun v u s2 x y H2 I2 rx ry q=>ho pins s2 σ H2 x y v u Q I2 rx ry q) hm
noncomputable def Sk (t:TE):TT:=fun σ H Q=>t σ H fun x H'=>∃ k,x=.bl k/\Q k H'
theorem KO {op:CmpOp}{r:R2}(ho:n9 X (compareOp op) r)(ha:PE X a ta)(hb:PE X b tb)(hm:behindInMarks op b=false):PT X (.Compare a [op] [b] pos) (Sk (R9 r ta tb)):=by
 intro pins s σ H Q I h
 refine wpAny_isTrue_Compare1 (bX (ha pins s σ H _ I h) fun v s1 ⟨x,H1,I1,r1,q1⟩=>bX (hb pins s1 σ H1 _ I1 q1) fun u s2 ⟨y,H2,I2,r2,q2⟩=>
   bX (ho pins s2 σ H2 x y v u _ I2 r1 r2 q2) fun c s3 ⟨z,H3,I3,r3,k,e,q3⟩=>?_) hm
 subst e
 cases r3
 exact wpAny_truthy_bool ⟨H3,I3,q3⟩
noncomputable def OG (r r':R2)(ta tb tc:TE):TE:=fun σ H Q=>ta σ H fun x H1=>tb σ H1 fun y H2=>r x y H2 fun z H3=>∃ k,z=.bl k /\
 (if k=true then tc σ H3 fun w' H4=>r' y w' H4 Q else Q (.bl false) H3)
theorem GH {op OH:CmpOp}{r r':R2}(ho:n9 X (compareOp op) r)(zV:n9 X (compareOp OH) r')(ha:PE X a ta)(hb:PE X b tb)(hc:PE X c tc)(hm:lastMarks [op,OH] [b,c]=false:=by with_unfolding_all rfl):PE X (.Compare a [op,OH] [b,c] pos) (OG r r' ta tb tc):=by
 intro pins s σ H Q I h
 refine Compare_chain (bX (ha pins s σ H _ I h) fun v s1 ⟨x,H1,I1,r1,q1⟩=>chain_link (bX (hb pins s1 σ H1 _ I1 q1) fun u s2 ⟨y,H2,I2,r2,q2⟩=>
   bX (ho pins s2 σ H2 x y v u _ I2 r1 r2 q2) fun d s3 ⟨z,H3,I3,r3,k,e,q3⟩=>?_)) hm
 subst e
 cases r3
 refine wpAny_truthy_bool ?_
 cases k with
 | false=>exact ite_ff ⟨.bl false,H3,I3,rfl,q3⟩
 | true=>exact ite_tt (chain_last (bX (hc pins s3 σ H3 _ I3 q3) fun w' s4 ⟨z',H4,I4,r4,q4⟩=>zV pins s4 σ H4 y z' u w' Q I4 r2 r4 q4))
theorem ly:(sizeLine:Nat) < 2 ^ 63:=by rw[sizeLine_eq];decide
theorem B1:n9 X (binaryOp .Add) (fun x y H Q=>∃ i j,x=.str i/\y=.str j/\i.length+j.length<=sizeLine/\Q (.str (i ++ j)) H):=by
 intro pins s σ H x y v u Q I rx ry h
 obtain⟨i,j,rfl,rfl,hz,q⟩:=h
 obtain⟨t,rfl⟩:=rx
 obtain⟨t',rfl⟩:=ry
 exact add_str (fun t' tk=>⟨.str (i ++ j),H,I.tok _,⟨_,rfl⟩,q⟩) hz
theorem vals1 {x:V}{us:List Value}(r:Vals [x] us):∃ u,us=[u]/\RelV x u:=by
 cases r with
 | cons r1 r2=>cases r2;exact⟨_,rfl,r1⟩
theorem vals2 {x y:V}{us:List Value}(r:Vals [x,y] us):∃ u w',us=[u,w']/\RelV x u/\RelV y w':=by
 cases r with
 | cons r1 r2=>
   cases r2 with
   | cons r3 r4=>cases r4;exact⟨_,_,rfl,r1,r3⟩
theorem EN (hc:X.calm=true):jU X (.builtin "max") (fun xs H Q=>∃ i j,xs=[.int i,.int j]/\Q (.int (if j > i then j else i)) H):=by
 intro pins s σ H xs us Q I r h
 obtain⟨i,j,rfl,q⟩:=h
 obtain⟨u,w',rfl,⟨t,rfl⟩,⟨t',rfl⟩⟩:=vals2 r
 refine max_two_ints (I.ok.hd hc) fun h' tk k=>⟨_,H,I.kept k,?_,q⟩
 by_cases hj:j > i
 . rw[if_pos hj,if_pos hj];exact⟨_,rfl⟩
 . rw[if_neg hj,if_neg hj];exact⟨_,rfl⟩
theorem ER (hc:X.calm=true):jU X (.builtin "min") (fun xs H Q=>∃ i j,xs=[.int i,.int j]/\Q (.int (if j < i then j else i)) H):=by
 intro pins s σ H xs us Q I r h
 obtain⟨i,j,rfl,q⟩:=h
 obtain⟨u,w',rfl,⟨t,rfl⟩,⟨t',rfl⟩⟩:=vals2 r
 refine min_two_ints (I.ok.hd hc) fun h' tk k=>⟨_,H,I.kept k,?_,q⟩
 by_cases hj:j < i
 . rw[if_pos hj,if_pos hj];exact⟨_,rfl⟩
 . rw[if_neg hj,if_neg hj];exact⟨_,rfl⟩
end
structure B2 (h:Heap)(x dx C:Addr)(mA:Str->Option Value):Prop where
 obj:h.get? x=some (W.instObj C dx)
 ns:h.Ns1 dx mA
 ne:dx≠x
theorem ET {h:Heap}{dx:Addr}{mA:Str->Option Value}(n:h.Ns1 dx mA):∃ od,h.get? dx=some od/\∀ name,W.lookIn name od=some (mA name):=by
 obtain⟨o,es,ep,ho,hd,hk,_,hm⟩:=n
 refine⟨o,ho,fun name=>?_⟩
 have e:=hm name
 unfold nsFind findBy at e
 rw[<- Array.find?_toList] at e
 unfold W.lookIn
 rw[hd]
 dsimp only
 split
 . rename_i y q
   rw[q] at e
   exact congrArg some e
 . rename_i q
   rw[q] at e
   have a:es.toList.any (·.refKey)=false:=by
     rw[List.any_eq_false]
     intro y hy
     obtain⟨z,t,Wc⟩:=hk y (Array.mem_toList_iff.mp hy)
     simp[DictEntry.refKey,Wc]
   have a':¬ es.toList.any (·.refKey)=true:=by rw[a];exact Bool.false_ne_true
   rw[if_neg a']
   exact congrArg some e
theorem B2.look {h:Heap}{x dx C:Addr}{mA:Str->Option Value}(I:B2 h x dx C mA):∃ od,W.InstAt h x (W.instObj C dx) C (some od)/\∀ name,W.lookIn name od=some (mA name):=
 let ⟨od,ho,hl⟩:=ET I.ns
 ⟨od,⟨I.obj,rfl,rfl,ho⟩,hl⟩
section
variable {prog:Program}{w:World}{A:Around}{E:Value->Shared->Prop}{s:Shared}{K:W.Frag}{x dx C f:Addr}{mA:Str->Option Value}{name:Str}{v:Value}
theorem get_map {expr:Bool}{Q:Value->Shared->Prop}(X:K.In s.heap)(I:B2 s.heap x dx C mA)(hg:W.plainGet K C name=true)(hh:W.hasDictIn K C=true)(ha:W.findIn K (.ref C) name=some none)(hv:mA name=some v)(Vh:W.handedIn v=true)(h:Q v { s with toks:=s.toks+1}):wpAny (model prog w) A (getAttr (.ref x) name expr) Q E s:=by
 obtain⟨od,J,hl⟩:=I.look
 exact W.get_value X J (W.plainGet_of hg).1 (W.findObj_own hh ha rfl (by rw[hl,hv])) Vh h
theorem GI {pl:Sem Bool}{Q:Value×List Value->Shared->Prop}(X:K.In s.heap)(I:B2 s.heap x dx C mA)(hg:W.plainGet K C name=true)(hf:W.findIn K (.ref C) name=some (some (.ref f)))(ht:W.isFn K (.ref f)=true)(hv:mA name=none)(h:Q (.ref f,[.ref x]) s):wpAny (model prog w) A (getMethod (.ref x) name pl) Q E s:=by
 obtain⟨od,J,hl⟩:=I.look
 exact W.method_fn X J (W.plainGet_of hg).1 (W.plainGet_of hg).2 hf (beq_iff_eq.mp ht) (by show(W.lookIn name od).map (·.isSome)=some false;rw[hl,hv];rfl) h
theorem KP {ns:List Str}{Q:Unit->Shared->Prop}(X:K.In s.heap)(I:B2 s.heap x dx C mA)
   (hs:W.findIn K (.ref C) "__setattr__"=some (some (.builtin "object.__setattr__"))) (hp:W.plainOver K C=true) (ht:W.takerIn K C name=some none) (hh:W.hasDictIn K C=true)
   (hw:PySem.Within mA ns) (hsz:ns.length<=sizeLine)
   (h:∀ h',B2 h' x dx C (fun y=>if y=name then some v else mA y)->Heap.SameBut dx s.heap h'->Q () { s with heap:=h',toks:=s.toks+2}) :
   wpAny (model prog w) A (setAttr (.ref x) name v) Q E s:=by
 obtain⟨od,J,hl⟩:=I.look
 refine W.set_plain X J hs (W.osa_open (s:={ s with toks:=s.toks+1}) (r:=none) X J hp ht fun b=>?_)
 obtain⟨cd,hc,Rr⟩:=W.any_some hh
 have hx:s.heap.get? x=some ⟨.ref C,some dx,.plain,#[]⟩:=I.obj
 refine wpAny_bind (wpAny_pure (wpAny_bind (wpAny_bind (wpAny_loadPart hx (wpAny_bind (W.Looks.here (s:={ s with toks:=s.toks+1}) (W.looks_clsIn X hc) ?_))))))
 rw[Rr]
 refine wpAny_pure (a:=some dx) (wpAny_bind (wpAny_pure (wpAny_bind ?_)))
 refine wpAny_nsSet1 (s:={ s with toks:=s.toks+1}) I.ns fun h' Ru z8=>?_
 obtain⟨oD,esD,epD,hoD,hdD,KQ⟩:=Ru.count (PySem.Within.cons name v hw)
 refine wpAny_bind (wpAny_lookBehind hoD (by rw[hdD];exact pastItsLine_dict (Nat.le_trans KQ (by rw[List.length_cons];omega))) ?_)
 exact wpAny_pure (h _ ⟨(z8.2 _ (Ne.symm I.ne)).trans I.obj,Ru,I.ne⟩ z8)
theorem GJ {R:Result->Shared->Prop}{vs:List Value}{kw:List (Str×Value)}(X:K.In s.heap)(hm:W.makesIn K C=true)(hi:W.findIn K (.ref C) "__init__"=some (some (.ref f)))(hf:W.typeIn K (.ref f)=some (.type "function"))(h:codeAny (model prog w) (A.under (.builtin "type.__call__" ⟨.ref C::vs,kw⟩)) (.call (.ref f) ⟨.ref (s.heap.objs.size+1)::vs,kw⟩) (W.InitBack (s.heap.objs.size+1) R) { s with heap:=(s.heap.push W.emptyDict).push (W.instObj C s.heap.objs.size)}):codeAny (model prog w) A (.call (.ref C) ⟨vs,kw⟩) R s:=by
 obtain⟨hh,g,d,t,os⟩:=s
 exact W.make_core (W.makes_of X hm) (W.looks_findIn X hi) (fun self=>W.bind_fn X self hf) (.inl rfl) h
theorem EU {R:Result->Shared->Prop}(X:K.In s.heap)(hm:W.makesIn K C=true)(hi:W.findIn K (.ref C) "__init__"=some (some (.builtin "object.__init__")))(hb:∀ self,W.Looks (model prog w) s.heap (bindSpecial (.builtin "object.__init__") self) (.builtin "object.__init__",[self]))(h:codeAny (model prog w) (A.under (.builtin "type.__call__" ⟨[.ref C],[]⟩)) (.call (.builtin "object.__init__") ⟨[.ref (s.heap.objs.size+1)],[]⟩) (W.InitBack (s.heap.objs.size+1) R) { s with heap:=(s.heap.push W.emptyDict).push (W.instObj C s.heap.objs.size)}):codeAny (model prog w) A (.call (.ref C) ⟨[],[]⟩) R s:=by
 obtain⟨hh,g,d,t,os⟩:=s
 exact W.make_core (W.makes_of X hm) (W.looks_findIn X hi) hb (.inr ⟨rfl,rfl⟩) h
end
noncomputable def ff (f:Str)(v:V):List (Str×V)->List (Str×V)
 | []=>[(f,v)]
 | (g,x)::r=>if g=f then (g,v)::r else (g,x)::ff f v r
theorem nA (f g:Str)(v:V):∀ fs:List (Str×V),(ff f v fs).lookup g=if g=f then some v else fs.lookup g
 | []=>by
   show List.lookup g [(f,v)]=_
   by_cases h:g=f
   . have hb:(g == f)=true:=beq_iff_eq.mpr h
     simp only[List.lookup,hb,if_pos h]
   . have hb:(g == f)=false:=beq_eq_false_iff_ne.mpr h
     simp only[List.lookup,hb,if_neg h]
 | (k,x)::r=>by
   have ih:=nA f g v r
   rw[show ff f v ((k,x)::r)=(if k=f then (k,v)::r else (k,x)::ff f v r) from rfl]
   by_cases hk:k=f
   . rw[if_pos hk]
     by_cases h:g=k
     . have hb:(g == k)=true:=beq_iff_eq.mpr h
       simp only[List.lookup,hb,if_pos (h.trans hk)]
     . have hb:(g == k)=false:=beq_eq_false_iff_ne.mpr h
       simp only[List.lookup,hb,if_neg (fun e:g=f=>h (e.trans hk.symm))]
   . rw[if_neg hk]
     by_cases h:g=k
     . have hb:(g == k)=true:=beq_iff_eq.mpr h
       simp only[List.lookup,hb,if_neg (fun e:g=f=>hk (h.symm.trans e))]
     . have hb:(g == k)=false:=beq_eq_false_iff_ne.mpr h
       simp only[List.lookup,hb]
       exact ih
theorem qZ (f:Str)(v:V):∀ fs:List (Str×V),f∈(ff f v fs).map (·.1)/\∀ g,g∈fs.map (·.1)->g∈(ff f v fs).map (·.1)
 | []=>⟨by simp[ff],fun g h=>by simp at h⟩
 | (k,x)::r=>by
   obtain⟨i1,i2⟩:=qZ f v r
   rw[show ff f v ((k,x)::r)=(if k=f then (k,v)::r else (k,x)::ff f v r) from rfl]
   by_cases hk:k=f
   . rw[if_pos hk]
     subst hk
     exact⟨by simp,fun g h=>by simpa using h⟩
   . rw[if_neg hk]
     refine⟨?_,fun g h=>?_⟩
     . rw[List.map_cons]
       exact List.mem_cons_of_mem _ i1
     . rw[List.map_cons] at h ⊢
       rcases List.mem_cons.mp h with e | e
       . exact List.mem_cons.mpr (.inl e)
       . exact List.mem_cons_of_mem _ (i2 g e)
theorem sj (f:Str)(v:V):∀ fs:List (Str×V),(ff f v fs).length<=fs.length+1
 | []=>by simp[ff]
 | (k,x)::r=>by
   have ih:=sj f v r
   rw[show ff f v ((k,x)::r)=(if k=f then (k,v)::r else (k,x)::ff f v r) from rfl]
   by_cases hk:k=f
   . rw[if_pos hk,List.length_cons,List.length_cons];omega
   . rw[if_neg hk,List.length_cons,List.length_cons];omega
theorem oX.some_of {v:V}{o:Option Value}(r:oX (some v) o):∃ u,o=some u/\RelV v u:=by
 cases o with
 | none=>exact(show False from r).elim
 | some u=>exact⟨u,rfl,r⟩
theorem oX.none_of {o:Option Value}(r:oX none o):o=none:=by
 cases o with
 | none=>rfl
 | some u=>exact(show False from r).elim
theorem EV {v:V}{u:Value}(r:RelV v u):W.handedIn u=true:=by
 cases v with
 | cP=>cases (show u=Value.none from r);rfl
 | bl b=>cases (show u=Value.bool b from r);rfl
 | int i=>obtain⟨t,e⟩:=(show ∃ t,u=Value.int i t from r);cases e;rfl
 | str x=>obtain⟨t,e⟩:=(show ∃ t,u=Value.str x t from r);cases e;rfl
 | F8 b=>obtain⟨t,e⟩:=(show ∃ t,u=Value.bytes b t from r);cases e;rfl
 | Oa b=>obtain⟨t,e⟩:=(show ∃ t,u=Value.float b t from r);cases e;rfl
 | ref a=>cases (show u=Value.ref a from r);rfl
 | ty n=>cases (show u=Value.type n from r);rfl
section
variable {P:Program}{w:World}{H:Hp}{h:Heap}{a C dx:Addr}{fs:List (Str×V)}
theorem tK (a5:qb P w H h)(e:Rd H a (.ins C dx fs)):∃ mA,B2 h a dx C mA/\(∀ f,oX (fs.lookup f) (mA f))/\PySem.Within mA (fs.map (·.1))/\fs.length<=1000/\H dx=some (.own a):=by
 obtain⟨d,z,ne,ob,mA,n,r,q⟩:=(show aJ P w H h a (.ins C dx fs) from e.ok a5)
 exact⟨mA,⟨ob,n,ne⟩,r,q,z,d⟩
end
structure tL (K:W.Frag)(C:Addr):Prop where
 pg:W.plainGet K C Str.empty=true
 hd:W.hasDictIn K C=true
 po:W.plainOver K C=true
 sa:W.findIn K (.ref C) "__setattr__"=some (some (.builtin "object.__setattr__"))
theorem tL.get {K:W.Frag}{C:Addr}(c:tL K C)(f:Str):W.plainGet K C f=true:=c.pg
noncomputable def bF (K:W.Frag)(C:Addr)(f:Str):Prop:=W.findIn K (.ref C) f=some none
theorem bF.Sl {K:W.Frag}{C:Addr}{f:Str}(n:bF K C f):W.takerIn K C f=some none:=by
 unfold W.takerIn
 rw[show W.findIn K (.ref C) f=some none from n]
 rfl
structure Con (K:W.Frag)(C:Addr)(f:Str)(v:V)(u:Value):Prop where
 at_:W.findIn K (.ref C) f=some (some u)
 rel:RelV v u
 get:W.specialIn K u "__get__"=some none
 cp:W.copiedNames.contains f=false
structure Meth (K:W.Frag)(C:Addr)(m:Str)(f:Addr):Prop where
 at_:W.findIn K (.ref C) m=some (some (.ref f))
 fn:W.isFn K (.ref f)=true
 kp:W.keepIn K (.ref f)=true
section
variable {X:Cx}{pins:List (Addr×Obj)}{σ:St}{H:Hp}{s:Shared}{a C dx:Addr}{fs:List (Str×V)}{f:Str}{v:V}{A:Around}{E:Value->Shared->Prop}
theorem B3 {b:Bool}{Q:Value->Shared->Prop}(I:Inv X pins σ H s)(e:Rd H a (.ins C dx fs))(c:tL X.K C)(n:bF X.K C f)(l:fs.lookup f=some v)(h:∀ u s',Inv X pins σ H s'->RelV v u->Q u s'):wpAny (model X.prog X.w) A (getAttr (.ref a) f b) Q E s:=by
 obtain⟨mA,O,r,_,_,_⟩:=tK I.a5 e
 obtain⟨u,hu,ru⟩:=oX.some_of (v:=v) (o:=mA f) (by rw[<- l];exact r f)
 exact get_map I.mf O (c.get f) c.hd n hu (EV ru) (h u _ (I.tok _) ru)
theorem uF {m:Str}{g:Addr}{pl:Sem Bool}{Q:Value×List Value->Shared->Prop}(I:Inv X pins σ H s)(e:Rd H a (.ins C dx fs))(c:tL X.K C)(k:Meth X.K C m g)(l:fs.lookup m=none)(h:Q (.ref g,[.ref a]) s):wpAny (model X.prog X.w) A (getMethod (.ref a) m pl) Q E s:=by
 obtain⟨mA,O,r,_,_,_⟩:=tK I.a5 e
 have hn:mA m=none:=oX.none_of (by rw[<- l];exact r m)
 exact GI I.mf O (c.get m) k.at_ k.fn hn h
theorem B4 {y:V}{u:Value}{Q:Unit->Shared->Prop}(I:Inv X pins σ H s)(e:H a=some (.ins C dx fs))(c:tL X.K C)(n:bF X.K C f)(hl:fs.length < 1000)(ry:RelV y u)(h:∀ s',Inv X pins σ (upd H a (.ins C dx (ff f y fs))) s'->Q () s'):wpAny (model X.prog X.w) A (setAttr (.ref a) f u) Q E s:=by
 obtain⟨mA,O,r,wi,_,ho⟩:=tK I.a5 (.of e)
 have hz:(fs.map (·.1)).length<=sizeLine:=by rw[List.length_map,sizeLine_eq];omega
 refine KP I.mf O c.sa c.po n.Sl c.hd wi hz fun h' O' sb=>h _ ?_
 have hd:∃ o,h'.get? dx=some o:=let ⟨o,_,_,e',_⟩:=O'.ns;⟨o,e'⟩
 refine I.write (x:=a) (e:=dx) (by rw[e];exact True.intro) (.inr ho) (fun b q hb z=>(sb.2 b hb).trans z) hd ?_
 refine⟨by rw[ag O.ne];exact ho,?_,O.ne,O'.obj,_,O'.ns,fun g=>?_,fun g hg=>?_⟩
 . have:=sj f y fs;omega
 . show oX ((ff f y fs).lookup g) (if g=f then some u else mA g)
   rw[nA]
   by_cases q:g=f
   . rw[if_pos q,if_pos q];exact ry
   . rw[if_neg q,if_neg q];exact r g
 . by_cases q:g=f
   . rw[q];exact(qZ f y fs).1
   . refine(qZ f y fs).2 g (wi g fun z=>hg ?_)
     show(if g=f then some u else mA g)=none
     rw[if_neg q];exact z
theorem Inv.made (I:Inv X pins σ H s):Inv X pins σ (upd (upd H s.heap.objs.size (.own (s.heap.objs.size+1))) (s.heap.objs.size+1) (.ins C s.heap.objs.size [])) { s with heap:=(s.heap.push W.emptyDict).push (W.instObj C s.heap.objs.size)}:=by
 have e1:(s.heap.push W.emptyDict).get? s.heap.objs.size=some W.emptyDict:=Heap.get?_push_size s.heap rfl
 have e2:((s.heap.push W.emptyDict).push (W.instObj C s.heap.objs.size)).get? (s.heap.objs.size+1)=some (W.instObj C s.heap.objs.size):=by
   have:=Heap.get?_push_size (s.heap.push W.emptyDict) (o:=W.instObj C s.heap.objs.size) rfl
   rwa [Heap.size_push] at this
 have e3:(s.heap.push W.emptyDict).Ns s.heap.objs.size (fun _=>none):=⟨W.emptyDict,#[],_,e1,rfl,(fun e he=>absurd he (by simp)),fun _=>rfl⟩
 have I1:=I.laid (a:=s.heap.objs.size) (o:=.own (s.heap.objs.size+1)) (h':=s.heap.push W.emptyDict) (t':=s.toks) (fun b u q=>Heap.get?_push_of_some _ q) (Nat.le_refl _) ⟨_,e1⟩
 refine I1.laid (a:=s.heap.objs.size+1) (o:=.ins C s.heap.objs.size []) (t':=s.toks) (fun b u q=>Heap.get?_push_of_some _ q) (Nat.le_of_eq (Heap.size_push _ _)) ?_
 have ne:s.heap.objs.size≠s.heap.objs.size+1:=Nat.ne_of_lt (Nat.lt_succ_self _)
 refine⟨by rw[ag ne,ak],Nat.zero_le _,ne,e2,fun _=>none,(Heap.Ns1.of_empty e3).at fun o q=>Heap.get?_push_of_some _ q,fun _=>True.intro,fun y hy=>absurd rfl hy⟩
theorem KR {prog:Program}{w:World}{env:Env}{e:Expr}{f:Str}{pos:Pos}{s:Shared}{Q:Value->Shared->Prop}(hb:attributeBase e f env (eval e env)=eval e env)(h:wpAny (model prog w) A (eval e env) (fun o s₁=>wpAny (model prog w) A (getAttr o f true) Q E s₁) E s):wpAny (model prog w) A (eval (.Attribute e f pos) env) Q E s:=
 Attribute_any_ h (by rw[arm_eval_Attribute,hb])
end
noncomputable def Wd (K:PySem.W.Frag)(ta:TE)(f:Str):TE:=fun σ H Q=>ta σ H fun x H1=>∃ a C dx fs v,x=.ref a/\Rd H1 a (.ins C dx fs)/\tL K C/\bF K C f/\fs.lookup f=some v/\Q v H1
noncomputable def We (K:PySem.W.Frag)(ta tv:TE)(f:Str):TS:=fun D σ H=>tv σ H fun y H1=>ta σ H1 fun x H2=>∃ a C dx fs,x=.ref a/\H2 a=some (.ins C dx fs)/\tL K C/\bF K C f/\fs.length < 1000 /\
 D.nx σ (upd H2 a (.ins C dx (ff f y fs)))
section
variable {X:Cx}{o e value:Expr}{f:Str}{pos pos':Pos}{ta tv:TE}
theorem uG (he:PE X e ta)(hb:attributeBase e f X.env (eval e X.env)=eval e X.env):PE X (.Attribute e f pos) (Wd X.K ta f):=by
 intro pins s σ H Q I h
 refine KR hb (bX (he pins s σ H _ I h) fun u s1 ⟨x,H1,I1,rx,a,C,dx,fs,v,ex,ea,c,n,l,q⟩=>?_)
 subst ex
 obtain rfl:u=Value.ref a:=rx
 exact B3 I1 ea c n l fun u' s2 I2 ru=>⟨v,H1,I2,ru,q⟩
theorem uH (ha:PE X o ta)(hv:PE X value tv)(hs:swapsWith value (some (.Attribute o f pos')) pos.line X.env=pure false):PS X (.Assign [.Attribute o f pos'] value pos) (We X.K ta tv f):=by
 intro pins s σ H D I h
 refine plainObj_wpAny_Assign_Attribute (bX (hv pins s σ H _ I h) fun u s1 ⟨y,H1,I1,ry,q⟩=>bX (ha pins s1 σ H1 _ I1 q) fun ov s2 ⟨x,H2,I2,rx,a,C,dx,fs,ex,ea,c,n,l,q2⟩=>?_) hs
 subst ex
 obtain rfl:ov=Value.ref a:=rx
 exact B4 I2 ea c n l ry fun s3 I3=>⟨σ,_,I3,q2⟩
end
section
variable {X:Cx}{pins:List (Addr×Obj)}{σ:St}{H:Hp}{s:Shared}{A:Around}{E:Value->Shared->Prop}{Q:Value->Shared->Prop}{c:Value}{b:Bool}
inductive sH (K:W.Frag)(H:Hp):V->Value->Prop where
 | cP:sH K H .cP (.type "NoneType")
 | bl (x:Bool):sH K H (.bl x) (.type "bool")
 | int (i:Int):sH K H (.int i) (.type "int")
 | str (x:Str):sH K H (.str x) (.type "str")
 | Oa (x:UInt64):sH K H (.Oa x) (.type "float")
 | lst {a:Addr} {xs:List V} (e:H a=some (.lst xs)):sH K H (.ref a) (.type "list")
 | bC {a:Addr} {o:Obj} {xs:List V} (e:H a=some (.bC o (.lst xs))):sH K H (.ref a) (.type "list")
 | tup {a:Addr} {xs:List V} (e:H a=some (.tup xs)):sH K H (.ref a) (.type "tuple")
 | dK {a:Addr} {kvs:List (Key×V)} (e:H a=some (.dK kvs)):sH K H (.ref a) (.type "dict")
 | dT {a:Addr} {kvs:List (List Key×V)} (e:H a=some (.dT kvs)):sH K H (.ref a) (.type "dict")
 | ins {a C dx:Addr} {fs:List (Str×V)} (e:Rd H a (.ins C dx fs)) (cl:tL K C) (ha:W.findIn K (.ref C) "__class__"=some (some (.builtin "object.__class__")))
     (hn:W.specialIn K (.builtin "object.__class__") "__get__"=some (some (.builtin "getset_descriptor.__get__"))) (OI:W.takesIn K (.builtin "object.__class__")=some true)
     (hm:W.mroIn K C (.type "object")=some true):sH K H (.ref a) (.ref C)
theorem q8 {x:V}{u t:Value}(I:Inv X pins σ H s)(rx:RelV x u)(ty:sH X.K H x t)(e:W.kitOne X.K t c=some b)(h:∀ tk,Q (.bool b) { s with toks:=tk}):wpAny (model X.prog X.w) A (call (.builtin "isinstance") [u,c]) Q E s:=by
 cases ty with
 | cP=>cases (show u=Value.none from rx);exact W.kia_one W.kitx_none I.mf True.intro e (fun z=>nomatch z) h
 | bl y=>cases (show u=Value.bool y from rx);exact W.kia_one W.kitx_bool I.mf True.intro e (fun z=>nomatch z) h
 | int i=>obtain⟨t,q⟩:=(show ∃ t,u=Value.int i t from rx);cases q;exact W.kia_one W.kitx_int I.mf True.intro e (fun z=>nomatch z) h
 | str y=>obtain⟨t,q⟩:=(show ∃ t,u=Value.str y t from rx);cases q;exact W.kia_one W.kitx_str I.mf True.intro e (fun z=>nomatch z) h
 | Oa y=>obtain⟨t,q⟩:=(show ∃ t,u=Value.float y t from rx);cases q;exact W.kia_one W.kitx_float I.mf True.intro e (fun z=>nomatch z) h
 | @lst a xs ea=>
   cases (show u=Value.ref a from rx)
   obtain⟨_,_,n,_,h1⟩:=(show aJ X.prog X.w H s.heap a (.lst xs) from I.a5 a _ ea)
   exact W.kia_one W.kitx_list I.mf ⟨_,h1,rfl⟩ e (fun z=>nomatch z) h
 | @bC a ob xs ea=>
   cases (show u=Value.ref a from rx)
   obtain⟨_,_,_,n,_,h1⟩:=(show aJ X.prog X.w H s.heap a (.bC ob (.lst xs)) from I.a5 a _ ea)
   exact W.kia_one W.kitx_list I.mf ⟨_,h1,rfl⟩ e (fun z=>nomatch z) h
 | @tup a xs ea=>
   cases (show u=Value.ref a from rx)
   obtain⟨_,_,_,p⟩:=(show aJ X.prog X.w H s.heap a (.tup xs) from I.a5 a _ ea)
   obtain⟨o,h1,h2,_⟩:=p
   exact W.kia_one W.kitx_tuple I.mf ⟨o,h1,h2⟩ e (fun z=>nomatch z) h
 | @dK a kvs ea=>
   cases (show u=Value.ref a from rx)
   obtain⟨_,_,vs,_,p⟩:=(show aJ X.prog X.w H s.heap a (.dK kvs) from I.a5 a _ ea)
   obtain⟨o,es,ep,h1,h2,_⟩:=p
   exact W.kia_one W.kitx_dict I.mf ⟨o,h1,h2.1⟩ e (fun z=>nomatch z) h
 | @dT a kvs ea=>
   cases (show u=Value.ref a from rx)
   obtain⟨_,_,xs,_,o,es,ep,h1,h2,_⟩:=(show aJ X.prog X.w H s.heap a (.dT kvs) from I.a5 a _ ea)
   exact W.kia_one W.kitx_dict I.mf ⟨o,h1,h2.1⟩ e (fun z=>nomatch z) h
 | @ins a C dx fs ea cl ha hn OI hm=>
   cases (show u=Value.ref a from rx)
   obtain⟨mA,O,_⟩:=tK I.a5 ea
   obtain⟨od,J,_⟩:=O.look
   exact W.kia_one (W.kitx_own (cl.get _) cl.hd ha hn OI hm) I.mf J e (fun z=>nomatch z) h
end
structure eC (k:Nat)(A:Around):Prop where
 hd:A.handled=none
 dp:A.depth+3 * k+5 < recursionLimit
 un:A.units+16 * k+200 < cLine
theorem eC.mono {j k:Nat}{A:Around}(r:eC k A)(h:j<=k):eC j A:=⟨r.hd,by have:=r.dp;omega,by have:=r.un;omega⟩
theorem eC.deeper {k:Nat}{A:Around}(r:eC (k+1) A)(env:Env):eC k (A.deeper env):=
 ⟨r.hd,by have:=r.dp;show A.depth+1+3 * k+5 < _;omega,by have:=r.un;show A.units+3+16 * k+200 < _;omega⟩
theorem B5 {A:Around}{C:Addr}{us:List Value}{kw:List (Str×Value)}:(A.under (.builtin "type.__call__" ⟨.ref C::us,kw⟩)).depth=A.depth+1:=by
 first | rfl | simp[Around.under,Code.weight,Code.isCreation,Code.isGuard,Code.isCaller,Code.frames,Code.isFrame,guardIds]
theorem B6 {A:Around}{C:Addr}{us:List Value}{kw:List (Str×Value)}:(A.under (.builtin "type.__call__" ⟨.ref C::us,kw⟩)).units=A.units+1:=by
 first | rfl | simp[Around.under,Code.cUnits,Code.frames,Code.isFrame]
theorem eC.make {k:Nat}{A:Around}(r:eC (k+1) A)(C:Addr)(us:List Value)(kw:List (Str×Value)):eC k (A.under (.builtin "type.__call__" ⟨.ref C::us,kw⟩)):=
 ⟨r.hd,by have:=r.dp;rw[B5];omega,by have:=r.un;rw[B6];omega⟩
theorem eC.depth {k:Nat}{A:Around}(r:eC k A):A.depth < recursionLimit:=by have:=r.dp;omega
theorem eC.units {k:Nat}{A:Around}(r:eC k A):A.units+64 < cLine:=by have:=r.un;omega
noncomputable def Sm:TA:=fun _ H Q=>Q [] H
noncomputable def So (ta:TE)(tr:TA):TA:=fun σ H Q=>ta σ H fun x H1=>tr σ H1 fun xs H2=>Q (x::xs) H2
section
variable {X:Cx}{e:Expr}{es:List Expr}{te:TE}{t:TA}{pos:Pos}
theorem nB:PA X [] Sm:=fun _ _ _ _ H Q I h=>Calls.spliced_nil ⟨[],H,I,.nil,h⟩
theorem lb (ha:PE X e te)(hr:PA X es t)(hs:starEach (e::es) X.env=(false,eval e X.env)::starEach es X.env:=by rfl):PA X (e::es) (So te t):=by
 intro pos pins s σ H Q I h
 rw[hs]
 show wpAny _ _ (spliced ((false,eval e X.env)::backTo pos (starEach es X.env))) _ _ s
 refine Calls.spliced_cons (bX (ha pins s σ H _ I h) fun u s1 ⟨x,H1,I1,r1,q1⟩=>?_)
 exact bX (hr pos pins s1 σ H1 _ I1 q1) fun us s2 ⟨xs,H2,I2,r2,q2⟩=>⟨x::xs,H2,I2,.cons r1 r2,q2⟩
noncomputable def Wf (t:TA):TE:=fun σ H Q=>t σ H fun xs H1=>xs.length<=sizeLine/\∀ p,H1 p=none->Q (.ref p) (upd H1 p (.tup xs))
noncomputable def Wg (t:TA):TE:=fun σ H Q=>t σ H fun xs H1=>xs.length<=sizeLine/\∀ p,H1 p=none->Q (.ref p) (upd H1 p (.lst xs))
theorem OJ {x1}(h:PA X es t):PE X (.Tuple es x1 pos) (Wf t):=by
 intro pins s σ H Q I hq
 refine wpAny_Tuple_spliced (bX (h pos pins s σ H _ I hq) fun us s1 ⟨xs,H1,I1,r,z,q⟩=>⟨by rw[<- r.length];exact z,?_⟩)
 have hf:H1 s1.heap.objs.size=none:=I1.a5.fresh (Nat.le_refl _)
 refine⟨.ref s1.heap.objs.size,upd H1 s1.heap.objs.size (.tup xs),I1.laid (t':=s1.toks) (fun b u e=>Heap.get?_push_of_some _ e) (Nat.le_refl _) ?_,rfl,q _ hf⟩
 exact⟨z,us,r,⟨_,Heap.get?_push_size _ rfl,rfl,_,rfl⟩⟩
theorem uI (h:PA X es t):PE X (.List es pos) (Wg t):=by
 intro pins s σ H Q I hq
 refine wpAny_List_spliced (bX (h pos pins s σ H _ I hq) fun us s1 ⟨xs,H1,I1,r,z,q⟩=>⟨by rw[<- r.length];exact z,?_⟩)
 have hf:H1 s1.heap.objs.size=none:=I1.a5.fresh (Nat.le_refl _)
 refine⟨.ref s1.heap.objs.size,upd H1 s1.heap.objs.size (.lst xs),I1.laid (t':=s1.toks) (fun b u e=>Heap.get?_push_of_some _ e) (Nat.le_refl _) ?_,rfl,q _ hf⟩
 exact⟨z,us,0,r,Heap.get?_push_size _ rfl⟩
end
noncomputable abbrev Sp:=List V->Hp->VK->XK->Prop
noncomputable abbrev q9:=List Env->Hp->Shared->XK->Value->Shared->Prop
structure z9 (P:Program)(w:World)(K:W.Frag)(mg:Str->Option Value)(base:Heap)(A:Around)(outer:List Env)(s:Shared)(H:Hp):Prop where
 frames:A.frames=some outer
 mod:Mod K mg base
 bs:∀ b o,base.get? b=some o->s.heap.get? b=some o/\H b=none
 Dm:base.objs.size<=s.heap.objs.size
 qV:s.heap.FunFrames base outer
 M9:∀ b∈Gp outer,H b=none
 a5:qb P w H s.heap
 bare:AllBare s.gens
noncomputable def CE (outer:List Env)(P:Program)(w:World)(H:Hp)(s:Shared)(Q:VK)(u:Value)(s':Shared):Prop:=
 ∃ v H',s'.os=s.os/\AllBare s'.gens/\Un (Gp outer) [] H H' s.heap s'.heap/\qb P w H' s'.heap/\RelV v u/\Q v H'
noncomputable def CR (CX:q9)(outer:List Env)(P:Program)(w:World)(H:Hp)(s:Shared)(Q:VK)(E:XK)(r:Result)(s':Shared):Prop:=
 match r with
 | .ok (.ret u)=>CE outer P w H s Q u s'
 | .ok _=>False
 | .error e=>CX outer H s E e s'
structure jx (P:Program)(w:World)(K:W.Frag)(mg:Str->Option Value)(base:Heap)(CX:q9)(k:Nat)(f:Addr)(fd:FuncData)(ps:List Str)(sp:Sp):Prop where
 len:∀ vs H Q E,sp vs H Q E->vs.length=ps.length
 run:∀ (A:Around) (outer:List Env) (s:Shared) (H:Hp) (args:Args) (us:List Value) (vs:List V) (Q:VK) (E:XK),eC k A->z9 P w K mg base A outer s H->BindsTo s fd args (ps.zip us)->Vals vs us->sp vs H Q E ->
   codeAny (model P w) A (.call (.ref f) args) (CR CX outer P w H s Q E) s
theorem z9.make {P:Program}{w:World}{K:W.Frag}{mg:Str->Option Value}{base:Heap}{A:Around}{outer:List Env}{s:Shared}{H:Hp}(e:z9 P w K mg base A outer s H)(C:Addr)(us:List Value)(kw:List (Str×Value)):z9 P w K mg base (A.under (.builtin "type.__call__" ⟨.ref C::us,kw⟩)) outer s H:=⟨by first | exact e.frames | (simpa [Around.under,Code.envs,Code.isFrame,pushEnvs] using e.frames),e.mod,e.bs,e.Dm,e.qV,e.M9,e.a5,e.bare⟩
section
variable {X:Cx}{pins:List (Addr×Obj)}{σ:St}{H:Hp}{s s':Shared}
theorem Inv.Sq (I:Inv X pins σ H s):z9 X.prog X.w X.K X.mg X.base X.A X.stack s H:=
 ⟨I.ok.frames,I.ok.mod,I.bs,Nat.le_trans I.ok.Dm I.sz,I.stack,I.tG,I.a5,I.bare⟩
theorem Inv.after {Q:VK}{u:Value}(I:Inv X pins σ H s)(h:CE X.stack X.prog X.w H s Q u s'):EP X pins σ Q u s':=by
 obtain⟨v,H',os,bare,un,a5,r,q⟩:=h
 obtain⟨hh,g,d,t,Wh⟩:=s'
 obtain rfl:Wh=s.os:=os
 exact⟨v,H',I.call (h':=hh) (g':=g) (d':=d) (t':=t) (ch:=[]) un a5 bare (fun b z=>absurd z (by simp)),r,q⟩
end
noncomputable def Sr (sp:Sp)(dvs:List V)(E:XK)(t:TA):TE:=fun σ H Q=>t σ H fun vs H1=>sp (vs ++ dvs) H1 Q E
noncomputable def Nd (C:Addr)(m:Str)(sp:Sp)(dvs:List V)(E:XK)(ta:TE)(t:TA):TE:=fun σ H Q=>ta σ H fun x H1=>∃ a dx fs,x=.ref a/\Rd H1 a (.ins C dx fs)/\fs.lookup m=none /\
 t σ H1 fun vs H2=>sp (x::(vs ++ dvs)) H2 Q E
noncomputable def Ss (C:Addr)(sp:Sp)(dvs:List V)(E:XK)(t:TA):TE:=fun σ H Q=>t σ H fun vs H1=>∀ x dx,H1 x=none->H1 dx=none->dx≠x ->
 sp (.ref x::(vs ++ dvs)) (upd (upd H1 dx (.own x)) x (.ins C dx [])) (fun v H2=>v=.cP/\Q (.ref x) H2) E
noncomputable def Binds (K:PySem.W.Frag)(fd:FuncData)(ps:List Str)(ds:List Value):Prop:=
 ∀ (s:Shared) (us:List Value),K.In s.heap->(us ++ ds).length=ps.length->BindsTo s fd ⟨us,[]⟩ (ps.zip (us ++ ds))
theorem Binds.all {K:W.Frag}{fd:FuncData}{ps:List Str}(h:∀ us:List Value,us.length=ps.length->bindArgs fd ⟨us,[]⟩=pure (ps.zip us)):Binds K fd ps []:=fun s us _ hl=>by
 rw[List.append_nil] at hl ⊢
 exact .of_eq (h us hl)
noncomputable def Passes (CX:q9)(X:Cx)(E:XK):Prop:=∀ (pins:List (Addr×Obj)) (σ:St) (H:Hp) (s:Shared) (e:Value) (s':Shared),Inv X pins σ H s->CX X.stack H s E e s'->X.xe e s'
section
variable {X:Cx}{CX:q9}{k:Nat}{f C:Addr}{fd:FuncData}{ps:List Str}{sp:Sp}{dvs:List V}{ds:List Value}{E:XK}{x m:Str}{p pos apos:Pos}{e o:Expr}{es:List Expr}{ta:TE}{t:TA}
theorem B7 {pins:List (Addr×Obj)}{σ:St}{H:Hp}{s:Shared}{Q:VK}{us:List Value}{vs:List V}(F:jx X.prog X.w X.K X.mg X.base CX k f fd ps sp)(hr:eC k X.A)(hb:Binds X.K fd ps ds)(hd:Vals dvs ds)(hx:Passes CX X E)(I:Inv X pins σ H s)(r:Vals vs us)(h:sp (vs ++ dvs) H Q E):wpAny (model X.prog X.w) X.A (call (.ref f) us) (EP X pins σ Q) X.xe s:=by
 have r2:Vals (vs ++ dvs) (us ++ ds):=r.append hd
 have hl:(us ++ ds).length=ps.length:=by rw[<- r2.length];exact F.len _ _ _ _ h
 refine wpAny_call (codeAny_mono (F.run X.A X.stack s H ⟨us,[]⟩ (us ++ ds) (vs ++ dvs) Q E hr I.Sq (hb s us I.mf hl) r2 h) fun r s' hq=>?_)
 cases r with
 | error e=>exact hx pins σ H s e s' I hq
 | ok fl=>
   cases fl with
   | ret u=>exact I.after hq
   | next=>exact False.elim hq
   | brk=>exact False.elim hq
   | cont=>exact False.elim hq
theorem Ds (F:jx X.prog X.w X.K X.mg X.base CX k f fd ps sp)(hr:eC k X.A)(hg:Gl X x)(hm:X.mg x=some (.ref f))(hk:W.keepIn X.K (.ref f)=true)(hb:Binds X.K fd ps ds)(hd:Vals dvs ds)(hx:Passes CX X E)(ha:PA X (e::es) t)(md:(x == ("__debug__":Str))=false:=by decide)(he:starEach (e::es) X.env=(false,eval e X.env)::starEach es X.env:=by rfl)(m8:(backTo pos (starEach es X.env)).any (·.1)=false:=by rfl):PE X (.Call (.Name x p) (e::es) [] pos) (Sr sp dvs E t):=by
 intro pins s σ H Q I h
 refine wpAny_Call_Name_kw (tH I hg hm ?_ md)
 refine W.callWith_K (h₀:=X.base) I.ok.mod.RS hk (bX (ha pos pins s σ H _ I h) fun us s1 ⟨vs,H1,I1,r,q⟩=>⟨I1.mf,?_⟩) he m8
 exact B7 F hr hb hd hx I1 r q
theorem Du {pl:Sem Bool}(he:PE X o ta)(c:tL X.K C)(hm:Meth X.K C m f)(F:jx X.prog X.w X.K X.mg X.base CX k f fd ps sp)(hr:eC k X.A)(hb:Binds X.K fd ps ds)(hd:Vals dvs ds)(hx:Passes CX X E)(ha:PA X (e::es) t)
   (m7:starEach (e::es) X.env=(false,eval e X.env)::starEach es X.env:=by rfl) (m8:(backTo pos (starEach es X.env)).any (·.1)=false:=by rfl)
   (ht:eval (.Call (.Attribute o m apos) (e::es) [] pos) X.env=(do
     let ov <- eval o X.env
     standAt apos.atName
     let (f,first) <- holding [ov] (getMethod ov m pl)
     callWith pos f first (backTo pos (starEach (e::es) X.env)) (backToKw pos (keywordEach [] X.env))):=by rfl) :
   PE X (.Call (.Attribute o m apos) (e::es) [] pos) (Nd C m sp dvs E ta t):=by
 intro pins s σ H Q I h
 refine W.methodCall_KW (pl:=pl) (bX (he pins s σ H _ I h) fun u s1 ⟨x,H1,I1,rx,a,dx,fs,ex,ea,l,q⟩=>?_) ht
 subst ex
 obtain rfl:u=Value.ref a:=rx
 refine uF I1 ea c hm l ?_
 refine W.callWith_K (first:=[.ref a]) (h₀:=X.base) I.ok.mod.RS hm.kp (bX (ha pos pins s1 σ H1 _ I1 q) fun us s2 ⟨vs,H2,I2,r,q2⟩=>⟨I2.mf,?_⟩) m7 m8
 exact B7 (us:=.ref a::us) (vs:=.ref a::vs) F hr hb hd hx I2 (.cons rfl r) q2
theorem Aa {pl:Sem Bool}(he:PE X o ta)(c:tL X.K C)(hm:Meth X.K C m f)(F:jx X.prog X.w X.K X.mg X.base CX k f fd ps sp)(hr:eC k X.A)(hb:Binds X.K fd ps ds)(hd:Vals dvs ds)(hx:Passes CX X E)
   (ht:eval (.Call (.Attribute o m apos) [] [] pos) X.env=(do
     let ov <- eval o X.env
     standAt apos.atName
     let (f,first) <- holding [ov] (getMethod ov m pl)
     callWith pos f first (backTo pos (starEach [] X.env)) (backToKw pos (keywordEach [] X.env))):=by rfl) :
   PE X (.Call (.Attribute o m apos) [] [] pos) (Nd C m sp dvs E ta Sm):=by
 intro pins s σ H Q I h
 refine W.methodCall_KW (pl:=pl) (bX (he pins s σ H _ I h) fun u s1 ⟨x,H1,I1,rx,a,dx,fs,ex,ea,l,q⟩=>?_) ht
 subst ex
 obtain rfl:u=Value.ref a:=rx
 refine uF I1 ea c hm l ?_
 exact W.callWith_K0 (first:=[.ref a]) I1.mf hm.kp (B7 (us:=[.ref a]) (vs:=[.ref a]) F hr hb hd hx I1 (.cons rfl .nil) q)
structure Mk (K:W.Frag)(C f:Addr):Prop where
 makes:W.makesIn K C=true
 init:W.findIn K (.ref C) "__init__"=some (some (.ref f))
 fn:W.isFn K (.ref f)=true
 kp:W.keepIn K (.ref C)=true
theorem GK {pins:List (Addr×Obj)}{σ:St}{H:Hp}{s:Shared}{Q:VK}{us:List Value}{vs:List V}(M:Mk X.K C f)(F:jx X.prog X.w X.K X.mg X.base CX k f fd ps sp)(hr:eC (k+1) X.A)(hb:Binds X.K fd ps ds)(hd:Vals dvs ds)(hx:Passes CX X E)(I:Inv X pins σ H s)(r:Vals vs us)(h:∀ x dx,H x=none->H dx=none->dx≠x->sp (.ref x::(vs ++ dvs)) (upd (upd H dx (.own x)) x (.ins C dx [])) (fun v H2=>v=.cP/\Q (.ref x) H2) E):wpAny (model X.prog X.w) X.A (call (.ref C) us) (EP X pins σ Q) X.xe s:=by
 have hq:=h (s.heap.objs.size+1) s.heap.objs.size (I.a5.fresh (Nat.le_succ _)) (I.a5.fresh (Nat.le_refl _)) (Nat.ne_of_lt (Nat.lt_succ_self _))
 have I2:=Inv.made (C:=C) I
 have r2:Vals (V.ref (s.heap.objs.size+1)::(vs ++ dvs)) (Value.ref (s.heap.objs.size+1)::(us ++ ds)):=.cons rfl (r.append hd)
 have hl:(Value.ref (s.heap.objs.size+1)::us ++ ds).length=ps.length:=by
   have e:=r2.length
   rw[F.len _ _ _ _ hq] at e
   exact e.symm
 refine wpAny_call (GJ (f:=f) I.mf M.makes M.init (beq_iff_eq.mp M.fn) (codeAny_mono (F.run _ X.stack _ _ ⟨Value.ref (s.heap.objs.size+1)::us,[]⟩ (Value.ref (s.heap.objs.size+1)::(us ++ ds)) _ _ E (hr.make C us [])
   (I2.Sq.make C us []) (hb _ (Value.ref (s.heap.objs.size+1)::us) I2.mf hl) r2 hq) fun r s' Sv=>?_))
 cases r with
 | error e=>exact hx pins σ _ _ e s' I2 Sv
 | ok fl=>
   cases fl with
   | ret u=>
     obtain⟨v,H',I3,rv,ev,q3⟩:=I2.after Sv
     subst ev
     exact⟨rv,⟨V.ref (s.heap.objs.size+1),H',I3,rfl,q3⟩⟩
   | next=>exact False.elim Sv
   | brk=>exact False.elim Sv
   | cont=>exact False.elim Sv
theorem Dv (M:Mk X.K C f)(F:jx X.prog X.w X.K X.mg X.base CX k f fd ps sp)(hr:eC (k+1) X.A)(hg:Gl X x)(hm:X.mg x=some (.ref C))(hb:Binds X.K fd ps ds)(hd:Vals dvs ds)(hx:Passes CX X E)(ha:PA X (e::es) t)(md:(x == ("__debug__":Str))=false:=by decide)(he:starEach (e::es) X.env=(false,eval e X.env)::starEach es X.env:=by rfl)(m8:(backTo pos (starEach es X.env)).any (·.1)=false:=by rfl):PE X (.Call (.Name x p) (e::es) [] pos) (Ss C sp dvs E t):=by
 intro pins s σ H Q I h
 refine wpAny_Call_Name_kw (tH I hg hm ?_ md)
 refine W.callWith_K (h₀:=X.base) I.ok.mod.RS M.kp (bX (ha pos pins s σ H _ I h) fun us s1 ⟨vs,H1,I1,r,q⟩=>⟨I1.mf,?_⟩) he m8
 exact GK M F hr hb hd hx I1 r q
end
section
variable {fd:FuncData}{ps ks:List Str}
structure Wi (K:W.Frag)(fd:FuncData)(ps ks:List Str)(g:List Value->List Value->List Value)(gV:List V->List V->List V):Prop where
 to:∀ (s:Shared) (us ws:List Value),K.In s.heap->(g us ws).length=ps.length->BindsTo s fd ⟨us,ks.zip ws⟩ (ps.zip (g us ws))
 rel:∀ {vs:List V} {us:List Value} {zs:List V} {ws:List Value},Vals vs us->Vals zs ws->Vals (gV vs zs) (g us ws)
end
structure aq (N P:List Str)(sc:Scope):Prop where
 kind:sc.kind=.function
 co:sc.isCoroutine=false
 gen:sc.isGenerator=false
 nd:N.Nodup
 pre:N.take P.length=P
 par:∀ x∈P,sc.names.lookup x=some .local\/sc.names.lookup x=some .cell
 OK:∀ y∈sc.names,y.2≠.free
theorem xb {kindOf:Str->Option NameKind}{x:Str}:∀ {binds:List (Str×Value)} {m:Str->Option Value},(∀ v,(x,v) ∉ binds)->bindL kindOf binds m x=m x
 | [],_,_=>rfl
 | (n,v)::r,m,h=>by
   unfold bindL
   rw[xb fun w hw=>h w (List.mem_cons_of_mem _ hw)]
   split
   . have:x≠n:=by rintro rfl;exact h v List.mem_cons_self
     simp[this]
   . rfl
theorem xc {kindOf:Str->Option NameKind}{x:Str}:∀ {binds:List (Str×Value)} {m:Str->Option Value},(∀ v,(x,v) ∉ binds)->bindC kindOf binds m x=m x
 | [],_,_=>rfl
 | (n,v)::r,m,h=>by
   unfold bindC
   rw[xc fun w hw=>h w (List.mem_cons_of_mem _ hw)]
   split
   . rfl
   . have:x≠n:=by rintro rfl;exact h v List.mem_cons_self
     simp[this]
theorem xf {kindOf:Str->Option NameKind}{x:Str}{v:Value}:∀ {P:List Str} {vs:List Value} {i:Nat} {m:Str->Option Value},P.Nodup->P[i]?=some x->vs[i]?=some v->kindOf x=some .local->bindL kindOf (P.zip vs) m x=some v
 | [],_,_,_,_,h,_,_=>by simp at h
 | _::_,[],_,_,_,_,h,_=>by simp at h
 | p::P,w::vs,0,m,nd,h1,h2,hk=>by
   simp at h1 h2;subst h1;subst h2
   show bindL kindOf ((p,w)::P.zip vs) m p=_
   unfold bindL
   rw[xb fun v hv=>(List.nodup_cons.mp nd).1 (List.of_mem_zip hv).1,if_pos hk]
   simp
 | p::P,w::vs,i+1,m,nd,h1,h2,hk=>by
   show bindL kindOf ((p,w)::P.zip vs) m x=_
   unfold bindL
   exact xf (i:=i) (List.nodup_cons.mp nd).2 (by simpa using h1) (by simpa using h2) hk
theorem xh {kindOf:Str->Option NameKind}{x:Str}{v:Value}:∀ {P:List Str} {vs:List Value} {i:Nat} {m:Str->Option Value},P.Nodup->P[i]?=some x->vs[i]?=some v->kindOf x≠some .local->bindC kindOf (P.zip vs) m x=some v
 | [],_,_,_,_,h,_,_=>by simp at h
 | _::_,[],_,_,_,_,h,_=>by simp at h
 | p::P,w::vs,0,m,nd,h1,h2,hk=>by
   simp at h1 h2;subst h1;subst h2
   show bindC kindOf ((p,w)::P.zip vs) m p=_
   unfold bindC
   rw[xc fun v hv=>(List.nodup_cons.mp nd).1 (List.of_mem_zip hv).1,if_neg hk]
   simp
 | p::P,w::vs,i+1,m,nd,h1,h2,hk=>by
   show bindC kindOf ((p,w)::P.zip vs) m x=_
   unfold bindC
   exact xh (i:=i) (List.nodup_cons.mp nd).2 (by simpa using h1) (by simpa using h2) hk
noncomputable def start (N:List Str)(vs:List V):St:=vs.map some ++ List.replicate (N.length - vs.length) none
noncomputable def Ab (CX:q9)(P:Program)(w:World)(K:W.Frag)(mg:Str->Option Value)(base:Heap)(N:List Str)(qual:Str)(scope:Scope)(f:Addr)(cd:Value)(A:Around)(outer:List Env)(s:Shared)(H:Hp)(E:XK):Cx where
 prog:=P
 w:=w
 K:=K
 mg:=mg
 base:=base
 A:=A.deeper (envOfC qual scope s.heap.objs.size f cd)
 N:=N
 s₀:=s
 H₀:=H
 env:=envOfC qual scope s.heap.objs.size f cd
 outer:=outer
 stack:=envOfC qual scope s.heap.objs.size f cd::outer
 ex:=[]
 calm:=true
 fn:=fun _=>true
 pn:=[]
 xe:=fun e s'=>wpAny (model P w) (A.deeper (envOfC qual scope s.heap.objs.size f cd)) (leaving (envOfC qual scope s.heap.objs.size f cd) e) (fun _ OL=>CX outer H s E e OL) (fun e' OL=>CX outer H s E e' OL) s'
theorem Ac {sc:Scope}{n:Nat}{x:Str}(h:sc.names.lookup x=some .cell):∃ c,(cellsFrom n sc.names []).lookup x=some c:=by
 have q:=W.cellsFrom_some sc.names n [] (.inl h)
 exact Option.isSome_iff_exists.mp q
theorem EX {CX:q9}{P:Program}{w:World}{K:W.Frag}{mg:Str->Option Value}{base:Heap}{N ps:List Str}{qual:Str}{scope:Scope}{f:Addr}{cd:Value}{A:Around}{outer:List Env}{s s1:Shared}{H:Hp}{E:XK}{us:List Value}{vs:List V}(S:aq N ps scope)(hd:A.handled=none)(e0:z9 P w K mg base A outer s H)(hl:vs.length=ps.length)(r:Vals vs us)(x:InCallC s s.heap.objs.size (bindL (envOfC qual scope s.heap.objs.size f cd).kindOf (ps.zip us) fun _=>none) (cellsFrom (s.heap.objs.size+1) scope.names []) (bindC (envOfC qual scope s.heap.objs.size f cd).kindOf (ps.zip us) fun _=>none) s1):Inv (Ab CX P w K mg base N qual scope f cd A outer s H E) [] (start N vs) H s1:=by
 have m8:ps.length<=N.length:=by have:=congrArg List.length S.pre;rw[List.length_take] at this;omega
 obtain⟨h1,tk,rfl,hk⟩:=x.done
 have Sx:∀ b:Addr,b ∉ (Ab CX P w K mg base N qual scope f cd A outer s H E).ex:=fun b z=>absurd (show b∈([]:List Addr) from z) (by simp)
 refine⟨⟨e0.mod,S.kind,rfl,rfl,Nat.le_refl _,fun y z c h1 h2=>?_,fun y hy=>?_,fun y c _ h=>?_,fun _=>hd,Around.frames_deeper e0.frames,.inr ⟨rfl,rfl⟩,fun b z=>absurd z (Sx b),e0.bs,e0.Dm,fun b _ _=>Sx b,fun b z=>absurd z (Sx b),e0.qV,e0.M9⟩,
   rfl,e0.bare,Un.kept hk,⟨_,x.toInCall.ns,fun i y v h1 h2 h3=>?_⟩,fun y c h=>⟨_,x.cell y c h⟩,e0.a5.fresh (Nat.le_refl _),fun y c h=>?_,fun p hp=>absurd (show p∈([]:List (Addr×Obj)) from hp) (by simp),e0.a5.kept hk,?_⟩
 . exact name_of_addr x.apart (PySem.mem_of_lookup h1) (PySem.mem_of_lookup h2)
 . have hy:scope.names.lookup y=some .cell\/scope.names.lookup y=some .free:=hy
   rcases hy with hy | hy
   . exact Ac hy
   . exact absurd rfl (S.OK _ (PySem.mem_of_lookup hy))
 . exact Nat.le_of_lt (x.above y c (PySem.mem_of_lookup h))
 . have hi:i < vs.length:=by
     unfold start at h2
     by_cases hi:i < vs.length
     . exact hi
     . rw[List.getElem?_append_right (by simpa using hi)] at h2
       rw[List.getElem?_replicate] at h2
       split at h2 <;> cases h2
   have ha:vs[i]?=some v:=by
     unfold start at h2
     rw[List.getElem?_append_left (by simpa using hi),List.getElem?_map] at h2
     cases e:vs[i]? with
     | none=>rw[e] at h2;cases h2
     | some a=>rw[e] at h2;cases h2;rfl
   obtain⟨u,hu,rv⟩:=r.get ha
   have hp:ps[i]?=some y:=by
     rw[<- S.pre,List.getElem?_take_of_lt (by omega)];exact h1
   have YK:ps.Nodup:=by rw[<- S.pre];exact S.nd.sublist (List.take_sublist _ _)
   refine⟨u,rv,?_⟩
   rcases S.par y (List.mem_of_getElem? hp) with k | k
   . exact .inl ⟨k,xf YK hp hu k⟩
   . obtain⟨c,e⟩:=Ac (n:=s.heap.objs.size+1) k
     refine .inr ⟨.inl k,c,e,?_⟩
     have q:=x.cell y c e
     rw[xh YK hp hu (by show scope.names.lookup y≠_;rw[k];decide)] at q
     exact q
 . exact e0.a5.fresh (Nat.le_of_lt (x.above y c (PySem.mem_of_lookup h)))
 . unfold start
   show _=N.length
   rw[List.length_append,List.length_map,List.length_replicate]
   omega
theorem GL {CX:q9}{P:Program}{w:World}{K:W.Frag}{mg:Str->Option Value}{base:Heap}{k:Nat}{f:Addr}{name qual:Str}{params:Arguments}{body:List Stmt}{scope:Scope}{dV kV doc pm bg ct oc:Value}{an od:Option Addr}{xi:Array (Option Value)}{N ps:List Str}{sp:Sp}(lk:K.lookup f=some ⟨oc,od,.func (W.fnOf name qual params body scope dV kV doc pm an bg ct),xi⟩)(lO:W.codeIn K bg qual=true)(S:aq N ps scope)(len:∀ vs H Q E,sp vs H Q E->vs.length=ps.length)(qf:∀ (A:Around) (outer:List Env) (s:Shared) (H:Hp) (vs:List V) (Q:VK) (E:XK),eC k (A.deeper (envOfC qual scope s.heap.objs.size f bg))->sp vs H Q E->∃ t,BW (Ab CX P w K mg base N qual scope f bg A outer s H E) body t/\t { nx:=fun _ H'=>Q .cP H',rt:=Q} (start N vs) H):jx P w K mg base CX (k+1) f (W.fnOf name qual params body scope dV kV doc pm an bg ct) ps sp:=by
 refine⟨len,fun A outer s H args us vs Q E hr e0 hb r Nf=>?_⟩
 have hl:=len _ _ _ _ Nf
 have KX:K.In s.heap:=e0.mod.RS.keeps fun b o e=>(e0.bs b o e).1
 have lim:s.heap.NoLimit:=e0.mod.nolimit.keeps fun b o e=>(e0.bs b o e).1
 have Sy:∀ y∈ps.zip us,scope.names.lookup y.1=some .local\/(scope.names.lookup y.1=some .cell/\((cellsFrom (s.heap.objs.size+1) scope.names []).lookup y.1).isSome=true):=fun⟨n,v⟩ hy=>by
   rcases S.par n (List.of_mem_zip hy).1 with q | q
   . exact .inl q
   . exact .inr ⟨q,W.cellsFrom_some _ _ _ (.inl q)⟩
 refine codeAny_call_function hr.depth (KX _ _ lk) rfl S.co S.gen rfl (W.codeRec_of KX lO) (hb _ _ _ _ ?_)
 refine wpAny_newFunctionEnv_cells S.kind Sy fun env he s1 x=>?_
 subst he
 refine⟨lim.keeps x.toInCall.keep,codeAny_func ?_⟩
 obtain⟨t,ht,hq⟩:=qf A outer s H vs Q E (hr.deeper _) Nf
 have I:Inv (Ab CX P w K mg base N qual scope f bg A outer s H E) [] (start N vs) H s1:=EX S hr.hd e0 hl r x
 refine wpAny_mono (ht [] s1 (start N vs) H _ I hq) (fun fl s' hs=>?_) fun e s' hs=>hs
 have fin:∀ {σ':St} {H':Hp} {v:V} {u:Value},Inv (Ab CX P w K mg base N qual scope f bg A outer s H E) [] σ' H' s'->RelV v u->Q v H'->CE outer P w H s Q u s':=
   fun {σ' H' v u} J rv q=>⟨v,H',J.os,J.bare,J.base,J.a5,rv,q⟩
 cases fl with
 | ret u=>
   obtain⟨v,σ',H',J,rv,q⟩:=hs
   exact fin J rv q
 | next=>
   obtain⟨σ',H',J,q⟩:=hs
   exact fin (v:=V.cP) (u:=Value.none) J rfl q
 | brk=>
   obtain⟨_,_,_,q⟩:=hs
   exact False.elim q
 | cont=>
   obtain⟨_,_,_,q⟩:=hs
   exact False.elim q
section
variable {X:Cx}{x:Str}{p pos:Pos}{e:Expr}{es:List Expr}{t:TA}{id T:String}{r:List V->Hp->VK->Prop}
noncomputable def YL (r:List V->Hp->VK->Prop)(t:TA):TE:=fun σ H Q=>t σ H fun vs H1=>r vs H1 Q
theorem fg (hc:jU X (.builtin id) r)(hg:Gl X x)(hm:X.mg x=none)(hv:bootBuiltins x=some (.builtin id))(ha:PA X (e::es) t)(hn:x≠"__name__":=by decide)(md:(x == ("__debug__":Str))=false:=by decide)(he:starEach (e::es) X.env=(false,eval e X.env)::starEach es X.env:=by rfl)(m8:(backTo pos (starEach es X.env)).any (·.1)=false:=by rfl):PE X (.Call (.Name x p) (e::es) [] pos) (YL r t):=by
 intro pins s σ H Q I h
 refine wpAny_Call_Name_kw (pH I hg hm hv ?_ hn md)
 exact PyProof.Rows.callWith_builtin1 (bX (ha pos pins s σ H _ I h) fun us s1 ⟨vs,H1,I1,r1,q1⟩=>hc pins s1 σ H1 vs us Q I1 r1 q1) he m8
theorem lP (hc:jU X (.type T) r)(hg:Gl X x)(hm:X.mg x=none)(hv:bootBuiltins x=some (.type T))(ha:PA X (e::es) t)(hn:x≠"__name__":=by decide)(md:(x == ("__debug__":Str))=false:=by decide)(he:starEach (e::es) X.env=(false,eval e X.env)::starEach es X.env:=by rfl)(m8:(backTo pos (starEach es X.env)).any (·.1)=false:=by rfl):PE X (.Call (.Name x p) (e::es) [] pos) (YL r t):=by
 intro pins s σ H Q I h
 refine wpAny_Call_Name_kw (pH I hg hm hv ?_ hn md)
 exact PyProof.Rows.callWith_type1 (bX (ha pos pins s σ H _ I h) fun us s1 ⟨vs,H1,I1,r1,q1⟩=>hc pins s1 σ H1 vs us Q I1 r1 q1) he m8
end
end L2
namespace HT
open PySem PyProof.Rows
section
noncomputable def Ad (n d:Nat):Option Int->Nat
 | none=>d
 | some v=>if v < 0 then (v+(n:Int)).toNat else min v.toNat n
theorem GN (n d:Nat):Ad n d none=d:=rfl
theorem KS (n d k:Nat):Ad n d (some (k:Int))=min k n:=by
 show(if (k:Int) < 0 then ((k:Int)+(n:Int)).toNat else min (k:Int).toNat n)=min k n
 rw[if_neg (by omega),Int.toNat_natCast]
end
end HT
namespace L2
open PySem PySem.Spec PyProof.Rows
noncomputable abbrev TO:=St->Hp->(Option Int->Hp->Prop)->Prop
noncomputable def PO (X:Cx)(e:Option Expr)(t:TO):Prop:=
 ∀ (pins:List (Addr×Obj)) (s:Shared) (σ:St) (H:Hp) (Q:Option Int->Hp->Prop),Inv X pins σ H s->t σ H Q ->
   wpAny (model X.prog X.w) X.A (evalPart e X.env) (fun u s'=>∃ o H',Inv X pins σ H' s'/\IsPart u o/\Q o H') X.xe s
noncomputable def KU:TO:=fun _ H Q=>Q none H
noncomputable def Sz (t:TE):TO:=fun σ H Q=>t σ H fun x H1=>∃ i,x=.int i/\Q (some i) H1
section
variable {X:Cx}{e:Expr}{te:TE}{lo hi:Option Expr}{tl th:TO}{pos p2:Pos}
theorem Dw:PO X none KU:=by
 intro pins s σ H Q I h
 rw[evalPart_none]
 exact wpAny_pure ⟨none,H,I,.none,h⟩
theorem Dx (h:PE X e te):PO X (some e) (Sz te):=by
 intro pins s σ H Q I hw
 rw[evalPart_some]
 refine bX (h pins s σ H _ I hw) fun u s1 ⟨x,H1,I1,r1,q1⟩=>?_
 obtain⟨i,rfl,q⟩:=q1
 obtain⟨t,rfl⟩:=r1
 exact⟨some i,H1,I1,.int i t,q⟩
noncomputable def Wj (X:Cx)(r:V->Option Int->Option Int->Hp->VK->Prop):Prop:=
 ∀ (pins:List (Addr×Obj)) (s:Shared) (σ:St) (H:Hp) (x:V) (v vl vu:Value) (lo hi:Option Int) (sl:Addr) (Q:VK),Inv X pins σ H s->RelV x v->s.heap.IsSliceOf sl vl vu .none->IsPart vl lo->IsPart vu hi->r x lo hi H Q ->
   ∃ T id,typeLookup (.type T) "__getitem__"=pure (some (.builtin id))/\s.TypeIs v T/\wpAny (model X.prog X.w) X.A (getItem v (.ref sl)) (EP X pins σ Q) X.xe s
noncomputable def tSl (r:V->Option Int->Option Int->Hp->VK->Prop)(te:TE)(tl th:TO):TE:=fun σ H Q=>te σ H fun x H1=>tl σ H1 fun l H2=>th σ H2 fun u H3=>r x l u H3 Q
theorem Ae {r:V->Option Int->Option Int->Hp->VK->Prop}(hr:Wj X r)(he:PE X e te)(hl:PO X lo tl)(hu:PO X hi th):PE X (.Subscript e (.Slice lo hi none p2) pos) (tSl r te tl th):=by
 intro pins s σ H Q I h
 refine Subscript_ (bX (he pins s σ H _ I h) fun v s1 ⟨x,H1,I1,r1,q1⟩=>?_)
 refine wpAny_Slice (bX (hl pins s1 σ H1 _ I1 q1) fun vl s2 ⟨l,H2,I2,pl,q2⟩=>bX (hu pins s2 σ H2 _ I2 q2) fun vu s3 ⟨u,H3,I3,pu,q3⟩=>?_)
 rw[evalPart_none]
 refine wpAny_pure ?_
 have I4:Inv X pins σ H3 { s3 with heap:=s3.heap.push { cls:=.type "slice",data:=.fields #[vl,vu,.none]}}:=I3.kept (t':=s3.toks) fun b ob q=>Heap.get?_push_of_some _ q
 obtain⟨T,id,hT,ht,hg⟩:=hr pins { s3 with heap:=s3.heap.push { cls:=.type "slice",data:=.fields #[vl,vu,.none]}} σ H3 x v vl vu l u s3.heap.objs.size Q I4 r1 (Heap.IsSliceOf.new ..) pl pu q3
 show wpAny (model X.prog X.w) X.A (subscriptTail e (.Slice lo hi none p2) v (.ref s3.heap.objs.size)) (EP X pins σ Q) X.xe { s3 with heap:=s3.heap.push { cls:=.type "slice",data:=.fields #[vl,vu,.none]}}
 exact tail_any (ops:=[.ref s3.heap.objs.size,v]) ht hT hg (by with_unfolding_all rfl)
noncomputable def EY (xs:List V)(lo hi:Option Int):List V:=(xs.drop (HT.Ad xs.length 0 lo)).take (HT.Ad xs.length xs.length hi - HT.Ad xs.length 0 lo)
theorem Af (xs:List V)(lo hi:Option Int):(EY xs lo hi).length<=xs.length:=by
 unfold EY
 rw[List.length_take,List.length_drop]
 omega
theorem Ag:jU X (.type "tuple") (fun xs H Q=>∃ a ys,xs=[.ref a]/\uC X.K H a ys/\Q (.ref a) H):=by
 intro pins s σ H xs us Q I r h
 obtain⟨a,ys,rfl,ha,q⟩:=h
 obtain⟨u,rfl,ru⟩:=vals1 r
 cases ru
 obtain⟨aC,_,p1,_⟩:=I.tuple ha
 exact call_tuple_same (items:=aC.toArray) p1 ⟨.ref a,H,I,rfl,q⟩
end
noncomputable def B8 (n:Nat)(i:Int):Option Nat:=if 0<=i then (if i < n then some i.toNat else none) else if -(n:Int)<=i then some (i+n).toNat else none
noncomputable def ny {α:Type}(xs:List α)(i:Int):Option α:=(B8 xs.length i).bind fun j=>xs[j]?
theorem Dy {n:Nat}{i:Int}{j:Nat}(h:B8 n i=some j):seqIndex? i n=some j/\j < n/\-(n:Int)<=i/\i < n:=by
 unfold B8 at h
 by_cases h0:0<=i
 . rw[if_pos h0] at h
   by_cases h1:i < n
   . rw[if_pos h1] at h
     have e:i.toNat=j:=Option.some.inj h
     exact⟨by rw[seqIndex_of h0 h1,e],by omega,by omega,h1⟩
   . rw[if_neg h1] at h;cases h
 . rw[if_neg h0] at h
   by_cases h1:-(n:Int)<=i
   . rw[if_pos h1] at h
     have e:(i+n).toNat=j:=Option.some.inj h
     exact⟨by rw[seqIndex_neg (by omega) h1,e],by omega,h1,by omega⟩
   . rw[if_neg h1] at h;cases h
theorem x3 {α:Type}{xs:List α}{i:Int}{v:α}(h:ny xs i=some v):∃ j,seqIndex? i xs.length=some j/\xs[j]?=some v/\j < xs.length/\-(xs.length:Int)<=i/\i < xs.length:=by
 unfold ny at h
 cases e:B8 xs.length i with
 | none=>rw[e] at h;cases h
 | some j=>
   rw[e] at h
   obtain⟨h1,h2,h3,h4⟩:=Dy e
   exact⟨j,h1,h,h2,h3,h4⟩
theorem jY {α:Type}{xs:List α}{j:Nat}{v:α}(h:xs[j]?=some v):ny xs (j:Int)=some v:=by
 have hj:j < xs.length:=(List.getElem?_eq_some_iff.mp h).1
 have e:B8 xs.length (j:Int)=some j:=by
   unfold B8
   rw[if_pos (by omega),if_pos (by omega)];simp
 unfold ny;rw[e];exact h
noncomputable def jZ (b:Expr):Prop:=∀ o i,subscripted b false o i=operate [o,i] (getItem o i)
noncomputable def Rv (X:Cx)(r:R2):Prop:=
 ∀ (value slice:Expr) (pins:List (Addr×Obj)) (s:Shared) (σ:St) (H:Hp) (x y:V) (v u:Value) (Q:VK),Inv X pins σ H s->RelV x v->RelV y u->r x y H Q ->
   subscripted slice false v u=operate [v,u] (getItem v u)->wpAny (model X.prog X.w) X.A (subscriptTail value slice v u) (EP X pins σ Q) X.xe s
noncomputable def Rw (X:Cx)(id:String)(r:V->List V->Hp->VK->Prop):Prop:=
 ∀ (pins:List (Addr×Obj)) (s:Shared) (σ:St) (H:Hp) (x:V) (xs:List V) (v:Value) (us:List Value) (Q:VK),Inv X pins σ H s->RelV x v->Vals xs us->r x xs H Q ->
   wpAny (model X.prog X.w) X.A (call (.builtin id) (v::us)) (EP X pins σ Q) X.xe s
section
variable {X:Cx}{a b:Expr}{ta tb:TE}{pos:Pos}
theorem uJ {r:R2}(hr:Rv X r)(ha:PE X a ta)(hb:PE X b tb)(hs:jZ b):PE X (.Subscript a b pos) (R9 r ta tb):=by
 intro pins s σ H Q I h
 exact Subscript_ (OA ha hb I h fun v u s2 x y H2 I2 rx ry q=>hr a b pins s2 σ H2 x y v u Q I2 rx ry q (hs _ _))
noncomputable def Wk (K:W.Frag):R2:=fun x y H Q=>∃ p xs i v,x=.ref p/\y=.int i/\mh K H p xs/\ny xs i=some v/\Q v H
noncomputable def Wl (K:W.Frag):R2:=fun x y H Q=>∃ p xs i v,x=.ref p/\y=.int i/\uC K H p xs/\ny xs i=some v/\Q v H
noncomputable def Wm:R2:=fun x y H Q=>∃ z i c,x=.str z/\y=.int i/\z.length<=sizeLine/\ny z.cps.toList i=some c/\Q (.str ⟨#[c]⟩) H
theorem x4:Rv X (Wk X.K):=by
 intro value slice pins s σ H x y v u Q I rx ry h hs
 obtain⟨p,xs,i,z,rfl,rfl,hq,he,q⟩:=h
 cases rx
 obtain⟨t,rfl⟩:=ry
 obtain⟨aC,r,pl,hz⟩:=I.list hq
 obtain⟨j,h1,h2,h3,h4,h5⟩:=x3 he
 obtain⟨w,ew,Gx⟩:=r.get h2
 have hl:=r.length
 have hn:=ly
 have fin:EP X pins σ Q w s:=⟨z,H,I,Gx,q⟩
 by_cases h0:0<=i
 . have hj:i.toNat=j:=by
     rw[seqIndex_of h0 h5] at h1
     exact Option.some.inj h1
   exact item_listR pl.isList h0 (by omega) (by rw[hj];simpa using ew) fin hs
 . have hj:(i+(aC.toArray.size:Int)).toNat=j:=by
     rw[seqIndex_neg (by omega) h4] at h1
     rw[List.size_toArray,<- hl]
     exact Option.some.inj h1
   exact subscriptTail_builtinR (x:=w) pl.isList.typeIs slot_list_getitem.lookup
     (wpAny_getItem_list_neg (Q:=fun r s'=>r=w/\EP X pins σ Q r s') pl.isList (by omega) (by rw[List.size_toArray] <;> omega) (by omega) (by rw[hj];simpa using ew) ⟨rfl,fin⟩) hs
theorem OM:Rv X (Wl X.K):=by
 intro value slice pins s σ H x y v u Q I rx ry h hs
 obtain⟨p,xs,i,z,rfl,rfl,hq,he,q⟩:=h
 cases rx
 obtain⟨t,rfl⟩:=ry
 obtain⟨aC,r,pl,hz⟩:=I.tuple hq
 obtain⟨j,h1,h2,h3,h4,h5⟩:=x3 he
 obtain⟨w,ew,Gx⟩:=r.get h2
 have hl:=r.length
 have hn:=ly
 have fin:EP X pins σ Q w s:=⟨z,H,I,Gx,q⟩
 exact subscriptTail_builtinR (x:=w) pl.typeIs slot_tuple_getitem.lookup
   (getItem_tuple (j:=j) (Q:=fun r s'=>r=w/\EP X pins σ Q r s') pl (by omega) (by omega) (by rw[List.size_toArray,<- hl];exact h1) (by simpa using ew) ⟨rfl,fin⟩) hs
theorem ON:Rv X Wm:=by
 intro value slice pins s σ H x y v u Q I rx ry h hs
 obtain⟨z,i,c,rfl,rfl,hz,he,q⟩:=h
 obtain⟨t,rfl⟩:=rx
 obtain⟨t',rfl⟩:=ry
 obtain⟨j,h1,h2,h3,h4,h5⟩:=x3 he
 have hl:z.cps.toList.length=z.length:=by simp[Str.length]
 rw[hl] at h1 h4 h5
 have hn:=ly
 exact tail_any (typeIs_str s z t) slot_str_getitem.lookup (getItem_str (c:=c) (by
   have e1:decide (i < -(2 ^ 63:Int))=false:=decide_eq_false (by omega)
   have e2:decide (i >= 2 ^ 63)=false:=decide_eq_false (by omega)
   rw[e1,e2,Bool.or_false]) (by rw[h1];simpa using h2) ⟨.str ⟨#[c]⟩,H,I.tok _,⟨_,rfl⟩,q⟩) hs
theorem B9 (aC:List Value)(n j:Nat)(u:Value):Obj.mapSeq (·.setIfInBounds j u) { cls:=.type "list",data:=.seq aC.toArray n}={ cls:=.type "list",data:=.seq (aC.set j u).toArray n}:=by
 simp[Obj.mapSeq]
theorem Inv.lst {pins:List (Addr×Obj)}{σ:St}{H:Hp}{s:Shared}{p:Addr}{xs:List V}(I:Inv X pins σ H s)(h:H p=some (.lst xs)):∃ (aC:List Value) (n:Nat),Vals xs aC/\s.heap.get? p=some { cls:=.type "list",data:=.seq aC.toArray n}/\xs.length<=sizeLine:=by
 obtain⟨z,aC,n,r,e⟩:=I.a5 p _ h
 exact⟨aC,n,r,e,z⟩
theorem Inv.OO {pins:List (Addr×Obj)}{σ:St}{H:Hp}{s:Shared}{p:Addr}{xs ys:List V}{aC its':List Value}{n n':Nat}{f:Obj->Obj}(I:Inv X pins σ H s)(h:H p=some (.lst xs))(ho:s.heap.get? p=some { cls:=.type "list",data:=.seq aC.toArray n})(hf:f { cls:=.type "list",data:=.seq aC.toArray n}={ cls:=.type "list",data:=.seq its'.toArray n'})(r:Vals ys its')(hz:ys.length<=sizeLine)(t:Nat):Inv X pins σ (upd H p (.lst ys)) { s with heap:=s.heap.update p f,toks:=t}:=by
 have e:(s.heap.update p f).get? p=some { cls:=.type "list",data:=.seq its'.toArray n'}:=by
   rw[Heap.get?_update_self f ho (by rw[hf] <;> rfl),hf]
 refine I.write (x:=p) (e:=p) (by rw[h];trivial) (.inl rfl) (fun b u hb q=>(Heap.get?_update_other _ _ (Ne.symm hb)).trans q) ⟨_,e⟩ ?_
 exact⟨hz,its',n',r,e⟩
noncomputable def SA:V->V->V->Hp->(Hp->Prop)->Prop:=fun o i v H Q=>∃ p xs k j,o=.ref p/\i=.int k/\H p=some (.lst xs)/\B8 xs.length k=some j/\Q (upd H p (.lst (xs.set j v)))
theorem set_list:R4 X SA:=by
 intro pins s σ H o i v ov iv u Q I ro ri rv h
 obtain⟨p,xs,k,j,rfl,rfl,hp,hj,q⟩:=h
 cases ro
 obtain⟨t,rfl⟩:=ri
 obtain⟨aC,n,r,ho,hz⟩:=I.lst hp
 obtain⟨h1,h2,h3,h4⟩:=Dy hj
 have hl:=r.length
 have hn:=ly
 have I':Inv X pins σ (upd H p (.lst (xs.set j v))) { s with heap:=s.heap.update p (Obj.mapSeq (·.setIfInBounds j u))}:=
   I.OO hp ho (B9 aC n j u) (r.set rv j) (by rw[List.length_set];exact hz) s.toks
 by_cases h0:0<=k
 . have hk:k.toNat=j:=by
     rw[seqIndex_of h0 h4] at h1
     exact Option.some.inj h1
   exact W.ki_setAt ho h0 (by omega) (by rw[List.size_toArray,<- hl];exact h4) (by rw[hk];exact⟨_,I',q⟩)
 . have hk:(k+(aC.toArray.size:Int)).toNat=j:=by
     rw[seqIndex_neg (by omega) h3] at h1
     rw[List.size_toArray,<- hl]
     exact Option.some.inj h1
   exact W.ki_setBack ho (by omega) (by rw[List.size_toArray,<- hl];exact h3) (by omega) (by rw[hk];exact⟨_,I',q⟩)
theorem x5 (lo hi:Option Int)(n:Nat):(sliceBounds lo hi none n).1=((HT.Ad n 0 lo:Nat):Int)/\(sliceBounds lo hi none n).2.1=((HT.Ad n n hi:Nat):Int)/\(sliceBounds lo hi none n).2.2=1:=by
 refine⟨?_,?_,rfl⟩
 . cases lo with
   | none=>simp[sliceBounds,HT.Ad]
   | some i=>
     simp only[sliceBounds,HT.Ad,Option.getD_none,show(1:Int) > 0 by decide,if_true]
     by_cases h:i < 0
     . simp only[h,if_true] <;> omega
     . simp only[h,if_false] <;> omega
 . cases hi with
   | none=>simp[sliceBounds,HT.Ad]
   | some i=>
     simp only[sliceBounds,HT.Ad,Option.getD_none,show(1:Int) > 0 by decide,if_true]
     by_cases h:i < 0
     . simp only[h,if_true] <;> omega
     . simp only[h,if_false] <;> omega
theorem wb (aC:List Value)(lo hi:Option Int):slicePick aC.toArray lo hi none=((aC.drop (HT.Ad aC.length 0 lo)).take (HT.Ad aC.length aC.length hi - HT.Ad aC.length 0 lo)).toArray:=by
 obtain⟨h1,h2,h3⟩:=x5 lo hi aC.toArray.size
 unfold slicePick
 rw[h1,h2,h3]
 simp only[sliceRange_one,pick_run,List.size_toArray] <;> rfl
noncomputable def Wn (K:W.Frag):V->Option Int->Option Int->Hp->VK->Prop:=fun x lo hi H Q=>∃ a xs,x=.ref a/\mh K H a xs/\∀ p,H p=none->Q (.ref p) (upd H p (.lst (EY xs lo hi)))
theorem KW:Wj X (Wn X.K):=by
 intro pins s σ H x v vl vu lo hi sl Q I rx hs pl pu h
 obtain⟨a,xs,rfl,hx,q⟩:=h
 cases rx
 obtain⟨aC,r,ht,hz⟩:=I.list hx
 have hlen:=r.length
 refine⟨"list",_,slot_list_getitem.lookup,ht.isList.typeIs,?_⟩
 refine wpAny_getItem_list_slice ht.isList hs pl pu .none (by simp) ?_ (by rw[List.size_toArray] <;> omega)
 rw[wb,<- hlen]
 refine⟨.ref s.heap.objs.size,_,I.laid (t':=s.toks) (o:=.lst (EY xs lo hi)) (fun b ob q=>Heap.get?_push_of_some _ q) (Nat.le_refl _) ?_,rfl,q _ (I.a5.fresh (Nat.le_refl _))⟩
 exact⟨Nat.le_trans (Af xs lo hi) hz,_,0,(r.drop (HT.Ad xs.length 0 lo)).take (HT.Ad xs.length xs.length hi - HT.Ad xs.length 0 lo),Heap.get?_push_size _ rfl⟩
noncomputable def qg:V->Bool
 | .cP=>true
 | .bl _=>true
 | .int _=>true
 | .str _=>true
 | _=>false
noncomputable def Kg:V->V->Bool
 | .cP,.cP=>true
 | .bl a,.bl b=>a == b
 | .bl a,.int b=>(if a then 1 else 0) == b
 | .int a,.bl b=>a == (if b then 1 else 0)
 | .int a,.int b=>a == b
 | .str a,.str b=>a == b
 | _,_=>false
theorem OP {A:Around}{s:Shared}{y x:V}{u v:Value}(ry:RelV y u)(rx:RelV x v)(fy:qg y=true)(fx:qg x=true):SeqAt.EqAt A s u v (Kg y x):=by
 cases y with
 | cP=>
   cases ry
   cases x with
   | cP=>cases rx;exact SeqAt.EqAt.same _
   | bl b=>cases rx;exact SeqAt.EqAt.none_bool b
   | int b=>obtain⟨t,rfl⟩:=rx;exact SeqAt.EqAt.none_int b t
   | str b=>obtain⟨t,rfl⟩:=rx;exact SeqAt.EqAt.none_str b t
   | _=>exact absurd (show false=true from fx) Bool.false_ne_true
 | bl a=>
   cases ry
   cases x with
   | cP=>cases rx;exact SeqAt.EqAt.bool_none a
   | bl b=>cases rx;exact SeqAt.EqAt.bool_bool a b
   | int b=>obtain⟨t,rfl⟩:=rx;exact SeqAt.EqAt.bool_int a b t
   | str b=>obtain⟨t,rfl⟩:=rx;exact SeqAt.EqAt.bool_str a b t
   | _=>exact absurd (show false=true from fx) Bool.false_ne_true
 | int a=>
   obtain⟨t',rfl⟩:=ry
   cases x with
   | cP=>cases rx;exact SeqAt.EqAt.int_none a t'
   | bl b=>cases rx;exact SeqAt.EqAt.int_bool a t' b
   | int b=>obtain⟨t,rfl⟩:=rx;exact SeqAt.EqAt.int_int a t' b t
   | str b=>obtain⟨t,rfl⟩:=rx;exact SeqAt.EqAt.int_str a t' b t
   | _=>exact absurd (show false=true from fx) Bool.false_ne_true
 | str a=>
   obtain⟨t',rfl⟩:=ry
   cases x with
   | cP=>cases rx;exact SeqAt.EqAt.str_none a t'
   | bl b=>cases rx;exact SeqAt.EqAt.str_bool a t' b
   | int b=>obtain⟨t,rfl⟩:=rx;exact SeqAt.EqAt.str_int a t' b t
   | str b=>obtain⟨t,rfl⟩:=rx;exact SeqAt.EqAt.str_str a t' b t
   | _=>exact absurd (show false=true from fx) Bool.false_ne_true
 | _=>exact absurd (show false=true from fy) Bool.false_ne_true
noncomputable def Ca (x:V)(u:Value):Bool:=match u with
 | .none=>Kg .cP x
 | .bool b=>Kg (.bl b) x
 | .int i _=>Kg (.int i) x
 | .str z _=>Kg (.str z) x
 | _=>false
theorem GO {x y:V}{u:Value}(r:RelV y u)(f:qg y=true):Ca x u=Kg y x:=by
 cases y with
 | cP=>cases r;rfl
 | bl b=>cases r;rfl
 | int i=>obtain⟨t,rfl⟩:=r;rfl
 | str z=>obtain⟨t,rfl⟩:=r;rfl
 | _=>exact absurd (show false=true from f) Bool.false_ne_true
theorem qh {x:V}:∀ {xs:List V} {us:List Value},Vals xs us->xs.all qg=true->us.any (Ca x)=xs.any fun y=>Kg y x
 | _,_,.nil,_=>rfl
 | y::xs,u::us,.cons r t,f=>by
   rw[List.all_cons,Bool.and_eq_true] at f
   rw[List.any_cons,List.any_cons,GO r f.1,qh t f.2]
theorem nC {A:Around}{s:Shared}{x:V}{v:Value}(rx:RelV x v)(fx:qg x=true):∀ {xs:List V} {us:List Value},Vals xs us->xs.all qg=true->∀ u∈us,SeqAt.EqAt A s u v (Ca x u)
 | _,_,.nil,_=>fun u hu=>by cases hu
 | y::xs,u::us,.cons r t,f=>fun u' hu=>by
   rw[List.all_cons,Bool.and_eq_true] at f
   rcases List.mem_cons.mp hu with rfl | hu
   . rw[GO r f.1];exact OP r rx f.1 fx
   . exact nC rx fx t f.2 u' hu
noncomputable def SD (x:V)(xs:List V):Bool:=xs.any fun y=>Kg y x
noncomputable def Vi (K:W.Frag)(neg:Bool):R2:=fun x y H Q=>∃ p xs,y=.ref p/\(mh K H p xs\/uC K H p xs)/\qg x=true/\xs.all qg=true/\Q (.bl (if neg then !SD x xs else SD x xs)) H
theorem xj:n9 X (compareOp .In) (Vi X.K false):=by
 intro pins s σ H x y v u Q I rx ry h
 obtain⟨p,xs,rfl,hq,fx,fs,q⟩:=h
 cases ry
 rcases hq with hq | hq
 . obtain⟨aC,r,pl,hz⟩:=I.list hq
   refine SeqAt.in_listAt (Ca x) pl.isList (fun w hw=>nC rx fx r fs w (by simpa using hw)) ⟨.bl _,H,I,rfl,?_⟩
   rw[show aC.toArray.any (Ca x)=aC.any (Ca x) by simp,qh r fs]
   exact q
 . obtain⟨aC,r,pl,hz⟩:=I.tuple hq
   refine SeqAt.in_tupleAt (Ca x) pl (fun w hw=>nC rx fx r fs w (by simpa using hw)) ⟨.bl _,H,I,rfl,?_⟩
   rw[show aC.toArray.any (Ca x)=aC.any (Ca x) by simp,qh r fs]
   exact q
theorem qi:n9 X (compareOp .NotIn) (Vi X.K true):=by
 intro pins s σ H x y v u Q I rx ry h
 obtain⟨p,xs,rfl,hq,fx,fs,q⟩:=h
 cases ry
 rcases hq with hq | hq
 . obtain⟨aC,r,pl,hz⟩:=I.list hq
   refine SeqAt.notIn_listAt (Ca x) pl.isList (fun w hw=>nC rx fx r fs w (by simpa using hw)) ⟨.bl _,H,I,rfl,?_⟩
   rw[show aC.toArray.any (Ca x)=aC.any (Ca x) by simp,qh r fs]
   exact q
 . obtain⟨aC,r,pl,hz⟩:=I.tuple hq
   refine SeqAt.notIn_tupleAt (Ca x) pl (fun w hw=>nC rx fx r fs w (by simpa using hw)) ⟨.bl _,H,I,rfl,?_⟩
   rw[show aC.toArray.any (Ca x)=aC.any (Ca x) by simp,qh r fs]
   exact q
theorem mj:jU X (.builtin "len") (fun xs H Q=>∃ p ys,xs=[.ref p]/\(mh X.K H p ys\/uC X.K H p ys)/\Q (.int ys.length) H):=by
 intro pins s σ H xs us Q I r h
 obtain⟨p,ys,rfl,hq,q⟩:=h
 obtain⟨u,rfl,rx⟩:=vals1 r
 cases rx
 have hn:=ly
 rcases hq with hq | hq
 . obtain⟨aC,r',pl,hz⟩:=I.list hq
   have hlen:=r'.length
   exact Calls.call_len_list pl.isList (by simp only[List.size_toArray] <;> omega) ⟨.int ys.length,H,I.tok _,⟨s.toks+1,by rw[List.size_toArray,hlen]⟩,q⟩
 . obtain⟨aC,r',pl,hz⟩:=I.tuple hq
   have hlen:=r'.length
   exact len_tuple pl (by simp only[List.size_toArray] <;> omega) ⟨.int ys.length,H,I.tok _,⟨s.toks+1,by rw[List.size_toArray,hlen]⟩,q⟩
theorem x6:jU X (.builtin "len") (fun xs H Q=>∃ z,xs=[.str z]/\z.length<=sizeLine/\Q (.int z.length) H):=by
 intro pins s σ H xs us Q I r h
 obtain⟨z,rfl,hz,q⟩:=h
 obtain⟨u,rfl,t,rfl⟩:=vals1 r
 have hn:=ly
 exact len_str (by omega) ⟨.int z.length,H,I.tok _,⟨_,rfl⟩,q⟩
theorem qj:jU X (.type "list") (fun xs H Q=>∃ p ys,xs=[.ref p]/\(mh X.K H p ys\/uC X.K H p ys)/\∀ l,H l=none->Q (.ref l) (upd H l (.lst ys))):=by
 intro pins s σ H xs us Q I r h
 obtain⟨p,ys,rfl,hq,q⟩:=h
 obtain⟨u,rfl,rx⟩:=vals1 r
 cases rx
 have fin:∀ (aC:List Value),Vals ys aC->ys.length<=sizeLine->∀ (h':Heap) (c':Nat),(∀ b o',s.heap.get? b=some o'->h'.get? b=some o') ->
     h'.get? s.heap.objs.size=some { cls:=.type "list",dict:=none,data:=.seq aC.toArray c',slots:=#[]}->EP X pins σ Q (.ref s.heap.objs.size) { s with heap:=h'}:=fun aC r' hz h' c' kp e=>
   ⟨.ref s.heap.objs.size,_,I.laid (t':=s.toks) kp (Nat.le_refl _) (show aJ X.prog X.w _ h' _ (.lst ys) from⟨hz,aC,c',r',e⟩),rfl,q _ (I.a5.fresh (Nat.le_refl _))⟩
 rcases hq with hq | hq
 . obtain⟨aC,r',pl,hz⟩:=I.list hq
   have hlen:=r'.length
   obtain⟨o,ho,hc,n,hd⟩:=pl.isList
   exact call_list_seq p (.inl rfl) ho hc hd (fun h' c' kp e=>fin aC r' hz h' c' kp e) (by simp only[List.size_toArray] <;> omega)
 . obtain⟨aC,r',pl,hz⟩:=I.tuple hq
   have hlen:=r'.length
   obtain⟨o,ho,hc,n,hd⟩:=pl
   exact call_list_seq p (.inr rfl) ho hc hd (fun h' c' kp e=>fin aC r' hz h' c' kp e) (by simp only[List.size_toArray] <;> omega)
noncomputable def Vj (K:W.Frag)(T:String)(x:V)(H:Hp):Prop:=match x with
 | .str _=>T="str"
 | .int _=>T="int"
 | .ref p=>(T="list"/\∃ xs,mh K H p xs)\/(T="tuple"/\∃ o,K.lookup p=some o/\o.cls=.type "tuple"/\o.dict=none) \/
     (T="dict"/\((∃ kvs,H p=some (.dK kvs))\/(∃ kvs,H p=some (.dT kvs))\/∃ tg o kvs,H p=some (.kd tg o kvs)))\/(T="set"/\∃ S n,H p=some (.set S n)) \/
     (T="list"/\∃ (a:Addr) (ls:jL) (ns:List Nat) (j:Nat) (f:Nat->List (Key×FD)) (N:Nat),H a=some (.bA ls ns)/\ls[j]?=some (p,f)/\ns[j]?=some N)
 | _=>False
theorem GP {pins:List (Addr×Obj)}{σ:St}{H:Hp}{s:Shared}{T:String}{x:V}{v:Value}(I:Inv X pins σ H s)(r:RelV x v)(ty:Vj X.K T x H):s.TypeIs v T/\∀ a,v=.ref a->∃ ob,s.heap.get? a=some ob/\ob.dict=none:=by
 cases x with
 | str z=>
   obtain⟨t,rfl⟩:=r
   cases (show T="str" from ty)
   exact⟨typeIs_str s z t,fun _ e=>nomatch e⟩
 | int i=>
   obtain⟨t,rfl⟩:=r
   cases (show T="int" from ty)
   exact⟨typeIs_int s i t,fun _ e=>nomatch e⟩
 | ref p=>
   cases r
   rcases ty with⟨rfl,xs,hq⟩ | ⟨rfl,o,hk,hc,hd⟩ | ⟨rfl,hk⟩ | ⟨rfl,S,n,hk⟩ | ⟨rfl,a,ls,ns,j,f,N,h1,h2,h3⟩
   . obtain⟨aC,_,pl,_⟩:=I.list hq
     refine⟨pl.isList.typeIs,fun a e=>?_⟩
     cases e
     obtain⟨o,n,e,c,hd,_⟩:=pl
     exact⟨o,e,hd⟩
   . refine⟨⟨o,I.mf p o hk,hc⟩,fun a e=>?_⟩
     cases e
     exact⟨o,I.mf _ o hk,hd⟩
   . have z:∃ o,s.heap.get? p=some o/\o.ExactDict:=by
       rcases hk with⟨kvs,hk⟩ | ⟨kvs,hk⟩ | ⟨tg,ob,kvs,hk⟩
       . obtain⟨_,_,_,_,o,_,_,e,ex,_⟩:=I.a5 p _ hk
         exact⟨o,e,ex⟩
       . obtain⟨_,_,_,_,o,_,_,e,ex,_⟩:=I.a5 p _ hk
         exact⟨o,e,ex⟩
       . obtain⟨_,⟨_,_,_,_,o,_,_,e,ex,_⟩,_⟩:=I.a5 p _ hk
         exact⟨o,e,ex⟩
     obtain⟨o,e,ex⟩:=z
     refine⟨⟨o,e,ex.1⟩,fun a e2=>?_⟩
     cases e2
     exact⟨o,e,ex.2.1⟩
   . obtain⟨o,_,_,_,e,ex,_⟩:=I.a5 p _ hk
     refine⟨⟨o,e,ex.1⟩,fun a e2=>?_⟩
     cases e2
     exact⟨o,e,ex.2.1⟩
   . obtain⟨_,_,_,_,_,_,h6⟩:=(show aJ X.prog X.w H s.heap a (.bA ls ns) from I.a5 a _ h1)
     obtain⟨aC,c,e1,e2,e3⟩:=h6 j p f N h2 h3
     refine⟨⟨_,e1,rfl⟩,fun a' e4=>?_⟩
     cases e4
     exact⟨_,e1,rfl⟩
 | _=>exact False.elim ty
noncomputable def Wo (K:W.Frag)(T:String)(r:V->List V->Hp->VK->Prop)(to:TE):TE:=fun σ H Q=>to σ H fun x H1=>Vj K T x H1/\r x [] H1 Q
noncomputable def tBM (K:W.Frag)(T:String)(r:V->List V->Hp->VK->Prop)(to:TE)(t:TA):TE:=fun σ H Q=>to σ H fun x H1=>Vj K T x H1/\t σ H1 fun xs H2=>r x xs H2 Q
variable {o e:Expr}{es:List Expr}{to:TE}{t:TA}{name:Str}{apos bW:Pos}{T id:String}{r:V->List V->Hp->VK->Prop}
theorem GQ (pa:PlainAttrs T)(slot:Slot T name id)(SE:typeOf (.builtin id)=pure (.type "method_descriptor"))(hm:Rw X id r)(ho:PE X o to)(jy:attributeBase o name X.env (eval o X.env)=eval o X.env:=by rfl)(jz:(apos.endLine == bW.line)=true:=by rfl):PE X (.Call (.Attribute o name apos) [] [] bW) (Wo X.K T r to):=by
 intro pins s σ H Q I h
 refine wpAny_Call_method0_late jy jz (bX (ho pins s σ H _ I h) fun v s1 ⟨x,H1,I1,r1,ty,q1⟩=>?_)
 obtain⟨h1,h2⟩:=GP I1 r1 ty
 exact⟨T,id,pa,slot,SE,h1,h2,Calls.callWith_builtin rfl (PySem.evalArgs_none (hm pins s1 σ H1 x [] v [] Q I1 r1 .nil q1))⟩
theorem uK (pa:PlainAttrs T)(slot:Slot T name id)(SE:typeOf (.builtin id)=pure (.type "method_descriptor"))(hm:Rw X id r)(ho:PE X o to)(ha:PA X (e::es) t)
   (jy:attributeBase o name X.env (eval o X.env)=eval o X.env:=by rfl)
   (uL:((backTo bW (starEach (e::es) X.env)).all (fun x=>!x.1) && (backToKw bW (keywordEach [] X.env)).all (fun x=>x.1.isSome)
     && decide ((e::es).length+([]:List Keyword).length+(if ([]:List Keyword).isEmpty then 0 else 1) < 30))=true:=by rfl)
   (jz:(apos.endLine == bW.line)=true:=by rfl) (hs:starEach (e::es) X.env=(false,eval e X.env)::starEach es X.env:=by rfl) (OQ:(backTo bW (starEach es X.env)).any (·.1)=false:=by rfl) :
   PE X (.Call (.Attribute o name apos) (e::es) [] bW) (tBM X.K T r to t):=by
 intro pins s σ H Q I h
 refine wpAny_Call_method_late jy uL jz rfl (bX (ho pins s σ H _ I h) fun v s1 ⟨x,H1,I1,r1,ty,q1⟩=>?_)
 obtain⟨h1,h2⟩:=GP I1 r1 ty
 refine⟨T,id,pa,slot,SE,h1,h2,?_⟩
 have hA:=ha bW pins s1 σ H1 _ I1 q1
 rw[hs] at hA ⊢
 refine Calls.callWith_builtin (by show(false || (backTo bW (starEach es X.env)).any (·.1))=false;rw[OQ] <;> rfl) (Calls.evalArgs_plain ?_)
 exact bX hA fun us s2 ⟨vs,H2,I2,r2,q2⟩=>hm pins s2 σ H2 x vs v us Q I2 r1 r2 q2
end
noncomputable def Wq (X:Cx)(id:String)(r:V->List V->Hp->VK->Prop):Prop:=
 ∀ (pins:List (Addr×Obj)) (s:Shared) (σ:St) (H:Hp) (x:V) (xs:List V) (v:Value) (us:List Value) (Q:VK),Inv X pins σ H s->RelV x v->Vals xs us->r x xs H Q ->
   wpAny (model X.prog X.w) X.A (call (.builtin id) (v::us)) (EP X pins σ Q) X.xe s
theorem Vals.one:∀ {x:V} {us:List Value},Vals [x] us->∃ u,us=[u]/\RelV x u
 | _,_,.cons r .nil=>⟨_,rfl,r⟩
theorem Vals.zero:∀ {us:List Value},Vals [] us->us=[]
 | _,.nil=>rfl
theorem Vals.dropLast {xs:List V}{us:List Value}(h:Vals xs us):Vals xs.dropLast us.dropLast:=by
 induction h with
 | nil=>exact .nil
 | cons r t ih=>
   cases t with
   | nil=>exact .nil
   | cons q t'=>exact .cons r ih
theorem Vals.rep {xs:List V}{us:List Value}(h:Vals xs us):∀ k:Nat,Vals (List.replicate k xs).flatten (List.replicate k us).flatten
 | 0=>.nil
 | k+1=>by
   rw[List.replicate_succ,List.replicate_succ,List.flatten_cons,List.flatten_cons]
   exact Vals.append h (Vals.rep h k)
theorem Cb {α:Type}(l:List α):l.eraseIdx (l.length - 1)=l.dropLast:=by
 induction l with
 | nil=>rfl
 | cons a r ih=>
   cases r with
   | nil=>rfl
   | cons b r=>
     have e:(a::b::r).length - 1=((b::r).length - 1)+1:=by
       have h1:(a::b::r).length=r.length+2:=rfl
       have h2:(b::r).length=r.length+1:=rfl
       omega
     rw[e,List.eraseIdx_cons_succ,ih]
     all_goals rfl
theorem foldl_rep (aC:List Value):∀ (k:Nat) (acc:List Value),List.foldl (fun x1 x2=>x1 ++ x2) acc.toArray (List.replicate k aC.toArray)=(acc ++ (List.replicate k aC).flatten).toArray
 | 0,acc=>by simp
 | k+1,acc=>by
   have e:acc.toArray ++ aC.toArray=(acc ++ aC).toArray:=by simp
   have e2:(acc ++ aC) ++ (List.replicate k aC).flatten=acc ++ (List.replicate (k+1) aC).flatten:=by
     rw[List.replicate_succ,List.flatten_cons,List.append_assoc]
   rw[<- e2,<- foldl_rep aC k (acc ++ aC),<- e,List.replicate_succ,List.foldl_cons]
section
variable {X:Cx}{pins:List (Addr×Obj)}{σ:St}{H:Hp}{s:Shared}{l:Addr}{xs ys:List V}
theorem Inv.OR {aC its':List Value}{n:Nat}{f:Array Value->Array Value}{t':Nat}(I:Inv X pins σ H s)(hH:H l=some (.lst xs))(e:s.heap.get? l=some { cls:=.type "list",data:=.seq aC.toArray n})(hf:f aC.toArray=its'.toArray)(hv:Vals ys its')(hz:ys.length<=sizeLine):Inv X pins σ (upd H l (.lst ys)) { s with heap:=s.heap.update l (Obj.mapSeq f),toks:=t'}:=by
 have q:=PySem.IsL.update e f
 rw[hf] at q
 refine I.write (x:=l) (e:=l) (by rw[hH];exact trivial) (.inl rfl) (fun b' u hb hu=>(Heap.get?_update_other s.heap (Obj.mapSeq f) (Ne.symm hb)).trans hu) ⟨_,q⟩ ?_
 exact⟨hz,its',_,hv,q⟩
theorem Inv.SF {aC:List Value}{t':Nat}(I:Inv X pins σ H s)(hv:Vals ys aC)(hz:ys.length<=sizeLine):Inv X pins σ (upd H s.heap.objs.size (.lst ys)) { s with heap:=s.heap.push { cls:=.type "list",data:=.seq aC.toArray},toks:=t'}:=
 I.laid (fun _ _ q=>Heap.get?_push_of_some _ q) (Nat.le_refl _) ⟨hz,aC,0,hv,Heap.get?_push_size _ rfl⟩
theorem Inv.fresh (I:Inv X pins σ H s):H s.heap.objs.size=none:=I.a5.fresh (Nat.le_refl _)
theorem Inv.Cc (I:Inv X pins σ H s)(hH:H l=some (.lst xs)):xs.length<=sizeLine/\∃ (aC:List Value) (n:Nat),Vals xs aC/\xs.length=aC.length/\s.heap.get? l=some { cls:=.type "list",data:=.seq aC.toArray n}:=by
 obtain⟨z,aC,n,r,e⟩:=I.a5 l _ hH
 exact⟨z,aC,n,r,r.length,e⟩
theorem Ah {n:Nat}(h:n<=sizeLine):Builtin.List.listTooLong n=false:=by
 unfold Builtin.List.listTooLong
 exact decide_eq_false (by omega)
end
section
variable {X:Cx}
noncomputable def KY:V->List V->Hp->VK->Prop:=fun x vs H Q=>∃ l xs y,x=.ref l/\vs=[y]/\H l=some (.lst xs)/\xs.length < sizeLine/\Q .cP (upd H l (.lst (xs ++ [y])))
theorem og:Wq X "list.append" KY:=by
 intro pins s σ H x vs v us Q I rx rv h
 obtain⟨l,xs,y,rfl,rfl,hH,hz,q⟩:=h
 cases rx
 obtain⟨u,rfl,ru⟩:=rv.one
 obtain⟨z,aC,n,r,hl,e⟩:=I.Cc hH
 refine call_meets F.slot_list_append ⟨_,e,rfl⟩ F.entry_list_append (F.args_list_append_2 _ _) (PySem.list_append l aC.toArray n u (by rw[List.size_toArray];omega)) ⟨e,?_⟩
 refine⟨.cP,_,I.OR (its':=aC ++ [u]) hH e (by simp) (r.append (.cons ru .nil)) ?_,rfl,q⟩
 rw[List.length_append,List.length_singleton]
 omega
noncomputable def KZ:V->List V->Hp->VK->Prop:=fun x vs H Q=>∃ l b xs zs,x=.ref l/\vs=[.ref b]/\H l=some (.lst xs)/\H b=some (.lst zs)/\xs.length+zs.length<=sizeLine/\Q .cP (upd H l (.lst (xs ++ zs)))
theorem EZ:Wq X "list.extend" KZ:=by
 intro pins s σ H x vs v us Q I rx rv h
 obtain⟨l,b,xs,zs,rfl,rfl,hH,hB,hz,q⟩:=h
 cases rx
 obtain⟨u,rfl,ru⟩:=rv.one
 cases ru
 obtain⟨z,aC,n,r,hl,e⟩:=I.Cc hH
 obtain⟨z2,Cd,n2,r2,K0,e2⟩:=I.Cc hB
 have hsz:aC.toArray.size+Cd.toArray.size<=sizeLine:=by rw[List.size_toArray,List.size_toArray];omega
 have GR:¬ (!aC.toArray.isEmpty && Builtin.List.listTooLong (aC.toArray.size+Cd.toArray.size))=true:=by
   rw[Ah hsz,Bool.and_false]
   exact Bool.false_ne_true
 refine call_meets F.slot_list_extend ⟨_,e,rfl⟩ F.entry_list_extend (F.args_list_extend_2 _ _)
   (AutoSeq1.list_extend_list_list_0 l aC.toArray n b Cd.toArray n2 GR (by rw[List.size_toArray];omega) (by omega)) ⟨e,e2,?_⟩
 refine⟨.cP,_,I.OR (its':=aC ++ Cd) hH e (by simp) (r.append r2) ?_,rfl,q⟩
 rw[List.length_append]
 omega
noncomputable def Wr:V->List V->Hp->VK->Prop:=fun x vs H Q=>∃ l xs y,x=.ref l/\vs=[]/\H l=some (.lst xs)/\xs[xs.length - 1]?=some y/\Q y (upd H l (.lst xs.dropLast))
theorem OS:Wq X "list.pop" Wr:=by
 intro pins s σ H x vs v us Q I rx rv h
 obtain⟨l,xs,y,rfl,rfl,hH,hy,q⟩:=h
 cases rx
 have hus:=rv.zero
 subst hus
 obtain⟨z,aC,n,r,hl,e⟩:=I.Cc hH
 obtain⟨u,hu,ru⟩:=r.get hy
 have SG:aC.toArray[aC.toArray.size - 1]?=some u:=by
   show aC.toArray[aC.length - 1]?=some u
   rw[<- Array.getElem?_toList,<- hl]
   exact hu
 refine call_meets F.slot_list_pop ⟨_,e,rfl⟩ F.entry_list_pop (F.args_list_pop_1 _) (MeetsSeq.list_pop_last l aC.toArray n u SG (by rw[List.size_toArray];omega)) ⟨e,?_⟩
 refine⟨y,_,I.OR (its':=aC.dropLast) hH e ?_ r.dropLast ?_,ru,q⟩
 . show aC.toArray.eraseIdxIfInBounds (aC.toArray.size - 1)=aC.dropLast.toArray
   rw[List.size_toArray,List.eraseIdxIfInBounds_toArray,Cb]
 . rw[List.length_dropLast]
   omega
noncomputable def Ws:R2:=fun x y H Q=>∃ l b xs zs,x=.ref l/\y=.ref b/\H l=some (.lst xs)/\H b=some (.lst zs)/\xs.length+zs.length<=sizeLine/\∀ p,H p=none->Q (.ref p) (upd H p (.lst (xs ++ zs)))
theorem OT:n9 X (binaryOp .Add) Ws:=by
 intro pins s σ H x y v u Q I rx ry h
 obtain⟨l,b,xs,zs,rfl,rfl,hH,hB,hz,q⟩:=h
 cases rx
 cases ry
 obtain⟨z,aC,n,r,hl,e⟩:=I.Cc hH
 obtain⟨z2,Cd,n2,r2,K0,e2⟩:=I.Cc hB
 refine PySem.P.add_list e e2 ?_ (by rw[List.size_toArray,List.size_toArray];omega)
 have ea:aC.toArray ++ Cd.toArray=(aC ++ Cd).toArray:=by simp
 rw[ea]
 exact⟨.ref _,_,I.SF (t':=s.toks) (r.append r2) (by rw[List.length_append];omega),rfl,q _ I.fresh⟩
noncomputable def Wt:R2:=fun x y H Q=>∃ l k xs,x=.ref l/\y=.int k/\H l=some (.lst xs)/\-(2 ^ 63)<=k/\k < 2 ^ 63/\xs.length * k.toNat<=sizeLine /\
 ∀ p,H p=none->Q (.ref p) (upd H p (.lst (List.replicate k.toNat xs).flatten))
theorem len_rep {α:Type}(xs:List α)(k:Nat):(List.replicate k xs).flatten.length=k * xs.length:=by
 induction k with
 | zero=>simp
 | succ k ih=>rw[List.replicate_succ,List.flatten_cons,List.length_append,ih,Nat.succ_mul,Nat.add_comm]
theorem OU:n9 X (binaryOp .Mult) Wt:=by
 intro pins s σ H x y v u Q I rx ry h
 obtain⟨l,k,xs,rfl,rfl,hH,h1,h2,hz,q⟩:=h
 cases rx
 obtain⟨t,rfl⟩:=ry
 obtain⟨z,aC,n,r,hl,e⟩:=I.Cc hH
 have hlen:aC.toArray.size * k.toNat<=sizeLine:=by rw[List.size_toArray,<- hl];exact hz
 have Wu:¬ aC.toArray.size * k.toNat > (2 ^ 63 - 1) / 8:=by
   have:(sizeLine:Nat)<=(2 ^ 63 - 1) / 8:=by decide
   omega
 have uM:¬ (!Builtin.List.listFitsIndex k)=true:=by
   rw[fitsIndex_both h1 h2]
   exact Bool.false_ne_true
 have GR:¬ Builtin.List.listTooLong (aC.toArray.size * k.toNat)=true:=by
   rw[Ah hlen]
   exact Bool.false_ne_true
 have E1:List.foldl (fun x1 x2=>x1 ++ x2) #[] (List.replicate (if aC.toArray.isEmpty=true then 0 else k.toNat) aC.toArray)=(List.replicate k.toNat aC).flatten.toArray:=by
   have f0:∀ m:Nat,List.foldl (fun x1 x2=>x1 ++ x2) #[] (List.replicate m aC.toArray)=(List.replicate m aC).flatten.toArray:=fun m=>by
     have:=foldl_rep aC m []
     rw[List.nil_append] at this
     exact this
   rw[f0]
   cases aC with
   | nil=>simp
   | cons a r'=>rw[if_neg (by simp)]
 refine wpAny_binaryOp_repeat_ref (T:="list") (U:="int") (by decide) ⟨_,e,rfl⟩ (fun s'=>typeIs_int s' k t) noFill_list_mul F.fills_int_mul F.slot_int_rmul repeat_list F.slot_int_index.lookup
   (call_meets F.slot_int_rmul (typeIs_int s k t) F.entry_int_rmul (F.args_int_rmul_2 _ _) (int___rmul___int_list k t l aC.toArray n)
     ⟨e,rfl,⟨_,e,rfl⟩,call_meets F.slot_list_mul ⟨_,e,rfl⟩ F.entry_list_mul (F.args_list_mul_2 _ _) (AutoListH.list___mul___list_int_3 l aC.toArray n k t uM Wu GR) ⟨e,?_⟩⟩)
 rw[E1]
 exact⟨.ref _,_,I.SF (t':=s.toks) (r.rep k.toNat) (by rw[len_rep,Nat.mul_comm];exact hz),rfl,q _ I.fresh⟩
end
section
variable {κ:Type}[DecidableEq κ]
noncomputable def nE (kvs:List (κ×V))(k:κ):Option V:=(kvs.find? fun kv=>decide (kv.1=k)).map (·.2)
noncomputable def putK (kvs:List (κ×V))(k:κ)(v:V):List (κ×V):=
 if (kvs.any fun kv=>decide (kv.1=k))=true then kvs.map (fun kv=>if kv.1=k then (kv.1,v) else kv) else kvs ++ [(k,v)]
theorem nF {p:κ×V}{r:List (κ×V)}{k:κ}(e:p.1=k):nE (p::r) k=some p.2:=by simp[nE,List.find?_cons,e]
theorem lQ {p:κ×V}{r:List (κ×V)}{k:κ}(e:¬ p.1=k):nE (p::r) k=nE r k:=by simp[nE,List.find?_cons,e]
theorem qk (k:κ):∀ kvs:List (κ×V),(kvs.any fun kv=>decide (kv.1=k))=(nE kvs k).isSome
 | []=>rfl
 | p::r=>by
   rw[List.any_cons]
   by_cases e:p.1=k
   . simp only[nF e,decide_eq_true e,Bool.true_or,Option.isSome_some]
   . rw[lQ e,decide_eq_false e,Bool.false_or];exact qk k r
theorem sk (kvs:List (κ×V))(k:κ)(v:V):(putK kvs k v).length<=kvs.length+1:=by
 unfold putK
 split
 . rw[List.length_map];omega
 . rw[List.length_append,List.length_cons,List.length_nil];omega
theorem oX.rb {o:Option V}{u:Option Value}(r:oX o u):o.isSome=u.isSome:=by
 cases o with
 | none=>cases u with
   | none=>rfl
   | some _=>exact(show False from r).elim
 | some _=>cases u with
   | none=>exact(show False from r).elim
   | some _=>rfl
theorem KV.val {kvs:List (κ×V)}{vs:List (κ×Value)}(r:KV kvs vs)(k:κ):oX (nE kvs k) (valueAt vs k):=by
 unfold KV at r
 induction r with
 | nil=>exact True.intro
 | @cons p q ps qs h t ih=>
   obtain⟨h1,h2⟩:=h
   by_cases e:p.1=k
   . have e':q.1=k:=h1.symm.trans e
     have b:valueAt (q::qs) k=some q.2:=by simp[valueAt,List.find?_cons,e']
     rw[nF e,b];exact h2
   . have e':¬ q.1=k:=fun z=>e (h1.trans z)
     have b:valueAt (q::qs) k=valueAt qs k:=by simp[valueAt,List.find?_cons,e']
     rw[lQ e,b];exact ih
theorem KV.any {kvs:List (κ×V)}{vs:List (κ×Value)}(r:KV kvs vs)(k:κ):(kvs.any fun kv=>decide (kv.1=k))=vs.any fun kv=>decide (kv.1=k):=by
 unfold KV at r
 induction r with
 | nil=>rfl
 | cons h t ih=>rw[List.any_cons,List.any_cons,ih,h.1]
theorem KV.OV {kvs:List (κ×V)}{vs:List (κ×Value)}(r:KV kvs vs)(k:κ){y:V}{u:Value}(ry:RelV y u):KV (kvs.map fun kv=>if kv.1=k then (kv.1,y) else kv) (vs.map fun kv=>if kv.1=k then (kv.1,u) else kv):=by
 unfold KV at r ⊢
 induction r with
 | nil=>exact .nil
 | @cons p q ps qs h t ih=>
   rw[List.map_cons,List.map_cons]
   refine .cons ?_ ih
   obtain⟨h1,h2⟩:=h
   by_cases e:p.1=k
   . rw[if_pos e,if_pos (h1.symm.trans e)];exact⟨h1,ry⟩
   . rw[if_neg e,if_neg (fun z=>e (h1.trans z))];exact⟨h1,h2⟩
theorem KV.put {kvs:List (κ×V)}{vs:List (κ×Value)}(r:KV kvs vs)(k:κ){y:V}{u:Value}(ry:RelV y u):KV (putK kvs k y) (stored vs k u):=by
 unfold putK stored
 rw[r.any k]
 by_cases e:(vs.any fun kv=>decide (kv.1=k))=true
 . rw[if_pos e,if_pos e];exact r.OV k ry
 . rw[if_neg e,if_neg e];exact Paired.snoc r ⟨rfl,ry⟩
theorem KV.length {kvs:List (κ×V)}{vs:List (κ×Value)}(r:KV kvs vs):kvs.length=vs.length:=Paired.length r
end
theorem Ai {P:Program}{w:World}{k:Key}{u:Value}(r:RelV (kV k) u):(cH P w).is k u=true:=by
 cases k with
 | inl i=>obtain⟨t,e⟩:=(show ∃ t,u=Value.int i t from r);subst e;exact zP P w i t
 | inr x=>obtain⟨t,e⟩:=(show ∃ t,u=Value.str x t from r);subst e;exact zQ P w x t
theorem xk {P:Program}{w:World}:∀ {ks:List Key} {us:List Value},Vals (ks.map kV) us->ItemsAre (cH P w) ks us
 | [],_,r=>by rw[List.map_nil] at r;cases r;exact .nil
 | k::ks,_,r=>by
   rw[List.map_cons] at r
   cases r with
   | cons h t=>exact .cons (Ai h) (xk t)
noncomputable abbrev KT (H:Hp):List (List Key×V)->List (List Key×Addr×Value)->Prop:=Paired fun p q=>p.1=q.1/\H q.2.1=some (.tup (p.1.map kV))/\RelV p.2 q.2.2
theorem KT.val {H:Hp}{kvs:List (List Key×V)}{xs:List (List Key×Addr×Value)}(r:KT H kvs xs)(k:List Key):oX (nE kvs k) ((atKey xs k).map (·.2)):=by
 induction r with
 | nil=>exact True.intro
 | @cons p q ps qs h t ih=>
   obtain⟨h1,_,h2⟩:=h
   by_cases e:p.1=k
   . have e':q.1=k:=h1.symm.trans e
     have b:atKey (q::qs) k=some q.2:=by simp[atKey,List.find?_cons,e']
     rw[nF e,b];exact h2
   . have e':¬ q.1=k:=fun z=>e (h1.trans z)
     have b:atKey (q::qs) k=atKey qs k:=by simp[atKey,List.find?_cons,e']
     rw[lQ e,b];exact ih
theorem KT.OV {H:Hp}{kvs:List (List Key×V)}{xs:List (List Key×Addr×Value)}(r:KT H kvs xs)(k:List Key){y:V}{u:Value}(ry:RelV y u):KT H (kvs.map fun kv=>if kv.1=k then (kv.1,y) else kv) (xs.map (putAt k u)):=by
 induction r with
 | nil=>exact .nil
 | @cons p q ps qs h t ih=>
   rw[List.map_cons,List.map_cons]
   refine .cons ?_ ih
   obtain⟨h1,h2,h3⟩:=h
   unfold putAt
   by_cases e:p.1=k
   . rw[if_pos e,if_pos (h1.symm.trans e)];exact⟨h1,h2,ry⟩
   . rw[if_neg e,if_neg (fun z=>e (h1.trans z))];exact⟨h1,h2,h3⟩
theorem KT.put {H:Hp}{kvs:List (List Key×V)}{xs:List (List Key×Addr×Value)}(r:KT H kvs xs)(k:List Key){b:Addr}{y:V}{u:Value}(hb:H b=some (.tup (k.map kV)))(ry:RelV y u):KT H (putK kvs k y) (storedH xs k b u):=by
 have e:(kvs.any fun kv=>decide (kv.1=k))=(atKey xs k).isSome:=by
   rw[qk,(r.val k).rb,Option.isSome_map]
 unfold putK storedH
 rw[e]
 by_cases q:(atKey xs k).isSome=true
 . rw[if_pos q,if_pos q];exact r.OV k ry
 . rw[if_neg q,if_neg q];exact Paired.snoc r ⟨rfl,hb,ry⟩
theorem KT.keeps {H H':Hp}{kvs:List (List Key×V)}{xs:List (List Key×Addr×Value)}(r:KT H kvs xs)(ht:∀ b ys,H b=some (.tup ys)->H' b=some (.tup ys)):KT H' kvs xs:=
 Paired.Od r fun _ _ z=>⟨z.1,ht _ _ z.2.1,z.2.2⟩
section
variable {P:Program}{w:World}{H:Hp}{h:Heap}{a:Addr}
theorem Ng {u:HO}(ok:qb P w H h)(e:Rd H a u):aJ P w H h a u:=e.ok ok
theorem sq {kvs:List (Key×V)}(ok:qb P w H h)(e:Rd H a (.dK kvs)):kvs.length<=sizeLine/\(a == sysModules)=false/\∃ vs,KV kvs vs/\h.DictOf (cH P w) a vs:=
 show aJ P w H h a (.dK kvs) from Ng ok e
theorem Nh {kvs:List (Key×V)}(ok:qb P w H h)(e:H a=some (.dK kvs)):kvs.length<=sizeLine/\(a == sysModules)=false/\∃ vs,KV kvs vs/\h.DictOf (cH P w) a vs:=sq ok (.inl e)
theorem x8 {ks:List Key}(ok:qb P w H h)(e:H a=some (.tup (ks.map kV))):(tupleKind (cH P w)).is h ks a:=by
 obtain⟨_,aC,r,o,h1,h2,n,h3⟩:=(show aJ P w H h a (.tup (ks.map kV)) from ok a _ e)
 exact⟨o,aC.toArray,n,h1,h2,h3,by simpa using xk r⟩
theorem Dz {kvs:List (List Key×V)}(ok:qb P w H h)(e:Rd H a (.dT kvs)):kvs.length<=sizeLine/\(a == sysModules)=false/\∃ xs,KT H kvs xs/\h.DictOfH (tupleKind (cH P w)) a xs:=by
 obtain⟨z,y,xs,r,o,es,ep,h1,h2,h3,h4,h5⟩:=(show aJ P w H h a (.dT kvs) from Ng ok e)
 refine⟨z,y,xs,r,o,es,ep,h1,h2,h3,h4,fun x hx=>?_,h5⟩
 have all:∀ {l:List (List Key×V)} {m:List (List Key×Addr×Value)},KT H l m->∀ x∈m,(tupleKind (cH P w)).is h x.1 x.2.1:=by
   intro l m q
   induction q with
   | nil=>intro x hx;exact nomatch hx
   | @cons p q ps qs hq t ih=>
     intro x hx
     rcases List.mem_cons.mp hx with e | hx
     . subst e
       exact x8 ok (by rw[<- hq.1];exact hq.2.1)
     . exact ih x hx
 exact all r x hx
theorem SH {kvs:List (List Key×V)}(ok:qb P w H h)(e:H a=some (.dT kvs)):kvs.length<=sizeLine/\(a == sysModules)=false/\∃ xs,KT H kvs xs/\h.DictOfH (tupleKind (cH P w)) a xs:=Dz ok (.inl e)
end
noncomputable def sI (H:Hp)(a:Addr)(y:V)(r:Option V):Prop:=
 (∃ kvs k,Rd H a (.dK kvs)/\y=kV k/\r=nE kvs k)\/∃ kvs k b,Rd H a (.dT kvs)/\y=.ref b/\H b=some (.tup (k.map kV))/\r=nE kvs k
noncomputable def E2 (H:Hp)(a:Addr)(y v:V)(H':Hp):Prop:=
 (∃ kvs k,H a=some (.dK kvs)/\y=kV k/\kvs.length < sizeLine/\H'=upd H a (.dK (putK kvs k v))) \/
 ∃ kvs k b,H a=some (.dT kvs)/\y=.ref b/\H b=some (.tup (k.map kV))/\kvs.length < sizeLine/\H'=upd H a (.dT (putK kvs k v))
theorem sI.k {H:Hp}{a:Addr}{kvs:List (Key×V)}{k:Key}(e:H a=some (.dK kvs)):sI H a (kV k) (nE kvs k):=.inl ⟨kvs,k,.inl e,rfl,rfl⟩
theorem E2.k {H:Hp}{a:Addr}{kvs:List (Key×V)}{k:Key}{v:V}(e:H a=some (.dK kvs))(hl:kvs.length < sizeLine):E2 H a (kV k) v (upd H a (.dK (putK kvs k v))):=.inl ⟨kvs,k,e,rfl,hl,rfl⟩
section
variable {X:Cx}{pins:List (Addr×Obj)}{σ:St}{H:Hp}{s:Shared}{a:Addr}{y v:V}{u r:Value}{o:Option V}{A:Around}{E:Value->Shared->Prop}
theorem Inv.big (I:Inv X pins σ H s):sysModules < s.heap.objs.size:=by
 have h:mainGlobals < s.heap.objs.size:=(I.mod.glob.keeps I.bk).lt
 exact Nat.lt_trans (by decide) h
theorem E3 {Q:Value->Shared->Prop}(hu:A.units+1 < cLine)(I:Inv X pins σ H s)(g:sI H a y (some v))(ry:RelV y u)(h:∀ w' s',Inv X pins σ H s'->RelV v w'->Q w' s'):wpAny (model X.prog X.w) A (getItem (.ref a) u) Q E s:=by
 rcases g with⟨kvs,k,e,ey,l⟩ | ⟨kvs,k,b,e,ey,eb,l⟩
 . subst ey
   obtain⟨z,hd,vs,rel,dd⟩:=sq I.a5 e
   obtain⟨w',hw,Gx⟩:=oX.some_of (v:=v) (o:=valueAt vs k) (by rw[l];exact rel.val k)
   exact wpAny_getItem_of (Ai ry) dd.mapOf hw (h w' _ (I.tok _) Gx)
 . subst ey
   cases (show u=Value.ref b from ry)
   obtain⟨z,hd,xs,rel,dd⟩:=Dz I.a5 e
   obtain⟨w',hw,Gx⟩:=oX.some_of (v:=v) (o:=(atKey xs k).map (·.2)) (by rw[l];exact rel.val k)
   obtain⟨p,hp,x9⟩:=Option.map_eq_some_iff.mp hw
   refine wpAny_getItem_heap (tupleKind_room_in1 hu) (x8 I.a5 eb) dd hp ?_
   rw[x9]
   exact h w' _ (I.tok _) Gx
theorem K1 {Q:Value->Shared->Prop}(hu:A.units+1 < cLine)(I:Inv X pins σ H s)(g:sI H a y o)(ry:RelV y u)(h:∀ s',Inv X pins σ H s'->Q (.bool (!o.isSome)) s'):wpAny (model X.prog X.w) A (compareOp .NotIn u (.ref a)) Q E s:=by
 rcases g with⟨kvs,k,e,ey,l⟩ | ⟨kvs,k,b,e,ey,eb,l⟩
 . subst ey
   obtain⟨z,hd,vs,rel,dd⟩:=sq I.a5 e
   refine wpAny_notIn_of (Ai ry) hd dd.mapOf ?_
   rw[<- (rel.val k).rb,<- l]
   exact h _ (I.tok _)
 . subst ey
   cases (show u=Value.ref b from ry)
   obtain⟨z,hd,xs,rel,dd⟩:=Dz I.a5 e
   refine wpAny_notIn_heap (tupleKind_room_in1 hu) (x8 I.a5 eb) hd dd ?_
   have q:=(rel.val k).rb
   rw[Option.isSome_map] at q
   rw[<- q,<- l]
   exact h _ (I.tok _)
theorem ml {h':Heap}{t':Nat}{ob:HO}(I:Inv X pins σ H s)(mu:Ro (H a))(hs:Heap.SameBut a s.heap h')(he:∃ q,h'.get? a=some q)(new:aJ X.prog X.w (upd H a ob) h' a ob):Inv X pins σ (upd H a ob) { s with heap:=h',toks:=t'}:=
 I.write (x:=a) (e:=a) mu (.inl rfl) (fun b q hb z=>(hs.2 b hb).trans z) he new
theorem GS {P:Program}{w:World}{H':Hp}{h':Heap}{kvs:List (Key×V)}{vs:List (Key×Value)}(z:kvs.length<=sizeLine)(hd:(a == sysModules)=false)(rel:KV kvs vs)(dd:h'.DictOf (cH P w) a vs):aJ P w H' h' a (.dK kvs):=⟨z,hd,vs,rel,dd⟩
theorem E4 {H':Hp}{Q:Unit->Shared->Prop}(hu:A.units+1 < cLine)(I:Inv X pins σ H s)(g:E2 H a y v H')(ry:RelV y u)(rv:RelV v r)(h:∀ s',Inv X pins σ H' s'->Q () s'):wpAny (model X.prog X.w) A (setItem (.ref a) u r) Q E s:=by
 rcases g with⟨kvs,k,e,ey,l,eH⟩ | ⟨kvs,k,b,e,ey,eb,l,eH⟩
 . subst ey eH
   obtain⟨z,hd,vs,rel,dd⟩:=Nh I.a5 e
   have hz:vs.length<=sizeLine:=by rw[<- rel.length];exact z
   have hl:(putK kvs k v).length<=sizeLine:=by have:=sk kvs k v;omega
   refine wpAny_setItem_pairs (hsz:=hz) (Ai ry) dd fun h' OW hs=>h _ ?_
   have he:∃ q,h'.get? a=some q:=let ⟨q,_,_,hq,_⟩:=OW;⟨q,hq⟩
   exact ml I (by rw[e];exact True.intro) hs he (GS hl hd (rel.put k rv) OW)
 . subst ey eH
   cases (show u=Value.ref b from ry)
   obtain⟨z,hd,xs,rel,dd⟩:=SH I.a5 e
   have hz:xs.length<=sizeLine:=by rw[<- Paired.length rel];exact z
   have hl:(putK kvs k v).length<=sizeLine:=by have:=sk kvs k v;omega
   refine wpAny_setItem_heap (hsz:=hz) (tupleKind_room_in1 hu) (x8 I.a5 eb) dd fun h' OW hs=>h _ ?_
   obtain⟨q,es,ep,hq,h2,h3,h4,_,h5⟩:=OW
   refine ml I (by rw[e];exact True.intro) hs ⟨q,hq⟩ ⟨hl,hd,_,(rel.put k eb rv).keeps fun c ys ec=>?_,q,es,ep,hq,h2,h3,h4,h5⟩
   rw[ag (RO ec e (fun z=>nomatch z))]
   exact ec
end
noncomputable def K2 (i:Expr):Prop:=∀ ov iv,subscripted i false ov iv=operate [ov,iv] (getItem ov iv)
theorem K3 {prog:Program}{w:World}{A:Around}{E:Value->Shared->Prop}{s:Shared}{env:Env}{value slice:Expr}{pos:Pos}{T id:String}{Q:Value->Shared->Prop}(hl:typeLookup (.type T) "__getitem__"=pure (some (.builtin id)))(hs:K2 slice)(h:wpAny (model prog w) A (eval value env) (fun o s₁=>wpAny (model prog w) A (eval slice env) (fun i s₂=>s₂.TypeIs o T/\wpAny (model prog w) A (getItem o i) Q E s₂) E s₁) E s):wpAny (model prog w) A (eval (.Subscript value slice pos) env) Q E s:=by
 refine Subscript_ (wpAny_mono h (fun o s₁ h₁=>wpAny_mono h₁ (fun i s₂ h₂=>?_) fun _ _ x=>x) fun _ _ x=>x)
 obtain⟨hT,h₂⟩:=h₂
 unfold subscriptTail
 refine wpAny_bind ?_
 rw[getitemInPython_of_ne hT.not_modules]
 refine wpAny_bind (wpAny_specialOf hT hl ?_)
 have fin:wpAny (model prog w) A (subscripted slice false o i) (fun r s₃=>wpAny (model prog w) A (letTemporaryGo value o r >>= fun _=>pure r) Q E s₃) E s₂:=by
   rw[hs o i]
   exact wpAny_operating (wpAny_mono h₂ (fun r s₃ h₃=>wpAny_bind (wpAny_letTemporaryGo (wpAny_pure h₃))) fun _ _ x=>x)
 first
   | exact wpAny_pure (wpAny_bind fin)
   | exact wpAny_bind (wpAny_pure (wpAny_bind fin))
   | exact wpAny_bind fin
theorem Aj {X:Cx}{pins:List (Addr×Obj)}{σ:St}{H:Hp}{s:Shared}{a:Addr}{y:V}{o:Option V}(I:Inv X pins σ H s)(g:sI H a y o):s.TypeIs (.ref a) "dict":=by
 rcases g with⟨kvs,k,e,_,_⟩ | ⟨kvs,k,b,e,_,_,_⟩
 . obtain⟨_,_,vs,_,dd⟩:=sq I.a5 e
   exact dd.typeIs
 . obtain⟨_,_,xs,_,dd⟩:=Dz I.a5 e
   exact dd.typeIs
noncomputable def SI (td ty:TE):TE:=fun σ H Q=>td σ H fun x H1=>ty σ H1 fun y H2=>∃ a v,x=.ref a/\sI H2 a y (some v)/\Q v H2
noncomputable def Wv (ty td:TE):TE:=fun σ H Q=>ty σ H fun y H1=>td σ H1 fun x H2=>∃ a o,x=.ref a/\sI H2 a y o/\Q (.bl o.isSome) H2
noncomputable def DA (ty td:TE):TE:=fun σ H Q=>ty σ H fun y H1=>td σ H1 fun x H2=>∃ a o,x=.ref a/\sI H2 a y o/\Q (.bl (!o.isSome)) H2
noncomputable def SJ (td ty tv:TE):TS:=fun D σ H=>tv σ H fun v H1=>td σ H1 fun x H2=>ty σ H2 fun y H3=>∃ a H4,x=.ref a/\E2 H3 a y v H4/\D.nx σ H4
section
variable {X:Cx}{o i value:Expr}{pos pos':Pos}{td ty tv:TE}
theorem DB (hu:X.A.units+1 < cLine)(ho:PE X o td)(hi:PE X i ty)(hs:K2 i):PE X (.Subscript o i pos) (SI td ty):=by
 intro pins s σ H Q I h
 refine K3 PySem.F.slot_dict_getitem.lookup hs (bX (ho pins s σ H _ I h) fun u s1 ⟨x,H1,I1,rx,q1⟩=>bX (hi pins s1 σ H1 _ I1 q1) fun iv s2 ⟨y,H2,I2,ry,a,v,ex,g,q2⟩=>?_)
 subst ex
 obtain rfl:u=Value.ref a:=rx
 exact⟨Aj I2 g,E3 hu I2 g ry fun w' s3 I3 Gx=>⟨v,H2,I3,Gx,q2⟩⟩
theorem xl (hu:X.A.units+1 < cLine)(hi:PE X i ty)(ho:PE X o td):PC X .NotIn i o (DA ty td):=by
 intro pins s σ H Q I h
 refine bX (hi pins s σ H _ I h) fun iv s1 ⟨y,H1,I1,ry,q1⟩=>bX (ho pins s1 σ H1 _ I1 q1) fun u s2 ⟨x,H2,I2,rx,a,ov,ex,g,q2⟩=>?_
 subst ex
 obtain rfl:u=Value.ref a:=rx
 exact K1 hu I2 g ry fun s3 I3=>⟨.bl (!ov.isSome),H2,I3,rfl,q2⟩
theorem DC (hu:X.A.units+1 < cLine)(ho:PE X o td)(hi:PE X i ty)(hv:PE X value tv)(hs:swapsWith value (some (.Subscript o i pos')) pos.line X.env=pure false):PS X (.Assign [.Subscript o i pos'] value pos) (SJ td ty tv):=by
 intro pins s σ H D I h
 refine wpAny_Assign_Subscript (bX (hv pins s σ H _ I h) fun r s1 ⟨v,H1,I1,rv,q1⟩=>bX (ho pins s1 σ H1 _ I1 q1) fun u s2 ⟨x,H2,I2,rx,q2⟩=>bX (hi pins s2 σ H2 _ I2 q2) fun iv s3 ⟨y,H3,I3,ry,a,H4,ex,g,q3⟩=>?_) hs
 subst ex
 obtain rfl:u=Value.ref a:=rx
 exact E4 hu I3 g ry rv fun s4 I4=>⟨σ,H4,I4,q3⟩
end
theorem Ak {P:Program}{w:World}{H:Hp}(h:Heap)(hb:sysModules < h.objs.size):aJ P w H (h.push { cls:=.type "dict",data:=.dict #[]}) h.objs.size (.dK []):=
 ⟨Nat.zero_le _,beq_eq_false_iff_ne.mpr (Ne.symm (Nat.ne_of_lt hb)),[],.nil,Heap.DictOf.new h⟩
noncomputable def OX:TE:=fun _ H Q=>∀ p,H p=none->Q (.ref p) (upd H p (.dK []))
section
variable {X:Cx}{pos:Pos}
theorem Al:PE X (.Dict [] [] pos) OX:=fun pins s σ H Q I h=>
 wpAny_Dict_empty ⟨.ref s.heap.objs.size,_,I.laid (a:=s.heap.objs.size) (o:=.dK []) (t':=s.toks) (fun _ _ q=>Heap.get?_push_of_some _ q) (Nat.le_refl _) (Ak s.heap I.big),rfl,h _ (I.a5.fresh (Nat.le_refl _))⟩
end
structure M1 (X:Cx)(o:Expr)(m:Str)(apos:Pos)(e:Expr)(bW:Pos):Prop where
 base:attributeBase o m X.env (eval o X.env)=eval o X.env
 few:((backTo bW (starEach [e] X.env)).all (fun x=>!x.1) && (backToKw bW (keywordEach [] X.env)).all (fun x=>x.1.isSome)
   && decide (([e]:List Expr).length+([]:List Keyword).length+(if ([]:List Keyword).isEmpty then 0 else 1) < 30))=true
 line:(apos.endLine == bW.line)=true
 trees:backTo bW (starEach [e] X.env)=[(false,eval e X.env)]
structure M2 (X:Cx)(o:Expr)(m:Str)(apos:Pos)(e f:Expr)(bW:Pos):Prop where
 base:attributeBase o m X.env (eval o X.env)=eval o X.env
 few:((backTo bW (starEach [e,f] X.env)).all (fun x=>!x.1) && (backToKw bW (keywordEach [] X.env)).all (fun x=>x.1.isSome)
   && decide (([e,f]:List Expr).length+([]:List Keyword).length+(if ([]:List Keyword).isEmpty then 0 else 1) < 30))=true
 line:(apos.endLine == bW.line)=true
 trees:backTo bW (starEach [e,f] X.env)=[(false,eval e X.env),(false,eval f X.env)]
end L2
namespace Att
open PySem PySem.W PySem.Calls PyProof.Rows
theorem sJ {P:Params}{h:Heap}:∀ (ns:List Int) (vs:List Value),WellAll P h vs (ns.map WData.int)->IntsAre vs ns:=by
 intro ns
 induction ns with
 | nil=>
   intro vs w
   rw[List.map_nil] at w
   cases w
   exact .nil
 | cons n ns ih=>
   intro vs w
   rw[List.map_cons] at w
   cases w with
   | cons a b=>
     cases a
     exact .cons _ _ (ih _ b)
theorem E5 {l:OpenLaw}{n:Nat}(hn:l.most=some n){P:Params}{h:Heap}{args:List WData}{vals:List Value}(K4:l.row.toRowW.claim.pre args=true)(OY:WellAll P h vals args):∃ a vs ns,vals=[Value.ref a]/\args=[WData.list (ns.map WData.int)]/\h.get? a=some { cls:=.type "list",data:=.seq vs.toArray}/\IntsAre vs ns/\ns.length<=n:=by
 have hsh:WShape.hasAll [] args [.list .int]=true:=(pre_splitW K4).1
 have hc:l.pre.holds [] { args:=args}=true:=(pre_splitW K4).2
 obtain⟨d,r,rfl,h1,h2⟩:=hasAllW_cons hsh
 obtain rfl:=hasAllW_nil h2
 obtain⟨xs,rfl,h3⟩:=hasW_list h1
 obtain⟨ns,rfl⟩:=items_int h3
 have hlen:ns.length<=n:=by
   unfold OpenLaw.pre at hc
   have h4:(WTm.not (.lt (.lit (.int (n:Int))) (.len (.arg 0)))).holds [] { args:=[.list (ns.map .int)]}=true:=by
     have h4:=(holds_andW hc).1
     rw[hn] at h4
     exact h4
   have h5:=condW_of h4 (w_not (w_lt w_lit (w_len_list (w_arg rfl))))
   rw[List.length_map] at h5
   refine Nat.le_of_not_lt fun q=>?_
   have q':(n:Int) < ((ns.length:Nat):Int):=by omega
   first
     | (rw[decide_eq_true q'] at h5;exact absurd h5 (by decide))
     | (simp at h5;omega)
 cases OY with
 | cons w1 w2=>
   cases w2
   cases w1 with
   | list ho Ww=>exact⟨_,_,ns,rfl,rfl,ho,sJ ns _ Ww,hlen⟩
theorem E6 (l:OpenLaw)(args:List WData):l.row.toRowW.claim.post args (.bool true) args=true:=
 postW_of (r:=l.row.toRowW) (X:=(true == true))
   (show WShape.has [] (.bool true) .bool=true by first | rfl | decide | simp[WShape.has,WShape.arms,WShape.armsAll])
   (show(WTm.eq .res (.lit (.bool true))).value [] { args:=args,res:=some (.bool true),after:=args}=some (.bool (true == true)) from w_eq_bool (w_res rfl) w_lit) rfl
theorem Am {l:OpenLaw}{n:Nat}{q:Program}{loose:List Str}{XP:(Str->Option Value)->Heap->Prop}{YP:World->Heap->Prop}{d:DefRec}(hn:l.most=some n)(SK:d.params.defaults=[])(call:∀ (w:World) (s₀ s₁:Shared) (mg mb:Str->Option Value) (fa:Addr) (o:Obj) (pm cd doc:Value) (a:Addr) (vs:List Value) (ns:List Int),Ground q loose [] XP w s₀ mg mb s₁.heap->YP w s₁.heap->s₁.heap.get? fa=some o->o.data=.func (docDef d.name d.params d.body d.scope pm cd doc)->s₁.heap.CodeRec cd d.name->mg d.name=some (.ref fa)->s₁.heap.get? a=some { cls:=.type "list",data:=.seq vs.toArray}->IntsAre vs ns->ns.length<=n->s₁.gens=#[]->codeAny (model l.prog w) callerA (.call (.ref fa) ⟨[.ref a],[]⟩) (fun r s'=>r=.ok (.ret (.bool true))/\OldK s₁.heap s'.heap/\s'.os=s₁.os/\AllBare s'.gens) s₁):WalkO q loose XP YP l.row.toRowW d [] (fun f vs=>PySem.call f vs):=by
 intro w s₀ s₁ mg mb G Y fa o pm cd doc dV kV ho hd lO hD SM hg args vals as K4 aaq Ni OY hlo
 obtain rfl:dV=.none:=Dflts.none hD SK
 obtain rfl:kV=.none:=Dflts.noKw hD
 obtain⟨a,vs,ns,rfl,rfl,OZ,hints,hlen⟩:=E5 hn K4 OY
 refine enter_call (codeAny_mono (call w s₀ s₁ mg mb fa o pm cd doc a vs ns G Y ho (fd_plain hd) lO SM OZ hints hlen hg) fun r s' hq=>?_)
 obtain⟨rfl,h2,h3,h4⟩:=hq
 exact⟨.inl ⟨.bool true,.bool true,[],rfl,fun _=>rfl,.bool true,E6 l _,fun _=>⟨List.Pairwise.nil,fun _ hm=>(nomatch hm)⟩⟩,h2,h3,h4⟩
end Att
namespace L2
open PySem PySem.Spec PyProof.Rows
theorem lS:∀ {vs:List Value} {ns:List Int},IntsAre vs ns->Vals (ns.map V.int) vs
 | _,_,.nil=>.nil
 | _,_,.cons n t h=>.cons ⟨t,rfl⟩ (lS h)
noncomputable def K5 (H:Hp):Prop:=∀ b,H b=none\/∃ o xs,H b=some (.bC o (.lst xs))
theorem GU {P:Program}{w:World}{K:W.Frag}{mg mb:Str->Option Value}{CX:q9}{k:Nat}{fa a:Addr}{fd:FuncData}{x:Str}{sp:Sp}{s₁:Shared}{vs:List Value}{ns:List Int}(KX:K.In s₁.heap)(Gb:s₁.heap.Ns mainGlobals mg)(hb:s₁.heap.Ns builtinsNs mb)(hbb:∀ x:Str,x≠"__name__"->mb x=bootBuiltins x)(Wx:s₁.heap.NoLimit)(hg:s₁.gens=#[])(ha:s₁.heap.get? a=some { cls:=.type "list",data:=.seq vs.toArray})(hi:IntsAre vs ns)(hl:ns.length<=sizeLine)(hr:eC k callerA)(F:∀ base:Heap,K.In base->base.Ns mainGlobals mg->jx P w K mg base CX k fa fd [x] sp)(SN:∀ (s:Shared) (u:Value),BindsTo s fd ⟨[u],[]⟩ [(x,u)])(Nf:∀ H:Hp,K5 H->mh K H a (ns.map V.int)->sp [.ref a] H (fun v _=>v=.bl true) fun _ _ _=>False)(SO:∀ H e s',CX [] H s₁ (fun _ _ _=>False) e s'->False):codeAny (model P w) callerA (.call (.ref fa) ⟨[.ref a],[]⟩) (fun r s'=>r=.ok (.ret (.bool true))/\OldK s₁.heap s'.heap/\s'.os=s₁.os/\AllBare s'.gens) s₁:=by
 have rv:=lS hi
 have Wy:=hi.length
 have core:∀ H:Hp,K5 H->mh K H a (ns.map V.int)->qb P w H s₁.heap->(∀ b,H b≠none->b=a)->(H a≠none->K.lookup a=none) ->
     codeAny (model P w) callerA (.call (.ref fa) ⟨[.ref a],[]⟩) (fun r s'=>r=.ok (.ret (.bool true))/\OldK s₁.heap s'.heap/\s'.os=s₁.os/\AllBare s'.gens) s₁:=by
   intro H hO hS a5 hA hK
   have DD:∀ {b:Addr} {o:Obj},s₁.heap.get? b=some o->H b=none->(xW s₁.heap H).get? b=some o:=fun e n=>Gn e n
   have Sx:∀ {b:Addr} {o:Obj} {es:Array DictEntry} {ep:Nat},s₁.heap.get? b=some o->o.data=.dict es ep->H b=none:=fun {b o es ep} e d=>by
     cases q:H b with
     | none=>rfl
     | some u=>
       have e':b=a:=hA b (by rw[q];simp)
       subst e'
       rw[ha] at e;cases e
       have d':Data.seq vs.toArray _=Data.dict es ep:=d
       cases d'
   have Vk:∀ {b:Addr} {m:Str->Option Value},s₁.heap.Ns b m->(xW s₁.heap H).Ns b m:=fun {b m} ⟨o,es,ep,e,d,r⟩=>⟨o,es,ep,DD e (Sx e d),d,r⟩
   have YM:K.In (xW s₁.heap H):=fun b o e=>DD (KX b o e) (by
     cases q:H b with
     | none=>rfl
     | some u=>
       have e':b=a:=hA b (by rw[q];simp)
       subst e'
       rw[hK (by rw[q];simp)] at e;cases e)
   have hM:Mod K mg (xW s₁.heap H):=⟨YM,Vk Gb,⟨mb,Vk hb,hbb⟩,let ⟨mc,h1,h2⟩:=Wx;⟨mc,Vk h1,h2⟩⟩
   have e0:z9 P w K mg (xW s₁.heap H) callerA [] s₁ H:=⟨rfl,hM,fun b o e=>Kx e,Nat.le_of_eq (EI _ _),trivial,fun b hb=>absurd (show b∈([]:List Addr) from hb) (by simp),a5,.of_eq hg⟩
   refine codeAny_mono ((F _ YM (Vk Gb)).run callerA [] s₁ H ⟨[.ref a],[]⟩ [.ref a] [.ref a] _ _ hr e0 (SN s₁ (.ref a)) (.cons rfl .nil) (Nf H hO hS)) fun r s' h=>?_
   cases r with
   | error e=>exact(SO H e s' h).elim
   | ok fl=>
     cases fl with
     | next=>exact False.elim h
     | brk=>exact False.elim h
     | cont=>exact False.elim h
     | ret u=>
       obtain⟨v,H',os,bare,un,Wz,r',q⟩:=h
       have q':v=.bl true:=q
       subst q'
       obtain rfl:u=Value.bool true:=r'
       refine⟨rfl,OldK.of_keep fun b o e=>?_,os,bare⟩
       cases q:H b with
       | none=>exact un.keep b o e q (by intro z;exact absurd (show b∈([]:List Addr) from z) (by simp)) (by simp)
       | some u=>
         rcases hO b with z | ⟨ob,xs,z⟩
         . rw[q] at z;cases z
         . have z2:=un.xV b ob _ z
           obtain⟨e1,_⟩:=a5 b _ z
           obtain⟨e2,_⟩:=Wz b _ z2
           rw[e] at e1;cases e1
           exact e2
 cases hk:K.lookup a with
 | some o=>
   have e:=KX a o hk
   rw[ha] at e
   cases e
   refine core (fun _=>none) (fun _=>.inl rfl) (.inr ⟨_,vs.toArray,_,hk,rfl,rfl,rfl,by rw[List.size_toArray,Wy];exact hl,by simpa using rv⟩) (fun b u z=>by have z':(none:Option HO)=some u:=z;cases z') (fun b z=>absurd rfl z) fun z=>absurd rfl z
 | none=>
   refine core (fun b=>if b=a then some (.bC { cls:=.type "list",data:=.seq vs.toArray} (.lst (ns.map V.int))) else none) (fun b=>?_) (.inl (.inr (.inl ⟨{ cls:=.type "list",data:=.seq vs.toArray},if_pos rfl⟩))) (fun b u z=>?_) (fun b z=>?_) fun _=>hk
   . by_cases hb:b=a
     . exact .inr ⟨_,_,if_pos hb⟩
     . exact .inl (if_neg hb)
   . by_cases hb:b=a
     . have z':=(if_pos hb).symm.trans z
       cases z'
       subst hb
       exact⟨ha,by rw[List.length_map];exact hl,vs,_,rv,ha⟩
     . have z':=(if_neg hb).symm.trans z
       cases z'
   . by_cases hb:b=a
     . exact hb
     . exact absurd (if_neg hb) z
noncomputable abbrev YN {K:W.Frag}{h:Heap}(_:K.In h):W.Frag:=K
theorem K6 {l:W.OpenLaw}{n k:Nat}{q:Program}{loose:List Str}{XP:(Str->Option Value)->Heap->Prop}{YP:World->Heap->Prop}{d:DefRec}{K:Params->W.Frag}{CX:World->q9}{sp:World->Sp}{x:Str}(hn:l.most=some n)(Ru:n<=sizeLine)(SK:d.params.defaults=[])(hr:eC k callerA)(hY:∀ (w:World) (h:Heap),YP w h->(K w.params).In h)(F:∀ (w:World) (mg:Str->Option Value) (fa:Addr) (h:Heap),(K w.params).In h->h.Ns mainGlobals mg->mg d.name=some (.ref fa)->∃ fd:FuncData,(∀ (s:Shared) (u:Value),BindsTo s fd ⟨[u],[]⟩ [(x,u)])/\∀ base:Heap,(K w.params).In base->base.Ns mainGlobals mg->jx l.prog w (K w.params) mg base (CX w) k fa fd [x] (sp w))(Nf:∀ (w:World) (H:Hp) (a:Addr) (ns:List Int),ns.length<=n->K5 H->mh (K w.params) H a (ns.map V.int)->sp w [.ref a] H (fun v _=>v=.bl true) fun _ _ _=>False)(SO:∀ (w:World) (H:Hp) (s:Shared) (e:Value) (s':Shared),CX w [] H s (fun _ _ _=>False) e s'->False):W.WalkO q loose XP YP l.row.toRowW d [] (fun f vs=>PySem.call f vs):=by
 refine Att.Am hn SK fun w s₀ s₁ mg mb fa o pm cd doc a vs ns G Y ho hd lO SM OZ hints hlen hg=>?_
 have KX:=hY w _ Y
 obtain⟨fd,hb,hF⟩:=F w mg fa _ KX G.T.g SM
 exact GU KX G.T.g G.T.b G.T.builtins G.T.nolimit hg OZ hints (Nat.le_trans hlen Ru) hr hF hb (fun H hO hS=>Nf w H a ns hlen hO hS) fun H e s'=>SO w H s₁ e s'
theorem GV {l:W.OpenLaw}{n k:Nat}{q:Program}{loose:List Str}{XP:(Str->Option Value)->Heap->Prop}{YP:World->Heap->Prop}{d:DefRec}{K:Params->W.Frag}{CX:q9}{sp:W.Frag->Sp}{x:Str}(hn:l.most=some n)(Ru:n<=sizeLine)(SK:d.params.defaults=[])(hr:eC k callerA)(hY:∀ (w:World) (h:Heap),YP w h->(K w.params).In h)(F:∀ (w:World) (mg:Str->Option Value) (fa:Addr) (h:Heap),(K w.params).In h->h.Ns mainGlobals mg->mg d.name=some (.ref fa)->∃ fd:FuncData,(∀ (s:Shared) (u:Value),BindsTo s fd ⟨[u],[]⟩ [(x,u)])/\∀ base:Heap,(K w.params).In base->base.Ns mainGlobals mg->jx l.prog w (K w.params) mg base CX k fa fd [x] (sp (K w.params)))(Nf:∀ (K:W.Frag) (H:Hp) (a:Addr) (ns:List Int),ns.length<=n->K5 H->mh K H a (ns.map V.int)->sp K [.ref a] H (fun v _=>v=.bl true) fun _ _ _=>False)(SO:∀ (H:Hp) (s:Shared) (e:Value) (s':Shared),CX [] H s (fun _ _ _=>False) e s'->False):W.WalkO q loose XP YP l.row.toRowW d [] (fun f vs=>PySem.call f vs):=
 K6 (K:=K) (CX:=fun _=>CX) (sp:=fun w=>sp (K w.params)) hn Ru SK hr hY F (fun w H a ns h1 h2 h3=>Nf (K w.params) H a ns h1 h2 h3) fun _ H s e s'=>SO H s e s'
noncomputable def inClass (s:Stmt)(j:Nat):Stmt:=match s with
 | .ClassDef _ _ _ body _ _ _ _ _ _ _=>body.getD j (.Pass ⟨0,0,0,0⟩)
 | _=>.Pass ⟨0,0,0,0⟩
noncomputable def b0 (s:Stmt):Arguments:=match s with
 | .FunctionDef _ a _ _ _ _ _ _ _ _=>a
 | _=>{ posonlyargs:=[],args:=[],vararg:=none,kwonlyargs:=[],kw_defaults:=[],kwarg:=none,defaults:=[]}
noncomputable def aD (s:Stmt):List Stmt:=match s with
 | .FunctionDef _ _ b _ _ _ _ _ _ _=>b
 | _=>[]
noncomputable def af (s:Stmt):Scope:=match s with
 | .FunctionDef _ _ _ _ _ _ sc _ _ _=>sc
 | _=>{ kind:=.function,names:=[],isGenerator:=false,isCoroutine:=false}
noncomputable abbrev YO:q9:=fun _ _ _ _ _ _=>False
noncomputable abbrev E0:XK:=fun _ _ _=>False
structure Rx (K:W.Frag)(x qual:Str)(st:Stmt)(f:Addr)(fd:FuncData):Prop where
 ex:∃ (oc:Value) (od:Option Addr) (kV doc pm:Value) (an:Option Addr) (bg ct:Value) (xi:Array (Option Value)),
   fd=W.fnOf x qual (b0 st) (aD st) (af st) .none kV doc pm an bg ct/\K.lookup f=some ⟨oc,od,.func fd,xi⟩/\W.codeIn K bg qual=true
 kp:W.keepIn K (.ref f)=true
section
variable {K:W.Frag}
theorem Rx.binds {x qual:Str}{st:Stmt}{f:Addr}{fd:FuncData}{ps:List Str}(F:Rx K x qual st f fd)(h:∀ (kV doc pm:Value) (an:Option Addr) (bg ct:Value) (us:List Value),us.length=ps.length->bindArgs (W.fnOf x qual (b0 st) (aD st) (af st) .none kV doc pm an bg ct) ⟨us,[]⟩=pure (ps.zip us)):Binds K fd ps []:=by
 obtain⟨oc,od,kV,doc,pm,an,bg,ct,xi,rfl,lk,lO⟩:=F.ex
 exact .all (h kV doc pm an bg ct)
theorem uN {x qual:Str}{st:Stmt}{f:Addr}{oc:Value}{od an:Option Addr}{xi:Array (Option Value)}{kV doc pm bg ct:Value}(l:K.lookup f=some ⟨oc,od,.func (W.fnOf x qual (b0 st) (aD st) (af st) .none kV doc pm an bg ct),xi⟩)(c:W.codeIn K bg qual=true)(k:W.keepIn K (.ref f)=true):Rx K x qual st f (W.fnOf x qual (b0 st) (aD st) (af st) .none kV doc pm an bg ct):=⟨⟨oc,od,kV,doc,pm,an,bg,ct,xi,rfl,l,c⟩,k⟩
end
theorem rg {n:Nat}(h:n<=1000):n < sizeLine:=Nat.lt_of_le_of_lt h (by decide)
theorem An {A B:Prop}(h:B):if false=true then A else B:=by
 rw[if_neg Bool.false_ne_true]
 exact h
theorem Ao {A B:Prop}(h:A):if true=true then A else B:=by
 rw[if_pos rfl]
 exact h
noncomputable def aE (H H':Hp):Prop:=∀ b o,H b=some o->H' b=some o
theorem aE.refl (H:Hp):aE H H:=fun _ _ h=>h
theorem aE.trans {H H1 H2:Hp}(a:aE H H1)(b:aE H1 H2):aE H H2:=fun c o h=>b c o (a c o h)
theorem aE.free {H H':Hp}(e:aE H H'){l:Addr}(h:H' l=Option.none):H l=Option.none:=by
 cases q:H l with
 | none=>rfl
 | some o=>
   rw[e l o q] at h
   cases h
theorem aE.seq {K:W.Frag}{H H':Hp}{a:Addr}{xs:List V}(e:aE H H')(h:mh K H a xs):mh K H' a xs:=by
 rcases h with(h | ⟨o,h⟩ | ⟨_,_,_,_,h⟩ | ⟨o,h⟩) | h
 . exact .inl (.inl (e _ _ h))
 . exact .inl (.inr (.inl ⟨o,e _ _ h⟩))
 . cases h
 . exact .inl (.inr (.inr (.inr ⟨o,e _ _ h⟩)))
 . exact .inr h
end L2
set_option maxHeartbeats 4000000
namespace Sg
open PySem PySem.Spec PyProof.Rows L2 PySem.Builtin PySem.Builtin.Getset_descriptor
noncomputable def Ce (h:Heap)(x D:Addr):Prop:=∃ ox,h.get? x=some ox/\ox.cls=.ref D
theorem Ce.ty {M:Model}{h:Heap}{x D:Addr}(I:Ce h x D):W.Looks M h (typeOf (.ref x)) (.ref D):=by
 obtain⟨ox,h1,h2⟩:=I
 rw[<- h2]
 exact(W.Looks.ld h1).andThen .now
theorem O0 {prog:Program}{w:World}{A:Around}{E:Value->Shared->Prop}{K:W.Frag}{s:Shared}{x D:Addr}{name:Str}{tk:Tok}{fill expr:Bool}{Q:Value->Shared->Prop}{r:Builtin.ObjectAttr.Found}(X:K.In s.heap)(I:Ce s.heap x D)
   (hga:W.findIn K (.ref D) "__getattribute__"=some (some (.builtin "BaseException.__getattribute__"))) (hgt:W.findIn K (.ref D) "__getattr__"=some none) (tF:W.mroIn K D (.type "BaseException")=some true)
   (hf:W.Looks (model prog w) s.heap (Builtin.ObjectAttr.find (.ref x) (.ref D) name) r)
   (h:match r with
     | .bind g a=>wpAny (model prog w) A.in1 (call g [a,.ref x,.ref D]) (fun v s'=>wpAny (model prog w) A (handedOut v) Q E s') (fun _ _=>False) s
     | .value v=>wpAny (model prog w) A (handedOut v) Q E s
     | .missing=>False) :
   wpAny (model prog w) A (getAttrBy (.ref x) (.str name tk) fill expr) Q E s:=by
 obtain⟨hh,gg,d,t,os⟩:=s
 have L0:=I.ty (M:=model prog w)
 have L1:=W.looks_findIn (M:=model prog w) X hga
 have L2':=W.looks_findIn (M:=model prog w) X hgt
 have L4:=W.looks_mroIn (M:=model prog w) X tF
 have f3:=PySem.F.excAttr_ValueError.ga.bind (.ref x)
 unfold getAttrBy
 refine wpAny_holding (wpAny_bind (L0.at (wpAny_bind (L1.at ?_))))
 have O1:(Value.builtin "BaseException.__getattribute__" == Value.builtin "object.__getattribute__")=false:=by
   decide +kernel
 simp only[O1,Bool.and_false,Bool.false_eq_true,if_false]
 unfold getAttrByItsOwn hookBefore
 refine wpAny_bind (L2'.at ?_)
 refine wpAny_bind (wpAny_attempt (wpAny_holding ?_))
 unfold callGetattribute boundAndCalled
 have hx0:(expr && onTheHeap (Value.builtin "BaseException.__getattribute__"))=false:=by
   cases expr <;> rfl
 rw[hx0,f3]
 simp only[Bool.false_eq_true,if_false]
 refine wpAny_bind (wpAny_pure ?_)
 have hbi:W.Looks (model prog w) hh (isInstance (.ref x) (.type "BaseException")) true:=L0.andThen L4
 refine wpAny_call (codeAny_call_builtin PySem.F.excAttr_ValueError.ga.plain PySem.F.entry_bexc_ga (@W.check_slot (model prog w) _ _ _ "BaseException.__getattribute__" "BaseException" "__getattribute__" (.ref x) [.str name tk] [] _ (by decide +kernel) (by decide +kernel) hbi (PySem.F.args_bexc_ga _ _) ?_))
 unfold Builtin.«object.__getattribute__»
 refine wpAny_bind (wpAny_pure ?_)
 show wpAny (model prog w) A.in1 (Builtin.ObjectAttr.attrName (.str name tk) >>= _) _ _ _
 unfold Builtin.ObjectAttr.attrName
 refine wpAny_bind (wpAny_pure (wpAny_bind (L0.at (wpAny_bind (hf.at ?_)))))
 cases r with
 | bind g a=>
   show wpAny (model prog w) A.in1 (Builtin.ObjectAttr.bindTo g a (.ref x) (.ref D)) _ _ _
   unfold Builtin.ObjectAttr.bindTo
   show wpAny (model prog w) A.in1 (holding [a] (call g [a,.ref x,.ref D]) >>= ret) _ _ _
   exact wpAny_bind (wpAny_holding (wpAny_mono h (fun v s' z=>wpAny_pure z) fun _ _ z=>z.elim))
 | value v=>
   show wpAny (model prog w) A.in1 (ret v) _ _ _
   exact wpAny_pure h
 | missing=>exact h.elim
theorem K7 {prog:Program}{w:World}{A:Around}{K:W.Frag}{s:Shared}{x D:Addr}{tp:Value}{R:Result->Shared->Prop}(X:K.In s.heap)(I:Ce s.heap x D)(hm:W.mroIn K D (.type "object")=some true)(hR:R (.ok (.ret (.ref D))) s):codeAny (model prog w) A (.call (.builtin "getset_descriptor.__get__") ⟨[.builtin "object.__class__",.ref x,tp],[]⟩) R s:=by
 obtain⟨hh,g,dr,t,os⟩:=s
 have L0:=I.ty (M:=model prog w)
 have L1:=W.looks_mroIn (M:=model prog w) X hm
 have pl:=W.KF.slot_gs.plain
 have ent:=W.KF.entry_gs
 refine codeAny_call_builtin pl ent (W.KF.slot_gs.check _ _ _ _ _ _ _ _ W.KF.type_class (W.KF.args_gs _ _ _) ?_)
 unfold Builtin.«getset_descriptor.__get__» descrGet
 rw[W.dga_obj]
 refine wpAny_bind (wpAny_pure ?_)
 unfold descrGetter descrCheckInstance descrNameAndClass isInstance
 simp only[W.KF.owner_class]
 repeat lk
 refine⟨Code.quiet_builtin _ (by decide +kernel),codeAny_builtin W.KF.entry_class ?_⟩
 unfold Builtin.«object.__class__» shownTypeOf
 repeat lk
 exact hR
structure Ry (K:W.Frag)(C:Addr):Prop where
 hc:(W.clsIn K C).isSome=true
 ga:W.findIn K (.ref C) "__getattribute__"=some (some (.builtin "BaseException.__getattribute__"))
 gt:W.findIn K (.ref C) "__getattr__"=some none
 be:W.mroIn K C (.type "BaseException")=some true
 ha:W.findIn K (.ref C) "__class__"=some (some (.builtin "object.__class__"))
 hn:W.specialIn K (.builtin "object.__class__") "__get__"=some (some (.builtin "getset_descriptor.__get__"))
 OI:W.takesIn K (.builtin "object.__class__")=some true
 hm:W.mroIn K C (.type "object")=some true
theorem GW {M:Model}{K:W.Frag}{h:Heap}{x C:Addr}(X:K.In h)(T:Ry K C):W.Looks M h (Builtin.ObjectAttr.find (.ref x) (.ref C) "__class__") (.bind (.builtin "getset_descriptor.__get__") (.builtin "object.__class__")):=by
 refine(W.looks_findIn X T.ha).andThen ?_
 refine(W.looks_specialIn X T.hn:W.Looks M h (Builtin.ObjectAttr.getOf (some (.builtin "object.__class__"))) _).andThen ?_
 refine((W.looks_takesIn X T.OI).andThen .now:W.Looks M h (Builtin.ObjectAttr.dataDescriptor? (some (.builtin "object.__class__")) (some (.builtin "getset_descriptor.__get__"))) (some (.builtin "getset_descriptor.__get__",.builtin "object.__class__"))).andThen ?_
 exact W.Looks.tag .now
theorem Ap {K:W.Frag}{x D:Addr}(T:Ry K D):W.KitX K (.ref x) (.ref D) (fun h=>Ce h x D) where
 ty:=fun _ _ _ I=>I.ty
 it:=fun M h X _=>by
   obtain⟨cdD,KQ⟩:=Option.isSome_iff_exists.mp T.hc
   unfold W.clsIn at KQ
   split at KQ
   . rename_i u1 u2 u3 u4 WA
     intro A' Q' E' s' k q
     unfold isType loadHead
     exact wpAny_bind (wpAny_loadPart (k _ _ (X _ _ WA)) (wpAny_pure q))
   . cases KQ
 ne:=fun h tp dd aC n sl X htp=>by
   obtain⟨cdD,KQ⟩:=Option.isSome_iff_exists.mp T.hc
   refine Bool.eq_false_iff.mpr fun q=>?_
   have e:D=tp:=Value.ref.inj (beq_iff_eq.mp q)
   subst e
   unfold W.clsIn at KQ
   split at KQ
   . rename_i u1 u2 u3 u4 WA
     have z:=(X _ _ WA).symm.trans htp
     cases z
   . cases KQ
 ca:=fun {prog w A E Q s} X I k=>by
   unfold getAttr? getAttrBy?
   refine wpAny_bind (wpAny_mkText (wpAny_bind (wpAny_attempt ?_)))
   refine O0 (s:={ s with toks:=s.toks+1}) X I T.ga T.gt T.be (GW X T) ?_
   refine wpAny_call (K7 (s:={ s with toks:=s.toks+1}) X I T.hm ?_)
   exact W.handed_on rfl (wpAny_pure k)
end Sg
namespace Sg
open PySem PySem.Spec PyProof.Rows L2
noncomputable abbrev St:=L2.St
noncomputable def GX (h:Heap)(x C dx:Addr):Prop:=∃ ox,h.get? x=some ox/\ox.cls=.ref C/\ox.dict=some dx/\∃ vs,ox.data=.fields vs
theorem GX.of {h:Heap}{x C dx:Addr}(I:GX h x C dx):Ce h x C:=let ⟨ox,h1,h2,_⟩:=I;⟨ox,h1,h2⟩
inductive Dt where
 | cP
 | bl (b:Bool)
 | int (i:Int)
 | str (x:Str)
 | tup (ds:List Dt)
 | lst (ds:List Dt)
 | oh (ns:List Int)
 | eB (kvs:List (Key×Dt))
 | obj (C:Addr) (fs:List (Str×Dt))
 | ty (n:String)
 | cls (C:Addr)
 | xo (C:Addr)
 | pJ (kvs:List (Key×Dt))
 | BR (C:Addr) (fs:List (Str×Dt))
 | dn (kvs:List (Key×Dt))
 | memo (a:Addr) (ls:jL) (j n:Nat)
 | dH (a:Addr) (ls:jL) (j n:Nat)
 | tM (a:Addr) (ls:jL) (n:Nat)
 | uO (C:Addr) (fs:List (Str×Dt)) (gs:List (Nat->List (Key×FD))) (nm:List Str) (n:Nat)
 | ip (fd:FD)
 | lz (Nj:List (List Key×Int))
noncomputable def su (fs:List (Str×Dt))(nm:List Str)(a:Addr)(ls:jL)(n:Nat):List (Str×Dt):=fs ++ (List.range nm.length).map fun j=>(nm.getD j "",.memo a ls j n)
noncomputable def Known (H:Hp)(p:Addr)(f:Nat->List (Key×FD))(n:Nat):Prop:=∀ i,i < n->∃ q o kvs,H q=some (.kd (some (p,i)) o kvs)/\qU H kvs (f i)
noncomputable def bY (H:Hp)(a:Addr)(ls:jL):Prop:=H a=some (.memo ls)\/∃ ns,H a=some (.bA ls ns)
theorem Known.mono {H H':Hp}{p:Addr}{f:Nat->List (Key×FD)}{n:Nat}(e:∀ b u,H b=some u->H' b=some u)(h:Known H p f n):Known H' p f n:=fun i hi=>let ⟨q,o,kvs,h1,h2⟩:=h i hi;⟨q,o,kvs,e _ _ h1,h2.kp (.of e)⟩
theorem bY.mono {H H':Hp}{a:Addr}{ls:jL}(e:∀ b u,H b=some u->H' b=some u)(h:bY H a ls):bY H' a ls:=h.imp (e _ _) fun⟨ns,z⟩=>⟨ns,e _ _ z⟩
mutual
inductive Rep (K:W.Frag)(H:Hp):V->Dt->Prop
 | cP:Rep K H .cP .cP
 | bl (b:Bool):Rep K H (.bl b) (.bl b)
 | int (i:Int):Rep K H (.int i) (.int i)
 | str (x:Str):Rep K H (.str x) (.str x)
 | tup {a:Addr} {vs:List V} {ds:List Dt}:uC K H a vs->br K H vs ds->Rep K H (.ref a) (.tup ds)
 | lst {a:Addr} {vs:List V} {ds:List Dt}:H a=some (.lst vs)->br K H vs ds->Rep K H (.ref a) (.lst ds)
 | oh {a:Addr} {ns:List Int}:mh K H a (ns.map V.int)->Rep K H (.ref a) (.oh ns)
 | eB {a:Addr} {kvs:List (Key×V)} {kds:List (Key×Dt)}:H a=some (.dK kvs)->cI K H kvs kds->Rep K H (.ref a) (.eB kds)
 | obj {a C dx:Addr} {fs:List (Str×V)} {ds:List (Str×Dt)}:Rd H a (.ins C dx fs)->aX K H fs ds->Rep K H (.ref a) (.obj C ds)
 | ty (n:String):Rep K H (.ty n) (.ty n)
 | cls (C:Addr):Rep K H (.ref C) (.cls C)
 | xo {a C:Addr} {ph:Heap->Prop}:H a=some (.ext ph)->(∀ h,ph h->Ce h a C)->Rep K H (.ref a) (.xo C)
 | pJ {a:Addr} {ob:Obj} {kvs:List (Key×V)} {kds:List (Key×Dt)}:H a=some (.bC ob (.dK kvs))->cI K H kvs kds->Rep K H (.ref a) (.pJ kds)
 | BR {a C dx:Addr} {ph:Heap->Prop} {fs:List (Str×V)} {ds:List (Str×Dt)}:H a=some (.ext ph)->(∀ h,ph h->GX h a C dx)->H dx=some (.xd fs)->aX K H fs ds->Rep K H (.ref a) (.BR C ds)
 | dn {a:Addr} {tg:Option (Addr×Nat)} {ob:Obj} {kvs:List (Key×V)} {kds:List (Key×Dt)}:H a=some (.kd tg ob kvs)->cI K H kvs kds->Rep K H (.ref a) (.dn kds)
 | memo {a p:Addr} {ls:jL} {j n:Nat} {f:Nat->List (Key×FD)}:ls[j]?=some (p,f)->H a=some (.memo ls)->(p=a\/H p=some (.part a))->Known H p f n->Rep K H (.ref p) (.memo a ls j n)
 | dH {a p:Addr} {ls:jL} {j n:Nat} {f:Nat->List (Key×FD)}:ls[j]?=some (p,f)->bY H a ls->(p=a\/H p=some (.part a))->Known H p f n->Rep K H (.ref p) (.dH a ls j n)
 | tM {a:Addr} {ls:jL} {n:Nat}:(∀ (j:Nat) (p:Addr) (f:Nat->List (Key×FD)),ls[j]?=some (p,f)->Known H p f n)->Rep K H .cP (.tM a ls n)
 | uO {s a C dx:Addr} {fv:List (Str×V)} {fs:List (Str×Dt)} {gs:List (Nat->List (Key×FD))} {nm:List Str} {n:Nat} {ls:jL}:ls.map (·.2)=gs->Rd H s (.ins C dx fv)->aX K H fv (su fs nm a ls n)->Rep K H (.ref s) (.uO C fs gs nm n)
 | ip {v:V} {fd:FD}:Fz H v fd->Rep K H v (.ip fd)
 | lz {a:Addr} {Nj:List (List Key×Int)}:H a=some (.dT (Nj.map fun k=>(k.1,V.int k.2)))->Rep K H (.ref a) (.lz Nj)
inductive br (K:W.Frag)(H:Hp):List V->List Dt->Prop
 | nil:br K H [] []
 | cons {v:V} {d:Dt} {vs:List V} {ds:List Dt}:Rep K H v d->br K H vs ds->br K H (v::vs) (d::ds)
inductive cI (K:W.Frag)(H:Hp):List (Key×V)->List (Key×Dt)->Prop
 | nil:cI K H [] []
 | cons {k:Key} {v:V} {d:Dt} {vs:List (Key×V)} {ds:List (Key×Dt)}:Rep K H v d->cI K H vs ds->cI K H ((k,v)::vs) ((k,d)::ds)
inductive aX (K:W.Frag)(H:Hp):List (Str×V)->List (Str×Dt)->Prop
 | nil:aX K H [] []
 | cons {k:Str} {v:V} {d:Dt} {vs:List (Str×V)} {ds:List (Str×Dt)}:Rep K H v d->aX K H vs ds->aX K H ((k,v)::vs) ((k,d)::ds)
end
theorem fQ {H H':Hp}{a:Addr}{u:HO}(e:aE H H')(h:Rd H a u):Rd H' a u:=by
 rcases h with h | ⟨o,h⟩ | ⟨tg,o,kvs,h,z⟩ | ⟨o,h⟩
 . exact .inl (e _ _ h)
 . exact .inr (.inl ⟨o,e _ _ h⟩)
 . exact .inr (.inr (.inl ⟨tg,o,kvs,e _ _ h,z⟩))
 . exact .inr (.inr (.inr ⟨o,e _ _ h⟩))
theorem bN {K:W.Frag}{H H':Hp}{a:Addr}{xs:List V}(e:aE H H')(h:uC K H a xs):uC K H' a xs:=by
 rcases h with h | h
 . exact .inl (e _ _ h)
 . exact .inr h
mutual
theorem Rep.mono {K:W.Frag}{H H':Hp}(e:aE H H'):∀ {v:V} {d:Dt},Rep K H v d->Rep K H' v d
 | _,_,.cP=>.cP
 | _,_,.bl b=>.bl b
 | _,_,.int i=>.int i
 | _,_,.str x=>.str x
 | _,_,.tup h r=>.tup (bN e h) (br.mono e r)
 | _,_,.lst h r=>.lst (e _ _ h) (br.mono e r)
 | _,_,.oh h=>.oh (e.seq h)
 | _,_,.eB h r=>.eB (e _ _ h) (cI.mono e r)
 | _,_,.obj h r=>.obj (fQ e h) (aX.mono e r)
 | _,_,.ty n=>.ty n
 | _,_,.cls C=>.cls C
 | _,_,.xo h r=>.xo (e _ _ h) r
 | _,_,.pJ h r=>.pJ (e _ _ h) (cI.mono e r)
 | _,_,.BR h q g r=>.BR (e _ _ h) q (e _ _ g) (aX.mono e r)
 | _,_,.dn h r=>.dn (e _ _ h) (cI.mono e r)
 | _,_,.memo h1 h2 h3 h4=>.memo h1 (e _ _ h2) (h3.imp id fun z=>e _ _ z) (h4.mono e)
 | _,_,.dH h1 h2 h3 h4=>.dH h1 (h2.mono e) (h3.imp id fun z=>e _ _ z) (h4.mono e)
 | _,_,.tM h=>.tM fun j p f z=>(h j p f z).mono e
 | _,_,.uO h1 h2 h3=>.uO h1 (fQ e h2) (aX.mono e h3)
 | _,_,.ip h=>.ip (h.st fun b u q _=>e b u q)
 | _,_,.lz h=>.lz (e _ _ h)
theorem br.mono {K:W.Frag}{H H':Hp}(e:aE H H'):∀ {v:List V} {d:List Dt},br K H v d->br K H' v d
 | _,_,.nil=>.nil
 | _,_,.cons h r=>.cons (Rep.mono e h) (br.mono e r)
theorem cI.mono {K:W.Frag}{H H':Hp}(e:aE H H'):∀ {v:List (Key×V)} {d:List (Key×Dt)},cI K H v d->cI K H' v d
 | _,_,.nil=>.nil
 | _,_,.cons h r=>.cons (Rep.mono e h) (cI.mono e r)
theorem aX.mono {K:W.Frag}{H H':Hp}(e:aE H H'):∀ {v:List (Str×V)} {d:List (Str×Dt)},aX K H v d->aX K H' v d
 | _,_,.nil=>.nil
 | _,_,.cons h r=>.cons (Rep.mono e h) (aX.mono e r)
end
theorem br.length {K:W.Frag}{H:Hp}:∀ {v:List V} {d:List Dt},br K H v d->v.length=d.length
 | _,_,.nil=>rfl
 | _,_,.cons _ r=>congrArg (·+1) (br.length r)
theorem br.get {K:W.Frag}{H:Hp}:∀ {v:List V} {d:List Dt} {i:Nat} {x:Dt},br K H v d->d[i]?=some x->∃ y,v[i]?=some y/\Rep K H y x
 | _,_,_,_,.nil,e=>by simp at e
 | _,_,0,_,.cons h _,e=>by simp at e;subst e;exact⟨_,rfl,h⟩
 | _,_,i+1,x,.cons _ r,e=>by
   obtain⟨y,h1,h2⟩:=br.get (i:=i) (x:=x) r (by simpa using e)
   exact⟨y,by simpa using h1,h2⟩
theorem br.get' {K:W.Frag}{H:Hp}{v:List V}{d:List Dt}{i:Nat}{y:V}(r:br K H v d)(e:v[i]?=some y):∃ x,d[i]?=some x/\Rep K H y x:=by
 have hi:i < v.length:=(List.getElem?_eq_some_iff.mp e).1
 have Vl:i < d.length:=by rw[<- r.length];exact hi
 obtain⟨z,h1,h2⟩:=r.get (List.getElem?_eq_getElem Vl)
 rw[e] at h1;cases h1
 exact⟨_,List.getElem?_eq_getElem Vl,h2⟩
theorem br.append {K:W.Frag}{H:Hp}:∀ {v:List V} {d:List Dt} {v':List V} {d':List Dt},br K H v d->br K H v' d'->br K H (v ++ v') (d ++ d')
 | _,_,_,_,.nil,s=>s
 | _,_,_,_,.cons h r,s=>.cons h (br.append r s)
theorem br.take {K:W.Frag}{H:Hp}:∀ {v:List V} {d:List Dt} (n:Nat),br K H v d->br K H (v.take n) (d.take n)
 | _,_,0,_=>.nil
 | _,_,_+1,.nil=>.nil
 | _,_,n+1,.cons h r=>.cons h (br.take n r)
theorem br.set {K:W.Frag}{H:Hp}{y:V}{x:Dt}(q:Rep K H y x):∀ {v:List V} {d:List Dt} (n:Nat),br K H v d->br K H (v.set n y) (d.set n x)
 | _,_,_,.nil=>.nil
 | _,_,0,.cons _ r=>.cons q r
 | _,_,n+1,.cons h r=>.cons h (br.set q n r)
theorem aX.lookup {K:W.Frag}{H:Hp}{f:Str}:∀ {v:List (Str×V)} {d:List (Str×Dt)} {x:Dt},aX K H v d->d.lookup f=some x->∃ y,v.lookup f=some y/\Rep K H y x
 | _,_,_,.nil,e=>by simp at e
 | (k,v)::r,(_,d)::s,x,.cons h t,e=>by
   rw[List.lookup_cons] at e ⊢
   cases q:(f == k) with
   | true=>rw[q] at e;cases e;exact⟨v,rfl,h⟩
   | false=>rw[q] at e;exact aX.lookup t e
theorem aX.none_of {K:W.Frag}{H:Hp}{f:Str}:∀ {v:List (Str×V)} {d:List (Str×Dt)},aX K H v d->d.lookup f=none->v.lookup f=none
 | _,_,.nil,_=>rfl
 | (k,v)::r,(_,d)::s,.cons h t,e=>by
   rw[List.lookup_cons] at e ⊢
   cases q:(f == k) with
   | true=>rw[q] at e;cases e
   | false=>rw[q] at e;exact aX.none_of t e
theorem aX.length {K:W.Frag}{H:Hp}:∀ {v:List (Str×V)} {d:List (Str×Dt)},aX K H v d->v.length=d.length
 | _,_,.nil=>rfl
 | _,_,.cons _ r=>congrArg (·+1) (aX.length r)
theorem cI.length {K:W.Frag}{H:Hp}:∀ {v:List (Key×V)} {d:List (Key×Dt)},cI K H v d->v.length=d.length
 | _,_,.nil=>rfl
 | _,_,.cons _ r=>congrArg (·+1) (cI.length r)
structure bb (Hf H aH H':Hp):Prop where
 big:aE H H'
 bC:aE Hf aH
 sub:aE aH H'
 new:∀ a o,aH a=some o->(∃ o,Hf a=some o)\/H a=Option.none\/Kept o
theorem bb.refl {Hf H:Hp}(s:aE Hf H):bb Hf H Hf H:=⟨aE.refl _,aE.refl _,s,fun a o h=>.inl ⟨o,h⟩⟩
theorem bb.trans {Hf H Hf1 H1 bO H2:Hp}(a:bb Hf H Hf1 H1)(b:bb Hf1 H1 bO H2):bb Hf H bO H2:=
 ⟨a.big.trans b.big,a.bC.trans b.bC,b.sub,fun x o h=>by
   rcases b.new x o h with⟨o',h'⟩ | h' | h'
   . have e:=b.bC _ _ h'
     rw[h] at e;cases e
     exact a.new x o h'
   . exact .inr (.inl (a.big.free h'))
   . exact .inr (.inr h')⟩
theorem bb.ya {Hf H aH H':Hp}(g:bb Hf H aH H'){a:Addr}{u o:HO}(h:H a=some u)(nk:¬ Kept u)(q:aH a=some o):∃ o,Hf a=some o:=by
 rcases g.new a o q with z | z | z
 . exact z
 . rw[h] at z;cases z
 . have e:=g.big _ _ h
   rw[g.sub _ _ q] at e;cases e
   exact absurd z nk
theorem bI {H:Hp}{p:Addr}{o:HO}(n:H p=Option.none):aE H (upd H p o):=fun b u e=>by
 rw[ag (aw e n)];exact e
theorem cS {Hf H:Hp}{p:Addr}{o:HO}(s:aE Hf H):aE (upd Hf p o) (upd H p o):=fun b u e=>by
 by_cases hb:b=p
 . subst hb;rw[ak] at e ⊢;exact e
 . rw[ag hb] at e ⊢;exact s _ _ e
theorem xm {Hf H:Hp}{p:Addr}{o:HO}(s:aE Hf H)(n:Hf p=Option.none):aE Hf (upd H p o):=fun b u e=>by
 rw[ag (aw e n)];exact s _ _ e
theorem bb.alloc {Hf H:Hp}{p:Addr}{o:HO}(s:aE Hf H)(n:H p=Option.none):bb Hf H (upd Hf p o) (upd H p o):=
 ⟨bI n,bI (s.free n),cS s,fun a u h=>by
   by_cases hb:a=p
   . subst hb;exact .inr (.inl n)
   . rw[ag hb] at h;exact .inl ⟨u,h⟩⟩
theorem bb.dX {Hf H:Hp}{p:Addr}{o:HO}(s:aE Hf H)(n:H p=Option.none):bb Hf H Hf (upd H p o):=
 ⟨bI n,aE.refl _,xm s (s.free n),fun a u h=>.inl ⟨u,h⟩⟩
inductive Own where
 | lst (ds:List Dt)
 | eB (kds:List (Key×Dt))
 | obj (C:Addr) (fs:List (Str×Dt))
 | Aq (x:Addr) (C:Addr) (fs:List (Str×Dt))
 | rh (C:Addr) (fs:List (Str×Dt)) (gs:List (Nat->List (Key×FD))) (nm:List Str) (n:Nat)
 | yb (x:Addr) (C:Addr) (fs:List (Str×Dt)) (gs:List (Nat->List (Key×FD))) (nm:List Str) (n:Nat)
 | lz (Nj:List (List Key×Int))
inductive Slot where
 | bw
 | val (d:Dt)
 | own (o:Own)
noncomputable def gC (K:W.Frag)(Hf H:Hp)(a:Addr):Own->Prop
 | .lst ds=>∃ vs,H a=some (.lst vs)/\br K Hf vs ds
 | .eB kds=>∃ kvs,H a=some (.dK kvs)/\cI K Hf kvs kds
 | .obj C ds=>∃ dx fs,H a=some (.ins C dx fs)/\aX K Hf fs ds
 | .Aq x C ds=>a=x/\∃ dx fs,H a=some (.ins C dx fs)/\aX K Hf fs ds
 | .rh C ds gs nm n=>∃ dx fs b ls,(ls:jL).map (·.2)=gs/\H a=some (.ins C dx fs)/\aX K Hf fs (su ds nm b ls n)
 | .yb x C ds gs nm n=>a=x/\∃ dx fs b ls,(ls:jL).map (·.2)=gs/\H a=some (.ins C dx fs)/\aX K Hf fs (su ds nm b ls n)
 | .lz Nj=>H a=some (.dT (Nj.map fun k=>(k.1,V.int k.2)))
theorem gC.SQ {K:W.Frag}{Hf H:Hp}{a:Addr}:∀ {o:Own},gC K Hf H a o->∃ u,H a=some u/\¬ Kept u
 | .lst _,⟨_,h,_⟩=>⟨_,h,fun z=>z⟩
 | .eB _,⟨_,h,_⟩=>⟨_,h,fun z=>z⟩
 | .obj _ _,⟨_,_,h,_⟩=>⟨_,h,fun z=>z⟩
 | .Aq _ _ _,⟨_,_,_,h,_⟩=>⟨_,h,fun z=>z⟩
 | .rh _ _ _ _ _,⟨_,_,_,_,_,h,_⟩=>⟨_,h,fun z=>z⟩
 | .yb _ _ _ _ _ _,⟨_,_,_,_,_,_,h,_⟩=>⟨_,h,fun z=>z⟩
 | .lz _,h=>⟨_,h,fun z=>z⟩
theorem gC.some {K:W.Frag}{Hf H:Hp}{a:Addr}:∀ {o:Own},gC K Hf H a o->∃ u,H a=some u
 | .lst _,⟨_,h,_⟩=>⟨_,h⟩
 | .eB _,⟨_,h,_⟩=>⟨_,h⟩
 | .obj _ _,⟨_,_,h,_⟩=>⟨_,h⟩
 | .Aq _ _ _,⟨_,_,_,h,_⟩=>⟨_,h⟩
 | .rh _ _ _ _ _,⟨_,_,_,_,_,h,_⟩=>⟨_,h⟩
 | .yb _ _ _ _ _ _,⟨_,_,_,_,_,_,h,_⟩=>⟨_,h⟩
 | .lz _,h=>⟨_,h⟩
theorem gC.grow {K:W.Frag}{Hf H aH H':Hp}{a:Addr}(e:H' a=H a)(f:aE Hf aH):∀ {o:Own},gC K Hf H a o->gC K aH H' a o
 | .lst _,⟨vs,h,r⟩=>⟨vs,by rw[e];exact h,r.mono f⟩
 | .eB _,⟨vs,h,r⟩=>⟨vs,by rw[e];exact h,r.mono f⟩
 | .obj _ _,⟨dx,fs,h,r⟩=>⟨dx,fs,by rw[e];exact h,r.mono f⟩
 | .Aq _ _ _,⟨q,dx,fs,h,r⟩=>⟨q,dx,fs,by rw[e];exact h,r.mono f⟩
 | .rh _ _ _ _ _,⟨dx,fs,b,ls,q,h,r⟩=>⟨dx,fs,b,ls,q,by rw[e];exact h,r.mono f⟩
 | .yb _ _ _ _ _ _,⟨q0,dx,fs,b,ls,q,h,r⟩=>⟨q0,dx,fs,b,ls,q,by rw[e];exact h,r.mono f⟩
 | .lz Nj,h=>(show H' a=Option.some (HO.dT (Nj.map fun k=>(k.1,V.int k.2))) from by rw[e];exact h)
structure Gr where
 Hf:Hp
 H:Hp
structure dJ (K:W.Frag)(G:Gr)(st:L2.St)(Hf H:Hp)(dl:List Slot):Prop where
 gr:bb G.Hf G.H Hf H
 len:st.length=dl.length
 val:∀ (i:Nat) d,dl[i]?=some (.val d)->∃ v,st[i]?=some (some v)/\Rep K Hf v d
 own:∀ (i:Nat) o,dl[i]?=some (.own o)->∃ a,st[i]?=some (some (.ref a))/\Hf a=Option.none/\G.H a=Option.none/\gC K Hf H a o
 E7:∀ (i j:Nat) o o' a,dl[i]?=some (.own o)->dl[j]?=some (.own o')->st[i]?=some (some (.ref a))->st[j]?=some (some (.ref a))->i=j
section
variable {K:W.Frag}{G:Gr}{st:L2.St}{Hf H aH H':Hp}{dl dl':List Slot}
theorem dJ.sub (S:dJ K G st Hf H dl):aE Hf H:=S.gr.sub
theorem dJ.grow (S:dJ K G st Hf H dl)(g:bb Hf H aH H'):dJ K G st aH H' dl:=by
 refine⟨S.gr.trans g,S.len,fun i d h=>let ⟨v,h1,h2⟩:=S.val i d h;⟨v,h1,h2.mono g.bC⟩,fun i o h=>?_,S.E7⟩
 obtain⟨a,h1,h2,h3,h4⟩:=S.own i o h
 obtain⟨u,hu,nk⟩:=h4.SQ
 refine⟨a,h1,?_,h3,h4.grow (by rw[hu];exact g.big _ _ hu) g.bC⟩
 cases q:aH a with
 | none=>rfl
 | some u'=>
   obtain⟨o',z⟩:=g.ya hu nk q
   rw[h2] at z;cases z
theorem dJ.set (S:dJ K G st Hf H dl){i:Nat}{v:V}{d:Dt}(r:Rep K Hf v d):dJ K G (st.set i (some v)) Hf H (dl.set i (.val d)):=by
 have ln:=S.len
 refine⟨S.gr,by simp[S.len],fun j x h=>?_,fun j o h=>?_,fun j k o o' a h1 h2 h3 h4=>?_⟩
 . by_cases e:i=j
   . subst e
     by_cases hl:i < dl.length
     . rw[List.getElem?_set_self hl] at h;cases h
       exact⟨v,List.getElem?_set_self (by omega),r⟩
     . rw[List.getElem?_eq_none (by simp;omega)] at h;cases h
   . rw[List.getElem?_set_ne e] at h ⊢;exact S.val j x h
 . by_cases e:i=j
   . subst e
     by_cases hl:i < dl.length
     . rw[List.getElem?_set_self hl] at h;cases h
     . rw[List.getElem?_eq_none (by simp;omega)] at h;cases h
   . rw[List.getElem?_set_ne e] at h ⊢;exact S.own j o h
 . have nj:i≠j:=fun e=>by
     subst e
     by_cases hl:i < dl.length
     . rw[List.getElem?_set_self hl] at h1;cases h1
     . rw[List.getElem?_eq_none (by simp;omega)] at h1;cases h1
   have nk:i≠k:=fun e=>by
     subst e
     by_cases hl:i < dl.length
     . rw[List.getElem?_set_self hl] at h2;cases h2
     . rw[List.getElem?_eq_none (by simp;omega)] at h2;cases h2
   rw[List.getElem?_set_ne nj] at h1 h3
   rw[List.getElem?_set_ne nk] at h2 h4
   exact S.E7 j k o o' a h1 h2 h3 h4
theorem dJ.E8 (S:dJ K G st Hf H dl){i:Nat}{p:Addr}{o:HO}{w w':Own}(hi:dl[i]?=some (.own w))(hp:st[i]?=some (some (.ref p)))(r:gC K Hf (upd H p o) p w'):dJ K G st Hf (upd H p o) (dl.set i (.own w')):=by
 have ln:=S.len
 obtain⟨p',q1,q2,q3,q4⟩:=S.own i w hi
 rw[hp] at q1;cases q1
 have hl:i < dl.length:=(List.getElem?_eq_some_iff.mp hi).1
 have g:bb G.Hf G.H Hf (upd H p o):=⟨fun b u e=>by rw[ag (aw e q3)];exact S.gr.big _ _ e,S.gr.bC,xm S.sub q2,S.gr.new⟩
 refine⟨g,by simp[S.len],fun j x h=>?_,fun j o' h=>?_,fun j k o1 o2 a h1 h2 h3 h4=>?_⟩
 . by_cases e:i=j
   . subst e;rw[List.getElem?_set_self hl] at h;cases h
   . rw[List.getElem?_set_ne e] at h;exact S.val j x h
 . by_cases e:i=j
   . subst e;rw[List.getElem?_set_self hl] at h;cases h
     exact⟨p,hp,q2,q3,r⟩
   . rw[List.getElem?_set_ne e] at h
     obtain⟨a,z1,z2,z3,z4⟩:=S.own j o' h
     have:a≠p:=fun q=>by subst q;exact e (S.E7 i j _ _ _ hi h hp z1)
     exact⟨a,z1,z2,z3,z4.grow (ag this) (aE.refl _)⟩
 . have tr:∀ (j:Nat) o',(dl.set i (.own w'))[j]?=some (.own o')->∃ O2,dl[j]?=some (.own O2):=fun j o' h=>by
     by_cases e:i=j
     . subst e;exact⟨_,hi⟩
     . rw[List.getElem?_set_ne e] at h;exact⟨_,h⟩
   obtain⟨_,t1⟩:=tr j o1 h1
   obtain⟨_,t2⟩:=tr k o2 h2
   exact S.E7 j k _ _ a t1 t2 h3 h4
noncomputable def Le (dl dl':List Slot):Prop:=dl.length=dl'.length/\∀ (i:Nat) s,dl[i]?=some s->s≠.bw->dl'[i]?=some s
theorem Le.refl (dl:List Slot):Le dl dl:=⟨rfl,fun _ _ h _=>h⟩
theorem dJ.weak (S:dJ K G st Hf H dl')(l:Le dl dl'):dJ K G st Hf H dl:=
 ⟨S.gr,by rw[S.len,l.1],fun i d h=>S.val i d (l.2 i _ h (by intro z;cases z)),fun i o h=>S.own i o (l.2 i _ h (by intro z;cases z)),
  fun i j o o' a h1 h2=>S.E7 i j o o' a (l.2 i _ h1 (by intro z;cases z)) (l.2 j _ h2 (by intro z;cases z))⟩
noncomputable def SR:List Slot->List Slot->Prop
 | [],[]=>True
 | .bw::r,_::s=>SR r s
 | x::r,y::s=>x=y/\SR r s
 | _,_=>False
theorem Le.of:∀ {dl dl':List Slot},SR dl dl'->Le dl dl'
 | [],[],_=>Le.refl _
 | .bw::r,y::s,h=>by
   have q:=Le.of (dl:=r) (dl':=s) h
   refine⟨congrArg (·+1) q.1,fun i x e n=>?_⟩
   cases i with
   | zero=>simp at e;exact absurd e.symm n
   | succ i=>exact q.2 i x (by simpa using e) n
 | .val d::r,y::s,h=>by
   obtain⟨h1,h2⟩:=(show Slot.val d=y/\SR r s from h)
   subst h1
   have q:=Le.of h2
   refine⟨congrArg (·+1) q.1,fun i x e n=>?_⟩
   cases i with
   | zero=>exact e
   | succ i=>exact q.2 i x (by simpa using e) n
 | .own d::r,y::s,h=>by
   obtain⟨h1,h2⟩:=(show Slot.own d=y/\SR r s from h)
   subst h1
   have q:=Le.of h2
   refine⟨congrArg (·+1) q.1,fun i x e n=>?_⟩
   cases i with
   | zero=>exact e
   | succ i=>exact q.2 i x (by simpa using e) n
end
noncomputable def tD (K:PySem.W.Frag)(G:Gr)(dl:List Slot)(d:Dt):TE:=fun st H Q=>∃ Hf,dJ K G st Hf H dl/\∀ v aH H',bb Hf H aH H'->Rep K aH v d->Q v H'
noncomputable def Rz (K:PySem.W.Frag)(G:Gr)(dl:List Slot)(ds:List Dt):TA:=fun st H Q=>∃ Hf,dJ K G st Hf H dl/\∀ vs aH H',bb Hf H aH H'->br K aH vs ds->Q vs H'
noncomputable def SS (K:PySem.W.Frag)(G:Gr)(dl:List Slot)(b:Bool):TT:=fun st H Q=>∃ Hf,dJ K G st Hf H dl/\∀ aH H',bb Hf H aH H'->Q b H'
noncomputable abbrev EE (X:Cx)(G:Gr)(dl:List Slot)(e:Expr)(d:Dt):Prop:=PE X e (tD X.K G dl d)
noncomputable abbrev EA (X:Cx)(G:Gr)(dl:List Slot)(es:List Expr)(ds:List Dt):Prop:=PA X es (Rz X.K G dl ds)
noncomputable abbrev EB (X:Cx)(G:Gr)(dl:List Slot)(e:Expr)(b:Bool):Prop:=PT X e (SS X.K G dl b)
noncomputable def ExcAt (K:PySem.W.Frag)(Hf:Hp)(od:Option Addr)(fs:List (Str×Dt)):Prop:=match od with
 | none=>fs=[]
 | some dx=>∃ fv,Hf dx=some (.xd fv)/\aX K Hf fv fs
inductive Out where
 | nx (dl:List Slot)
 | rt (d:Dt)
 | ro (w:Own)
 | bk (dl:List Slot)
 | ct (dl:List Slot)
 | ex (c:Value) (fs:List (Str×Dt))
 | raw (R:L2.St->Hp->Prop)
noncomputable def wc (K:W.Frag)(G:Gr)(E:XK)(D:Ends)(Hf:Hp):Out->Prop
 | .nx dl=>∀ st aH H,aE Hf aH->dJ K G st aH H dl->D.nx st H
 | .bk dl=>∀ st aH H,aE Hf aH->dJ K G st aH H dl->D.bk st H
 | .ct dl=>∀ st aH H,aE Hf aH->dJ K G st aH H dl->D.ct st H
 | .rt d=>∀ v aH H,bb G.Hf G.H aH H->Rep K aH v d->D.rt v H
 | .ro o=>∀ p aH H,bb G.Hf G.H aH H->G.H p=none->aH p=none->gC K aH H p o->D.rt (.ref p) H
 | .ex c fs=>∀ od aH H,bb G.Hf G.H aH H->ExcAt K aH od fs->E c od H
 | .raw R=>∀ st H,R st H->D.nx st H
theorem wc.mono {K:W.Frag}{G:Gr}{E:XK}{D:Ends}{Hf Hf1:Hp}(s:aE Hf Hf1):∀ {o:Out},wc K G E D Hf o->wc K G E D Hf1 o
 | .nx _,k=>fun st aH H s' S=>k st aH H (s.trans s') S
 | .bk _,k=>fun st aH H s' S=>k st aH H (s.trans s') S
 | .ct _,k=>fun st aH H s' S=>k st aH H (s.trans s') S
 | .rt _,k=>k
 | .ro _,k=>k
 | .ex _ _,k=>k
 | .raw _,k=>k
noncomputable def tO (K:W.Frag)(G:Gr)(E:XK)(dl:List Slot)(o:Out):TS:=fun D st H=>∃ Hf,dJ K G st Hf H dl/\wc K G E D Hf o
noncomputable abbrev ES (X:Cx)(G:Gr)(E:XK)(dl:List Slot)(s:Stmt)(o:Out):Prop:=PS X s (tO X.K G E dl o)
noncomputable abbrev me (X:Cx)(G:Gr)(E:XK)(dl:List Slot)(s:List Stmt)(o:Out):Prop:=BW X s (tO X.K G E dl o)
theorem gh {X:Cx}{e:Expr}{t t':TE}(h:PE X e t)(i:∀ st H Q,t' st H Q->t st H Q):PE X e t':=fun pins s st H Q I q=>h pins s st H Q I (i st H Q q)
theorem SU {X:Cx}{e:Expr}{t t':TT}(h:PT X e t)(i:∀ st H Q,t' st H Q->t st H Q):PT X e t':=fun pins s st H Q I q=>h pins s st H Q I (i st H Q q)
theorem YQ {X:Cx}{e:List Expr}{t t':TA}(h:PA X e t)(i:∀ st H Q,t' st H Q->t st H Q):PA X e t':=fun pos pins s st H Q I q=>h pos pins s st H Q I (i st H Q q)
theorem sv {X:Cx}{e:Stmt}{t t':TS}(h:PS X e t)(i:∀ D st H,t' D st H->t D st H):PS X e t':=fun pins s st H D I q=>h pins s st H D I (i D st H q)
theorem Ar {X:Cx}{e:List Stmt}{t t':TS}(h:BW X e t)(i:∀ D st H,t' D st H->t D st H):BW X e t':=fun pins s st H D I q=>h pins s st H D I (i D st H q)
section
variable {X:Cx}{G:Gr}{dl:List Slot}{a b e:Expr}{i j:Int}{d d1 d2:Dt}{pos:Pos}{x y:Str}{u v:Bool}
theorem aa (n:Nat){x:Str}{pos:Pos}(hd:dl[n]?=some (.val d):=by rfl)(hN:X.N[n]?=some x:=by rfl)(hv:uA X.env.scope x:=by first | exact Or.inl rfl | exact Or.inr (Or.inl rfl) | exact Or.inr (Or.inr rfl))(hb:(x == ("__debug__":Str))=false:=by decide)(lO:(x == ("__classdict__":Str))=false:=by decide):EE X G dl (.Name x pos) d:=
 gh (i0 hN hv hb lO) fun st H Q ⟨Hf,S,k⟩=>let ⟨v,h1,h2⟩:=S.val n d hd;⟨v,h1,k v Hf H (.refl S.sub) h2⟩
theorem ah {z:Int}{j pos}:EE X G dl (.Constant (.int z) j pos) (.int z):=gh Of fun st H Q ⟨Hf,S,k⟩=>k _ Hf H (.refl S.sub) (.int z)
theorem fo {z:Str}{j pos}:EE X G dl (.Constant (.str z) j pos) (.str z):=gh Og fun st H Q ⟨Hf,S,k⟩=>k _ Hf H (.refl S.sub) (.str z)
noncomputable def DE (K:W.Frag)(r:R2)(d1 d2 d:Dt):Prop:=∀ v w Hf H Q,aE Hf H->Rep K Hf v d1->Rep K Hf w d2->(∀ u aH H',bb Hf H aH H'->Rep K aH u d->Q u H')->r v w H Q
theorem uP {r:R2}(h:DE X.K r d1 d2 d):∀ st H Q,tD X.K G dl d st H Q->R9 r (tD X.K G dl d1) (tD X.K G dl d2) st H Q:=fun st H Q ⟨Hf,S,k⟩=>
 ⟨Hf,S,fun v Hf1 H1 g1 r1=>⟨Hf1,S.grow g1,fun w bO H2 g2 r2=>h v w bO H2 Q g2.sub (r1.mono g2.bC) r2 fun u iU H3 g3 r3=>k u iU H3 ((g1.trans g2).trans g3) r3⟩⟩
theorem uQ {op:Operator}{r:R2}(ho:n9 X (binaryOp op) r)(h:DE X.K r d1 d2 d)(ha:EE X G dl a d1)(hb:EE X G dl b d2):EE X G dl (.BinOp a op b pos) d:=gh (Nc ho ha hb) (uP h)
theorem yc {op:CmpOp}{r:R2}(ho:n9 X (compareOp op) r)(h:DE X.K r d1 d2 d)(hm:behindInMarks op b=false)(ha:EE X G dl a d1)(hb:EE X G dl b d2):EE X G dl (.Compare a [op] [b] pos) d:=gh (KN ho ha hb hm) (uP h)
theorem lC {op:CmpOp}{r:R2}(ho:n9 X (compareOp op) r)(h:DE X.K r d1 d2 (.bl u))(hm:behindInMarks op b=false)(ha:EE X G dl a d1)(hb:EE X G dl b d2):EB X G dl (.Compare a [op] [b] pos) u:=
 SU (KO ho ha hb hm) fun st H Q ⟨Hf,S,k⟩=>uP h st H _ ⟨Hf,S,fun v aH H' g r=>by cases r;exact⟨u,rfl,k aH H' g⟩⟩
theorem sx {K:W.Frag}{g:Int->Int->V}{g':Int->Int->Dt}(h:∀ K H i j,Rep K H (g i j) (g' i j)):DE K (KI g) (.int i) (.int j) (g' i j):=fun v w Hf H Q s r1 r2 k=>by
 cases r1;cases r2;exact⟨i,j,rfl,rfl,k _ Hf H (.refl s) (h _ _ _ _)⟩
theorem K8 {K:W.Frag}{C:Int->Int->Prop}{g:Int->Int->V}{g':Int->Int->Dt}(h:∀ K H i j,Rep K H (g i j) (g' i j))(hc:C i j):DE K (rI C g) (.int i) (.int j) (g' i j):=fun v w Hf H Q s r1 r2 k=>by
 cases r1;cases r2;exact⟨i,j,rfl,rfl,hc,k _ Hf H (.refl s) (h _ _ _ _)⟩
theorem aI (ha:EE X G dl a (.int i))(hb:EE X G dl b (.int j)):EE X G dl (.BinOp a .Add b pos) (.int (i+j)):=uQ OB (sx (g':=fun i j=>.int (i+j)) fun _ _ _ _=>.int _) ha hb
theorem hV (ha:EE X G dl a (.int i))(hb:EE X G dl b (.int j)):EE X G dl (.BinOp a .Sub b pos) (.int (i - j)):=uQ OC (sx (g':=fun i j=>.int (i - j)) fun _ _ _ _=>.int _) ha hb
theorem K9:n9 X (binaryOp .Mult) (rI IntMulOk fun i j=>.int (i * j)):=Vg fun _ _ _ _ _ _ _ hc q=>mul_int q hc
theorem eE (ha:EE X G dl a (.int i))(hb:EE X G dl b (.int j))(hc:IntMulOk i j):EE X G dl (.BinOp a .Mult b pos) (.int (i * j)):=uQ K9 (K8 (g':=fun i j=>.int (i * j)) (fun _ _ _ _=>.int _) hc) ha hb
theorem GY:n9 X (binaryOp .FloorDiv) (rI (fun _ j=>0 < j/\j.natAbs.log2 < 9000) fun i j=>.int (i / j)):=Vg fun i j _ _ _ _ _ hc q=>by
 refine floordiv_int (Int.ne_of_gt hc.1) ?_ (.inl (PyProof.noPylong_of_log2 hc.2))
 rw[Int.fdiv_eq_ediv_of_nonneg _ (Int.le_of_lt hc.1)]
 exact q
theorem ir (ha:EE X G dl a (.int i))(hb:EE X G dl b (.int j))(hc:0 < j/\j.natAbs.log2 < 9000):EE X G dl (.BinOp a .FloorDiv b pos) (.int (i / j)):=uQ GY (K8 (g':=fun i j=>.int (i / j)) (fun _ _ _ _=>.int _) hc) ha hb
theorem dc (ha:EE X G dl a (.int i))(hb:EE X G dl b (.int j))(hc:0 < j):EE X G dl (.BinOp a .Mod b pos) (.int (i % j)):=uQ OD (K8 (g':=fun i j=>.int (i % j)) (fun _ _ _ _=>.int _) hc) ha hb
theorem GZ (ha:EE X G dl a (.int i))(hb:EE X G dl b (.int j))(hc:Sd i j):EE X G dl (.BinOp a .Pow b pos) (.int (i ^ j.toNat)):=uQ OE (K8 (g':=fun i j=>.int (i ^ j.toNat)) (fun _ _ _ _=>.int _) hc) ha hb
theorem O3 {K:W.Frag}(h:x.length+y.length<=sizeLine):DE K (fun a b H Q=>∃ i j,a=.str i/\b=.str j/\i.length+j.length<=sizeLine/\Q (.str (i ++ j)) H) (.str x) (.str y) (.str (x ++ y)):=fun v w Hf H Q s r1 r2 k=>by
 cases r1;cases r2;exact⟨x,y,rfl,rfl,h,k _ Hf H (.refl s) (.str _)⟩
theorem O4 (ha:EE X G dl a (.str x))(hb:EE X G dl b (.str y))(h:x.length+y.length<=sizeLine):EE X G dl (.BinOp a .Add b pos) (.str (x ++ y)):=uQ B1 (O3 h) ha hb
theorem hX (ha:EE X G dl a (.int i)):EE X G dl (.UnaryOp .USub a pos) (.int (-i)):=
 gh (Sa OF ha) fun st H Q ⟨Hf,S,k⟩=>⟨Hf,S,fun v Hf1 H1 g1 r1=>by cases r1;exact⟨i,rfl,k _ Hf1 H1 g1 (.int _)⟩⟩
theorem ql (h:EE X G dl e (.bl u))(he:∀ whole,isTrue e X.env whole=(do let v <- whole;standAt e.pos;holding [v] (truthy v)):=by intro _;rfl):EB X G dl e u:=
 SU (Oh h he) fun st H Q ⟨Hf,S,k⟩=>⟨Hf,S,fun v Hf1 H1 g1 r1=>by cases r1;exact⟨u,rfl,k Hf1 H1 g1⟩⟩
end
section
variable {X:Cx}{G:Gr}{E:XK}{dl dl1:List Slot}{a b c e:Expr}{es:List Expr}{i j:Int}{d d1:Dt}{ds:List Dt}{pos:Pos}{o o':Out}{x:Str}{u v:Bool}{rest:List Expr}{sts E9:List Stmt}{s:Stmt}
theorem Cf:PE X e fun _ _ _=>False:=fun _ _ _ _ _ _ h=>h.elim
theorem pw_nev:PW X e fun _ _ _=>False:=fun _ _ _ _ _ _ _ h=>h.elim
noncomputable abbrev EW (X:Cx)(G:Gr)(dl:List Slot)(e:Expr)(b:Bool):Prop:=PW X e (SS X.K G dl b)
theorem Vn {e:Expr}{t t':TT}(h:PW X e t)(i:∀ st H Q,t' st H Q->t st H Q):PW X e t':=fun wh pins s st H Q I q=>h wh pins s st H Q I (i st H Q q)
theorem yd (ha:EB X G dl a u):EW X G dl (.BoolOp .And [a] pos) u:=pw_and1 ha
theorem pK (ha:EB X G dl a u):EW X G dl (.BoolOp .Or [a] pos) u:=pw_or1 ha
theorem uR (ha:EB X G dl a u)(hb:u=true->EW X G dl (.BoolOp .And (b::rest) pos) v):EW X G dl (.BoolOp .And (a::b::rest) pos) (u && v):=by
 cases u with
 | true=>exact Vn (pw_and ha (hb rfl)) fun st H Q ⟨Hf,S,k⟩=>⟨Hf,S,fun Hf1 H1 g1=>Ao ⟨Hf1,S.grow g1,fun bO H2 g2=>k bO H2 (g1.trans g2)⟩⟩
 | false=>exact Vn (pw_and ha pw_nev) fun st H Q ⟨Hf,S,k⟩=>⟨Hf,S,fun Hf1 H1 g1=>An (k Hf1 H1 g1)⟩
theorem pk (ha:EB X G dl a u)(hb:u=false->EW X G dl (.BoolOp .Or (b::rest) pos) v):EW X G dl (.BoolOp .Or (a::b::rest) pos) (u || v):=by
 cases u with
 | false=>exact Vn (pw_or ha (hb rfl)) fun st H Q ⟨Hf,S,k⟩=>⟨Hf,S,fun Hf1 H1 g1=>An ⟨Hf1,S.grow g1,fun bO H2 g2=>k bO H2 (g1.trans g2)⟩⟩
 | true=>exact Vn (pw_or ha pw_nev) fun st H Q ⟨Hf,S,k⟩=>⟨Hf,S,fun Hf1 H1 g1=>Ao (k Hf1 H1 g1)⟩
theorem uS (h:EW X G dl e u):EB X G dl e u:=h.pt
theorem pL (ha:EB X G dl a u):EB X G dl (.UnaryOp .Not a pos) (!u):=SU (Oi ha) fun st H Q ⟨Hf,S,k⟩=>⟨Hf,S,fun Hf1 H1 g1=>k Hf1 H1 g1⟩
theorem tN (ha:EE X G dl a (.bl u)):EE X G dl (.BoolOp .And [a] pos) (.bl u):=Oj ha
theorem ye (ha:EE X G dl a (.bl u))(hb:u=true->EE X G dl (.BoolOp .And (b::rest) pos) (.bl v)):EE X G dl (.BoolOp .And (a::b::rest) pos) (.bl (u && v)):=by
 cases u with
 | true=>exact gh (Gw ha (hb rfl)) fun st H Q ⟨Hf,S,k⟩=>⟨Hf,S,fun w Hf1 H1 g1 r1=>by cases r1;exact⟨true,rfl,Ao ⟨Hf1,S.grow g1,fun w bO H2 g2 r2=>k w bO H2 (g1.trans g2) r2⟩⟩⟩
 | false=>exact gh (Gw ha Cf) fun st H Q ⟨Hf,S,k⟩=>⟨Hf,S,fun w Hf1 H1 g1 r1=>by cases r1;exact⟨false,rfl,An (k _ Hf1 H1 g1 (.bl _))⟩⟩
theorem O5 (ha:EE X G dl a (.bl u)):EE X G dl (.UnaryOp .Not a pos) (.bl (!u)):=gh (Ol ha) fun st H Q ⟨Hf,S,k⟩=>⟨Hf,S,fun w Hf1 H1 g1 r1=>by cases r1;exact⟨u,rfl,k _ Hf1 H1 g1 (.bl _)⟩⟩
theorem dq (h:EB X G dl e u)(q:u=v):EB X G dl e v:=by subst q;exact h
theorem bP (h:EE X G dl e d)(q:d=d1):EE X G dl e d1:=by subst q;exact h
theorem O6 (hc:EB X G dl c u)(ha:u=true->EE X G dl a d)(hb:u=false->EE X G dl b d):EE X G dl (.IfExp c a b pos) d:=by
 cases u with
 | true=>exact gh (zX hc (ha rfl) Cf) fun st H Q ⟨Hf,S,k⟩=>⟨Hf,S,fun Hf1 H1 g1=>Ao ⟨Hf1,S.grow g1,fun w bO H2 g2 r2=>k w bO H2 (g1.trans g2) r2⟩⟩
 | false=>exact gh (zX hc Cf (hb rfl)) fun st H Q ⟨Hf,S,k⟩=>⟨Hf,S,fun Hf1 H1 g1=>An ⟨Hf1,S.grow g1,fun w bO H2 g2 r2=>k w bO H2 (g1.trans g2) r2⟩⟩
theorem aj:EA X G dl [] []:=YQ nB fun st H Q ⟨Hf,S,k⟩=>k [] Hf H (.refl S.sub) .nil
theorem ae (ha:EE X G dl e d)(hr:EA X G dl es ds)(hs:starEach (e::es) X.env=(false,eval e X.env)::starEach es X.env:=by rfl):EA X G dl (e::es) (d::ds):=
 YQ (lb ha hr hs) fun st H Q ⟨Hf,S,k⟩=>⟨Hf,S,fun v Hf1 H1 g1 r1=>⟨Hf1,S.grow g1,fun vs bO H2 g2 r2=>k _ bO H2 (g1.trans g2) (.cons (r1.mono g2.bC) r2)⟩⟩
theorem b7 {x1}(h:EA X G dl es ds)(hl:ds.length<=sizeLine:=by decide):EE X G dl (.Tuple es x1 pos) (.tup ds):=
 gh (OJ h) fun st H Q ⟨Hf,S,k⟩=>⟨Hf,S,fun vs Hf1 H1 g1 r1=>⟨by rw[r1.length];exact hl,fun p hp=>k _ (upd Hf1 p (.tup vs)) _ (g1.trans (.alloc g1.sub hp)) (.tup (.of ak) (r1.mono (bI (g1.sub.free hp))))⟩⟩
theorem yf (h:EA X G dl es ds)(hl:ds.length<=sizeLine:=by decide):EE X G dl (.List es pos) (.lst ds):=
 gh (uI h) fun st H Q ⟨Hf,S,k⟩=>⟨Hf,S,fun vs Hf1 H1 g1 r1=>⟨by rw[r1.length];exact hl,fun p hp=>k _ (upd Hf1 p (.lst vs)) _ (g1.trans (.alloc g1.sub hp)) (.lst ak (r1.mono (bI (g1.sub.free hp))))⟩⟩
theorem br.ny {K:W.Frag}{H:Hp}{vs:List V}{ds:List Dt}{i:Int}{d:Dt}(r:br K H vs ds)(h:L2.ny ds i=some d):∃ v,L2.ny vs i=some v/\Rep K H v d:=by
 unfold L2.ny at h ⊢
 rw[r.length]
 cases q:B8 ds.length i with
 | none=>rw[q] at h;cases h
 | some n=>
   rw[q] at h
   exact r.get h
theorem av (ha:EE X G dl a (.tup ds))(hb:EE X G dl b (.int i))(h:ny ds i=some d)(hs:jZ b:=by intro _ _;rfl):EE X G dl (.Subscript a b pos) d:=
 gh (uJ OM ha hb hs) (uP fun v w Hf H Q s r1 r2 k=>by
   cases r1 with
   | tup q r=>
     cases r2
     obtain⟨v,h1,h2⟩:=r.ny h
     exact⟨_,_,i,v,rfl,rfl,bN s q,h1,k v Hf H (.refl s) h2⟩)
theorem uT (ha:EE X G dl a (.lst ds))(hb:EE X G dl b (.int i))(h:ny ds i=some d)(hs:jZ b:=by intro _ _;rfl):EE X G dl (.Subscript a b pos) d:=
 gh (uJ x4 ha hb hs) (uP fun v w Hf H Q s r1 r2 k=>by
   cases r1 with
   | lst q r=>
     cases r2
     obtain⟨v,h1,h2⟩:=r.ny h
     exact⟨_,_,i,v,rfl,rfl,.of (s _ _ q),h1,k v Hf H (.refl s) h2⟩)
theorem rj {ns:List Int}{z:Int}(ha:EE X G dl a (.oh ns))(hb:EE X G dl b (.int i))(h:ny ns i=some z)(hs:jZ b:=by intro _ _;rfl):EE X G dl (.Subscript a b pos) (.int z):=
 gh (uJ x4 ha hb hs) (uP fun v w Hf H Q s r1 r2 k=>by
   cases r1 with
   | oh q=>
     cases r2
     have h':L2.ny (ns.map V.int) i=some (.int z):=by
       unfold L2.ny at h ⊢
       rw[List.length_map]
       cases q2:B8 ns.length i with
       | none=>rw[q2] at h;cases h
       | some n=>
         rw[q2] at h
         show(ns.map V.int)[n]?=_
         rw[List.getElem?_map,show ns[n]?=some z from h];rfl
     exact⟨_,_,i,_,rfl,rfl,s.seq q,h',k _ Hf H (.refl s) (.int z)⟩)
theorem O7 {z:Nat}(ha:EE X G dl a (.str x))(hb:EE X G dl b (.int i))(h:ny x.cps.toList i=some z)(hl:x.length<=sizeLine)(hs:jZ b:=by intro _ _;rfl):EE X G dl (.Subscript a b pos) (.str ⟨#[z]⟩):=
 gh (uJ ON ha hb hs) (uP fun v w Hf H Q s r1 r2 k=>by
   cases r1;cases r2
   exact⟨x,i,z,rfl,rfl,hl,h,k _ Hf H (.refl s) (.str _)⟩)
theorem bZ:me X G E dl [] (.nx dl):=Ar KG fun D st H ⟨Hf,S,k⟩=>k st Hf H (aE.refl _) S
theorem ai (h1:ES X G E dl s (.nx dl1))(h2:me X G E dl1 sts o):me X G E dl (s::sts) o:=
 Ar (nz h1 h2) fun D st H ⟨Hf,S,k⟩=>⟨Hf,S,fun jv aH H' s' S'=>⟨aH,S',k.mono s'⟩⟩
theorem ao (h1:ES X G E dl s o):me X G E dl [s] o:=mi h1
theorem wc.stop {K:W.Frag}{D D':Ends}{Hf:Hp}(h:(∀ dl,o≠.nx dl)/\∀ R,o≠.raw R)(hr:D'.rt=D.rt)(hb:D'.bk=D.bk)(hc:D'.ct=D.ct)(k:wc K G E D Hf o):wc K G E D' Hf o:=by
 cases o with
 | nx dl=>exact absurd rfl (h.1 dl)
 | raw R=>exact absurd rfl (h.2 R)
 | rt d=>show ∀ v Hf H,_->_->D'.rt v H;rw[hr];exact k
 | ro d=>show ∀ v Hf H,_->_->_->_->D'.rt _ H;rw[hr];exact k
 | bk d=>show ∀ v Hf H,_->_->D'.bk v H;rw[hb];exact k
 | ct d=>show ∀ v Hf H,_->_->D'.ct v H;rw[hc];exact k
 | ex c fs=>exact k
theorem qm (h1:ES X G E dl s o)(h:(∀ dl,o≠.nx dl)/\(∀ R,o≠.raw R):=by exact⟨(fun _ z=>nomatch z),(fun _ z=>nomatch z)⟩):me X G E dl (s::sts) o:=
 Ar (nz h1 (qX (sts:=sts))) fun D st H ⟨Hf,S,k⟩=>⟨Hf,S,wc.stop (D:=D) h rfl rfl rfl k⟩
theorem DF (h1:me X G E dl1 sts o)(l:Le dl1 dl):me X G E dl sts o:=Ar h1 fun D st H ⟨Hf,S,k⟩=>⟨Hf,S.weak l,k⟩
theorem bQ (hc:EB X G dl c u)(h1:u=true->me X G E dl sts o)(h2:u=false->me X G E dl E9 o):ES X G E dl (.If c sts E9 pos) o:=by
 cases u with
 | true=>exact sv (Nb hc (h1 rfl) (qX (sts:=E9))) fun D st H ⟨Hf,S,k⟩=>⟨Hf,S,fun Hf1 H1 g1=>Ao ⟨Hf1,S.grow g1,k.mono g1.bC⟩⟩
 | false=>exact sv (Nb hc (qX (sts:=sts)) (h2 rfl)) fun D st H ⟨Hf,S,k⟩=>⟨Hf,S,fun Hf1 H1 g1=>An ⟨Hf1,S.grow g1,k.mono g1.bC⟩⟩
theorem aF (h:EE X G dl e d):ES X G E dl (.Return (some e) pos) (.rt d):=sv (BX h) fun D st H ⟨Hf,S,k⟩=>⟨Hf,S,fun v Hf1 H1 g1 r1=>k v Hf1 H1 (S.gr.trans g1) r1⟩
theorem oi (h:EE X G dl e d)(hs:swapsWith e none pos.line X.env=pure false:=by rfl):ES X G E dl (.Expr e pos) (.nx dl):=
 sv (k8 h hs) fun D st H ⟨Hf,S,k⟩=>⟨Hf,S,fun v Hf1 H1 g1 r1=>k st Hf1 H1 g1.bC (S.grow g1)⟩
theorem ax (n:Nat){x:Str}{pos':Pos}(hN:X.N.Nodup)(he:EE X G dl e d)(hi:X.N[n]?=some x:=by rfl)(hx:Loc X.env.scope x:=by first | exact Or.inl rfl | exact Or.inr rfl)(hs:swapsWith e (some (.Name x pos')) pos.line X.env=pure false:=by rfl)(hf:X.fn x=true\/X.env.scope.names.lookup x=some .local:=by first | exact .inl rfl | exact .inr rfl | assumption):ES X G E dl (.Assign [.Name x pos'] e pos) (.nx (dl.set n (.val d))):=
 sv (BY hN hi hx he hs hf) fun D st H ⟨Hf,S,k⟩=>⟨Hf,S,fun v Hf1 H1 g1 r1=>k _ Hf1 H1 g1.bC ((S.grow g1).set r1)⟩
inductive pq (X:Cx)(G:Gr)(E:XK)(body:List Stmt)(S:Nat->List Slot)(pre:Nat->List Slot)(n m:Nat):Out->Prop
 | all (h:m=n):pq X G E body S pre n m (.nx (S n))
 | rt {d:Dt} (h:m < n) (hb:me X G E (pre m) body (.rt d)):pq X G E body S pre n m (.rt d)
 | ro {d:Own} (h:m < n) (hb:me X G E (pre m) body (.ro d)):pq X G E body S pre n m (.ro d)
 | bk {dl':List Slot} (h:m < n) (hb:me X G E (pre m) body (.bk dl')):pq X G E body S pre n m (.nx dl')
 | ex {c:Value} {fs:List (Str×Dt)} (h:m < n) (hb:me X G E (pre m) body (.ex c fs)):pq X G E body S pre n m (.ex c fs)
inductive Goes (X:Cx)(G:Gr)(E:XK)(body:List Stmt)(pre post:List Slot):Prop
 | nx {dl':List Slot} (hb:me X G E pre body (.nx dl')) (l:Le post dl')
 | ct {dl':List Slot} (hb:me X G E pre body (.ct dl')) (l:Le post dl')
noncomputable def G1 (X:Cx)(G:Gr)(E:XK)(body:List Stmt):TS:=fun D st H=>∃ pre o,me X G E pre body o/\tO X.K G E pre o D st H
theorem qo {body:List Stmt}:BW X body (G1 X G E body):=fun pins s st H D J ⟨pre,o,h,q⟩=>h pins s st H D J q
theorem oj {body:List Stmt}{pre post:List Slot}{D:Ends}{st:L2.St}{Hf H:Hp}(g:Goes X G E body pre post)(S:dJ X.K G st Hf H pre)(hn:∀ st aH H,aE Hf aH->dJ X.K G st aH H post->D.nx st H)(hc:∀ st aH H,aE Hf aH->dJ X.K G st aH H post->D.ct st H):G1 X G E body D st H:=by
 cases g with
 | nx hb l=>exact⟨_,_,hb,Hf,S,fun jv aH H' s' S'=>hn jv aH H' s' (S'.weak l)⟩
 | ct hb l=>exact⟨_,_,hb,Hf,S,fun jv aH H' s' S'=>hc jv aH H' s' (S'.weak l)⟩
theorem rm {body:List Stmt}{S pre:Nat->List Slot}{n m:Nat}{D D':Ends}{st:L2.St}{Hf H:Hp}(e:pq X G E body S pre n m o)(hm:m < n)(S':dJ X.K G st Hf H (pre m))(k:wc X.K G E D Hf o)(hr:D'.rt=D.rt)(O8:D'.bk=D.nx):G1 X G E body D' st H:=by
 cases e with
 | all h=>omega
 | rt h hb=>exact⟨_,_,hb,Hf,S',by show ∀ v Hf H,_->_->D'.rt v H;rw[hr];exact k⟩
 | ro h hb=>exact⟨_,_,hb,Hf,S',by show ∀ v Hf H,_->_->_->_->D'.rt _ H;rw[hr];exact k⟩
 | bk h hb=>exact⟨_,_,hb,Hf,S',by show ∀ v Hf H,_->_->D'.bk v H;rw[O8];exact k⟩
 | ex h hb=>exact⟨_,_,hb,Hf,S',k⟩
theorem G3 (nN:Nat){x:Str}{px:Pos}{body:List Stmt}{lo:Int}{n m:Nat}(S:Nat->List Slot)(hN:X.N.Nodup)(qp:X.calm=true)(hp:PassesOwn (model X.prog X.w) X.A X.env X.xe){wi:TI}{iter:Expr}(hI:PI X (.Name x px) iter wi)(hw:∀ st Hf H R,dJ X.K G st Hf H dl->(∀ aH H',bb Hf H aH H'->R (Ke lo n) H')->wi st H R)(h0:Le (S 0) dl)(Vo:m<=n)(hb:∀ k,k < m->Goes X G E body ((S k).set nN (.val (.int (lo+k)))) (S (k+1)))(he:pq X G E body S (fun k=>(S k).set nN (.val (.int (lo+k)))) n m o)(hi:X.N[nN]?=some x:=by rfl)(hx:Loc X.env.scope x:=by first | exact Or.inl rfl | exact Or.inr rfl)(hf:X.fn x=true\/X.env.scope.names.lookup x=some .local:=by first | exact .inl rfl | exact .inr rfl | assumption)(hs:∀ x,foldedSetIterable iter X.env x=pure x:=by intro _;rfl):ES X G E dl (.For (.Name x px) iter body [] pos) o:=by
 refine sv (xY hp qp hI (bx hN hi hx hf) (qo (G:=G) (E:=E)) hs) fun D st H ⟨Hf,S0,k⟩=>hw st Hf H _ S0 fun aH H' g=>?_
 refine EM (lo:=lo) (n:=n) (fun j st H=>j<=m/\∃ Hf1,aE Hf Hf1/\dJ X.K G st Hf1 H (S j)) ⟨Nat.zero_le _,aH,g.bC,(S0.grow g).weak h0⟩ (fun j st H hj ⟨hjm,Hf1,s1,Sj⟩=>?_) (fun st H ⟨YR,Hf1,s1,Sn⟩=>?_)
 . have Sp:dJ X.K G (st.set nN (some (.int (lo+j)))) Hf1 H ((S j).set nN (.val (.int (lo+j)))):=Sj.set (.int _)
   by_cases de:j < m
   . exact oj (hb j de) Sp (fun st bO H s2 S'=>⟨de,bO,s1.trans s2,S'⟩) (fun st bO H s2 S'=>⟨de,bO,s1.trans s2,S'⟩)
   . have e:j=m:=by omega
     subst e
     exact rm he hj Sp (k.mono s1) rfl rfl
 . have e:m=n:=by omega
   subst e
   cases he with
   | all _=>exact k st Hf1 H s1 Sn
   | rt h _=>omega
   | ro h _=>omega
   | bk h _=>omega
   | ex h _=>omega
theorem i3 (nN:Nat){x:Str}{p px pc:Pos}{body:List Stmt}{n:Int}{m:Nat}(S:Nat->List Slot)(hN:X.N.Nodup)(qp:X.calm=true)(hp:PassesOwn (model X.prog X.w) X.A X.env X.xe)(O9:X.mg "range"=none)(ha:EA X G dl [a] [.int n])(hn:-(2 ^ 62)<=n/\n < 2 ^ 62)(h0:Le (S 0) dl)(Vo:m<=n.toNat)(hb:∀ k:Nat,k < m->Goes X G E body ((S k).set nN (.val (.int k))) (S (k+1)))(he:pq X G E body S (fun k=>(S k).set nN (.val (.int k))) n.toNat m o)(hg:Gl X "range":=by rfl)(hi:X.N[nN]?=some x:=by rfl)(hx:Loc X.env.scope x:=by first | exact Or.inl rfl | exact Or.inr rfl)(hf:X.fn x=true\/X.env.scope.names.lookup x=some .local:=by first | exact .inl rfl | exact .inr rfl | assumption)(Gd:starEach [a] X.env=[(false,eval a X.env)]:=by rfl)(hs:∀ z,foldedSetIterable (.Call (.Name "range" p) [a] [] pc) X.env z=pure z:=by intro _;rfl):ES X G E dl (.For (.Name x px) (.Call (.Name "range" p) [a] [] pc) body [] pos) o:=by
 have ez:∀ k:Nat,(0:Int)+k=k:=fun k=>Int.zero_add _
 have eS:(fun k:Nat=>(S k).set nN (.val (.int ((0:Int)+k))))=fun k:Nat=>(S k).set nN (.val (.int k)):=by funext k;rw[ez]
 refine G3 nN (lo:=0) (n:=n.toNat) (m:=m) S hN qp hp (n8 hg O9 ha Gd) (fun st Hf H R S0 h=>⟨Hf,S0,fun vs Hf1 H1 g1 r1=>?_⟩) h0 Vo (fun k hk=>by rw[ez];exact hb k hk) (by rw[eS];exact he) hi hx hf hs
 cases r1 with
 | cons r t=>cases t;cases r;exact⟨n,rfl,hn.1,hn.2,h Hf1 H1 g1⟩
theorem DG (nN:Nat){x:Str}{px:Pos}{iter:Expr}{body:List Stmt}{xs:List Dt}{m:Nat}(S:Nat->List Slot)(hN:X.N.Nodup)(qp:X.calm=true)(hp:PassesOwn (model X.prog X.w) X.A X.env X.xe)(hl:EE X G dl iter (.lst xs))(h0:Le (S 0) dl)(Vo:m<=xs.length)(hb:∀ (k:Nat) (z:Dt),k < m->xs[k]?=some z->Goes X G E body ((S k).set nN (.val z)) (S (k+1)))(he:pq X G E body S (fun k=>(S k).set nN (.val (xs.getD k .cP))) xs.length m o)(hi:X.N[nN]?=some x:=by rfl)(hx:Loc X.env.scope x:=by first | exact Or.inl rfl | exact Or.inr rfl)(hf:X.fn x=true\/X.env.scope.names.lookup x=some .local:=by first | exact .inl rfl | exact .inr rfl | assumption)(hs:∀ z,foldedSetIterable iter X.env z=pure z:=by intro _;rfl):ES X G E dl (.For (.Name x px) iter body [] pos) o:=by
 refine sv (xY hp qp (k9 hl) (bx hN hi hx hf) (qo (G:=G) (E:=E)) hs) fun D st H ⟨Hf,S0,k⟩=>⟨Hf,S0,fun v aH H' g r=>?_⟩
 cases r with
 | @lst a vs _ q r=>
   have hlen:=r.length
   refine⟨a,rfl,⟨vs,.of (g.sub _ _ q)⟩,z7 (xs:=vs) (fun j st H=>j<=m/\∃ Hf1,aE aH Hf1/\dJ X.K G st Hf1 H (S j)) ⟨Nat.zero_le _,aH,aE.refl _,(S0.grow g).weak h0⟩ ?_ ?_ ?_⟩
   . rintro j st H _ ⟨_,Hf1,s1,Sj⟩
     exact .of (Sj.sub _ _ (s1 _ _ q))
   . rintro j v st H hv ⟨hjm,Hf1,s1,Sj⟩
     obtain⟨z,hz,rz⟩:=r.get' hv
     have hj:j < xs.length:=(List.getElem?_eq_some_iff.mp hz).1
     have Sp:dJ X.K G (st.set nN (some v)) Hf1 H ((S j).set nN (.val z)):=Sj.set (rz.mono s1)
     by_cases de:j < m
     . exact oj (hb j z de hz) Sp (fun st bO H s2 S'=>⟨de,bO,s1.trans s2,S'⟩) (fun st bO H s2 S'=>⟨de,bO,s1.trans s2,S'⟩)
     . have e:j=m:=by omega
       subst e
       have ez:xs.getD j .cP=z:=by rw[List.getD_eq_getElem?_getD,hz];rfl
       exact rm he hj (by show dJ _ _ _ _ _ ((S j).set nN (.val (xs.getD j .cP)));rw[ez];exact Sp) (k.mono (g.bC.trans s1)) rfl rfl
   . rintro st H ⟨YR,Hf1,s1,Sn⟩
     have e:m=xs.length:=by omega
     subst e
     rw[hlen] at Sn
     cases he with
     | all _=>exact k st Hf1 H (g.bC.trans s1) Sn
     | rt h _=>omega
     | ro h _=>omega
     | bk h _=>omega
     | ex h _=>omega
inductive Res where
 | ret (d:Dt)
 | own (w:Own)
 | exc (c:Value) (fs:List (Str×Dt))
noncomputable def SV (K:W.Frag)(Hf H:Hp)(Q:VK)(E:XK):Res->Prop
 | .ret d=>∀ v aH H',bb Hf H aH H'->Rep K aH v d->Q v H'
 | .own w=>∀ p aH H',bb Hf H aH H'->H p=none->aH p=none->gC K aH H' p w->Q (.ref p) H'
 | .exc c fs=>∀ od aH H',bb Hf H aH H'->ExcAt K aH od fs->E c od H'
noncomputable def DH (K:W.Frag)(n:Nat)(R:List Dt->Res->Prop):Sp:=fun vs H Q E=>∃ Hf ds r,aE Hf H/\br K Hf vs ds/\ds.length=n/\R ds r/\SV K Hf H Q E r
noncomputable def BS (CX:q9):Prop:=∀ outer H s e s',CX outer H s E0 e s'->False
theorem ay:BS YO:=fun _ _ _ _ _ h=>h
theorem BS.passes {CX:q9}(n:BS CX):Passes CX X E0:=fun _ _ _ _ _ _ _ h=>(n _ _ _ _ _ h).elim
noncomputable def slots (N:List Str)(ds:List Dt):List Slot:=ds.map Slot.val ++ List.replicate (N.length - ds.length) .bw
theorem xn {K:W.Frag}{N:List Str}{Hf H:Hp}{vs:List V}{ds:List Dt}(s:aE Hf H)(r:br K Hf vs ds):dJ K ⟨Hf,H⟩ (start N vs) Hf H (slots N ds):=by
 have hl:=r.length
 have xU:∀ (i:Nat) o,(slots N ds)[i]?≠some (.own o):=fun i o h=>by
   unfold slots at h
   by_cases hi:i < ds.length
   . rw[List.getElem?_append_left (by simpa using hi),List.getElem?_map] at h
     cases e:ds[i]? with
     | none=>rw[e] at h;cases h
     | some a=>rw[e] at h;cases h
   . rw[List.getElem?_append_right (by simpa using hi),List.getElem?_replicate] at h
     split at h <;> cases h
 refine⟨.refl s,?_,fun i d h=>?_,fun i o h=>absurd h (xU i o),fun i j o o' a h=>absurd h (xU i o)⟩
 . unfold L2.start slots
   simp[hl]
 . unfold slots at h
   by_cases hi:i < ds.length
   . rw[List.getElem?_append_left (by simpa using hi),List.getElem?_map] at h
     cases e:ds[i]? with
     | none=>rw[e] at h;cases h
     | some a=>
       rw[e] at h;cases h
       obtain⟨v,h1,h2⟩:=r.get e
       refine⟨v,?_,h2⟩
       unfold L2.start
       rw[List.getElem?_append_left (by simp;omega),List.getElem?_map,h1];rfl
   . rw[List.getElem?_append_right (by simpa using hi),List.getElem?_replicate] at h
     split at h <;> cases h
inductive Comes:Out->Res->Prop
 | rt (d:Dt):Comes (.rt d) (.ret d)
 | ro (d:Own):Comes (.ro d) (.own d)
 | nx (dl:List Slot):Comes (.nx dl) (.ret .cP)
 | kn {dl:List Slot} {d:Dt} (h:∀ K G st Hf H,dJ K G st Hf H dl->Rep K Hf .cP d):Comes (.nx dl) (.ret d)
 | ex (c:Value) (fs:List (Str×Dt)):Comes (.ex c fs) (.exc c fs)
theorem Comes.ends {K:W.Frag}{Hf H:Hp}{Q:VK}{o:Out}{r:Res}(h:Comes o r)(k:SV K Hf H Q E r):wc K ⟨Hf,H⟩ E { nx:=fun _ H'=>Q .cP H',rt:=Q} Hf o:=by
 cases h with
 | rt d=>exact k
 | ro d=>exact k
 | nx dl=>exact fun st aH H' s' S=>k _ aH H' S.gr .cP
 | kn h=>exact fun st aH H' s' S=>k _ aH H' S.gr (h _ _ _ _ _ S)
 | ex c fs=>exact k
theorem iq {P:Program}{w:World}{K:W.Frag}{mg:Str->Option Value}{base:Heap}{CX:q9}{x qual:Str}{st:Stmt}{f:Addr}{fd:FuncData}{N ps:List Str}{k n:Nat}{R:List Dt->Res->Prop}(F:Rx K x qual st f fd)(S:aq N ps (af st))(hn:ps.length=n)(qf:∀ (bg:Value) (A:Around) (outer:List Env) (s:Shared) (H:Hp) (E:XK) (G:Gr) (ds:List Dt) (r:Res),eC k (A.deeper (envOfC qual (af st) s.heap.objs.size f bg))->ds.length=n->R ds r->∃ o,Comes o r/\me (Ab CX P w K mg base N qual (af st) f bg A outer s H E) G E (slots N ds) (aD st) o):jx P w K mg base CX (k+1) f fd ps (DH K n R):=by
 obtain⟨oc,od,kV,doc,pm,an,bg,ct,xi,rfl,lk,lO⟩:=F.ex
 refine GL lk lO S (fun vs H Q E ⟨Hf,ds,r,s,rp,hl,_⟩=>by rw[rp.length,hl,hn]) fun A outer s H vs Q E hr ⟨Hf,ds,r,sm,rp,hl,hR,hk⟩=>?_
 obtain⟨o,hc,hb⟩:=qf bg A outer s H E ⟨Hf,H⟩ ds r hr hl hR
 exact⟨_,hb,Hf,xn sm rp,hc.ends hk⟩
section
variable {CX:q9}{k n:Nat}{f C:Addr}{fd:FuncData}{ps:List Str}{R:List Dt->Res->Prop}{m:Str}{p apos:Pos}{ob:Expr}{dvs:List Dt}{vds:List V}{Fb:List Value}{fs:List (Str×Dt)}
theorem La (F:jx X.prog X.w X.K X.mg X.base CX k f fd ps (DH X.K n R))(nx:BS CX)(hr:eC k X.A)(hm:X.mg x=some (.ref f))(hk:W.keepIn X.K (.ref f)=true)(hb:Binds X.K fd ps Fb)(hd:Vals vds Fb)(Cg:∀ H,br X.K H vds dvs)(ha:EA X G dl (e::es) ds)(hl:(ds ++ dvs).length=n)(h:R (ds ++ dvs) (.ret d))(hg:Gl X x:=by rfl)(md:(x == ("__debug__":Str))=false:=by decide)(he:starEach (e::es) X.env=(false,eval e X.env)::starEach es X.env:=by rfl)(m8:(backTo pos (starEach es X.env)).any (·.1)=false:=by rfl):EE X G dl (.Call (.Name x p) (e::es) [] pos) d:=
 gh (Ds (E:=E0) F hr hg hm hk hb hd nx.passes ha md he m8) fun st H Q ⟨Hf,S,k⟩=>⟨Hf,S,fun vs Hf1 H1 g1 r1=>⟨Hf1,ds ++ dvs,.ret d,g1.sub,r1.append (Cg _),hl,h,fun v bO H2 g2 r2=>k v bO H2 (g1.trans g2) r2⟩⟩
theorem DI {pl:Sem Bool}(he:EE X G dl ob (.obj C fs))(c:tL X.K C)(hm:Meth X.K C m f)(F:jx X.prog X.w X.K X.mg X.base CX k f fd ps (DH X.K n R))(nx:BS CX)(hr:eC k X.A)(hb:Binds X.K fd ps Fb)(hd:Vals vds Fb)(Cg:∀ H,br X.K H vds dvs)
   (ha:EA X G dl (e::es) ds) (hl:(.obj C fs::(ds ++ dvs)).length=n) (h:R (.obj C fs::(ds ++ dvs)) (.ret d)) (sy:fs.lookup m=none)
   (m7:starEach (e::es) X.env=(false,eval e X.env)::starEach es X.env:=by rfl) (m8:(backTo pos (starEach es X.env)).any (·.1)=false:=by rfl)
   (ht:eval (.Call (.Attribute ob m apos) (e::es) [] pos) X.env=(do
     let ov <- eval ob X.env
     standAt apos.atName
     let (f,first) <- holding [ov] (getMethod ov m pl)
     callWith pos f first (backTo pos (starEach (e::es) X.env)) (backToKw pos (keywordEach [] X.env))):=by rfl):EE X G dl (.Call (.Attribute ob m apos) (e::es) [] pos) d:=
 gh (Du (pl:=pl) (E:=E0) he c hm F hr hb hd nx.passes ha m7 m8 ht) fun st H Q ⟨Hf,S,k⟩=>⟨Hf,S,fun v Hf1 H1 g1 r1=>by
   cases r1 with
   | @obj a _ dx fv _ q r=>
     exact⟨a,dx,fv,rfl,fQ g1.sub q,r.none_of sy,Hf1,S.grow g1,fun vs bO H2 g2 r2=>⟨bO,_,.ret d,g2.sub,.cons (.obj (fQ g2.bC q) (r.mono g2.bC)) (r2.append (Cg _)),hl,h,fun v iU H3 g3 r3=>k v iU H3 ((g1.trans g2).trans g3) r3⟩⟩⟩
theorem As {pl:Sem Bool}(he:EE X G dl ob (.obj C fs))(c:tL X.K C)(hm:Meth X.K C m f)(F:jx X.prog X.w X.K X.mg X.base CX k f fd ps (DH X.K n R))(nx:BS CX)(hr:eC k X.A)(hb:Binds X.K fd ps Fb)(hd:Vals vds Fb)(Cg:∀ H,br X.K H vds dvs)
   (hl:(Dt.obj C fs::dvs).length=n) (h:R (.obj C fs::dvs) (.ret d)) (sy:fs.lookup m=none)
   (ht:eval (.Call (.Attribute ob m apos) [] [] pos) X.env=(do
     let ov <- eval ob X.env
     standAt apos.atName
     let (f,first) <- holding [ov] (getMethod ov m pl)
     callWith pos f first (backTo pos (starEach [] X.env)) (backToKw pos (keywordEach [] X.env))):=by rfl):EE X G dl (.Call (.Attribute ob m apos) [] [] pos) d:=
 gh (Aa (pl:=pl) (E:=E0) he c hm F hr hb hd nx.passes ht) fun st H Q ⟨Hf,S,k⟩=>⟨Hf,S,fun v Hf1 H1 g1 r1=>by
   cases r1 with
   | @obj a _ dx fv _ q r=>
     exact⟨a,dx,fv,rfl,fQ g1.sub q,r.none_of sy,Hf1,_,.ret d,g1.sub,.cons (.obj q r) (Cg _),hl,h,fun v iU H3 g3 r3=>k v iU H3 (g1.trans g3) r3⟩⟩
end
end
section
variable {X:Cx}{G:Gr}{dl:List Slot}{a b c e:Expr}{i j:Int}{d d1 d2:Dt}{ds:List Dt}{pos p:Pos}{o:Out}{x y f:Str}{u v:Bool}{s:Stmt}{C:Addr}{fs:List (Str×Dt)}
theorem Au {T:String}(hm:X.mg x=none)(hv:bootBuiltins x=some (.type T))(hg:Gl X x:=by rfl)(hn:x≠"__name__":=by decide)(hd:(x == ("__debug__":Str))=false:=by decide):EE X G dl (.Name x pos) (.ty T):=
 gh (KD (v:=.ty T) hg hm hv rfl hn hd) fun st H Q ⟨Hf,S,k⟩=>k _ Hf H (.refl S.sub) (.ty T)
theorem j0 {w:V}{z:Value}(hm:X.mg x=some z)(r:RelV w z)(hr:∀ H,Rep X.K H w d)(hg:Gl X x:=by rfl)(hd:(x == ("__debug__":Str))=false:=by decide):EE X G dl (.Name x pos) d:=
 gh (KC hg hm r hd) fun st H Q ⟨Hf,S,k⟩=>k _ Hf H (.refl S.sub) (hr _)
theorem boot_int:bootBuiltins "int"=some (.type "int"):=by decide +kernel
theorem boot_bool:bootBuiltins "bool"=some (.type "bool"):=by decide +kernel
theorem boot_tuple:bootBuiltins "tuple"=some (.type "tuple"):=by decide +kernel
theorem boot_list:bootBuiltins "list"=some (.type "list"):=by decide +kernel
theorem boot_dict:bootBuiltins "dict"=some (.type "dict"):=by decide +kernel
structure Pa (K:W.Frag)(C:Addr):Prop where
 makes:W.makesIn K C=true
 init:W.findIn K (.ref C) "__init__"=some (some (.builtin "object.__init__"))
 kp:W.keepIn K (.ref C)=true
theorem Fc {pins:List (Addr×Obj)}{st:L2.St}{H:Hp}{s:Shared}{Q:VK}(M:Pa X.K C)(I:L2.Inv X pins st H s)(h:∀ x dx,H x=none->H dx=none->dx≠x->Q (.ref x) (upd (upd H dx (.own x)) x (.ins C dx []))):wpAny (model X.prog X.w) X.A (call (.ref C) []) (EP X pins st Q) X.xe s:=by
 have hq:=h (s.heap.objs.size+1) s.heap.objs.size (I.a5.fresh (Nat.le_succ _)) (I.a5.fresh (Nat.le_refl _)) (Nat.ne_of_lt (Nat.lt_succ_self _))
 have I2:=L2.Inv.made (C:=C) I
 refine wpAny_call (EU (s:=s) I.mf M.makes M.init (fun self=>W.Looks.of_pure (W.oi_bind self)) ?_)
 obtain⟨hh,g,d,t,os⟩:=s
 have Y:=W.makes_of (M:=model X.prog X.w) I.mf M.makes
 have t1:W.Looks (model X.prog X.w) ((hh.push W.emptyDict).push (W.instObj C hh.objs.size)) (typeOf (.ref (hh.objs.size+1))) (.ref C):=by
   have e2:=Heap.get?_push_size (hh.push W.emptyDict) (o:=W.instObj C hh.objs.size) rfl
   rw[Heap.size_push] at e2
   exact(W.Looks.ld e2).andThen .now
 have t2:W.Looks (model X.prog X.w) ((hh.push W.emptyDict).push (W.instObj C hh.objs.size)) (isInstance (.ref (hh.objs.size+1)) (.type "object")) true:=t1.andThen (Y.top.keeps fun b o e=>Heap.get?_push_of_some _ (Heap.get?_push_of_some _ e))
 refine codeAny_call_builtin W.oi_plain W.entry_oi (@W.check_slot (model X.prog X.w) _ _ _ "object.__init__" "object" "__init__" (.ref (hh.objs.size+1)) [] [] _ W.oi_kind W.oi_split t2 (W.oi_args (.ref (hh.objs.size+1))) ?_)
 rw[W.oi_run]
 exact wpAny_pure (And.intro rfl ⟨V.ref (hh.objs.size+1),_,I2,rfl,hq⟩)
theorem aG (he:EE X G dl e (.obj C fs))(c:tL X.K C)(n:bF X.K C f)(h:fs.lookup f=some d)(hb:attributeBase e f X.env (eval e X.env)=eval e X.env:=by rfl):EE X G dl (.Attribute e f pos) d:=
 gh (uG he hb) fun st H Q ⟨Hf,S,k⟩=>⟨Hf,S,fun v Hf1 H1 g1 r1=>by
   cases r1 with
   | @obj a _ dx fv _ q r=>
     obtain⟨y,h1,h2⟩:=r.lookup h
     exact⟨a,C,dx,fv,y,rfl,fQ g1.sub q,c,n,h1,k y Hf1 H1 g1 h2⟩⟩
theorem yg (hm:X.mg "len"=none)(ha:EE X G dl a (.lst ds))(hg:Gl X "len":=by rfl)(he:starEach [a] X.env=[(false,eval a X.env)]:=by rfl):EE X G dl (.Call (.Name "len" p) [a] [] pos) (.int ds.length):=
 gh (fg mj hg hm PySem.boot_len (ae ha aj he) (he:=he)) fun st H Q ⟨Hf,S,k⟩=>⟨Hf,S,fun vs Hf1 H1 g1 r1=>by
   cases r1 with
   | cons r t=>cases t;cases r with
     | @lst q vs _ z w=>exact⟨q,vs,rfl,.inl (.of (g1.sub _ _ z)),by rw[w.length];exact k _ Hf1 H1 g1 (.int _)⟩⟩
theorem yh {ns:List Int}(hm:X.mg "len"=none)(ha:EE X G dl a (.oh ns))(hg:Gl X "len":=by rfl)(he:starEach [a] X.env=[(false,eval a X.env)]:=by rfl):EE X G dl (.Call (.Name "len" p) [a] [] pos) (.int ns.length):=
 gh (fg mj hg hm PySem.boot_len (ae ha aj he) (he:=he)) fun st H Q ⟨Hf,S,k⟩=>⟨Hf,S,fun vs Hf1 H1 g1 r1=>by
   cases r1 with
   | cons r t=>cases t;cases r with
     | @oh q _ z=>exact⟨q,_,rfl,.inl (g1.sub.seq z),by rw[List.length_map];exact k _ Hf1 H1 g1 (.int _)⟩⟩
theorem DJ (hm:X.mg "len"=none)(ha:EE X G dl a (.tup ds))(hg:Gl X "len":=by rfl)(he:starEach [a] X.env=[(false,eval a X.env)]:=by rfl):EE X G dl (.Call (.Name "len" p) [a] [] pos) (.int ds.length):=
 gh (fg mj hg hm PySem.boot_len (ae ha aj he) (he:=he)) fun st H Q ⟨Hf,S,k⟩=>⟨Hf,S,fun vs Hf1 H1 g1 r1=>by
   cases r1 with
   | cons r t=>cases t;cases r with
     | @tup q vs _ z w=>exact⟨q,vs,rfl,.inr (bN g1.sub z),by rw[w.length];exact k _ Hf1 H1 g1 (.int _)⟩⟩
theorem yi (hm:X.mg "len"=none)(ha:EE X G dl a (.str x))(hl:x.length<=sizeLine)(hg:Gl X "len":=by rfl)(he:starEach [a] X.env=[(false,eval a X.env)]:=by rfl):EE X G dl (.Call (.Name "len" p) [a] [] pos) (.int x.length):=
 gh (fg x6 hg hm PySem.boot_len (ae ha aj he) (he:=he)) fun st H Q ⟨Hf,S,k⟩=>⟨Hf,S,fun vs Hf1 H1 g1 r1=>by
   cases r1 with
   | cons r t=>cases t;cases r;exact⟨x,rfl,hl,k _ Hf1 H1 g1 (.int _)⟩⟩
noncomputable def WB:Dt->Value
 | .cP=>.type "NoneType"
 | .bl _=>.type "bool"
 | .int _=>.type "int"
 | .str _=>.type "str"
 | .tup _=>.type "tuple"
 | .lst _=>.type "list"
 | .oh _=>.type "list"
 | .eB _=>.type "dict"
 | .obj C _=>.ref C
 | .ty _=>.type "type"
 | .cls _=>.type "type"
 | .xo C=>.ref C
 | .pJ _=>.type "dict"
 | .BR C _=>.ref C
 | .dn _=>.type "dict"
 | .memo _ _ _ _=>.type "list"
 | .dH _ _ _ _=>.type "list"
 | .tM _ _ _=>.type "NoneType"
 | .uO C _ _ _ _=>.ref C
 | _=>.type "object"
structure Vp (K:W.Frag)(C:Addr):Prop where
 cl:tL K C
 ha:W.findIn K (.ref C) "__class__"=some (some (.builtin "object.__class__"))
 hn:W.specialIn K (.builtin "object.__class__") "__get__"=some (some (.builtin "getset_descriptor.__get__"))
 OI:W.takesIn K (.builtin "object.__class__")=some true
 hm:W.mroIn K C (.type "object")=some true
noncomputable def Pb (K:W.Frag):Dt->Prop
 | .obj C _=>Vp K C
 | .xo C=>Ry K C
 | .BR C _=>Ry K C
 | .memo _ _ _ _=>False
 | .dH _ _ _ _=>False
 | .tM _ _ _=>False
 | .uO C _ _ _ _=>Vp K C
 | .ip _=>False
 | .lz _=>False
 | .ty _=>False
 | .cls _=>False
 | _=>True
noncomputable def SW:Dt->Option Value
 | .ty n=>some (.type n)
 | .cls C=>some (.ref C)
 | _=>none
theorem G4 {pins:List (Addr×Obj)}{st:L2.St}{Hf H:Hp}{s:Shared}{Q:Value->Shared->Prop}{w:V}{z c:Value}{r:Bool}(I:L2.Inv X pins st H s)(sm:aE Hf H)(rp:Rep X.K Hf w d)(rx:RelV w z)(t:Pb X.K d)(e:W.kitOne X.K (WB d) c=some r)(h:∀ tk,Q (.bool r) { s with toks:=tk}):wpAny (model X.prog X.w) X.A (call (.builtin "isinstance") [z,c]) Q X.xe s:=by
 cases rp with
 | cP=>cases (show z=Value.none from rx);exact W.kia_one W.kitx_none I.mf True.intro e (fun z=>nomatch z) h
 | bl y=>cases (show z=Value.bool y from rx);exact W.kia_one W.kitx_bool I.mf True.intro e (fun z=>nomatch z) h
 | int i=>obtain⟨t,q⟩:=(show ∃ t,z=Value.int i t from rx);cases q;exact W.kia_one W.kitx_int I.mf True.intro e (fun z=>nomatch z) h
 | str y=>obtain⟨t,q⟩:=(show ∃ t,z=Value.str y t from rx);cases q;exact W.kia_one W.kitx_str I.mf True.intro e (fun z=>nomatch z) h
 | @tup a vs ds q rr=>
   cases (show z=Value.ref a from rx)
   obtain⟨aC,_,⟨o,h1,h2,_⟩,_⟩:=I.tuple (bN sm q)
   exact W.kia_one W.kitx_tuple I.mf ⟨o,h1,h2⟩ e (fun z=>nomatch z) h
 | @lst a vs ds q rr=>
   cases (show z=Value.ref a from rx)
   obtain⟨aC,_,⟨o,n,h1,h2,_⟩,_⟩:=I.list (.of (sm _ _ q))
   exact W.kia_one W.kitx_list I.mf ⟨o,h1,h2⟩ e (fun z=>nomatch z) h
 | @oh a ns q=>
   cases (show z=Value.ref a from rx)
   obtain⟨aC,_,⟨o,n,h1,h2,_⟩,_⟩:=I.list (sm.seq q)
   exact W.kia_one W.kitx_list I.mf ⟨o,h1,h2⟩ e (fun z=>nomatch z) h
 | @eB a kvs kds q rr=>
   cases (show z=Value.ref a from rx)
   exact q8 (x:=.ref a) I rfl (.dK (sm _ _ q)) e h
 | @obj a C dx fv fs q rr=>
   cases (show z=Value.ref a from rx)
   have t:Vp X.K C:=t
   exact q8 (x:=.ref a) I rfl (.ins (fQ sm q) t.cl t.ha t.hn t.OI t.hm) e h
 | ty n=>exact t.elim
 | cls C=>exact t.elim
 | @xo a C ph q hp=>
   cases (show z=Value.ref a from rx)
   have t:Ry X.K C:=t
   have ok:aJ X.prog X.w H s.heap a (.ext ph):=I.a5 a _ (sm _ _ q)
   exact W.kia_one (Ap t) I.mf (hp _ ok.1) e (fun z=>nomatch z) h
 | @pJ a ob kvs kds q rr=>
   cases (show z=Value.ref a from rx)
   obtain⟨_,_,vs,_,D⟩:=sq (kvs:=kvs) I.a5 (.inr (.inl ⟨ob,sm _ _ q⟩))
   exact W.kia_one W.kitx_dict I.mf D.typeIs e (fun z=>nomatch z) h
 | @BR a C dx ph fv fs q hp g rr=>
   cases (show z=Value.ref a from rx)
   have t:Ry X.K C:=t
   have ok:aJ X.prog X.w H s.heap a (.ext ph):=I.a5 a _ (sm _ _ q)
   exact W.kia_one (Ap t) I.mf (hp _ ok.1).of e (fun z=>nomatch z) h
 | @dn a tg ob kvs kds q rr=>
   cases (show z=Value.ref a from rx)
   obtain⟨_,_,vs,_,D⟩:=sq (kvs:=kvs) I.a5 (.inr (.inr (.inl ⟨tg,ob,kvs,sm _ _ q,rfl⟩)))
   exact W.kia_one W.kitx_dict I.mf D.typeIs e (fun z=>nomatch z) h
 | memo=>exact t.elim
 | dH=>exact t.elim
 | ip=>exact t.elim
 | lz=>exact t.elim
 | tM=>exact t.elim
 | @uO a _ C dx fv fs gs nm n ls _ q rr=>
   cases (show z=Value.ref a from rx)
   have t:Vp X.K C:=t
   exact q8 (x:=.ref a) I rfl (.ins (fQ sm q) t.cl t.ha t.hn t.OI t.hm) e h
theorem boot_isinstance:bootBuiltins "isinstance"=some (.builtin "isinstance"):=by decide +kernel
noncomputable def WC (K:W.Frag)(d d2:Dt)(r:Bool):List V->Hp->VK->Prop:=fun xs H Q=>∃ Hf w c,xs=[w,c]/\aE Hf H/\Rep K Hf w d/\Rep K Hf c d2/\Q (.bl r) H
theorem G5 {r:Bool}{z:Value}(hc:SW d2=some z)(t:Pb X.K d)(h:W.kitOne X.K (WB d) z=some r):jU X (.builtin "isinstance") (WC X.K d d2 r):=by
 intro pins s st H xs us Q I rv ⟨Hf,w,c,e,sm,r1,r2,q⟩
 subst e
 cases rv with
 | cons q1 t1=>
   cases t1 with
   | cons q2 t2=>
     cases t2
     rename_i ud uc
     have ez:uc=z:=by
       cases r2 with
       | ty n=>cases hc;exact q2
       | cls C=>cases hc;exact q2
       | _=>cases hc
     subst ez
     exact G4 I sm r1 q1 t h fun tk=>⟨.bl r,H,I.tok _,rfl,q⟩
theorem uU {r:Bool}{z:Value}(hm:X.mg "isinstance"=none)(ha:EE X G dl a d)(hb:EE X G dl b d2)(hc:SW d2=some z)(t:Pb X.K d)(h:W.kitOne X.K (WB d) z=some r)(hg:Gl X "isinstance":=by rfl)(he:starEach [a,b] X.env=(false,eval a X.env)::starEach [b] X.env:=by rfl)(Pd:starEach [b] X.env=[(false,eval b X.env)]:=by rfl)(m8:(backTo pos (starEach [b] X.env)).any (·.1)=false:=by rfl):EE X G dl (.Call (.Name "isinstance" p) [a,b] [] pos) (.bl r):=
 gh (fg (G5 hc t h) hg hm boot_isinstance (ae ha (ae hb aj Pd) he) (by decide) (by decide) he m8) fun st H Q ⟨Hf,S,k⟩=>⟨Hf,S,fun vs Hf1 H1 g1 r1=>by
   cases r1 with
   | cons r1 t1=>cases t1 with
     | cons r2 t2=>cases t2;exact⟨Hf1,_,_,rfl,g1.sub,r1,r2,k _ Hf1 H1 g1 (.bl _)⟩⟩
mutual
noncomputable def pd:Dt->PyData
 | .cP=>.none
 | .bl b=>.bool b
 | .int i=>.int i
 | .str x=>.str x
 | .tup ds=>.tuple (Ci ds)
 | .lst ds=>.list (Ci ds)
 | .oh _=>.none
 | .eB _=>.none
 | .obj _ _=>.none
 | .ty _=>.none
 | .cls _=>.none
 | .xo _=>.none
 | .pJ _=>.none
 | .BR _ _=>.none
 | .dn _=>.none
 | .memo _ _ _ _=>.none
 | .dH _ _ _ _=>.none
 | .tM _ _ _=>.none
 | .uO _ _ _ _ _=>.none
 | .ip _=>.none
 | .lz _=>.none
noncomputable def Ci:List Dt->List PyData
 | []=>[]
 | d::r=>pd d::Ci r
end
mutual
noncomputable def plain:Dt->Bool
 | .tup ds=>kM ds
 | .lst ds=>kM ds
 | .oh _=>false
 | .eB _=>false
 | .obj _ _=>false
 | .ty _=>false
 | .cls _=>false
 | .xo _=>false
 | .pJ _=>false
 | .BR _ _=>false
 | .dn _=>false
 | .memo _ _ _ _=>false
 | .dH _ _ _ _=>false
 | .tM _ _ _=>false
 | .uO _ _ _ _ _=>false
 | .ip _=>false
 | .lz _=>false
 | .cP=>true
 | .bl _=>true
 | .int _=>true
 | .str _=>true
noncomputable def kM:List Dt->Bool
 | []=>true
 | d::r=>plain d && kM r
end
section
variable {pins:List (Addr×Obj)}{st:L2.St}{Hf H:Hp}{s:Shared}
mutual
theorem nG (I:L2.Inv X pins st H s)(sm:aE Hf H):∀ {w:V} {d:Dt} {z:Value},Rep X.K Hf w d->plain d=true->RelV w z->∃ as,Reads s.heap z (pd d) as
 | _,_,z,.cP,_,r=>by cases (show z=Value.none from r);exact⟨_,.none⟩
 | _,_,z,.bl b,_,r=>by cases (show z=Value.bool b from r);exact⟨_,.bool b⟩
 | _,_,z,.int i,_,r=>by obtain⟨t,q⟩:=(show ∃ t,z=Value.int i t from r);cases q;exact⟨_,.int i t⟩
 | _,_,z,.str x,_,r=>by obtain⟨t,q⟩:=(show ∃ t,z=Value.str x t from r);cases q;exact⟨_,.str x t⟩
 | _,_,z,@Rep.tup _ _ a vs ds q rr,h,r=>by
   cases (show z=Value.ref a from r)
   obtain⟨aC,rv,⟨o,h1,h2,n,h3⟩,_⟩:=I.tuple (bN sm q)
   obtain⟨as,ra⟩:=rq I sm rr (by rw[plain] at h;exact h) rv
   refine⟨as,?_⟩
   rw[pd]
   exact .tuple h1 h2 h3 (by simpa using ra)
 | _,_,z,@Rep.lst _ _ a vs ds q rr,h,r=>by
   cases (show z=Value.ref a from r)
   obtain⟨aC,rv,⟨o,n,h1,h2,_,h3⟩,_⟩:=I.list (.of (sm _ _ q))
   obtain⟨as,ra⟩:=rq I sm rr (by rw[plain] at h;exact h) rv
   refine⟨a::as,?_⟩
   rw[pd]
   exact .list h1 h2 h3 (by simpa using ra)
 | _,_,_,.eB _ _,h,_=>by rw[plain] at h;cases h
 | _,_,_,.oh _,h,_=>by rw[plain] at h;cases h
 | _,_,_,.obj _ _,h,_=>by rw[plain] at h;cases h
 | _,_,_,.ty _,h,_=>by rw[plain] at h;cases h
 | _,_,_,.cls _,h,_=>by rw[plain] at h;cases h
 | _,_,_,.xo _ _,h,_=>by rw[plain] at h;cases h
 | _,_,_,.pJ _ _,h,_=>by rw[plain] at h;cases h
 | _,_,_,.BR _ _ _ _,h,_=>by rw[plain] at h;cases h
 | _,_,_,.dn _ _,h,_=>by rw[plain] at h;cases h
 | _,_,_,.memo _ _ _ _,h,_=>by rw[plain] at h;cases h
 | _,_,_,.dH _ _ _ _,h,_=>by rw[plain] at h;cases h
 | _,_,_,.tM _,h,_=>by rw[plain] at h;cases h
 | _,_,_,.uO _ _ _,h,_=>by rw[plain] at h;cases h
 | _,_,_,.ip _,h,_=>by rw[plain] at h;cases h
 | _,_,_,.lz _,h,_=>by rw[plain] at h;cases h
theorem rq (I:L2.Inv X pins st H s)(sm:aE Hf H):∀ {vs:List V} {ds:List Dt} {zs:List Value},br X.K Hf vs ds->kM ds=true->Vals vs zs->∃ as,ReadsAll s.heap zs (Ci ds) as
 | _,_,_,.nil,_,.nil=>⟨[],by rw[Ci];exact .nil⟩
 | _,_,_,.cons r t,h,.cons q w=>by
   rw[kM,Bool.and_eq_true] at h
   obtain⟨as,h1⟩:=nG I sm r h.1 q
   obtain⟨bs,h2⟩:=rq I sm t h.2 w
   exact⟨as ++ bs,by rw[Ci];exact .cons h1 h2⟩
end
end
noncomputable def Kh (d:Dt):Prop:=plain d=true/\SeqAt.shaped (pd d)=true
noncomputable def Pe (K:PySem.W.Frag)(d1 d2:Dt)(g:Bool->Bool):R2:=fun x y H Q=>∃ Hf,aE Hf H/\Rep K Hf x d1/\Rep K Hf y d2/\Kh d1/\Kh d2/\Q (.bl (g (PyData.eqv (pd d1) (pd d2)))) H
theorem Pg (hu:X.A.units+64 < cLine):n9 X (compareOp .Eq) (Pe X.K d1 d2 id):=by
 intro pins s st H x y v w Q I rx ry ⟨Hf,sm,r1,r2,o1,o2,q⟩
 obtain⟨as,h1⟩:=nG I sm r1 o1.1 rx
 obtain⟨bs,h2⟩:=nG I sm r2 o2.1 ry
 exact eq_dataH h1 h2 o1.2 o2.2 hu ⟨.bl _,H,I,rfl,q⟩
theorem Ph (hu:X.A.units+64 < cLine):n9 X (compareOp .NotEq) (Pe X.K d1 d2 (!·)):=by
 intro pins s st H x y v w Q I rx ry ⟨Hf,sm,r1,r2,o1,o2,q⟩
 obtain⟨as,h1⟩:=nG I sm r1 o1.1 rx
 obtain⟨bs,h2⟩:=nG I sm r2 o2.1 ry
 exact ne_dataH h1 h2 o1.2 o2.2 hu ⟨.bl _,H,I,rfl,q⟩
theorem G6 {K:W.Frag}{g:Bool->Bool}(o1:Kh d1)(o2:Kh d2):DE K (Pe K d1 d2 g) d1 d2 (.bl (g (PyData.eqv (pd d1) (pd d2)))):=fun v w Hf H Q s r1 r2 k=>⟨Hf,s,r1,r2,o1,o2,k _ Hf H (.refl s) (.bl _)⟩
mutual
theorem eqv_refl:∀ d:Dt,plain d=true->PyData.eqv (pd d) (pd d)=true
 | .cP,_=>by simp[pd,PyData.eqv]
 | .bl b,_=>by simp[pd,PyData.eqv]
 | .int i,_=>by simp[pd,PyData.eqv]
 | .str x,_=>by simp[pd,PyData.eqv]
 | .tup ds,h=>by rw[plain] at h;rw[pd,PyData.eqv];exact rA ds h
 | .lst ds,h=>by rw[plain] at h;rw[pd,PyData.eqv];exact rA ds h
 | .eB _,h=>by rw[plain] at h;cases h
 | .oh _,h=>by rw[plain] at h;cases h
 | .obj _ _,h=>by rw[plain] at h;cases h
 | .ty _,h=>by rw[plain] at h;cases h
 | .cls _,h=>by rw[plain] at h;cases h
 | .xo _,h=>by rw[plain] at h;cases h
 | .pJ _,h=>by rw[plain] at h;cases h
 | .BR _ _,h=>by rw[plain] at h;cases h
 | .dn _,h=>by rw[plain] at h;cases h
 | .memo _ _ _ _,h=>by rw[plain] at h;cases h
 | .dH _ _ _ _,h=>by rw[plain] at h;cases h
 | .tM _ _ _,h=>by rw[plain] at h;cases h
 | .uO _ _ _ _ _,h=>by rw[plain] at h;cases h
theorem rA:∀ ds:List Dt,kM ds=true->PyData.eqvAll (Ci ds) (Ci ds)=true
 | [],_=>by simp[Ci,PyData.eqvAll]
 | d::r,h=>by
   rw[kM,Bool.and_eq_true] at h
   rw[Ci,PyData.eqvAll,eqv_refl d h.1,rA r h.2];rfl
end
theorem SY (hr:X.A.units+64 < cLine)(ha:EE X G dl a d1)(hb:EE X G dl b d2)(o1:Kh d1)(o2:Kh d2)(hu:PyData.eqv (pd d1) (pd d2)=u):EE X G dl (.Compare a [.Eq] [b] pos) (.bl u):=by
 subst hu;exact yc (Pg hr) (G6 (g:=id) o1 o2) (lx _) ha hb
theorem Nk (hr:X.A.units+64 < cLine)(ha:EE X G dl a d1)(hb:EE X G dl b d2)(o1:Kh d1)(o2:Kh d2)(hu:(!PyData.eqv (pd d1) (pd d2))=u):EB X G dl (.Compare a [.NotEq] [b] pos) u:=by
 subst hu;exact lC (Ph hr) (G6 (g:=(!·)) o1 o2) (lx _) ha hb
theorem Av (ha:EE X G dl a (.int i))(hb:EE X G dl b (.int j)):EB X G dl (.Compare a [.Lt] [b] pos) (decide (i < j)):=lC Sf (sx (g':=fun i j=>.bl (decide (i < j))) fun _ _ _ _=>.bl _) (lx _) ha hb
theorem sA (ha:EE X G dl a (.int i))(hb:EE X G dl b (.int j)):EB X G dl (.Compare a [.LtE] [b] pos) (decide (i<=j)):=lC GG (sx (g':=fun i j=>.bl (decide (i<=j))) fun _ _ _ _=>.bl _) (lx _) ha hb
theorem Aw (ha:EE X G dl a (.int i))(hb:EE X G dl b (.int j)):EB X G dl (.Compare a [.Gt] [b] pos) (decide (j < i)):=lC Sh (sx (g':=fun i j=>.bl (decide (j < i))) fun _ _ _ _=>.bl _) (lx _) ha hb
theorem G7 (ha:EE X G dl a (.int i))(hb:EE X G dl b (.int j)):EB X G dl (.Compare a [.GtE] [b] pos) (decide (j<=i)):=lC Si (sx (g':=fun i j=>.bl (decide (j<=i))) fun _ _ _ _=>.bl _) (lx _) ha hb
theorem yj {K:W.Frag}{w1 w2:V}{g:Bool->Bool}(h1:∀ H w,Rep K H w d1->w=w1)(h2:∀ H w,Rep K H w d2->w=w2)(hs:KL w1 w2=true):DE K (fun x y H Q=>KL x y=true/\Q (.bl (g (decide (x=y)))) H) d1 d2 (.bl (g (decide (w1=w2)))):=fun v w Hf H Q s r1 r2 k=>by
 cases h1 _ _ r1;cases h2 _ _ r2;exact⟨hs,k _ Hf H (.refl s) (.bl _)⟩
theorem oe (i j:Int):decide (V.int i=V.int j)=decide (i=j):=by simp
theorem tJ (i j:Str):decide (V.str i=V.str j)=decide (i=j):=by simp
theorem Pj (ha:EE X G dl a (.int i))(hb:EE X G dl b (.int j)):EE X G dl (.Compare a [.Eq] [b] pos) (.bl (decide (i=j))):=by
 rw[<- oe];exact yc GD (yj (g:=id) (fun _ _ r=>by cases r;rfl) (fun _ _ r=>by cases r;rfl) rfl) (lx _) ha hb
theorem lE (ha:EE X G dl a (.int i))(hb:EE X G dl b (.int j)):EB X G dl (.Compare a [.Eq] [b] pos) (decide (i=j)):=by
 rw[<- oe];exact lC GD (yj (g:=id) (fun _ _ r=>by cases r;rfl) (fun _ _ r=>by cases r;rfl) rfl) (lx _) ha hb
theorem yk (ha:EE X G dl a (.int i))(hb:EE X G dl b (.int j)):EB X G dl (.Compare a [.NotEq] [b] pos) (!decide (i=j)):=by
 rw[<- oe];exact lC Se (yj (g:=(!·)) (fun _ _ r=>by cases r;rfl) (fun _ _ r=>by cases r;rfl) rfl) (lx _) ha hb
theorem pM (ha:EE X G dl a (.str x))(hb:EE X G dl b (.str y)):EB X G dl (.Compare a [.Eq] [b] pos) (decide (x=y)):=by
 rw[<- tJ];exact lC GD (yj (g:=id) (fun _ _ r=>by cases r;rfl) (fun _ _ r=>by cases r;rfl) rfl) (lx _) ha hb
end
structure GF (P:Program)(w:World)(K:W.Frag)(mg:Str->Option Value)(base:Heap)(CX:q9)(k:Nat)(x:Str)(n:Nat)(R:List Dt->Res->Prop):Prop where
 ex:∃ f fd ps,jx P w K mg base CX k f fd ps (DH K n R)/\mg x=some (.ref f)/\W.keepIn K (.ref f)=true/\Binds K fd ps []
structure MF (P:Program)(w:World)(K:W.Frag)(mg:Str->Option Value)(base:Heap)(CX:q9)(k:Nat)(C:Addr)(m:Str)(n:Nat)(R:List Dt->Res->Prop):Prop where
 cl:tL K C
 ex:∃ f fd ps,jx P w K mg base CX k f fd ps (DH K n R)/\Meth K C m f/\Binds K fd ps []
section
variable {X:Cx}{G:Gr}{dl:List Slot}{e:Expr}{es:List Expr}{d:Dt}{ds:List Dt}{pos p apos:Pos}{x m:Str}{C:Addr}{fs:List (Str×Dt)}{CX:q9}{k k' n:Nat}{R:List Dt->Res->Prop}{ob:Expr}
theorem bM (F:GF X.prog X.w X.K X.mg X.base CX k x n R)(nx:BS CX)(hr:eC k' X.A)(ha:EA X G dl (e::es) ds)(h:R ds (.ret d))(yl:k<=k':=by decide)(hl:ds.length=n:=by rfl)(hg:Gl X x:=by rfl)(md:(x == ("__debug__":Str))=false:=by decide)(he:starEach (e::es) X.env=(false,eval e X.env)::starEach es X.env:=by rfl)(m8:(backTo pos (starEach es X.env)).any (·.1)=false:=by rfl):EE X G dl (.Call (.Name x p) (e::es) [] pos) d:=by
 obtain⟨f,fd,ps,F,hm,hk,hb⟩:=F.ex
 refine La (dvs:=[]) (vds:=[]) F nx (hr.mono yl) hm hk hb .nil (fun _=>.nil) ha (by rw[List.append_nil];exact hl) (by rw[List.append_nil];exact h) hg md he m8
theorem bB {pl:Sem Bool}(he:EE X G dl ob (.obj C fs))(F:MF X.prog X.w X.K X.mg X.base CX k C m n R)(nx:BS CX)(hr:eC k' X.A)(ha:EA X G dl (e::es) ds)(h:R (.obj C fs::ds) (.ret d))(yl:k<=k':=by decide)(hl:(Dt.obj C fs::ds).length=n:=by rfl)(sy:fs.lookup m=none:=by rfl)
   (m7:starEach (e::es) X.env=(false,eval e X.env)::starEach es X.env:=by rfl) (m8:(backTo pos (starEach es X.env)).any (·.1)=false:=by rfl)
   (ht:eval (.Call (.Attribute ob m apos) (e::es) [] pos) X.env=(do
     let ov <- eval ob X.env
     standAt apos.atName
     let (f,first) <- holding [ov] (getMethod ov m pl)
     callWith pos f first (backTo pos (starEach (e::es) X.env)) (backToKw pos (keywordEach [] X.env))):=by rfl):EE X G dl (.Call (.Attribute ob m apos) (e::es) [] pos) d:=by
 obtain⟨f,fd,ps,Fo,hm,hb⟩:=F.ex
 refine DI (dvs:=[]) (vds:=[]) (pl:=pl) he F.cl hm Fo nx (hr.mono yl) hb .nil (fun _=>.nil) ha (by rw[List.append_nil];exact hl) (by rw[List.append_nil];exact h) sy m7 m8 ht
theorem bL {pl:Sem Bool}(he:EE X G dl ob (.obj C fs))(F:MF X.prog X.w X.K X.mg X.base CX k C m n R)(nx:BS CX)(hr:eC k' X.A)(h:R [.obj C fs] (.ret d))(yl:k<=k':=by decide)(hl:[Dt.obj C fs].length=n:=by rfl)(sy:fs.lookup m=none:=by rfl)
   (ht:eval (.Call (.Attribute ob m apos) [] [] pos) X.env=(do
     let ov <- eval ob X.env
     standAt apos.atName
     let (f,first) <- holding [ov] (getMethod ov m pl)
     callWith pos f first (backTo pos (starEach [] X.env)) (backToKw pos (keywordEach [] X.env))):=by rfl):EE X G dl (.Call (.Attribute ob m apos) [] [] pos) d:=by
 obtain⟨f,fd,ps,Fo,hm,hb⟩:=F.ex
 refine As (dvs:=[]) (vds:=[]) (pl:=pl) he F.cl hm Fo nx (hr.mono yl) hb .nil (fun _=>.nil) hl h sy ht
end
noncomputable def YS:List Value:=[.type "ValueError",.type "Exception",.type "BaseException",.type "object"]
structure ExC (K:W.Frag)(C:Addr):Prop where
 ex:W.excIn K C YS "ValueError.__new__"=true
noncomputable def we:Value->Shared->Prop:=fun _ _=>False
theorem Lb {P:Program}{w:World}{A:Around}{R:Result->Shared->Prop}{s:Shared}{elt tg iter:Expr}{sc:Scope}{pos:Pos}{it acc:Value}{env:Env}(J:Nat->Shared->Prop)
   (turn:∀ n s,J n s->wpAny (model P w) A (pyNext it) (fun r s1=>match r with
     | none=>R (.ok .next) s1
     | some v=>wpAny (model P w) A (letOwnedTupleGo tg it v) (fun _ s2=>wpAny (model P w) A (assign tg env v) (fun _ s3=>wpAny (model P w) A (eval elt env) (fun x s4=>
         wpAny (model P w) A (call (.builtin "list.append") [acc,x]) (fun _ s5=>∃ m,m < n/\J m s5) we s4) we s3) we s2) we s1) we s)
   (n:Nat) (h:J n s):codeAny (model P w) A (.compLoop (.ListComp elt [⟨tg,iter,[],0⟩] sc pos) 0 it acc env) R s:=by
 have off:∀ {B:Value->Shared->Prop} (x:Value) (s':Shared),we x s'->B x s':=fun _ _ z=>z.elim
 refine codeAny_loop rfl J (fun n s hJ=>?_) n h
 show wpAny _ A ((compTurn (.ListComp elt [⟨tg,iter,[],0⟩] sc pos) 0 it acc env).onRaise (fun x=>(do noteFrame x env;theTreesLotGoes x))) _ _ s
 refine wpAny_noted ?_
 rw[compTurn_list1]
 refine wpAny_bind (wpAny_standAt (wpAny_bind (wpAny_mono (turn n s hJ) (fun r s1 h1=>?_) off)))
 cases r with
 | none=>exact wpAny_pure h1
 | some v=>
   refine wpAny_bind (wpAny_mono h1 (fun _ s2 h2=>wpAny_bind (wpAny_mono h2 (fun _ s3 h3=>wpAny_bind (wpAny_bind ?_)) off)) off)
   exact wpAny_mono h3 (fun x s4 h4=>wpAny_bind (wpAny_mono h4 (fun _ s5 h5=>wpAny_pure (wpAny_pure ⟨rfl,h5⟩)) off)) off
noncomputable def ym (cells:List (Str×Addr)):List (Str×NameKind)->List (Str×Addr)->List (Str×Addr)
 | [],cs=>cs
 | (n,k)::r,cs=>if k == .free then ym cells r ((n,(cells.lookup n).getD 0)::cs) else ym cells r cs
noncomputable def k6 (sc:Scope)(env:Env):List (Str×Addr):=ym env.cells sc.names []
theorem yn {env:Env}:∀ (l:List (Str×NameKind)) (cs:List (Str×Addr)),(∀ y∈l,y.2=.free->∃ c,env.cells.lookup y.1=some c) ->
   (forIn l cs fun(x:Str×NameKind) r=>(if x.2 == .free then (do let c <- cellOf env x.1;pure (ForInStep.yield ((x.1,c)::r))) else pure (ForInStep.yield r):Sem _))=pure (ym env.cells l cs)
 | [],cs,_=>rfl
 | (n,k)::l,cs,h=>by
   have hr:∀ y∈l,y.2=.free->∃ c,env.cells.lookup y.1=some c:=fun y hy=>h y (List.mem_cons_of_mem _ hy)
   rw[List.forIn_cons,ym]
   by_cases hk:(k == NameKind.free)=true
   . obtain⟨c,hc⟩:=h (n,k) List.mem_cons_self (by simpa using hk)
     have hc:env.cells.lookup n=some c:=hc
     simp only[hk,if_true,cellOf,hc,pure_bind,Option.getD_some]
     exact yn l _ hr
   . simp only[hk,if_false,pure_bind]
     exact yn l _ hr
theorem yo {sc:Scope}{env:Env}(h:∀ y∈sc.names,y.2=.free->∃ c,env.cells.lookup y.1=some c):closureFor sc env=pure (k6 sc env):=by
 unfold closureFor k6
 have:=yn (env:=env) sc.names [] h
 simp only[bind_pure]
 refine Eq.trans ?_ this
 congr 1
theorem qr {cells:List (Str×Addr)}{y:Str}{c:Addr}:∀ (l:List (Str×NameKind)) (cs:List (Str×Addr)),(ym cells l cs).lookup y=some c->((y,NameKind.free)∈l/\(cells.lookup y).getD 0=c)\/cs.lookup y=some c
 | [],cs,h=>.inr h
 | (n,k)::l,cs,h=>by
   rw[ym] at h
   by_cases hk:(k == NameKind.free)=true
   . rw[if_pos hk] at h
     have Vq:k=.free:=by simpa using hk
     subst Vq
     rcases qr l _ h with⟨h1,h2⟩ | h1
     . exact .inl ⟨List.mem_cons_of_mem _ h1,h2⟩
     . rw[List.lookup_cons] at h1
       cases q:(y == n) with
       | true=>
         rw[q] at h1
         have e:y=n:=by simpa using q
         subst e
         exact .inl ⟨List.mem_cons_self,Option.some.inj h1⟩
       | false=>rw[q] at h1;exact .inr h1
   . rw[if_neg hk] at h
     rcases qr l _ h with⟨h1,h2⟩ | h1
     . exact .inl ⟨List.mem_cons_of_mem _ h1,h2⟩
     . exact .inr h1
theorem jA {cells:List (Str×Addr)}{y:Str}:∀ (l:List (Str×NameKind)) (cs:List (Str×Addr)),((y,NameKind.free)∈l\/∃ c,cs.lookup y=some c)->∃ c,(ym cells l cs).lookup y=some c
 | [],cs,h=>by
   rcases h with h | h
   . cases h
   . exact h
 | (n,k)::l,cs,h=>by
   rw[ym]
   by_cases hk:(k == NameKind.free)=true
   . rw[if_pos hk]
     refine jA l _ ?_
     rcases h with h | ⟨c,h⟩
     . rcases List.mem_cons.mp h with h | h
       . cases h;exact .inr ⟨_,by rw[List.lookup_cons,show(y == y)=true by simp]⟩
       . exact .inl h
     . refine .inr ?_
       rw[List.lookup_cons]
       cases q:(y == n) with
       | true=>exact⟨_,rfl⟩
       | false=>exact⟨c,h⟩
   . rw[if_neg hk]
     refine jA l _ ?_
     rcases h with h | h
     . rcases List.mem_cons.mp h with h | h
       . cases h;exact absurd rfl hk
       . exact .inl h
     . exact .inr h
theorem fH {env:Env}{y:Str}{k:NameKind}:∀ {names:List (Str×NameKind)},(names.map fun(n,k)=>if (k == NameKind.free && env.scope.kind == .function && env.kindOf n == some .cell) then (n,NameKind.cell) else (n,k)).lookup y=some k->∃ k',(y,k')∈names/\(k=k'\/k'=.free)
 | [],h=>by simp at h
 | (n,kk)::r,h=>by
   rw[List.map_cons,List.lookup_cons] at h
   by_cases hc:(kk == NameKind.free && env.scope.kind == .function && env.kindOf n == some .cell)=true
   . simp only[hc,if_true] at h
     cases q:(y == n) with
     | true=>
       have e:y=n:=by simpa using q
       subst e
       have:kk=.free:=by
         have:=hc;simp at this;exact this.1.1
       exact⟨kk,List.mem_cons_self,.inr this⟩
     | false=>
       rw[q] at h
       obtain⟨k',h1,h2⟩:=fH h
       exact⟨k',List.mem_cons_of_mem _ h1,h2⟩
   . simp only[hc,Bool.false_eq_true,if_false] at h
     cases q:(y == n) with
     | true=>
       have e:y=n:=by simpa using q
       subst e
       rw[q] at h
       exact⟨kk,List.mem_cons_self,.inl (Option.some.inj h).symm⟩
     | false=>
       rw[q] at h
       obtain⟨k',h1,h2⟩:=fH h
       exact⟨k',List.mem_cons_of_mem _ h1,h2⟩
theorem mn {env:Env}{y:Str}:∀ {names:List (Str×NameKind)},names.lookup y=some .free->(names.map fun(n,k)=>if (k == NameKind.free && env.scope.kind == .function && env.kindOf n == some .cell) then (n,NameKind.cell) else (n,k)).lookup y=some .cell \/
   (names.map fun(n,k)=>if (k == NameKind.free && env.scope.kind == .function && env.kindOf n == some .cell) then (n,NameKind.cell) else (n,k)).lookup y=some .free
 | [],h=>by simp at h
 | (n,kk)::r,h=>by
   rw[List.map_cons,List.lookup_cons]
   rw[List.lookup_cons] at h
   cases q:(y == n) with
   | true=>
     rw[q] at h
     have:kk=.free:=Option.some.inj h
     subst this
     by_cases hc:(NameKind.free == NameKind.free && env.scope.kind == .function && env.kindOf n == some .cell)=true
     . left;simp only[hc,if_true];simp[q]
     . right;simp only[hc,Bool.false_eq_true,if_false];simp[q]
   | false=>
     rw[q] at h
     have ih:=mn (env:=env) h
     by_cases hc:(kk == NameKind.free && env.scope.kind == .function && env.kindOf n == some .cell)=true
     . simp only[hc,if_true,q];exact ih
     . simp only[hc,Bool.false_eq_true,if_false,q];exact ih
structure gD (X:Cx)(N:List Str)(ix:List Nat)(x:Str)(sc:Scope):Prop where
 nd:N.Nodup
 nm:N=x::ix.map (fun j=>X.N.getD j "")
 kind:sc.kind=.function
 uV:∀ y∈sc.names,y.2≠.cell
 names:∀ y∈sc.names,y.2=.local->sc.names.lookup y.1=some .local
 hx:sc.names.lookup x=some .local
 fr:∀ y∈sc.names,y.2=.free->X.env.kindOf y.1=some .cell\/X.env.kindOf y.1=some .free
 S5:∀ j∈ix,∃ y,X.N[j]?=some y/\sc.names.lookup y=some .free
noncomputable def aW (X:Cx)(N:List Str)(sc:Scope)(C:Addr)(fp:List Addr)(s:Shared)(H:Hp):Cx:=
 { X with N:=N,s₀:=s,H₀:=H,env:=compEnvC sc (k6 sc X.env) C X.env,outer:=X.stack,stack:=X.stack,ex:=fp,fn:=fun _=>false,pn:=[],xe:=we}
noncomputable def frees (ix:List Nat)(st:L2.St):L2.St:=ix.map fun j=>(st[j]?).join
section
variable {X:Cx}{N:List Str}{ix:List Nat}{x:Str}{sc:Scope}{pins:List (Addr×Obj)}{st:L2.St}{H H':Hp}{s s':Shared}{C D:Addr}{fp:List Addr}{h1:Heap}
theorem G8 (B:gD X N ix x sc)(ok:X.Ok):closureFor sc X.env=pure (k6 sc X.env):=yo fun y hy hk=>ok.has y.1 (B.fr y hy hk)
theorem uW (B:gD X N ix x sc)(ok:X.Ok){y:Str}{c:Addr}(h:(k6 sc X.env).lookup y=some c):X.env.cells.lookup y=some c/\(y,NameKind.free)∈sc.names:=by
 rcases qr _ _ h with⟨h1,h2⟩ | h1
 . obtain⟨c',h3⟩:=ok.has y (B.fr _ h1 rfl)
   rw[h3] at h2
   cases h2
   exact⟨h3,h1⟩
 . cases h1
theorem yp (B:gD X N ix x sc)(I:L2.Inv X pins st H s)(hC:s.heap.objs.size<=C)(hf:∀ b∈fp,kL X pins H b)(de:∀ b∈fp,b < s.heap.objs.size):(aW X N sc C fp s H).Ok where
 mod:=I.ok.mod
 kind:=B.kind
 glob:=I.ok.glob
 blt:=I.ok.blt
 above:=hC
 inj:=fun y z c h1 h2=>I.ok.inj y z c (uW B I.ok h1).1 (uW B I.ok h2).1
 has:=fun y hy=>by
   have hy:(relabel sc X.env).names.lookup y=some .cell\/(relabel sc X.env).names.lookup y=some .free:=hy
   have:(y,NameKind.free)∈sc.names:=by
     rcases hy with hy | hy
     . obtain⟨k',h1,h2⟩:=fH hy
       rcases h2 with h2 | h2
       . subst h2;exact absurd rfl (B.uV _ h1)
       . subst h2;exact h1
     . obtain⟨k',h1,h2⟩:=fH hy
       rcases h2 with h2 | h2 <;> subst h2 <;> exact h1
   exact jA _ _ (.inl this)
 Rq:=fun y c h=>by cases h
 hd:=I.ok.hd
 frames:=I.ok.frames
 RT:=.inl rfl
 Kz:=fun b hb=>⟨Nat.ne_of_lt (Nat.lt_of_lt_of_le (de b hb) hC),fun y c h=>(hf b hb).2.2.2.2.1 y c (uW B I.ok h).1⟩
 bs:=I.bs
 Dm:=Nat.le_trans I.ok.Dm I.sz
 zT:=fun b o e hb=>by
   rcases (hf b hb).2.2.2.1 with z | z
   . exact I.ok.zT b o e z
   . exact absurd (Nat.lt_of_lt_of_le (Heap.lt_size e) (Nat.le_trans I.ok.Dm z)) (Nat.lt_irrefl _)
 zU:=fun b hb z=>by
   rcases List.mem_cons.mp (I.uB b z) with z | z
   . exact(hf b hb).2.1 z
   . exact(hf b hb).2.2.1 z
 qV:=I.stack
 M9:=I.tG
theorem Fd (B:gD X N ix x sc)(I:L2.Inv X pins st H s)(hf:∀ b∈fp,kL X pins H b)(de:∀ b∈fp,b < s.heap.objs.size)(hC:C=s.heap.objs.size+1)(k:∀ b o,s.heap.get? b=some o->h1.get? b=some o)(hn:h1.Ns C fun _=>none)(hD:h1.get? s.heap.objs.size=some { cls:=.type "list",data:=.seq ([]:List Value).toArray 0}){t':Nat}:L2.Inv (aW X N sc C fp s H) [] (none::frees ix st) (upd H s.heap.objs.size (.lst [])) { s with heap:=h1,toks:=t'}:=by
 have Nl:s.heap.objs.size<=C:=by rw[hC];exact Nat.le_succ _
 have fr:∀ a,s.heap.objs.size<=a->H a=none:=fun a ha=>I.a5.fresh ha
 have ok:=yp B I Nl hf de
 have BP:∀ y c,(k6 sc X.env).lookup y=some c->H c=none/\c < s.heap.objs.size/\∃ v,s.heap.IsCell c v:=fun y c h=>by
   have h:=(uW B I.ok h).1
   obtain⟨v,q⟩:=I.cell y c h
   exact⟨I.o9 y c h,q.lt,v,q⟩
 refine⟨ok,rfl,I.bare,Un.laid k (Nat.le_refl _) (fr _ (Nat.le_refl _)),⟨_,hn,fun i y v e1 e2 e3=>?_⟩,fun y c h=>?_,?_,fun y c h=>?_,fun p hp=>absurd (show p∈([]:List (Addr×Obj)) from hp) (by simp),?_,?_⟩
 . have e1:N[i]?=some y:=e1
   cases i with
   | zero=>cases e2
   | succ i=>
     rw[B.nm,List.getElem?_cons_succ,List.getElem?_map] at e1
     rw[List.getElem?_cons_succ] at e2
     unfold frees at e2
     rw[List.getElem?_map] at e2
     cases q:ix[i]? with
     | none=>rw[q] at e1;cases e1
     | some j=>
       rw[q] at e1 e2
       obtain⟨y',Ki,G9⟩:=B.S5 j (List.mem_of_getElem? q)
       have Lc:=PySem.mem_of_lookup G9
       have ey:y=y':=by
         have e1:X.N.getD j ""=y:=Option.some.inj e1
         rw[List.getD_eq_getElem?_getD,Ki] at e1
         exact e1.symm
       subst ey
       have e2:(st[j]?).join=some v:=Option.some.inj e2
       have S6:st[j]?=some (some v):=by
         cases q2:st[j]? with
         | none=>rw[q2] at e2;cases e2
         | some z=>rw[q2] at e2;rw[show z=some v from e2]
       have kd:=B.fr _ Lc rfl
       have S9:uA X.env.scope y:=by
         rcases kd with z | z
         . exact .inr (.inl z)
         . exact .inr (.inr z)
       obtain⟨m,_,hl⟩:=I.loc
       obtain⟨u,r,l⟩:=hl j y v Ki S6 S9
       refine⟨u,r,.inr ?_⟩
       rcases l with⟨z,_⟩ | ⟨_,c,hc,ic⟩
       . rcases kd with z' | z' <;> rw[z] at z' <;> cases z'
       . obtain⟨c',BQ⟩:=jA (cells:=X.env.cells) sc.names [] (.inl Lc)
         have:=(uW B I.ok BQ).1
         rw[hc] at this;cases this
         obtain⟨oc,Dp,hd⟩:=ic
         refine⟨?_,c,BQ,oc,k _ _ Dp,hd⟩
         rcases e3 with e3 | e3 | e3
         . have e3:(relabel sc X.env).names.lookup y=some .local:=e3
           rcases mn (env:=X.env) G9 with z | z
           . exact absurd (e3.symm.trans z) (by decide)
           . exact absurd (e3.symm.trans z) (by decide)
         . exact .inl e3
         . exact .inr e3
 . obtain⟨_,_,v,oc,Dp,hd⟩:=BP y c h
   exact⟨v,oc,k _ _ Dp,hd⟩
 . show upd H s.heap.objs.size (.lst []) C=none
   rw[ag (by rw[hC];exact Nat.succ_ne_self _)]
   exact fr _ Nl
 . show upd H s.heap.objs.size (.lst []) c=none
   obtain⟨q1,q2,_⟩:=BP y c h
   rw[ag (Nat.ne_of_lt q2)]
   exact q1
 . exact I.a5.laid k (Nat.le_refl _) ⟨Nat.zero_le _,[],0,.nil,hD⟩
 . show(none::frees ix st).length=N.length
   rw[B.nm]
   unfold frees
   simp
noncomputable def Pk (te:TE)(fs:L2.St)(J:It)(D:Addr)(Q:List V->Hp->Prop)(H:Hp):Prop:=
 ∃ W:Nat->Nat->List V->Hp->Prop,(∃ m,W 0 m [] (upd H D (.lst [])))/\∀ i m ys H1,W i m ys H1 ->
   (J.stop i H1/\Q ys H1)\/(J.go i H1/\ys.length < sizeLine/\∀ v H2,J.Gy i H1 v H2->te (some v::fs) H2 fun y H3=>H3 D=some (.lst ys)/\∃ m',m' < m/\W (i+1) m' (ys ++ [y]) (upd H3 D (.lst (ys ++ [y]))))
theorem DK {elt iter:Expr}{px pos:Pos}{te:TE}{J:It}{it:Addr}{tn:Nat->Heap->Prop}{Q:Addr->List V->Hp->Prop}{RR:Value->Addr->Result->Shared->Prop}{E:Value->Shared->Prop}(hc:X.calm=true)(B:gD X N ix x sc)(jM:∀ C fp s H,PE (aW X N sc C fp s H) elt te)(I:L2.Inv X pins st H s)(T:Turn X.prog X.w X.K (.Name x px) J fp it tn)(h0:tn 0 s.heap)(hf:∀ b∈fp,kL X pins H b)(hq:∀ D,H D=none->Pk te (frees ix st) J D (Q D) H)(Ta:∀ D C ys H' s',L2.Inv X pins st H' s'->(∃ m,s'.heap.Ns C m)->kL X pins H' C->Q D ys H'->RR (.ref D) C (.ok .next) s'):wpAny (model X.prog X.w) X.A (newList []) (fun acc s3=>wpAny (model X.prog X.w) X.A (newFunctionEnv sc X.env.globals (k6 sc X.env) [] X.env.qual none .none (some X.env)) (fun Ax s4=>codeAny (model X.prog X.w) X.A (.compStart (.ListComp elt [⟨.Name x px,iter,[],0⟩] sc pos) 0 (.ref it) acc { Ax with scope:=relabel sc X.env}) (RR acc Ax.locals) s4) E s3) E s:=by
 have de:∀ b∈fp,b < s.heap.objs.size:=fun b hb=>by
   obtain⟨o,e,_⟩:=T.obj _ _ h0 b hb
   exact Heap.lt_size e
 refine wpAny_newObj_type (wpAny_newFunctionEnv B.uV (fun y hy=>absurd hy (by simp)) (fun h1 Gb Fe=>?_) B.kind)
 dsimp only at Gb Fe ⊢
 generalize hG:s.heap.push { cls:=.type "list",dict:=none,data:=.seq ([]:List Value).toArray}=g at Gb Fe ⊢
 have hC:g.objs.size=s.heap.objs.size+1:=by rw[<- hG,Heap.size_push]
 have Vr:s.heap.objs.size≠g.objs.size:=by rw[hC];exact Nat.ne_of_lt (Nat.lt_succ_self _)
 have old:∀ b o,s.heap.get? b=some o->h1.get? b=some o:=fun b o e=>
   Fe.extBut b o (by rw[hC];exact Nat.ne_of_lt (Nat.lt_succ_of_lt (Heap.lt_size e))) (Heap.get?_push_of_some _ (hG ▸ Heap.get?_push_of_some _ e))
 have Hc:h1.get? s.heap.objs.size=some { cls:=.type "list",data:=.seq ([]:List Value).toArray 0}:=Fe.extBut _ _ Vr (Heap.get?_push_of_some _ (hG ▸ Heap.get?_push_size _ rfl))
 have hD:H s.heap.objs.size=none:=I.a5.fresh (Nat.le_refl _)
 obtain⟨W,⟨m0,w0⟩,turn⟩:=hq _ hD
 have I0:=Fd (t':=s.toks+([]:List (Str×Value)).length) B I hf de hC old (by simpa using Gb) Hc
 have Nm:tn 0 h1:=T.keep _ _ _ h0 fun b _ o e=>old b o e
 have nH:s.heap.objs.size<=g.objs.size:=by rw[hC];exact Nat.le_succ _
 have pI:∀ {H':Hp},(∀ b∈fp,H' b=none)->∀ b∈fp,kL (aW X N sc g.objs.size fp s H) [] H' b:=fun {H'} hn b hb=>
   ⟨hn b hb,((yp B I nH hf de).Kz b hb).1,(yp B I nH hf de).zU b hb,.inl hb,((yp B I nH hf de).Kz b hb).2,fun p hp=>absurd (show p∈([]:List (Addr×Obj)) from hp) (by simp)⟩
 have hN:(aW X N sc g.objs.size fp s H).N[0]?=some x:=by
   show N[0]?=some x
   rw[B.nm];rfl
 have Kj:(aW X N sc g.objs.size fp s H).env.scope.names.lookup x=some .local:=lookup_relabel_local B.hx
 have loop:∀ s3:Shared,s3={ s with heap:=h1,toks:=s.toks+([]:List (Str×Value)).length} ->
     codeAny (model X.prog X.w) X.A (.compLoop (.ListComp elt [⟨.Name x px,iter,[],0⟩] sc pos) 0 (.ref it) (.ref s.heap.objs.size) (compEnvC sc (k6 sc X.env) g.objs.size X.env)) (RR (.ref s.heap.objs.size) g.objs.size) s3:=by
   rintro s3 rfl
   refine Lb (fun n s'=>∃ i ys σ H',L2.Inv (aW X N sc g.objs.size fp s H) [] (σ::frees ix st) H' s'/\tn i s'.heap/\(∀ b∈fp,H' b=none)/\W i n ys H') ?_ m0
     ⟨0,[],none,_,I0,Nm,fun b hb=>?_,w0⟩
   . rintro n s5 ⟨i,ys,σ,H5,I5,Ga,Kf,w5⟩
     rcases turn i n ys H5 w5 with⟨stop,qn⟩ | ⟨go,hz,step⟩
     . refine bX (T.done (aW X N sc g.objs.size fp s H) rfl rfl rfl hc i [] s5 _ H5 we I5 (pI Kf) Ga stop) fun r s6 ⟨hr,I6⟩=>?_
       subst hr
       refine Ta _ _ ys H5 s6 ?_ ?_ (I.uE nH I6.free) qn
       . exact I.Gu I6.os I6.base I6.a5 I6.bare fun b hb=>⟨(hf b hb).2.2.2.1,(hf b hb).2.1,(hf b hb).2.2.2.2.1,(hf b hb).2.2.2.2.2⟩
       . obtain⟨m,hm,_⟩:=I6.loc
         exact⟨m,hm⟩
     . refine bX (T.item (aW X N sc g.objs.size fp s H) rfl rfl rfl hc i [] s5 _ H5 we I5 (pI Kf) Ga go) fun r s6 ⟨u,hr,h6⟩=>?_
       subst hr
       refine bX h6 fun _ s7 ⟨v,H7,I7,r7,y7,Hd,Tb⟩=>?_
       have Tc:=I7.pinned (pI Tb) (T.obj _ _ Hd)
       refine bX (bx (X:=aW X N sc g.objs.size fp s H) (pos:=px) B.nd hN (.inl Kj) (.inr Kj) _ s7 _ H7 v u (fun σ' H'=>σ'=some v::frees ix st/\H'=H7) Tc r7 ⟨rfl,rfl⟩) fun _ s8 h8=>?_
       obtain⟨σ8,H8,I8,rfl,rfl⟩:=h8
       refine bX (jM g.objs.size fp s H _ s8 _ H8 _ I8 (step v H8 y7)) fun z s9 ⟨y,H9,I9,r9,Td,m',hm,w9⟩=>?_
       refine bX (og _ s9 _ H9 (.ref s.heap.objs.size) [y] (.ref s.heap.objs.size) [z] (fun _ H'=>H'=upd H9 s.heap.objs.size (.lst (ys ++ [y]))) I9 rfl (.cons r9 .nil) ⟨_,ys,y,rfl,rfl,Td,hz,rfl⟩) fun _ YT Te=>?_
       obtain⟨_,YU,He,_,rfl⟩:=Te
       refine⟨m',hm,i+1,ys ++ [y],some v,_,He.jw (pins:=[]),T.keep _ _ _ Hd fun b hb o e=>(He.pin (b,o) (List.mem_append_right _ (List.mem_append_right _ (fG hb e)))).1,fun b hb=>?_,w9⟩
       obtain⟨o,e,d⟩:=T.obj _ _ Hd b hb
       exact(He.pin (b,o) (List.mem_append_right _ (List.mem_append_right _ (fG hb e)))).2.1
   . rw[ag (Nat.ne_of_lt (de b hb))]
     exact(hf b hb).1
 exact codeAny_compStart_list (loop _ rfl) (T.self _ 0 _ _ _ Nm (loop _ rfl))
end
noncomputable def Vs (K:PySem.W.Frag)(G:Gr)(dl:List Slot)(o:Own):TE:=fun st H Q=>∃ Hf,dJ K G st Hf H dl/\∀ p aH H',bb Hf H aH H'->H p=none->aH p=none->gC K aH H' p o->Q (.ref p) H'
noncomputable abbrev EO (X:Cx)(G:Gr)(dl:List Slot)(e:Expr)(o:Own):Prop:=PE X e (Vs X.K G dl o)
noncomputable def Tf:Own->Dt
 | .lst ds=>.lst ds
 | .eB k=>.eB k
 | .obj C fs=>.obj C fs
 | .Aq _ C fs=>.obj C fs
 | .rh C fs gs nm n=>.uO C fs gs nm n
 | .yb _ C fs gs nm n=>.uO C fs gs nm n
 | .lz k=>.lz k
section
variable {K:W.Frag}{G:Gr}{st:L2.St}{Hf H aH H':Hp}{dl:List Slot}{p:Addr}{w:Own}{u:HO}
theorem Hg (g:bb Hf H aH H')(n:H p=none)(n':aH p=none)(e:H' p=some u):bb Hf H (upd aH p u) H':=
 ⟨g.big,g.bC.trans (bI n'),fun b o h=>by
   by_cases hb:b=p
   . subst hb;rw[ak] at h;cases h;exact e
   . rw[ag hb] at h;exact g.sub _ _ h,fun a o h=>by
   by_cases hb:a=p
   . subst hb;exact .inr (.inl n)
   . rw[ag hb] at h;exact g.new a o h⟩
theorem DL (r:gC K Hf H p w)(n:Hf p=none):∃ u,H p=some u/\Rep K (upd Hf p u) (.ref p) (Tf w):=by
 cases w with
 | lst ds=>obtain⟨vs,h,r⟩:=r;exact⟨_,h,.lst ak (r.mono (bI n))⟩
 | eB ds=>obtain⟨vs,h,r⟩:=r;exact⟨_,h,.eB ak (r.mono (bI n))⟩
 | obj C ds=>obtain⟨dx,fs,h,r⟩:=r;exact⟨_,h,.obj (.of ak) (r.mono (bI n))⟩
 | Aq x C ds=>obtain⟨_,dx,fs,h,r⟩:=r;exact⟨_,h,.obj (.of ak) (r.mono (bI n))⟩
 | rh C ds gs nm k=>obtain⟨dx,fs,b,ls,q,h,r⟩:=r;exact⟨_,h,.uO q (.of ak) (r.mono (bI n))⟩
 | yb x C ds gs nm k=>obtain⟨_,dx,fs,b,ls,q,h,r⟩:=r;exact⟨_,h,.uO q (.of ak) (r.mono (bI n))⟩
 | lz ks=>exact⟨_,r,.lz ak⟩
theorem dJ.Pl (S:dJ K G st Hf H dl)(g:bb Hf H aH H'){i:Nat}(n:H p=none)(n':aH p=none)(r:gC K aH H' p w):dJ K G (st.set i (some (.ref p))) aH H' (dl.set i (.own w)):=by
 have ln:=S.len
 have S':=S.grow g
 have pn:∀ (j:Nat) (o':Own) (a:Addr),dl[j]?=some (Slot.own o')->st[j]?=some (some (V.ref a))->a≠p:=fun j o' a h1 h2=>by
   obtain⟨b,q1,_,_,q4⟩:=S.own j o' h1
   rw[h2] at q1;cases q1
   obtain⟨u,hu⟩:=q4.some
   exact aw hu n
 refine⟨S'.gr,by simp[S.len],fun j x h=>?_,fun j o' h=>?_,fun j k o1 o2 a h1 h2 h3 h4=>?_⟩
 . by_cases e:i=j
   . subst e
     by_cases hl:i < dl.length
     . rw[List.getElem?_set_self hl] at h;cases h
     . rw[List.getElem?_eq_none (by simp;omega)] at h;cases h
   . rw[List.getElem?_set_ne e] at h ⊢;exact S'.val j x h
 . by_cases e:i=j
   . subst e
     by_cases hl:i < dl.length
     . rw[List.getElem?_set_self hl] at h;cases h
       exact⟨p,List.getElem?_set_self (by omega),n',S.gr.big.free n,r⟩
     . rw[List.getElem?_eq_none (by simp;omega)] at h;cases h
   . rw[List.getElem?_set_ne e] at h ⊢
     exact S'.own j o' h
 . by_cases ej:i=j
   . by_cases ek:i=k
     . omega
     . subst ej
       rw[List.getElem?_set_ne ek] at h2 h4
       by_cases hl:i < st.length
       . rw[List.getElem?_set_self hl] at h3;cases h3
         exact absurd rfl (pn k o2 _ h2 h4)
       . rw[List.getElem?_eq_none (by simp;omega)] at h3;cases h3
   . rw[List.getElem?_set_ne ej] at h1 h3
     by_cases ek:i=k
     . subst ek
       by_cases hl:i < st.length
       . rw[List.getElem?_set_self hl] at h4;cases h4
         exact absurd rfl (pn j o1 _ h1 h3)
       . rw[List.getElem?_eq_none (by simp;omega)] at h4;cases h4
     . rw[List.getElem?_set_ne ek] at h2 h4
       exact S.E7 j k o1 o2 a h1 h2 h3 h4
theorem dJ.bC (S:dJ K G st Hf H dl){i:Nat}(hd:dl[i]?=some (.own w)):∃ aH,aE Hf aH/\dJ K G st aH H (dl.set i (.val (Tf w))):=by
 have ln:=S.len
 obtain⟨p,h1,h2,h3,h4⟩:=S.own i w hd
 obtain⟨u,hu,rp⟩:=DL h4 h2
 have hl:i < dl.length:=(List.getElem?_eq_some_iff.mp hd).1
 have sm:aE Hf (upd Hf p u):=bI h2
 refine⟨upd Hf p u,sm,⟨S.gr.big,S.gr.bC.trans sm,fun b o h=>?_,fun a o h=>?_⟩,by simp[S.len],fun j x h=>?_,fun j o' h=>?_,fun j k o1 o2 a q1 q2 q3 q4=>?_⟩
 . by_cases hb:b=p
   . subst hb;rw[ak] at h;cases h;exact hu
   . rw[ag hb] at h;exact S.gr.sub _ _ h
 . by_cases hb:a=p
   . subst hb;exact .inr (.inl h3)
   . rw[ag hb] at h;exact S.gr.new a o h
 . by_cases e:i=j
   . subst e
     rw[List.getElem?_set_self hl] at h;cases h
     exact⟨_,h1,rp⟩
   . rw[List.getElem?_set_ne e] at h
     obtain⟨v,z1,z2⟩:=S.val j x h
     exact⟨v,z1,z2.mono sm⟩
 . by_cases e:i=j
   . subst e;rw[List.getElem?_set_self hl] at h;cases h
   . rw[List.getElem?_set_ne e] at h
     obtain⟨a,z1,z2,z3,z4⟩:=S.own j o' h
     have ne:a≠p:=fun q=>by subst q;exact e (S.E7 i j _ _ _ hd h h1 z1)
     exact⟨a,z1,by rw[ag ne];exact z2,z3,z4.grow rfl sm⟩
 . have tr:∀ (j:Nat) o',(dl.set i (.val (Tf w)))[j]?=some (.own o')->dl[j]?=some (.own o'):=fun j o' h=>by
     by_cases e:i=j
     . subst e;rw[List.getElem?_set_self hl] at h;cases h
     . rw[List.getElem?_set_ne e] at h;exact h
   exact S.E7 j k _ _ a (tr _ _ q1) (tr _ _ q2) q3 q4
end
section
variable {X:Cx}{G:Gr}{E:XK}{dl:List Slot}{a b e:Expr}{i:Int}{d:Dt}{ds:List Dt}{pos p:Pos}{o:Out}{x:Str}{u v:Bool}{sts:List Stmt}{C:Addr}{w:Own}{fs:List (Str×Dt)}
theorem Ld (h:EO X G dl e w):EE X G dl e (Tf w):=gh h fun st H Q ⟨Hf,S,k⟩=>⟨Hf,S,fun p aH H' g n n' r=>by
 obtain⟨u,hu,rp⟩:=DL r n'
 exact k _ _ H' (Hg g n n' hu) rp⟩
theorem jB (h:EO X G dl e (.lst ds)):EE X G dl e (.lst ds):=Ld h
theorem Tg (h:EO X G dl e (.obj C fs)):EE X G dl e (.obj C fs):=Ld h
theorem Ay {w':Own}(h:EO X G dl e w)(q:w=w'):EO X G dl e w':=by subst q;exact h
theorem j4 (n:Nat){x:Str}{pos':Pos}(hN:X.N.Nodup)(he:EO X G dl e w)(hi:X.N[n]?=some x:=by rfl)(hx:Loc X.env.scope x:=by first | exact Or.inl rfl | exact Or.inr rfl)(hs:swapsWith e (some (.Name x pos')) pos.line X.env=pure false:=by rfl)(hf:X.fn x=true\/X.env.scope.names.lookup x=some .local:=by first | exact .inl rfl | exact .inr rfl | assumption):ES X G E dl (.Assign [.Name x pos'] e pos) (.nx (dl.set n (.own w))):=
 sv (BY hN hi hx he hs hf) fun D st H ⟨Hf,S,k⟩=>⟨Hf,S,fun p Hf1 H1 g1 n1 n2 r1=>k _ Hf1 H1 g1.bC (S.Pl g1 n1 n2 r1)⟩
theorem lg (h:EO X G dl e w):ES X G E dl (.Return (some e) pos) (.ro w):=sv (BX h) fun D st H ⟨Hf,S,k⟩=>⟨Hf,S,fun p Hf1 H1 g1 n1 n2 r1=>k p Hf1 H1 (S.gr.trans g1) (S.gr.big.free n1) n2 r1⟩
theorem Lf (n:Nat)(hd:dl[n]?=some (.own w):=by rfl)(hN:X.N[n]?=some x:=by rfl)(hv:uA X.env.scope x:=by first | exact Or.inl rfl | exact Or.inr (Or.inl rfl) | exact Or.inr (Or.inr rfl))(hb:(x == ("__debug__":Str))=false:=by decide)(lO:(x == ("__classdict__":Str))=false:=by decide):ES X G E dl (.Return (some (.Name x p)) pos) (.ro w):=
 sv (BX (i0 hN hv hb lO)) fun D st H ⟨Hf,S,k⟩=>by
   obtain⟨q,h1,h2,h3,h4⟩:=S.own n w hd
   exact⟨_,h1,k q Hf H S.gr h3 h2 h4⟩
theorem uX (i:Nat)(h:me X G E (dl.set i (.val (Tf w))) sts o)(hd:dl[i]?=some (.own w):=by rfl):me X G E dl sts o:=Ar h fun D st H ⟨Hf,S,k⟩=>by
 obtain⟨aH,sm,S'⟩:=S.bC hd
 exact⟨aH,S',k.mono sm⟩
noncomputable def tOv (K:W.Frag)(G:Gr)(dl:List Slot)(n:Nat)(w:Own):TE:=fun st H Q=>∃ Hf a,dJ K G st Hf H dl/\st[n]?=some (some (.ref a))/\Hf a=none/\gC K Hf H a w/\Q (.ref a) H
theorem uY (n:Nat)(hd:dl[n]?=some (.own w))(hN:X.N[n]?=some x)(hv:uA X.env.scope x)(hb:(x == ("__debug__":Str))=false)(lO:(x == ("__classdict__":Str))=false):PE X (.Name x p) (tOv X.K G dl n w):=
 gh (i0 hN hv hb lO) fun st H Q ⟨Hf,a,S,h1,_,_,q⟩=>⟨_,h1,q⟩
theorem pN (n:Nat)(hb:EE X G dl b (.int i))(h:ny ds i=some d)(hd:dl[n]?=some (.own (.lst ds)):=by rfl)(hN:X.N[n]?=some x:=by rfl)(hv:uA X.env.scope x:=by first | exact Or.inl rfl | exact Or.inr (Or.inl rfl) | exact Or.inr (Or.inr rfl))(md:(x == ("__debug__":Str))=false:=by decide)(lO:(x == ("__classdict__":Str))=false:=by decide)(hs:jZ b:=by intro _ _;rfl):EE X G dl (.Subscript (.Name x p) b pos) d:=
 gh (uJ x4 (uY (p:=p) n hd hN hv md lO) hb hs) fun st H Q ⟨Hf,S,k⟩=>by
   obtain⟨q,h1,h2,h3,h4⟩:=S.own n _ hd
   refine⟨Hf,q,S,h1,h2,h4,Hf,S,fun z Hf1 H1 g1 r1=>?_⟩
   cases r1
   obtain⟨vs,hq,rp⟩:=h4
   obtain⟨v,hv1,hv2⟩:=rp.ny h
   exact⟨q,vs,i,v,rfl,rfl,.of (g1.big _ _ hq),hv1,k v Hf1 H1 g1 (hv2.mono g1.bC)⟩
theorem jC (n:Nat){m:Nat}{ps pn:Pos}(he:EE X G dl e d)(hb:EE X G dl b (.int i))(h:B8 ds.length i=some m)(hd:dl[n]?=some (.own (.lst ds)):=by rfl)(hN:X.N[n]?=some x:=by rfl)
   (hv:uA X.env.scope x:=by first | exact Or.inl rfl | exact Or.inr (Or.inl rfl) | exact Or.inr (Or.inr rfl)) (md:(x == ("__debug__":Str))=false:=by decide) (lO:(x == ("__classdict__":Str))=false:=by decide)
   (ha:∀ v,assign (.Subscript (.Name x pn) b ps) X.env v=(do
     let ov <- holding [v] (eval (.Name x pn) X.env)
     let iv <- holding [v,ov] (eval b X.env)
     standAt ps
     holding [v,ov,iv] (setItem ov iv v)
     release [v,ov,iv] []):=by intro _;rfl)
   (hs:swapsWithSole [.Subscript (.Name x pn) b ps] e pos.line X.env=pure false:=by rfl) (hw:swappedStores [.Subscript (.Name x pn) b ps] e X.env=pure none:=by rfl)
   (h1:(assignEach [.Subscript (.Name x pn) b ps] X.env).map (·.2)=[assign (.Subscript (.Name x pn) b ps) X.env]:=by rfl) :
   ES X G E dl (.Assign [.Subscript (.Name x pn) b ps] e pos) (.nx (dl.set n (.own (.lst (ds.set m d))))):=
 sv (xX he (Ou (uY (p:=pn) n hd hN hv md lO) hb set_list ha) hs hw h1) fun D st H ⟨Hf,S,k⟩=>⟨Hf,S,fun v Hf1 H1 g1 r1=>by
   have S1:=S.grow g1
   obtain⟨q,z1,z2,z3,z4⟩:=S1.own n _ hd
   refine⟨Hf1,q,S1,z1,z2,z4,Hf1,S1,fun iv bO H2 g2 r2=>?_⟩
   cases r2
   have S2:=S1.grow g2
   obtain⟨q',y1,y2,y3,vs,hq,rp⟩:=S2.own n _ hd
   rw[z1] at y1;cases y1
   refine⟨q,vs,i,m,rfl,rfl,hq,by rw[rp.length];exact h,?_⟩
   exact k st bO _ (g1.bC.trans g2.bC) (S2.E8 hd z1 ⟨_,ak,rp.set (r1.mono g2.bC) m⟩)⟩
end
section
variable {X:Cx}{G:Gr}{E:XK}{dl:List Slot}{a b e:Expr}{es:List Expr}{i j:Int}{d d1 d2:Dt}{ds WD:List Dt}{pos p apos bW:Pos}{x:Str}{v:Bool}{s:Stmt}
theorem rB (h:EA X G dl es ds)(hl:ds.length<=sizeLine:=by decide):EO X G dl (.List es pos) (.lst ds):=
 gh (uI h) fun st H Q ⟨Hf,S,k⟩=>⟨Hf,S,fun vs Hf1 H1 g1 r1=>⟨by rw[r1.length];exact hl,fun p hp=>k p Hf1 _ (g1.trans (.dX g1.sub hp)) (g1.big.free hp) (g1.sub.free hp) ⟨vs,ak,r1⟩⟩⟩
theorem Nn {op:Operator}{r:R2}(ho:n9 X (binaryOp op) r)(ha:EE X G dl a d1)(hb:EE X G dl b d2)(h:∀ v z Hf H Q,aE Hf H->Rep X.K Hf v d1->Rep X.K Hf z d2->(∀ p vs,H p=none->br X.K Hf vs ds->Q (.ref p) (upd H p (.lst vs)))->r v z H Q):EO X G dl (.BinOp a op b pos) (.lst ds):=
 gh (Nc ho ha hb) fun st H Q ⟨Hf,S,k⟩=>⟨Hf,S,fun v Hf1 H1 g1 r1=>⟨Hf1,S.grow g1,fun z bO H2 g2 r2=>h v z bO H2 Q g2.sub (r1.mono g2.bC) r2 fun p vs hp rv=>
   k p bO _ ((g1.trans g2).trans (.dX g2.sub hp)) ((g1.trans g2).big.free hp) (g2.sub.free hp) ⟨vs,ak,rv⟩⟩⟩
theorem Cj (ha:EE X G dl a (.lst ds))(hb:EE X G dl b (.lst WD))(hl:ds.length+WD.length<=sizeLine):EO X G dl (.BinOp a .Add b pos) (.lst (ds ++ WD)):=
 Nn OT ha hb fun v z Hf H Q s r1 r2 k=>by
   cases r1 with
   | lst h1 q1=>cases r2 with
     | lst h2 q2=>exact⟨_,_,_,_,rfl,rfl,s _ _ h1,s _ _ h2,by rw[q1.length,q2.length];exact hl,fun p hp=>k p _ hp (q1.append q2)⟩
theorem Az {K:W.Frag}{H:Hp}{vs:List V}{ds:List Dt}(r:br K H vs ds):∀ n:Nat,br K H (List.replicate n vs).flatten (List.replicate n ds).flatten
 | 0=>.nil
 | n+1=>by
   rw[List.replicate_succ,List.replicate_succ,List.flatten_cons,List.flatten_cons]
   exact r.append (Az r n)
theorem yq (ha:EE X G dl a (.lst ds))(hb:EE X G dl b (.int i))(h1:-(2 ^ 63)<=i)(h2:i < 2 ^ 63)(hl:ds.length * i.toNat<=sizeLine):EO X G dl (.BinOp a .Mult b pos) (.lst (List.replicate i.toNat ds).flatten):=
 Nn OU ha hb fun v z Hf H Q s r1 r2 k=>by
   cases r1 with
   | lst q1 r1=>cases r2;exact⟨_,i,_,rfl,rfl,s _ _ q1,h1,h2,by rw[r1.length];exact hl,fun p hp=>k p _ hp (Az r1 _)⟩
theorem yr (hm:X.mg "list"=none)(ha:EE X G dl a (.lst ds))(hg:Gl X "list":=by rfl)(he:starEach [a] X.env=[(false,eval a X.env)]:=by rfl):EO X G dl (.Call (.Name "list" p) [a] [] pos) (.lst ds):=
 gh (lP qj hg hm boot_list (ae ha aj he) (he:=he)) fun st H Q ⟨Hf,S,k⟩=>⟨Hf,S,fun vs Hf1 H1 g1 r1=>by
   cases r1 with
   | cons r t=>cases t;cases r with
     | @lst q vs _ z r=>exact⟨q,vs,rfl,.inl (.of (g1.sub _ _ z)),fun l hl=>k l Hf1 _ (g1.trans (.dX g1.sub hl)) (g1.big.free hl) (g1.sub.free hl) ⟨vs,ak,r⟩⟩⟩
theorem Ff:bootBuiltins "max"=some (.builtin "max"):=by decide +kernel
theorem Fg:bootBuiltins "min"=some (.builtin "min"):=by decide +kernel
theorem Pm (hm:X.mg "max"=none)(hc:X.calm=true)(ha:EA X G dl [a,b] [.int i,.int j])(hg:Gl X "max":=by rfl)(he:starEach [a,b] X.env=(false,eval a X.env)::starEach [b] X.env:=by rfl)(m8:(backTo pos (starEach [b] X.env)).any (·.1)=false:=by rfl) :
   EE X G dl (.Call (.Name "max" p) [a,b] [] pos) (.int (if j > i then j else i)):=
 gh (fg (EN hc) hg hm Ff ha (by decide) (by decide) he m8) fun st H Q ⟨Hf,S,k⟩=>⟨Hf,S,fun vs Hf1 H1 g1 r1=>by
   cases r1 with
   | cons r1 t1=>cases t1 with
     | cons r2 t2=>cases t2;cases r1;cases r2;exact⟨i,j,rfl,k _ Hf1 H1 g1 (.int _)⟩⟩
theorem Pn (hm:X.mg "min"=none)(hc:X.calm=true)(ha:EA X G dl [a,b] [.int i,.int j])(hg:Gl X "min":=by rfl)(he:starEach [a,b] X.env=(false,eval a X.env)::starEach [b] X.env:=by rfl)(m8:(backTo pos (starEach [b] X.env)).any (·.1)=false:=by rfl) :
   EE X G dl (.Call (.Name "min" p) [a,b] [] pos) (.int (if j < i then j else i)):=
 gh (fg (ER hc) hg hm Fg ha (by decide) (by decide) he m8) fun st H Q ⟨Hf,S,k⟩=>⟨Hf,S,fun vs Hf1 H1 g1 r1=>by
   cases r1 with
   | cons r1 t1=>cases t1 with
     | cons r2 t2=>cases t2;cases r1;cases r2;exact⟨i,j,rfl,k _ Hf1 H1 g1 (.int _)⟩⟩
theorem xp (n:Nat){pn:Pos}(he:EE X G dl e d)(hl:ds.length < sizeLine)(hd:dl[n]?=some (.own (.lst ds)):=by rfl)(hN:X.N[n]?=some x:=by rfl)(hv:uA X.env.scope x:=by first | exact Or.inl rfl | exact Or.inr (Or.inl rfl) | exact Or.inr (Or.inr rfl))
   (md:(x == ("__debug__":Str))=false:=by decide) (lO:(x == ("__classdict__":Str))=false:=by decide)
   (jy:attributeBase (.Name x pn) "append" X.env (eval (.Name x pn) X.env)=eval (.Name x pn) X.env:=by rfl)
   (uL:((backTo bW (starEach [e] X.env)).all (fun x=>!x.1) && (backToKw bW (keywordEach [] X.env)).all (fun x=>x.1.isSome) && decide ([e].length+([]:List Keyword).length+(if ([]:List Keyword).isEmpty then 0 else 1) < 30))=true:=by rfl)
   (jz:(apos.endLine == bW.line)=true:=by rfl) (m7:starEach [e] X.env=(false,eval e X.env)::starEach [] X.env:=by rfl) (hs:swapsWith (.Call (.Attribute (.Name x pn) "append" apos) [e] [] bW) none pos.line X.env=pure false:=by rfl) :
   ES X G E dl (.Expr (.Call (.Attribute (.Name x pn) "append" apos) [e] [] bW) pos) (.nx (dl.set n (.own (.lst (ds ++ [d]))))):=
 sv (k8 (uK PySem.F.plainAttrs_list PySem.F.slot_list_append PySem.F.type_list_append og (uY (p:=pn) n hd hN hv md lO) (ae he aj m7) jy uL jz m7 rfl) hs) fun D st H ⟨Hf,S,k⟩=>by
   obtain⟨q,z1,z2,z3,vs,hq,rp⟩:=S.own n _ hd
   refine⟨Hf,q,S,z1,z2,⟨vs,hq,rp⟩,.inl ⟨rfl,vs,.of hq⟩,Hf,S,fun us Hf1 H1 g1 r1=>?_⟩
   cases r1 with
   | cons r1 t1=>
     cases t1
     refine⟨q,vs,_,rfl,rfl,g1.big _ _ hq,by rw[rp.length];exact hl,?_⟩
     exact k st Hf1 _ g1.bC ((S.grow g1).E8 hd z1 ⟨_,ak,(rp.mono g1.bC).append (.cons r1 .nil)⟩)
theorem om {K:W.Frag}{H:Hp}:∀ {vs:List V} {xs:List Str},br K H vs (xs.map Dt.str)->vs=xs.map V.str
 | _,[],.nil=>rfl
 | _,x::xs,.cons r t=>by cases r;rw[om t];rfl
end
noncomputable def AA:Option Slot->Slot
 | some (.val d)=>.val d
 | _=>.bw
theorem xq {o:Option Slot}{w:Own}(h:AA o=.own w):False:=by
 unfold AA at h
 split at h <;> cases h
theorem xu {o:Option Slot}{d:Dt}(h:AA o=.val d):o=some (.val d):=by
 unfold AA at h
 split at h
 . cases h;rfl
 . cases h
noncomputable def iX (dl:List Slot)(ix:List Nat):List Slot:=ix.map fun j=>AA dl[j]?
section
variable {K:W.Frag}{G:Gr}{st:L2.St}{Hf H Hf1 H1:Hp}{dl:List Slot}{ix:List Nat}
theorem Lg (S:dJ K G st Hf H dl)(s1:aE Hf Hf1)(sb:aE Hf1 H1){v:V}{d:Dt}(r:Rep K Hf1 v d):dJ K ⟨Hf1,H1⟩ (some v::frees ix st) Hf1 H1 (.val d::iX dl ix):=by
 have no:∀ (i:Nat) o,(Slot.val d::iX dl ix)[i]?≠some (.own o):=fun i o h=>by
   cases i with
   | zero=>cases h
   | succ i=>
     rw[List.getElem?_cons_succ] at h
     unfold iX at h
     rw[List.getElem?_map] at h
     cases q:ix[i]? with
     | none=>rw[q] at h;cases h
     | some j=>
       rw[q] at h
       exact xq (Option.some.inj h)
 refine⟨.refl sb,by simp[frees,iX],fun i x h=>?_,fun i o h=>absurd h (no i o),fun i j o o' a h=>absurd h (no i o)⟩
 cases i with
 | zero=>cases h;exact⟨v,rfl,r⟩
 | succ i=>
   rw[List.getElem?_cons_succ] at h ⊢
   unfold iX at h
   unfold frees
   rw[List.getElem?_map] at h ⊢
   cases q:ix[i]? with
   | none=>rw[q] at h;cases h
   | some j=>
     rw[q] at h
     have hd:=xu (Option.some.inj h)
     obtain⟨v',z1,z2⟩:=S.val j x hd
     exact⟨v',by rw[Option.map_some,z1];rfl,z2.mono s1⟩
end
section
variable {X:Cx}{G:Gr}{E:XK}{dl:List Slot}{a b elt iter:Expr}{i j:Int}{ys:List Dt}{zs:Nat->Dt}{pos p px py wg:Pos}{o:Out}{x y:Str}{N:List Str}{ix:List Nat}{sc:Scope}{n:Nat}
noncomputable def Hh (X:Cx)(N:List Str)(sc:Scope)(dl:List Slot)(ix:List Nat)(elt:Expr)(n:Nat)(zs:Nat->Dt)(ys:List Dt):Prop:=
 ∀ k,k < n->∀ C fp s H G',EE (aW X N sc C fp s H) G' (.val (zs k)::iX dl ix) elt (ys.getD k .cP)
noncomputable def Po (K:W.Frag)(dl:List Slot)(ix:List Nat)(n:Nat)(zs:Nat->Dt)(ys:List Dt):TE:=fun st H Q=>∃ k G',k < n/\tD K G' (.val (zs k)::iX dl ix) (ys.getD k .cP) st H Q
theorem Hi (h:Hh X N sc dl ix elt n zs ys):∀ C fp s H,PE (aW X N sc C fp s H) elt (Po X.K dl ix n zs ys):=fun C fp s H pins s' st H' Q I ⟨k,G',hk,q⟩=>h k hk C fp s H G' pins s' st H' Q I q
theorem Hj {st:L2.St}{Hf H:Hp}{J:It}{Q:VK}(S:dJ X.K G st Hf H dl)(RA:ys.length=n)(hn:n<=sizeLine)(go:∀ Hf1 H1,bb Hf H Hf1 H1->∀ i,(i < n->J.go i H1/\∀ v H2,J.Gy i H1 v H2->H2=H1/\Rep X.K Hf1 v (zs i))/\(i=n->J.stop i H1))(k:∀ p aH H',bb Hf H aH H'->H p=none->aH p=none->gC X.K aH H' p (.lst ys)->Q (.ref p) H'):∀ D,H D=none->Pk (Po X.K dl ix n zs ys) (frees ix st) J D (fun _ H'=>Q (.ref D) H') H:=by
 intro D hD
 refine⟨fun i m vs H1=>m=n - i/\i<=n/\∃ Hf1,bb Hf H Hf1 H1/\Hf1 D=none/\H1 D=some (.lst vs)/\br X.K Hf1 vs (ys.take i),⟨n,rfl,Nat.zero_le _,Hf,.dX S.sub hD,S.sub.free hD,ak,.nil⟩,?_⟩
 rintro i m vs H1 ⟨rfl,hi,Hf1,g1,Th,RB,rp⟩
 have hlen:=rp.length
 rw[List.length_take] at hlen
 by_cases de:i < n
 . obtain⟨Ti,hy⟩:=(go Hf1 H1 g1 i).1 de
   refine .inr ⟨Ti,by omega,fun v H2 y=>?_⟩
   obtain⟨e,rv⟩:=hy v H2 y
   subst e
   refine⟨i,⟨Hf1,H2⟩,de,Hf1,Lg S g1.bC g1.sub rv,fun z bO H3 g2 r2=>?_⟩
   have hD3:H3 D=some (.lst vs):=g2.big _ _ RB
   have YV:bO D=none:=by
     cases q:bO D with
     | none=>rfl
     | some u=>
       obtain⟨o,z⟩:=g2.ya RB (fun z=>z) q
       rw[Th] at z;cases z
   have g:=g1.trans g2
   refine⟨hD3,n - (i+1),by omega,rfl,de,bO,⟨fun a o h=>?_,g.bC,fun a o h=>?_,g.new⟩,YV,ak,?_⟩
   . rw[ag (aw h hD)];exact g.big _ _ h
   . rw[ag (aw h YV)];exact g2.sub _ _ h
   . have:ys.take (i+1)=ys.take i ++ [ys.getD i .cP]:=by
       rw[List.take_add_one,List.getD_eq_getElem?_getD,List.getElem?_eq_getElem (by omega)];rfl
     rw[this]
     exact(rp.mono g2.bC).append (.cons r2 .nil)
 . have e:i=n:=by omega
   subst e
   refine .inl ⟨(go Hf1 H1 g1 i).2 rfl,k D Hf1 H1 g1 hD Th ⟨vs,RB,?_⟩⟩
   rw[List.take_of_length_le (by omega)] at rp
   exact rp
noncomputable def WE (wi:TI)(ix:List Nat)(te:TE):TE:=fun st H Q=>wi st H fun J H1=>∀ D,H1 D=none->Pk te (frees ix st) J D (fun _ H'=>Q (.ref D) H') H1
theorem Tj {wi:TI}{te:TE}(hc:X.calm=true)(B:gD X N ix x sc)(hi:PI X (.Name x px) iter wi)(jM:∀ C fp s H,PE (aW X N sc C fp s H) elt te)(hs:∀ z,foldedSetIterable iter X.env z=pure z):PE X (.ListComp elt [⟨.Name x px,iter,[],0⟩] sc pos) (WE wi ix te):=by
 intro pins s st H Q I h
 rw[eval_ListComp]
 refine wpAny_comprehension_free (use:=none) rfl hs (G8 B I.ok) B.kind B.names (bX (hi pins s st H _ I h) fun v s1 h1=>bX h1 fun Oy s2 h2=>?_)
 obtain⟨it,fp,tn,J,H2,e,I2,T,F9,f2,hq⟩:=h2
 subst e
 refine DK (RR:=fun acc C=>compPost (model X.prog X.w) X.A X.xe none (EP X pins st Q) acc C) hc B jM I2 T F9 f2 hq ?_
 intro D C ws H' s' I' ⟨m,hn⟩ oY q
 exact⟨m,hn,fun h' Lh=>⟨.ref D,H',I'.turned (t':=s'.toks) (it:=C) (fun b o hb e=>(Lh.2 b hb).trans e) oY.1 oY.2.1 oY.2.2.2.1 oY.2.2.2.2.1 oY.2.2.2.2.2,rfl,q⟩⟩
theorem Tn {wi:TI}{te:TE}{nN:Nat}(hc:X.calm=true)(B:gD X N ix x sc)(hi:PI X (.Name x px) iter wi)(jM:∀ C fp s H,PE (aW X N sc C fp s H) elt te)(hs:∀ z,foldedSetIterable iter X.env z=pure z)(Pp:swapsWith (.ListComp elt [⟨.Name x px,iter,[],0⟩] sc pos) (some (.Name y py)) wg.line X.env=pure true)(hN:X.N.Nodup)(hy:X.N[nN]?=some y)(hl:Loc X.env.scope y)(hf:X.fn y=true\/X.env.scope.names.lookup y=some .local):PS X (.Assign [.Name y py] (.ListComp elt [⟨.Name x px,iter,[],0⟩] sc pos) wg) (fun D st H=>WE wi ix te st H fun v H'=>D.nx (st.set nN (some v)) H'):=by
 intro pins s st H D0 I h
 rw[exec_Assign_Name_used _ _ _ _ Pp]
 refine wpAny_bind (wpAny_standAt (wpAny_bind ?_))
 show wpAny _ X.A (do let _ <- comprehension (.ListComp elt [⟨.Name x px,iter,[],0⟩] sc pos) sc X.env _ (newList []) false (eval iter X.env) (some (assign (.Name y py) X.env))) _ _ s
 refine wpAny_bind (wpAny_mono (wpAny_comprehension_free (use:=some (assign (.Name y py) X.env)) (Q:=fun _ s'=>SP X pins D0 .next s') rfl hs (G8 B I.ok) B.kind B.names (bX (hi pins s st H _ I h) fun v s1 h1=>bX h1 fun Oy s2 h2=>?_)) (fun _ s' hq=>wpAny_pure (wpAny_pure hq)) fun _ _ z=>z)
 obtain⟨it,fp,tn,J,H2,e,I2,T,F9,f2,hq⟩:=h2
 subst e
 refine DK (RR:=fun acc C=>compPost (model X.prog X.w) X.A X.xe (some (assign (.Name y py) X.env)) (fun _ s'=>SP X pins D0 .next s') acc C) hc B jM I2 T F9 f2 hq ?_
 intro D C ws H' s' I' ⟨m,hn⟩ oY q
 refine wpAny_assign_Name (qW I' hN hy hl (v:=.ref D) rfl (fun OL WG ⟨ad,Fe,ha⟩=>?_) hf)
 have ne:C≠ad:=by
   rcases ha with z | z
   . rw[z];exact oY.2.1
   . exact Ne.symm (oY.2.2.2.2.1 _ _ z)
 exact⟨m,hn.sameBut Fe ne,fun h' Lh=>⟨_,H',WG.turned (t':=OL.toks) (it:=C) (fun b o hb e=>(Lh.2 b hb).trans e) oY.1 oY.2.1 oY.2.2.2.1 oY.2.2.2.2.1 oY.2.2.2.2.2,q⟩⟩
noncomputable def Hk (X:Cx)(G:Gr)(dl:List Slot)(n:Nat)(zs:Nat->Dt)(wi:TI):Prop:=∀ st H (R:It->Hp->Prop),(∃ Hf,dJ X.K G st Hf H dl/\∀ J Hl H0,bb Hf H Hl H0 ->
 (∀ Hf1 H1,bb Hl H0 Hf1 H1->∀ i,(i < n->J.go i H1/\∀ v H2,J.Gy i H1 v H2->H2=H1/\Rep X.K Hf1 v (zs i))/\(i=n->J.stop i H1))->R J H0)->wi st H R
theorem uZ (hn:-(2 ^ 62)<=j/\j < 2 ^ 62):Hk X G dl j.toNat (fun k=>.int k) (GB (Rz X.K G dl [.int j])):=fun st H R ⟨Hf,S,k⟩=>⟨Hf,S,fun vs Hf1 H1 g1 r1=>by
 cases r1 with
 | cons r t=>
   cases t;cases r
   refine⟨j,rfl,hn.1,hn.2,k _ Hf1 H1 g1 fun bO H2 g2 i=>⟨fun hi=>⟨hi,fun v H3 hy=>?_⟩,fun hi=>by rw[hi];exact Nat.le_refl _⟩⟩
   obtain⟨e1,e2⟩:=hy
   subst e2
   rw[Int.zero_add]
   exact⟨e1,.int _⟩⟩
theorem AB {wi:TI}(hs:Hk X G dl n zs wi)(RA:ys.length=n)(hn:n<=sizeLine):∀ st H Q,Vs X.K G dl (.lst ys) st H Q->WE wi ix (Po X.K dl ix n zs ys) st H Q:=fun st H Q ⟨Hf,S,k⟩=>
 hs st H _ ⟨Hf,S,fun J Hl H0 g0 src=>Hj (S.grow g0) RA hn src fun p aH H' g n1 n2 r=>k p aH H' (g0.trans g) (g0.big.free n1) n2 r⟩
theorem To {wi:TI}(hc:X.calm=true)(B:gD X N ix x sc)(hi:PI X (.Name x px) iter wi)(u0:Hk X G dl n zs wi)(jM:Hh X N sc dl ix elt n zs ys)(RA:ys.length=n)(hn:n<=sizeLine)(hs:∀ z,foldedSetIterable iter X.env z=pure z:=by intro _;rfl):EO X G dl (.ListComp elt [⟨.Name x px,iter,[],0⟩] sc pos) (.lst ys):=gh (Tj hc B hi (Hi jM) hs) (AB u0 RA hn)
theorem Np (nN:Nat){wi:TI}(hc:X.calm=true)(hN:X.N.Nodup)(B:gD X N ix x sc)(hi:PI X (.Name x px) iter wi)(u0:Hk X G dl n zs wi)(jM:Hh X N sc dl ix elt n zs ys)(RA:ys.length=n)(hn:n<=sizeLine)(hs:∀ z,foldedSetIterable iter X.env z=pure z:=by intro _;rfl)(Pp:swapsWith (.ListComp elt [⟨.Name x px,iter,[],0⟩] sc pos) (some (.Name y py)) wg.line X.env=pure true:=by rfl)(hy:X.N[nN]?=some y:=by rfl)(hl:Loc X.env.scope y:=by first | exact Or.inl rfl | exact Or.inr rfl)(hf:X.fn y=true\/X.env.scope.names.lookup y=some .local:=by first | exact .inl rfl | exact .inr rfl | assumption):ES X G E dl (.Assign [.Name y py] (.ListComp elt [⟨.Name x px,iter,[],0⟩] sc pos) wg) (.nx (dl.set nN (.own (.lst ys)))):=
 sv (Tn hc B hi (Hi jM) hs Pp hN hy hl hf) fun D st H ⟨Hf,S,k⟩=>AB u0 RA hn st H _ ⟨Hf,S,fun p aH H' g n1 n2 r=>k _ aH H' g.bC (S.Pl g n1 n2 r)⟩
end
theorem Ck {α:Type}{us:List α}{d:α}(h:(us ++ [d]).length=2):∃ a,us=[a]:=by
 match us,h with
 | [a],_=>exact⟨a,rfl⟩
 | [],h=>simp at h
 | _::_::r,h=>simp at h
theorem yt {α:Type}{us:List α}(h:(us ++ []).length=2):∃ a b,us=[a,b]:=by
 rw[List.append_nil] at h
 match us,h with
 | [a,b],_=>exact⟨a,b,rfl⟩
structure AD (K:W.Frag)(x qual:Str)(st:Stmt)(f:Addr)(fd:FuncData):Prop where
 ex:∃ (oc:Value) (od:Option Addr) (dV kV doc pm:Value) (an:Option Addr) (bg ct:Value) (xi:Array (Option Value)),
   fd=W.fnOf x qual (b0 st) (aD st) (af st) dV kV doc pm an bg ct/\K.lookup f=some ⟨oc,od,.func fd,xi⟩/\W.codeIn K bg qual=true
theorem qt {K:W.Frag}{x qual:Str}{st:Stmt}{f:Addr}{oc:Value}{od an:Option Addr}{xi:Array (Option Value)}{dV kV doc pm bg ct:Value}(l:K.lookup f=some ⟨oc,od,.func (W.fnOf x qual (b0 st) (aD st) (af st) dV kV doc pm an bg ct),xi⟩)(c:W.codeIn K bg qual=true):AD K x qual st f (W.fnOf x qual (b0 st) (aD st) (af st) dV kV doc pm an bg ct):=⟨⟨oc,od,dV,kV,doc,pm,an,bg,ct,xi,rfl,l,c⟩⟩
section
variable {P:Program}{w:World}{K:W.Frag}{mg:Str->Option Value}{base:Heap}{CX:q9}{x qual:Str}{st:Stmt}{f:Addr}{fd:FuncData}{N ps:List Str}{k n:Nat}
theorem Vt {R:List Dt->Res->Prop}(F:AD K x qual st f fd)(S:aq N ps (af st))(hn:ps.length=n)(qf:∀ (bg:Value) (A:Around) (outer:List Env) (s:Shared) (H:Hp) (E:XK) (G:Gr) (ds:List Dt) (r:Res),eC k (A.deeper (envOfC qual (af st) s.heap.objs.size f bg))->ds.length=n->R ds r->∃ o,Comes o r/\me (Ab CX P w K mg base N qual (af st) f bg A outer s H E) G E (slots N ds) (aD st) o):jx P w K mg base CX (k+1) f fd ps (DH K n R):=by
 obtain⟨oc,od,dV,kV,doc,pm,an,bg,ct,xi,rfl,lk,lO⟩:=F.ex
 refine GL lk lO S (fun vs H Q E ⟨Hf,ds,r,s,rp,hl,_⟩=>by rw[rp.length,hl,hn]) fun A outer s H vs Q E hr ⟨Hf,ds,r,sm,rp,hl,hR,hk⟩=>?_
 obtain⟨o,hc,hb⟩:=qf bg A outer s H E ⟨Hf,H⟩ ds r hr hl hR
 exact⟨_,hb,Hf,xn sm rp,hc.ends hk⟩
noncomputable def WH (K:W.Frag)(C:Addr)(Hf H:Hp)(x:Addr)(Q:VK)(E:XK):Res->Prop
 | .own w=>((∃ fs,w=.obj C fs)\/∃ fs gs nm n,w=.rh C fs gs nm n)/\∀ aH H',bb Hf H aH H'->aH x=none->gC K aH H' x w->Q .cP H'
 | .exc c fs=>∀ od aH H',bb Hf H aH H'->ExcAt K aH od fs->E c od H'
 | .ret _=>False
noncomputable def YW (K:W.Frag)(C:Addr)(n:Nat)(R:List Dt->Res->Prop):Sp:=fun vs H Q E=>∃ Hf H1 x dx args ds r,vs=.ref x::args/\H=upd H1 x (.ins C dx [])/\H1 x=none/\aE Hf H1/\br K Hf args ds/\ds.length+1=n/\R ds r/\WH K C Hf H1 x Q E r
inductive yu (C x:Addr):Out->Res->Prop
 | nx {dl:List Slot} {fs:List (Str×Dt)} (h:dl[0]?=some (.own (.Aq x C fs))):yu C x (.nx dl) (.own (.obj C fs))
 | ex (c:Value) (fs:List (Str×Dt)):yu C x (.ex c fs) (.exc c fs)
 | WI {dl:List Slot} {fs:List (Str×Dt)} {gs:List (Nat->List (Key×FD))} {nm:List Str} {n:Nat} (h:dl[0]?=some (.own (.yb x C fs gs nm n))):yu C x (.nx dl) (.own (.rh C fs gs nm n))
noncomputable def rC (N:List Str)(x C:Addr)(ds:List Dt):List Slot:=.own (.Aq x C [])::(ds.map Slot.val ++ List.replicate (N.length - (ds.length+1)) .bw)
theorem Cm {Hf H:Hp}{vs:List V}{ds:List Dt}{x dx C:Addr}(s:aE Hf H)(n:H x=none)(r:br K Hf vs ds):dJ K ⟨Hf,H⟩ (start N (.ref x::vs)) Hf (upd H x (.ins C dx [])) (rC N x C ds):=by
 have hl:=r.length
 have es:start N (V.ref x::vs)=some (.ref x)::(vs.map some ++ List.replicate (N.length - (vs.length+1)) none):=by
   unfold L2.start
   simp
 have xU:∀ (i:Nat) o,(rC N x C ds)[i+1]?≠some (.own o):=fun i o h=>by
   unfold rC at h
   rw[List.getElem?_cons_succ] at h
   by_cases hi:i < ds.length
   . rw[List.getElem?_append_left (by simpa using hi),List.getElem?_map] at h
     cases e:ds[i]? with
     | none=>rw[e] at h;cases h
     | some a=>rw[e] at h;cases h
   . rw[List.getElem?_append_right (by simpa using hi),List.getElem?_replicate] at h
     split at h <;> cases h
 rw[es]
 refine⟨.dX s n,?_,fun i d h=>?_,fun i o h=>?_,fun i j o o' a h h' _ _=>?_⟩
 . unfold rC
   simp[hl]
 . cases i with
   | zero=>cases h
   | succ i=>
     unfold rC at h
     rw[List.getElem?_cons_succ] at h ⊢
     by_cases hi:i < ds.length
     . rw[List.getElem?_append_left (by simpa using hi),List.getElem?_map] at h
       cases e:ds[i]? with
       | none=>rw[e] at h;cases h
       | some a=>
         rw[e] at h;cases h
         obtain⟨v,h1,h2⟩:=r.get e
         refine⟨v,?_,h2⟩
         rw[List.getElem?_append_left (by simp;omega),List.getElem?_map,h1];rfl
     . rw[List.getElem?_append_right (by simpa using hi),List.getElem?_replicate] at h
       split at h <;> cases h
 . cases i with
   | zero=>
     cases h
     exact⟨x,rfl,s.free n,n,rfl,dx,[],ak,.nil⟩
   | succ i=>exact absurd h (xU i o)
 . cases i with
   | zero=>cases j with
     | zero=>rfl
     | succ j=>exact absurd h' (xU j _)
   | succ i=>exact absurd h (xU i _)
theorem Vu {C:Addr}{R:List Dt->Res->Prop}(F:AD K x qual st f fd)(S:aq N ps (af st))(hn:ps.length=n)(qf:∀ (bg:Value) (A:Around) (outer:List Env) (s:Shared) (H:Hp) (E:XK) (G:Gr) (z:Addr) (ds:List Dt) (r:Res),eC k (A.deeper (envOfC qual (af st) s.heap.objs.size f bg))->ds.length+1=n->R ds r->∃ o,yu C z o r/\me (Ab CX P w K mg base N qual (af st) f bg A outer s H E) G E (rC N z C ds) (aD st) o):jx P w K mg base CX (k+1) f fd ps (YW K C n R):=by
 obtain⟨oc,od,dV,kV,doc,pm,an,bg,ct,xi,rfl,lk,lO⟩:=F.ex
 refine GL lk lO S (fun vs H Q E ⟨Hf,H1,z,dx,args,ds,r,e,_,_,_,rp,hl,_⟩=>by rw[e,List.length_cons,rp.length,hl,hn]) fun A outer s H vs Q E hr ⟨Hf,H1,z,dx,args,ds,r,e1,e2,hz,sm,rp,hl,hR,hk⟩=>?_
 subst e1 e2
 obtain⟨o,hc,hb⟩:=qf bg A outer s _ E ⟨Hf,H1⟩ z ds r hr hl hR
 refine⟨_,hb,Hf,Cm sm hz rp,?_⟩
 cases hc with
 | nx h=>
   obtain⟨_,kk⟩:=hk
   intro jv aH H' s' S'
   obtain⟨a,_,q2,_,q4⟩:=S'.own 0 _ h
   obtain⟨rfl,dx',fs',q5,q6⟩:=q4
   exact kk aH H' S'.gr q2 ⟨dx',fs',q5,q6⟩
 | WI h=>
   obtain⟨_,kk⟩:=hk
   intro jv aH H' s' S'
   obtain⟨a,_,q2,_,q4⟩:=S'.own 0 _ h
   obtain⟨rfl,q5⟩:=q4
   exact kk aH H' S'.gr q2 q5
 | ex c fs=>exact hk
end
noncomputable def putD (f:Str)(v:Dt):List (Str×Dt)->List (Str×Dt)
 | []=>[(f,v)]
 | (g,x)::r=>if g=f then (g,v)::r else (g,x)::putD f v r
theorem aX.put {K:W.Frag}{H:Hp}{f:Str}{v:V}{d:Dt}(q:Rep K H v d):∀ {vs:List (Str×V)} {ds:List (Str×Dt)},aX K H vs ds->aX K H (ff f v vs) (putD f d ds)
 | _,_,.nil=>.cons q .nil
 | (k,x)::vs,(_,y)::ds,.cons h r=>by
   unfold ff putD
   by_cases e:k=f
   . rw[if_pos e,if_pos e];exact .cons q r
   . rw[if_neg e,if_neg e];exact .cons h (aX.put q r)
section
variable {X:Cx}{G:Gr}{E:XK}{dl:List Slot}{e c:Expr}{es:List Expr}{d:Dt}{ds:List Dt}{pos p apos:Pos}{x m:Str}{C z:Addr}{fs:List (Str×Dt)}{CX:q9}{k k' n:Nat}{R:List Dt->Res->Prop}{ob:Expr}{wo:Own}{dvs:List Dt}{body:List Stmt}
theorem jN {fn:Str}{pn:Pos}(he:EE X G dl e d)(cl:tL X.K C)(na:bF X.K C fn)(hd:dl[0]?=some (.own (.Aq z C fs)):=by rfl)(hl:Nat.ble fs.length 999=true:=by rfl)(hN:X.N[0]?=some x:=by rfl)(hv:uA X.env.scope x:=by first | exact Or.inl rfl | exact Or.inr (Or.inl rfl) | exact Or.inr (Or.inr rfl))(md:(x == ("__debug__":Str))=false:=by decide)(lO:(x == ("__classdict__":Str))=false:=by decide)(hs:swapsWith e (some (.Attribute (.Name x pn) fn apos)) pos.line X.env=pure false:=by rfl):ES X G E dl (.Assign [.Attribute (.Name x pn) fn apos] e pos) (.nx (dl.set 0 (.own (.Aq z C (putD fn d fs))))):=
 sv (uH (uY (p:=pn) 0 hd hN hv md lO) he hs) fun D st H ⟨Hf,S,k⟩=>⟨Hf,S,fun v Hf1 H1 g1 r1=>by
   have S1:=S.grow g1
   obtain⟨a,q1,q2,q3,q4⟩:=S1.own 0 _ hd
   obtain⟨e1,dx,fv,q5,q6⟩:=id q4
   refine⟨Hf1,a,S1,q1,q2,q4,a,C,dx,fv,rfl,q5,cl,na,by rw[q6.length];exact Nat.lt_succ_of_le (Nat.le_of_ble_eq_true hl),?_⟩
   exact k st Hf1 _ g1.bC (S1.E8 hd q1 ⟨e1,dx,_,ak,q6.put r1⟩)⟩
structure RC (P:Program)(w:World)(K:W.Frag)(mg:Str->Option Value)(base:Heap)(CX:q9)(k:Nat)(x:Str)(C:Addr)(n:Nat)(R:List Dt->Res->Prop):Prop where
 ex:∃ f fd ps,jx P w K mg base CX k f fd ps (YW K C n R)/\L2.Mk K C f/\mg x=some (.ref C)/\Binds K fd ps []
theorem tP (F:RC X.prog X.w X.K X.mg X.base CX k x C n R)(nx:BS CX)(hr:eC k' X.A)(ha:EA X G dl (e::es) ds)(h:R ds (.own (.obj C fs)))(yl:k+1<=k':=by decide)(hl:ds.length+1=n:=by rfl)(hg:Gl X x:=by rfl)(md:(x == ("__debug__":Str))=false:=by decide)(he:starEach (e::es) X.env=(false,eval e X.env)::starEach es X.env:=by rfl)(m8:(backTo pos (starEach es X.env)).any (·.1)=false:=by rfl):EO X G dl (.Call (.Name x p) (e::es) [] pos) (.obj C fs):=by
 obtain⟨f,fd,ps,Fo,M,hm,hb⟩:=F.ex
 refine gh (Dv (E:=E0) M Fo (hr.mono yl) hg hm hb .nil nx.passes ha md he m8) fun st H Q ⟨Hf,S,kk⟩=>⟨Hf,S,fun vs Hf1 H1 g1 r1 y dx hy Tp ne=>?_⟩
 have SG:(upd H1 dx (.own y)) y=none:=by rw[ag (Ne.symm ne)];exact hy
 have g2:bb Hf1 H1 Hf1 (upd H1 dx (.own y)):=.dX g1.sub Tp
 refine⟨Hf1,upd H1 dx (.own y),y,dx,vs ++ [],ds,.own (.obj C fs),rfl,rfl,SG,g2.sub,by rw[List.append_nil];exact r1,hl,h,.inl ⟨fs,rfl⟩,fun aH H' g n1 r=>⟨rfl,?_⟩⟩
 exact kk y aH H' ((g1.trans g2).trans g) (g1.big.free hy) n1 r
theorem AE {gs:List (Nat->List (Key×FD))}{nm:List Str}{j:Nat}(F:RC X.prog X.w X.K X.mg X.base CX k x C n R)(nx:BS CX)(hr:eC k' X.A)(ha:EA X G dl (e::es) ds)(h:R ds (.own (.rh C fs gs nm j)))(yl:k+1<=k':=by decide)(hl:ds.length+1=n:=by rfl)(hg:Gl X x:=by rfl)(md:(x == ("__debug__":Str))=false:=by decide)(he:starEach (e::es) X.env=(false,eval e X.env)::starEach es X.env:=by rfl)(m8:(backTo pos (starEach es X.env)).any (·.1)=false:=by rfl):EO X G dl (.Call (.Name x p) (e::es) [] pos) (.rh C fs gs nm j):=by
 obtain⟨f,fd,ps,Fo,M,hm,hb⟩:=F.ex
 refine gh (Dv (E:=E0) M Fo (hr.mono yl) hg hm hb .nil nx.passes ha md he m8) fun st H Q ⟨Hf,S,kk⟩=>⟨Hf,S,fun vs Hf1 H1 g1 r1 y dx hy Tp ne=>?_⟩
 have SG:(upd H1 dx (.own y)) y=none:=by rw[ag (Ne.symm ne)];exact hy
 have g2:bb Hf1 H1 Hf1 (upd H1 dx (.own y)):=.dX g1.sub Tp
 refine⟨Hf1,upd H1 dx (.own y),y,dx,vs ++ [],ds,.own (.rh C fs gs nm j),rfl,rfl,SG,g2.sub,by rw[List.append_nil];exact r1,hl,h,.inr ⟨fs,gs,nm,j,rfl⟩,fun aH H' g n1 r=>⟨rfl,?_⟩⟩
 exact kk y aH H' ((g1.trans g2).trans g) (g1.big.free hy) n1 r
theorem AF (F:GF X.prog X.w X.K X.mg X.base CX k x n R)(nx:BS CX)(hr:eC k' X.A)(ha:EA X G dl (e::es) ds)(h:R ds (.own wo))(yl:k<=k':=by decide)(hl:ds.length=n:=by rfl)(hg:Gl X x:=by rfl)(md:(x == ("__debug__":Str))=false:=by decide)(he:starEach (e::es) X.env=(false,eval e X.env)::starEach es X.env:=by rfl)(m8:(backTo pos (starEach es X.env)).any (·.1)=false:=by rfl):EO X G dl (.Call (.Name x p) (e::es) [] pos) wo:=by
 obtain⟨f,fd,ps,F,hm,hk,hb⟩:=F.ex
 exact gh (Ds (E:=E0) F (hr.mono yl) hg hm hk hb .nil nx.passes ha md he m8) fun st H Q ⟨Hf,S,k⟩=>⟨Hf,S,fun vs Hf1 H1 g1 r1=>⟨Hf1,ds,.own wo,g1.sub,by rw[List.append_nil];exact r1,hl,h,fun p bO H2 g2 n1 n2 r2=>k p bO H2 (g1.trans g2) (g1.big.free n1) n2 r2⟩⟩
structure Ge (P:Program)(w:World)(K:W.Frag)(mg:Str->Option Value)(base:Heap)(CX:q9)(k:Nat)(C:Addr)(m:Str)(n:Nat)(dvs:List Dt)(R:List Dt->Res->Prop):Prop where
 cl:tL K C
 ex:∃ f fd ps Fb vds,jx P w K mg base CX k f fd ps (DH K n R)/\Meth K C m f/\Binds K fd ps Fb/\Vals vds Fb/\∀ H,br K H vds dvs
theorem Pq {P:Program}{w:World}{K:W.Frag}{mg:Str->Option Value}{base:Heap}(F:MF P w K mg base CX k C m n R):Ge P w K mg base CX k C m n [] R:=by
 obtain⟨f,fd,ps,Fo,hm,hb⟩:=F.ex
 exact⟨F.cl,f,fd,ps,[],[],Fo,hm,hb,.nil,fun _=>.nil⟩
theorem AG {pl:Sem Bool}(he:EE X G dl ob (.obj C fs))(F:Ge X.prog X.w X.K X.mg X.base CX k C m n dvs R)(nx:BS CX)(hr:eC k' X.A)(ha:EA X G dl (e::es) ds)(h:R (.obj C fs::(ds ++ dvs)) (.own wo))(yl:k<=k':=by decide)(hl:(Dt.obj C fs::(ds ++ dvs)).length=n:=by rfl)(sy:fs.lookup m=none:=by rfl)
   (m7:starEach (e::es) X.env=(false,eval e X.env)::starEach es X.env:=by rfl) (m8:(backTo pos (starEach es X.env)).any (·.1)=false:=by rfl)
   (ht:eval (.Call (.Attribute ob m apos) (e::es) [] pos) X.env=(do
     let ov <- eval ob X.env
     standAt apos.atName
     let (f,first) <- holding [ov] (getMethod ov m pl)
     callWith pos f first (backTo pos (starEach (e::es) X.env)) (backToKw pos (keywordEach [] X.env))):=by rfl):EO X G dl (.Call (.Attribute ob m apos) (e::es) [] pos) wo:=by
 obtain⟨f,fd,ps,Fb,vds,Fo,hm,hb,hd,Cg⟩:=F.ex
 exact gh (Du (pl:=pl) (E:=E0) he F.cl hm Fo (hr.mono yl) hb hd nx.passes ha m7 m8 ht) fun st H Q ⟨Hf,S,k⟩=>⟨Hf,S,fun v Hf1 H1 g1 r1=>by
   cases r1 with
   | @obj a _ dx fv _ q r=>
     exact⟨a,dx,fv,rfl,fQ g1.sub q,r.none_of sy,Hf1,S.grow g1,fun vs bO H2 g2 r2=>⟨bO,_,.own wo,g2.sub,.cons (.obj (fQ g2.bC q) (r.mono g2.bC)) (r2.append (Cg _)),hl,h,fun p iU H3 g3 n1 n2 r3=>k p iU H3 ((g1.trans g2).trans g3) ((g1.trans g2).big.free n1) n2 r3⟩⟩⟩
theorem Hm {pl:Sem Bool}(he:EE X G dl ob (.obj C fs))(F:Ge X.prog X.w X.K X.mg X.base CX k C m n dvs R)(nx:BS CX)(hr:eC k' X.A)(h:R (.obj C fs::dvs) (.own wo))(yl:k<=k':=by decide)(hl:(Dt.obj C fs::dvs).length=n:=by rfl)(sy:fs.lookup m=none:=by rfl)
   (ht:eval (.Call (.Attribute ob m apos) [] [] pos) X.env=(do
     let ov <- eval ob X.env
     standAt apos.atName
     let (f,first) <- holding [ov] (getMethod ov m pl)
     callWith pos f first (backTo pos (starEach [] X.env)) (backToKw pos (keywordEach [] X.env))):=by rfl):EO X G dl (.Call (.Attribute ob m apos) [] [] pos) wo:=by
 obtain⟨f,fd,ps,Fb,vds,Fo,hm,hb,hd,Cg⟩:=F.ex
 exact gh (Aa (pl:=pl) (E:=E0) he F.cl hm Fo (hr.mono yl) hb hd nx.passes ht) fun st H Q ⟨Hf,S,k⟩=>⟨Hf,S,fun v Hf1 H1 g1 r1=>by
   cases r1 with
   | @obj a _ dx fv _ q r=>
     exact⟨a,dx,fv,rfl,fQ g1.sub q,r.none_of sy,Hf1,_,.own wo,g1.sub,.cons (.obj q r) (Cg _),hl,h,fun p iU H3 g3 n1 n2 r3=>k p iU H3 (g1.trans g3) (g1.big.free n1) n2 r3⟩⟩
theorem Hn {pl:Sem Bool}(he:EE X G dl ob (.obj C fs))(F:Ge X.prog X.w X.K X.mg X.base CX k C m n dvs R)(nx:BS CX)(hr:eC k' X.A)(ha:EA X G dl (e::es) ds)(h:R (.obj C fs::(ds ++ dvs)) (.ret d))(yl:k<=k':=by decide)(hl:(Dt.obj C fs::(ds ++ dvs)).length=n:=by rfl)(sy:fs.lookup m=none:=by rfl)
   (m7:starEach (e::es) X.env=(false,eval e X.env)::starEach es X.env:=by rfl) (m8:(backTo pos (starEach es X.env)).any (·.1)=false:=by rfl)
   (ht:eval (.Call (.Attribute ob m apos) (e::es) [] pos) X.env=(do
     let ov <- eval ob X.env
     standAt apos.atName
     let (f,first) <- holding [ov] (getMethod ov m pl)
     callWith pos f first (backTo pos (starEach (e::es) X.env)) (backToKw pos (keywordEach [] X.env))):=by rfl):EE X G dl (.Call (.Attribute ob m apos) (e::es) [] pos) d:=by
 obtain⟨f,fd,ps,Fb,vds,Fo,hm,hb,hd,Cg⟩:=F.ex
 exact DI (pl:=pl) he F.cl hm Fo nx (hr.mono yl) hb hd Cg ha hl h sy m7 m8 ht
theorem Li {pl:Sem Bool}(he:EE X G dl ob (.obj C fs))(F:Ge X.prog X.w X.K X.mg X.base CX k C m n dvs R)(nx:BS CX)(hr:eC k' X.A)(h:R (.obj C fs::dvs) (.ret d))(yl:k<=k':=by decide)(hl:(Dt.obj C fs::dvs).length=n:=by rfl)(sy:fs.lookup m=none:=by rfl)
   (ht:eval (.Call (.Attribute ob m apos) [] [] pos) X.env=(do
     let ov <- eval ob X.env
     standAt apos.atName
     let (f,first) <- holding [ov] (getMethod ov m pl)
     callWith pos f first (backTo pos (starEach [] X.env)) (backToKw pos (keywordEach [] X.env))):=by rfl):EE X G dl (.Call (.Attribute ob m apos) [] [] pos) d:=by
 obtain⟨f,fd,ps,Fb,vds,Fo,hm,hb,hd,Cg⟩:=F.ex
 exact As (pl:=pl) he F.cl hm Fo nx (hr.mono yl) hb hd Cg hl h sy ht
noncomputable def Tq (X:Cx)(G:Gr)(c:Expr):TT:=fun st H Q=>∃ dl b,EB X G dl c b/\SS X.K G dl b st H Q
theorem Lj:PT X c (Tq X G c):=fun pins s st H Q I ⟨dl,b,h,q⟩=>h pins s st H Q I q
theorem Ho (S:Nat->List Slot)(n:Nat)(hp:PassesOwn (model X.prog X.w) X.A X.env X.xe)(h0:Le (S 0) dl)(hc:∀ k,k < n->EB X G (S k) c true)(hn:EB X G (S n) c false)(hb:∀ k,k < n->Goes X G E body (S k) (S (k+1))):ES X G E dl (.While c body [] pos) (.nx (S n)):=by
 refine sv (z5 hp (Lj (G:=G)) (qo (G:=G) (E:=E))) fun D st H ⟨Hf,S0,k⟩=>?_
 refine⟨fun m st H=>∃ i,m=n - i/\i<=n/\∃ Hf1,aE Hf Hf1/\dJ X.K G st Hf1 H (S i),⟨n,0,rfl,Nat.zero_le _,Hf,aE.refl _,S0.weak h0⟩,?_⟩
 rintro m Vv H1 ⟨i,rfl,hi,Hf1,s1,S1⟩
 by_cases de:i < n
 . refine⟨S i,true,hc i de,Hf1,S1,fun bO H2 g2=>Ao ⟨fun jv H'=>∃ iU,aE Hf iU/\dJ X.K G jv iU H' (S (i+1)),fun jv H' h'=>⟨n - (i+1),by omega,i+1,rfl,de,h'⟩,?_⟩⟩
   exact oj (hb i de) (S1.grow g2) (fun Vf iU H3 s3 S3=>⟨iU,(s1.trans g2.bC).trans s3,S3⟩) (fun Vf iU H3 s3 S3=>⟨iU,(s1.trans g2.bC).trans s3,S3⟩)
 . have e:i=n:=by omega
   subst e
   exact⟨S i,false,hn,Hf1,S1,fun bO H2 g2=>An (k _ bO H2 (s1.trans g2.bC) (S1.grow g2))⟩
end
noncomputable def u5 (sc AH:Scope)(XN N:List Str)(ix:List Nat)(x:Str):Bool:=
 decide N.Nodup && (decide (N=x::ix.map (fun j=>XN.getD j "")) && (decide (sc.kind=.function) && (sc.names.all (fun y=>decide (y.2≠.cell)) && (sc.names.all (fun y=>decide (y.2=.local->sc.names.lookup y.1=some .local)) && (decide (sc.names.lookup x=some .local) &&
   (sc.names.all (fun y=>decide (y.2=.free->AH.names.lookup y.1=some .cell\/AH.names.lookup y.1=some .free)) && ix.all (fun j=>decide (sc.names.lookup (XN.getD j "")=some .free) && decide (j < XN.length))))))))
theorem Cn {X:Cx}{sc AH:Scope}{XN N:List Str}{ix:List Nat}{x:Str}(h:u5 sc AH XN N ix x=true)(e1:X.env.scope=AH:=by rfl)(e2:X.N=XN:=by rfl):gD X N ix x sc:=by
 subst e1 e2
 unfold u5 at h
 simp only[Bool.and_eq_true,List.all_eq_true,decide_eq_true_eq] at h
 obtain⟨h1,h2,h3,h4,h5,h6,h7,h8⟩:=h
 refine⟨h1,h2,h3,h4,h5,h6,h7,fun j hj=>?_⟩
 obtain⟨q1,q2⟩:=h8 j hj
 refine⟨X.N.getD j "",?_,q1⟩
 rw[List.getD_eq_getElem?_getD,List.getElem?_eq_getElem q2];rfl
noncomputable def YX:Expr->Scope
 | .ListComp _ _ sc _=>sc
 | .Call _ (.ListComp _ _ sc _::_) _ _=>sc
 | _=>{ kind:=.function,names:=[],isGenerator:=false,isCoroutine:=false}
noncomputable def Ts:Stmt->Scope
 | .Assign _ e _=>YX e
 | .Return (some e) _=>YX e
 | _=>{ kind:=.function,names:=[],isGenerator:=false,isCoroutine:=false}
theorem u6 (k:Str):∀ xs:List Str,SD (.str k) (xs.map V.str)=decide (k∈xs)
 | []=>by simp[SD]
 | x::xs=>by
   have ih:=u6 k xs
   unfold SD at ih ⊢
   rw[List.map_cons,List.any_cons,ih]
   by_cases e:x=k
   . subst e;simp[Kg]
   . have:¬ (k=x):=fun z=>e z.symm
     simp[Kg,e,this]
theorem xv (xs:List Str):(xs.map V.str).all qg=true:=by
 induction xs with
 | nil=>rfl
 | cons x xs ih=>rw[List.map_cons,List.all_cons,ih];rfl
section
variable {X:Cx}{G:Gr}{dl:List Slot}{a b:Expr}{pos:Pos}{k:Str}{xs:List Str}
theorem Nq {neg:Bool}:DE X.K (Vi X.K neg) (.str k) (.tup (xs.map .str)) (.bl (if neg then !decide (k∈xs) else decide (k∈xs))):=fun v w Hf H Q s r1 r2 kk=>by
 cases r1
 cases r2 with
 | @tup q vs _ hq rp=>
   have ev:=om rp
   subst ev
   refine⟨q,_,rfl,.inr (bN s hq),rfl,xv xs,?_⟩
   rw[u6]
   exact kk _ Hf H (.refl s) (.bl _)
theorem Co (ha:EE X G dl a (.str k))(hb:EE X G dl b (.tup (xs.map .str)))(hm:behindInMarks .In b=false:=by rfl):EB X G dl (.Compare a [.In] [b] pos) (decide (k∈xs)):=lC xj (Nq (neg:=false)) hm ha hb
theorem DM (ha:EE X G dl a (.str k))(hb:EE X G dl b (.tup (xs.map .str)))(hm:behindInMarks .NotIn b=false:=by rfl):EB X G dl (.Compare a [.NotIn] [b] pos) (!decide (k∈xs)):=lC qi (Nq (neg:=true)) hm ha hb
end
theorem AI {P:Program}{w:World}{A:Around}{R:Result->Shared->Prop}{s:Shared}{elt tg iter:Expr}{ifs:List Expr}{sc:Scope}{pos:Pos}{it acc:Value}{env:Env}(J:Nat->Shared->Prop)
   (turn:∀ n s,J n s->wpAny (model P w) A (pyNext it) (fun r s1=>match r with
     | none=>R (.ok .next) s1
     | some v=>wpAny (model P w) A (letOwnedTupleGo tg it v) (fun _ s2=>wpAny (model P w) A (assign tg env v) (fun _ s3=>
         wpAny (model P w) A (forIn ifs true fun c r=>if r=true then do let ok <- isTrue c env (eval c env);pure (ForInStep.yield ok) else pure (ForInStep.yield r)) (fun ok WJ=>
         if ok=true then wpAny (model P w) A (eval elt env) (fun x s4=>wpAny (model P w) A (call (.builtin "list.append") [acc,x]) (fun _ s5=>∃ m,m < n/\J m s5) we s4) we WJ
         else ∃ m,m < n/\J m WJ) we s3) we s2) we s1) we s)
   (n:Nat) (h:J n s):codeAny (model P w) A (.compLoop (.ListComp elt [⟨tg,iter,ifs,0⟩] sc pos) 0 it acc env) R s:=by
 have off:∀ {B:Value->Shared->Prop} (x:Value) (s':Shared),we x s'->B x s':=fun _ _ z=>z.elim
 refine codeAny_loop rfl J (fun n s hJ=>?_) n h
 show wpAny _ A ((compTurn (.ListComp elt [⟨tg,iter,ifs,0⟩] sc pos) 0 it acc env).onRaise (fun x=>(do noteFrame x env;theTreesLotGoes x))) _ _ s
 refine wpAny_noted ?_
 rw[compTurn_list]
 refine wpAny_bind (wpAny_standAt (wpAny_bind (wpAny_mono (turn n s hJ) (fun r s1 h1=>?_) off)))
 cases r with
 | none=>exact wpAny_pure h1
 | some v=>
   refine wpAny_bind (wpAny_mono h1 (fun _ s2 h2=>wpAny_bind (wpAny_mono h2 (fun _ s3 h3=>wpAny_bind (wpAny_mono h3 (fun ok WJ YY=>?_) off)) off)) off)
   cases ok with
   | false=>exact wpAny_pure ⟨rfl,YY⟩
   | true=>exact wpAny_bind (wpAny_bind (wpAny_mono YY (fun x s4 h4=>wpAny_bind (wpAny_mono h4 (fun _ s5 h5=>wpAny_pure (wpAny_pure ⟨rfl,h5⟩)) off)) off))
structure sL (X:Cx)(N tn:List Str)(ix:List Nat)(sc:Scope):Prop where
 nd:N.Nodup
 nm:N=tn ++ ix.map (fun j=>X.N.getD j "")
 kind:sc.kind=.function
 uV:∀ y∈sc.names,y.2≠.cell
 names:∀ y∈sc.names,y.2=.local->sc.names.lookup y.1=some .local
 hx:∀ x∈tn,sc.names.lookup x=some .local
 fr:∀ y∈sc.names,y.2=.free->X.env.kindOf y.1=some .cell\/X.env.kindOf y.1=some .free
 S5:∀ j∈ix,∃ y,X.N[j]?=some y/\sc.names.lookup y=some .free
section
variable {X:Cx}{N tn:List Str}{ix:List Nat}{sc:Scope}{pins:List (Addr×Obj)}{st:L2.St}{H H':Hp}{s s':Shared}{C D:Addr}{fp:List Addr}{h1:Heap}
theorem DN (B:sL X N tn ix sc)(ok:X.Ok):closureFor sc X.env=pure (k6 sc X.env):=yo fun y hy hk=>ok.has y.1 (B.fr y hy hk)
theorem qu (B:sL X N tn ix sc)(ok:X.Ok){y:Str}{c:Addr}(h:(k6 sc X.env).lookup y=some c):X.env.cells.lookup y=some c/\(y,NameKind.free)∈sc.names:=by
 rcases qr _ _ h with⟨h1,h2⟩ | h1
 . obtain⟨c',h3⟩:=ok.has y (B.fr _ h1 rfl)
   rw[h3] at h2
   cases h2
   exact⟨h3,h1⟩
 . cases h1
theorem tQ (B:sL X N tn ix sc)(I:L2.Inv X pins st H s)(hC:s.heap.objs.size<=C)(hf:∀ b∈fp,kL X pins H b)(de:∀ b∈fp,b < s.heap.objs.size):(aW X N sc C fp s H).Ok where
 mod:=I.ok.mod
 kind:=B.kind
 glob:=I.ok.glob
 blt:=I.ok.blt
 above:=hC
 inj:=fun y z c h1 h2=>I.ok.inj y z c (qu B I.ok h1).1 (qu B I.ok h2).1
 has:=fun y hy=>by
   have hy:(relabel sc X.env).names.lookup y=some .cell\/(relabel sc X.env).names.lookup y=some .free:=hy
   have:(y,NameKind.free)∈sc.names:=by
     rcases hy with hy | hy
     . obtain⟨k',h1,h2⟩:=fH hy
       rcases h2 with h2 | h2
       . subst h2;exact absurd rfl (B.uV _ h1)
       . subst h2;exact h1
     . obtain⟨k',h1,h2⟩:=fH hy
       rcases h2 with h2 | h2 <;> subst h2 <;> exact h1
   exact jA _ _ (.inl this)
 Rq:=fun y c h=>by cases h
 hd:=I.ok.hd
 frames:=I.ok.frames
 RT:=.inl rfl
 Kz:=fun b hb=>⟨Nat.ne_of_lt (Nat.lt_of_lt_of_le (de b hb) hC),fun y c h=>(hf b hb).2.2.2.2.1 y c (qu B I.ok h).1⟩
 bs:=I.bs
 Dm:=Nat.le_trans I.ok.Dm I.sz
 zT:=fun b o e hb=>by
   rcases (hf b hb).2.2.2.1 with z | z
   . exact I.ok.zT b o e z
   . exact absurd (Nat.lt_of_lt_of_le (Heap.lt_size e) (Nat.le_trans I.ok.Dm z)) (Nat.lt_irrefl _)
 zU:=fun b hb z=>by
   rcases List.mem_cons.mp (I.uB b z) with z | z
   . exact(hf b hb).2.1 z
   . exact(hf b hb).2.2.1 z
 qV:=I.stack
 M9:=I.tG
theorem Cp (B:sL X N tn ix sc)(I:L2.Inv X pins st H s)(hf:∀ b∈fp,kL X pins H b)(de:∀ b∈fp,b < s.heap.objs.size)(hC:C=s.heap.objs.size+1)(k:∀ b o,s.heap.get? b=some o->h1.get? b=some o)(hn:h1.Ns C fun _=>none)(hD:h1.get? s.heap.objs.size=some { cls:=.type "list",data:=.seq ([]:List Value).toArray 0}){t':Nat}:L2.Inv (aW X N sc C fp s H) [] (List.replicate tn.length none ++ frees ix st) (upd H s.heap.objs.size (.lst [])) { s with heap:=h1,toks:=t'}:=by
 have Nl:s.heap.objs.size<=C:=by rw[hC];exact Nat.le_succ _
 have fr:∀ a,s.heap.objs.size<=a->H a=none:=fun a ha=>I.a5.fresh ha
 have ok:=tQ B I Nl hf de
 have BP:∀ y c,(k6 sc X.env).lookup y=some c->H c=none/\c < s.heap.objs.size/\∃ v,s.heap.IsCell c v:=fun y c h=>by
   have h:=(qu B I.ok h).1
   obtain⟨v,q⟩:=I.cell y c h
   exact⟨I.o9 y c h,q.lt,v,q⟩
 refine⟨ok,rfl,I.bare,Un.laid k (Nat.le_refl _) (fr _ (Nat.le_refl _)),⟨_,hn,fun i y v e1 e2 e3=>?_⟩,fun y c h=>?_,?_,fun y c h=>?_,fun p hp=>absurd (show p∈([]:List (Addr×Obj)) from hp) (by simp),?_,?_⟩
 . have e1:N[i]?=some y:=e1
   by_cases hi:i < tn.length
   . rw[List.getElem?_append_left (by simpa using hi),List.getElem?_replicate,if_pos hi] at e2
     cases e2
   . have hi:tn.length<=i:=Nat.le_of_not_lt hi
     rw[B.nm,List.getElem?_append_right hi,List.getElem?_map] at e1
     rw[List.getElem?_append_right (by simpa using hi),List.length_replicate] at e2
     unfold frees at e2
     rw[List.getElem?_map] at e2
     cases q:ix[i - tn.length]? with
     | none=>rw[q] at e1;cases e1
     | some j=>
       rw[q] at e1 e2
       obtain⟨y',Ki,G9⟩:=B.S5 j (List.mem_of_getElem? q)
       have Lc:=PySem.mem_of_lookup G9
       have ey:y=y':=by
         have e1:X.N.getD j ""=y:=Option.some.inj e1
         rw[List.getD_eq_getElem?_getD,Ki] at e1
         exact e1.symm
       subst ey
       have e2:(st[j]?).join=some v:=Option.some.inj e2
       have S6:st[j]?=some (some v):=by
         cases q2:st[j]? with
         | none=>rw[q2] at e2;cases e2
         | some z=>rw[q2] at e2;rw[show z=some v from e2]
       have kd:=B.fr _ Lc rfl
       have S9:uA X.env.scope y:=by
         rcases kd with z | z
         . exact .inr (.inl z)
         . exact .inr (.inr z)
       obtain⟨m,_,hl⟩:=I.loc
       obtain⟨u,r,l⟩:=hl j y v Ki S6 S9
       refine⟨u,r,.inr ?_⟩
       rcases l with⟨z,_⟩ | ⟨_,c,hc,ic⟩
       . rcases kd with z' | z' <;> rw[z] at z' <;> cases z'
       . obtain⟨c',BQ⟩:=jA (cells:=X.env.cells) sc.names [] (.inl Lc)
         have:=(qu B I.ok BQ).1
         rw[hc] at this;cases this
         obtain⟨oc,Dp,hd⟩:=ic
         refine⟨?_,c,BQ,oc,k _ _ Dp,hd⟩
         rcases e3 with e3 | e3 | e3
         . have e3:(relabel sc X.env).names.lookup y=some .local:=e3
           rcases mn (env:=X.env) G9 with z | z
           . exact absurd (e3.symm.trans z) (by decide)
           . exact absurd (e3.symm.trans z) (by decide)
         . exact .inl e3
         . exact .inr e3
 . obtain⟨_,_,v,oc,Dp,hd⟩:=BP y c h
   exact⟨v,oc,k _ _ Dp,hd⟩
 . show upd H s.heap.objs.size (.lst []) C=none
   rw[ag (by rw[hC];exact Nat.succ_ne_self _)]
   exact fr _ Nl
 . show upd H s.heap.objs.size (.lst []) c=none
   obtain⟨q1,q2,_⟩:=BP y c h
   rw[ag (Nat.ne_of_lt q2)]
   exact q1
 . exact I.a5.laid k (Nat.le_refl _) ⟨Nat.zero_le _,[],0,.nil,hD⟩
 . show(List.replicate tn.length none ++ frees ix st).length=N.length
   rw[B.nm]
   unfold frees
   simp
noncomputable def Nr (X:Cx)(ifs:List Expr)(tt:TT):Prop:=∀ (pins:List (Addr×Obj)) (s:Shared) (st:L2.St) (H:Hp) (Q:Bool->Hp->Prop),L2.Inv X pins st H s->tt st H Q ->
 wpAny (model X.prog X.w) X.A (forIn ifs true fun c r=>if r=true then do let ok <- isTrue c X.env (eval c X.env);pure (ForInStep.yield ok) else pure (ForInStep.yield r)) (fun b s'=>∃ H',L2.Inv X pins st H' s'/\Q b H') X.xe s
theorem DO {c:Expr}{tt:TT}(h:PT X c tt):Nr X [c] tt:=fun pins s st H Q I q=>wpAny_tests_one (bX (h pins s st H _ I q) fun b s' z=>z)
noncomputable def DP (nt:Nat)(g:TG)(tt:TT)(te:TE)(fs:L2.St)(J:It)(D:Addr)(Q:List V->Hp->Prop)(H:Hp):Prop:=
 ∃ W:Nat->Nat->List V->Hp->Prop,(∃ m,W 0 m [] (upd H D (.lst [])))/\∀ i m ys H1,W i m ys H1 ->
   (J.stop i H1/\Q ys H1)\/(J.go i H1/\ys.length < sizeLine/\∀ σ:L2.St,σ.length=nt->∀ v H2,J.Gy i H1 v H2->g v (σ ++ fs) H2 fun σ2 H3=>∃ σ':L2.St,σ2=σ' ++ fs/\σ'.length=nt /\
     tt σ2 H3 fun b H4=>if b=true then te σ2 H4 fun y H5=>H5 D=some (.lst ys)/\∃ m',m' < m/\W (i+1) m' (ys ++ [y]) (upd H5 D (.lst (ys ++ [y]))) else ∃ m',m' < m/\W (i+1) m' ys H4)
theorem AJ {elt iter tg:Expr}{ifs:List Expr}{pos:Pos}{g:TG}{tt:TT}{te:TE}{J:It}{it:Addr}{tj:Nat->Heap->Prop}{Q:Addr->List V->Hp->Prop}{RR:Value->Addr->Result->Shared->Prop}{E:Value->Shared->Prop}(hc:X.calm=true)(B:sL X N tn ix sc)(hg:∀ C fp s H,PG (aW X N sc C fp s H) tg g)(ht:∀ C fp s H,Nr (aW X N sc C fp s H) ifs tt)(jM:∀ C fp s H,PE (aW X N sc C fp s H) elt te)(I:L2.Inv X pins st H s)(T:Turn X.prog X.w X.K tg J fp it tj)(h0:tj 0 s.heap)(hf:∀ b∈fp,kL X pins H b)(hq:∀ D,H D=none->DP tn.length g tt te (frees ix st) J D (Q D) H)(Ta:∀ D C ys H' s',L2.Inv X pins st H' s'->(∃ m,s'.heap.Ns C m)->kL X pins H' C->Q D ys H'->RR (.ref D) C (.ok .next) s'):wpAny (model X.prog X.w) X.A (newList []) (fun acc s3=>wpAny (model X.prog X.w) X.A (newFunctionEnv sc X.env.globals (k6 sc X.env) [] X.env.qual none .none (some X.env)) (fun Ax s4=>codeAny (model X.prog X.w) X.A (.compStart (.ListComp elt [⟨tg,iter,ifs,0⟩] sc pos) 0 (.ref it) acc { Ax with scope:=relabel sc X.env}) (RR acc Ax.locals) s4) E s3) E s:=by
 have de:∀ b∈fp,b < s.heap.objs.size:=fun b hb=>by
   obtain⟨o,e,_⟩:=T.obj _ _ h0 b hb
   exact Heap.lt_size e
 refine wpAny_newObj_type (wpAny_newFunctionEnv B.uV (fun y hy=>absurd hy (by simp)) (fun h1 Gb Fe=>?_) B.kind)
 dsimp only at Gb Fe ⊢
 generalize hG:s.heap.push { cls:=.type "list",dict:=none,data:=.seq ([]:List Value).toArray}=g' at Gb Fe ⊢
 have hC:g'.objs.size=s.heap.objs.size+1:=by rw[<- hG,Heap.size_push]
 have Vr:s.heap.objs.size≠g'.objs.size:=by rw[hC];exact Nat.ne_of_lt (Nat.lt_succ_self _)
 have old:∀ b o,s.heap.get? b=some o->h1.get? b=some o:=fun b o e=>
   Fe.extBut b o (by rw[hC];exact Nat.ne_of_lt (Nat.lt_succ_of_lt (Heap.lt_size e))) (Heap.get?_push_of_some _ (hG ▸ Heap.get?_push_of_some _ e))
 have Hc:h1.get? s.heap.objs.size=some { cls:=.type "list",data:=.seq ([]:List Value).toArray 0}:=Fe.extBut _ _ Vr (Heap.get?_push_of_some _ (hG ▸ Heap.get?_push_size _ rfl))
 have hD:H s.heap.objs.size=none:=I.a5.fresh (Nat.le_refl _)
 obtain⟨W,⟨m0,w0⟩,turn⟩:=hq _ hD
 have I0:=Cp (t':=s.toks+([]:List (Str×Value)).length) B I hf de hC old (by simpa using Gb) Hc
 have Nm:tj 0 h1:=T.keep _ _ _ h0 fun b _ o e=>old b o e
 have nH:s.heap.objs.size<=g'.objs.size:=by rw[hC];exact Nat.le_succ _
 have pI:∀ {H':Hp},(∀ b∈fp,H' b=none)->∀ b∈fp,kL (aW X N sc g'.objs.size fp s H) [] H' b:=fun {H'} hn b hb=>
   ⟨hn b hb,((tQ B I nH hf de).Kz b hb).1,(tQ B I nH hf de).zU b hb,.inl hb,((tQ B I nH hf de).Kz b hb).2,fun p hp=>absurd (show p∈([]:List (Addr×Obj)) from hp) (by simp)⟩
 have loop:∀ s3:Shared,s3={ s with heap:=h1,toks:=s.toks+([]:List (Str×Value)).length} ->
     codeAny (model X.prog X.w) X.A (.compLoop (.ListComp elt [⟨tg,iter,ifs,0⟩] sc pos) 0 (.ref it) (.ref s.heap.objs.size) (compEnvC sc (k6 sc X.env) g'.objs.size X.env)) (RR (.ref s.heap.objs.size) g'.objs.size) s3:=by
   rintro s3 rfl
   refine AI (fun n s'=>∃ i ys σ H',σ.length=tn.length/\L2.Inv (aW X N sc g'.objs.size fp s H) [] (σ ++ frees ix st) H' s'/\tj i s'.heap/\(∀ b∈fp,H' b=none)/\W i n ys H') ?_ m0
     ⟨0,[],List.replicate tn.length none,_,by simp,I0,Nm,fun b hb=>?_,w0⟩
   . rintro n s5 ⟨i,ys,σ,H5,hσ,I5,Ga,Kf,w5⟩
     rcases turn i n ys H5 w5 with⟨stop,qn⟩ | ⟨go,hz,step⟩
     . refine bX (T.done (aW X N sc g'.objs.size fp s H) rfl rfl rfl hc i [] s5 _ H5 we I5 (pI Kf) Ga stop) fun r s6 ⟨hr,I6⟩=>?_
       subst hr
       refine Ta _ _ ys H5 s6 ?_ ?_ (I.uE nH I6.free) qn
       . exact I.Gu I6.os I6.base I6.a5 I6.bare fun b hb=>⟨(hf b hb).2.2.2.1,(hf b hb).2.1,(hf b hb).2.2.2.2.1,(hf b hb).2.2.2.2.2⟩
       . obtain⟨m,hm,_⟩:=I6.loc
         exact⟨m,hm⟩
     . refine bX (T.item (aW X N sc g'.objs.size fp s H) rfl rfl rfl hc i [] s5 _ H5 we I5 (pI Kf) Ga go) fun r s6 ⟨u,hr,h6⟩=>?_
       subst hr
       refine bX h6 fun _ s7 ⟨v,H7,I7,r7,y7,Hd,Tb⟩=>?_
       have Tc:=I7.pinned (pI Tb) (T.obj _ _ Hd)
       refine bX (hg g'.objs.size fp s H _ s7 _ H7 v u _ Tc r7 (step σ hσ v H7 y7)) fun _ s8 h8=>?_
       obtain⟨σ8,H8,I8,σ',e8,Tt,h8⟩:=h8
       subst e8
       have pinned:∀ {σ9:L2.St} {H9:Hp} {s9:Shared},L2.Inv (aW X N sc g'.objs.size fp s H) ([] ++ qY fp s7.heap) σ9 H9 s9->tj (i+1) s9.heap/\∀ b∈fp,H9 b=none:=fun {σ9 H9 s9} I9=>by
         refine⟨T.keep _ _ _ Hd fun b hb o e=>(I9.pin (b,o) (List.mem_append_right _ (List.mem_append_right _ (fG hb e)))).1,fun b hb=>?_⟩
         obtain⟨o,e,d⟩:=T.obj _ _ Hd b hb
         exact(I9.pin (b,o) (List.mem_append_right _ (List.mem_append_right _ (fG hb e)))).2.1
       refine bX (ht g'.objs.size fp s H _ s8 _ H8 _ I8 h8) fun ok WK Lk=>?_
       obtain⟨WL,Ll,Lk⟩:=Lk
       cases ok with
       | false=>
         obtain⟨m',hm,w8⟩:=Lk
         exact⟨m',hm,i+1,ys,σ',_,Tt,Ll.jw (pins:=[]),(pinned Ll).1,(pinned Ll).2,w8⟩
       | true=>
         refine bX (jM g'.objs.size fp s H _ WK _ WL _ Ll Lk) fun z s9 ⟨y,H9,I9,r9,Td,m',hm,w9⟩=>?_
         refine bX (og _ s9 _ H9 (.ref s.heap.objs.size) [y] (.ref s.heap.objs.size) [z] (fun _ H'=>H'=upd H9 s.heap.objs.size (.lst (ys ++ [y]))) I9 rfl (.cons r9 .nil) ⟨_,ys,y,rfl,rfl,Td,hz,rfl⟩) fun _ YT Te=>?_
         obtain⟨_,YU,He,_,rfl⟩:=Te
         exact⟨m',hm,i+1,ys ++ [y],σ',_,Tt,He.jw (pins:=[]),(pinned He).1,(pinned He).2,w9⟩
   . rw[ag (Nat.ne_of_lt (de b hb))]
     exact(hf b hb).1
 exact codeAny_compStart_list (loop _ rfl) (T.self _ 0 _ _ _ Nm (loop _ rfl))
end
section
variable {K:W.Frag}{G:Gr}{st:L2.St}{Hf H Hf1 H1:Hp}{dl:List Slot}{ix:List Nat}
structure Tu (K:W.Frag)(Hf:Hp)(σ:L2.St)(sl:List Slot):Prop where
 len:σ.length=sl.length
 val:∀ (i:Nat) d,sl[i]?=some (.val d)->∃ v,σ[i]?=some (some v)/\Rep K Hf v d
 no:∀ (i:Nat) o,sl[i]?≠some (.own o)
theorem Tu.mono {σ:L2.St}{sl:List Slot}(h:Tu K Hf σ sl)(s:aE Hf Hf1):Tu K Hf1 σ sl:=⟨h.len,fun i d e=>let ⟨v,h1,h2⟩:=h.val i d e;⟨v,h1,h2.mono s⟩,h.no⟩
theorem AK {σ:L2.St}{sl:List Slot}(S:dJ K G st Hf H dl)(s1:aE Hf Hf1)(sb:aE Hf1 H1)(r:Tu K Hf1 σ sl):dJ K ⟨Hf1,H1⟩ (σ ++ frees ix st) Hf1 H1 (sl ++ iX dl ix):=by
 have no:∀ (i:Nat) o,(sl ++ iX dl ix)[i]?≠some (.own o):=fun i o h=>by
   by_cases hi:i < sl.length
   . rw[List.getElem?_append_left hi] at h
     exact r.no i o h
   . rw[List.getElem?_append_right (Nat.le_of_not_lt hi)] at h
     unfold iX at h
     rw[List.getElem?_map] at h
     cases q:ix[i - sl.length]? with
     | none=>rw[q] at h;cases h
     | some j=>
       rw[q] at h
       exact xq (Option.some.inj h)
 refine⟨.refl sb,by simp[frees,iX,r.len],fun i x h=>?_,fun i o h=>absurd h (no i o),fun i j o o' a h=>absurd h (no i o)⟩
 by_cases hi:i < sl.length
 . rw[List.getElem?_append_left hi] at h
   rw[List.getElem?_append_left (by rw[r.len];exact hi)]
   exact r.val i x h
 . have hi:=Nat.le_of_not_lt hi
   rw[List.getElem?_append_right hi] at h
   rw[List.getElem?_append_right (by rw[r.len];exact hi),r.len]
   unfold iX at h
   unfold frees
   rw[List.getElem?_map] at h ⊢
   cases q:ix[i - sl.length]? with
   | none=>rw[q] at h;cases h
   | some j=>
     rw[q] at h
     have hd:=xu (Option.some.inj h)
     obtain⟨v',z1,z2⟩:=S.val j x hd
     exact⟨v',by rw[Option.map_some,z1];rfl,z2.mono s1⟩
noncomputable def Pr (K:W.Frag)(nt:Nat)(g:TG)(z:Dt)(sl:List Slot):Prop:=∀ (σ fs:L2.St) (Hf H:Hp) (v:V) (Q:L2.St->Hp->Prop),σ.length=nt->aE Hf H->Rep K Hf v z ->
 (∀ σ':L2.St,σ'.length=nt->Tu K Hf σ' sl->Q (σ' ++ fs) H)->g v (σ ++ fs) H Q
theorem dM {z:Dt}:Pr K 1 (pj 0) z [.val z]:=fun σ fs Hf H v Q hl s r k=>by
 cases σ with
 | nil=>cases hl
 | cons a σ=>
   have:σ=[]:=List.eq_nil_of_length_eq_zero (by simpa using hl)
   subst this
   refine k [some v] rfl ⟨rfl,fun i d h=>?_,fun i o h=>?_⟩
   . cases i with
     | zero=>cases h;exact⟨v,rfl,r⟩
     | succ i=>cases h
   . cases i with
     | zero=>cases h
     | succ i=>cases h
noncomputable abbrev Nt (K:W.Frag):TG:=Ot K 2 (zZ (pj 0) (zZ (pj 1) Oq))
theorem Lm {a b:Dt}:Pr K 2 (Nt K) (.tup [a,b]) [.val a,.val b]:=fun σ fs Hf H v Q hl s r k=>by
 cases σ with
 | nil=>cases hl
 | cons x σ=>cases σ with
   | nil=>cases hl
   | cons y σ=>
     have:σ=[]:=List.eq_nil_of_length_eq_zero (by simpa using hl)
     subst this
     cases r with
     | @tup q vs _ hq rp=>
       cases rp with
       | cons r1 t1=>cases t1 with
         | cons r2 t2=>
           cases t2
           refine⟨q,_,rfl,bN s hq,rfl,_,_,rfl,_,_,rfl,rfl,k [some _,some _] rfl ⟨rfl,fun i d h=>?_,fun i o h=>?_⟩⟩
           . cases i with
             | zero=>cases h;exact⟨_,rfl,r1⟩
             | succ i=>cases i with
               | zero=>cases h;exact⟨_,rfl,r2⟩
               | succ i=>cases h
           . cases i with
             | zero=>cases h
             | succ i=>cases i with
               | zero=>cases h
               | succ i=>cases h
end
section
variable {X:Cx}{G:Gr}{E:XK}{dl:List Slot}{a b c elt iter tg:Expr}{ifs:List Expr}{i j:Int}{pos p px py wg:Pos}{o:Out}{x y:Str}{N tn:List Str}{ix:List Nat}{sc:Scope}{n:Nat}
noncomputable def qv (X:Cx)(G:Gr)(dl:List Slot)(zs:List Dt)(wi:TI):Prop:=∀ st H (R:It->Hp->Prop),(∃ Hf,dJ X.K G st Hf H dl/\∀ J Hl H0,bb Hf H Hl H0 ->
 (∀ Hf1 H1,aE Hl Hf1->aE Hf1 H1->∀ i,(∀ z,zs[i]?=some z->J.go i H1/\∀ v H2,J.Gy i H1 v H2->∃ bO,bb Hf1 H1 bO H2/\Rep X.K bO v z)/\(i=zs.length->J.stop i H1))->R J H0)->wi st H R
theorem lU {xs:List Dt}:qv X G dl xs (Gz X.K (tD X.K G dl (.lst xs))):=fun st H R ⟨Hf,S,k⟩=>⟨Hf,S,fun v Hf1 H1 g1 r1=>by
 cases r1 with
 | @lst q vs _ hq rp=>
   have hl:=rp.length
   refine⟨q,rfl,⟨vs,.of (g1.sub _ _ hq)⟩,k _ Hf1 H1 g1 fun bO H2 s1 s2 i=>⟨fun z hz=>?_,fun hi=>⟨vs,.of (s2 _ _ (s1 _ _ hq)),by omega⟩⟩⟩
   obtain⟨u,z1,z2⟩:=rp.get hz
   have hs:mh X.K H2 q vs:=.of (s2 _ _ (s1 _ _ hq))
   refine⟨⟨vs,u,hs,z1⟩,fun v H3 hy=>?_⟩
   obtain⟨e1,e2⟩:=hy
   have e2:=e2 vs hs
   rw[z1] at e2;cases e2
   subst e1
   exact⟨bO,.refl s2,z2.mono s1⟩⟩
theorem Hq {xs:List Dt}:qv X G dl xs (R8 X.K (tD X.K G dl (.tup xs))):=fun st H R ⟨Hf,S,k⟩=>⟨Hf,S,fun v Hf1 H1 g1 r1=>by
 cases r1 with
 | @tup q vs _ hq rp=>
   have hl:=rp.length
   refine⟨q,rfl,⟨vs,bN g1.sub hq⟩,k _ Hf1 H1 g1 fun bO H2 s1 s2 i=>⟨fun z hz=>?_,fun hi=>⟨vs,bN s2 (bN s1 hq),by omega⟩⟩⟩
   obtain⟨u,z1,z2⟩:=rp.get hz
   have hs:uC X.K H2 q vs:=bN s2 (bN s1 hq)
   refine⟨⟨vs,u,hs,z1⟩,fun v H3 hy=>?_⟩
   obtain⟨e1,e2⟩:=hy
   have e2:=e2 vs hs
   rw[z1] at e2;cases e2
   subst e1
   exact⟨bO,.refl s2,z2.mono s1⟩⟩
theorem Hr {lo:Int}{n:Nat}{Hf1 H1 bO H2:Hp}(s2:aE bO H2)(i:Nat):(∀ z,((List.range n).map fun(k:Nat)=>Dt.int (lo+k))[i]?=some z->(Ke lo n).go i H2/\∀ v H3,(Ke lo n).Gy i H2 v H3->∃ iU,bb bO H2 iU H3/\Rep X.K iU v z)/\(i=((List.range n).map fun(k:Nat)=>Dt.int (lo+k)).length->(Ke lo n).stop i H2):=by
 refine⟨fun z hz=>?_,fun e=>(by have:i=n:=(by simpa using e);exact Nat.le_of_eq this.symm)⟩
 have hi:i < n:=by
   have:=(List.getElem?_eq_some_iff.mp hz).1
   simpa using this
 rw[List.getElem?_map,List.getElem?_range hi] at hz
 cases hz
 refine⟨hi,fun v H3 hy=>?_⟩
 obtain⟨e1,e2⟩:=hy
 subst e1 e2
 exact⟨bO,.refl s2,.int _⟩
theorem AL (hn:-(2 ^ 62)<=j/\j < 2 ^ 62):qv X G dl ((List.range j.toNat).map fun(k:Nat)=>.int k) (GB (Rz X.K G dl [.int j])):=fun st H R ⟨Hf,S,k⟩=>⟨Hf,S,fun vs Hf1 H1 g1 r1=>by
 cases r1 with
 | cons r t=>
   cases t;cases r
   refine⟨j,rfl,hn.1,hn.2,k _ Hf1 H1 g1 fun bO H2 s1 s2 i=>?_⟩
   have h:=Hr (X:=X) (lo:=0) (n:=j.toNat) (Hf1:=Hf1) (H1:=H1) s2 i
   simp only[Int.zero_add] at h
   exact h⟩
variable {α:Type}{as:List α}{z f:α->Dt}{sl:α->List Slot}{keep:α->Bool}{g:TG}{wi:TI}
noncomputable def Ln (K:W.Frag)(dl:List Slot)(ix:List Nat)(as:List α)(sl:α->List Slot)(keep:α->Bool):TT:=fun st H Q=>∃ a G',a∈as/\SS K G' (sl a ++ iX dl ix) (keep a) st H Q
noncomputable def Lo (K:W.Frag)(dl:List Slot)(ix:List Nat)(as:List α)(sl:α->List Slot)(keep:α->Bool)(f:α->Dt):TE:=fun st H Q=>∃ a G',a∈as/\keep a=true/\tD K G' (sl a ++ iX dl ix) (f a) st H Q
inductive AM (X:Cx)(N:List Str)(sc:Scope)(dl:List Slot)(ix:List Nat)(as:List α)(sl:α->List Slot)(keep:α->Bool):List Expr->Prop
 | nil:(∀ a∈as,keep a=true)->AM X N sc dl ix as sl keep []
 | one {c:Expr}:(∀ a∈as,∀ C fp s H G',EB (aW X N sc C fp s H) G' (sl a ++ iX dl ix) c (keep a))->AM X N sc dl ix as sl keep [c]
theorem Hs (h:AM X N sc dl ix as sl keep ifs):∀ C fp s H,Nr (aW X N sc C fp s H) ifs (Ln X.K dl ix as sl keep):=fun C fp s H=>by
 cases h with
 | nil h=>exact fun pins s' st H' Q I ⟨a,G',ha,Hf,S,k⟩=>wpAny_tests_nil ⟨H',I,by have:=k Hf H' (.refl S.sub);rw[h a ha] at this;exact this⟩
 | one h=>exact DO fun pins s' st H' Q I ⟨a,G',ha,q⟩=>h a ha C fp s H G' pins s' st H' Q I q
noncomputable def Pt (X:Cx)(N:List Str)(sc:Scope)(dl:List Slot)(ix:List Nat)(as:List α)(sl:α->List Slot)(keep:α->Bool)(f:α->Dt)(elt:Expr):Prop:=∀ a∈as,keep a=true->∀ C fp s H G',EE (aW X N sc C fp s H) G' (sl a ++ iX dl ix) elt (f a)
theorem Ht (h:Pt X N sc dl ix as sl keep f elt):∀ C fp s H,PE (aW X N sc C fp s H) elt (Lo X.K dl ix as sl keep f):=fun C fp s H pins s' st H' Q I ⟨a,G',ha,hk,q⟩=>h a ha hk C fp s H G' pins s' st H' Q I q
theorem Fh {nt:Nat}{st:L2.St}{Hf H:Hp}{J:It}{Q:VK}(S:dJ X.K G st Hf H dl)(hn:as.length<=sizeLine)(Hu:∀ a∈as,Pr X.K nt g (z a) (sl a))(go:∀ Hf1 H1,bb Hf H Hf1 H1->∀ i,(∀ y,(as.map z)[i]?=some y->J.go i H1/\∀ v H2,J.Gy i H1 v H2->∃ bO,bb Hf1 H1 bO H2/\Rep X.K bO v y)/\(i=(as.map z).length->J.stop i H1))(k:∀ p aH H',bb Hf H aH H'->H p=none->aH p=none->gC X.K aH H' p (.lst ((as.filter keep).map f))->Q (.ref p) H'):∀ D,H D=none->DP nt g (Ln X.K dl ix as sl keep) (Lo X.K dl ix as sl keep f) (frees ix st) J D (fun _ H'=>Q (.ref D) H') H:=by
 intro D hD
 refine⟨fun i m vs H1=>m=as.length - i/\i<=as.length/\∃ Hf1,bb Hf H Hf1 H1/\Hf1 D=none/\H1 D=some (.lst vs)/\br X.K Hf1 vs (((as.take i).filter keep).map f),⟨as.length,rfl,Nat.zero_le _,Hf,.dX S.sub hD,S.sub.free hD,ak,.nil⟩,?_⟩
 rintro i m vs H1 ⟨rfl,hi,Hf1,g1,Th,RB,rp⟩
 have hlen:=rp.length
 rw[List.length_map] at hlen
 have YZ:((as.take i).filter keep).length<=i:=Nat.le_trans (List.length_filter_le _ _) (by rw[List.length_take];omega)
 have Cq:∀ {WM Ha Vw Hb:Hp},bb WM Ha Vw Hb->WM D=none->Ha D=some (.lst vs)->Vw D=none/\Hb D=some (.lst vs):=fun {WM Ha Vw Hb} gg e1 e2=>by
   refine⟨?_,gg.big _ _ e2⟩
   cases q:Vw D with
   | none=>rfl
   | some u=>
     obtain⟨o,z⟩:=gg.ya e2 (fun z=>z) q
     rw[e1] at z;cases z
 by_cases de:i < as.length
 . have yw:as[i]∈as:=List.getElem_mem de
   have et:as.take (i+1)=as.take i ++ [as[i]]:=by rw[List.take_add_one,List.getElem?_eq_getElem de];rfl
   obtain⟨Ti,hy⟩:=(go Hf1 H1 g1 i).1 (z as[i]) (by rw[List.getElem?_map,List.getElem?_eq_getElem de];rfl)
   refine .inr ⟨Ti,by omega,fun σ hσ v H2 y=>?_⟩
   obtain⟨bO,g2,rv⟩:=hy v H2 y
   obtain⟨d2,d2'⟩:=Cq g2 Th RB
   refine Hu as[i] yw σ _ bO H2 v _ hσ g2.sub rv fun σ' WN tv=>⟨σ',rfl,WN,as[i],⟨bO,H2⟩,yw,bO,AK S (g1.bC.trans g2.bC) g2.sub tv,fun iU H3 g3=>?_⟩
   obtain⟨d3,Y0⟩:=Cq g3 d2 d2'
   cases hk:keep as[i] with
   | false=>
     refine⟨as.length - (i+1),by omega,rfl,de,iU,(g1.trans g2).trans g3,d3,Y0,?_⟩
     rw[et,List.filter_append,List.filter_cons_of_neg (by simp[hk]),List.filter_nil,List.append_nil]
     exact rp.mono (g2.bC.trans g3.bC)
   | true=>
     refine⟨as[i],⟨iU,H3⟩,yw,hk,iU,AK S ((g1.bC.trans g2.bC).trans g3.bC) g3.sub (tv.mono g3.bC),fun y Kk H4 g4 r4=>?_⟩
     obtain⟨d4,d4'⟩:=Cq g4 d3 Y0
     have gg:=((g1.trans g2).trans g3).trans g4
     refine⟨d4',as.length - (i+1),by omega,rfl,de,Kk,⟨fun a o h=>?_,gg.bC,fun a o h=>?_,gg.new⟩,d4,ak,?_⟩
     . rw[ag (aw h hD)];exact gg.big _ _ h
     . rw[ag (aw h d4)];exact g4.sub _ _ h
     . rw[et,List.filter_append,List.filter_cons_of_pos (by simpa using hk),List.filter_nil,List.map_append]
       exact(rp.mono ((g2.bC.trans g3.bC).trans g4.bC)).append (.cons r4 .nil)
 . have e:i=as.length:=by omega
   subst e
   refine .inl ⟨(go Hf1 H1 g1 _).2 (by simp),k D Hf1 H1 g1 hD Th ⟨vs,RB,?_⟩⟩
   rw[List.take_length] at rp
   exact rp
noncomputable def Lp (wi:TI)(nt:Nat)(ix:List Nat)(g:TG)(tt:TT)(te:TE):TE:=fun st H Q=>wi st H fun J H1=>∀ D,H1 D=none->DP nt g tt te (frees ix st) J D (fun _ H'=>Q (.ref D) H') H1
theorem Pu {tt:TT}{te:TE}(hc:X.calm=true)(B:sL X N tn ix sc)(hi:PI X tg iter wi)(hg:∀ C fp s H,PG (aW X N sc C fp s H) tg g)(ht:∀ C fp s H,Nr (aW X N sc C fp s H) ifs tt)(jM:∀ C fp s H,PE (aW X N sc C fp s H) elt te)(hs:∀ z,foldedSetIterable iter X.env z=pure z):PE X (.ListComp elt [⟨tg,iter,ifs,0⟩] sc pos) (Lp wi tn.length ix g tt te):=by
 intro pins s st H Q I h
 rw[eval_ListComp]
 refine wpAny_comprehension_free (use:=none) rfl hs (DN B I.ok) B.kind B.names (bX (hi pins s st H _ I h) fun v s1 h1=>bX h1 fun Oy s2 h2=>?_)
 obtain⟨it,fp,tj,J,H2,e,I2,T,F9,f2,hq⟩:=h2
 subst e
 refine AJ (RR:=fun acc C=>compPost (model X.prog X.w) X.A X.xe none (EP X pins st Q) acc C) hc B hg ht jM I2 T F9 f2 hq ?_
 intro D C ws H' s' I' ⟨m,hn⟩ oY q
 exact⟨m,hn,fun h' Lh=>⟨.ref D,H',I'.turned (t':=s'.toks) (it:=C) (fun b o hb e=>(Lh.2 b hb).trans e) oY.1 oY.2.1 oY.2.2.2.1 oY.2.2.2.2.1 oY.2.2.2.2.2,rfl,q⟩⟩
theorem Pw {tt:TT}{te:TE}{nN:Nat}(hc:X.calm=true)(B:sL X N tn ix sc)(hi:PI X tg iter wi)(hg:∀ C fp s H,PG (aW X N sc C fp s H) tg g)(ht:∀ C fp s H,Nr (aW X N sc C fp s H) ifs tt)(jM:∀ C fp s H,PE (aW X N sc C fp s H) elt te)(hs:∀ z,foldedSetIterable iter X.env z=pure z)(Pp:swapsWith (.ListComp elt [⟨tg,iter,ifs,0⟩] sc pos) (some (.Name y py)) wg.line X.env=pure true)(hN:X.N.Nodup)(hy:X.N[nN]?=some y)(hl:Loc X.env.scope y)(hf:X.fn y=true\/X.env.scope.names.lookup y=some .local):PS X (.Assign [.Name y py] (.ListComp elt [⟨tg,iter,ifs,0⟩] sc pos) wg) (fun D st H=>Lp wi tn.length ix g tt te st H fun v H'=>D.nx (st.set nN (some v)) H'):=by
 intro pins s st H D0 I h
 rw[exec_Assign_Name_used _ _ _ _ Pp]
 refine wpAny_bind (wpAny_standAt (wpAny_bind ?_))
 show wpAny _ X.A (do let _ <- comprehension (.ListComp elt [⟨tg,iter,ifs,0⟩] sc pos) sc X.env _ (newList []) false (eval iter X.env) (some (assign (.Name y py) X.env))) _ _ s
 refine wpAny_bind (wpAny_mono (wpAny_comprehension_free (use:=some (assign (.Name y py) X.env)) (Q:=fun _ s'=>SP X pins D0 .next s') rfl hs (DN B I.ok) B.kind B.names (bX (hi pins s st H _ I h) fun v s1 h1=>bX h1 fun Oy s2 h2=>?_)) (fun _ s' hq=>wpAny_pure (wpAny_pure hq)) fun _ _ z=>z)
 obtain⟨it,fp,tj,J,H2,e,I2,T,F9,f2,hq⟩:=h2
 subst e
 refine AJ (RR:=fun acc C=>compPost (model X.prog X.w) X.A X.xe (some (assign (.Name y py) X.env)) (fun _ s'=>SP X pins D0 .next s') acc C) hc B hg ht jM I2 T F9 f2 hq ?_
 intro D C ws H' s' I' ⟨m,hn⟩ oY q
 refine wpAny_assign_Name (qW I' hN hy hl (v:=.ref D) rfl (fun OL WG ⟨ad,Fe,ha⟩=>?_) hf)
 have ne:C≠ad:=by
   rcases ha with z | z
   . rw[z];exact oY.2.1
   . exact Ne.symm (oY.2.2.2.2.1 _ _ z)
 exact⟨m,hn.sameBut Fe ne,fun h' Lh=>⟨_,H',WG.turned (t':=OL.toks) (it:=C) (fun b o hb e=>(Lh.2 b hb).trans e) oY.1 oY.2.1 oY.2.2.2.1 oY.2.2.2.2.1 oY.2.2.2.2.2,q⟩⟩
theorem rD (hs:qv X G dl (as.map z) wi)(Hu:∀ a∈as,Pr X.K n g (z a) (sl a))(hn:as.length<=sizeLine):∀ st H Q,Vs X.K G dl (.lst ((as.filter keep).map f)) st H Q->Lp wi n ix g (Ln X.K dl ix as sl keep) (Lo X.K dl ix as sl keep f) st H Q:=fun st H Q ⟨Hf,S,k⟩=>
 hs st H _ ⟨Hf,S,fun J Hl H0 g0 src=>Fh (S.grow g0) hn Hu (fun Hf1 H1 g1 i=>src Hf1 H1 g1.bC g1.sub i) fun p aH H' g n1 n2 r=>k p aH H' (g0.trans g) (g0.big.free n1) n2 r⟩
theorem iu (as:List α)(z f:α->Dt)(sl:α->List Slot)(keep:α->Bool)(hc:X.calm=true)(B:sL X N tn ix sc)(hi:PI X tg iter wi)(hg:∀ C fp s H,PG (aW X N sc C fp s H) tg g)(u0:qv X G dl (as.map z) wi)(Hu:∀ a∈as,Pr X.K tn.length g (z a) (sl a))(Hv:AM X N sc dl ix as sl keep ifs)(jM:Pt X N sc dl ix as sl keep f elt)(hn:as.length<=sizeLine)(hs:∀ z,foldedSetIterable iter X.env z=pure z:=by intro _;rfl):EO X G dl (.ListComp elt [⟨tg,iter,ifs,0⟩] sc pos) (.lst ((as.filter keep).map f)):=gh (Pu hc B hi hg (Hs Hv) (Ht jM) hs) (rD u0 Hu hn)
theorem Hw (nN:Nat)(as:List α)(z f:α->Dt)(sl:α->List Slot)(keep:α->Bool)(hc:X.calm=true)(hN:X.N.Nodup)(B:sL X N tn ix sc)(hi:PI X tg iter wi)(hg:∀ C fp s H,PG (aW X N sc C fp s H) tg g)(u0:qv X G dl (as.map z) wi)(Hu:∀ a∈as,Pr X.K tn.length g (z a) (sl a))(Hv:AM X N sc dl ix as sl keep ifs)(jM:Pt X N sc dl ix as sl keep f elt)(hn:as.length<=sizeLine)(hs:∀ z,foldedSetIterable iter X.env z=pure z:=by intro _;rfl)(Pp:swapsWith (.ListComp elt [⟨tg,iter,ifs,0⟩] sc pos) (some (.Name y py)) wg.line X.env=pure true:=by rfl)(hy:X.N[nN]?=some y:=by rfl)(hl:Loc X.env.scope y:=by first | exact Or.inl rfl | exact Or.inr rfl)(hf:X.fn y=true\/X.env.scope.names.lookup y=some .local:=by first | exact .inl rfl | exact .inr rfl | assumption):ES X G E dl (.Assign [.Name y py] (.ListComp elt [⟨tg,iter,ifs,0⟩] sc pos) wg) (.nx (dl.set nN (.own (.lst ((as.filter keep).map f))))):=
 sv (Pw hc B hi hg (Hs Hv) (Ht jM) hs Pp hN hy hl hf) fun D st H ⟨Hf,S,k⟩=>rD u0 Hu hn st H _ ⟨Hf,S,fun p aH H' g n1 n2 r=>k _ aH H' g.bC (S.Pl g n1 n2 r)⟩
noncomputable def WO (K:W.Frag)(g:TG)(z:Dt)(up:List Slot->List Slot):Prop:=∀ (G:Gr) (st:L2.St) (Hf H:Hp) (v:V) (dl:List Slot) (Q:L2.St->Hp->Prop),dJ K G st Hf H dl->Rep K Hf v z->(∀ jv,dJ K G jv Hf H (up dl)->Q jv H)->g v st H Q
theorem tR {K:W.Frag}{n:Nat}{z:Dt}:WO K (pj n) z (fun dl=>dl.set n (.val z)):=fun G st Hf H v dl Q S r k=>k _ (S.set r)
theorem DQ {K:W.Frag}{n m:Nat}{z1 z2:Dt}:WO K (Ot K 2 (zZ (pj n) (zZ (pj m) Oq))) (.tup [z1,z2]) (fun dl=>(dl.set n (.val z1)).set m (.val z2)):=fun G st Hf H v dl Q S r k=>by
 cases r with
 | @tup q vs _ hq rp=>
   cases rp with
   | cons r1 t1=>cases t1 with
     | cons r2 t2=>
       cases t2
       exact⟨q,_,rfl,bN S.sub hq,rfl,_,_,rfl,_,_,rfl,rfl,k _ ((S.set r1).set r2)⟩
theorem oo {body:List Stmt}{m:Nat}(as:List α)(z:α->Dt)(up:α->List Slot->List Slot)(S:Nat->List Slot)(qp:X.calm=true)(hp:PassesOwn (model X.prog X.w) X.A X.env X.xe)(hI:PI X tg iter wi)(u0:qv X G dl (as.map z) wi)(hg:PG X tg g)(Hu:∀ a∈as,WO X.K g (z a) (up a))(h0:Le (S 0) dl)(Vo:m<=as.length)(hb:∀ (k:Nat) (a:α),k < m->as[k]?=some a->Goes X G E body (up a (S k)) (S (k+1)))(he:pq X G E body S (fun k=>(as[k]?).elim (S k) fun a=>up a (S k)) as.length m o)(hs:∀ z,foldedSetIterable iter X.env z=pure z:=by intro _;rfl):ES X G E dl (.For tg iter body [] pos) o:=by
 refine sv (xY hp qp hI hg (qo (G:=G) (E:=E)) hs) fun D st H ⟨Hf,S0,k⟩=>u0 st H _ ⟨Hf,S0,fun J Hl H0 g0 src=>?_⟩
 refine⟨fun i q st H=>q=as.length - i/\i<=m/\∃ Hf1,aE Hl Hf1/\dJ X.K G st Hf1 H (S i),⟨as.length,rfl,Nat.zero_le _,Hl,aE.refl _,(S0.grow g0).weak h0⟩,?_⟩
 rintro i q Vv H1 ⟨rfl,him,Hf1,s1,S1⟩
 have sr:=src Hf1 H1 s1 S1.sub i
 by_cases de:i < as.length
 . have hz:as[i]?=some as[i]:=List.getElem?_eq_getElem de
   obtain⟨Ti,hy⟩:=sr.1 (z as[i]) (by rw[List.getElem?_map,hz];rfl)
   refine .inr ⟨Ti,fun jv H'=>i < m/\∃ bO,aE Hl bO/\dJ X.K G jv bO H' (S (i+1)),fun jv H' ⟨h1,h2⟩=>⟨as.length - (i+1),by omega,rfl,by omega,h2⟩,fun x H' y=>?_⟩
   obtain⟨bO,g2,rv⟩:=hy x H' y
   refine Hu as[i] (List.getElem_mem de) G Vv bO H' x (S i) _ (S1.grow g2) rv fun F9 S2=>?_
   by_cases Px:i < m
   . exact oj (hb i as[i] Px hz) S2 (fun st iU H s3 S'=>⟨Px,iU,(s1.trans g2.bC).trans s3,S'⟩) (fun st iU H s3 S'=>⟨Px,iU,(s1.trans g2.bC).trans s3,S'⟩)
   . have e:i=m:=by omega
     subst e
     refine rm he de ?_ (k.mono ((g0.bC.trans s1).trans g2.bC)) rfl rfl
     show dJ _ _ _ _ _ ((as[i]?).elim (S i) fun a=>up a (S i))
     rw[hz];exact S2
 . have e:i=as.length:=by omega
   subst e
   have e2:m=as.length:=by omega
   subst e2
   refine .inl ⟨sr.2 (by simp),?_⟩
   cases he with
   | all _=>exact k Vv Hf1 H1 (g0.bC.trans s1) S1
   | rt h _=>omega
   | ro h _=>omega
   | bk h _=>omega
   | ex h _=>omega
theorem cW (B:sL X N tn ix sc)(h:tn=[x]):∀ C fp s H,PG (aW X N sc C fp s H) (.Name x px) (pj 0):=fun C fp s H=>by
 have hN:(aW X N sc C fp s H).N[0]?=some x:=by
   show N[0]?=some x
   rw[B.nm,h];rfl
 have Kj:(aW X N sc C fp s H).env.scope.names.lookup x=some .local:=lookup_relabel_local (B.hx x (by rw[h];simp))
 exact bx (X:=aW X N sc C fp s H) B.nd hN (.inl Kj) (.inr Kj)
theorem Hx {k:Nat}(hc:X.calm=true)(B:sL X N tn ix sc)(h:tn=[x,y]):∀ C fp s H,PG (aW X N sc C fp s H) (.Tuple [.Name x px,.Name y py] k p) (Nt X.K):=fun C fp s H=>by
 have h0:(aW X N sc C fp s H).N[0]?=some x:=by
   show N[0]?=some x
   rw[B.nm,h];rfl
 have h1:(aW X N sc C fp s H).N[1]?=some y:=by
   show N[1]?=some y
   rw[B.nm,h];rfl
 have Kj:(aW X N sc C fp s H).env.scope.names.lookup x=some .local:=lookup_relabel_local (B.hx x (by rw[h];simp))
 have G9:(aW X N sc C fp s H).env.scope.names.lookup y=some .local:=lookup_relabel_local (B.hx y (by rw[h];simp))
 exact uD (X:=aW X N sc C fp s H) hc (cV (bx B.nd h0 (.inl Kj) (.inr Kj)) (cV (bx B.nd h1 (.inl G9) (.inr G9)) n6 rfl) rfl) rfl rfl
end
noncomputable def iY (sc AH:Scope)(XN N tn:List Str)(ix:List Nat):Bool:=
 decide N.Nodup && (decide (N=tn ++ ix.map (fun j=>XN.getD j "")) && (decide (sc.kind=.function) && (sc.names.all (fun y=>decide (y.2≠.cell)) && (sc.names.all (fun y=>decide (y.2=.local->sc.names.lookup y.1=some .local)) && (tn.all (fun x=>decide (sc.names.lookup x=some .local)) &&
   (sc.names.all (fun y=>decide (y.2=.free->AH.names.lookup y.1=some .cell\/AH.names.lookup y.1=some .free)) && ix.all (fun j=>decide (sc.names.lookup (XN.getD j "")=some .free) && decide (j < XN.length))))))))
theorem cQ {X:Cx}{sc AH:Scope}{XN N tn:List Str}{ix:List Nat}(h:iY sc AH XN N tn ix=true)(e1:X.env.scope=AH:=by rfl)(e2:X.N=XN:=by rfl):sL X N tn ix sc:=by
 subst e1 e2
 unfold iY at h
 simp only[Bool.and_eq_true,List.all_eq_true,decide_eq_true_eq] at h
 obtain⟨h1,h2,h3,h4,h5,h6,h7,h8⟩:=h
 refine⟨h1,h2,h3,h4,h5,h6,h7,fun j hj=>?_⟩
 obtain⟨q1,q2⟩:=h8 j hj
 refine⟨X.N.getD j "",?_,q1⟩
 rw[List.getD_eq_getElem?_getD,List.getElem?_eq_getElem q2];rfl
section
variable {X:Cx}{G:Gr}{E:XK}{dl:List Slot}{a b:Expr}{d1 d2:Dt}{pos:Pos}{x y:Str}
theorem Hy (n1 n2:Nat){px py pt Ow:Pos}{kt k2}(hN:X.N.Nodup)(hc:X.calm=true)(ha:EA X G dl [a,b] [d1,d2])(hi:X.N[n1]?=some x:=by rfl)(hj:X.N[n2]?=some y:=by rfl)(R6:n1≠n2:=by decide)(hx:X.env.scope.names.lookup x=some .local:=by rfl)(hy:X.env.scope.names.lookup y=some .local:=by rfl)(hw:swappedStores [.Tuple [.Name x px,.Name y py] kt pt] (.Tuple [a,b] k2 Ow) X.env=pure (some [x,y]):=by rfl)(hs:swapsWithSole [.Tuple [.Name x px,.Name y py] kt pt] (.Tuple [a,b] k2 Ow) pos.line X.env=pure false:=by rfl):ES X G E dl (.Assign [.Tuple [.Name x px,.Name y py] kt pt] (.Tuple [a,b] k2 Ow) pos) (.nx ((dl.set n1 (.val d1)).set n2 (.val d2))):=
 sv (Ov hc hN hi hj R6 hx hy ha hw hs) fun D st H ⟨Hf,S,k⟩=>⟨Hf,S,fun vs Hf1 H1 g1 r1=>by
   cases r1 with
   | cons r1 t1=>cases t1 with
     | cons r2 t2=>
       cases t2
       exact⟨_,_,rfl,k _ Hf1 H1 g1.bC (((S.grow g1).set r1).set r2)⟩⟩
end
section
variable {X:Cx}{G:Gr}{E:XK}{dl:List Slot}{e:Expr}{d1 d2:Dt}{pos:Pos}
theorem yx (n1 n2:Nat){a b:Str}{pa pb tp:Pos}{cx:Nat}(hN:X.N.Nodup)(hc:X.calm=true)(he:EE X G dl e (.tup [d1,d2]))(Tv:X.N[n1]?=some a:=by rfl)(Tw:X.N[n2]?=some b:=by rfl)(Tx:Loc X.env.scope a:=by first | exact Or.inl rfl | exact Or.inr rfl)(O1:Loc X.env.scope b:=by first | exact Or.inl rfl | exact Or.inr rfl)(Tz:X.fn a=true\/X.env.scope.names.lookup a=some .local:=by first | exact .inl rfl | exact .inr rfl)(TB:X.fn b=true\/X.env.scope.names.lookup b=some .local:=by first | exact .inl rfl | exact .inr rfl)(hn:(assignEach [.Name a pa,.Name b pb] X.env).length=2:=by rfl)(m7:(assignEach [.Name a pa,.Name b pb] X.env).findIdx? (·.1)=none:=by rfl)(q1:(assignEach [.Name a pa,.Name b pb] X.env).map (·.2)=assign (.Name a pa) X.env::(assignEach [.Name b pb] X.env).map (·.2):=by rfl)(q2:(assignEach [.Name b pb] X.env).map (·.2)=assign (.Name b pb) X.env::(assignEach [] X.env).map (·.2):=by rfl)(hs:swapsWithSole [.Tuple [.Name a pa,.Name b pb] cx tp] e pos.line X.env=pure false:=by rfl)(hw:swappedStores [.Tuple [.Name a pa,.Name b pb] cx tp] e X.env=pure none:=by rfl)(h1:(assignEach [.Tuple [.Name a pa,.Name b pb] cx tp] X.env).map (·.2)=[assign (.Tuple [.Name a pa,.Name b pb] cx tp) X.env]:=by rfl):ES X G E dl (.Assign [.Tuple [.Name a pa,.Name b pb] cx tp] e pos) (.nx ((dl.set n1 (.val d1)).set n2 (.val d2))):=
 sv (xX he (uD hc (cV (bx (pos:=pa) hN Tv Tx Tz) (cV (bx (pos:=pb) hN Tw O1 TB) n6 q2) q1) hn m7) hs hw h1) fun D st H ⟨Hf,S,k⟩=>⟨Hf,S,fun v Hf1 H1 g1 r1=>by
   cases r1 with
   | @tup q vs _ hq rp=>
     cases rp with
     | cons r1 t1=>cases t1 with
       | cons r2 t2=>
         cases t2
         exact⟨q,_,rfl,bN g1.sub hq,rfl,_,_,rfl,_,_,rfl,rfl,k _ Hf1 H1 g1.bC (((S.grow g1).set r1).set r2)⟩⟩
end
section
variable {X:Cx}{pins:List (Addr×Obj)}{σ:List (Option V)}{H:Hp}{s:Shared}{h':Heap}
theorem AN {ch:List Addr}{a:Addr}{o:HO}{t':Nat}(I:L2.Inv X pins σ H s)(zK:∀ b∈ch,kL X pins H b)(k:∀ b u,b ∉ ch->s.heap.get? b=some u->h'.get? b=some u)(hp:s.heap.objs.size<=a)(new:aJ X.prog X.w (upd H a o) h' a o):L2.Inv X pins σ (upd H a o) { s with heap:=h',toks:=t'}:=by
 have hn:=I.a5.fresh hp
 have RV:∀ b u,H b=some u->b ∉ ch:=fun b u e z=>by rw[(zK b z).1] at e;cases e
 have nea:∀ b o,s.heap.get? b=some o->b≠a:=fun b o e=>Nat.ne_of_lt (Nat.lt_of_lt_of_le (Heap.lt_size e) hp)
 refine I.step (g':=s.gens) (d':=s.drawn) (ch:=ch) (fun b hb=>⟨(zK b hb).2.2.2.1,(zK b hb).2.1,(zK b hb).2.2.2.2.1,(zK b hb).2.2.2.2.2⟩) (fun b o _ _ hc e _=>k b o hc e) (fun b o _ _ hc e _=>⟨o.slots,k b o hc e⟩) (fun b o _ e n=>by rw[ag (nea b o e)];exact n)
   (fun b o hc e=>⟨o,k b o hc e⟩) (fun b xs e=>by rw[ag (aw e hn)];exact e) (fun b o u e=>by rw[ag (aw e hn)];exact e) (fun b ps e=>⟨#[],by rw[ag (aw e hn),e];simp⟩) (fun m hm=>?_) (fun b u e=>?_) I.bare
 . obtain⟨o,es,ep,ho,r⟩:=hm
   exact⟨o,es,ep,k _ o (fun z=>(zK _ z).2.1 rfl) ho,r⟩
 . by_cases hb:b=a
   . subst hb;rw[ak] at e;cases e;exact new
   . rw[ag hb] at e
     refine(I.a5 b u e).xS (fun c v hc q=>k c v ?_ q) (fun c q=>by rw[ag (aw q hn)];exact q) (fun c xs q=>by rw[ag (aw q hn)];exact q) (.of fun c u q=>by rw[ag (aw q hn)];exact q)
     rcases hc with z | z | z
     . rw[z];exact RV b u e
     . exact RV c _ z
     . exact fun z'=>by rw[(zK c z').1] at z;exact z
end
noncomputable def Y1 (K:PySem.W.Frag)(a:Addr):It:=
 ⟨fun i H=>∃ xs x,mh K H a xs/\xs[i]?=some x,fun i H v H'=>∃ p x,v=.ref p/\H p=none/\H'=upd H p (.tup [.int i,x])/\∀ xs,mh K H a xs->xs[i]?=some x,fun i H=>∃ xs,mh K H a xs/\xs.length<=i⟩
theorem Fi {P:Program}{w:World}{K:W.Frag}{elts:List Expr}{kt:Nat}{xZ:Pos}(a e it:Addr)(RD:e≠it):Turn P w K (.Tuple elts kt xZ) (Y1 K a) [e,it] e (fun i h=>(∃ old,IsEnum h e it i old)/\h.IsListIter it a i) where
 mem:=by simp
 obj:=fun i h st b hb=>by
   obtain⟨⟨old,he⟩,o,e2,c,d⟩:=st
   rcases List.mem_cons.mp hb with rfl | hb
   . exact⟨_,he,fun v z=>by cases z⟩
   . have:b=it:=by simpa using hb
     subst this
     exact⟨o,e2,fun v z=>by rw[d] at z;cases z⟩
 keep:=fun i h h' st k=>by
   obtain⟨⟨old,he⟩,hit⟩:=st
   exact⟨⟨old,k e (by simp) _ he⟩,hit.at fun o x=>k it (by simp) o x⟩
 item:=by
   intro X hP hw hK hc i pins s σ H E I hf st hg
   subst hP hw hK
   obtain⟨xs,x,hq,hx⟩:=hg
   obtain⟨aC,rv,p,hz⟩:=I.list hq
   obtain⟨u,hu,ru⟩:=rv.get hx
   obtain⟨⟨old,he⟩,hit⟩:=st
   have TC:e < s.heap.objs.size:=Heap.lt_size he
   have Vx:it < s.heap.objs.size:=by obtain⟨_,z,_⟩:=hit;exact Heap.lt_size z
   refine wpAny_pyNext_enum_item he hit p.isList (x:=u) (by simpa using hu) RD fun h1 ho Py hT hsz hk=>?_
   refine⟨_,rfl,wpAny_letOwnedTupleGo_enum ho fun h2 Pd z8=>?_⟩
   have WQ:h2.get? s.heap.objs.size=some { cls:=.type "tuple",data:=.seq #[.int i s.toks,u]}:=(z8.2 _ (Nat.ne_of_gt TC)).trans hT
   have k2:∀ b o,b ∉ [e,it]->s.heap.get? b=some o->h2.get? b=some o:=fun b o hb q=>(z8.2 b fun z=>hb (by simp[z])).trans (hk b o (fun z=>hb (by simp[z])) (fun z=>hb (by simp[z])) q)
   have hp:H s.heap.objs.size=none:=I.a5.fresh (Nat.le_refl _)
   have I2:L2.Inv X pins σ (upd H s.heap.objs.size (.tup [.int i,x])) { s with heap:=h2,toks:=s.toks+1}:=AN I hf k2 (Nat.le_refl _) ⟨Nat.le_of_ble_eq_true rfl,[.int i s.toks,u],.cons ⟨_,rfl⟩ (.cons ru .nil),_,WQ,rfl,_,rfl⟩
   refine⟨.ref s.heap.objs.size,_,I2,rfl,⟨_,x,rfl,hp,rfl,fun ys hy=>by rw[I.zY hy hq];exact hx⟩,⟨⟨u,by simpa using Pd⟩,Py.at fun o z=>(z8.2 it (Ne.symm RD)).trans z⟩,fun b hb=>?_⟩
   have:b≠s.heap.objs.size:=by
     rcases List.mem_cons.mp hb with rfl | hb
     . exact Nat.ne_of_lt TC
     . have:b=it:=by simpa using hb
       subst this
       exact Nat.ne_of_lt Vx
   rw[ag this]
   exact(hf b hb).1
 done:=by
   intro X hP hw hK hc i pins s σ H E I hf st hg
   subst hP hw hK
   obtain⟨xs,hq,hx⟩:=hg
   obtain⟨aC,rv,p,hz⟩:=I.list hq
   obtain⟨⟨old,he⟩,hit⟩:=st
   obtain⟨f0,f1,f2,f3,f4,f5⟩:=hf it (by simp)
   have hl:=rv.length
   exact wpAny_pyNext_enum_end (I.ok.hd hc) he hit p.isList (by simp;omega) fun h' eb=>⟨rfl,I.turned (t':=s.toks) (fun b o hb q=>eb b o hb q) f0 f1 f3 f4 f5⟩
 self:=fun _ i s Q E st h=>by
   obtain⟨⟨old,he⟩,_⟩:=st
   exact wpAny_pyIter_enum he h
theorem boot_enumerate:bootBuiltins "enumerate"=some (.type "enumerate"):=by decide +kernel
section
variable {X:Cx}{G:Gr}{dl:List Slot}{a:Expr}{xs:List Dt}{p pos:Pos}
noncomputable def Nu (K:W.Frag)(ta:TA):TI:=fun σ H R=>ta σ H fun vs H1=>∃ a,vs=[.ref a]/\(∃ xs,mh K H1 a xs)/\R (Y1 K a) H1
theorem Lq {elts:List Expr}{kt:Nat}{xZ:Pos}{ta:TA}(hg:Gl X "enumerate")(hm:X.mg "enumerate"=none)(ha:PA X [a] ta)(hs:starEach [a] X.env=[(false,eval a X.env)]:=by rfl):PI X (.Tuple elts kt xZ) (.Call (.Name "enumerate" p) [a] [] pos) (Nu X.K ta):=by
 intro pins s σ H R I h
 refine Call_ (pH I hg hm boot_enumerate (PyProof.Rows.callWith_type1 (bX (ha pos pins s σ H _ I h) fun us s1 ⟨vs,H1,I1,r1,q1⟩=>?_) hs rfl))
 obtain⟨l,e,⟨xs,hq⟩,q⟩:=q1
 subst e
 cases r1 with
 | cons r rr=>
   cases rr
   cases r
   obtain⟨aC,rv,pl,hz⟩:=I1.list hq
   refine call_enumerate_list pl.isList fun h' he hit hsz k=>wpAny_pyIter_enum he ?_
   have I2:L2.Inv X pins σ H1 { s1 with heap:=h'}:=I1.kept (t':=s1.toks) k
   refine⟨s1.heap.objs.size+1,[s1.heap.objs.size+1,s1.heap.objs.size],_,_,H1,rfl,I2,Fi l _ s1.heap.objs.size (Nat.succ_ne_self _),⟨⟨_,he⟩,hit⟩,fun b hb=>?_,q⟩
   have O8:s1.heap.objs.size<=b:=by
     rcases List.mem_cons.mp hb with rfl | hb
     . exact Nat.le_succ _
     . have:b=s1.heap.objs.size:=by simpa using hb
       rw[this];exact Nat.le_refl _
   exact I1.uE O8 (I1.a5.fresh O8)
noncomputable def sC (xs:List Dt):List Dt:=(List.range xs.length).map fun(k:Nat)=>.tup [.int k,xs.getD k .cP]
theorem Fj:qv X G dl (sC xs) (Nu X.K (Rz X.K G dl [.lst xs])):=fun st H R ⟨Hf,S,k⟩=>⟨Hf,S,fun vs Hf1 H1 g1 r1=>by
 cases r1 with
 | cons r t=>
   cases t
   cases r with
   | @lst q vs _ hq rp=>
     have hl:=rp.length
     refine⟨q,rfl,⟨vs,.of (g1.sub _ _ hq)⟩,k _ Hf1 H1 g1 fun bO H2 s1 s2 i=>⟨fun z hz=>?_,fun hi=>⟨vs,.of (s2 _ _ (s1 _ _ hq)),by unfold sC at hi;rw[List.length_map,List.length_range] at hi;omega⟩⟩⟩
     have hi:i < xs.length:=by
       have:=(List.getElem?_eq_some_iff.mp hz).1
       unfold sC at this
       simpa using this
     unfold sC at hz
     rw[List.getElem?_map,List.getElem?_range hi] at hz
     cases hz
     have hx:xs[i]?=some (xs.getD i .cP):=by rw[List.getD_eq_getElem?_getD,List.getElem?_eq_getElem hi];rfl
     obtain⟨u,z1,z2⟩:=rp.get hx
     have hs:mh X.K H2 q vs:=.of (s2 _ _ (s1 _ _ hq))
     refine⟨⟨vs,u,hs,z1⟩,fun v H3 hy=>?_⟩
     obtain⟨pt,x,rfl,hn,rfl,e2⟩:=hy
     have e2:=e2 vs hs
     rw[z1] at e2;cases e2
     have g3:bb bO H2 (upd bO pt (.tup [.int i,u])) (upd H2 pt (.tup [.int i,u])):=.alloc s2 hn
     exact⟨_,g3,.tup (.inl ak) (.cons (.int _) (.cons ((z2.mono s1).mono g3.bC) .nil))⟩⟩
end
section
noncomputable def noOwn:List Slot->Bool
 | []=>true
 | .own _::_=>false
 | _::r=>noOwn r
theorem aQ:∀ {dl:List Slot},noOwn dl=true->∀ (j:Nat) o,dl[j]?≠some (.own o)
 | [],_,j,o,h=>by simp at h
 | .val d::r,q,0,o,h=>by simp at h
 | .bw::r,q,0,o,h=>by simp at h
 | .val d::r,q,j+1,o,h=>aQ (dl:=r) q j o (by simpa using h)
 | .bw::r,q,j+1,o,h=>aQ (dl:=r) q j o (by simpa using h)
end
section
variable {X:Cx}{G:Gr}{dl:List Slot}{e:Expr}{x:Str}{i j:Int}{pos p2:Pos}{lo hi:Option Expr}{l u:Option Int}
theorem Pz:Wj X (fun x lo hi H Q=>∃ z:Str,x=.str z/\z.length<=sizeLine/\Q (.str (Txt.slice z lo hi)) H):=by
 intro pins s σ H x v vl vu lo hi sl Q I rx hs pl pu h
 obtain⟨z,rfl,hz,q⟩:=h
 obtain⟨t,rfl⟩:=(show ∃ t,v=Value.str z t from rx)
 obtain⟨o,h1,h2,h3⟩:=hs
 refine⟨"str",_,F.slot_str_getitem.lookup,typeIs_str _ _ _,?_⟩
 cases pl with
 | none=>
   cases pu with
   | none=>exact wpAny_getItem_str_slice (l:=none) (u:=none) (st:=none) ⟨o,h1,h2,h3⟩ rfl (post_val_or_str ⟨Nat.le_trans (Txt.slice_le z _ _) hz,fun t' k=>⟨.str (Txt.slice z _ _),H,I.tok _,⟨t',rfl⟩,q⟩⟩)
   | int j uj=>exact wpAny_getItem_str_slice (l:=none) (u:=some (j,uj)) (st:=none) ⟨o,h1,h2,h3⟩ rfl (post_val_or_str ⟨Nat.le_trans (Txt.slice_le z _ _) hz,fun t' k=>⟨.str (Txt.slice z _ _),H,I.tok _,⟨t',rfl⟩,q⟩⟩)
 | int i ui=>
   cases pu with
   | none=>exact wpAny_getItem_str_slice (l:=some (i,ui)) (u:=none) (st:=none) ⟨o,h1,h2,h3⟩ rfl (post_val_or_str ⟨Nat.le_trans (Txt.slice_le z _ _) hz,fun t' k=>⟨.str (Txt.slice z _ _),H,I.tok _,⟨t',rfl⟩,q⟩⟩)
   | int j uj=>exact wpAny_getItem_str_slice (l:=some (i,ui)) (u:=some (j,uj)) (st:=none) ⟨o,h1,h2,h3⟩ rfl (post_val_or_str ⟨Nat.le_trans (Txt.slice_le z _ _) hz,fun t' k=>⟨.str (Txt.slice z _ _),H,I.tok _,⟨t',rfl⟩,q⟩⟩)
noncomputable def WR (K:W.Frag)(G:Gr)(dl:List Slot)(o:Option Int):TO:=fun st H Q=>∃ Hf,dJ K G st Hf H dl/\∀ aH H',bb Hf H aH H'->Q o H'
noncomputable abbrev Vy (X:Cx)(G:Gr)(dl:List Slot)(e:Option Expr)(o:Option Int):Prop:=PO X e (WR X.K G dl o)
theorem Y2 {e:Option Expr}{t t':TO}(h:PO X e t)(i:∀ st H Q,t' st H Q->t st H Q):PO X e t':=fun pins s st H Q I q=>h pins s st H Q I (i st H Q q)
theorem Hz:Vy X G dl none none:=Y2 Dw fun st H Q ⟨Hf,S,k⟩=>k Hf H (.refl S.sub)
theorem DR (h:EE X G dl e (.int i)):Vy X G dl (some e) (some i):=Y2 (Dx h) fun st H Q ⟨Hf,S,k⟩=>⟨Hf,S,fun v Hf1 H1 g1 r1=>by cases r1;exact⟨i,rfl,k Hf1 H1 g1⟩⟩
theorem HA (he:EE X G dl e (.str x))(hl:Vy X G dl lo l)(hu:Vy X G dl hi u)(hx:x.length<=sizeLine):EE X G dl (.Subscript e (.Slice lo hi none p2) pos) (.str (Txt.slice x l u)):=
 gh (Ae Pz he hl hu) fun st H Q ⟨Hf,S,k⟩=>⟨Hf,S,fun v Hf1 H1 g1 r1=>⟨Hf1,S.grow g1,fun bO H2 g2=>⟨bO,(S.grow g1).grow g2,fun iU H3 g3=>by
   cases r1
   exact⟨x,rfl,hx,k _ iU H3 ((g1.trans g2).trans g3) (.str _)⟩⟩⟩⟩
end
noncomputable def Y3 (x:Str):It:=⟨fun i H=>∃ c,x.cps[i]?=some c,fun i H v H'=>H'=H/\∃ c,x.cps[i]?=some c/\v=.str ⟨#[c]⟩,fun i H=>x.cps[i]?=none⟩
theorem HB {P:Program}{w:World}{K:W.Frag}{tg:Expr}(x:Str)(t:Tok)(it:Addr):Turn P w K tg (Y3 x) [it] it (fun i h=>h.IsStrIter it "str_ascii_iterator" x t i) where
 mem:=by simp
 obj:=fun i h st b hb=>by
   have e:b=it:=by simpa using hb
   subst e
   obtain⟨o,e,c,d⟩:=st
   exact⟨o,e,fun v z=>by rw[d] at z;cases z⟩
 keep:=fun i h h' st k=>let ⟨o,e,c,d⟩:=st;⟨o,k it (by simp) o e,c,d⟩
 item:=by
   intro X hP hw hK hc i pins s σ H E I hf st hg
   subst hP hw hK
   obtain⟨c,hx⟩:=hg
   obtain⟨f0,f1,f2,f3,f4,f5⟩:=hf it (by simp)
   refine wpAny_pyNext_ascii_item st hx fun h' jv sb=>?_
   have I1:L2.Inv X pins σ H { s with heap:=h',toks:=s.toks+1}:=I.turned (t':=s.toks+1) (fun b o hb e=>(sb.2 b hb).trans e) f0 f1 f3 f4 f5
   obtain⟨o,e,cc,d⟩:=id jv
   exact⟨_,rfl,z6 (s:={ s with heap:=h',toks:=s.toks+1}) e cc d (by decide) ⟨.str ⟨#[c]⟩,H,I1,⟨_,rfl⟩,⟨rfl,c,hx,rfl⟩,jv,fun b hb=>(hf b hb).1⟩⟩
 done:=by
   intro X hP hw hK hc i pins s σ H E I hf st hg
   subst hP hw hK
   obtain⟨f0,f1,f2,f3,f4,f5⟩:=hf it (by simp)
   exact wpAny_pyNext_ascii_end (I.ok.hd hc) st hg fun h' eb=>⟨rfl,I.turned (t':=s.toks) (fun b o hb e=>eb b o hb e) f0 f1 f3 f4 f5⟩
 self:=fun _ _ _ _ _ st h=>wpAny_pyIter_striter_ascii st h
noncomputable def jO (x:Str):Bool:=x.cps.all (· < 128)
noncomputable def signs (x:Str):List Dt:=x.cps.toList.map fun c=>.str ⟨#[c]⟩
section
variable {X:Cx}{G:Gr}{dl:List Slot}{a b c e:Expr}{x y z:Str}{pos:Pos}{i j k:Int}{u v:Bool}
noncomputable def TF (ta:TE):TI:=fun σ H R=>ta σ H fun v H1=>∃ x,v=.str x/\jO x=true/\R (Y3 x) H1
theorem i4 {tg:Expr}{ta:TE}(ha:PE X a ta):PI X tg a (TF ta):=by
 intro pins s σ H R I h
 refine bX (ha pins s σ H _ I h) fun v s1 ⟨w,H1,I1,r1,q1⟩=>?_
 obtain⟨x,e,hx,q⟩:=q1
 subst e
 obtain⟨t,rfl⟩:=(show ∃ t,v=Value.str x t from r1)
 refine wpAny_pyIter_ascii hx ?_
 refine⟨s1.heap.objs.size,[s1.heap.objs.size],_,_,H1,rfl,I1.kept (t':=s1.toks) fun b o e=>Heap.get?_push_of_some _ e,HB x t _,⟨_,Heap.get?_push_size _ rfl,rfl,rfl⟩,fun b hb=>?_,q⟩
 have e:b=s1.heap.objs.size:=by simpa using hb
 subst e
 exact I1.uE (Nat.le_refl _) (I1.a5.fresh (Nat.le_refl _))
theorem signs_get (x:Str)(i:Nat):(signs x)[i]?=(x.cps[i]?).map fun c=>.str ⟨#[c]⟩:=by
 unfold signs
 rw[List.getElem?_map,Array.getElem?_toList]
theorem ow (x:Str):(signs x).length=x.length:=by
 unfold signs
 rw[List.length_map,Array.length_toList];rfl
theorem dY (hx:jO x=true):qv X G dl (signs x) (TF (tD X.K G dl (.str x))):=fun st H R ⟨Hf,S,k⟩=>⟨Hf,S,fun v Hf1 H1 g1 r1=>by
 cases r1
 refine⟨x,rfl,hx,k _ Hf1 H1 g1 fun bO H2 s1 s2 i=>⟨fun z hz=>?_,fun hi=>?_⟩⟩
 . rw[signs_get] at hz
   cases q:x.cps[i]? with
   | none=>rw[q] at hz;cases hz
   | some c=>
     rw[q] at hz
     cases hz
     refine⟨⟨c,q⟩,fun v H3 ⟨e1,c',e2,e3⟩=>?_⟩
     rw[q] at e2;cases e2
     subst e1 e3
     exact⟨bO,.refl s2,.str _⟩
 . show x.cps[i]?=none
   rw[hi,ow]
   exact Array.getElem?_size_le (Nat.le_refl _)⟩
theorem xw:n9 X (compareOp .LtE) (fun x y H Q=>∃ i j,x=.str i/\y=.str j/\Q (.bl (!decide (j.cps.toList < i.cps.toList))) H):=by
 intro pins s σ H x y v u Q I rx ry h
 obtain⟨i,j,rfl,rfl,q⟩:=h
 obtain⟨t,rfl⟩:=rx
 obtain⟨t',rfl⟩:=ry
 exact P.le_str (bE I q rfl)
noncomputable def PB (x y:Str):Bool:=!decide (y.cps.toList < x.cps.toList)
theorem HC {K:W.Frag}:DE K (fun x y H Q=>∃ i j,x=.str i/\y=.str j/\Q (.bl (!decide (j.cps.toList < i.cps.toList))) H) (.str x) (.str y) (.bl (PB x y)):=fun v w Hf H Q s r1 r2 k=>by
 cases r1;cases r2;exact⟨x,y,rfl,rfl,k _ Hf H (.refl s) (.bl _)⟩
variable {d1 d2 d3:Dt}
theorem AO {op OH:CmpOp}{r r':R2}(ho:n9 X (compareOp op) r)(zV:n9 X (compareOp OH) r')(h1:DE X.K r d1 d2 (.bl u))(h2:DE X.K r' d2 d3 (.bl v))(ha:EE X G dl a d1)(hb:EE X G dl b d2)(hc:EE X G dl c d3)(hm:lastMarks [op,OH] [b,c]=false:=by with_unfolding_all rfl):EE X G dl (.Compare a [op,OH] [b,c] pos) (.bl (u && v)):=
 gh (GH ho zV ha hb hc hm) fun st H Q ⟨Hf,S,k⟩=>⟨Hf,S,fun x Hf1 H1 g1 r1=>⟨Hf1,S.grow g1,fun y bO H2 g2 r2=>h1 x y bO H2 _ g2.sub (r1.mono g2.bC) r2 fun z iU H3 g3 r3=>by
   cases r3
   refine⟨u,rfl,?_⟩
   cases u with
   | false=>exact An (k _ iU H3 ((g1.trans g2).trans g3) (.bl _))
   | true=>exact Ao ⟨iU,((S.grow g1).grow g2).grow g3,fun w Kk H4 g4 r4=>h2 y w Kk H4 Q g4.sub (r2.mono (g3.bC.trans g4.bC)) r4 fun q wa H5 g5 r5=>k q wa H5 ((((g1.trans g2).trans g3).trans g4).trans g5) r5⟩⟩⟩
theorem HD (ha:EE X G dl a (.str x))(hb:EE X G dl b (.str y))(hc:EE X G dl c (.str z))(hm:lastMarks [.LtE,.LtE] [b,c]=false:=by with_unfolding_all rfl):EE X G dl (.Compare a [.LtE,.LtE] [b,c] pos) (.bl (PB x y && PB y z)):=AO xw xw HC HC ha hb hc hm
theorem HE (ha:EE X G dl a (.int i))(hb:EE X G dl b (.int j))(hc:EE X G dl c (.int k))(hm:lastMarks [.LtE,.LtE] [b,c]=false:=by with_unfolding_all rfl):EE X G dl (.Compare a [.LtE,.LtE] [b,c] pos) (.bl (decide (i<=j) && decide (j<=k))):=
 AO GG GG (sx (g':=fun i j=>.bl (decide (i<=j))) fun _ _ _ _=>.bl _) (sx (g':=fun i j=>.bl (decide (i<=j))) fun _ _ _ _=>.bl _) ha hb hc hm
end
section
variable {X:Cx}{G:Gr}{dl:List Slot}{a b e:Expr}{pos p apos bW:Pos}{k x:Str}{xs:List Str}{bs:List Bool}{ns:List Int}{hi:Option Expr}{l u:Option Int}
theorem HF {neg:Bool}:DE X.K (Vi X.K neg) (.str k) (.lst (xs.map .str)) (.bl (if neg then !decide (k∈xs) else decide (k∈xs))):=fun v w Hf H Q s r1 r2 kk=>by
 cases r1
 cases r2 with
 | @lst q vs _ hq rp=>
   have ev:=om rp
   subst ev
   refine⟨q,_,rfl,.inl (.of (s _ _ hq)),rfl,xv xs,?_⟩
   rw[u6]
   exact kk _ Hf H (.refl s) (.bl _)
theorem PD (ha:EE X G dl a (.str k))(hb:EE X G dl b (.lst (xs.map .str)))(hm:behindInMarks .In b=false:=by rfl):EE X G dl (.Compare a [.In] [b] pos) (.bl (decide (k∈xs))):=yc xj (HF (neg:=false)) hm ha hb
theorem Lr (ha:EE X G dl a (.str k))(hb:EE X G dl b (.lst (xs.map .str)))(hm:behindInMarks .NotIn b=false:=by rfl):EE X G dl (.Compare a [.NotIn] [b] pos) (.bl (!decide (k∈xs))):=yc qi (HF (neg:=true)) hm ha hb
theorem range_all (bs:List Bool):(List.range bs.length).all (fun i=>bs.getD i true)=bs.all id:=by
 induction bs with
 | nil=>rfl
 | cons b r ih=>
   rw[List.length_cons,List.range_succ_eq_map,List.all_cons,List.all_map,List.all_cons]
   show(b && (List.range r.length).all (fun i=>r.getD i true))=(b && r.all id)
   rw[ih]
theorem Fl (hc:X.calm=true):jU X (.builtin "all") (fun xs H Q=>∃ (p:Addr) (bs:List Bool),xs=[.ref p]/\mh X.K H p (bs.map V.bl)/\Q (.bl (bs.all id)) H):=by
 intro pins s σ H xs us Q I r h
 obtain⟨p,bs,rfl,hq,q⟩:=h
 obtain⟨u,rfl,rx⟩:=vals1 r
 cases rx
 obtain⟨aC,rv,pl,hz⟩:=I.list hq
 have hlen:=rv.length
 rw[List.length_map] at hlen
 obtain⟨o,n,ho,_⟩:=id pl
 have hp:p < s.heap.objs.size:=Heap.lt_size ho
 refine call_all_walk (wpAny_pyIter_list pl.isList ?_)
 refine⟨s.heap.objs.size,_,_,_,_,_,fun i=>bs.getD i true,rfl,Walks.list (A:=X.A.in1) (I.ok.hd hc) s.heap.objs.size p (Nat.ne_of_lt hp) aC.toArray,⟨⟨_,Heap.get?_push_size _ rfl,rfl,rfl⟩,?_⟩,fun i v s' Q' E' hv hQ=>?_,fun h' tk hk=>?_⟩
 . exact pl.isList.at fun o e=>Heap.get?_push_of_some _ e
 . have hv:aC[i]?=some v:=by simpa using hv
   have hi:i < aC.length:=(List.getElem?_eq_some_iff.mp hv).1
   have TH:i < bs.length:=by omega
   obtain⟨u',h1,h2⟩:=rv.get (i:=i) (x:=V.bl bs[i]) (by rw[List.getElem?_map,List.getElem?_eq_getElem TH];rfl)
   rw[hv] at h1;cases h1
   cases h2
   have e:bs.getD i true=bs[i]:=by rw[List.getD_eq_getElem?_getD,List.getElem?_eq_getElem TH];rfl
   have hQ:Q' (bs.getD i true) s':=hQ
   rw[e] at hQ
   exact wpAny_truthy_bool hQ
 . have ea:(List.range aC.toArray.size).all (fun i=>bs.getD i true)=bs.all id:=by rw[List.size_toArray,<- hlen];exact range_all bs
   rw[ea]
   refine⟨.bl _,H,I.kept (t':=tk) fun b o e=>hk b o (fun hm=>?_) (Heap.get?_push_of_some _ e),rfl,q⟩
   have:b=s.heap.objs.size:=by simpa using hm
   subst this
   exact Nat.lt_irrefl _ (Heap.lt_size e)
theorem boot_all:bootBuiltins "all"=some (.builtin "all"):=by decide +kernel
theorem AQ {K:W.Frag}{H:Hp}:∀ {bs:List Bool} {vs:List V},br K H vs (bs.map Dt.bl)->vs=bs.map V.bl
 | [],_,.nil=>rfl
 | b::r,_,.cons h t=>by cases h;rw[AQ t];rfl
theorem HG (hm:X.mg "all"=none)(hc:X.calm=true)(ha:EE X G dl a (.lst (bs.map .bl)))(hg:Gl X "all":=by rfl)(he:starEach [a] X.env=[(false,eval a X.env)]:=by rfl):EE X G dl (.Call (.Name "all" p) [a] [] pos) (.bl (bs.all id)):=
 gh (fg (Fl hc) hg hm boot_all (ae ha aj he) (by decide) (by decide) he rfl) fun st H Q ⟨Hf,S,k⟩=>⟨Hf,S,fun vs Hf1 H1 g1 r1=>by
   cases r1 with
   | cons r t=>cases t;cases r with
     | @lst q vs _ z r=>
       have ev:=AQ r
       subst ev
       exact⟨q,bs,rfl,.of (g1.sub _ _ z),k _ Hf1 H1 g1 (.bl _)⟩⟩
theorem rE (ns:List Int):∀ k,k<=ns.length->preSum (fun i=>ns.getD i 0) k=(ns.take k).sum
 | 0,_=>by simp[preSum]
 | k+1,h=>by
   have hk:k < ns.length:=h
   rw[preSum,rE ns k (Nat.le_of_lt hk),List.take_add_one,List.getElem?_eq_getElem hk,List.sum_append,List.getD_eq_getElem?_getD,List.getElem?_eq_getElem hk]
   simp
theorem Fm (hc:X.calm=true):jU X (.builtin "sum") (fun xs H Q=>∃ (p:Addr) (ns:List Int),xs=[.ref p]/\mh X.K H p (ns.map V.int)/\Q (.int ns.sum) H):=by
 intro pins s σ H xs us Q I r h
 obtain⟨p,ns,rfl,hq,q⟩:=h
 obtain⟨u,rfl,rx⟩:=vals1 r
 cases rx
 obtain⟨aC,rv,pl,hz⟩:=I.list hq
 have hlen:=rv.length
 rw[List.length_map] at hlen
 obtain⟨o,n,ho,_⟩:=id pl
 have hp:p < s.heap.objs.size:=Heap.lt_size ho
 refine call_sum_walkAnyS (wpAny_pyIter_list pl.isList ?_)
 refine⟨s.heap.objs.size,_,_,_,_,_,_,fun i=>ns.getD i 0,rfl,(Walks.list (A:=X.A.in1) (I.ok.hd hc) s.heap.objs.size p (Nat.ne_of_lt hp) aC.toArray).toS,⟨⟨_,Heap.get?_push_size _ rfl,rfl,rfl⟩,?_⟩,fun b hb=>?_,fun i v hv=>?_,fun s' t' hm=>?_⟩
 . exact pl.isList.at fun o e=>Heap.get?_push_of_some _ e
 . have hsz:(s.heap.push { cls:=.type "list_iterator",data:=.fields #[.ref p,.int 0 0]}).objs.size=s.heap.objs.size+1:=Heap.size_push ..
   show b < (s.heap.push { cls:=.type "list_iterator",data:=.fields #[.ref p,.int 0 0]}).objs.size
   rw[hsz]
   rcases List.mem_cons.mp hb with e | hb
   . rw[e];exact Nat.lt_succ_self _
   . have:b=p:=by simpa using hb
     rw[this];exact Nat.lt_succ_of_lt hp
 . have hv:aC[i]?=some v:=by simpa using hv
   have hi:i < aC.length:=(List.getElem?_eq_some_iff.mp hv).1
   have TH:i < ns.length:=by omega
   obtain⟨u',h1,h2⟩:=rv.get (i:=i) (x:=V.int ns[i]) (by rw[List.getElem?_map,List.getElem?_eq_getElem TH];rfl)
   rw[hv] at h1;cases h1
   obtain⟨t,rfl⟩:=h2
   refine⟨t,?_⟩
   show _=Value.int (ns.getD i 0) t
   rw[List.getD_eq_getElem?_getD,List.getElem?_eq_getElem TH];rfl
 . have ea:preSum (fun i=>ns.getD i 0) aC.toArray.size=ns.sum:=by
     rw[List.size_toArray,<- hlen,rE ns _ (Nat.le_refl _),List.take_length]
   rw[ea]
   refine⟨.int _,H,?_,⟨t',rfl⟩,q⟩
   obtain⟨h',g',d',tk,Wh⟩:=s'
   have e1:g'=s.gens:=hm.gens
   have e2:d'=s.drawn:=hm.drawn
   have e3:Wh=s.os:=hm.os
   subst e1 e2 e3
   refine I.kept (t':=tk) fun b o e=>hm.heap b o (fun z=>?_) (Heap.get?_push_of_some _ e)
   have:b=s.heap.objs.size:=by simpa using z
   subst this
   exact Nat.lt_irrefl _ (Heap.lt_size e)
theorem boot_sum:bootBuiltins "sum"=some (.builtin "sum"):=by decide +kernel
theorem pO {K:W.Frag}{H:Hp}:∀ {ns:List Int} {vs:List V},br K H vs (ns.map Dt.int)->vs=ns.map V.int
 | [],_,.nil=>rfl
 | b::r,_,.cons h t=>by cases h;rw[pO t];rfl
theorem HH (hm:X.mg "sum"=none)(hc:X.calm=true)(ha:EE X G dl a (.lst (ns.map .int)))(hg:Gl X "sum":=by rfl)(he:starEach [a] X.env=[(false,eval a X.env)]:=by rfl):EE X G dl (.Call (.Name "sum" p) [a] [] pos) (.int ns.sum):=
 gh (fg (Fm hc) hg hm boot_sum (ae ha aj he) (by decide) (by decide) he rfl) fun st H Q ⟨Hf,S,k⟩=>⟨Hf,S,fun vs Hf1 H1 g1 r1=>by
   cases r1 with
   | cons r t=>cases t;cases r with
     | @lst q vs _ z r=>
       have ev:=pO r
       subst ev
       exact⟨q,ns,rfl,.of (g1.sub _ _ z),k _ Hf1 H1 g1 (.int _)⟩⟩
theorem xx:∀ {xs:List Str} {us:List Value},Vals (xs.map V.str) us->∃ l:List (Str×Tok),us=strValues l/\l.map (·.1)=xs
 | [],_,.nil=>⟨[],rfl,rfl⟩
 | x::r,_,.cons h t=>by
   obtain⟨tk,rfl⟩:=h
   obtain⟨l,rfl,e⟩:=xx t
   exact⟨(x,tk)::l,rfl,by rw[List.map_cons,e]⟩
theorem Lu:Rw X "str.join" (fun x xs H Q=>∃ (z:Str) (p:Addr) (ys:List Str),x=.str z/\xs=[.ref p]/\mh X.K H p (ys.map V.str)/\JoinOk z ys=true/\Q (.str (Txt.join z ys)) H):=by
 intro pins s σ H x xs v us Q I rx rv ⟨z,p,ys,e1,e2,hq,a5,q⟩
 subst e1 e2
 obtain⟨t,rfl⟩:=(show ∃ t,v=Value.str z t from rx)
 obtain⟨u,rfl,ru⟩:=vals1 rv
 cases ru
 obtain⟨aC,r,pl,hz⟩:=I.list hq
 obtain⟨l,rfl,el⟩:=xx r
 exact SC.join pl.isList el a5 fun t' k=>⟨.str (Txt.join z ys),H,I.tok _,⟨t',rfl⟩,q⟩
theorem Lv (ha:EE X G dl a (.str x))(he:EE X G dl e (.lst (xs.map .str)))(a5:JoinOk x xs=true)(jy:attributeBase a "join" X.env (eval a X.env)=eval a X.env:=by rfl)
   (uL:((backTo bW (starEach [e] X.env)).all (fun x=>!x.1) && (backToKw bW (keywordEach [] X.env)).all (fun x=>x.1.isSome) && decide ([e].length+([]:List Keyword).length+(if ([]:List Keyword).isEmpty then 0 else 1) < 30))=true:=by rfl)
   (jz:(apos.endLine == bW.line)=true:=by rfl) (m7:starEach [e] X.env=(false,eval e X.env)::starEach [] X.env:=by rfl):EE X G dl (.Call (.Attribute a "join" apos) [e] [] bW) (.str (Txt.join x xs)):=
 gh (uK PySem.F.plainAttrs_str PySem.F.slot_str_join PySem.F.type_str_join Lu ha (ae he aj m7) jy uL jz m7 rfl) fun st H Q ⟨Hf,S,k⟩=>⟨Hf,S,fun v Hf1 H1 g1 r1=>by
   cases r1
   refine⟨rfl,Hf1,S.grow g1,fun us bO H2 g2 r2=>?_⟩
   cases r2 with
   | cons r2 t2=>cases t2;cases r2 with
     | @lst q vs _ hq rp=>
       have ev:=om rp
       subst ev
       exact⟨x,q,xs,rfl,rfl,.of (g2.sub _ _ hq),a5,k _ bO H2 (g1.trans g2) (.str _)⟩⟩
end
noncomputable def lF (kds:List (Key×Dt))(k:Key):Option Dt:=(kds.find? fun kv=>decide (kv.1=k)).map (·.2)
theorem qw {p:Key×Dt}{r:List (Key×Dt)}{k:Key}(e:p.1=k):lF (p::r) k=some p.2:=by simp[lF,List.find?_cons,e]
theorem nI {p:Key×Dt}{r:List (Key×Dt)}{k:Key}(e:¬ p.1=k):lF (p::r) k=lF r k:=by simp[lF,List.find?_cons,e]
theorem cI.val {K:W.Frag}{H:Hp}{k:Key}:∀ {kvs:List (Key×V)} {kds:List (Key×Dt)} {d:Dt},cI K H kvs kds->lF kds k=some d->∃ v,nE kvs k=some v/\Rep K H v d
 | _,_,_,.nil,e=>by cases e
 | (k1,v1)::r,(_,d1)::s,d,.cons h t,e=>by
   by_cases q:k1=k
   . rw[qw (p:=(k1,d1)) q] at e;cases e
     exact⟨v1,nF (p:=(k1,v1)) q,h⟩
   . rw[nI (p:=(k1,d1)) q] at e
     obtain⟨v,z1,z2⟩:=cI.val t e
     exact⟨v,by rw[lQ (p:=(k1,v1)) q];exact z1,z2⟩
theorem cI.xy {K:W.Frag}{H:Hp}{k:Key}:∀ {kvs:List (Key×V)} {kds:List (Key×Dt)},cI K H kvs kds->(nE kvs k).isSome=(lF kds k).isSome
 | _,_,.nil=>rfl
 | (k1,v1)::r,(_,d1)::s,.cons h t=>by
   by_cases q:k1=k
   . rw[nF (p:=(k1,v1)) q,qw (p:=(k1,d1)) q];rfl
   . rw[lQ (p:=(k1,v1)) q,nI (p:=(k1,d1)) q]
     exact cI.xy t
theorem cI.snoc {K:W.Frag}{H:Hp}{k:Key}{v:V}{d:Dt}(q:Rep K H v d):∀ {kvs:List (Key×V)} {kds:List (Key×Dt)},cI K H kvs kds->cI K H (kvs ++ [(k,v)]) (kds ++ [(k,d)])
 | _,_,.nil=>.cons q .nil
 | _,_,.cons h t=>.cons h (cI.snoc q t)
theorem DS {kvs:List (Key×V)}{k:Key}{v:V}(h:(nE kvs k).isSome=false):putK kvs k v=kvs ++ [(k,v)]:=by
 unfold putK
 rw[qk,h]
 exact if_neg (by simp)
section
variable {X:Cx}{G:Gr}{E:XK}{dl:List Slot}{a b e i o:Expr}{d:Dt}{pos p:Pos}{k x:Str}{kds:List (Key×Dt)}
theorem Lw (hu:X.A.units+1 < cLine)(ho:EE X G dl o (.eB kds))(hi:EE X G dl i (.str k))(h:lF kds (.inr k)=some d)(hs:K2 i):EE X G dl (.Subscript o i pos) d:=
 gh (DB hu ho hi hs) fun st H Q ⟨Hf,S,kk⟩=>⟨Hf,S,fun v Hf1 H1 g1 r1=>⟨Hf1,S.grow g1,fun w bO H2 g2 r2=>by
   cases r2
   cases r1 with
   | @eB q kvs _ hq rp=>
     obtain⟨y,z1,z2⟩:=rp.val h
     have e:=sI.k (H:=H2) (k:=.inr k) (g2.big _ _ (g1.sub _ _ hq))
     rw[z1] at e
     exact⟨q,y,rfl,e,kk y bO H2 (g1.trans g2) (z2.mono g2.bC)⟩⟩⟩
theorem WS {neg:Bool}:∀ st H Q,tD X.K G dl (.bl (if neg then !(lF kds (.inr k)).isSome else (lF kds (.inr k)).isSome)) st H Q->(if neg then DA (tD X.K G dl (.str k)) (tD X.K G dl (.eB kds)) else Wv (tD X.K G dl (.str k)) (tD X.K G dl (.eB kds))) st H Q:=fun st H Q ⟨Hf,S,kk⟩=>by
 cases neg with
 | false=>exact⟨Hf,S,fun v Hf1 H1 g1 r1=>⟨Hf1,S.grow g1,fun w bO H2 g2 r2=>by
     cases r1
     cases r2 with
     | @eB q kvs _ hq rp=>exact⟨q,_,rfl,sI.k (k:=.inr k) (g2.sub _ _ hq),by rw[rp.xy];exact kk _ bO H2 (g1.trans g2) (.bl _)⟩⟩⟩
 | true=>exact⟨Hf,S,fun v Hf1 H1 g1 r1=>⟨Hf1,S.grow g1,fun w bO H2 g2 r2=>by
     cases r1
     cases r2 with
     | @eB q kvs _ hq rp=>exact⟨q,_,rfl,sI.k (k:=.inr k) (g2.sub _ _ hq),by rw[rp.xy];exact kk _ bO H2 (g1.trans g2) (.bl _)⟩⟩⟩
theorem DT (hu:X.A.units+1 < cLine)(hi:EE X G dl i (.str k))(ho:EE X G dl o (.eB kds))(hm:behindInMarks .NotIn o=false:=by rfl):EB X G dl (.Compare i [.NotIn] [o] pos) (!(lF kds (.inr k)).isSome):=
 SU (Gv (xl hu hi ho) hm) fun st H Q ⟨Hf,S,kk⟩=>WS (neg:=true) st H _ ⟨Hf,S,fun v aH H' g r=>by cases r;exact⟨_,rfl,kk aH H' g⟩⟩
theorem AR:bootBuiltins "tuple"=some (.type "tuple"):=by decide +kernel
theorem Lx {ds:List Dt}(hm:X.mg "tuple"=none)(ha:EE X G dl a (.tup ds))(hg:Gl X "tuple":=by rfl)(he:starEach [a] X.env=[(false,eval a X.env)]:=by rfl):EE X G dl (.Call (.Name "tuple" p) [a] [] pos) (.tup ds):=
 gh (lP Ag hg hm AR (ae ha aj he) (he:=he)) fun st H Q ⟨Hf,S,k⟩=>⟨Hf,S,fun vs Hf1 H1 g1 r1=>by
   cases r1 with
   | cons r t=>cases t;cases r with
     | @tup q vs _ z r=>exact⟨q,vs,rfl,bN g1.sub z,k _ Hf1 H1 g1 (.tup z r)⟩⟩
theorem DU:EO X G dl (.Dict [] [] pos) (.eB []):=gh Al fun st H Q ⟨Hf,S,k⟩=>fun p hp=>k p Hf _ (.dX S.sub hp) hp (S.sub.free hp) ⟨[],ak,.nil⟩
noncomputable def u7 (kds:List (Key×Dt))(k:Key)(v:Dt):List (Key×Dt):=
 if (lF kds k).isSome=true then kds.map (fun kv=>if kv.1=k then (kv.1,v) else kv) else kds ++ [(k,v)]
theorem cI.map_put {K:W.Frag}{H:Hp}{k:Key}{v:V}{d:Dt}(q:Rep K H v d):∀ {kvs:List (Key×V)} {kds:List (Key×Dt)},cI K H kvs kds ->
   cI K H (kvs.map fun kv=>if kv.1=k then (kv.1,v) else kv) (kds.map fun kv=>if kv.1=k then (kv.1,d) else kv)
 | _,_,.nil=>.nil
 | (k1,v1)::r,(_,d1)::s,.cons h t=>by
   rw[List.map_cons,List.map_cons]
   by_cases e:k1=k
   . rw[if_pos e,if_pos e];exact .cons q (cI.map_put q t)
   . rw[if_neg e,if_neg e];exact .cons h (cI.map_put q t)
theorem cI.put {K:W.Frag}{H:Hp}{k:Key}{v:V}{d:Dt}{kvs:List (Key×V)}{kds:List (Key×Dt)}(q:Rep K H v d)(r:cI K H kvs kds):cI K H (putK kvs k v) (u7 kds k d):=by
 unfold putK u7
 rw[qk,r.xy]
 by_cases h:(lF kds k).isSome=true
 . rw[if_pos h,if_pos h];exact cI.map_put q r
 . rw[if_neg h,if_neg h];exact cI.snoc q r
theorem DV (n:Nat){ps pn:Pos}(hu:X.A.units+1 < cLine)(he:EE X G dl e d)(hb:EE X G dl b (.str k))(hl:kds.length < sizeLine)(hd:dl[n]?=some (.own (.eB kds)):=by rfl)(hN:X.N[n]?=some x:=by rfl)(hv:uA X.env.scope x:=by first | exact Or.inl rfl | exact Or.inr (Or.inl rfl) | exact Or.inr (Or.inr rfl))(md:(x == ("__debug__":Str))=false:=by decide)(lO:(x == ("__classdict__":Str))=false:=by decide)(hs:swapsWith e (some (.Subscript (.Name x pn) b ps)) pos.line X.env=pure false:=by rfl):ES X G E dl (.Assign [.Subscript (.Name x pn) b ps] e pos) (.nx (dl.set n (.own (.eB (u7 kds (.inr k) d))))):=
 sv (DC hu (uY (p:=pn) n hd hN hv md lO) hb he hs) fun D st H ⟨Hf,S,kk⟩=>⟨Hf,S,fun v Hf1 H1 g1 r1=>by
   have S1:=S.grow g1
   obtain⟨q,z1,z2,z3,z4⟩:=S1.own n _ hd
   refine⟨Hf1,q,S1,z1,z2,z4,Hf1,S1,fun iv bO H2 g2 r2=>?_⟩
   cases r2
   have S2:=S1.grow g2
   obtain⟨q',y1,y2,y3,kvs,y4,y5⟩:=S2.own n _ hd
   rw[z1] at y1;cases y1
   have hll:kvs.length < sizeLine:=by rw[y5.length];exact hl
   exact⟨q,_,rfl,E2.k (k:=.inr k) y4 hll,kk st bO _ (g1.bC.trans g2.bC) (S2.E8 hd z1 ⟨_,ak,y5.put (r1.mono g2.bC)⟩)⟩⟩
noncomputable def pv (rows:List (Str×List Dt)):List (Key×Dt):=rows.map fun r=>(.inr r.1,.tup (.str r.1::r.2))
noncomputable def u9 (r:Str×List Dt):Dt:=.tup (.str r.1::r.2)
theorem rF {k:Key}:∀ {kds:List (Key×Dt)},(∀ kv∈kds,kv.1≠k)->lF kds k=none
 | [],_=>rfl
 | kv::r,h=>by
   rw[nI (h kv (List.mem_cons_self ..))]
   exact rF fun z hz=>h z (List.mem_cons_of_mem _ hz)
theorem HI {rows:List (Str×List Dt)}(nd:(rows.map (·.1)).Nodup){j:Nat}(hj:j < rows.length):lF (pv (rows.take j)) (.inr rows[j].1)=none:=by
 refine rF fun kv WT=>?_
 obtain⟨r,hr,rfl⟩:=List.mem_map.mp WT
 intro z
 have z:r.1=rows[j].1:=Sum.inr.inj z
 obtain⟨i,hi,e⟩:=List.mem_iff_getElem.mp hr
 have Vl:i < j:=by
   rw[List.length_take] at hi;omega
 rw[List.getElem_take] at e
 have R6:i < rows.length:=by omega
 have h:=List.pairwise_iff_getElem.mp nd i j (by rw[List.length_map];exact R6) (by rw[List.length_map];exact hj) Vl
 rw[List.getElem_map,List.getElem_map] at h
 exact h (by rw[e];exact z)
theorem Cr (rows:List (Str×List Dt)){j:Nat}(hj:j < rows.length):pv (rows.take (j+1))=pv (rows.take j) ++ [(.inr rows[j].1,u9 rows[j])]:=by
 unfold pv
 rw[List.take_add_one,List.getElem?_eq_getElem hj,List.map_append];rfl
theorem bb.kN {Hf H aH H':Hp}{a:Addr}{u:HO}(g:bb Hf H aH H')(n:Hf a=none)(h:H a=some u)(nk:¬ Kept u:=by exact fun z=>z):aH a=none:=by
 cases q:aH a with
 | none=>rfl
 | some o=>
   obtain⟨o',z⟩:=g.ya h nk q
   rw[n] at z;cases z
theorem oy {K:W.Frag}{st:L2.St}{Hf H:Hp}{dlu:List Slot}{p:Addr}{o:HO}(S:dJ K G st Hf H dlu)(sy:noOwn dlu=true)(fp:Hf p=none)(gp:G.H p=none):dJ K G st Hf (upd H p o) dlu:=
 ⟨⟨fun b u e=>by rw[ag (aw e gp)];exact S.gr.big _ _ e,S.gr.bC,fun b u e=>by rw[ag (aw e fp)];exact S.sub _ _ e,S.gr.new⟩,S.len,S.val,fun j o h=>absurd h (aQ sy j o),fun j _ o _ _ h=>absurd h (aQ sy j o)⟩
theorem HJ (nR nN:Nat){C z:Addr}{fs:List (Str×Dt)}{rows:List (Str×List Dt)}{f self rw_ rn:Str}{px pr pa pn p1 p3 p4 p5 p6 pi:Pos}{ie ve:Expr}{dlu:List Slot}(hu:X.A.units+1 < cLine)(hN:X.N.Nodup)(qp:X.calm=true)(hp:PassesOwn (model X.prog X.w) X.A X.env X.xe)(cl:tL X.K C)(na:bF X.K C f)(hd:dl[0]?=some (.own (.Aq z C fs)))(edl:dl.set 0 .bw=dlu)(sy:noOwn dlu=true)(hr:dlu[nR]?=some (.val (.lst (rows.map u9))))(WU:nN≠0)(hnR:nN≠nR)(hun:dlu[nN]?=some .bw)(nd:(rows.map (·.1)).Nodup)(hlen:rows.length < sizeLine)(hi:∀ r:Str×List Dt,EE X G (dlu.set nN (.val (u9 r))) ie (.str r.1))(hv:∀ r:Str×List Dt,EE X G (dlu.set nN (.val (u9 r))) ve (u9 r))(hl:Nat.ble fs.length 999=true:=by rfl)(RE:X.N[0]?=some self:=by rfl)(hNr:X.N[nR]?=some rn:=by rfl)(WV:X.N[nN]?=some rw_:=by rfl)(hvs:uA X.env.scope self:=by first | exact Or.inl rfl | exact Or.inr (Or.inl rfl) | exact Or.inr (Or.inr rfl))(hvr:uA X.env.scope rn:=by first | exact Or.inl rfl | exact Or.inr (Or.inl rfl) | exact Or.inr (Or.inr rfl))(md:(self == ("__debug__":Str))=false:=by decide)(lO:(self == ("__classdict__":Str))=false:=by decide)(WW:(rn == ("__debug__":Str))=false:=by decide)(WX:(rn == ("__classdict__":Str))=false:=by decide)(hx:Loc X.env.scope rw_:=by first | exact Or.inl rfl | exact Or.inr rfl)(hf:X.fn rw_=true\/X.env.scope.names.lookup rw_=some .local:=by first | exact .inl rfl | exact .inr rfl | assumption)(Gd:swapsWith (.Dict [] [] p1) (some (.Attribute (.Name self pn) f pa)) pos.line X.env=pure false:=by rfl)(z8:swapsWith ve (some (.Subscript (.Attribute (.Name self p3) f p4) ie p5)) p6.line X.env=pure false:=by rfl)(hb:attributeBase (.Name self p3) f X.env (eval (.Name self p3) X.env)=eval (.Name self p3) X.env:=by rfl)(hfs:∀ z,foldedSetIterable (.Name rn pr) X.env z=pure z:=by intro _;rfl):me X G E dl [.Assign [.Attribute (.Name self pn) f pa] (.Dict [] [] p1) pos,.For (.Name rw_ px) (.Name rn pr) [.Assign [.Subscript (.Attribute (.Name self p3) f p4) ie p5] ve p6] [] pi] (.nx (dlu.set 0 (.own (.Aq z C (putD f (.eB (pv rows)) fs))))):=by
 have Nv:∀ {p:Pos},PE X (.Name self p) fun st H Q=>∃ v,st[0]?=some (some v)/\Q v H:=fun {p}=>i0 RE hvs md lO
 have qf:=mi (DC (pos:=p6) (pos':=p5) hu (uG (pos:=p4) (Nv (p:=p3)) hb) (fun pins s st H Q I (q:∃ r,tD X.K G (dlu.set nN (.val (u9 r))) (.str r.1) st H Q)=>let ⟨r,q⟩:=q;hi r pins s st H Q I q) (fun pins s st H Q I (q:∃ r,tD X.K G (dlu.set nN (.val (u9 r))) (u9 r) st H Q)=>let ⟨r,q⟩:=q;hv r pins s st H Q I q) z8)
 refine Ar (nz (uH (pos:=pos) (pos':=pa) (Nv (p:=pn)) Al Gd) (mi (xY hp qp (k9 (i0 (pos:=pr) hNr hvr WW WX)) (bx hN WV hx hf) qf hfs))) fun D st H ⟨Hf,S,k⟩=>?_
 obtain⟨a,sa,fa,ga,ea,dx,fv,ha,rf⟩:=S.own 0 _ hd
 intro p AS
 have Vz:a≠p:=aw ha AS
 have fp:Hf p=none:=S.sub.free AS
 have gp:G.H p=none:=S.gr.big.free AS
 have PF:(upd H p (.dK [])) a=some (.ins C dx fv):=by rw[ag Vz];exact ha
 refine⟨.ref a,sa,a,C,dx,fv,rfl,PF,cl,na,by rw[rf.length];exact Nat.lt_succ_of_le (Nat.le_of_ble_eq_true hl),?_⟩
 have S0:dJ X.K G st Hf H dlu:=by
   subst edl
   refine⟨S.gr,by simp[S.len],fun j d h=>?_,fun j o h=>absurd h (aQ sy j o),fun j _ o _ _ h=>absurd h (aQ sy j o)⟩
   by_cases e:0=j
   . subst e
     by_cases RF:0 < dl.length
     . rw[List.getElem?_set_self RF] at h;cases h
     . exact absurd (List.getElem?_eq_some_iff.mp hd).1 RF
   . rw[List.getElem?_set_ne e] at h;exact S.val j d h
 have Su:dJ X.K G st Hf (upd (upd H p (.dK [])) a (.ins C dx (ff f (.ref p) fv))) dlu:=oy (oy S0 sy fp gp) sy fa ga
 obtain⟨lv,Ly,K0⟩:=Su.val nR _ hr
 cases K0 with
 | @lst la vs _ hq rp=>
   have hvl:vs.length=rows.length:=by rw[rp.length,List.length_map]
   refine⟨.ref la,Ly,la,rfl,⟨vs,.of (Su.sub _ _ hq)⟩,z7 (xs:=vs) (fun j jv H'=>∃ aH kvs,dJ X.K G jv aH H' dlu/\aE Hf aH/\jv[0]?=some (some (.ref a))/\aH a=none/\aH p=none/\H' a=some (.ins C dx (ff f (.ref p) fv))/\H' p=some (.dK kvs)/\cI X.K aH kvs (pv (rows.take j)))
     ⟨Hf,[],Su,aE.refl _,sa,fa,fp,ak,by rw[ag (Ne.symm Vz)];exact ak,by rw[List.take_zero];exact .nil⟩ ?_ ?_ ?_⟩
   . rintro j jv H' _ ⟨aH,kvs,S',sm,_⟩
     exact .of (S'.sub _ _ (sm _ _ hq))
   . rintro j v jv H' Vh ⟨aH,kvs,S',sm,s0,WY,WZ,TJ,Kl,rk⟩
     obtain⟨dz,hz,rz⟩:=rp.get' Vh
     have hj:j < rows.length:=by
       have:=(List.getElem?_eq_some_iff.mp Vh).1
       omega
     rw[List.getElem?_map,List.getElem?_eq_getElem hj] at hz
     cases hz
     have Sp:dJ X.K G (jv.set nN (some v)) aH H' (dlu.set nN (.val (u9 rows[j]))):=S'.set (rz.mono sm)
     have Y4:(jv.set nN (some v))[0]?=some (some (.ref a)):=by rw[List.getElem?_set_ne WU];exact s0
     refine⟨rows[j],aH,Sp,fun w Hf1 H1 g1 r1=>⟨.ref a,Y4,a,C,dx,_,.ref p,rfl,.of (g1.big _ _ TJ),cl,na,by rw[nA,if_pos rfl],rows[j],Hf1,Sp.grow g1,fun y bO H2 g2 r2=>?_⟩⟩
     cases r2
     have g:=g1.trans g2
     have x9:H2 p=some (.dK kvs):=g.big _ _ Kl
     have Km:H2 a=some (.ins C dx (ff f (.ref p) fv)):=g.big _ _ TJ
     have W0:bO p=none:=g.kN WZ Kl
     have fa2:bO a=none:=g.kN WY TJ
     have TK:=rk.mono g.bC
     have TL:kvs.length < sizeLine:=by
       rw[rk.length]
       unfold pv
       rw[List.length_map,List.length_take];omega
     have E1:(nE kvs (.inr rows[j].1)).isSome=false:=by rw[rk.xy,HI nd hj];rfl
     have Sw:dJ X.K G (jv.set nN (some v)) bO H2 dlu:=(Sp.grow g).weak ⟨by simp,fun i s e n=>by
       by_cases hi:nN=i
       . subst hi;rw[hun] at e;cases e;exact absurd rfl n
       . rw[List.getElem?_set_ne hi];exact e⟩
     refine⟨p,_,rfl,E2.k (k:=.inr rows[j].1) x9 TL,bO,_,oy Sw sy W0 gp,sm.trans g.bC,Y4,fa2,W0,by rw[ag Vz];exact Km,ak,?_⟩
     rw[DS E1,Cr rows hj]
     exact TK.snoc (r1.mono g2.bC)
   . rintro jv H' ⟨aH,kvs,S',sm,s0,WY,WZ,TJ,Kl,rk⟩
     rw[hvl,List.take_length] at rk
     have TM:aE aH (upd aH p (.dK kvs)):=bI WZ
     have l0:0 < dlu.length:=by
       rw[<- S'.len]
       exact(List.getElem?_eq_some_iff.mp s0).1
     refine k jv (upd aH p (.dK kvs)) H' (sm.trans TM) ⟨⟨S'.gr.big,S'.gr.bC.trans TM,fun b u e=>?_,fun b u e=>?_⟩,by simp[S'.len],fun j d h=>?_,fun j o h=>?_,fun i j o o' q h1 h2 h3 h4=>?_⟩
     . by_cases hb:b=p
       . subst hb;rw[ak] at e;cases e;exact Kl
       . rw[ag hb] at e;exact S'.sub _ _ e
     . by_cases hb:b=p
       . subst hb;exact .inr (.inl gp)
       . rw[ag hb] at e;exact S'.gr.new b u e
     . by_cases e:0=j
       . subst e;rw[List.getElem?_set_self l0] at h;cases h
       . rw[List.getElem?_set_ne e] at h
         obtain⟨v,z1,z2⟩:=S'.val j d h
         exact⟨v,z1,z2.mono TM⟩
     . by_cases e:0=j
       . subst e
         rw[List.getElem?_set_self l0] at h;cases h
         exact⟨a,s0,by rw[ag Vz];exact WY,ga,ea,dx,_,TJ,(rf.mono (sm.trans TM)).put (.eB ak (rk.mono TM))⟩
       . rw[List.getElem?_set_ne e] at h;exact absurd h (aQ sy j o)
     . have z:∀ (i:Nat) o,(dlu.set 0 (.own (.Aq z C (putD f (.eB (pv rows)) fs))))[i]?=some (.own o)->0=i:=fun i o h=>by
         by_cases e:0=i
         . exact e
         . rw[List.getElem?_set_ne e] at h;exact absurd h (aQ sy i o)
       rw[<- z i o h1,<- z j o' h2]
end
theorem DW:∀ {xs:List V} {us:List Value},xs.length=us.length->(∀ (j:Nat) x u,xs[j]?=some x->us[j]?=some u->RelV x u)->Vals xs us
 | [],[],_,_=>.nil
 | [],_::_,h,_=>by cases h
 | _::_,[],h,_=>by cases h
 | x::xs,u::us,h,f=>.cons (f 0 x u rfl rfl) (DW (Nat.succ.inj h) fun j a b h1 h2=>f (j+1) a b (by simpa using h1) (by simpa using h2))
theorem HK:∀ {kvs:List (Key×V)} {vs:List (Key×Value)},KV kvs vs->∀ {j:Nat} {q:Key×Value},vs[j]?=some q->∃ p,kvs[j]?=some p/\p.1=q.1/\RelV p.2 q.2
 | _,_,.nil,j,q,h=>by simp at h
 | _,_,.cons r t,0,q,h=>by simp at h;subst h;exact⟨_,rfl,r⟩
 | _,_,.cons r t,j+1,q,h=>by
   obtain⟨p,h1,h2⟩:=HK t (j:=j) (q:=q) (by simpa using h)
   exact⟨p,by simpa using h1,h2⟩
theorem Cs:∀ {kvs:List (Key×V)} {vs:List (Key×Value)},KV kvs vs->kvs.length=vs.length
 | _,_,.nil=>rfl
 | _,_,.cons r t=>congrArg (·+1) (Cs t)
section
variable {X:Cx}{G:Gr}{dl:List Slot}{a o:Expr}{kds:List (Key×Dt)}{pos p:Pos}
theorem Ct (hc:X.calm=true):jU X (.type "list") (fun xs H Q=>∃ (d:Addr) (kvs:List (Key×V)),xs=[.ref d]/\H d=some (.dK kvs)/\∀ l,H l=none->Q (.ref l) (upd H l (.lst (kvs.map fun kv=>kV kv.1)))):=by
 intro pins s σ H xs us Q I r h
 obtain⟨d,kvs,rfl,hq,q⟩:=h
 obtain⟨u,rfl,rx⟩:=vals1 r
 cases rx
 obtain⟨hz,lo,vs,kv,o,es,ep,ho,hr⟩:=I.a5 d _ hq
 have hl:=Cs kv
 refine W.kdl_call (W.kdl_dict (knd:=cH X.prog X.w) (kvs:=vs) (ep:=ep) lo) (I.ok.hd hc) ⟨o,es,ho,hr⟩ (by omega) fun h' tk TN c' kp e it=>?_
 refine⟨.ref s.heap.objs.size,_,I.laid (t':=tk) kp (Nat.le_refl _) (show aJ X.prog X.w _ h' _ (.lst _) from⟨by rw[List.length_map];exact hz,TN.toList,c',DW ?_ fun j x u h1 h2=>?_,e⟩),rfl,q _ (I.a5.fresh (Nat.le_refl _))⟩
 . have e1:TN.toList.length=vs.length:=by rw[Array.length_toList];exact it.1
   rw[List.length_map,e1,hl]
 . rw[Array.getElem?_toList] at h2
   obtain⟨k,y,z1,z2⟩:=it.2 j u h2
   obtain⟨p,z3,z4,_⟩:=HK kv z1
   rw[List.getElem?_map,z3] at h1
   cases h1
   have z4:p.1=k:=z4
   show RelV (kV p.1) u
   rw[z4]
   rcases cO z2 with⟨i,t,rfl,rfl⟩ | ⟨i,t,rfl,rfl⟩
   . exact⟨t,rfl⟩
   . exact⟨t,rfl⟩
noncomputable def kD:Key->Dt
 | .inl i=>.int i
 | .inr x=>.str x
theorem rG {K:W.Frag}{H:Hp}:∀ {kvs:List (Key×V)} {kds:List (Key×Dt)},cI K H kvs kds->br K H (kvs.map fun kv=>kV kv.1) (kds.map fun kd=>kD kd.1)
 | _,_,.nil=>.nil
 | (.inl i,_)::_,_,.cons _ t=>.cons (.int i) (rG t)
 | (.inr i,_)::_,_,.cons _ t=>.cons (.str i) (rG t)
theorem HL (hm:X.mg "list"=none)(hc:X.calm=true)(ha:EE X G dl a (.eB kds))(hg:Gl X "list":=by rfl)(he:starEach [a] X.env=[(false,eval a X.env)]:=by rfl):EO X G dl (.Call (.Name "list" p) [a] [] pos) (.lst (kds.map fun kd=>kD kd.1)):=
 gh (lP (Ct hc) hg hm boot_list (ae ha aj he) (he:=he)) fun st H Q ⟨Hf,S,k⟩=>⟨Hf,S,fun vs Hf1 H1 g1 r1=>by
   cases r1 with
   | cons r t=>cases t;cases r with
     | @eB q kvs _ z r=>exact⟨q,kvs,rfl,g1.sub _ _ z,fun l hl=>k l Hf1 _ (g1.trans (.dX g1.sub hl)) (g1.big.free hl) (g1.sub.free hl) ⟨_,ak,rG r⟩⟩⟩
end
noncomputable def TQ (x:Str):It:=
 ⟨fun i H=>∃ c,x.cps[i]?=some c,fun i H v H'=>∃ p c,v=.ref p/\H p=none/\H'=upd H p (.tup [.int i,.str ⟨#[c]⟩])/\x.cps[i]?=some c,fun i H=>i=x.cps.size⟩
theorem Cu {P:Program}{w:World}{K:W.Frag}{elts:List Expr}{kt:Nat}{xZ:Pos}(x:Str)(t:Tok)(e it:Addr)(RD:e≠it):Turn P w K (.Tuple elts kt xZ) (TQ x) [e,it] e (fun i h=>(∃ old,IsEnum h e it i old)/\h.IsStrIter it "str_ascii_iterator" x t i) where
 mem:=by simp
 obj:=fun i h st b hb=>by
   obtain⟨⟨old,he⟩,o,e2,c,d⟩:=st
   rcases List.mem_cons.mp hb with rfl | hb
   . exact⟨_,he,fun v z=>by cases z⟩
   . have:b=it:=by simpa using hb
     subst this
     exact⟨o,e2,fun v z=>by rw[d] at z;cases z⟩
 keep:=fun i h h' st k=>by
   obtain⟨⟨old,he⟩,o,e2,r⟩:=st
   exact⟨⟨old,k e (by simp) _ he⟩,o,k it (by simp) o e2,r⟩
 item:=by
   intro X hP hw hK hc i pins s σ H E I hf st hg
   subst hP hw hK
   obtain⟨c,hx⟩:=hg
   obtain⟨⟨old,he⟩,hit⟩:=st
   have TC:e < s.heap.objs.size:=Heap.lt_size he
   have Vx:it < s.heap.objs.size:=by obtain⟨_,z,_⟩:=hit;exact Heap.lt_size z
   have de:i < x.cps.size:=(Array.getElem?_eq_some_iff.mp hx).1
   refine wpAny_pyNext_enum_itemD (Draws.strAscii (A:=X.A.in1) (I.ok.hd hc) it x t) he hit de RD (by simpa using RD) fun u h1 tk hP ho Py hT hsz hk=>?_
   obtain⟨c',u',BQ,rfl⟩:=hP
   rw[hx] at BQ;cases BQ
   refine⟨_,rfl,wpAny_letOwnedTupleGo_enum ho fun h2 Pd z8=>?_⟩
   have WQ:h2.get? s.heap.objs.size=some { cls:=.type "tuple",data:=.seq #[.int i tk,.str ⟨#[c]⟩ u']}:=(z8.2 _ (Nat.ne_of_gt TC)).trans hT
   have k2:∀ b o,b ∉ [e,it]->s.heap.get? b=some o->h2.get? b=some o:=fun b o hb q=>(z8.2 b fun z=>hb (by simp[z])).trans (hk b o (fun z=>hb (by simp[z])) (fun z=>hb (by simp[z])) q)
   have hp:H s.heap.objs.size=none:=I.a5.fresh (Nat.le_refl _)
   have I2:L2.Inv X pins σ (upd H s.heap.objs.size (.tup [.int i,.str ⟨#[c]⟩])) { s with heap:=h2,toks:=tk+1}:=AN I hf k2 (Nat.le_refl _) ⟨Nat.le_of_ble_eq_true rfl,[.int i tk,.str ⟨#[c]⟩ u'],.cons ⟨_,rfl⟩ (.cons ⟨_,rfl⟩ .nil),_,WQ,rfl,_,rfl⟩
   refine⟨.ref s.heap.objs.size,_,I2,rfl,⟨_,c,rfl,hp,rfl,hx⟩,⟨⟨_,by simpa using Pd⟩,let ⟨o,z1,z2⟩:=Py;⟨o,(z8.2 it (Ne.symm RD)).trans z1,z2⟩⟩,fun b hb=>?_⟩
   have:b≠s.heap.objs.size:=by
     rcases List.mem_cons.mp hb with rfl | hb
     . exact Nat.ne_of_lt TC
     . have:b=it:=by simpa using hb
       subst this
       exact Nat.ne_of_lt Vx
   rw[ag this]
   exact(hf b hb).1
 done:=by
   intro X hP hw hK hc i pins s σ H E I hf st hg
   subst hP hw hK
   have hg:i=x.cps.size:=hg
   subst hg
   obtain⟨⟨old,he⟩,hit⟩:=st
   obtain⟨f0,f1,f2,f3,f4,f5⟩:=hf it (by simp)
   exact wpAny_pyNext_enum_endD (Draws.strAscii (A:=X.A.in1) (I.ok.hd hc) it x t) he hit fun h' eb=>⟨rfl,I.turned (t':=s.toks) (fun b o hb q=>eb b o hb q) f0 f1 f3 f4 f5⟩
 self:=fun _ i s Q E st h=>by
   obtain⟨⟨old,he⟩,_⟩:=st
   exact wpAny_pyIter_enum he h
section
variable {X:Cx}{G:Gr}{dl:List Slot}{a:Expr}{x:Str}{p pos:Pos}
noncomputable def HM (ta:TA):TI:=fun σ H R=>ta σ H fun vs H1=>∃ x,vs=[.str x]/\jO x=true/\R (TQ x) H1
theorem HN {elts:List Expr}{kt:Nat}{xZ:Pos}{ta:TA}(hg:Gl X "enumerate")(hm:X.mg "enumerate"=none)(ha:PA X [a] ta)(hs:starEach [a] X.env=[(false,eval a X.env)]:=by rfl):PI X (.Tuple elts kt xZ) (.Call (.Name "enumerate" p) [a] [] pos) (HM ta):=by
 intro pins s σ H R I h
 refine Call_ (pH I hg hm boot_enumerate (PyProof.Rows.callWith_type1 (bX (ha pos pins s σ H _ I h) fun us s1 ⟨vs,H1,I1,r1,q1⟩=>?_) hs rfl))
 obtain⟨x,e,PH,q⟩:=q1
 subst e
 cases r1 with
 | cons r rr=>
   cases rr
   obtain⟨t,rfl⟩:=r
   refine call_enumerate_str fun h' he hit hsz k=>wpAny_pyIter_enum he ?_
   have SE:strIterType x="str_ascii_iterator":=by unfold strIterType;rw[show x.cps.all (· < 128)=true from PH];rfl
   rw[SE] at hit
   have I2:L2.Inv X pins σ H1 { s1 with heap:=h'}:=I1.kept (t':=s1.toks) k
   refine⟨s1.heap.objs.size+1,[s1.heap.objs.size+1,s1.heap.objs.size],_,_,H1,rfl,I2,Cu x t _ s1.heap.objs.size (Nat.succ_ne_self _),⟨⟨_,he⟩,hit⟩,fun b hb=>?_,q⟩
   have O8:s1.heap.objs.size<=b:=by
     rcases List.mem_cons.mp hb with rfl | hb
     . exact Nat.le_succ _
     . have:b=s1.heap.objs.size:=by simpa using hb
       rw[this];exact Nat.le_refl _
   exact I1.uE O8 (I1.a5.fresh O8)
theorem Cv (hx:jO x=true):qv X G dl (sC (Sg.signs x)) (HM (Rz X.K G dl [.str x])):=fun st H R ⟨Hf,S,k⟩=>⟨Hf,S,fun vs Hf1 H1 g1 r1=>by
 cases r1 with
 | cons r t=>
   cases t
   cases r
   refine⟨x,rfl,hx,k _ Hf1 H1 g1 fun bO H2 s1 s2 i=>⟨fun z hz=>?_,fun hi=>?_⟩⟩
   . have hi:i < (Sg.signs x).length:=by
       have:=(List.getElem?_eq_some_iff.mp hz).1
       unfold sC at this
       simpa using this
     unfold sC at hz
     rw[List.getElem?_map,List.getElem?_range hi] at hz
     cases hz
     have Dq:(Sg.signs x)[i]?=some ((Sg.signs x).getD i .cP):=by rw[List.getD_eq_getElem?_getD,List.getElem?_eq_getElem hi];rfl
     rw[signs_get] at Dq
     cases q:x.cps[i]? with
     | none=>rw[q] at Dq;cases Dq
     | some c=>
       rw[q] at Dq
       have Dq:Dt.str ⟨#[c]⟩=(Sg.signs x).getD i .cP:=Option.some.inj Dq
       refine⟨⟨c,q⟩,fun v H3 ⟨p,c',e1,e2,e3,e4⟩=>?_⟩
       rw[q] at e4;cases e4
       subst e1 e3
       show ∃ iU,bb bO H2 iU _/\Rep X.K iU (V.ref p) (Dt.tup [Dt.int i,(Sg.signs x).getD i Dt.cP])
       rw[<- Dq]
       exact⟨upd bO p (.tup [.int i,.str ⟨#[c]⟩]),.alloc s2 e2,.tup (.of ak) (.cons (.int _) (.cons (.str _) .nil))⟩
   . show i=x.cps.size
     unfold sC at hi
     rw[List.length_map,List.length_range,ow] at hi
     exact hi⟩
end
theorem PJ {us:List Value}{d:Value}(h:(us ++ [d]).length=3):∃ a b,us=[a,b]:=by
 rw[List.length_append] at h
 have h:us.length=2:=Nat.succ.inj h
 match us,h with
 | [a,b],_=>exact⟨a,b,rfl⟩
end Sg
namespace Sg
open PySem PySem.Spec PyProof.Rows L2
open Sem (wp)
structure W2 (z tI tO j1 j2:Addr)(f1 f2:List Addr):Prop where
 tz:tI≠z
 oz:tO≠z
 az:j1≠z
 bz:j2≠z
 to:tI≠tO
 ta:tI≠j1
 tb:tI≠j2
 oa:tO≠j1
 ob:tO≠j2
 ab:j1≠j2
 z1:z ∉ f1
 o1:tO ∉ f1
 b1:j2 ∉ f1
 z2:z ∉ f2
 o2:tO ∉ f2
 a2:j1 ∉ f2
inductive ZS where
 | txt (x:Str) (t:Tok)
 | lst (l:Addr)
noncomputable def ZS.val:ZS->Value
 | .txt x t=>.str x t
 | .lst l=>.ref l
noncomputable def ZS.obj:ZS->Obj
 | .txt x t=>{ cls:=.type (strIterType x),data:=.fields #[.str x t,.int 0 0]}
 | .lst l=>{ cls:=.type "list_iterator",data:=.fields #[.ref l,.int 0 0]}
noncomputable def ZS.ok (h:Heap):ZS->Prop
 | .txt x _=>jO x=true
 | .lst l=>∃ xs,h.IsList l xs
noncomputable def ZS.at (it:Addr)(i:Nat)(h:Heap):ZS->Prop
 | .txt x t=>h.IsStrIter it "str_ascii_iterator" x t i
 | .lst l=>h.IsListIter it l i
noncomputable def ZS.v:ZS->V
 | .txt x _=>.str x
 | .lst l=>.ref l
section
inductive ZD:Dt->List Dt->Prop
 | lst (xs:List Dt):ZD (.lst xs) xs
 | str (x:Str):jO x=true->ZD (.str x) (Sg.signs x)
end
noncomputable def exO (C t:Addr)(od:Option Addr):Obj:={ cls:=.ref C,dict:=od,data:=.fields #[.ref t,.none,.none,.none,.bool false,.none]}
noncomputable def ExB (h:Heap)(e C:Addr)(od:Option Addr):Prop:=∃ t:Addr,h.get? e=some (exO C t od)
section
variable {C:Addr}
structure StX (K:W.Frag)(C:Addr)(f:Str):Prop where
 sa:W.findIn K (.ref C) "__setattr__"=some (some (.builtin "object.__setattr__"))
 na:W.findIn K (.ref C) f=some none
 ob:W.mroIn K C (.type "object")=some true
 mr:∃ G,(W.clsIn K C).map (·.mro)=some [.ref C,.ref G,.type "ValueError",.type "Exception",.type "BaseException",.type "object"]
 hd:(W.clsIn K C).map (·.hasDict)=some true
end
noncomputable def PK (K:PySem.W.Frag)(C:Addr)(Y5:List Value)(nw:String)(fI:Addr):Bool:=match K.lookup C with
 | some ⟨.type "type",_,.cls cd,sl⟩=>(match cd.mro,sl.toList with
   | .ref D::tl,[_,_,_,_,some (.builtin n),_]=>D == C && (n == nw && (!cd.hasDel && (PySem.W.tailIn K Y5 tl && (PySem.W.nsOkIn K cd.ns && (PySem.W.nsIn K cd.ns "__init__" == some (some (.ref fI)))))))
   | _,_=>false)
 | _=>false
structure XcI (K:W.Frag)(C fI:Addr):Prop where
 ex:PK K C YS "ValueError.__new__" fI=true
 fn:W.typeIn K (.ref fI)=some (.type "function")
 kp:W.keepIn K (.ref C)=true
structure XcB (K:W.Frag)(G:Addr):Prop where
 sp:W.specialIn K (.ref G) "__getattribute__"=some (some (.builtin "type.__getattribute__"))
 rd:W.readsIn K G (.type "type")=true
 fc:W.findCls K (.ref G) (.type "type") "__init__"=some (.val (.builtin "ValueError.__init__"))
noncomputable abbrev xT (z C:Addr)(od:Option Addr):HO:=.ext fun h=>ExB h z C od
noncomputable def spX (K:W.Frag)(C:Addr)(f:Str)(ok:Dt->Prop):Sp:=fun vs H Q E=>∃ Hf H1 z v d,vs=[.ref z,v]/\H=upd H1 z (xT z C none)/\H1 z=none/\aE Hf H1/\Rep K Hf v d/\ok d /\
 ∀ bO H2 dx,bb Hf H bO H2->H2 dx=none->dx≠z->Q .cP (upd (upd H2 dx (.xd [(f,v)])) z (xT z C (some dx)))
structure XF (P:Program)(w:World)(K:W.Frag)(mg:Str->Option Value)(base:Heap)(CX:q9)(k:Nat)(x:Str)(C:Addr)(f:Str)(ok:Dt->Prop):Prop where
 ex:∃ fI fd ps,jx P w K mg base CX k fI fd ps (spX K C f ok)/\XcI K C fI/\mg x=some (.ref C)/\Binds K fd ps []
section
variable {X:Cx}{G:Gr}{E:XK}{dl:List Slot}{e:Expr}{p pos apos bW:Pos}{x:Str}{ds Kn:List Dt}
theorem Fn (n:Nat){pn:Pos}(he:EE X G dl e (.lst Kn))(hl:ds.length+Kn.length<=sizeLine)(hd:dl[n]?=some (.own (.lst ds)):=by rfl)(hN:X.N[n]?=some x:=by rfl)(hv:uA X.env.scope x:=by first | exact Or.inl rfl | exact Or.inr (Or.inl rfl) | exact Or.inr (Or.inr rfl))
   (md:(x == ("__debug__":Str))=false:=by decide) (lO:(x == ("__classdict__":Str))=false:=by decide)
   (jy:attributeBase (.Name x pn) "extend" X.env (eval (.Name x pn) X.env)=eval (.Name x pn) X.env:=by rfl)
   (uL:((backTo bW (starEach [e] X.env)).all (fun x=>!x.1) && (backToKw bW (keywordEach [] X.env)).all (fun x=>x.1.isSome) && decide ([e].length+([]:List Keyword).length+(if ([]:List Keyword).isEmpty then 0 else 1) < 30))=true:=by rfl)
   (jz:(apos.endLine == bW.line)=true:=by rfl) (m7:starEach [e] X.env=(false,eval e X.env)::starEach [] X.env:=by rfl) (hs:swapsWith (.Call (.Attribute (.Name x pn) "extend" apos) [e] [] bW) none pos.line X.env=pure false:=by rfl) :
   ES X G E dl (.Expr (.Call (.Attribute (.Name x pn) "extend" apos) [e] [] bW) pos) (.nx (dl.set n (.own (.lst (ds ++ Kn))))):=
 sv (k8 (uK PySem.F.plainAttrs_list PySem.F.slot_list_extend PySem.F.type_list_extend EZ (uY (p:=pn) n hd hN hv md lO) (ae he aj m7) jy uL jz m7 rfl) hs) fun D st H ⟨Hf,S,k⟩=>by
   obtain⟨q,z1,z2,z3,vs,hq,rp⟩:=S.own n _ hd
   refine⟨Hf,q,S,z1,z2,⟨vs,hq,rp⟩,.inl ⟨rfl,vs,.of hq⟩,Hf,S,fun us Hf1 H1 g1 r1=>?_⟩
   cases r1 with
   | cons r1 t1=>
     cases t1
     cases r1 with
     | @lst b zs _ hb rz=>
       refine⟨q,b,vs,zs,rfl,rfl,g1.big _ _ hq,g1.sub _ _ hb,by rw[rp.length,rz.length];exact hl,?_⟩
       exact k st Hf1 _ g1.bC ((S.grow g1).E8 hd z1 ⟨_,ak,(rp.mono g1.bC).append rz⟩)
end
mutual
noncomputable def W4:Dt->Bool
 | .lst _=>false
 | .oh _=>false
 | .tup ds=>TR ds
 | .eB kds=>TU kds
 | .obj _ fs=>TV fs
 | .pJ _=>false
 | .xo _=>false
 | .BR _ _=>false
 | .dn _=>false
 | .memo _ _ _ _=>false
 | .dH _ _ _ _=>false
 | .tM _ _ _=>false
 | .uO _ _ _ _ _=>false
 | .lz _=>false
 | _=>true
noncomputable def TR:List Dt->Bool
 | []=>true
 | d::r=>W4 d && TR r
noncomputable def TU:List (Key×Dt)->Bool
 | []=>true
 | (_,d)::r=>W4 d && TU r
noncomputable def TV:List (Str×Dt)->Bool
 | []=>true
 | (_,d)::r=>W4 d && TV r
end
structure TX (k:Nat)(A:Around):Prop where
 dp:A.depth+3 * k+5 < recursionLimit
 un:A.units+16 * k+200 < cLine
structure TY (P:Program)(w:World)(K:W.Frag)(mg:Str->Option Value)(base:Heap)(CX:q9)(k:Nat)(f:Addr)(fd:FuncData)(ps:List Str)(sp:Sp):Prop where
 len:∀ vs H Q E,sp vs H Q E->vs.length=ps.length
 run:∀ (A:Around) (outer:List Env) (s:Shared) (H:Hp) (args:Args) (us:List Value) (vs:List V) (Q:VK) (E:XK),TX k A->z9 P w K mg base A outer s H->BindsTo s fd args (ps.zip us)->Vals vs us->sp vs H Q E ->
   codeAny (model P w) A (.call (.ref f) args) (CR CX outer P w H s Q E) s
structure GFH (P:Program)(w:World)(K:W.Frag)(mg:Str->Option Value)(base:Heap)(CX:q9)(k:Nat)(x:Str)(n:Nat)(R:List Dt->Res->Prop):Prop where
 ex:∃ f fd ps,TY P w K mg base CX k f fd ps (DH K n R)/\mg x=some (.ref f)/\W.keepIn K (.ref f)=true/\Binds K fd ps []
theorem va:typeLookup (.type "list") "keys"=pure none:=am_miss_of_fast (by decide +kernel)
theorem Fp {prog:Program}{w:World}{A:Around}{E:Value->Shared->Prop}{s:Shared}{a:Addr}{o:Obj}{xs:Array Value}{k:Nat}{Q:Option Value->Shared->Prop}(hx:s.heap.get? a=some o)(hc:o.cls=.type "list")(TZ:o.data=.seq xs k)(hd:o.dict=none)(hA:A.handled=none)(h:∀ h' tk,(∀ b u,s.heap.get? b=some u->h'.get? b=some u)->Q none { s with heap:=h',toks:=tk}):wpAny (model prog w) A (getAttr? (.ref a) "keys") Q E s:=by
 obtain⟨c,dct,dat,sl⟩:=o
 simp only at hc TZ hd
 subst hc TZ hd
 obtain⟨hp,g,d,tk,os⟩:=s
 have hT:∀ Y6,(⟨hp,g,d,Y6,os⟩:Shared).TypeIs (.ref a) "list":=fun _=>⟨_,hx,rfl⟩
 have f1:=sub_AttributeError
 have f3:=F.slot_list_getattribute.lookup
 have f4:=F.slot_list_getattribute.bind (.ref a)
 have f5:=am_list_getattr_none
 unfold getAttr? getAttrBy? getAttrBy
 repeat (any_goals (first | assumption | exact hT _ | ((with_reducible show wpAny _ _ (call (Value.builtin "list.__getattribute__") _ _) _ _ _);refine call_meets F.slot_list_getattribute (hT _) am_entry_list_getattribute (F.args_list_getattribute_2 _ _) (meets_getattribute_miss_list a xs k sl "keys" _ va (by decide +kernel)) ⟨hx,hA,fun h' Y6 e Dq=>?_⟩) | wp_step))
 obtain⟨t',u',he⟩:=Dq.there
 show wpAny _ _ (getattributeRaised _ _ _ _ _ _ _) _ _ _
 unfold getattributeRaised
 repeat (any_goals (first | assumption | wp_step))
 exact h _ _ Dq.keeps
theorem jc:plainId "dict.update.loop"=true:=by decide +kernel
theorem pz:entryFor table "dict.update.loop"=some Builtin.«dict.update.loop»:=entryFor_of_fast (by kernel_rfl)
inductive Gf (K:W.Frag)(H:Hp):List V->List (Key×V)->Prop
 | nil:Gf K H [] []
 | cons {t:Addr} {k:Key} {v:V} {xs:List V} {kvs:List (Key×V)}:uC K H t [kV k,v]->Gf K H xs kvs->Gf K H (.ref t::xs) ((k,v)::kvs)
theorem Gf.length {K:W.Frag}{H:Hp}:∀ {xs:List V} {kvs:List (Key×V)},Gf K H xs kvs->xs.length=kvs.length
 | _,_,.nil=>rfl
 | _,_,.cons _ r=>congrArg (·+1) (Gf.length r)
theorem Gf.get {K:W.Frag}{H:Hp}:∀ {xs:List V} {kvs:List (Key×V)} {i:Nat} {kv:Key×V},Gf K H xs kvs->kvs[i]?=some kv->∃ t,xs[i]?=some (.ref t)/\uC K H t [kV kv.1,kv.2]
 | _,_,_,_,.nil,e=>by simp at e
 | _,_,0,_,.cons h _,e=>by simp at e;subst e;exact⟨_,rfl,h⟩
 | _,_,i+1,_,.cons _ r,e=>by
   obtain⟨t,h1,h2⟩:=Gf.get (i:=i) r (by simpa using e)
   exact⟨t,by simpa using h1,h2⟩
theorem AU {kvs:List (Key×V)}{k:Key}(h:k ∉ kvs.map (·.1)):(nE kvs k).isSome=false:=by
 induction kvs with
 | nil=>rfl
 | cons p r ih=>
   have h1:¬ p.1=k:=fun e=>h (by simp[e])
   rw[lQ h1]
   exact ih fun z=>h (by simp at z ⊢;exact .inr z)
section
variable {X:Cx}{pins:List (Addr×Obj)}{σ:L2.St}{H:Hp}{A:Around}{R:Result->Shared->Prop}{L d it:Addr}{xs:List V}{kvs:List (Key×V)}
theorem HP (hA:A.handled=none)(hL:mh X.K H L xs)(hp:Gf X.K H xs kvs)(nd:(kvs.map (·.1)).Nodup)(hd:H d=none)(hf:kL X pins H it)(W5:d≠it)(hz:kvs.length<=sizeLine)(hR:∀ s',L2.Inv X pins σ (upd H d (.dK kvs)) s'->R (.ok (.ret .none)) s'):∀ (k i:Nat) (s:Shared) (tk:Tok),kvs.length - i=k->i<=kvs.length->L2.Inv X pins σ (upd H d (.dK (kvs.take i))) s->s.heap.IsListIter it L i->codeAny (model X.prog X.w) A (.builtin "dict.update.loop" ⟨[.ref d,.ref it,.int i tk,.none],[]⟩) R s:=by
 have hlen:=hp.length
 have sm:∀ o,aE H (upd H d o):=fun o=>bI hd
 obtain⟨f0,f1,f2,f3,f4,f5⟩:=hf
 intro k
 induction k with
 | zero=>
   intro i s tk hk hi I st
   have PL:i=kvs.length:=by omega
   subst PL
   obtain⟨aC,rv,p,Y7⟩:=I.list ((sm _).seq hL)
   have hl:=rv.length
   refine codeAny_builtin pz ?_
   rw[Around.under_plainId jc _]
   show wpAny _ A.in1 (pyNext (.ref it) >>= _) _ _ s
   refine wpAny_bind (wpAny_pyNext_list_end (show A.in1.handled=none from hA) st p.isList (by simp;omega) fun h' eb=>?_)
   have I1:L2.Inv X pins σ (upd H d (.dK (kvs.take kvs.length))) { s with heap:=h'}:=I.turned (t':=s.toks) (fun b o hb e=>eb b o hb e) (by rw[ag (Ne.symm W5)];exact f0) f1 f3 f4 f5
   rw[List.take_length] at I1
   show wpAny _ A.in1 (Builtin.Dict.addKeywords d [] >>= _) _ _ _
   exact wpAny_bind (wpAny_pure (wpAny_pure (hR _ I1)))
 | succ k ih=>
   intro i s tk hk hi I st
   have de:i < kvs.length:=by omega
   obtain⟨t,ht1,ht2⟩:=hp.get (List.getElem?_eq_getElem de)
   obtain⟨aC,rv,p,Y7⟩:=I.list ((sm _).seq hL)
   obtain⟨u,hu,ru⟩:=rv.get ht1
   cases (show u=Value.ref t from ru)
   refine codeAny_builtin pz ?_
   rw[Around.under_plainId jc _]
   show wpAny _ A.in1 (pyNext (.ref it) >>= _) _ _ s
   refine wpAny_bind (wpAny_pyNext_list_item st p.isList (x:=.ref t) (by simpa using hu) fun h' jv sb=>?_)
   have I1:L2.Inv X pins σ (upd H d (.dK (kvs.take i))) { s with heap:=h'}:=I.turned (t':=s.toks) (fun b o hb e=>(sb.2 b hb).trans e) (by rw[ag (Ne.symm W5)];exact f0) f1 f3 f4 f5
   obtain⟨pit,rp,pt,hzt⟩:=I1.tuple (bN (sm _) ht2)
   cases rp with
   | cons rk rp=>cases rp with
     | cons rv' rp=>
       cases rp
       rename_i ku vu
       obtain⟨ot,eo,W6,nn,hdt⟩:=pt
       refine wpAny_bind (wpAny_holding (wpAny_bind (wpAny_tryCatch ?_)))
       unfold Builtin.Dict.pairItems
       refine wpAny_bind (wpAny_typeOf (T:="tuple") ⟨_,eo,W6⟩ ?_)
       simp only[show((Value.type "tuple" == Value.type "list") || (Value.type "tuple" == Value.type "tuple"))=true by decide,if_true]
       refine wpAny_bind (wpAny_seqItems eo hdt (wpAny_pure ?_))
       show wpAny _ A.in1 (holding [ku,vu] (dictSet d ku vu)) _ _ _
       refine wpAny_holding ?_
       have ed:(upd H d (HO.dK (kvs.take i))) d=some (.dK (kvs.take i)):=ak
       obtain⟨z,hdm,vs,rel,dd⟩:=Nh I1.a5 ed
       have hzv:vs.length<=sizeLine:=by rw[<- rel.length];exact z
       have T1:putK (kvs.take i) kvs[i].1 kvs[i].2=kvs.take (i+1):=by
         rw[DS (AU ?_),List.take_succ,List.getElem?_eq_getElem de];rfl
         rw[List.map_take]
         intro hm
         obtain⟨j,hj,e⟩:=List.mem_iff_getElem.mp hm
         rw[List.length_take,List.length_map] at hj
         rw[List.getElem_take,List.getElem_map] at e
         have:=List.pairwise_iff_getElem.mp nd j i (by rw[List.length_map];omega) (by rw[List.length_map];omega) (by omega)
         rw[List.getElem_map,List.getElem_map] at this
         exact this e
       refine wpAny_dictSet_pairs (hsz:=hzv) (Ai rk) dd fun h2 OW hs=>?_
       have he:∃ q,h2.get? d=some q:=let ⟨q,_,_,hq,_⟩:=OW;⟨q,hq⟩
       have I2:L2.Inv X pins σ (upd (upd H d (.dK (kvs.take i))) d (.dK (putK (kvs.take i) kvs[i].1 kvs[i].2))) { s with heap:=h2,toks:=s.toks+1}:=ml (s:={ s with heap:=h'}) (t':=s.toks+1) I1 (by rw[ed];exact True.intro) hs he (GS (by rw[T1,List.length_take];omega) hdm (rel.put _ rv') OW)
       rw[tE,T1] at I2
       exact wpAny_pure ⟨plainId_quiet jc _,ih (i+1) _ _ (by omega) (by omega) I2 (jv.at fun o e=>(hs.2 it (Ne.symm W5)).trans e)⟩
theorem yy (hc:X.calm=true):jU X (.type "dict") (fun xs H Q=>∃ L ys kvs,xs=[.ref L]/\H L=some (.lst ys)/\Gf X.K H ys kvs/\(kvs.map (·.1)).Nodup/\kvs.length<=sizeLine/\∀ l,H l=none->Q (.ref l) (upd H l (.dK kvs))):=by
 intro pins s σ H xs us Q I r h
 obtain⟨L,ys,kvs,rfl,hL,hp,nd,hz,q⟩:=h
 obtain⟨u,rfl,rx⟩:=vals1 r
 cases rx
 refine callType_codes (Q₁:=fun obj s₁=>obj=.ref s.heap.objs.size/\s₁={ s with heap:=s.heap.push { cls:=.type "dict",data:=.dict #[]}}) F.kt_called_dict (F.kt_typeCall_dict_1 _) F.entry_dict_init (kt_code_dict_new _ ⟨rfl,rfl⟩) ?_
 rintro obj s₁ ⟨rfl,rfl⟩
 have E1:(s.heap.push { cls:=.type "dict",data:=.dict #[]}).DictOf (cH X.prog X.w) s.heap.objs.size []:=Heap.DictOf.new s.heap
 have hn:=I.a5.fresh (Nat.le_refl _)
 have I1:L2.Inv X pins σ (upd H s.heap.objs.size (.dK [])) { s with heap:=s.heap.push { cls:=.type "dict",data:=.dict #[]}}:=I.laid (a:=s.heap.objs.size) (o:=.dK []) (t':=s.toks) (fun _ _ q=>Heap.get?_push_of_some _ q) (Nat.le_refl _) (Ak s.heap I.big)
 refine⟨E1.typeIs,F.args_dict_init_2 _ _,?_⟩
 unfold Builtin.«dict.__init__»
 refine wpAny_bind ?_
 unfold Builtin.Dict.selfAndRest
 refine wpAny_bind (wpAny_notOrdered_dict E1.typeIs ?_)
 show wpAny _ _ (pure (s.heap.objs.size,[Value.ref L])) _ _ _
 refine wpAny_pure ?_
 show wpAny _ _ (Builtin.Dict.updateFrom "dict.__init__" s.heap.objs.size (.ref L) [] .none) _ _ _
 unfold Builtin.Dict.updateFrom
 have hdL:s.heap.objs.size≠L:=fun e=>by rw[<- e,hn] at hL;cases hL
 have hL1:(upd H s.heap.objs.size (HO.dK [])) L=some (.lst ys):=by rw[ag (Ne.symm hdL)];exact hL
 obtain⟨Y7,aC,n,rv,eL⟩:=(show aJ X.prog X.w _ _ L (.lst ys) from I1.a5 L _ hL1)
 have hA:X.A.handled=none:=I.ok.hd hc
 refine wpAny_bind (wpAny_typeOf (T:="list") ⟨_,eL,rfl⟩ ?_)
 rw[if_pos (by decide)]
 refine wpAny_bind (Fp eL rfl rfl rfl (by exact hA) fun h1 T2 Y8=>?_)
 rw[if_pos (by rfl)]
 have I2:L2.Inv X pins σ (upd H s.heap.objs.size (.dK [])) { s with heap:=h1,toks:=T2}:=I1.kept (t':=T2) Y8
 have eL2:h1.get? L=some { cls:=.type "list",data:=.seq aC.toArray n}:=Y8 _ _ eL
 refine wpAny_bind (wpAny_rule (wpAny_bind (wpAny_pyIter_list (s:={ s with heap:=h1,toks:=T2}) (items:=aC.toArray) ⟨_,eL2,rfl,n,rfl⟩ ?_)))
 have I3:L2.Inv X pins σ (upd H s.heap.objs.size (.dK [])) { s with heap:=h1.push { cls:=.type "list_iterator",data:=.fields #[.ref L,.int 0 0]},toks:=T2}:=I2.kept (t':=T2) fun b o e=>Heap.get?_push_of_some _ e
 have hsz:s.heap.objs.size < h1.objs.size:=I2.a5.lt ak
 have hlo:s.heap.objs.size<=h1.objs.size:=Nat.le_of_lt hsz
 have W7:H h1.objs.size=none:=by
   have:=I2.a5.fresh (Nat.le_refl h1.objs.size)
   rw[ag (Nat.ne_of_gt hsz)] at this
   exact this
 refine wpAny_pure ⟨plainId_quiet jc _,HP (kvs:=kvs) (by exact hA) (.of hL) hp nd hn (I2.uE (b:=h1.objs.size) (Nat.le_refl _) W7) (Nat.ne_of_lt hsz) hz (fun s' I'=>⟨rfl,.ref _,_,I',rfl,q _ hn⟩) kvs.length 0 _ _ (by omega) (by omega) I3 ⟨_,Heap.get?_push_size _ rfl,rfl,rfl⟩⟩
end
section
variable {X:Cx}{G:Gr}{dl:List Slot}{a:Expr}{pos p:Pos}{kds:List (Key×Dt)}
noncomputable def Ko (kd:Key×Dt):Dt:=.tup [kD kd.1,kd.2]
theorem HQ {K:W.Frag}{Hf H:Hp}(sm:aE Hf H):∀ {ys:List V} {kds:List (Key×Dt)},br K Hf ys (kds.map Ko)->∃ kvs,Gf K H ys kvs/\cI K Hf kvs kds
 | _,[],.nil=>⟨[],.nil,.nil⟩
 | _,(k,d)::kds,.cons r t=>by
   obtain⟨kvs,h1,h2⟩:=HQ sm t
   cases r with
   | @tup a vs _ hs rp=>
     cases rp with
     | @cons v1 _ _ _ r1 r2=>cases r2 with
       | @cons v2 _ _ _ r2 r3=>
         cases r3
         have e1:v1=kV k:=by
           cases k with
           | inl i=>cases r1;rfl
           | inr x=>cases r1;rfl
         subst e1
         exact⟨(k,v2)::kvs,.cons (bN sm hs) h1,.cons r2 h2⟩
theorem cI.keys {K:W.Frag}{H:Hp}:∀ {v:List (Key×V)} {d:List (Key×Dt)},cI K H v d->v.map (·.1)=d.map (·.1)
 | _,_,.nil=>rfl
 | _,_,.cons _ r=>by rw[List.map_cons,List.map_cons,cI.keys r]
theorem lV (hm:X.mg "dict"=none)(hc:X.calm=true)(ha:EE X G dl a (.lst (kds.map Ko)))(nd:(kds.map (·.1)).Nodup)(hz:kds.length<=sizeLine)(hg:Gl X "dict":=by rfl)(he:starEach [a] X.env=[(false,eval a X.env)]:=by rfl):EO X G dl (.Call (.Name "dict" p) [a] [] pos) (.eB kds):=
 gh (lP (yy hc) hg hm boot_dict (ae ha aj he) (he:=he)) fun st H Q ⟨Hf,S,k⟩=>⟨Hf,S,fun vs Hf1 H1 g1 r1=>by
   cases r1 with
   | cons r t=>cases t;cases r with
     | @lst q vs _ z r=>
       obtain⟨kvs,h1,h2⟩:=HQ g1.sub r
       exact⟨q,vs,kvs,rfl,g1.sub _ _ z,h1,by rw[h2.keys];exact nd,by rw[h2.length];exact hz,fun l hl=>k l Hf1 _ (g1.trans (.dX g1.sub hl)) (g1.big.free hl) (g1.sub.free hl) ⟨kvs,ak,h2⟩⟩⟩
theorem Fq:Rw X "str.count" (fun x vs H Q=>∃ z y:Str,x=.str z/\vs=[.str y]/\Q (.int (Txt.count z y)) H):=by
 intro pins s σ H x vs v us Q I rx rv ⟨z,y,e1,e2,q⟩
 subst e1 e2
 obtain⟨t,rfl⟩:=(show ∃ t,v=Value.str z t from rx)
 obtain⟨u,rfl,ru⟩:=vals1 rv
 obtain⟨t',rfl⟩:=(show ∃ t,u=Value.str y t from ru)
 exact PySem.SC.count ⟨.int (Txt.count z y),H,I.tok _,⟨_,rfl⟩,q⟩
end
section
inductive HR:List (Key×Value)->List (Key×Value)->Prop
 | nil:HR [] []
 | cons {k:Key} {i:Int} {t u:Tok} {xs ys:List (Key×Value)}:HR xs ys->HR ((k,.int i t)::xs) ((k,.int i u)::ys)
end
theorem vb {H:Hp}{q:Addr}{o:HO}(h:H q=some o):upd H q o=H:=by
 funext b
 by_cases e:b=q
 . subst e;rw[ak,h]
 . rw[ag e]
section
variable {X:Cx}{G:Gr}{dl:List Slot}{a b:Expr}{x:Str}{apos bW:Pos}{kds:List (Key×Dt)}
noncomputable def dI (kds:List (Key×Int)):List (Key×Dt):=kds.map fun kd=>(kd.1,Dt.int kd.2)
theorem Lz {K:W.Frag}{H:Hp}:∀ {kds:List (Key×Int)} {kvs:List (Key×V)},cI K H kvs (dI kds)->kvs=kds.map fun kd=>(kd.1,V.int kd.2)
 | [],_,.nil=>rfl
 | (k,i)::kds,_,.cons r t=>by
   cases r
   rw[Lz (kds:=kds) t];rfl
theorem Fs {z w:Str}(ha:EE X G dl a (.str z))(hb:EE X G dl b (.str w))(jy:attributeBase a "count" X.env (eval a X.env)=eval a X.env:=by rfl)
   (uL:((backTo bW (starEach [b] X.env)).all (fun x=>!x.1) && (backToKw bW (keywordEach [] X.env)).all (fun x=>x.1.isSome) && decide ([b].length+([]:List Keyword).length+(if ([]:List Keyword).isEmpty then 0 else 1) < 30))=true:=by rfl)
   (jz:(apos.endLine == bW.line)=true:=by rfl) (m7:starEach [b] X.env=(false,eval b X.env)::starEach [] X.env:=by rfl):EE X G dl (.Call (.Attribute a "count" apos) [b] [] bW) (.int (Txt.count z w)):=
 gh (uK PySem.F.plainAttrs_str PySem.F.slot_str_count PySem.F.type_str_count Fq ha (ae hb aj m7) jy uL jz m7 rfl) fun st H Q ⟨Hf,S,k⟩=>⟨Hf,S,fun v Hf1 H1 g1 r1=>by
   cases r1
   exact⟨rfl,Hf1,S.grow g1,fun vs bO H2 g2 r2=>by
     cases r2 with
     | cons r t=>cases t;cases r;exact⟨z,w,rfl,rfl,k _ bO H2 (g1.trans g2) (.int _)⟩⟩⟩
end
structure yz (X:Cx)(N:List Str)(xt:Str)(ix:List Nat)(sc:Scope):Prop where
 nd:N.Nodup
 nm:N=xt::ix.map (fun j=>X.N.getD j "")
 kind:sc.kind=.function
 one:sc.names.filter (fun y=>y.2 == .cell)=[(xt,.cell)]
 names:∀ y∈sc.names,y.2=.local->sc.names.lookup y.1=some .local
 hx:sc.names.lookup xt=some .cell
 Oe:∀ y∈sc.names,y.2=.free->y.1≠xt
 fr:∀ y∈sc.names,y.2=.free->X.env.kindOf y.1=some .cell\/X.env.kindOf y.1=some .free
 S5:∀ j∈ix,∃ y,X.N[j]?=some y/\sc.names.lookup y=some .free
noncomputable def k7 (X:Cx)(N:List Str)(sc:Scope)(xt:Str)(c C:Addr)(fp:List Addr)(s:Shared)(H:Hp):Cx:=
 { X with N:=N,s₀:=s,H₀:=H,env:=compEnvC sc ((xt,c)::k6 sc X.env) C X.env,outer:=X.stack,stack:=X.stack,ex:=fp,fn:=fun y=>y == xt,pn:=[],xe:=we}
theorem DX:∀ {names:List (Str×NameKind)} {acc:List (Str×Addr)} {n:Nat} {h:Heap},names.filter (fun y=>y.2 == .cell)=[]->cellsFrom n names acc=acc/\pushCells h names=h
 | [],_,_,_,_=>⟨rfl,rfl⟩
 | (y,k)::r,acc,n,h,e=>by
   by_cases hk:(k == NameKind.cell)=true
   . rw[List.filter_cons_of_pos (by exact hk)] at e;cases e
   . rw[List.filter_cons_of_neg (by exact hk)] at e
     unfold cellsFrom pushCells
     rw[if_neg hk,if_neg hk]
     exact DX e
theorem AV {x:Str}:∀ {names:List (Str×NameKind)} {acc:List (Str×Addr)} {n:Nat} {h:Heap},names.filter (fun y=>y.2 == .cell)=[(x,.cell)]->cellsFrom n names acc=(x,n)::acc/\pushCells h names=h.push { cls:=.type "cell",data:=.cell none}
 | [],_,_,_,e=>by cases e
 | (y,k)::r,acc,n,h,e=>by
   by_cases hk:(k == NameKind.cell)=true
   . rw[List.filter_cons_of_pos (by exact hk)] at e
     injection e with e1 e2
     cases e1
     unfold cellsFrom pushCells
     rw[if_pos hk,if_pos hk]
     exact DX e2
   . rw[List.filter_cons_of_neg (by exact hk)] at e
     unfold cellsFrom pushCells
     rw[if_neg hk,if_neg hk]
     exact AV e
theorem LA {M:Model}{A:Around}{E:Value->Shared->Prop}{s:Shared}{sc:Scope}{globals:Addr}{cl:List (Str×Addr)}{qual:Str}{around:Env}{x:Str}{Q:Env->Shared->Prop}(h1:sc.names.filter (fun y=>y.2 == .cell)=[(x,.cell)])(hQ:Q { scope:=sc,locals:=s.heap.objs.size,globals:=globals,cells:=(x,s.heap.objs.size+1)::cl,qual:=qual,func:=none,code:=around.code,frame:=around.frame,builtins:=around.builtins} { s with heap:=(s.heap.push { cls:=.type "dict",data:=.dict #[]}).push { cls:=.type "cell",data:=.cell none}}):wpAny M A (newFunctionEnv sc globals cl [] qual none .none (some around)) Q E s:=by
 simp only[newFunctionEnv,Option.isSome_some,if_true]
 refine wpAny_bind (wpAny_alloc ?_)
 refine wpAny_bind (wpAny_layCells _ (fun name kind cells=>by cases hkc:kind == NameKind.cell <;> simp[hkc]) _ _ _ _ ?_)
 obtain⟨e1,e2⟩:=AV (acc:=cl) (n:=(s.heap.push { cls:=.type "dict",data:=.dict #[]}).objs.size) (h:=s.heap.push { cls:=.type "dict",data:=.dict #[]}) h1
 show wpAny M A (forIn [] PUnit.unit _ >>= _) Q E _
 rw[List.forIn_nil]
 refine wpAny_bind (wpAny_pure (wpAny_pure ?_))
 dsimp only
 rw[e1,e2,Heap.size_push]
 exact hQ
section
variable {X:Cx}{N:List Str}{xt:Str}{ix:List Nat}{sc:Scope}{pins:List (Addr×Obj)}{st:L2.St}{H H':Hp}{s s':Shared}{c C D:Addr}{fp:List Addr}{h1:Heap}
theorem LB (B:yz X N xt ix sc)(ok:X.Ok):closureFor sc X.env=pure (k6 sc X.env):=yo fun y hy hk=>ok.has y.1 (B.fr y hy hk)
theorem oA (B:yz X N xt ix sc)(ok:X.Ok){y:Str}{c:Addr}(h:(k6 sc X.env).lookup y=some c):X.env.cells.lookup y=some c/\(y,NameKind.free)∈sc.names:=by
 rcases qr _ _ h with⟨h1,h2⟩ | h1
 . obtain⟨c',h3⟩:=ok.has y (B.fr _ h1 rfl)
   rw[h3] at h2
   cases h2
   exact⟨h3,h1⟩
 . cases h1
theorem i5 {y xt:Str}{c d:Addr}{cl:List (Str×Addr)}(h:((xt,c)::cl).lookup y=some d):(y=xt/\d=c)\/(y≠xt/\cl.lookup y=some d):=by
 rw[List.lookup_cons] at h
 cases q:(y == xt) with
 | true=>rw[q] at h;exact .inl ⟨by simpa using q,(Option.some.inj h).symm⟩
 | false=>rw[q] at h;exact .inr ⟨by simpa using q,h⟩
theorem tS (B:yz X N xt ix sc)(I:L2.Inv X pins st H s)(hC:s.heap.objs.size<=C)(hc:s.heap.objs.size<=c)(hf:∀ b∈fp,kL X pins H b)(de:∀ b∈fp,b < s.heap.objs.size):(k7 X N sc xt c C fp s H).Ok where
 mod:=I.ok.mod
 kind:=B.kind
 glob:=I.ok.glob
 blt:=I.ok.blt
 above:=hC
 inj:=fun y z d h1 h2=>by
   have old:∀ {y:Str},(k6 sc X.env).lookup y=some c->False:=fun {y} h=>by
     obtain⟨v,q⟩:=I.cell y c (oA B I.ok h).1
     exact absurd (Nat.lt_of_lt_of_le q.lt hc) (Nat.lt_irrefl _)
   rcases i5 h1 with⟨e1,e2⟩ | ⟨e1,e2⟩ <;> rcases i5 h2 with⟨e3,e4⟩ | ⟨e3,e4⟩
   . rw[e1,e3]
   . rw[e2] at e4;exact(old e4).elim
   . rw[e4] at e2;exact(old e2).elim
   . exact I.ok.inj y z d (oA B I.ok e2).1 (oA B I.ok e4).1
 has:=fun y hy=>by
   have hy:(relabel sc X.env).names.lookup y=some .cell\/(relabel sc X.env).names.lookup y=some .free:=hy
   show ∃ d,((xt,c)::k6 sc X.env).lookup y=some d
   by_cases e:y=xt
   . subst e;exact⟨c,by simp[List.lookup_cons]⟩
   . have nc:(y,NameKind.cell) ∉ sc.names:=fun hm=>by
       have:(y,NameKind.cell)∈sc.names.filter (fun y=>y.2 == .cell):=List.mem_filter.mpr ⟨hm,rfl⟩
       rw[B.one] at this
       have:=List.mem_singleton.mp this
       exact e (congrArg Prod.fst this)
     have:(y,NameKind.free)∈sc.names:=by
       rcases hy with hy | hy
       . obtain⟨k',h1,h2⟩:=fH hy
         rcases h2 with h2 | h2
         . subst h2;exact absurd h1 nc
         . subst h2;exact h1
       . obtain⟨k',h1,h2⟩:=fH hy
         rcases h2 with h2 | h2 <;> subst h2 <;> exact h1
     obtain⟨d,hd⟩:=jA (cells:=X.env.cells) sc.names [] (.inl this)
     refine⟨d,?_⟩
     rw[List.lookup_cons,show(y == xt)=false by simpa using e]
     exact hd
 Rq:=fun y d h1 h2=>by
   rcases i5 h2 with⟨_,e⟩ | ⟨e,_⟩
   . rw[e];exact hc
   . exact absurd (by have h1:(y == xt)=true:=h1;simpa using h1) e
 hd:=I.ok.hd
 frames:=I.ok.frames
 RT:=.inl rfl
 Kz:=fun b hb=>⟨Nat.ne_of_lt (Nat.lt_of_lt_of_le (de b hb) hC),fun y d h=>by
   rcases i5 h with⟨_,e⟩ | ⟨_,e⟩
   . rw[e];exact Nat.ne_of_gt (Nat.lt_of_lt_of_le (de b hb) hc)
   . exact(hf b hb).2.2.2.2.1 y d (oA B I.ok e).1⟩
 bs:=I.bs
 Dm:=Nat.le_trans I.ok.Dm I.sz
 zT:=fun b o e hb=>by
   rcases (hf b hb).2.2.2.1 with z | z
   . exact I.ok.zT b o e z
   . exact absurd (Nat.lt_of_lt_of_le (Heap.lt_size e) (Nat.le_trans I.ok.Dm z)) (Nat.lt_irrefl _)
 zU:=fun b hb z=>by
   rcases List.mem_cons.mp (I.uB b z) with z | z
   . exact(hf b hb).2.1 z
   . exact(hf b hb).2.2.1 z
 qV:=I.stack
 M9:=I.tG
theorem Cw (B:yz X N xt ix sc)(I:L2.Inv X pins st H s)(hf:∀ b∈fp,kL X pins H b)(de:∀ b∈fp,b < s.heap.objs.size)(hC:C=s.heap.objs.size+1)(RW:c=s.heap.objs.size+2)(k:∀ b o,s.heap.get? b=some o->h1.get? b=some o)(hn:h1.Ns C fun _=>none)(LC:h1.IsCell c none)(hD:h1.get? s.heap.objs.size=some { cls:=.type "list",data:=.seq ([]:List Value).toArray 0}){t':Nat}:L2.Inv (k7 X N sc xt c C fp s H) [] (List.replicate 1 none ++ frees ix st) (upd H s.heap.objs.size (.lst [])) { s with heap:=h1,toks:=t'}:=by
 have Nl:s.heap.objs.size<=C:=by rw[hC];exact Nat.le_succ _
 have BQ:s.heap.objs.size<=c:=by rw[RW];exact Nat.le_add_right _ _
 have fr:∀ a,s.heap.objs.size<=a->H a=none:=fun a ha=>I.a5.fresh ha
 have ok:=tS (c:=c) B I Nl BQ hf de
 have BP:∀ y c,(k6 sc X.env).lookup y=some c->H c=none/\c < s.heap.objs.size/\∃ v,s.heap.IsCell c v:=fun y c h=>by
   have h:=(oA B I.ok h).1
   obtain⟨v,q⟩:=I.cell y c h
   exact⟨I.o9 y c h,q.lt,v,q⟩
 refine⟨ok,rfl,I.bare,Un.laid k (Nat.le_refl _) (fr _ (Nat.le_refl _)),⟨_,hn,fun i y v e1 e2 e3=>?_⟩,fun y d h=>?_,?_,fun y d h=>?_,fun p hp=>absurd (show p∈([]:List (Addr×Obj)) from hp) (by simp),?_,?_⟩
 . have e1:N[i]?=some y:=e1
   cases i with
   | zero=>cases e2
   | succ i=>
     rw[B.nm,List.getElem?_cons_succ,List.getElem?_map] at e1
     have e2:(frees ix st)[i]?=some (some v):=e2
     unfold frees at e2
     rw[List.getElem?_map] at e2
     cases q:ix[i]? with
     | none=>rw[q] at e1;cases e1
     | some j=>
       rw[q] at e1 e2
       obtain⟨y',Ki,G9⟩:=B.S5 j (List.mem_of_getElem? q)
       have Lc:=PySem.mem_of_lookup G9
       have ey:y=y':=by
         have e1:X.N.getD j ""=y:=Option.some.inj e1
         rw[List.getD_eq_getElem?_getD,Ki] at e1
         exact e1.symm
       subst ey
       have e2:(st[j]?).join=some v:=Option.some.inj e2
       have S6:st[j]?=some (some v):=by
         cases q2:st[j]? with
         | none=>rw[q2] at e2;cases e2
         | some z=>rw[q2] at e2;rw[show z=some v from e2]
       have kd:=B.fr _ Lc rfl
       have nx:y≠xt:=B.Oe _ Lc rfl
       have S9:uA X.env.scope y:=by
         rcases kd with z | z
         . exact .inr (.inl z)
         . exact .inr (.inr z)
       obtain⟨m,_,hl⟩:=I.loc
       obtain⟨u,r,l⟩:=hl j y v Ki S6 S9
       refine⟨u,r,.inr ?_⟩
       rcases l with⟨z,_⟩ | ⟨_,d,hd,ic⟩
       . rcases kd with z' | z' <;> rw[z] at z' <;> cases z'
       . obtain⟨d',Rr⟩:=jA (cells:=X.env.cells) sc.names [] (.inl Lc)
         have:=(oA B I.ok Rr).1
         rw[hd] at this;cases this
         obtain⟨oc,Dp,Cg⟩:=ic
         refine⟨?_,d,?_,oc,k _ _ Dp,Cg⟩
         . rcases e3 with e3 | e3 | e3
           . have e3:(relabel sc X.env).names.lookup y=some .local:=e3
             rcases mn (env:=X.env) G9 with z | z
             . exact absurd (e3.symm.trans z) (by decide)
             . exact absurd (e3.symm.trans z) (by decide)
           . exact .inl e3
           . exact .inr e3
         . show((xt,c)::k6 sc X.env).lookup y=some d
           rw[List.lookup_cons,show(y == xt)=false by simpa using nx]
           exact Rr
 . rcases i5 h with⟨_,e⟩ | ⟨_,e⟩
   . rw[e];exact⟨none,LC⟩
   . obtain⟨_,_,v,oc,Dp,hd⟩:=BP y d e
     exact⟨v,oc,k _ _ Dp,hd⟩
 . show upd H s.heap.objs.size (.lst []) C=none
   rw[ag (by rw[hC];exact Nat.succ_ne_self _)]
   exact fr _ Nl
 . show upd H s.heap.objs.size (.lst []) d=none
   rcases i5 h with⟨_,e⟩ | ⟨_,e⟩
   . rw[e,ag (by rw[RW];exact Nat.ne_of_gt (Nat.lt_add_of_pos_right (by decide)))]
     exact fr _ BQ
   . obtain⟨q1,q2,_⟩:=BP y d e
     rw[ag (Nat.ne_of_lt q2)]
     exact q1
 . exact I.a5.laid k (Nat.le_refl _) ⟨Nat.zero_le _,[],0,.nil,hD⟩
 . show(List.replicate 1 none ++ frees ix st).length=N.length
   rw[B.nm]
   unfold frees
   simp
theorem HS {elt iter tg:Expr}{ifs:List Expr}{pos:Pos}{g:TG}{tt:TT}{te:TE}{J:It}{it:Addr}{tj:Nat->Heap->Prop}{Q:Addr->List V->Hp->Prop}{RR:Value->Addr->Result->Shared->Prop}{E:Value->Shared->Prop}(hc:X.calm=true)(B:yz X N xt ix sc)(hg:∀ c C fp s H,PG (k7 X N sc xt c C fp s H) tg g)(ht:∀ c C fp s H,Nr (k7 X N sc xt c C fp s H) ifs tt)(jM:∀ c C fp s H,PE (k7 X N sc xt c C fp s H) elt te)(I:L2.Inv X pins st H s)(T:Turn X.prog X.w X.K tg J fp it tj)(h0:tj 0 s.heap)(hf:∀ b∈fp,kL X pins H b)(hq:∀ D,H D=none->DP 1 g tt te (frees ix st) J D (Q D) H)(Ta:∀ D C ys H' s',L2.Inv X pins st H' s'->(∃ m,s'.heap.Ns C m)->kL X pins H' C->Q D ys H'->RR (.ref D) C (.ok .next) s'):wpAny (model X.prog X.w) X.A (newList []) (fun acc s3=>wpAny (model X.prog X.w) X.A (newFunctionEnv sc X.env.globals (k6 sc X.env) [] X.env.qual none .none (some X.env)) (fun Ax s4=>codeAny (model X.prog X.w) X.A (.compStart (.ListComp elt [⟨tg,iter,ifs,0⟩] sc pos) 0 (.ref it) acc { Ax with scope:=relabel sc X.env}) (RR acc Ax.locals) s4) E s3) E s:=by
 have de:∀ b∈fp,b < s.heap.objs.size:=fun b hb=>by
   obtain⟨o,e,_⟩:=T.obj _ _ h0 b hb
   exact Heap.lt_size e
 refine wpAny_newObj_type (LA B.one ?_)
 dsimp only
 generalize hG:s.heap.push { cls:=.type "list",dict:=none,data:=.seq ([]:List Value).toArray}=g'
 generalize VA:(g'.push { cls:=.type "dict",data:=.dict #[]}).push { cls:=.type "cell",data:=.cell none}=h1
 have hC:g'.objs.size=s.heap.objs.size+1:=by rw[<- hG,Heap.size_push]
 have Vr:s.heap.objs.size≠g'.objs.size:=by rw[hC];exact Nat.ne_of_lt (Nat.lt_succ_self _)
 have old:∀ b o,s.heap.get? b=some o->h1.get? b=some o:=fun b o e=>by
   rw[<- VA,<- hG]
   exact Heap.get?_push_of_some _ (Heap.get?_push_of_some _ (Heap.get?_push_of_some _ e))
 have Hc:h1.get? s.heap.objs.size=some { cls:=.type "list",data:=.seq ([]:List Value).toArray 0}:=by
   rw[<- VA,<- hG]
   exact Heap.get?_push_of_some _ (Heap.get?_push_of_some _ (Heap.get?_push_size _ rfl))
 have Gb:h1.Ns g'.objs.size fun _=>none:=by
   rw[<- VA]
   exact(Heap.Ns.new g' (.type "dict")).keeps fun b o e=>Heap.get?_push_of_some _ e
 have LC:h1.IsCell (g'.objs.size+1) none:=by
   rw[<- VA]
   have e:g'.objs.size+1=(g'.push { cls:=.type "dict",data:=.dict #[]}).objs.size:=by rw[Heap.size_push]
   rw[e]
   exact⟨_,Heap.get?_push_size _ rfl,rfl⟩
 have hD:H s.heap.objs.size=none:=I.a5.fresh (Nat.le_refl _)
 obtain⟨W,⟨m0,w0⟩,turn⟩:=hq _ hD
 have I0:=Cw (t':=s.toks) B I hf de hC (show g'.objs.size+1=s.heap.objs.size+2 by rw[hC]) old Gb LC Hc
 have Nm:tj 0 h1:=T.keep _ _ _ h0 fun b _ o e=>old b o e
 have nH:s.heap.objs.size<=g'.objs.size:=by rw[hC];exact Nat.le_succ _
 have pI:∀ {H':Hp},(∀ b∈fp,H' b=none)->∀ b∈fp,kL (k7 X N sc xt (g'.objs.size+1) g'.objs.size fp s H) [] H' b:=fun {H'} hn b hb=>
   ⟨hn b hb,((tS B I nH (Nat.le_trans nH (Nat.le_succ _)) hf de).Kz b hb).1,(tS B I nH (Nat.le_trans nH (Nat.le_succ _)) hf de).zU b hb,.inl hb,((tS B I nH (Nat.le_trans nH (Nat.le_succ _)) hf de).Kz b hb).2,fun p hp=>absurd (show p∈([]:List (Addr×Obj)) from hp) (by simp)⟩
 have loop:∀ s3:Shared,s3={ s with heap:=h1} ->
     codeAny (model X.prog X.w) X.A (.compLoop (.ListComp elt [⟨tg,iter,ifs,0⟩] sc pos) 0 (.ref it) (.ref s.heap.objs.size) (compEnvC sc ((xt,g'.objs.size+1)::k6 sc X.env) g'.objs.size X.env)) (RR (.ref s.heap.objs.size) g'.objs.size) s3:=by
   rintro s3 rfl
   refine AI (fun n s'=>∃ i ys σ H',σ.length=1/\L2.Inv (k7 X N sc xt (g'.objs.size+1) g'.objs.size fp s H) [] (σ ++ frees ix st) H' s'/\tj i s'.heap/\(∀ b∈fp,H' b=none)/\W i n ys H') ?_ m0
     ⟨0,[],List.replicate 1 none,_,by simp,I0,Nm,fun b hb=>?_,w0⟩
   . rintro n s5 ⟨i,ys,σ,H5,hσ,I5,Ga,Kf,w5⟩
     rcases turn i n ys H5 w5 with⟨stop,qn⟩ | ⟨go,hz,step⟩
     . refine bX (T.done (k7 X N sc xt (g'.objs.size+1) g'.objs.size fp s H) rfl rfl rfl hc i [] s5 _ H5 we I5 (pI Kf) Ga stop) fun r s6 ⟨hr,I6⟩=>?_
       subst hr
       refine Ta _ _ ys H5 s6 ?_ ?_ (I.uE nH I6.free) qn
       . exact I.Gu I6.os I6.base I6.a5 I6.bare fun b hb=>⟨(hf b hb).2.2.2.1,(hf b hb).2.1,(hf b hb).2.2.2.2.1,(hf b hb).2.2.2.2.2⟩
       . obtain⟨m,hm,_⟩:=I6.loc
         exact⟨m,hm⟩
     . refine bX (T.item (k7 X N sc xt (g'.objs.size+1) g'.objs.size fp s H) rfl rfl rfl hc i [] s5 _ H5 we I5 (pI Kf) Ga go) fun r s6 ⟨u,hr,h6⟩=>?_
       subst hr
       refine bX h6 fun _ s7 ⟨v,H7,I7,r7,y7,Hd,Tb⟩=>?_
       have Tc:=I7.pinned (pI Tb) (T.obj _ _ Hd)
       refine bX (hg (g'.objs.size+1) g'.objs.size fp s H _ s7 _ H7 v u _ Tc r7 (step σ hσ v H7 y7)) fun _ s8 h8=>?_
       obtain⟨σ8,H8,I8,σ',e8,Tt,h8⟩:=h8
       subst e8
       have pinned:∀ {σ9:L2.St} {H9:Hp} {s9:Shared},L2.Inv (k7 X N sc xt (g'.objs.size+1) g'.objs.size fp s H) ([] ++ qY fp s7.heap) σ9 H9 s9->tj (i+1) s9.heap/\∀ b∈fp,H9 b=none:=fun {σ9 H9 s9} I9=>by
         refine⟨T.keep _ _ _ Hd fun b hb o e=>(I9.pin (b,o) (List.mem_append_right _ (List.mem_append_right _ (fG hb e)))).1,fun b hb=>?_⟩
         obtain⟨o,e,d⟩:=T.obj _ _ Hd b hb
         exact(I9.pin (b,o) (List.mem_append_right _ (List.mem_append_right _ (fG hb e)))).2.1
       refine bX (ht (g'.objs.size+1) g'.objs.size fp s H _ s8 _ H8 _ I8 h8) fun ok WK Lk=>?_
       obtain⟨WL,Ll,Lk⟩:=Lk
       cases ok with
       | false=>
         obtain⟨m',hm,w8⟩:=Lk
         exact⟨m',hm,i+1,ys,σ',_,Tt,Ll.jw (pins:=[]),(pinned Ll).1,(pinned Ll).2,w8⟩
       | true=>
         refine bX (jM (g'.objs.size+1) g'.objs.size fp s H _ WK _ WL _ Ll Lk) fun z s9 ⟨y,H9,I9,r9,Td,m',hm,w9⟩=>?_
         refine bX (og _ s9 _ H9 (.ref s.heap.objs.size) [y] (.ref s.heap.objs.size) [z] (fun _ H'=>H'=upd H9 s.heap.objs.size (.lst (ys ++ [y]))) I9 rfl (.cons r9 .nil) ⟨_,ys,y,rfl,rfl,Td,hz,rfl⟩) fun _ YT Te=>?_
         obtain⟨_,YU,He,_,rfl⟩:=Te
         exact⟨m',hm,i+1,ys ++ [y],σ',_,Tt,He.jw (pins:=[]),(pinned He).1,(pinned He).2,w9⟩
   . rw[ag (Nat.ne_of_lt (de b hb))]
     exact(hf b hb).1
 exact codeAny_compStart_list (loop _ rfl) (T.self _ 0 _ _ _ Nm (loop _ rfl))
theorem vc {env:Env}{y:Str}:∀ {names:List (Str×NameKind)},names.lookup y=some .cell->(names.map fun(n,k)=>if (k == NameKind.free && env.scope.kind == .function && env.kindOf n == some .cell) then (n,NameKind.cell) else (n,k)).lookup y=some .cell
 | [],h=>by simp at h
 | (n,kk)::r,h=>by
   rw[List.map_cons,List.lookup_cons]
   rw[List.lookup_cons] at h
   cases q:(y == n) with
   | true=>
     rw[q] at h
     have:kk=.cell:=Option.some.inj h
     subst this
     simp[q]
   | false=>
     rw[q] at h
     have ih:=vc (env:=env) h
     by_cases hc:(kk == NameKind.free && env.scope.kind == .function && env.kindOf n == some .cell)=true
     . simp only[hc,if_true,q];exact ih
     . simp only[hc,Bool.false_eq_true,if_false,q];exact ih
end
section
variable {X:Cx}{G:Gr}{dl:List Slot}{a b elt iter tg:Expr}{ifs:List Expr}{pos px:Pos}{o:Out}{xt:Str}{N:List Str}{ix:List Nat}{sc:Scope}
variable {α:Type}{as:List α}{z f:α->Dt}{sl:α->List Slot}{keep:α->Bool}{g:TG}{wi:TI}
inductive yA (X:Cx)(N:List Str)(xt:Str)(sc:Scope)(dl:List Slot)(ix:List Nat)(as:List α)(sl:α->List Slot)(keep:α->Bool):List Expr->Prop
 | nil:(∀ a∈as,keep a=true)->yA X N xt sc dl ix as sl keep []
 | one {ce:Expr}:(∀ a∈as,∀ c C fp s H G',EB (k7 X N sc xt c C fp s H) G' (sl a ++ iX dl ix) ce (keep a))->yA X N xt sc dl ix as sl keep [ce]
theorem LD (h:yA X N xt sc dl ix as sl keep ifs):∀ c C fp s H,Nr (k7 X N sc xt c C fp s H) ifs (Ln X.K dl ix as sl keep):=fun c C fp s H=>by
 cases h with
 | nil h=>exact fun pins s' st H' Q I ⟨a,G',ha,Hf,S,k⟩=>wpAny_tests_nil ⟨H',I,by have:=k Hf H' (.refl S.sub);rw[h a ha] at this;exact this⟩
 | one h=>exact DO fun pins s' st H' Q I ⟨a,G',ha,q⟩=>h a ha c C fp s H G' pins s' st H' Q I q
noncomputable def T3 (X:Cx)(N:List Str)(xt:Str)(sc:Scope)(dl:List Slot)(ix:List Nat)(as:List α)(sl:α->List Slot)(keep:α->Bool)(f:α->Dt)(elt:Expr):Prop:=∀ a∈as,keep a=true->∀ c C fp s H G',EE (k7 X N sc xt c C fp s H) G' (sl a ++ iX dl ix) elt (f a)
theorem PM (h:T3 X N xt sc dl ix as sl keep f elt):∀ c C fp s H,PE (k7 X N sc xt c C fp s H) elt (Lo X.K dl ix as sl keep f):=fun c C fp s H pins s' st H' Q I ⟨a,G',ha,hk,q⟩=>h a ha hk c C fp s H G' pins s' st H' Q I q
theorem PN {tt:TT}{te:TE}(hc:X.calm=true)(B:yz X N xt ix sc)(hi:PI X tg iter wi)(hg:∀ c C fp s H,PG (k7 X N sc xt c C fp s H) tg g)(ht:∀ c C fp s H,Nr (k7 X N sc xt c C fp s H) ifs tt)(jM:∀ c C fp s H,PE (k7 X N sc xt c C fp s H) elt te)(hs:∀ z,foldedSetIterable iter X.env z=pure z):PE X (.ListComp elt [⟨tg,iter,ifs,0⟩] sc pos) (Lp wi 1 ix g tt te):=by
 intro pins s st H Q I h
 rw[eval_ListComp]
 refine wpAny_comprehension_free (use:=none) rfl hs (LB B I.ok) B.kind B.names (bX (hi pins s st H _ I h) fun v s1 h1=>bX h1 fun Oy s2 h2=>?_)
 obtain⟨it,fp,tj,J,H2,e,I2,T,F9,f2,hq⟩:=h2
 subst e
 refine HS (RR:=fun acc C=>compPost (model X.prog X.w) X.A X.xe none (EP X pins st Q) acc C) hc B hg ht jM I2 T F9 f2 hq ?_
 intro D C ws H' s' I' ⟨m,hn⟩ oY q
 exact⟨m,hn,fun h' Lh=>⟨.ref D,H',I'.turned (t':=s'.toks) (it:=C) (fun b o hb e=>(Lh.2 b hb).trans e) oY.1 oY.2.1 oY.2.2.2.1 oY.2.2.2.2.1 oY.2.2.2.2.2,rfl,q⟩⟩
theorem PQ (as:List α)(z f:α->Dt)(sl:α->List Slot)(keep:α->Bool)(hc:X.calm=true)(B:yz X N xt ix sc)(hi:PI X tg iter wi)(hg:∀ c C fp s H,PG (k7 X N sc xt c C fp s H) tg g)(u0:qv X G dl (as.map z) wi)(Hu:∀ a∈as,Pr X.K 1 g (z a) (sl a))(Hv:yA X N xt sc dl ix as sl keep ifs)(jM:T3 X N xt sc dl ix as sl keep f elt)(hn:as.length<=sizeLine)(hs:∀ z,foldedSetIterable iter X.env z=pure z:=by intro _;rfl):EO X G dl (.ListComp elt [⟨tg,iter,ifs,0⟩] sc pos) (.lst ((as.filter keep).map f)):=gh (PN hc B hi hg (LD Hv) (PM jM) hs) (rD u0 Hu hn)
theorem HU {px:Pos}(B:yz X N xt ix sc):∀ c C fp s H,PG (k7 X N sc xt c C fp s H) (.Name xt px) (pj 0):=fun c C fp s H=>by
 have hN:(k7 X N sc xt c C fp s H).N[0]?=some xt:=by
   show N[0]?=some xt
   rw[B.nm];rfl
 have Kj:(k7 X N sc xt c C fp s H).env.scope.names.lookup xt=some .cell:=vc B.hx
 exact bx (X:=k7 X N sc xt c C fp s H) B.nd hN (.inr Kj) (.inl (by show(xt == xt)=true;simp))
end
noncomputable def HV (sc AH:Scope)(XN N:List Str)(xt:Str)(ix:List Nat):Bool:=
 decide N.Nodup && (decide (N=xt::ix.map (fun j=>XN.getD j "")) && (decide (sc.kind=.function) && (decide (sc.names.filter (fun y=>y.2 == .cell)=[(xt,.cell)]) && (sc.names.all (fun y=>decide (y.2=.local->sc.names.lookup y.1=some .local)) && (decide (sc.names.lookup xt=some .cell) && (sc.names.all (fun y=>decide (y.2=.free->y.1≠xt)) &&
   (sc.names.all (fun y=>decide (y.2=.free->AH.names.lookup y.1=some .cell\/AH.names.lookup y.1=some .free)) && ix.all (fun j=>decide (sc.names.lookup (XN.getD j "")=some .free) && decide (j < XN.length)))))))))
theorem Nw {X:Cx}{sc AH:Scope}{XN N:List Str}{xt:Str}{ix:List Nat}(h:HV sc AH XN N xt ix=true)(e1:X.env.scope=AH:=by rfl)(e2:X.N=XN:=by rfl):yz X N xt ix sc:=by
 subst e1 e2
 unfold HV at h
 simp only[Bool.and_eq_true,List.all_eq_true,decide_eq_true_eq] at h
 obtain⟨h1,h2,h3,h4,h5,h6,h6',h7,h8⟩:=h
 refine⟨h1,h2,h3,h4,h5,h6,h6',h7,fun j hj=>?_⟩
 obtain⟨q1,q2⟩:=h8 j hj
 refine⟨X.N.getD j "",?_,q1⟩
 rw[List.getD_eq_getElem?_getD,List.getElem?_eq_getElem q2];rfl
noncomputable def mk:HO->Bool
 | .memo _=>true
 | .bA _ _=>true
 | _=>false
theorem Rd.ex {H:Hp}{a C dx:Addr}{fs:List (Str×V)}(h:Rd H a (.ins C dx fs)):∃ o,H a=some o/\mk o=false/\(∀ x,o≠.dK x)/\∀ H':Hp,H' a=some o->Rd H' a (.ins C dx fs):=by
 rcases h with h | ⟨o,h⟩ | ⟨tg,o,kvs,h,z⟩ | ⟨o,h⟩
 . exact⟨_,h,rfl,(fun _ z=>nomatch z),fun H' e=>.inl e⟩
 . exact⟨_,h,rfl,(fun _ z=>nomatch z),fun H' e=>.inr (.inl ⟨o,e⟩)⟩
 . cases z
 . exact⟨_,h,rfl,(fun _ z=>nomatch z),fun H' e=>.inr (.inr (.inr ⟨o,e⟩))⟩
theorem bY.Y9 {H:Hp}{a:Addr}{ls:jL}(h:bY H a ls):∃ o,H a=some o/\mk o=true:=by
 rcases h with h | ⟨ns,h⟩
 . exact⟨_,h,rfl⟩
 . exact⟨_,h,rfl⟩
theorem bY.inj {H:Hp}{a:Addr}{ls ls':jL}(h:bY H a ls)(h':bY H a ls'):ls=ls':=by
 rcases h with h | ⟨ns,h⟩ <;> rcases h' with h' | ⟨ns',h'⟩ <;> rw[h] at h' <;> cases h' <;> rfl
section
variable {K:W.Frag}{Hf H:Hp}{a:Addr}{ls:jL}{u:HO}
theorem LF (hm:bY Hf a ls){b:Addr}{o:HO}(h:Hf b=some o)(n:mk o=false):b≠a:=fun e=>by
 obtain⟨o',h1,h2⟩:=hm.Y9
 rw[e,h1] at h;cases h
 rw[h2] at n;cases n
theorem aY (hm:bY Hf a ls){b:Addr}{o:HO}(h:Hf b=some o)(n:mk o=false):(upd Hf a u) b=some o:=by rw[ag (LF hm h n)];exact h
theorem qx (hm:bY Hf a ls)(hu:mk u=true):Kp Hf (upd Hf a u):=⟨fun b o e kq=>aY hm e (by cases o <;> first | rfl | exact(show False from kq).elim),fun b e=>by
 by_cases q:b=a
 . rw[q,ak]
   cases u <;> first | trivial | cases hu
 . rw[ag q];exact e,fun b x e=>aY hm e rfl⟩
noncomputable def lW (ls:jL)(u:HO):Prop:=u=.memo ls\/∃ ns,u=.bA ls ns
theorem lW.mk {ls:jL}{u:HO}(h:lW ls u):mk u=true:=by rcases h with rfl | ⟨ns,rfl⟩ <;> rfl
theorem Ft (hm:bY Hf a ls)(hu:lW ls u){b:Addr}{ls':jL}(h:bY Hf b ls'):bY (upd Hf a u) b ls':=by
 by_cases e:b=a
 . subst e
   rw[h.inj hm]
   rcases hu with rfl | ⟨ns,rfl⟩
   . exact .inl ak
   . exact .inr ⟨ns,ak⟩
 . rcases h with h | ⟨ns,h⟩
   . exact .inl (by rw[ag e];exact h)
   . exact .inr ⟨ns,by rw[ag e];exact h⟩
theorem mq (hm:bY Hf a ls)(hu:lW ls u){p:Addr}{f:Nat->List (Key×FD)}{n:Nat}(h:Known Hf p f n):Known (upd Hf a u) p f n:=fun i hi=>let ⟨q,o,kvs,h1,h2⟩:=h i hi;⟨q,o,kvs,aY hm h1 rfl,h2.kp (qx hm hu.mk)⟩
theorem PR (hm:bY Hf a ls){b:Addr}{vs:List V}(s:uC K Hf b vs):uC K (upd Hf a u) b vs:=by
 rcases s with s | s
 . exact .inl (aY hm s rfl)
 . exact .inr s
theorem HW (hm:bY Hf a ls){b C dx:Addr}{fs:List (Str×V)}(s:Rd Hf b (.ins C dx fs)):Rd (upd Hf a u) b (.ins C dx fs):=by
 rcases s with s | ⟨o,s⟩ | ⟨_,_,_,_,s⟩ | ⟨o,s⟩
 . exact .inl (aY hm s rfl)
 . exact .inr (.inl ⟨o,aY hm s rfl⟩)
 . cases s
 . exact .inr (.inr (.inr ⟨o,aY hm s rfl⟩))
theorem PU (hm:bY Hf a ls){b:Addr}{vs:List V}(s:mh K Hf b vs):mh K (upd Hf a u) b vs:=by
 rcases s with(s | ⟨o,s⟩ | ⟨_,_,_,_,s⟩ | ⟨o,s⟩) | s
 . exact .inl (.inl (aY hm s rfl))
 . exact .inl (.inr (.inl ⟨o,aY hm s rfl⟩))
 . cases s
 . exact .inl (.inr (.inr (.inr ⟨o,aY hm s rfl⟩)))
 . exact .inr s
mutual
noncomputable def rH (a:Addr):Dt->Bool
 | .tup ds=>HX a ds
 | .lst ds=>HX a ds
 | .eB kds=>yB a kds
 | .pJ kds=>yB a kds
 | .dn kds=>yB a kds
 | .obj _ fs=>j5 a fs
 | .BR _ fs=>j5 a fs
 | .memo b _ _ _=>decide (b≠a)
 | .uO _ _ _ _ _=>false
 | _=>true
noncomputable def HX (a:Addr):List Dt->Bool
 | []=>true
 | d::r=>rH a d && HX a r
noncomputable def yB (a:Addr):List (Key×Dt)->Bool
 | []=>true
 | (_,d)::r=>rH a d && yB a r
noncomputable def j5 (a:Addr):List (Str×Dt)->Bool
 | []=>true
 | (_,d)::r=>rH a d && j5 a r
end
mutual
theorem iw (hm:bY Hf a ls)(hu:lW ls u):∀ {v:V} {d:Dt},rH a d=true->Rep K Hf v d->Rep K (upd Hf a u) v d
 | _,_,_,.cP=>.cP
 | _,_,_,.bl b=>.bl b
 | _,_,_,.int i=>.int i
 | _,_,_,.str x=>.str x
 | _,.tup ds,h,.tup s r=>.tup (PR hm s) (rJ hm hu (by rw[rH] at h;exact h) r)
 | _,.lst ds,h,.lst s r=>.lst (aY hm s rfl) (rJ hm hu (by rw[rH] at h;exact h) r)
 | _,_,_,.oh s=>.oh (PU hm s)
 | _,.eB _,h,.eB s r=>.eB (aY hm s rfl) (oB hm hu (by rw[rH] at h;exact h) r)
 | _,.obj _ _,h,.obj s r=>.obj (HW hm s) (i6 hm hu (by rw[rH] at h;exact h) r)
 | _,_,_,.ty n=>.ty n
 | _,_,_,.cls C=>.cls C
 | _,_,_,.xo s r=>.xo (aY hm s rfl) r
 | _,.pJ _,h,.pJ s r=>.pJ (aY hm s rfl) (oB hm hu (by rw[rH] at h;exact h) r)
 | _,.BR _ _,h,.BR s q g r=>.BR (aY hm s rfl) q (aY hm g rfl) (i6 hm hu (by rw[rH] at h;exact h) r)
 | _,.dn _,h,.dn s r=>.dn (aY hm s rfl) (oB hm hu (by rw[rH] at h;exact h) r)
 | _,.memo b _ _ _,h,.memo h1 h2 h3 h4=>.memo h1 (by rw[rH] at h;rw[ag (of_decide_eq_true h)];exact h2) (h3.imp id fun z=>aY hm z rfl) (mq hm hu h4)
 | _,_,_,.dH h1 h2 h3 h4=>.dH h1 (Ft hm hu h2) (h3.imp id fun z=>aY hm z rfl) (mq hm hu h4)
 | _,_,_,.tM h=>.tM fun j p f z=>mq hm hu (h j p f z)
 | _,.uO _ _ _ _ _,h,.uO _ _ _=>by rw[rH] at h;cases h
 | _,_,_,.ip s=>.ip (s.st (qx hm hu.mk).st)
 | _,_,_,.lz s=>.lz (aY hm s rfl)
theorem rJ (hm:bY Hf a ls)(hu:lW ls u):∀ {v:List V} {d:List Dt},HX a d=true->br K Hf v d->br K (upd Hf a u) v d
 | _,_,_,.nil=>.nil
 | _,d::ds,h,.cons r t=>by
   rw[HX,Bool.and_eq_true] at h
   exact .cons (iw hm hu h.1 r) (rJ hm hu h.2 t)
theorem oB (hm:bY Hf a ls)(hu:lW ls u):∀ {v:List (Key×V)} {d:List (Key×Dt)},yB a d=true->cI K Hf v d->cI K (upd Hf a u) v d
 | _,_,_,.nil=>.nil
 | _,(k,d)::ds,h,.cons r t=>by
   rw[yB,Bool.and_eq_true] at h
   exact .cons (iw hm hu h.1 r) (oB hm hu h.2 t)
theorem i6 (hm:bY Hf a ls)(hu:lW ls u):∀ {v:List (Str×V)} {d:List (Str×Dt)},j5 a d=true->aX K Hf v d->aX K (upd Hf a u) v d
 | _,_,_,.nil=>.nil
 | _,(k,d)::ds,h,.cons r t=>by
   rw[j5,Bool.and_eq_true] at h
   exact .cons (iw hm hu h.1 r) (i6 hm hu h.2 t)
end
noncomputable def i7 (Hf H:Hp):Hp:=fun b=>match H b with
 | some (.kd tg o kvs)=>some (.kd tg o kvs)
 | some (.kx o u)=>some (.kx o u)
 | some (.tup xs)=>some (.tup xs)
 | _=>Hf b
theorem yC {b:Addr}{u:HO}(h:H b=some u)(k:Kept u):i7 Hf H b=some u:=by
 unfold i7;rw[h]
 cases u <;> first | rfl | exact(show False from k).elim
theorem DY {b:Addr}{tg:Option (Addr×Nat)}{o:Obj}{kvs:List (Key×V)}(h:H b=some (.kd tg o kvs)):i7 Hf H b=some (.kd tg o kvs):=by unfold i7;rw[h]
theorem oC (b:Addr):(∃ u,H b=some u/\Kept u/\i7 Hf H b=some u)\/i7 Hf H b=Hf b:=by
 unfold i7
 cases h:H b with
 | none=>exact .inr rfl
 | some u=>cases u <;> first | exact .inr rfl | exact .inl ⟨_,rfl,trivial,rfl⟩
theorem fR (s:aE Hf H):aE Hf (i7 Hf H):=fun b u e=>by
 rcases oC (Hf:=Hf) (H:=H) b with⟨u',h1,_,h3⟩ | h
 . rw[s _ _ e] at h1;cases h1;exact h3
 . rw[h];exact e
theorem nJ (s:aE Hf H):aE (i7 Hf H) H:=fun b u e=>by
 rcases oC (Hf:=Hf) (H:=H) b with⟨u',h1,_,h3⟩ | h
 . rw[h3] at e;cases e;exact h1
 . rw[h] at e;exact s _ _ e
theorem oE (s:aE Hf H):bb Hf H (i7 Hf H) H:=⟨aE.refl _,fR s,nJ s,fun b u e=>by
 rcases oC (Hf:=Hf) (H:=H) b with⟨u',h1,h2,h3⟩ | h
 . rw[h3] at e;cases e;exact .inr (.inr h2)
 . rw[h] at e;exact .inl ⟨u,e⟩⟩
end
noncomputable def VB:FD->Dt
 | .int i=>.int i
 | .eB kds=>.dn (dI kds)
 | d=>.ip d
noncomputable def m9 (fd:List (Key×FD)):List (Key×Dt):=fd.map fun kd=>(kd.1,VB kd.2)
theorem xA {K:W.Frag}{H:Hp}:∀ (kds:List (Key×Int)),cI K H (kds.map fun kd=>(kd.1,V.int kd.2)) (dI kds)
 | []=>.nil
 | (k,i)::r=>.cons (.int i) (xA r)
theorem HY {K:W.Frag}{H:Hp}:∀ {v:V} {d:FD},Fz H v d->Rep K H v (VB d)
 | _,_,.int i=>.int i
 | _,_,.eB e=>.dn e (xA _)
 | _,_,.lst e=>.ip (.lst e)
 | _,_,.tup e=>.ip (.tup e)
 | _,_,.obj e f=>.ip (.obj e f)
theorem tT {K:W.Frag}{H:Hp}:∀ {kvs:List (Key×V)} {fd:List (Key×FD)},qU H kvs fd->cI K H kvs (m9 fd)
 | _,_,.nil=>.nil
 | _,_,.cons h t=>.cons (HY h) (tT t)
theorem Nx {K:W.Frag}{H:Hp}:∀ {v:V} {d:FD},Rep K H v (VB d)->Fz H v d
 | _,.int i,r=>by cases r;exact .int i
 | _,.lst ns,r=>by cases r with | ip h=>exact h
 | _,.tup K ns,r=>by cases r with | ip h=>exact h
 | _,.obj C fs,r=>by cases r with | ip h=>exact h
 | _,.eB kds,r=>by
   cases r with
   | @dn a tg ob kvs _ h r=>
     rw[Lz r] at h
     exact .eB h
theorem pP {K:W.Frag}{H:Hp}:∀ {kvs:List (Key×V)} {fd:List (Key×FD)},cI K H kvs (m9 fd)->qU H kvs fd
 | _,[],.nil=>.nil
 | _,(k,d)::fd,.cons h t=>.cons (Nx h) (pP t)
theorem PV {H H':Hp}(k:∀ b u,H b=some u->Kept u->H' b=some u){v:V}{d:FD}(h:Fz H v d):Fz H' v d:=h.st k
theorem fS {H H':Hp}(k:∀ b u,H b=some u->Kept u->H' b=some u):∀ {kvs:List (Key×V)} {kds:List (Key×FD)},qU H kvs kds->qU H' kvs kds
 | _,_,.nil=>.nil
 | _,_,.cons h t=>.cons (PV k h) (fS k t)
section
variable {X:Cx}{G:Gr}{dl:List Slot}{a b e i:Expr}{pos p:Pos}{ls:jL}{j n:Nat}{l:Addr}{f:Nat->List (Key×FD)}{ns:List Nat}
theorem LG:Rv X (fun x y H Q=>∃ (p:Addr) (k:Nat) (q:Addr) (o:Obj) (kvs:List (Key×V)),x=.ref p/\y=.int (k:Int)/\H q=some (.kd (some (p,k)) o kvs)/\k < 10000/\Q (.ref q) H):=by
 intro value slice pins s σ H x y v u Q I rx ry h hs
 obtain⟨p,k,q,o,kvs,rfl,rfl,hq,hk,kk⟩:=h
 cases rx
 obtain⟨t,rfl⟩:=ry
 obtain⟨_,_,hm⟩:=(show aJ X.prog X.w H s.heap q (.kd (some (p,k)) o kvs) from I.a5 q _ hq)
 obtain⟨_,aC,c,e1,e2⟩:=hm p k rfl
 have hn:=ly
 exact item_listR (items:=aC.toArray) ⟨_,e1,rfl,c,rfl⟩ (by omega) (by omega) (by rw[Int.toNat_natCast];simpa using e2) ⟨.ref q,H,I,rfl,kk⟩ hs
theorem vd {k:Nat}(hb:EE X G dl b (.memo l ls j n))(hi:EE X G dl i (.int (k:Int)))(hf:(ls.map (·.2))[j]?=some f)(hk:k < n)(hn:n<=1000)(hs:jZ i:=by intro _ _;rfl):EE X G dl (.Subscript b i pos) (.dn (m9 (f k))):=
 gh (uJ LG hb hi hs) fun st H Q ⟨Hf,S,kk⟩=>⟨Hf,S,fun v Hf1 H1 g1 r1=>⟨Hf1,S.grow g1,fun w bO H2 g2 r2=>by
   cases r2
   cases r1 with
   | @memo _ p _ _ _ f' h1 h2 h3 h4=>
     have e:f'=f:=by
       rw[List.getElem?_map,h1] at hf
       exact Option.some.inj hf
     subst e
     obtain⟨q,o,kvs,q1,q2⟩:=h4 k hk
     exact⟨p,k,q,o,kvs,rfl,rfl,g2.big _ _ (g1.sub _ _ q1),by omega,kk _ bO H2 (g1.trans g2) (.dn (g2.bC _ _ q1) (tT (q2.kp (.of g2.bC))))⟩⟩⟩
theorem HZ:Rv X (fun x y H Q=>∃ (a:Addr) (ls:jL) (ns:List Nat) (j:Nat) (p:Addr) (f:Nat->List (Key×FD)) (N:Nat),x=.ref p/\y=.int (-1)/\H a=some (.bA ls ns)/\ls[j]?=some (p,f)/\ns[j]?=some N/\0 < N/\∀ q o kvs,H q=some (.kd (some (p,N - 1)) o kvs)->qU H kvs (f (N - 1))->Q (.ref q) H):=by
 intro value slice pins s σ H x y v u Q I rx ry h hs
 obtain⟨a,ls,ns,j,p,f,N,rfl,rfl,ha,hj,hN,h0,kk⟩:=h
 cases rx
 obtain⟨t,rfl⟩:=ry
 obtain⟨_,_,_,_,_,h5,h6⟩:=(show aJ X.prog X.w H s.heap a (.bA ls ns) from I.a5 a _ ha)
 obtain⟨aC,c,e1,e2,e3⟩:=h6 j p f N hj hN
 obtain⟨q,o,kvs,q1,q2,q3⟩:=e3 (N - 1) (by omega)
 have hn:=ly
 have hN':=h5 N (List.mem_of_getElem? hN)
 have hl:Heap.IsList s.heap p aC.toArray:=⟨_,e1,rfl,c,rfl⟩
 exact subscriptTail_builtinR (x:=.ref q) hl.typeIs slot_list_getitem.lookup
     (wpAny_getItem_list_neg (Q:=fun r s'=>r=.ref q/\EP X pins σ Q r s') hl (by omega) (by rw[List.size_toArray] <;> omega) (by omega) (by rw[List.size_toArray,e2,show((-1:Int)+(N:Nat)).toNat=N - 1 by omega];simpa using q1) ⟨rfl,.ref q,H,I,rfl,kk q o kvs q2 q3⟩) hs
theorem AW {N:Nat}(hx:G.Hf l=some (.bA ls ns))(hb:EE X G dl b (.dH l ls j n))(hi:EE X G dl i (.int (-1)))(hf:(ls.map (·.2))[j]?=some f)(hN:ns[j]?=some N)(h0:0 < N)(hs:jZ i:=by intro _ _;rfl):EE X G dl (.Subscript b i pos) (.dn (m9 (f (N - 1)))):=
 gh (uJ HZ hb hi hs) fun st H Q ⟨Hf,S,kk⟩=>⟨Hf,S,fun v Hf1 H1 g1 r1=>⟨Hf1,S.grow g1,fun w bO H2 g2 r2=>by
   cases r2
   cases r1 with
   | @dH _ p _ _ _ f' h1 h2 h3 h4=>
     have e:f'=f:=by
       rw[List.getElem?_map,h1] at hf
       exact Option.some.inj hf
     subst e
     have g:=g1.trans g2
     refine⟨l,ls,ns,j,p,f',N,rfl,rfl,g.sub _ _ (g.bC _ _ (S.gr.bC _ _ hx)),h1,hN,h0,fun q o kvs q1 q2=>?_⟩
     have ga:=oE g2.sub
     exact kk _ _ H2 (g.trans ga) (.dn (DY q1) (tT (fS (fun b u e kq=>yC e kq) q2)))⟩⟩
theorem Fu:jU X (.builtin "len") (fun xs H Q=>∃ (a:Addr) (ls:jL) (ns:List Nat) (j:Nat) (p:Addr) (f:Nat->List (Key×FD)) (N:Nat),xs=[.ref p]/\H a=some (.bA ls ns)/\ls[j]?=some (p,f)/\ns[j]?=some N/\Q (.int (N:Nat)) H):=by
 intro pins s σ H xs us Q I r h
 obtain⟨a,ls,ns,j,p,f,N,rfl,ha,hj,hN,q⟩:=h
 obtain⟨u,rfl,rx⟩:=vals1 r
 cases rx
 obtain⟨_,_,_,_,_,h5,h6⟩:=(show aJ X.prog X.w H s.heap a (.bA ls ns) from I.a5 a _ ha)
 obtain⟨aC,c,e1,e2,e3⟩:=h6 j p f N hj hN
 have hn:=ly
 have hN':=h5 N (List.mem_of_getElem? hN)
 have hl:Heap.IsList s.heap p aC.toArray:=⟨_,e1,rfl,c,rfl⟩
 exact Calls.call_len_list hl (by simp only[List.size_toArray] <;> omega) ⟨.int (N:Nat),H,I.tok _,⟨s.toks+1,by rw[List.size_toArray,e2]⟩,q⟩
theorem DZ {N:Nat}(hm:X.mg "len"=none)(hx:G.Hf l=some (.bA ls ns))(hb:EE X G dl b (.dH l ls j n))(hN:ns[j]?=some N)(hg:Gl X "len":=by rfl)(he:starEach [b] X.env=[(false,eval b X.env)]:=by rfl):EE X G dl (.Call (.Name "len" p) [b] [] pos) (.int (N:Nat)):=
 gh (fg Fu hg hm PySem.boot_len (ae hb aj he) (he:=he)) fun st H Q ⟨Hf,S,kk⟩=>⟨Hf,S,fun vs Hf1 H1 g1 r1=>by
   cases r1 with
   | cons r t=>cases t;cases r with
     | @dH _ p _ _ _ f' h1 h2 h3 h4=>exact⟨l,ls,ns,j,p,f',N,rfl,g1.sub _ _ (g1.bC _ _ (S.gr.bC _ _ hx)),h1,hN,kk _ Hf1 H1 g1 (.int _)⟩⟩
theorem jD {d:Dt}{k:Str}{kds:List (Key×Dt)}(hu:X.A.units+1 < cLine)(ho:EE X G dl b (.dn kds))(hi:EE X G dl i (.str k))(h:lF kds (.inr k)=some d)(hs:K2 i):EE X G dl (.Subscript b i pos) d:=
 gh (DB hu ho hi hs) fun st H Q ⟨Hf,S,kk⟩=>⟨Hf,S,fun v Hf1 H1 g1 r1=>⟨Hf1,S.grow g1,fun w bO H2 g2 r2=>by
   cases r2
   cases r1 with
   | @dn q tg ob kvs _ hq rp=>
     obtain⟨y,z1,z2⟩:=rp.val h
     have e:sI H2 q (kV (.inr k)) (nE kvs (.inr k)):=.inl ⟨kvs,.inr k,.inr (.inr (.inl ⟨tg,ob,kvs,g2.big _ _ (g1.sub _ _ hq),rfl⟩)),rfl,rfl⟩
     rw[z1] at e
     exact⟨q,y,rfl,e,kk y bO H2 (g1.trans g2) (z2.mono g2.bC)⟩⟩⟩
theorem Ny {kds:List (Key×Dt)}(h:EO X G dl e (.eB kds)):EE X G dl e (.dn kds):=by
 intro pins s st H Q I ⟨Hf,S,kk⟩
 refine bX (h pins s st H (fun v H'=>∃ p aH,v=.ref p/\bb Hf H aH H'/\H p=none/\aH p=none/\gC X.K aH H' p (.eB kds)) I ⟨Hf,S,fun p aH H' g n n' r=>⟨p,aH,rfl,g,n,n',r⟩⟩) fun u s1 ⟨v,H',I1,rv,q,aH,ev,g,n,n',kvs,hq,rp⟩=>?_
 subst ev
 obtain⟨hz,lo,vs,kv,ob,es,ep,ho,hr⟩:=(show aJ X.prog X.w H' s1.heap q (.dK kvs) from I1.a5 q _ hq)
 have I2:L2.Inv X pins st (upd H' q (.kd none ob kvs)) s1:=ml (h':=s1.heap) (t':=s1.toks) I1 (by rw[hq];trivial) ⟨rfl,fun _ _=>rfl⟩ ⟨ob,ho⟩ ⟨ho,⟨hz,lo,vs,kv,ob,es,ep,ho,hr⟩,fun p i z=>by cases z⟩
 have sm:aE aH (upd aH q (.kd none ob kvs)):=bI n'
 refine⟨.ref q,_,I2,rv,kk _ (upd aH q (.kd none ob kvs)) _ ⟨fun b o hb=>?_,g.bC.trans sm,cS g.sub,fun b o hb=>?_⟩ (.dn ak (rp.mono sm))⟩
 . rw[ag (aw hb n)];exact g.big _ _ hb
 . by_cases e:b=q
   . subst e;exact .inr (.inl n)
   . rw[ag e] at hb;exact g.new b o hb
theorem Cy:Rw X "dict.values" (fun x xs H Q=>∃ (d:Addr) (kvs:List (Key×V)),x=.ref d/\xs=[]/\Rd H d (.dK kvs)/\∀ l,H l=none->Q (.ref l) (upd H l (.ext fun h=>h.IsValuesView l d))):=by
 intro pins s σ H x xs v us Q I rx rv ⟨d,kvs,e1,e2,hq,q⟩
 subst e1 e2
 cases rx
 cases rv
 obtain⟨hz,lo,vs,kv,hD⟩:=sq I.a5 hq
 refine call_meetsIn PySem.F.slot_dict_values hD.typeIs PySem.F.entry_dict_values (PySem.F.args_dict_values_1 _) (meets_dict_values (cH X.prog X.w) d lo) ⟨⟨vs,hD⟩,?_⟩
 refine⟨.ref s.heap.objs.size,_,I.laid (a:=s.heap.objs.size) (t':=s.toks) (o:=.ext fun h=>h.IsValuesView s.heap.objs.size d) (fun b o e=>Heap.get?_push_of_some _ e) (Nat.le_refl _) ?_,rfl,q _ (I.a5.fresh (Nat.le_refl _))⟩
 exact⟨⟨_,Heap.get?_push_size _ rfl,rfl,rfl⟩,⟨_,Heap.get?_push_size _ rfl⟩,fun h1 h2 ⟨ox,z1,z2⟩ kk=>⟨ox,kk _ z1,z2⟩⟩
theorem Ia:∀ {kds:List (Key×Int)} {vs:List (Key×Value)} {i:Nat} {k:Key} {v:Value},KV (kds.map fun kd=>(kd.1,V.int kd.2)) vs->vs[i]?=some (k,v)->∃ t,v=.int ((kds.map (·.2)).getD i 0) t
 | [],_,_,_,_,.nil,e=>by simp at e
 | (k0,z)::kds,_,0,_,_,.cons r _,e=>by
   simp at e
   subst e
   obtain⟨_,t,q⟩:=r
   exact⟨t,q⟩
 | (k0,z)::kds,_,i+1,_,_,.cons _ t,e=>by
   obtain⟨t',q⟩:=Ia (i:=i) t (by simpa using e)
   exact⟨t',by simpa using q⟩
theorem Fv (hc:X.calm=true):jU X (.builtin "sum") (fun xs H Q=>∃ (v d:Addr) (φ:Heap->Prop) (kds:List (Key×Int)),xs=[.ref v]/\H v=some (.ext φ)/\(∀ h,φ h->h.IsValuesView v d)/\Rd H d (.dK (kds.map fun kd=>(kd.1,V.int kd.2)))/\Q (.int (kds.map (·.2)).sum) H):=by
 intro pins s σ H xs us Q I r h
 obtain⟨v,d,φ,kds,rfl,hv,hφ,hq,q⟩:=h
 obtain⟨u,rfl,rx⟩:=vals1 r
 cases rx
 obtain⟨hz,lo,vs,kv,o,es,ep,ho,hr⟩:=sq I.a5 hq
 have hvv:=hφ _ (I.a5 v _ hv).1
 have hl:=Cs kv
 rw[List.length_map] at hl
 have hA:X.A.handled=none:=I.ok.hd hc
 refine call_sum_walkAnyS ?_
 have Ks:=PySem.W.kdl_values (prog:=X.prog) (w:=X.w) (knd:=cH X.prog X.w) (r:=v) (d:=d) (kvs:=vs) (ep:=ep)
 have a5:s.heap.IsValuesView v d/\s.heap.DictAt (cH X.prog X.w) d vs ep:=⟨hvv,o,es,ho,hr⟩
 obtain⟨oI,St,hit,W,st⟩:=Ks.iter X.A.in1 s hA a5
 refine hit _ _ ⟨s.heap.objs.size,_,_,_,vs.length,_,_,fun i=>(kds.map (·.2)).getD i 0,rfl,W.toS,st,fun b hb=>?_,fun i w ⟨k,hk⟩=>Ia kv hk,fun s' t' hm=>?_⟩
 . show b < (s.heap.push oI).objs.size
   rw[Heap.size_push]
   rcases List.mem_cons.mp hb with e | hb
   . rw[e];exact Nat.lt_succ_self _
   . rw[List.mem_singleton.mp hb];exact Nat.lt_succ_of_lt (Ks.there _ a5).2
 . have hk:∀ b o,s.heap.get? b=some o->s'.heap.get? b=some o:=fun b o e=>
     hm.heap b o (fun hI=>absurd (Heap.lt_size e) (by rw[List.mem_singleton.mp hI];exact Nat.lt_irrefl _)) (Heap.get?_push_of_some _ e)
   have es:preSum (fun i=>(kds.map (·.2)).getD i 0) vs.length=(kds.map (·.2)).sum:=by
     rw[rE _ _ (by rw[List.length_map];omega),List.take_of_length_le (by rw[List.length_map];omega)]
   rw[es,Moved.eq_with hm]
   exact⟨.int _,H,I.kept (t':=s'.toks) hk,⟨t',rfl⟩,q⟩
noncomputable def intsOf (d:Dt)(kds:List (Key×Int)):Prop:=d=.dn (dI kds)\/d=.eB (dI kds)
theorem LH {kds:List (Key×Int)}{d:Dt}{apos bW:Pos}(hm:X.mg "sum"=none)(hc:X.calm=true)(ha:EE X G dl a d)(hd:intsOf d kds)(hg:Gl X "sum":=by rfl)(jy:attributeBase a "values" X.env (eval a X.env)=eval a X.env:=by rfl)(jz:(apos.endLine == bW.line)=true:=by rfl)(he:starEach [.Call (.Attribute a "values" apos) [] [] bW] X.env=[(false,eval (.Call (.Attribute a "values" apos) [] [] bW) X.env)]:=by rfl):EE X G dl (.Call (.Name "sum" p) [.Call (.Attribute a "values" apos) [] [] bW] [] pos) (.int (kds.map (·.2)).sum):=
 gh (fg (Fv hc) hg hm boot_sum (lb (GQ PySem.F.plainAttrs_dict PySem.F.slot_dict_values PySem.F.type_dict_values Cy ha jy jz) nB he) (he:=he)) fun st H Q ⟨Hf,S,k⟩=>⟨Hf,S,fun v Hf1 H1 g1 r1=>by
   have key:∃ q,v=.ref q/\Rd H1 q (.dK (kds.map fun kd=>(kd.1,V.int kd.2)))/\Vj X.K "dict" v H1:=by
     rcases hd with rfl | rfl
     . cases r1 with
       | @dn q tg ob kvs _ hq rp=>
         rw[Lz rp] at hq
         exact⟨q,rfl,.inr (.inr (.inl ⟨tg,ob,_,g1.sub _ _ hq,rfl⟩)),.inr (.inr (.inl ⟨rfl,.inr (.inr ⟨tg,ob,_,g1.sub _ _ hq⟩)⟩))⟩
     . cases r1 with
       | @eB q kvs _ hq rp=>
         rw[Lz rp] at hq
         exact⟨q,rfl,.inl (g1.sub _ _ hq),.inr (.inr (.inl ⟨rfl,.inl ⟨_,g1.sub _ _ hq⟩⟩))⟩
   obtain⟨q,rfl,hq,ty⟩:=key
   refine⟨ty,q,_,rfl,rfl,hq,fun v hv=>⟨v,q,_,kds,rfl,ak,fun h x=>x,?_,k _ Hf1 _ (g1.trans (.dX g1.sub hv)) (.int _)⟩⟩
   exact fQ (bI hv) hq⟩
variable {pins:List (Addr×Obj)}{σ:L2.St}{H:Hp}{s:Shared}
theorem Inv.flip {u:HO}(I:L2.Inv X pins σ H s)(hm:bY H l ls)(hu:lW ls u)(new:aJ X.prog X.w (upd H l u) s.heap l u):L2.Inv X pins σ (upd H l u) s:=by
 refine I.un (h':=s.heap) (t':=s.toks) ⟨fun b o e _ _ _=>e,fun b o e _ _ _=>⟨o.slots,e⟩,fun b o e n _=>?_,fun b o e _=>⟨o,e⟩,fun b xs e=>aY hm e rfl,fun b o u e=>aY hm e rfl,fun b ps e=>⟨#[],by rw[aY hm e rfl];simp⟩⟩ fun b o e=>?_
 . rw[ag (fun z=>by obtain⟨o',h1,_⟩:=hm.Y9;rw[z,h1] at n;cases n)];exact n
 . by_cases eb:b=l
   . subst eb;rw[ak] at e;cases e;exact new
   . rw[ag eb] at e
     exact(I.a5 b o e).xS (fun _ _ _ q=>q) (fun c q=>aY hm q rfl) (fun c xs q=>aY hm q rfl) (qx hm hu.mk)
theorem Inv.exact(I:L2.Inv X pins σ H s)(hm:H l=some (.memo ls)):∃ n,0 < n/\n<=10000/\L2.Inv X pins σ (upd H l (.bA ls (List.replicate ls.length n))) s:=by
 obtain⟨ho,n,hn,q⟩:=(show aJ X.prog X.w H s.heap l (.memo ls) from I.a5 l _ hm)
 have hl:0 < ls.length:=by
   obtain⟨⟨f,hf⟩,_⟩:=q
   exact(List.getElem?_eq_some_iff.mp hf).1
 have h5:n<=10000:=q.2.2.2.2.1 n (by rw[List.mem_replicate];exact⟨by omega,rfl⟩)
 exact⟨n,hn,h5,Inv.flip I (.inl hm) (.inr ⟨_,rfl⟩) ⟨ho,q.kp (qx (.inl hm) rfl) fun _ _ _ e=>e⟩⟩
theorem Inv.pack {n:Nat}(I:L2.Inv X pins σ H s)(hm:H l=some (.bA ls (List.replicate ls.length n)))(hn:0 < n):L2.Inv X pins σ (upd H l (.memo ls)) s:=by
 obtain⟨ho,q⟩:=(show aJ X.prog X.w H s.heap l (.bA ls _) from I.a5 l _ hm)
 exact Inv.flip I (.inr ⟨_,hm⟩) (.inl rfl) ⟨ho,n,hn,q.kp (qx (.inr ⟨_,hm⟩) rfl) fun _ _ _ e=>e⟩
theorem pQ:Rw X "list.append" (fun x vs H Q=>∃ (a:Addr) (ls:jL) (ns:List Nat) (j:Nat) (p:Addr) (f:Nat->List (Key×FD)) (N:Nat) (q:Addr) (kvs:List (Key×V)),x=.ref p/\vs=[.ref q]/\H a=some (.bA ls ns)/\ls[j]?=some (p,f)/\ns[j]?=some N/\N < 9000/\H q=some (.dK kvs)/\qU H kvs (f N)/\∀ o,Q .cP (upd (upd H a (.bA ls (ns.set j (N+1)))) q (.kd (some (p,N)) o kvs))):=by
 intro pins s σ H x vs v us Q I rx rv ⟨a,ls,ns,j,p,f,N,q,kvs,e1,e2,ha,hj,hN,hN9,hq,hfz,kk⟩
 subst e1 e2
 cases (show v=Value.ref p from rx)
 obtain⟨u,rfl,ru⟩:=vals1 rv
 cases (show u=Value.ref q from ru)
 obtain⟨⟨oa,hoa⟩,⟨f0,h1⟩,h2,h3,h4,h5,h6⟩:=(show aJ X.prog X.w H s.heap a (.bA ls ns) from I.a5 a _ ha)
 obtain⟨aC,c,e,hlen,hit⟩:=h6 j p f N hj hN
 obtain⟨hz,lo,vs,kv,oq,es,ep,hoq,hr⟩:=(show aJ X.prog X.w H s.heap q (.dK kvs) from I.a5 q _ hq)
 have Gg:lu (H p):=by
   rcases h3 j p f hj with z | z
   . rw[z,ha];trivial
   . rw[z];trivial
 have hpq:p≠q:=fun z=>by rw[z,hq] at Gg;exact Gg
 have haq:a≠q:=fun z=>by rw[z,hq] at ha;cases ha
 have YR:=ly
 refine call_meets PySem.F.slot_list_append ⟨_,e,rfl⟩ PySem.F.entry_list_append (PySem.F.args_list_append_2 _ _) (PySem.list_append p aC.toArray c (.ref q) (by rw[List.size_toArray];exact Nat.le_trans (show aC.length<=10000 by omega) (by decide))) ⟨e,?_⟩
 have e':=PySem.IsL.update e (fun x=>x.push (Value.ref q))
 rw[show aC.toArray.push (Value.ref q)=(aC ++ [Value.ref q]).toArray by simp] at e'
 generalize hh':s.heap.update p (Obj.mapSeq fun x=>x.push (Value.ref q))=h' at e'
 have Cz:∀ b o,b≠p->s.heap.get? b=some o->h'.get? b=some o:=fun b o hb z=>by rw[<- hh'];exact(Heap.get?_update_other s.heap _ (Ne.symm hb)).trans z
 let H':Hp:=upd (upd H a (.bA ls (ns.set j (N+1)))) q (.kd (some (p,N)) oq kvs)
 have sM:∀ b o,H b=some o->b≠a->b≠q->H' b=some o:=fun b o z n1 n2=>by show(upd (upd H a _) q _) b=_;rw[ag n2,ag n1];exact z
 have nk:∀ b o,H b=some o->mk o=false->b≠a:=fun b o z n z'=>by rw[z',ha] at z;cases z;cases n
 have nq:∀ b o,H b=some o->(∀ x,o≠.dK x)->b≠q:=fun b o z n z'=>by rw[z',hq] at z;exact n _ (Option.some.inj z).symm
 have kp:Kp H H':=⟨fun b o z kq=>sM b _ z (nk b _ z (by cases o <;> first | rfl | exact(show False from kq).elim)) (nq b _ z fun x y=>by subst y;exact kq),fun b z=>by
   by_cases ba:b=a
   . rw[ba];show lu ((upd (upd H a _) q _) a);rw[ag haq,ak];trivial
   . have bq:b≠q:=fun z'=>by rw[z',hq] at z;exact z
     show lu ((upd (upd H a _) q _) b);rw[ag bq,ag ba];exact z,fun b x z=>sM b _ z (nk b _ z rfl) (nq b _ z fun x y=>by cases y)⟩
 have hl:∀ p' i c',lu (H p')->RP s.heap p' i c'->RP h' p' i c':=fun p' i c' _ ⟨its',n',z1,z2⟩=>by
   by_cases pp:p'=p
   . subst pp
     rw[e] at z1
     have z3:its'=aC:=by
       have:=congrArg (fun o:Option Obj=>o.map (·.data)) z1
       simp at this
       exact this.1.symm
     subst z3
     exact⟨_,_,e',by rw[List.getElem?_append_left (List.getElem?_eq_some_iff.mp z2).1];exact z2⟩
   . exact⟨its',n',Cz _ _ pp z1,z2⟩
 have Ly:RP h' p N q:=⟨_,_,e',by rw[List.getElem?_append_right (by omega),hlen,Nat.sub_self];rfl⟩
 have fz':qU H' kvs (f N):=hfz.kp kp
 have Za:h'.get? q=some oq:=Cz _ _ (Ne.symm hpq) hoq
 have T4:∀ b,H b=none->H' b=none:=fun b n=>by
   have n1:b≠a:=fun z=>by rw[z,ha] at n;cases n
   have n2:b≠q:=fun z=>by rw[z,hq] at n;cases n
   show(upd (upd H a _) q _) b=none
   rw[ag n2,ag n1];exact n
 have Zb:∀ b,H b=none->b≠p:=fun b n z=>by rw[<- z,n] at Gg;exact Gg
 have Zc:∀ b o,s.heap.get? b=some o->∃ o',h'.get? b=some o':=fun b o z=>by
   by_cases bp:b=p
   . rw[bp];exact⟨_,e'⟩
   . exact⟨o,Cz _ _ bp z⟩
 refine⟨.cP,H',I.un (h':=h') (t':=s.toks) ⟨fun b o z n _ _=>Cz b o (Zb b n) z,fun b o z n _ _=>⟨o.slots,Cz b o (Zb b n) z⟩,fun b o _ n _=>T4 b n,fun b o z _=>Zc b o z,fun b xs z=>sM b _ z (nk b _ z rfl) (nq b _ z fun x y=>by cases y),
   fun b o u z=>sM b _ z (nk b _ z rfl) (nq b _ z fun x y=>by cases y),fun b ps z=>⟨#[],by rw[sM b _ z (nk b _ z rfl) (nq b _ z fun x y=>by cases y)];simp⟩⟩ fun b u z=>?_,rfl,kk oq⟩
 by_cases bq:b=q
 . subst bq
   have z:(upd (upd H a _) b _) b=some u:=z
   rw[ak] at z;cases z
   refine⟨Za,⟨hz,lo,vs,kv,oq,es,ep,Za,hr⟩,fun p' i ht=>?_⟩
   cases ht
   exact⟨kp.mem _ Gg,Ly⟩
 . by_cases ba:b=a
   . subst ba
     have z:(upd (upd H b _) q _) b=some u:=z
     rw[ag bq,ak] at z;cases z
     refine⟨Zc _ _ hoa,⟨f0,h1⟩,by rw[List.length_set];exact h2,fun j' p' f' z=>(h3 j' p' f' z).imp id fun z=>kp.part _ _ z,h4,fun n hn=>?_,fun j' p' f' n z1 z2=>?_⟩
     . obtain⟨i,hi,ei⟩:=List.mem_iff_getElem.mp hn
       rw[List.getElem_set] at ei
       split at ei
       . omega
       . rw[<- ei];exact h5 _ (List.getElem_mem _)
     . by_cases jj:j=j'
       . subst jj
         rw[hj] at z1;cases z1
         have hjl:j < ns.length:=(List.getElem?_eq_some_iff.mp hN).1
         rw[List.getElem?_set_self hjl] at z2;cases z2
         refine⟨_,_,e',by rw[List.length_append,hlen];rfl,fun i hi=>?_⟩
         by_cases hiN:i < N
         . obtain⟨q',o',kv',w1,w2,w3⟩:=hit i hiN
           exact⟨q',o',kv',by rw[List.getElem?_append_left (by omega)];exact w1,kp.kd _ _ _ _ w2,w3.kp kp⟩
         . have:i=N:=by omega
           subst this
           exact⟨q,oq,kvs,by rw[List.getElem?_append_right (by omega),hlen,Nat.sub_self];rfl,ak,fz'⟩
       . rw[List.getElem?_set_ne jj] at z2
         have pp:p'≠p:=fun z=>by
           subst z
           obtain⟨i1,e1⟩:=List.getElem?_eq_some_iff.mp hj
           obtain⟨i2,e2⟩:=List.getElem?_eq_some_iff.mp z1
           have pw:=List.pairwise_iff_getElem.mp h4
           rcases Nat.lt_or_gt_of_ne jj with lt | lt
           . have:=pw j j' (by rw[List.length_map];exact i1) (by rw[List.length_map];exact i2) lt
             rw[List.getElem_map,List.getElem_map,e1,e2] at this
             exact this rfl
           . have:=pw j' j (by rw[List.length_map];exact i2) (by rw[List.length_map];exact i1) lt
             rw[List.getElem_map,List.getElem_map,e1,e2] at this
             exact this rfl
         exact(h6 j' p' f' n z1 z2).kp kp fun u z=>Cz _ _ pp z
   . have z0:H b=some u:=by
       have z:(upd (upd H a _) q _) b=some u:=z
       rw[ag bq,ag ba] at z;exact z
     by_cases bp:b=p
     . subst bp
       rcases h3 j b f hj with z1 | z1
       . exact absurd z1 ba
       . rw[z1] at z0;cases z0
         exact⟨_,e'⟩
     . refine(I.a5 b u z0).M8 (fun c' v' BQ z'=>Cz c' v' ?_ z') (fun c' z'=>sM c' _ z' (nk c' _ z' rfl) (nq c' _ z' fun x y=>by cases y)) (fun c' xs z'=>sM c' _ z' (nk c' _ z' rfl) (nq c' _ z' fun x y=>by cases y)) kp hl
       rcases BQ with rfl | z1 | z1
       . exact bp
       . exact fun z'=>by rw[z'] at z1;rw[z1] at Gg;exact Gg
       . intro z'
         rw[z'] at z1
         rcases h3 j p f hj with z2 | z2
         . rw[z2,ha] at z1;cases z1
         . rw[z2] at z1;cases z1;exact ba rfl
end
noncomputable def oZ (fs:List (Str×Dt))(nm:List Str)(a:Addr)(ls:jL)(n:Nat):List (Str×Dt):=fs ++ (List.range nm.length).map fun j=>(nm.getD j "",.dH a ls j n)
section
variable {K:W.Frag}{Hf H:Hp}
theorem aX.split:∀ {RG Kn:List (Str×Dt)} {fv:List (Str×V)},aX K H fv (RG ++ Kn)->∃ f1 f2,fv=f1 ++ f2/\aX K H f1 RG/\aX K H f2 Kn
 | [],_,fv,r=>⟨[],fv,rfl,.nil,r⟩
 | (k,d)::RG,Kn,_,.cons h t=>by
   obtain⟨f1,f2,e,r1,r2⟩:=aX.split t
   exact⟨(k,_)::f1,f2,by rw[e];rfl,.cons h r1,r2⟩
theorem aX.join:∀ {RG Kn:List (Str×Dt)} {f1 f2:List (Str×V)},aX K H f1 RG->aX K H f2 Kn->aX K H (f1 ++ f2) (RG ++ Kn)
 | _,_,_,_,.nil,r=>r
 | _,_,_,_,.cons h t,r=>.cons h (aX.join t r)
theorem oF {nm:Nat->Str}{d d':Nat->Dt}{H':Hp}(h:∀ j v,Rep K H v (d j)->Rep K H' v (d' j)):∀ {js:List Nat} {fv:List (Str×V)},aX K H fv (js.map fun j=>(nm j,d j))->aX K H' fv (js.map fun j=>(nm j,d' j))
 | [],_,.nil=>.nil
 | j::js,_,.cons r t=>.cons (h j _ r) (oF h t)
noncomputable def tU (H:Hp)(ls:jL)(n:Nat):Prop:=∀ (j:Nat) (p:Addr) (f:Nat->List (Key×FD)),ls[j]?=some (p,f)->Known H p f n
variable {fs:List (Str×Dt)}{nm:List Str}{l:Addr}{ls:jL}{n m:Nat}{fv:List (Str×V)}{u:HO}
theorem vf (hn:0 < nm.length)(r:aX K Hf fv (su fs nm l ls n)):Hf l=some (.memo ls):=by
 obtain⟨f1,f2,_,_,r2⟩:=aX.split r
 cases hk:nm.length with
 | zero=>omega
 | succ k=>
   rw[hk,List.range_succ_eq_map,List.map_cons] at r2
   cases r2 with
   | cons h t=>cases h with
     | memo _ h2 _ _=>exact h2
theorem T5 (hs:j5 l fs=true)(hm:Hf l=some (.memo ls))(hu:lW ls u)(r:aX K Hf fv (su fs nm l ls n)):aX K (upd Hf l u) fv (oZ fs nm l ls n):=by
 obtain⟨f1,f2,e,r1,r2⟩:=aX.split r
 subst e
 refine aX.join (i6 (.inl hm) hu hs r1) (oF (fun j v q=>?_) r2)
 cases q with
 | memo h1 h2 h3 h4=>exact iw (.inl hm) hu rfl (.dH h1 (.inl h2) h3 h4)
theorem Nz (hs:j5 l fs=true)(hm:bY Hf l ls)(r:aX K Hf fv (oZ fs nm l ls n)):aX K (upd Hf l (.memo ls)) fv (su fs nm l ls n):=by
 obtain⟨f1,f2,e,r1,r2⟩:=aX.split r
 subst e
 refine aX.join (i6 hm (.inl rfl) hs r1) (oF (fun j v q=>?_) r2)
 cases q with
 | dH h1 h2 h3 h4=>exact .memo h1 ak (h3.imp id fun z=>aY hm z rfl) (mq hm (.inl rfl) h4)
theorem AX (hk:tU Hf ls m)(r:aX K Hf fv (su fs nm l ls n)):aX K Hf fv (su fs nm l ls m):=by
 obtain⟨f1,f2,e,r1,r2⟩:=aX.split r
 subst e
 refine aX.join r1 (oF (fun j v q=>?_) r2)
 cases q with
 | memo h1 h2 h3 h4=>exact .memo h1 h2 h3 (hk _ _ _ h1)
theorem LI (hl:ls.length<=nm.length)(r:aX K Hf fv (su fs nm l ls n)):tU Hf ls n:=fun j p f e=>by
 obtain⟨f1,f2,_,_,r2⟩:=aX.split r
 have hj:j < nm.length:=Nat.lt_of_lt_of_le (List.getElem?_eq_some_iff.mp e).1 hl
 have key:∀ {js:List Nat} {fv:List (Str×V)},aX K Hf fv (js.map fun j=>(nm.getD j "",Dt.memo l ls j n))->j∈js->Known Hf p f n:=by
   intro js
   induction js with
   | nil=>intro fv _ h;cases h
   | cons i js ih=>
     intro fv r h
     cases r with
     | cons q t=>
       rcases List.mem_cons.mp h with z | z
       . subst z
         cases q with
         | memo h1 h2 h3 h4=>rw[e] at h1;cases h1;exact h4
       . exact ih t z
 exact key r2 (List.mem_range.mpr hj)
theorem PX {A B bO H2:Hp}(hA:A l=some (.memo ls))(hB:B l=some (.memo ls))(g:bb (upd A l u) (upd B l u) bO H2):bb A B (upd bO l (.memo ls)) (upd H2 l (.memo ls)):=by
 refine⟨fun b o e=>?_,fun b o e=>?_,cS g.sub,fun b o e=>?_⟩
 . by_cases hb:b=l
   . subst hb;rw[hB] at e;cases e;exact ak
   . rw[ag hb];exact g.big _ _ (by rw[ag hb];exact e)
 . by_cases hb:b=l
   . subst hb;rw[hA] at e;cases e;exact ak
   . rw[ag hb];exact g.bC _ _ (by rw[ag hb];exact e)
 . by_cases hb:b=l
   . subst hb;exact .inl ⟨_,hA⟩
   . rw[ag hb] at e
     rcases g.new b o e with⟨o',z⟩ | z | z
     . rw[ag hb] at z;exact .inl ⟨o',z⟩
     . rw[ag hb] at z;exact .inr (.inl z)
     . exact .inr (.inr z)
variable {G G0:Gr}{st:L2.St}{dl:List Slot}
theorem dJ.rebase (S:dJ K G0 st Hf H dl)(no:noOwn dl=true)(g:bb G.Hf G.H G0.Hf G0.H):dJ K G st Hf H dl:=⟨g.trans S.gr,S.len,S.val,fun i o h=>absurd h (aQ no i o),fun i j o o' a h=>absurd h (aQ no i o)⟩
noncomputable def qy (a:Addr):List Slot->Bool
 | []=>true
 | .bw::r=>qy a r
 | .val d::r=>rH a d && qy a r
 | .own _::_=>false
theorem lX {l:Addr}:∀ {tl:List Slot} {i:Nat} {d:Dt},qy l tl=true->tl[i]?=some (.val d)->rH l d=true
 | [],_,_,_,e=>by simp at e
 | .bw::r,0,_,_,e=>by simp at e
 | .bw::r,i+1,_,h,e=>lX (tl:=r) (i:=i) h (by simpa using e)
 | .val d::r,0,_,h,e=>by
   rw[qy,Bool.and_eq_true] at h
   simp at e
   subst e
   exact h.1
 | .val d::r,i+1,_,h,e=>by
   rw[qy,Bool.and_eq_true] at h
   exact lX (tl:=r) (i:=i) h.2 (by simpa using e)
theorem gF {l:Addr}:∀ {tl:List Slot},qy l tl=true->noOwn tl=true
 | [],_=>rfl
 | .bw::r,h=>gF (tl:=r) h
 | .val d::r,h=>by
   rw[qy,Bool.and_eq_true] at h
   exact gF (tl:=r) h.2
variable {C:Addr}{tl:List Slot}
noncomputable abbrev zL (C:Addr)(fs:List (Str×Dt))(nm:List Str)(l:Addr)(ls:jL)(n:Nat)(tl:List Slot):List Slot:=.val (.obj C (su fs nm l ls n))::tl
noncomputable abbrev W8 (C:Addr)(fs:List (Str×Dt))(nm:List Str)(l:Addr)(ls:jL)(n:Nat)(tl:List Slot):List Slot:=.val (.obj C (oZ fs nm l ls n))::tl
theorem dJ.T6 {m:Nat}(S:dJ K G st Hf H (zL C fs nm l ls n tl))(kn:tU Hf ls m):dJ K G st Hf H (zL C fs nm l ls m tl):=by
 have own:∀ {i:Nat} {o:Own},(zL C fs nm l ls m tl)[i]?=some (.own o)->(zL C fs nm l ls n tl)[i]?=some (.own o):=fun {i o} h=>by
   cases i with
   | zero=>cases h
   | succ i=>exact h
 refine⟨S.gr,S.len,fun i d h=>?_,fun i o h=>S.own i o (own h),fun i j o o' a h1 h2=>S.E7 i j o o' a (own h1) (own h2)⟩
 cases i with
 | zero=>
   cases h
   obtain⟨v,hv,rv⟩:=S.val 0 _ rfl
   cases rv with
   | obj q r=>exact⟨_,hv,.obj q (AX kn r)⟩
 | succ i=>exact S.val (i+1) d h
noncomputable def T7 (G0:Gr)(l:Addr)(u:HO):Gr:=⟨upd G0.Hf l u,upd G0.H l u⟩
theorem dJ.W9 (S:dJ K G st Hf H (zL C fs nm l ls n tl))(hs:j5 l fs=true)(ht:qy l tl=true)(hn:0 < nm.length)(hu:lW ls u):Hf l=some (.memo ls)/\dJ K (T7 ⟨i7 Hf H,H⟩ l u) st (upd (i7 Hf H) l u) (upd H l u) (W8 C fs nm l ls n tl):=by
 obtain⟨v,hv,rv⟩:=S.val 0 _ rfl
 have sm:=fR S.sub
 cases rv with
 | @obj a _ dx fv _ q r=>
   have hm:=vf hn r
   have Xa:i7 Hf H l=some (.memo ls):=sm _ _ hm
   refine⟨hm,⟨.refl (cS (nJ S.sub)),S.len,fun i d h=>?_,fun i o h=>?_,fun i j o o' a h=>?_⟩⟩
   . cases i with
     | zero=>
       cases h
       exact⟨_,hv,.obj (HW (.inl Xa) (fQ sm q)) (T5 hs Xa hu (r.mono sm))⟩
     | succ i=>
       have h:tl[i]?=some (.val d):=h
       obtain⟨w,w1,w2⟩:=S.val (i+1) d h
       exact⟨w,w1,iw (.inl Xa) hu (lX ht h) (w2.mono sm)⟩
   . cases i with
     | zero=>cases h
     | succ i=>exact absurd h (aQ (gF ht) i o)
   . cases i with
     | zero=>cases h
     | succ i=>exact absurd h (aQ (gF ht) i o)
end
section
variable {X:Cx}{G:Gr}{E:XK}{dl:List Slot}{c e:Expr}{body:List Stmt}{pos p:Pos}{fs:List (Str×Dt)}{nm:List Str}{l C:Addr}{ls:jL}{n m age:Nat}{tl:List Slot}
noncomputable def PY (X:Cx)(c:Expr):TT:=fun st H Q=>∃ G dl b,EB X G dl c b/\SS X.K G dl b st H Q
theorem Ib:PT X c (PY X c):=fun pins s st H Q I ⟨G,dl,b,h,q⟩=>h pins s st H Q I q
noncomputable def PZ (X:Cx)(E:XK)(body:List Stmt):TS:=fun D st H=>∃ G pre o,me X G E pre body o/\tO X.K G E pre o D st H
theorem Fw {body:List Stmt}:BW X body (PZ X E body):=fun pins s st H D J ⟨G,pre,o,h,q⟩=>h pins s st H D J q
noncomputable def RM (K:W.Frag)(G0:Gr)(C:Addr)(fs:List (Str×Dt))(nm:List Str)(l:Addr)(ls:jL)(n:Nat)(tl:List Slot)(M:Nat):L2.St->Hp->Prop:=fun st H=>H l=some (.bA ls (List.replicate ls.length M))/\∃ Hf,dJ K G0 st Hf (upd H l (.memo ls)) (zL C fs nm l ls n tl)
theorem xB (hp:PassesOwn (model X.prog X.w) X.A X.env X.xe)(hs:j5 l fs=true)(ht:qy l tl=true)(hn:0 < nm.length)(kO:age < 9000)(hc:∀ (N:Nat) (G:Gr),G.Hf l=some (.bA ls (List.replicate ls.length N))->EB X G (W8 C fs nm l ls n tl) c (decide (N<=age)))(hb:∀ N,0 < N->N<=age->∀ G0:Gr,G0.Hf l=some (.memo ls)->G0.H l=some (.memo ls)->me X (T7 G0 l (.bA ls (List.replicate ls.length N))) E (W8 C fs nm l ls n tl) body (.raw (RM X.K G0 C fs nm l ls n tl (N+1)))):ES X G E (zL C fs nm l ls n tl) (.While c body [] pos) (.nx (zL C fs nm l ls (age+1) tl)):=by
 intro pins s st H D I ⟨Hf,S,k⟩
 have no:noOwn (zL C fs nm l ls n tl)=true:=show noOwn tl=true from gF ht
 have hm:Hf l=some (.memo ls):=(S.W9 (u:=.memo ls) hs ht hn (.inl rfl)).1
 obtain⟨N0,h0,h1,IX⟩:=Inv.exact I (S.sub _ _ hm)
 let XX:Nat->HO:=fun N=>.bA ls (List.replicate ls.length N)
 have mu:∀ N,lW ls (XX N):=fun N=>.inr ⟨_,rfl⟩
 let W:Nat->L2.St->Hp->Prop:=fun m st H=>∃ N,m=age+1 - N/\0 < N/\H l=some (XX N)/\∃ Hf1,aE Hf Hf1/\dJ X.K G st Hf1 (upd H l (.memo ls)) (zL C fs nm l ls n tl)
 refine bX (z5 (pos:=pos) hp (Ib (X:=X) (c:=c)) (Fw (E:=E)) pins s st _ { D with nx:=fun jv H'=>∃ N,age < N/\H' l=some (XX N)/\∃ Hf1,aE Hf Hf1/\dJ X.K G jv Hf1 (upd H' l (.memo ls)) (zL C fs nm l ls n tl)} IX ?_) fun f s7 q7=>?_
 . refine⟨W,⟨_,N0,rfl,h0,ak,Hf,aE.refl _,by rw[tE,vb (S.sub _ _ hm)];exact S⟩,?_⟩
   rintro mm Vv H1 ⟨N,rfl,hN,Ly,Hf1,s1,S1⟩
   have eH:upd (upd H1 l (.memo ls)) l (XX N)=H1:=by rw[tE,vb Ly]
   obtain⟨Zd,SX⟩:=S1.W9 (u:=XX N) hs ht hn (mu N)
   rw[eH] at SX
   have hA:i7 Hf1 (upd H1 l (.memo ls)) l=some (.memo ls):=fR S1.sub _ _ Zd
   refine⟨_,_,decide (N<=age),hc N (T7 ⟨i7 Hf1 (upd H1 l (.memo ls)),upd H1 l (.memo ls)⟩ l (XX N)) ak,_,SX,fun bO H2 g2=>?_⟩
   have g2':bb (upd (i7 Hf1 (upd H1 l (.memo ls))) l (XX N)) (upd (upd H1 l (.memo ls)) l (XX N)) bO H2:=by rw[eH];exact g2
   have gp:=PX (ls:=ls) hA ak g2'
   have gg:=(oE S1.sub).trans gp
   have S2:=S1.grow gg
   have K0:H2 l=some (XX N):=g2.big _ _ Ly
   by_cases hle:N<=age
   . rw[decide_eq_true hle]
     have eH2:upd (upd H2 l (.memo ls)) l (XX N)=H2:=by rw[tE,vb K0]
     obtain⟨Ze,Zf⟩:=S2.W9 (u:=XX N) hs ht hn (mu N)
     rw[eH2] at Zf
     have hA2:i7 (upd bO l (.memo ls)) (upd H2 l (.memo ls)) l=some (.memo ls):=fR S2.sub _ _ Ze
     refine Ao ⟨fun jv H'=>H' l=some (XX (N+1))/\∃ Hf1,aE Hf Hf1/\dJ X.K G jv Hf1 (upd H' l (.memo ls)) (zL C fs nm l ls n tl),fun jv H' ⟨z1,z2⟩=>⟨age+1 - (N+1),by omega,N+1,rfl,by omega,z1,z2⟩,?_⟩
     refine⟨_,_,_,hb N hN hle ⟨i7 (upd bO l (.memo ls)) (upd H2 l (.memo ls)),upd H2 l (.memo ls)⟩ hA2 ak,_,Zf,fun jv H' ⟨z1,aH,z2⟩=>⟨z1,aH,?_,?_⟩⟩
     . exact((s1.trans gg.bC).trans (fR S2.sub)).trans z2.gr.bC
     . exact z2.rebase no (S2.gr.trans (oE S2.sub))
   . rw[decide_eq_false hle]
     exact An ⟨N,by omega,K0,_,s1.trans gg.bC,S2⟩
 . cases f with
   | next=>
     obtain⟨σ7,H7,I7,N,hN,Xb,Zg,s7',S7⟩:=q7
     have I8:=Inv.pack I7 Xb (by omega)
     refine⟨σ7,_,I8,?_⟩
     obtain⟨_,_,hlen,_,_,_,h6⟩:=(show aJ X.prog X.w H7 s7.heap l (XX N) from I7.a5 l _ Xb)
     have kn:tU (i7 Zg (upd H7 l (.memo ls))) ls (age+1):=fun j p f e i hi=>by
       have hj:j < ls.length:=(List.getElem?_eq_some_iff.mp e).1
       obtain⟨aC,cc,e1,e2,e3⟩:=h6 j p f N e (by rw[List.getElem?_replicate,if_pos hj])
       obtain⟨q,o,kvs,q1,q2,q3⟩:=e3 i (by omega)
       have key:∀ b u,H7 b=some u->Kept u->i7 Zg (upd H7 l (.memo ls)) b=some u:=fun b u z kq=>yC (by rw[ag (fun zz=>by rw[zz,Xb] at z;cases z;exact kq)];exact z) kq
       exact⟨q,o,kvs,key _ _ q2 trivial,fS key q3⟩
     have S8:=S7.grow (oE S7.sub)
     exact k σ7 _ _ (s7'.trans (fR S7.sub)) (S8.T6 kn)
   | cont=>exact q7
   | brk=>exact q7
   | ret v=>exact q7
theorem nK (he:EE X G (zL C fs nm l ls n tl) e (.tM l ls m))(hs:swapsWith e none pos.line X.env=pure false:=by rfl):ES X G E (zL C fs nm l ls n tl) (.Expr e pos) (.nx (zL C fs nm l ls m tl)):=
 sv (k8 he hs) fun D st H ⟨Hf,S,k⟩=>⟨Hf,S,fun v Hf1 H1 g1 r1=>by
   have S1:=S.grow g1
   cases r1 with
   | tM kn=>
     exact k st Hf1 H1 g1.bC (S1.T6 kn)⟩
theorem oG (hl:ls.length<=nm.length):Comes (.nx (zL C fs nm l ls n tl)) (.ret (.tM l ls n)):=.kn fun K G st Hf H S=>by
 obtain⟨v,hv,rv⟩:=S.val 0 _ rfl
 cases rv with
 | obj q r=>exact .tM (LI hl r)
theorem AY (i:Nat){o:Out}{sts:List Stmt}{gs:List (Nat->List (Key×FD))}(h:∀ l ls,ls.map (·.2)=gs->me X G E (dl.set i (.val (.obj C (su fs nm l ls n)))) sts o)(hd:dl[i]?=some (.val (.uO C fs gs nm n)):=by rfl):me X G E dl sts o:=by
 intro pins s st H D I ⟨Hf,S,k⟩
 obtain⟨v,hv,rv⟩:=S.val i _ hd
 cases rv with
 | @uO s' a _ dx fv _ _ _ _ ls' e q r=>
   refine h a ls' e pins s st H D I ⟨Hf,⟨S.gr,by simp[S.len],fun j d hj=>?_,fun j o' hj=>?_,fun j m o1 o2 c q1 q2 q3 q4=>?_⟩,k⟩
   . by_cases ej:i=j
     . subst ej
       have hl:i < dl.length:=(List.getElem?_eq_some_iff.mp hd).1
       rw[List.getElem?_set_self hl] at hj;cases hj
       exact⟨_,hv,.obj q r⟩
     . rw[List.getElem?_set_ne ej] at hj;exact S.val j d hj
   . have ej:i≠j:=fun z=>by
       subst z
       rw[List.getElem?_set_self (List.getElem?_eq_some_iff.mp hd).1] at hj;cases hj
     rw[List.getElem?_set_ne ej] at hj;exact S.own j o' hj
   . have ne:∀ {j:Nat} {o':Own},(dl.set i (.val (.obj C (su fs nm a ls' n))))[j]?=some (.own o')->dl[j]?=some (.own o'):=fun {j o'} hj=>by
       have ej:i≠j:=fun z=>by
         subst z
         rw[List.getElem?_set_self (List.getElem?_eq_some_iff.mp hd).1] at hj;cases hj
       rw[List.getElem?_set_ne ej] at hj;exact hj
     exact S.E7 j m o1 o2 c (ne q1) (ne q2) q3 q4
end
theorem AZ {l:Addr}:∀ (a b:List (Str×Dt)),j5 l (a ++ b)=(j5 l a && j5 l b)
 | [],b=>by rw[List.nil_append,j5];rfl
 | (k,d)::a,b=>by rw[List.cons_append,j5,j5,AZ a b,Bool.and_assoc]
theorem Ic (nm:Nat->Str)(l:Addr)(ls:jL)(n:Nat):∀ js:List Nat,j5 l (js.map fun j=>(nm j,Dt.dH l ls j n))=true
 | []=>rfl
 | j::js=>by rw[List.map_cons,j5,Ic nm l ls n js];rfl
theorem xC {fs:List (Str×Dt)}{nm:List Str}{l:Addr}{ls:jL}{n:Nat}(h:j5 l fs=true):j5 l (oZ fs nm l ls n)=true:=by
 unfold oZ
 rw[AZ,h,Ic];rfl
section
variable {X:Cx}{G0:Gr}{E:XK}{arg:Expr}{fs:List (Str×Dt)}{l C:Addr}{ls:jL}{n N:Nat}{tl:List Slot}{f g:Nat->List (Key×FD)}{n0 n1 x0 xg:Str}{p1 p2 p3 p4 p5 a1 a2 c1 c2 q1 q2:Pos}
theorem A0 (ng:Nat)(hs:j5 l fs=true)(ht:qy l tl=true)(hu:tl[ng]?=some .bw)(oH:ls.map (·.2)=[f,g])(hN:N < 9000)(cl:tL X.K C)(P0:bF X.K C n0)(Xc:bF X.K C n1)(hA:G0.Hf l=some (.memo ls))(hB:G0.H l=some (.memo ls))
   (Xd:∀ G2,EO X G2 (.val (.obj C (oZ fs [n0,n1] l ls n))::tl.set ng (.val (.dn (m9 (f N))))) arg (.eB (m9 (g N))))
   (RF:(oZ fs [n0,n1] l ls n).lookup n0=some (.dH l ls 0 n):=by rfl) (Ly:(oZ fs [n0,n1] l ls n).lookup n1=some (.dH l ls 1 n):=by rfl)
   (RE:X.N[0]?=some x0:=by rfl) (VC:uA X.env.scope x0:=by first | exact Or.inl rfl | exact Or.inr (Or.inl rfl) | exact Or.inr (Or.inr rfl)) (VD:(x0 == ("__debug__":Str))=false:=by decide) (VE:(x0 == ("__classdict__":Str))=false:=by decide)
   (Xe:X.N[ng+1]?=some xg:=by rfl) (Xf:uA X.env.scope xg:=by first | exact Or.inl rfl | exact Or.inr (Or.inl rfl) | exact Or.inr (Or.inr rfl)) (Xg:(xg == ("__debug__":Str))=false:=by decide) (Xh:(xg == ("__classdict__":Str))=false:=by decide)
   (T8:attributeBase (.Name x0 p1) n0 X.env (eval (.Name x0 p1) X.env)=eval (.Name x0 p1) X.env:=by rfl) (Xi:attributeBase (.Name x0 p4) n1 X.env (eval (.Name x0 p4) X.env)=eval (.Name x0 p4) X.env:=by rfl)
   (CA:attributeBase (.Attribute (.Name x0 p1) n0 p2) "append" X.env (eval (.Attribute (.Name x0 p1) n0 p2) X.env)=eval (.Attribute (.Name x0 p1) n0 p2) X.env:=by rfl)
   (P1:attributeBase (.Attribute (.Name x0 p4) n1 p5) "append" X.env (eval (.Attribute (.Name x0 p4) n1 p5) X.env)=eval (.Attribute (.Name x0 p4) n1 p5) X.env:=by rfl)
   (Ie:((backTo c1 (starEach [.Name xg p3] X.env)).all (fun x=>!x.1) && (backToKw c1 (keywordEach [] X.env)).all (fun x=>x.1.isSome) && decide ([Expr.Name xg p3].length+([]:List Keyword).length+(if ([]:List Keyword).isEmpty then 0 else 1) < 30))=true:=by rfl)
   (T9:((backTo c2 (starEach [arg] X.env)).all (fun x=>!x.1) && (backToKw c2 (keywordEach [] X.env)).all (fun x=>x.1.isSome) && decide ([arg].length+([]:List Keyword).length+(if ([]:List Keyword).isEmpty then 0 else 1) < 30))=true:=by rfl)
   (CB:(a1.endLine == c1.line)=true:=by rfl) (P2:(a2.endLine == c2.line)=true:=by rfl) (yD:starEach [.Name xg p3] X.env=(false,eval (.Name xg p3) X.env)::starEach [] X.env:=by rfl) (LJ:starEach [arg] X.env=(false,eval arg X.env)::starEach [] X.env:=by rfl)
   (Gd:swapsWith (.Call (.Attribute (.Attribute (.Name x0 p1) n0 p2) "append" a1) [.Name xg p3] [] c1) none q1.line X.env=pure false:=by rfl) (z8:swapsWith (.Call (.Attribute (.Attribute (.Name x0 p4) n1 p5) "append" a2) [arg] [] c2) none q2.line X.env=pure false:=by rfl) :
   me X (T7 G0 l (.bA ls (List.replicate ls.length N))) E (.val (.obj C (oZ fs [n0,n1] l ls n))::tl.set ng (.own (.eB (m9 (f N)))))
     [.Expr (.Call (.Attribute (.Attribute (.Name x0 p1) n0 p2) "append" a1) [.Name xg p3] [] c1) q1,.Expr (.Call (.Attribute (.Attribute (.Name x0 p4) n1 p5) "append" a2) [arg] [] c2) q2] (.raw (RM X.K G0 C fs [n0,n1] l ls n tl (N+1))):=by
 have Ua:PE X arg (fun st H Q=>∃ G2,Vs X.K G2 (.val (.obj C (oZ fs [n0,n1] l ls n))::tl.set ng (.val (.dn (m9 (f N))))) (.eB (m9 (g N))) st H Q):=fun pins s st H Q I ⟨G2,q⟩=>Xd G2 pins s st H Q I q
 refine Ar (nz (k8 (uK PySem.F.plainAttrs_list PySem.F.slot_list_append PySem.F.type_list_append pQ (uG (i0 (pos:=p1) RE VC VD VE) T8) (lb (i0 (pos:=p3) Xe Xf Xg Xh) nB yD) CA Ie CB yD rfl) Gd)
   (mi (k8 (uK PySem.F.plainAttrs_list PySem.F.slot_list_append PySem.F.type_list_append pQ (uG (i0 (pos:=p4) RE VC VD VE) Xi) (lb Ua nB LJ) P1 T9 P2 LJ rfl) z8))) fun D st H ⟨Hf,S,k⟩=>?_
 have e2:ls.length=2:=by have:=congrArg List.length oH;simpa using this
 have eR:∀ M:Nat,List.replicate ls.length M=[M,M]:=fun M=>by rw[e2];rfl
 rw[eR] at S
 have Ub:ng < tl.length:=(List.getElem?_eq_some_iff.mp hu).1
 obtain⟨v0,hv,rv⟩:=S.val 0 _ rfl
 cases rv with
 | @obj sa _ dx fv _ P4 rf=>
   obtain⟨oa,CC,VF,_,back⟩:=Rd.ex P4
   have P5:Hf l=some (.bA ls [N,N]):=S.gr.bC _ _ ak
   have NA:H l=some (.bA ls [N,N]):=S.sub _ _ P5
   have hm:bY Hf l ls:=.inr ⟨_,P5⟩
   obtain⟨y0,Xj,Xk⟩:=rf.lookup RF
   obtain⟨y1,Ki,ry1⟩:=rf.lookup Ly
   obtain⟨qa,hq,Uc,Xl,kvs,NB,rk⟩:=S.own (ng+1) (.eB (m9 (f N))) (by show(tl.set ng _)[ng]?=_;rw[List.getElem?_set_self Ub])
   cases Xk with
   | @dH _ p _ _ _ f0 AS _ Xm _=>cases ry1 with
     | @dH _ pp _ _ _ f1 Xn _ abq _=>
       have Xo:f0=f:=by
         have:=congrArg (fun z=>z[0]?) oH
         simp only[List.getElem?_map,AS] at this
         exact Option.some.inj this
       have ef1:f1=g:=by
         have:=congrArg (fun z=>z[1]?) oH
         simp only[List.getElem?_map,Xn] at this
         exact Option.some.inj this
       subst Xo ef1
       have VG:qU H kvs (f0 N):=fS (fun b u e _=>S.sub _ _ e) (pP rk)
       have Xp:qa≠l:=fun z=>by rw[z,NA] at NB;cases NB
       have Ud:sa≠l:=fun z=>by rw[z,P5] at CC;cases CC;cases VF
       have Zh:sa≠qa:=fun z=>by rw[z,Uc] at CC;cases CC
       refine⟨_,hv,sa,C,dx,fv,_,rfl,back _ (S.sub _ _ CC),cl,P0,Xj,.inr (.inr (.inr (.inr ⟨rfl,l,ls,[N,N],0,f0,N,NA,AS,rfl⟩))),_,hq,l,ls,[N,N],0,p,f0,N,qa,kvs,rfl,rfl,NA,AS,rfl,hN,NB,VG,fun oq=>?_⟩
       let H4:Hp:=upd (upd H l (.bA ls ([N,N].set 0 (N+1)))) qa (.kd (some (p,N)) oq kvs)
       let u4:HO:=.bA ls [N+1,N]
       have VH:H4 l=some u4:=by show(upd (upd H l _) qa _) l=_;rw[ag (Ne.symm Xp),ak];rfl
       have Zi:H4 qa=some (.kd (some (p,N)) oq kvs):=ak
       have VI:∀ b o,H b=some o->b≠l->b≠qa->H4 b=some o:=fun b o e n1 n2=>by show(upd (upd H l _) qa _) b=_;rw[ag n2,ag n1];exact e
       have h4n:∀ b,H4 b=none->H b=none:=fun b e=>by
         have n1:b≠l:=fun z=>by rw[z,VH] at e;cases e
         have n2:b≠qa:=fun z=>by rw[z,Zi] at e;cases e
         have e:(upd (upd H l _) qa _) b=none:=e
         rw[ag n2,ag n1] at e;exact e
       have hfq:∀ b o,Hf b=some o->b≠qa:=fun b o e z=>by rw[z,Uc] at e;cases e
       have yE:aE (upd Hf l u4) H4:=fun b o e=>by
         by_cases bl:b=l
         . rw[bl,ak] at e;cases e;rw[bl];exact VH
         . rw[ag bl] at e;exact VI b o (S.sub _ _ e) bl (hfq b o e)
       let Kk:Hp:=i7 (upd Hf l u4) H4
       have Ue:aE (upd Hf l u4) Kk:=fR yE
       have VJ:lW ls u4:=.inr ⟨_,rfl⟩
       have Xq:∀ b u,H b=some u->Kept u->Kk b=some u:=fun b u e kq=>yC (VI b _ e (fun z=>by rw[z,NA] at e;cases e;exact kq) (fun z=>by rw[z,NB] at e;cases e;exact kq)) kq
       have S4:dJ X.K ⟨Kk,H4⟩ st Kk H4 (.val (.obj C (oZ fs [n0,n1] l ls n))::tl.set ng (.val (.dn (m9 (f0 N))))):=by
         have no:∀ (i:Nat) o,(Slot.val (.obj C (oZ fs [n0,n1] l ls n))::tl.set ng (.val (.dn (m9 (f0 N)))))[i]?≠some (.own o):=fun i o h=>by
           cases i with
           | zero=>cases h
           | succ i=>
             have h:(tl.set ng (.val (.dn (m9 (f0 N)))))[i]?=some (.own o):=h
             by_cases e:ng=i
             . subst e;rw[List.getElem?_set_self Ub] at h;cases h
             . rw[List.getElem?_set_ne e] at h;exact aQ (gF ht) i o h
         refine⟨.refl (nJ yE),by have:=S.len;simpa using this,fun i d h=>?_,fun i o h=>absurd h (no i o),fun i j o o' a h=>absurd h (no i o)⟩
         cases i with
         | zero=>
           cases h
           exact⟨_,hv,.obj (back _ (Ue _ _ (aY hm CC VF))) ((i6 hm VJ (xC hs) rf).mono Ue)⟩
         | succ i=>
           have h:(tl.set ng (.val (.dn (m9 (f0 N)))))[i]?=some (.val d):=h
           by_cases e:ng=i
           . subst e
             rw[List.getElem?_set_self Ub] at h;cases h
             exact⟨_,hq,.dn (DY Zi) (tT (fS Xq VG))⟩
           . rw[List.getElem?_set_ne e] at h
             obtain⟨w,w1,w2⟩:=S.val (i+1) d (by show(tl.set ng _)[i]?=_;rw[List.getElem?_set_ne e];exact h)
             exact⟨w,w1,(iw hm VJ (lX ht h) w2).mono Ue⟩
       refine⟨_,hv,sa,C,dx,fv,_,rfl,back _ (VI _ _ (S.sub _ _ CC) Ud Zh),cl,Xc,Ki,.inr (.inr (.inr (.inr ⟨rfl,l,ls,[N+1,N],1,f1,N,VH,Xn,rfl⟩))),⟨Kk,H4⟩,Kk,S4,fun ra wa H5 g5 n5 n5' ⟨P6,Ni,TK⟩=>?_⟩
       have Zj:H5 l=some u4:=g5.big _ _ VH
       have nrl:ra≠l:=fun z=>by rw[z,Zj] at Ni;have Ni:=Option.some.inj Ni;have Ni:HO.bA ls [N+1,N]=.dK P6:=Ni;cases Ni
       refine⟨l,ls,[N+1,N],1,pp,f1,N,ra,P6,rfl,rfl,Zj,Xn,rfl,hN,Ni,fS (fun b u e _=>g5.sub _ _ e) (pP TK),fun or=>?_⟩
       let H6:Hp:=upd (upd H5 l (.bA ls ([N+1,N].set 1 (N+1)))) ra (.kd (some (pp,N)) or P6)
       show D.nx st H6
       have Xr:H6 l=some (.bA ls [N+1,N+1]):=by show(upd (upd H5 l _) ra _) l=_;rw[ag (Ne.symm nrl),ak];rfl
       have Ug:∀ b o,H5 b=some o->b≠l->b≠ra->(upd H6 l (.memo ls)) b=some o:=fun b o e n1 n2=>by
         rw[ag n1]
         show(upd (upd H5 l _) ra _) b=_
         rw[ag n2,ag n1];exact e
       have Xs:∀ b o,wa b=some o->b≠ra:=fun b o e z=>by rw[z,n5'] at e;cases e
       have Ig:aE (upd wa l (.memo ls)) (upd H6 l (.memo ls)):=fun b o e=>by
         by_cases bl:b=l
         . rw[bl,ak] at e ⊢;exact e
         . rw[ag bl] at e;exact Ug b o (g5.sub _ _ e) bl (Xs b o e)
       have Ih:=fR Ig
       have f4:∀ b o,Hf b=some o->b≠l->wa b=some o:=fun b o e n1=>g5.bC _ _ (Ue _ _ (by rw[ag n1];exact e))
       have g6:bb G0.Hf G0.H (i7 (upd wa l (.memo ls)) (upd H6 l (.memo ls))) (upd H6 l (.memo ls)):=by
         refine⟨fun b o e=>?_,fun b o e=>?_,nJ Ig,fun b o e=>?_⟩
         . by_cases bl:b=l
           . rw[bl,hB] at e;cases e;rw[bl];exact ak
           . have h3:H b=some o:=S.gr.big _ _ (by show(upd G0.H l _) b=_;rw[ag bl];exact e)
             have Xt:b≠qa:=fun z=>by
               have:(upd G0.H l (.bA ls [N,N])) qa=none:=Xl
               rw[<- z,ag bl,e] at this;cases this
             have h4:=VI b o h3 bl Xt
             exact Ug b o (g5.big _ _ h4) bl (fun z=>by have n5:H4 ra=none:=n5;rw[z,n5] at h4;cases h4)
         . by_cases bl:b=l
           . rw[bl,hA] at e;cases e;rw[bl];exact Ih _ _ ak
           . have h3:Hf b=some o:=S.gr.bC _ _ (by show(upd G0.Hf l _) b=_;rw[ag bl];exact e)
             exact Ih _ _ (by rw[ag bl];exact f4 b o h3 bl)
         . rcases oC (Hf:=upd wa l (.memo ls)) (H:=upd H6 l (.memo ls)) b with⟨u',z1,z2,z3⟩ | z
           . rw[z3] at e;cases e;exact .inr (.inr z2)
           . rw[z] at e
             by_cases bl:b=l
             . rw[bl];exact .inl ⟨_,hA⟩
             . rw[ag bl] at e
               rcases g5.new b o e with⟨o',w⟩ | w | w
               . have eo:o'=o:=by have:=g5.bC _ _ w;rw[e] at this;exact(Option.some.inj this).symm
                 subst eo
                 rcases oC (Hf:=upd Hf l u4) (H:=H4) b with⟨u',z1,z2,z3⟩ | z'
                 . have w:i7 (upd Hf l u4) H4 b=some o':=w
                   rw[z3] at w;cases w;exact .inr (.inr z2)
                 . have w:i7 (upd Hf l u4) H4 b=some o':=w
                   rw[z',ag bl] at w
                   rcases S.gr.new b o' w with⟨O2,y⟩ | y | y
                   . have y:(upd G0.Hf l _) b=some O2:=y
                     rw[ag bl] at y;exact .inl ⟨O2,y⟩
                   . have y:(upd G0.H l _) b=none:=y
                     rw[ag bl] at y;exact .inr (.inl y)
                   . exact .inr (.inr y)
               . have y:(upd G0.H l (.bA ls [N,N])) b=none:=S.gr.big.free (h4n b w)
                 rw[ag bl] at y;exact .inr (.inl y)
               . exact .inr (.inr w)
       have Xu:aE (upd Hf l u4) wa:=Ue.trans g5.bC
       have Zk:bY wa l ls:=.inr ⟨_,Xu _ _ ak⟩
       have P7:∀ {v:V} {d:Dt},rH l d=true->Rep X.K Hf v d->Rep X.K (i7 (upd wa l (.memo ls)) (upd H6 l (.memo ls))) v d:=fun {v d} hn r=>(iw Zk (.inl rfl) hn ((iw hm VJ hn r).mono Xu)).mono Ih
       refine k st H6 ⟨by rw[eR];exact Xr,_,⟨g6,by have:=S.len;simpa using this,fun i d h=>?_,fun i o h=>?_,fun i j o o' a h=>?_⟩⟩
       . cases i with
         | zero=>
           cases h
           refine⟨_,hv,.obj (back _ (Ih _ _ (by rw[ag Ud];exact f4 _ _ CC Ud))) ?_⟩
           have r5:=(i6 hm VJ (xC hs) rf).mono Xu
           exact(Nz hs Zk r5).mono Ih
         | succ i=>
           have h:tl[i]?=some (.val d):=h
           have e:ng≠i:=fun z=>by rw[<- z,hu] at h;cases h
           obtain⟨w,w1,w2⟩:=S.val (i+1) d (by show(tl.set ng _)[i]?=_;rw[List.getElem?_set_ne e];exact h)
           exact⟨w,w1,P7 (lX ht h) w2⟩
       . cases i with
         | zero=>cases h
         | succ i=>exact absurd h (aQ (gF ht) i o)
       . cases i with
         | zero=>cases h
         | succ i=>exact absurd h (aQ (gF ht) i o)
end
noncomputable def Zl:HO->Bool
 | .lst _=>true
 | .dK _=>true
 | _=>false
noncomputable def conv (H:Hp)(p p2 q1 q2:Addr)(u1 u2 u3 u4:HO):Hp:=upd (upd (upd (upd H p u1) p2 u2) q1 u3) q2 u4
section
variable {X:Cx}{pins:List (Addr×Obj)}{σ:L2.St}{H:Hp}{s:Shared}{p p2 q1 q2:Addr}{mW zM:List (Key×V)}{f g:Nat->List (Key×FD)}
theorem Inv.P8 (I:L2.Inv X pins σ H s)(hp:H p=some (.lst [.ref q1]))(x9:H p2=some (.lst [.ref q2]))(Kq:H q1=some (.dK mW))(Uh:H q2=some (.dK zM))(f1:qU H mW (f 0))(f2:qU H zM (g 0))(n1:p≠p2)(n2:q1≠q2):∃ o1 o2,L2.Inv X pins σ (conv H p p2 q1 q2 (.memo [(p,f),(p2,g)]) (.part p) (.kd (some (p,0)) o1 mW) (.kd (some (p2,0)) o2 zM)) s:=by
 obtain⟨z1,i1,c1,r1,e1⟩:=(show aJ X.prog X.w H s.heap p (.lst [.ref q1]) from I.a5 p _ hp)
 obtain⟨z2,i2,c2,r2,e2⟩:=(show aJ X.prog X.w H s.heap p2 (.lst [.ref q2]) from I.a5 p2 _ x9)
 obtain⟨LK,lo1,Xv,Xw,o1,Xx,Xy,Ui,Xz⟩:=(show aJ X.prog X.w H s.heap q1 (.dK mW) from I.a5 q1 _ Kq)
 obtain⟨hz2,lo2,vs2,kr2,o2,es2,ep2,VL,hr2⟩:=(show aJ X.prog X.w H s.heap q2 (.dK zM) from I.a5 q2 _ Uh)
 obtain⟨u1,rfl,w1⟩:=vals1 r1
 obtain⟨u2,rfl,w2⟩:=vals1 r2
 cases (show u1=Value.ref q1 from w1)
 cases (show u2=Value.ref q2 from w2)
 refine⟨o1,o2,?_⟩
 have m1:p≠q1:=fun z=>by rw[z,Kq] at hp;cases hp
 have m2:p≠q2:=fun z=>by rw[z,Uh] at hp;cases hp
 have m3:p2≠q1:=fun z=>by rw[z,Kq] at x9;cases x9
 have m4:p2≠q2:=fun z=>by rw[z,Uh] at x9;cases x9
 generalize LL:conv H p p2 q1 q2 (.memo [(p,f),(p2,g)]) (.part p) (.kd (some (p,0)) o1 mW) (.kd (some (p2,0)) o2 zM)=H'
 have Uj:H' p=some (.memo [(p,f),(p2,g)]):=by rw[<- LL];unfold conv;rw[ag m2,ag m1,ag n1,ak]
 have P9:H' p2=some (.part p):=by rw[<- LL];unfold conv;rw[ag m4,ag m3,ak]
 have Ii:H' q1=some (.kd (some (p,0)) o1 mW):=by rw[<- LL];unfold conv;rw[ag n2,ak]
 have Uk:H' q2=some (.kd (some (p2,0)) o2 zM):=by rw[<- LL];unfold conv;rw[ak]
 have Cz:∀ b,b≠p->b≠p2->b≠q1->b≠q2->H' b=H b:=fun b a1 a2 a3 a4=>by rw[<- LL];unfold conv;rw[ag a4,ag a3,ag a2,ag a1]
 have sM:∀ b o,H b=some o->Zl o=false->H' b=some o:=fun b o e n=>by
   rw[Cz b (fun z=>by rw[z,hp] at e;cases e;cases n) (fun z=>by rw[z,x9] at e;cases e;cases n) (fun z=>by rw[z,Kq] at e;cases e;cases n) (fun z=>by rw[z,Uh] at e;cases e;cases n)]
   exact e
 have kp:Kp H H':=⟨fun b o e kq=>sM b _ e (by cases o <;> first | rfl | exact(show False from kq).elim),fun b e=>by
   cases q:H b with
   | none=>rw[q] at e;exact e.elim
   | some u=>
     rw[q] at e
     rw[sM b u q (by cases u <;> first | rfl | exact e.elim)]
     exact e,fun b x e=>sM b _ e rfl⟩
 refine I.un (h':=s.heap) (t':=s.toks) ⟨fun b o e _ _ _=>e,fun b o e _ _ _=>⟨o.slots,e⟩,fun b o e n _=>?_,fun b o e _=>⟨o,e⟩,fun b xs e=>sM b _ e rfl,fun b o u e=>sM b _ e rfl,fun b ps e=>⟨#[],by rw[sM b _ e rfl];simp⟩⟩ fun b u e=>?_
 . rw[Cz b (fun z=>by rw[z,hp] at n;cases n) (fun z=>by rw[z,x9] at n;cases n) (fun z=>by rw[z,Kq] at n;cases n) (fun z=>by rw[z,Uh] at n;cases n)]
   exact n
 . by_cases b1:b=p
   . subst b1
     rw[Uj] at e;cases e
     refine⟨⟨_,e1⟩,1,by decide,⟨f,rfl⟩,rfl,fun j a h hj=>?_,by simp[n1],fun n hn=>by rw[List.mem_replicate] at hn;omega,fun j a h n hj hn=>?_⟩
     . match j,hj with
       | 0,hj=>cases hj;exact .inl rfl
       | 1,hj=>cases hj;exact .inr P9
     . match j,hj,hn with
       | 0,hj,hn=>
         cases hj;cases hn
         refine⟨_,_,e1,rfl,fun i hi=>?_⟩
         have:i=0:=by omega
         subst this
         exact⟨q1,o1,mW,rfl,Ii,f1.kp kp⟩
       | 1,hj,hn=>
         cases hj;cases hn
         refine⟨_,_,e2,rfl,fun i hi=>?_⟩
         have:i=0:=by omega
         subst this
         exact⟨q2,o2,zM,rfl,Uk,f2.kp kp⟩
   . by_cases b2:b=p2
     . subst b2;rw[P9] at e;cases e;exact⟨_,e2⟩
     . by_cases b3:b=q1
       . subst b3;rw[Ii] at e;cases e
         refine⟨Ui,⟨LK,lo1,Xv,Xw,o1,Xx,Xy,Ui,Xz⟩,fun a i ht=>?_⟩
         cases ht
         exact⟨by rw[Uj];trivial,_,_,e1,rfl⟩
       . by_cases b4:b=q2
         . subst b4;rw[Uk] at e;cases e
           refine⟨VL,⟨hz2,lo2,vs2,kr2,o2,es2,ep2,VL,hr2⟩,fun a i ht=>?_⟩
           cases ht
           exact⟨by rw[P9];trivial,_,_,e2,rfl⟩
         . rw[Cz b b1 b2 b3 b4] at e
           exact(I.a5 b u e).xS (fun _ _ _ q=>q) (fun c q=>sM c _ q rfl) (fun c xs q=>sM c _ q rfl) kp
end
theorem D1 (n0:Str)(v:V):∀ fv:List (Str×V),(ff n0 v fv).length<=fv.length+1
 | []=>Nat.le_refl _
 | (k,w)::r=>by
   have ih:=D1 n0 v r
   unfold ff
   split
   . simp
   . simp only[List.length_cons];omega
section
variable {X:Cx}{G:Gr}{E:XK}{e1 e2:Expr}{fs:List (Str×Dt)}{z C:Addr}{tl:List Slot}{f g:Nat->List (Key×FD)}{n0 n1 x0:Str}{Qa XA Qb XB Qc XC q1 q2:Pos}
theorem yF (no:noOwn tl=true)(cl:tL X.K C)(P0:bF X.K C n0)(Xc:bF X.K C n1)(XD:EO X G (.own (.Aq z C fs)::tl) e1 (.eB (m9 (f 0))))(Pd:EO X G (.bw::tl) e2 (.eB (m9 (g 0))))(Qd:∀ p ls,putD n1 (.memo p ls 1 1) (putD n0 (.memo p ls 0 1) fs)=su fs [n0,n1] p ls 1:=by intro _ _;rfl)(hlen:Nat.ble fs.length 990=true:=by rfl)(hN:X.N[0]?=some x0:=by rfl)(hv:uA X.env.scope x0:=by first | exact Or.inl rfl | exact Or.inr (Or.inl rfl) | exact Or.inr (Or.inr rfl))(md:(x0 == ("__debug__":Str))=false:=by decide)(lO:(x0 == ("__classdict__":Str))=false:=by decide)(yD:starEach [e1] X.env=[(false,eval e1 X.env)]:=by rfl)(LJ:starEach [e2] X.env=[(false,eval e2 X.env)]:=by rfl)(Gd:swapsWith (.List [e1] Qc) (some (.Attribute (.Name x0 Qa) n0 Qb)) q1.line X.env=pure false:=by rfl)(z8:swapsWith (.List [e2] XC) (some (.Attribute (.Name x0 XA) n1 XB)) q2.line X.env=pure false:=by rfl):me X G E (.own (.Aq z C fs)::tl) [.Assign [.Attribute (.Name x0 Qa) n0 Qb] (.List [e1] Qc) q1,.Assign [.Attribute (.Name x0 XA) n1 XB] (.List [e2] XC) q2] (.nx (.own (.yb z C fs [f,g] [n0,n1] 1)::tl)):=by
 intro pins s st H D I ⟨Hf,S,k⟩
 have base:=nz (uH (pos:=q1) (pos':=Qb) (i0 (pos:=Qa) hN hv md lO) (uI (pos:=Qc) (lb XD nB yD)) Gd) (mi (uH (pos:=q2) (pos':=XB) (i0 (pos:=XA) hN hv md lO) (uI (pos:=XC) (lb Pd nB LJ)) z8))
 let RQ:L2.St->Hp->Prop:=fun jv H'=>∃ p p2 a1 a2 mW zM,H' p=some (.lst [.ref a1])/\H' p2=some (.lst [.ref a2])/\H' a1=some (.dK mW)/\H' a2=some (.dK zM)/\qU H' mW (f 0)/\qU H' zM (g 0)/\p≠p2/\a1≠a2/\ ∀ o1 o2,D.nx jv (conv H' p p2 a1 a2 (.memo [(p,f),(p2,g)]) (.part p) (.kd (some (p,0)) o1 mW) (.kd (some (p2,0)) o2 zM))
 refine bX (base pins s st H { D with nx:=RQ} I ?_) fun fl s7 q7=>?_
 . obtain⟨za,hz,XE,RH,ez,dx,fv,LM,rf⟩:=S.own 0 _ rfl
   subst ez
   refine⟨Hf,S,fun a1 Hf1 H1 g1 Ul Qe ⟨mW,PF,XG⟩=>⟨Nat.le_of_ble_eq_true rfl,fun p hp=>?_⟩⟩
   have LK:H1 za=some (.ins C dx fv):=g1.big _ _ LM
   have Kr:za≠p:=aw LK hp
   have Um:a1≠p:=aw PF hp
   have NC:za≠a1:=fun w=>by rw[w,Ul] at LM;cases LM
   have XH:(upd H1 p (.lst [.ref a1])) za=some (.ins C dx fv):=by rw[ag Kr];exact LK
   refine⟨_,hz,za,C,dx,fv,rfl,XH,cl,P0,by rw[rf.length];exact Nat.lt_of_le_of_lt (Nat.le_of_ble_eq_true hlen) (by decide),?_⟩
   let H2:Hp:=upd (upd H1 p (.lst [.ref a1])) za (.ins C dx (ff n0 (.ref p) fv))
   have Fx:Hf1 za=none:=g1.kN XE LM
   have XI:bb Hf1 H1 Hf1 (upd H1 p (.lst [.ref a1])):=.dX g1.sub hp
   have S0:dJ X.K G st Hf H (.bw::tl):=S.weak ⟨rfl,fun i s' e n=>by
     cases i with
     | zero=>cases e;exact absurd rfl n
     | succ i=>exact e⟩
   have VM:noOwn (.bw::tl)=true:=no
   have S2:dJ X.K G st Hf1 H2 (.bw::tl):=oy ((S0.grow g1).grow XI) VM Fx RH
   refine⟨Hf1,S2,fun a2 iU H3 g3 n3 n3' ⟨zM,Km,TK⟩=>⟨Nat.le_of_ble_eq_true rfl,fun p2 x9=>?_⟩⟩
   have XJ:H2 a2=none:=n3
   have VN:H2 za=some (.ins C dx (ff n0 (.ref p) fv)):=ak
   have VO:H2 p=some (.lst [.ref a1]):=by show(upd (upd H1 p _) za _) p=_;rw[ag (Ne.symm Kr),ak]
   have VP:H2 a1=some (.dK mW):=by show(upd (upd H1 p _) za _) a1=_;rw[ag (Ne.symm NC),ag Um];exact PF
   have Zm:=g3.big _ _ VN
   have Zn:=g3.big _ _ VO
   have Zo:=g3.big _ _ VP
   have LN:za≠p2:=aw Zm x9
   have Qf:p≠p2:=aw Zn x9
   have ND:a1≠p2:=aw Zo x9
   have NF:a2≠p2:=aw Km x9
   have Qg:za≠a2:=fun w=>by rw[w,XJ] at VN;cases VN
   have XM:p≠a2:=fun w=>by rw[w,XJ] at VO;cases VO
   have Uo:a1≠a2:=fun w=>by rw[w,XJ] at VP;cases VP
   have XO:(upd H3 p2 (.lst [.ref a2])) za=some (.ins C dx (ff n0 (.ref p) fv)):=by rw[ag LN];exact Zm
   refine⟨_,hz,za,C,dx,_,rfl,XO,cl,Xc,?_,?_⟩
   . have:=D1 n0 (.ref p) fv
     have h9:=Nat.le_of_ble_eq_true hlen
     have:=rf.length
     omega
   let H4:Hp:=upd (upd H3 p2 (.lst [.ref a2])) za (.ins C dx (ff n1 (.ref p2) (ff n0 (.ref p) fv)))
   have XQ:H4 p=some (.lst [.ref a1]):=by show(upd (upd H3 p2 _) za _) p=_;rw[ag (Ne.symm Kr),ag Qf];exact Zn
   have XR:H4 p2=some (.lst [.ref a2]):=by show(upd (upd H3 p2 _) za _) p2=_;rw[ag (Ne.symm LN),ak]
   have Qh:H4 a1=some (.dK mW):=by show(upd (upd H3 p2 _) za _) a1=_;rw[ag (Ne.symm NC),ag ND];exact Zo
   have XS:H4 a2=some (.dK zM):=by show(upd (upd H3 p2 _) za _) a2=_;rw[ag (Ne.symm Qg),ag NF];exact Km
   have XT:H4 za=some (.ins C dx (ff n1 (.ref p2) (ff n0 (.ref p) fv))):=ak
   have XU:iU za=none:=g3.kN Fx VN
   have VQ:iU p=none:=g3.kN (g1.sub.free hp) VO
   have XW:iU a1=none:=g3.kN Qe VP
   have Up:iU p2=none:=g3.sub.free x9
   have yE:aE iU H4:=fun b o e=>by
     have b1:b≠za:=fun w=>by rw[w,XU] at e;cases e
     have b2:b≠p2:=fun w=>by rw[w,Up] at e;cases e
     show(upd (upd H3 p2 _) za _) b=_
     rw[ag b1,ag b2];exact g3.sub _ _ e
   have S4:dJ X.K G st iU H4 (.bw::tl):=oy ((S2.grow g3).grow (.dX g3.sub x9)) VM XU RH
   have gp:G.H p=none:=S.gr.big.free (g1.big.free hp)
   have Uq:G.H a1=none:=S.gr.big.free Ul
   have Zp:G.H p2=none:=S2.gr.big.free (g3.big.free x9)
   have Zq:G.H a2=none:=S2.gr.big.free n3
   have Ur:qU iU mW (f 0):=pP (XG.mono g3.bC)
   have Zr:qU iU zM (g 0):=pP TK
   refine⟨p,p2,a1,a2,mW,zM,XQ,XR,Qh,XS,fS (fun b u e _=>yE _ _ e) Ur,fS (fun b u e _=>yE _ _ e) Zr,Qf,Uo,fun o1 o2=>?_⟩
   let ls:jL:=[(p,f),(p2,g)]
   let u1:HO:=.memo ls
   let u3:HO:=.kd (some (p,0)) o1 mW
   let u4:HO:=.kd (some (p2,0)) o2 zM
   have m1:p≠a1:=Ne.symm Um
   have cat:∀ (B:Hp),conv B p p2 a1 a2 u1 (.part p) u3 u4 p=some u1/\conv B p p2 a1 a2 u1 (.part p) u3 u4 p2=some (.part p)/\conv B p p2 a1 a2 u1 (.part p) u3 u4 a1=some u3/\conv B p p2 a1 a2 u1 (.part p) u3 u4 a2=some u4:=fun B=>by
     unfold conv
     refine⟨?_,?_,?_,?_⟩
     . rw[ag XM,ag m1,ag Qf,ak]
     . rw[ag (Ne.symm NF),ag (Ne.symm ND),ak]
     . rw[ag Uo,ak]
     . rw[ak]
   have vg:∀ (B:Hp) b,b≠p->b≠p2->b≠a1->b≠a2->conv B p p2 a1 a2 u1 (.part p) u3 u4 b=B b:=fun B b c1 c2 c3 c4=>by unfold conv;rw[ag c4,ag c3,ag c2,ag c1]
   let wa:Hp:=conv iU p p2 a1 a2 u1 (.part p) u3 u4
   have Gh:aE iU wa:=fun b o e=>by
     show conv iU p p2 a1 a2 u1 (.part p) u3 u4 b=some o
     rw[vg iU b (fun w=>by rw[w,VQ] at e;cases e) (fun w=>by rw[w,Up] at e;cases e) (fun w=>by rw[w,XW] at e;cases e) (fun w=>by rw[w,n3'] at e;cases e)]
     exact e
   have key:∀ (A B:Hp),aE A B->aE (conv A p p2 a1 a2 u1 (.part p) u3 u4) (conv B p p2 a1 a2 u1 (.part p) u3 u4):=fun A B sm=>cS (cS (cS (cS sm)))
   have Qi:aE wa (conv H4 p p2 a1 a2 u1 (.part p) u3 u4):=key _ _ yE
   have Ij:aX X.K wa (ff n1 (.ref p2) (ff n0 (.ref p) fv)) (su fs [n0,n1] p ls 1):=by
     rw[<- Qd p ls]
     refine((rf.mono ((g1.bC.trans g3.bC).trans Gh)).put (f:=n0) (d:=.memo p ls 0 1) ?_).put (f:=n1) (d:=.memo p ls 1 1) ?_
     . refine .memo (f:=f) rfl (cat iU).1 (.inl rfl) fun i hi=>?_
       have:i=0:=by omega
       subst this
       exact⟨a1,o1,mW,(cat iU).2.2.1,fS (fun b u e _=>Gh _ _ e) Ur⟩
     . refine .memo (f:=g) rfl (cat iU).1 (.inr (cat iU).2.1) fun i hi=>?_
       have:i=0:=by omega
       subst this
       exact⟨a2,o2,zM,(cat iU).2.2.2,fS (fun b u e _=>Gh _ _ e) Zr⟩
   have XY:conv H4 p p2 a1 a2 u1 (.part p) u3 u4 za=some (.ins C dx (ff n1 (.ref p2) (ff n0 (.ref p) fv))):=by rw[vg H4 za Kr LN NC Qg];exact XT
   have XZ:wa za=none:=by show conv iU p p2 a1 a2 u1 (.part p) u3 u4 za=none;rw[vg iU za Kr LN NC Qg];exact XU
   refine k st wa _ ((g1.bC.trans g3.bC).trans Gh) ⟨⟨fun b o e=>?_,S4.gr.bC.trans Gh,Qi,fun b o e=>?_⟩,by have:=S4.len;simpa using this,fun i d h=>?_,fun i o h=>?_,fun i j o o' a w1 w2=>?_⟩
   . rw[vg H4 b (fun w=>by rw[w,gp] at e;cases e) (fun w=>by rw[w,Zp] at e;cases e) (fun w=>by rw[w,Uq] at e;cases e) (fun w=>by rw[w,Zq] at e;cases e)]
     exact S4.gr.big _ _ e
   . by_cases c1:b=p
     . rw[c1];exact .inr (.inl gp)
     . by_cases c2:b=p2
       . rw[c2];exact .inr (.inl Zp)
       . by_cases c3:b=a1
         . rw[c3];exact .inr (.inl Uq)
         . by_cases c4:b=a2
           . rw[c4];exact .inr (.inl Zq)
           . have e:conv iU p p2 a1 a2 u1 (.part p) u3 u4 b=some o:=e
             rw[vg iU b c1 c2 c3 c4] at e
             exact S4.gr.new b o e
   . cases i with
     | zero=>cases h
     | succ i=>
       obtain⟨w,w1,w2⟩:=S4.val (i+1) d h
       exact⟨w,w1,w2.mono Gh⟩
   . cases i with
     | zero=>
       cases h
       exact⟨za,hz,XZ,RH,rfl,dx,_,p,ls,rfl,XY,Ij⟩
     | succ i=>exact absurd h (aQ no i o)
   . cases i with
     | zero=>cases j with
       | zero=>exact fun _ _=>rfl
       | succ j=>exact absurd w2 (aQ no j o')
     | succ i=>exact absurd w1 (aQ no i o)
 . cases fl with
   | next=>
     obtain⟨σ7,H7,I7,p,p2,a1,a2,mW,zM,y1,y2,y3,y4,y5,y6,y7,y8,kk⟩:=q7
     obtain⟨o1,o2,I8⟩:=Inv.P8 I7 y1 y2 y3 y4 y5 y6 y7 y8
     exact⟨σ7,_,I8,kk o1 o2⟩
   | cont=>exact q7
   | brk=>exact q7
   | ret v=>exact q7
end
section
variable {X:Cx}{G:Gr}{E:XK}{dl:List Slot}{a b e:Expr}{pos:Pos}{k:Str}
variable {d1 d2 d3 d4:Dt}
theorem LO (n1 n2 n3 n4:Nat){a b c f:Str}{pa pb pc pf tp:Pos}{cx:Nat}(hN:X.N.Nodup)(hc:X.calm=true)(he:EE X G dl e (.tup [d1,d2,d3,d4]))(Tv:X.N[n1]?=some a:=by rfl)(Tw:X.N[n2]?=some b:=by rfl)(X0:X.N[n3]?=some c:=by rfl)(hi4:X.N[n4]?=some f:=by rfl)(Tx:Loc X.env.scope a:=by first | exact Or.inl rfl | exact Or.inr rfl)(O1:Loc X.env.scope b:=by first | exact Or.inl rfl | exact Or.inr rfl)(X1:Loc X.env.scope c:=by first | exact Or.inl rfl | exact Or.inr rfl)(hx4:Loc X.env.scope f:=by first | exact Or.inl rfl | exact Or.inr rfl)(Tz:X.fn a=true\/X.env.scope.names.lookup a=some .local:=by first | exact .inl rfl | exact .inr rfl)(TB:X.fn b=true\/X.env.scope.names.lookup b=some .local:=by first | exact .inl rfl | exact .inr rfl)(X2:X.fn c=true\/X.env.scope.names.lookup c=some .local:=by first | exact .inl rfl | exact .inr rfl)(hf4:X.fn f=true\/X.env.scope.names.lookup f=some .local:=by first | exact .inl rfl | exact .inr rfl)(hn:(assignEach [.Name a pa,.Name b pb,.Name c pc,.Name f pf] X.env).length=4:=by rfl)(m7:(assignEach [.Name a pa,.Name b pb,.Name c pc,.Name f pf] X.env).findIdx? (·.1)=none:=by rfl)(q1:(assignEach [.Name a pa,.Name b pb,.Name c pc,.Name f pf] X.env).map (·.2)=assign (.Name a pa) X.env::(assignEach [.Name b pb,.Name c pc,.Name f pf] X.env).map (·.2):=by rfl)(q2:(assignEach [.Name b pb,.Name c pc,.Name f pf] X.env).map (·.2)=assign (.Name b pb) X.env::(assignEach [.Name c pc,.Name f pf] X.env).map (·.2):=by rfl)(q3:(assignEach [.Name c pc,.Name f pf] X.env).map (·.2)=assign (.Name c pc) X.env::(assignEach [.Name f pf] X.env).map (·.2):=by rfl)(q4:(assignEach [.Name f pf] X.env).map (·.2)=assign (.Name f pf) X.env::(assignEach [] X.env).map (·.2):=by rfl)(hs:swapsWithSole [.Tuple [.Name a pa,.Name b pb,.Name c pc,.Name f pf] cx tp] e pos.line X.env=pure false:=by rfl)(hw:swappedStores [.Tuple [.Name a pa,.Name b pb,.Name c pc,.Name f pf] cx tp] e X.env=pure none:=by rfl)(h1:(assignEach [.Tuple [.Name a pa,.Name b pb,.Name c pc,.Name f pf] cx tp] X.env).map (·.2)=[assign (.Tuple [.Name a pa,.Name b pb,.Name c pc,.Name f pf] cx tp) X.env]:=by rfl):ES X G E dl (.Assign [.Tuple [.Name a pa,.Name b pb,.Name c pc,.Name f pf] cx tp] e pos) (.nx ((((dl.set n1 (.val d1)).set n2 (.val d2)).set n3 (.val d3)).set n4 (.val d4))):=
 sv (xX he (uD hc (cV (bx (pos:=pa) hN Tv Tx Tz) (cV (bx (pos:=pb) hN Tw O1 TB) (cV (bx (pos:=pc) hN X0 X1 X2) (cV (bx (pos:=pf) hN hi4 hx4 hf4) n6 q4) q3) q2) q1) hn m7) hs hw h1) fun D st H ⟨Hf,S,k⟩=>⟨Hf,S,fun v Hf1 H1 g1 r1=>by
   cases r1 with
   | @tup q vs _ hq rp=>
     cases rp with
     | cons r1 t1=>cases t1 with
       | cons r2 t2=>cases t2 with
         | cons r3 t3=>cases t3 with
           | cons r4 t4=>
             cases t4
             exact⟨q,_,rfl,bN g1.sub hq,rfl,_,_,rfl,_,_,rfl,_,_,rfl,_,_,rfl,rfl,k _ Hf1 H1 g1.bC (((((S.grow g1).set r1).set r2).set r3).set r4)⟩⟩
end
theorem gG:PySem.Slot "reversed" "__next__" "reversed.__next__":=
 .of (owner:="reversed") (n:="__next__") (by rw[typeLookup_type,builtinLookup_eq_fast];kernel_rfl) (by decide +kernel) (by decide +kernel) (by decide +kernel)
   (by first | exact .inl (by decide +kernel) | exact .inr (by decide +kernel)) (by rw[isSubtype_type];kernel_rfl)
theorem nL:entryFor table "reversed.__next__"=some Builtin.«reversed.__next__»:=entryFor_of_tree (by kernel_rfl)
theorem mX (a:Value):argsOk "reversed.__next__" ⟨[a],[]⟩:=by unfold argsOk;kernel_rfl
theorem pA:PySem.Slot "reversed" "__iter__" "reversed.__iter__":=
 .of (owner:="reversed") (n:="__iter__") (by rw[typeLookup_type,builtinLookup_eq_fast];kernel_rfl) (by decide +kernel) (by decide +kernel) (by decide +kernel)
   (by first | exact .inl (by decide +kernel) | exact .inr (by decide +kernel)) (by rw[isSubtype_type];kernel_rfl)
theorem sN (a:Value):argsOk "reversed.__iter__" ⟨[a],[]⟩:=by unfold argsOk;kernel_rfl
theorem vh:entryFor table "reversed.__iter__"=some Builtin.«dict_keyiterator.__iter__»:=
 entryFor_alias (id':="dict_keyiterator.__iter__") (by kernel_rfl) (by first | rfl | decide +kernel | (unfold String.splitOn;simp +decide [String.splitOnAux])) (by decide +kernel) (by kernel_rfl)
theorem wj:PySem.Slot "reversed" "__init__" "object.__init__":=
 .of (owner:="object") (n:="__init__") (by rw[typeLookup_type,builtinLookup_eq_fast];kernel_rfl) (by decide +kernel) (by decide +kernel) (by decide +kernel)
   (by first | exact .inl (by decide +kernel) | exact .inr (by decide +kernel)) (by rw[isSubtype_type];kernel_rfl)
theorem CD:TypeCalled "reversed" "reversed.__new__" "object.__init__":=
 ⟨by decide +kernel,by decide +kernel,⟨_,_,F.mro_reversed⟩,F.made_reversed,by decide +kernel,F.sub_reversed_self,wj⟩
theorem o3:typeLookup (.type "str") "__reversed__"=pure none:=by rw[typeLookup_type,builtinLookup_eq_fast];kernel_rfl
theorem kP:typeLookup (.type "str") "__getitem__"=pure (some (.builtin "str.__getitem__")):=by rw[typeLookup_type,builtinLookup_eq_fast];kernel_rfl
theorem wk:isSubtype (.type "str") (.type "dict")=pure false:=by rw[isSubtype_type];kernel_rfl
section
variable {prog:Program}{w:World}{A:Around}{E:Value->Shared->Prop}{s:Shared}
noncomputable def NG (x:Str)(t:Tok)(i:Int):Obj:={ cls:=.type "reversed",data:=.fields #[.str x t,rawInt i]}
noncomputable def pR (h:Heap)(a:Addr)(x:Str)(t:Tok)(i:Int):Prop:=∃ o,h.get? a=some o/\o.cls=.type "reversed"/\o.data=.fields #[.str x t,rawInt i]
theorem pR.typeIs {a:Addr}{x:Str}{t:Tok}{i:Int}(q:pR s.heap a x t i):s.TypeIs (.ref a) "reversed":=let ⟨o,ho,hc,_⟩:=q;⟨o,ho,hc⟩
theorem Il (x:Str)(t:Tok)(uM:¬ (x.length:Int) >= 2 ^ 63):MeetsIn prog w (Builtin.«reversed.__new__» ⟨[.type "reversed",.str x t],[]⟩) (fun A R s=>R (.ok (.ret (.ref s.heap.objs.size))) { s with heap:=s.heap.push (NG x t ((x.length:Int) - 1)),toks:=s.toks+1+1}):=
 .of_wp fun A R s h=>by
   unfold Builtin.«reversed.__new__»
   refine wpAny_bind (wpAny_of_eq (newClass_reversed _) ?_)
   try dsimp only
   refine wpAny_bind (wpAny_of_eq (a:=()) (by first | rfl | kernel_rfl) ?_)
   refine wpAny_bind (wpAny_of_eq (a:=()) (by first | rfl | kernel_rfl) ?_)
   try dsimp only
   refine wpAny_bind (wpAny_specialOf (typeIs_str s x t) o3 ?_)
   try dsimp only
   refine wpAny_bind (wpAny_bind (wpAny_isInstance (typeIs_str s x t) wk ?_))
   rw[if_neg Bool.false_ne_true]
   refine wpAny_bind (wpAny_specialOf (typeIs_str s x t) kP ?_)
   refine wpAny_of_eq (a:=true) (by kernel_rfl) ?_
   rw[if_neg (show ¬ ((!true)=true) from Bool.false_ne_true)]
   try dsimp only
   refine wpAny_bind (len_str uM ?_)
   refine wpAny_bind (wpAny_of_eq (a:=some (x.length:Int)) rfl ?_)
   try dsimp only
   refine wpAny_bind ?_
   show wpAny _ _ (newObj (.type "reversed") (.fields #[.str x t,rawInt ((x.length:Int) - 1)])) _ _ _
   exact wpAny_newObj_type (wpAny_pure ⟨_,rfl,h⟩)
theorem Fy {x:Str}{t:Tok}{Q:Value->Shared->Prop}(uM:¬ (x.length:Int) >= 2 ^ 63)(h:Q (.ref s.heap.objs.size) { s with heap:=s.heap.push (NG x t ((x.length:Int) - 1)),toks:=s.toks+1+1}):wpAny (model prog w) A (call (.type "reversed") [.str x t]) Q E s:=
 callType_newIn CD (by decide) (F.typeCall_reversed_1 _) (F.newCall_reversed_1 _) (fun obj=>F.args_object_init_2 obj _) F.entry_reversed_new (Il x t uM) ⟨⟨_,Heap.get?_push_size _ rfl,rfl⟩,h⟩
theorem rK {it:Addr}{x:Str}{t:Tok}{i c:Nat}{Q:Option Value->Shared->Prop}(hit:pR s.heap it x t (i:Int))(hx:x.cps[i]?=some c)(uM:¬ (x.length:Int) >= 2 ^ 63)(hQ:∀ h',pR h' it x t ((i:Int) - 1)->Heap.SameBut it s.heap h'->Q (some (.str ⟨#[c]⟩ (s.toks+1))) { s with heap:=h',toks:=s.toks+1+1}):wpAny (model prog w) A (pyNext (.ref it)) Q E s:=by
 obtain⟨o,ho,hc,hd⟩:=id hit
 have Vx:i < x.length:=by
   have:=(Array.getElem?_eq_some_iff.mp hx).1
   exact this
 unfold pyNext
 refine wpAny_bind (wpAny_attempt (wpAny_callSpecial?_slot (name:=Str.ofString "__next__") hit.typeIs gG
   (wpAny_call_entry gG hit.typeIs nL ?_ (mX _))))
 unfold Builtin.«reversed.__next__»
 refine wpAny_bind (wpAny_of_eq (a:=(Value.ref it,[])) rfl ?_)
 try dsimp only
 refine wpAny_bind (wpAny_field ho hd (x:=.str x t) rfl ?_)
 refine wpAny_bind (wpAny_field ho hd (x:=rawInt (i:Int)) rfl ?_)
 show wpAny _ _ (if (i:Int) < 0 then _ else _) _ _ s
 rw[if_neg (by omega)]
 refine wpAny_bind (wpAny_specialOf (typeIs_str s x t) kP ?_)
 rw[if_neg (show ¬ ((some (Value.builtin "str.__getitem__")).isNone=true) from Bool.false_ne_true)]
 try dsimp only
 refine wpAny_bind (wpAny_mkInt ?_)
 refine wpAny_bind (wpAny_attempt (getItem_str (c:=c) ?_ ?_ ?_))
 . have e1:decide ((i:Int) < -(2 ^ 63:Int))=false:=decide_eq_false (by omega)
   have e2:decide ((i:Int) >= 2 ^ 63)=false:=decide_eq_false (by omega)
   rw[e1,e2];rfl
 . have e:seqIndex? (i:Int) x.length=some i:=by
     unfold seqIndex?
     simp
     omega
   rw[e];exact hx
 try dsimp only
 refine wpAny_bind (wpAny_field ho hd (x:=rawInt (i:Int)) rfl ?_)
 try dsimp only
 refine wpAny_bind (wpAny_setField ho hd (by simp) ?_)
 refine wpAny_pure ⟨_,rfl,wpAny_pure (hQ _ ?_ (Heap.SameBut.update ..))⟩
 exact⟨_,Heap.get?_update_self _ ho (Obj.isFreed_of_fields (Obj.data_mapFields hd _)),(Obj.cls_mapFields ..).trans hc,by
   rw[Obj.data_mapFields hd];simp⟩
theorem sO {it:Addr}{x:Str}{t:Tok}{Q:Option Value->Shared->Prop}(hh:A.handled=none)(hit:pR s.heap it x t (-1))(hQ:∀ h',Heap.ExtBut it s.heap h'->Q none { s with heap:=h'}):wpAny (model prog w) A (pyNext (.ref it)) Q E s:=by
 obtain⟨o,ho,hc,hd⟩:=id hit
 unfold pyNext
 refine wpAny_bind (wpAny_attempt (wpAny_callSpecial?_slot (name:=Str.ofString "__next__") hit.typeIs gG
   (wpAny_call_entry gG hit.typeIs nL ?_ (mX _))))
 unfold Builtin.«reversed.__next__»
 refine wpAny_bind (wpAny_of_eq (a:=(Value.ref it,[])) rfl ?_)
 try dsimp only
 refine wpAny_bind (wpAny_field ho hd (x:=.str x t) rfl ?_)
 refine wpAny_bind (wpAny_field ho hd (x:=rawInt (-1)) rfl ?_)
 show wpAny _ _ (if (-1:Int) < 0 then _ else _) _ _ s
 rw[if_pos (by decide)]
 refine wpAny_bind (wpAny_rule ?_)
 refine wpAny_bind (wpAny_bind (wpAny_setField ho hd (by simp) ?_))
 have VL:=Heap.get?_update_self (Obj.mapFields (·.setIfInBounds 1 (rawInt (-1)))) ho (Obj.isFreed_of_fields (Obj.data_mapFields hd _))
 refine wpAny_setField VL (Obj.data_mapFields hd _) (by simp) ?_
 refine wpAny_bind ?_
 show wpAny _ _ (newExc (.type "StopIteration") [] >>= _) _ _ _
 refine wpAny_bind ?_
 simp only[newExc,newTuple]
 refine wpAny_bind (wpAny_newObj_type ?_ (by size_fits))
 refine wpAny_bind (m:=firstArgMember _ _) (wpAny_of_eq (a:=Value.none) (by first | rfl | (simp only[firstArgMember];rfl)) ?_)
 refine wpAny_newObj_type ?_ (by size_fits)
 simp only[raiseNew]
 refine wpAny_bind (wpAny_handled ?_)
 first | rw[show A.in1.handled=none from hh] | rw[hh]
 refine wpAny_bind (wpAny_pure (wpAny_throw ?_))
 refine wpAny_bind (wpAny_isInstance (T:="StopIteration") (b:=true) ⟨_,Heap.get?_push_size _ rfl,rfl⟩ isSubtype_stop ?_)
 exact wpAny_pure (hQ _ (Heap.ExtBut.push (Heap.ExtBut.push (fun b o ne e=>((Heap.SameBut.update ..).2 b ne).trans (((Heap.SameBut.update ..).2 b ne).trans e)) _) _))
theorem sD {it:Addr}{x:Str}{t:Tok}{i:Int}{Q:Value->Shared->Prop}(hit:pR s.heap it x t i)(h:Q (.ref it) s):wpAny (model prog w) A (pyIter (.ref it)) Q E s:=by
 refine wpAny_pyIter_slot hit.typeIs pA (wpAny_call_entry pA hit.typeIs vh ?_ (sN _))
 show wpAny _ _ (ret (.ref it)) _ _ s
 exact wpAny_pure ⟨_,rfl,"reversed",_,hit.typeIs,gG.lookup,h⟩
end
noncomputable def Us (x:Str):It:=
 ⟨fun i H=>i < x.length,fun i H v H'=>H'=H/\∃ c,x.cps[x.length - 1 - i]?=some c/\v=.str ⟨#[c]⟩,fun i H=>i=x.length⟩
theorem FA {P:Program}{w:World}{K:W.Frag}{tg:Expr}(x:Str)(t:Tok)(it:Addr)(uM:¬ (x.length:Int) >= 2 ^ 63):Turn P w K tg (Us x) [it] it (fun i h=>pR h it x t ((x.length:Int) - 1 - i)) where
 mem:=by simp
 obj:=fun i h st b hb=>by
   have e:b=it:=by simpa using hb
   subst e
   obtain⟨o,e,c,d⟩:=st
   exact⟨o,e,fun v z=>by rw[d] at z;cases z⟩
 keep:=fun i h h' st k=>let ⟨o,e,c,d⟩:=st;⟨o,k it (by simp) o e,c,d⟩
 item:=by
   intro X hP hw hK hc i pins s σ H E I hf st hg
   subst hP hw hK
   have hg:i < x.length:=hg
   obtain⟨f0,f1,f2,f3,f4,f5⟩:=hf it (by simp)
   have e1:(x.length:Int) - 1 - i=((x.length - 1 - i:Nat):Int):=by omega
   rw[e1] at st
   have de:x.length - 1 - i < x.cps.size:=by show _ < x.length;omega
   refine rK (c:=x.cps[x.length - 1 - i]) st (Array.getElem?_eq_getElem de) uM fun h' jv sb=>?_
   have I1:L2.Inv X pins σ H { s with heap:=h',toks:=s.toks+1+1}:=I.turned (t':=s.toks+1+1) (fun b o hb e=>(sb.2 b hb).trans e) f0 f1 f3 f4 f5
   have e2:((x.length - 1 - i:Nat):Int) - 1=(x.length:Int) - 1 - ((i+1:Nat):Int):=by omega
   rw[e2] at jv
   obtain⟨o,e,c,d⟩:=id jv
   exact⟨_,rfl,z6 (s:={ s with heap:=h',toks:=s.toks+1+1}) e c d (by decide) ⟨.str ⟨#[x.cps[x.length - 1 - i]]⟩,H,I1,⟨_,rfl⟩,⟨rfl,_,Array.getElem?_eq_getElem de,rfl⟩,jv,fun b hb=>(hf b hb).1⟩⟩
 done:=by
   intro X hP hw hK hc i pins s σ H E I hf st hg
   subst hP hw hK
   have hg:i=x.length:=hg
   subst hg
   obtain⟨f0,f1,f2,f3,f4,f5⟩:=hf it (by simp)
   have e1:(x.length:Int) - 1 - (x.length:Nat)=-1:=by omega
   rw[e1] at st
   exact sO (I.ok.hd hc) st fun h' eb=>⟨rfl,I.turned (t':=s.toks) (fun b o hb e=>eb b o hb e) f0 f1 f3 f4 f5⟩
 self:=fun _ _ _ _ _ st h=>sD st h
theorem Im:bootBuiltins "reversed"=some (.type "reversed"):=by decide +kernel
section
variable {X:Cx}{G:Gr}{dl:List Slot}{a:Expr}{x:Str}{p pos:Pos}
noncomputable def NH (ta:TA):TI:=fun σ H R=>ta σ H fun vs H1=>∃ x,vs=[.str x]/\(¬ (x.length:Int) >= 2 ^ 63)/\R (Us x) H1
theorem LP {tg:Expr}{ta:TA}(hm:X.mg "reversed"=none)(ha:PA X [a] ta)(hg:Gl X "reversed":=by rfl)(hs:starEach [a] X.env=[(false,eval a X.env)]:=by rfl):PI X tg (.Call (.Name "reversed" p) [a] [] pos) (NH ta):=by
 intro pins s σ H R I h
 refine Call_ (pH I hg hm Im (PyProof.Rows.callWith_type1 (bX (ha pos pins s σ H _ I h) fun us s1 ⟨vs,H1,I1,r1,q1⟩=>?_) hs rfl))
 obtain⟨x,e,uM,q⟩:=q1
 subst e
 cases r1 with
 | cons r rr=>
   cases rr
   obtain⟨t,rfl⟩:=(show ∃ t,_=Value.str x t from r)
   refine Fy uM (sD (x:=x) (t:=t) (i:=(x.length:Int) - 1) ⟨_,Heap.get?_push_size _ rfl,rfl,rfl⟩ ?_)
   refine⟨s1.heap.objs.size,[s1.heap.objs.size],_,_,H1,rfl,I1.kept (t':=s1.toks+1+1) fun b o e=>Heap.get?_push_of_some _ e,FA x t _ uM,?_,fun b hb=>?_,q⟩
   . have e:((x.length:Int) - 1)=(x.length:Int) - 1 - ((0:Nat):Int):=by omega
     rw[<- e]
     exact⟨_,Heap.get?_push_size _ rfl,rfl,rfl⟩
   . have e:b=s1.heap.objs.size:=by simpa using hb
     subst e
     exact I1.uE (Nat.le_refl _) (I1.a5.fresh (Nat.le_refl _))
theorem FC (hl:x.length<=1000000):qv X G dl (signs x).reverse (NH (Rz X.K G dl [.str x])):=fun st H R ⟨Hf,S,k⟩=>⟨Hf,S,fun vs Hf1 H1 g1 r1=>by
 cases r1 with
 | cons r t=>
   cases t
   cases r
   have Zs:=ow x
   refine⟨x,rfl,by omega,k _ Hf1 H1 g1 fun bO H2 s1 s2 i=>⟨fun z hz=>?_,fun hi=>?_⟩⟩
   . have hi:i < (signs x).length:=by
       have:=(List.getElem?_eq_some_iff.mp hz).1
       simpa using this
     rw[List.getElem?_reverse hi,signs_get,Zs] at hz
     refine⟨by show i < x.length;omega,fun v H3 hy=>?_⟩
     obtain⟨e1,c,e2,e3⟩:=hy
     subst e1 e3
     rw[e2] at hz
     cases hz
     exact⟨bO,.refl s2,.str _⟩
   . show i=x.length
     rw[hi,List.length_reverse,Zs]⟩
theorem xD {K:W.Frag}{H:Hp}:∀ {ds:List Dt} {d:Dt} {vs:List V},br K H vs (ds ++ [d])->∃ ws v,vs=ws ++ [v]/\br K H ws ds/\Rep K H v d
 | [],d,_,.cons r .nil=>⟨[],_,rfl,.nil,r⟩
 | e::ds,d,_,.cons r t=>by
   obtain⟨ws,v,e1,r1,r2⟩:=xD t
   exact⟨_::ws,v,by rw[e1];rfl,.cons r r1,r2⟩
variable {E:XK}{d:Dt}{ds:List Dt}{y z:Str}{px pn apos bW:Pos}
theorem Qj (m n:Nat)(hN:X.N.Nodup)(hd:dl[n]?=some (.own (.lst (ds ++ [d]))))(hm:X.N[m]?=some y:=by rfl)(hy:Loc X.env.scope y:=by first | exact Or.inl rfl | exact Or.inr rfl)(WV:X.N[n]?=some z:=by rfl)(hv:uA X.env.scope z:=by first | exact Or.inl rfl | exact Or.inr (Or.inl rfl) | exact Or.inr (Or.inr rfl))(md:(z == ("__debug__":Str))=false:=by decide)(lO:(z == ("__classdict__":Str))=false:=by decide)(jy:attributeBase (.Name z pn) "pop" X.env (eval (.Name z pn) X.env)=eval (.Name z pn) X.env:=by rfl)(jz:(apos.endLine == bW.line)=true:=by rfl)(hs:swapsWith (.Call (.Attribute (.Name z pn) "pop" apos) [] [] bW) (some (.Name y px)) pos.line X.env=pure false:=by rfl)(hf:X.fn y=true\/X.env.scope.names.lookup y=some .local:=by first | exact .inl rfl | exact .inr rfl | assumption):ES X G E dl (.Assign [.Name y px] (.Call (.Attribute (.Name z pn) "pop" apos) [] [] bW) pos) (.nx ((dl.set n (.own (.lst ds))).set m (.val d))):=
 sv (BY hN hm hy (GQ PySem.F.plainAttrs_list PySem.F.slot_list_pop PySem.F.type_list_pop OS (uY (G:=G) (p:=pn) n hd WV hv md lO) jy jz) hs hf) fun D st H ⟨Hf,S,k⟩=>by
   obtain⟨q,z1,z2,z3,vs,hq,rp⟩:=S.own n _ hd
   obtain⟨ws,v,ev,r1,r2⟩:=xD rp
   subst ev
   refine⟨Hf,q,S,z1,z2,⟨_,hq,rp⟩,.inl ⟨rfl,_,.of hq⟩,q,_,v,rfl,rfl,hq,by simp,k _ Hf _ (aE.refl _) ((S.E8 hd z1 (w':=.lst ds) ⟨_,ak,?_⟩).set r2)⟩
   rw[List.dropLast_concat];exact r1
end
section
variable {X:Cx}{G:Gr}{dl:List Slot}{a b e:Expr}{pos p:Pos}{ns ns':List Int}
theorem lS:∀ {ns:List Int} {aC:List Value},Vals (ns.map V.int) aC->IntsAre aC ns
 | [],_,r=>by cases r;exact .nil
 | n::ns,_,r=>by
   cases r with
   | cons h t=>obtain⟨tk,rfl⟩:=h;exact .cons _ tk (lS t)
theorem rL:∀ {ns:List Int} {aC:List Value},IntsAre aC ns->Vals (ns.map V.int) aC
 | [],_,r=>by cases r;exact .nil
 | n::ns,_,r=>by
   cases r with
   | cons n tk t=>exact .cons ⟨_,rfl⟩ (rL t)
theorem yG:jU X (.builtin "sorted") (fun xs H Q=>∃ (p:Addr) (ns ns':List Int),xs=[.ref p]/\mh X.K H p (ns.map V.int)/\ns.length < 64/\ns'.Perm ns/\ns'.Pairwise (·<=·)/\∀ l,H l=none->Q (.ref l) (upd H l (.lst (ns'.map V.int)))):=by
 intro pins s σ H xs us Q I r h
 obtain⟨p,ns,ns',rfl,hq,Zt,hp,ho,q⟩:=h
 obtain⟨u,rfl,rx⟩:=vals1 r
 cases rx
 obtain⟨aC,rv,pl,hz⟩:=I.list hq
 have hlen:=rv.length
 rw[List.length_map] at hlen
 refine sorted_ints (vs:=aC) pl.isList (lS rv) (by omega) fun out X4 a1 a2 a3=>?_
 have e:X4=ns':=W.ksm_same (a2.trans hp.symm) a3 ho
 subst e
 obtain⟨c,hc⟩:=sortedAll_at s.heap aC out
 have K0:=(rL a1).length
 rw[List.length_map] at K0
 have hl3:=hp.length_eq
 refine⟨.ref (s.heap.objs.size+1),_,I.laid (t':=s.toks) (fun b o=>sortedAll_old) (Nat.le_succ _) (show aJ X.prog X.w _ (sortedAll s.heap aC out) _ (.lst (X4.map V.int)) from⟨?_,out.toList,c,rL a1,?_⟩),rfl,q _ (I.a5.fresh (Nat.le_succ _))⟩
 . rw[List.length_map];exact Nat.le_trans (show X4.length<=64 by omega) (by decide)
 . exact hc
theorem boot_sorted:bootBuiltins "sorted"=some (.builtin "sorted"):=by decide +kernel
theorem xE {K:W.Frag}{H:Hp}:∀ ns:List Int,br K H (ns.map V.int) (ns.map Dt.int)
 | []=>.nil
 | n::ns=>.cons (.int n) (xE ns)
theorem FE (hm:X.mg "sorted"=none)(ha:EE X G dl a (.lst (ns.map .int)))(Zt:ns.length < 64)(hp:ns'.Perm ns)(ho:ns'.Pairwise (·<=·))(hg:Gl X "sorted":=by rfl)(he:starEach [a] X.env=[(false,eval a X.env)]:=by rfl):EO X G dl (.Call (.Name "sorted" p) [a] [] pos) (.lst (ns'.map .int)):=
 gh (fg yG hg hm boot_sorted (ae ha aj he) (by decide) (by decide) he rfl) fun st H Q ⟨Hf,S,k⟩=>⟨Hf,S,fun vs Hf1 H1 g1 r1=>by
   cases r1 with
   | cons r t=>cases t;cases r with
     | @lst q vs _ z r=>
       have ev:=pO r
       subst ev
       exact⟨q,ns,ns',rfl,.of (g1.sub _ _ z),Zt,hp,ho,fun l hl=>k l Hf1 _ (g1.trans (.dX g1.sub hl)) (g1.big.free hl) (g1.sub.free hl) ⟨_,ak,xE ns'⟩⟩⟩
end
theorem xF {K:W.Frag}{H:Hp}:∀ (ns:List Int),br K H (ns.map V.int) (ns.map Dt.int)
 | []=>.nil
 | n::r=>.cons (.int n) (xF r)
theorem qz {K:W.Frag}{H:Hp}:∀ {ns:List Int} {vs:List V},br K H vs (ns.map Dt.int)->vs=ns.map V.int
 | [],_,.nil=>rfl
 | n::r,_,.cons h t=>by cases h;rw[qz t];rfl
noncomputable def Gi (fs:List (Str×FD)):List (Str×Dt):=fs.map fun kd=>(kd.1,VB kd.2)
theorem D3 {K:W.Frag}{H:Hp}:∀ {fv:List (Str×V)} {fs:List (Str×FD)},Gm H fv fs->aX K H fv (Gi fs)
 | _,_,.nil=>.nil
 | _,_,.cons h t=>.cons (HY h) (D3 t)
theorem Io {K:W.Frag}{H:Hp}:∀ {fv:List (Str×V)} {fs:List (Str×FD)},aX K H fv (Gi fs)->Gm H fv fs
 | _,[],.nil=>.nil
 | _,(k,d)::fd,.cons h t=>.cons (Nx h) (Io t)
section
variable {X:Cx}{G:Gr}{E:XK}{dl:List Slot}{e:Expr}{sts:List Stmt}{ou:Out}{C:Addr}{fs:List (Str×FD)}{ns:List Int}{K':W.Frag}
theorem NI (h:EE X G dl e (.ip (.obj C fs))):EE X G dl e (.obj C (Gi fs)):=gh h fun st H Q ⟨Hf,S,k⟩=>⟨Hf,S,fun v Hf1 H1 g1 r1=>by
 cases r1 with
 | ip h=>cases h with
   | @obj a _ dx o fv _ e f=>exact k _ Hf1 H1 g1 (.obj (.inr (.inr (.inr ⟨o,e⟩))) (D3 f))⟩
theorem pS (h:EE X G dl e (.ip (.lst ns))):EE X G dl e (.oh ns):=gh h fun st H Q ⟨Hf,S,k⟩=>⟨Hf,S,fun v Hf1 H1 g1 r1=>by
 cases r1 with
 | ip h=>cases h with
   | @lst a o _ e=>exact k _ Hf1 H1 g1 (.oh (.inl (.inr (.inr (.inr ⟨o,e⟩)))))⟩
theorem Qk (h:EE X G dl e (.ip (.tup K' ns)))(hK:K'=X.K):EE X G dl e (.tup (ns.map .int)):=gh h fun st H Q ⟨Hf,S,k⟩=>⟨Hf,S,fun v Hf1 H1 g1 r1=>by
 subst hK
 cases r1 with
 | ip h=>cases h with
   | tup e=>exact k _ Hf1 H1 g1 (.tup e (xF _))⟩
theorem Ql (h:EE X G dl e (.tup (ns.map .int)))(hK:K'=X.K):EE X G dl e (.ip (.tup K' ns)):=gh h fun st H Q ⟨Hf,S,k⟩=>⟨Hf,S,fun v Hf1 H1 g1 r1=>by
 subst hK
 cases r1 with
 | tup s r=>
   rw[qz r] at s
   exact k _ Hf1 H1 g1 (.ip (.tup s))⟩
theorem Ip (h:EO X G dl e (.obj C (Gi fs))):EE X G dl e (.ip (.obj C fs)):=by
 intro pins s st H Q I ⟨Hf,S,kk⟩
 refine bX (h pins s st H (fun v H'=>∃ p aH,v=.ref p/\bb Hf H aH H'/\H p=none/\aH p=none/\gC X.K aH H' p (.obj C (Gi fs))) I ⟨Hf,S,fun p aH H' g n n' r=>⟨p,aH,rfl,g,n,n',r⟩⟩) fun u s1 ⟨v,H',I1,rv,q,aH,ev,g,n,n',dx,fv,hq,rp⟩=>?_
 subst ev
 obtain⟨hd,hz,ne,ho,mA,hr⟩:=(show aJ X.prog X.w H' s1.heap q (.ins C dx fv) from I1.a5 q _ hq)
 let ob:=W.instObj C dx
 have I2:L2.Inv X pins st (upd H' q (.kx ob (.ins C dx fv))) s1:=ml (h':=s1.heap) (t':=s1.toks) I1 (by rw[hq];trivial) ⟨rfl,fun _ _=>rfl⟩ ⟨ob,ho⟩ ⟨ho,⟨by rw[ag ne];exact hd,hz,ne,ho,mA,hr⟩⟩
 have sm:aE aH (upd aH q (.kx ob (.ins C dx fv))):=bI n'
 refine⟨.ref q,_,I2,rv,kk _ (upd aH q (.kx ob (.ins C dx fv))) _ ⟨fun b o hb=>?_,g.bC.trans sm,cS g.sub,fun b o hb=>?_⟩ (.ip (.obj ak ((Io rp).st fun b u e _=>sm b u e)))⟩
 . rw[ag (aw hb n)];exact g.big _ _ hb
 . by_cases e:b=q
   . subst e;exact .inr (.inl n)
   . rw[ag e] at hb;exact g.new b o hb
theorem Qm (h:EO X G dl e (.lst (ns.map .int))):EE X G dl e (.ip (.lst ns)):=by
 intro pins s st H Q I ⟨Hf,S,kk⟩
 refine bX (h pins s st H (fun v H'=>∃ p aH,v=.ref p/\bb Hf H aH H'/\H p=none/\aH p=none/\gC X.K aH H' p (.lst (ns.map .int))) I ⟨Hf,S,fun p aH H' g n n' r=>⟨p,aH,rfl,g,n,n',r⟩⟩) fun u s1 ⟨v,H',I1,rv,q,aH,ev,g,n,n',vs,hq,rp⟩=>?_
 subst ev
 have ev:=qz rp
 subst ev
 obtain⟨hz,aC,c,r,ho⟩:=(show aJ X.prog X.w H' s1.heap q (.lst (ns.map V.int)) from I1.a5 q _ hq)
 let ob:Obj:={ cls:=.type "list",data:=.seq aC.toArray c}
 have I2:L2.Inv X pins st (upd H' q (.kx ob (.lst (ns.map V.int)))) s1:=ml (h':=s1.heap) (t':=s1.toks) I1 (by rw[hq];trivial) ⟨rfl,fun _ _=>rfl⟩ ⟨ob,ho⟩ ⟨ho,hz,aC,c,r,ho⟩
 have sm:aE aH (upd aH q (.kx ob (.lst (ns.map V.int)))):=bI n'
 refine⟨.ref q,_,I2,rv,kk _ (upd aH q (.kx ob (.lst (ns.map V.int)))) _ ⟨fun b o hb=>?_,g.bC.trans sm,cS g.sub,fun b o hb=>?_⟩ (.ip (.lst ak))⟩
 . rw[ag (aw hb n)];exact g.big _ _ hb
 . by_cases e:b=q
   . subst e;exact .inr (.inl n)
   . rw[ag e] at hb;exact g.new b o hb
theorem tV (n:Nat)(h:me X G E (dl.set n (.val (.ip (.lst ns)))) sts ou)(hd:dl[n]?=some (.own (.lst (ns.map .int))):=by rfl):me X G E dl sts ou:=by
 intro pins s st H D I ⟨Hf,S,k⟩
 have ln:=S.len
 obtain⟨q,h1,h2,h3,vs,h4,h5⟩:=S.own n _ hd
 have ev:=qz h5
 subst ev
 have hl:n < dl.length:=(List.getElem?_eq_some_iff.mp hd).1
 obtain⟨hz,aC,c,r,ho⟩:=(show aJ X.prog X.w H s.heap q (.lst (ns.map V.int)) from I.a5 q _ h4)
 let ob:Obj:={ cls:=.type "list",data:=.seq aC.toArray c}
 have I':L2.Inv X pins st (upd H q (.kx ob (.lst (ns.map V.int)))) s:=ml (h':=s.heap) (t':=s.toks) I (by rw[h4];trivial) ⟨rfl,fun _ _=>rfl⟩ ⟨ob,ho⟩ ⟨ho,hz,aC,c,r,ho⟩
 have sm:aE Hf (upd Hf q (.kx ob (.lst (ns.map V.int)))):=bI h2
 refine h pins s st _ D I' ⟨upd Hf q (.kx ob (.lst (ns.map V.int))),⟨⟨fun b o hb=>?_,S.gr.bC.trans sm,cS S.sub,fun c o hc=>?_⟩,by simp[S.len],fun j y hj=>?_,fun j o' hj=>?_,fun j m o1 o2 c q1 q2 q3 q4=>?_⟩,k.mono sm⟩
 . rw[ag (aw hb h3)];exact S.gr.big _ _ hb
 . by_cases hb:c=q
   . subst hb;exact .inr (.inl h3)
   . rw[ag hb] at hc;exact S.gr.new c o hc
 . by_cases e:n=j
   . subst e
     rw[List.getElem?_set_self hl] at hj;cases hj
     exact⟨_,h1,.ip (.lst ak)⟩
   . rw[List.getElem?_set_ne e] at hj
     obtain⟨v,z1,z2⟩:=S.val j y hj
     exact⟨v,z1,z2.mono sm⟩
 . by_cases e:n=j
   . subst e;rw[List.getElem?_set_self hl] at hj;cases hj
   . rw[List.getElem?_set_ne e] at hj
     obtain⟨c,z1,z2,z3,z4⟩:=S.own j o' hj
     have ne:c≠q:=fun z=>by subst z;exact e (S.E7 n j _ _ _ hd hj h1 z1)
     exact⟨c,z1,by rw[ag ne];exact z2,z3,z4.grow (ag ne) sm⟩
 . have nj:n≠j:=fun e=>by subst e;rw[List.getElem?_set_self hl] at q1;cases q1
   have nm:n≠m:=fun e=>by subst e;rw[List.getElem?_set_self hl] at q2;cases q2
   rw[List.getElem?_set_ne nj] at q1
   rw[List.getElem?_set_ne nm] at q2
   exact S.E7 j m o1 o2 c q1 q2 q3 q4
theorem LQ {zs:List Int}:Hk X G dl zs.length (fun k=>(zs.map Dt.int).getD k .cP) (Gz X.K (tD X.K G dl (.oh zs))):=fun st H R ⟨Hf,S,k⟩=>⟨Hf,S,fun v Hf1 H1 g1 r1=>by
 cases r1 with
 | @oh q _ hq=>
   refine⟨q,rfl,⟨_,g1.sub.seq hq⟩,k _ Hf1 H1 g1 fun bO H2 g2 i=>⟨fun hi=>?_,fun hi=>⟨_,g2.big.seq (g1.sub.seq hq),by rw[List.length_map];omega⟩⟩⟩
   have hs:mh X.K H2 q (zs.map V.int):=g2.big.seq (g1.sub.seq hq)
   have z1:(zs.map V.int)[i]?=some (.int zs[i]):=by rw[List.getElem?_map,List.getElem?_eq_getElem hi];rfl
   refine⟨⟨_,_,hs,z1⟩,fun v H3 hy=>?_⟩
   obtain⟨e1,e2⟩:=hy
   have e2:=e2 _ hs
   rw[z1] at e2;cases e2
   refine⟨e1,?_⟩
   have e3:(zs.map Dt.int).getD i .cP=.int zs[i]:=by rw[List.getD_eq_getElem?_getD,List.getElem?_map,List.getElem?_eq_getElem hi];rfl
   show Rep _ _ _ ((zs.map Dt.int).getD i .cP)
   rw[e3];exact .int _⟩
theorem A1 {x:Str}{p pos:Pos}(M:Pa X.K C)(hm:X.mg x=some (.ref C))(hg:Gl X x:=by rfl)(md:(x == ("__debug__":Str))=false:=by decide):EE X G dl (.Call (.Name x p) [] [] pos) (.ip (.obj C [])):=by
 refine Ip (fs:=[]) ?_
 intro pins s st H Q I ⟨Hf,S,k⟩
 refine wpAny_Call_Name_kw (tH I hg hm ?_ md)
 refine W.callWith_K0 I.mf M.kp (Fc M I fun x dx hx Tp ne=>?_)
 have Dq:(upd H dx (.own x)) x=none:=by rw[ag (Ne.symm ne)];exact hx
 have g1:bb Hf H Hf (upd H dx (.own x)):=.dX S.sub Tp
 have g2:bb Hf (upd H dx (.own x)) Hf (upd (upd H dx (.own x)) x (.ins C dx [])):=.dX g1.sub Dq
 exact k _ _ _ (g1.trans g2) hx (S.sub.free hx) ⟨dx,[],ak,.nil⟩
end
noncomputable def iy (H:Hp)(p q1:Addr)(u1 u3:HO):Hp:=upd (upd H p u1) q1 u3
section
variable {X:Cx}{pins:List (Addr×Obj)}{σ:L2.St}{H:Hp}{s:Shared}{p q1:Addr}{mW:List (Key×V)}{f:Nat->List (Key×FD)}
theorem Inv.LR (I:L2.Inv X pins σ H s)(hp:H p=some (.lst [.ref q1]))(Kq:H q1=some (.dK mW))(f1:qU H mW (f 0)):∃ o1,L2.Inv X pins σ (iy H p q1 (.memo [(p,f)]) (.kd (some (p,0)) o1 mW)) s:=by
 obtain⟨z1,i1,c1,r1,e1⟩:=(show aJ X.prog X.w H s.heap p (.lst [.ref q1]) from I.a5 p _ hp)
 obtain⟨LK,lo1,Xv,Xw,o1,Xx,Xy,Ui,Xz⟩:=(show aJ X.prog X.w H s.heap q1 (.dK mW) from I.a5 q1 _ Kq)
 obtain⟨u1,rfl,w1⟩:=vals1 r1
 cases (show u1=Value.ref q1 from w1)
 refine⟨o1,?_⟩
 have m1:p≠q1:=fun z=>by rw[z,Kq] at hp;cases hp
 generalize LL:iy H p q1 (.memo [(p,f)]) (.kd (some (p,0)) o1 mW)=H'
 have Uj:H' p=some (.memo [(p,f)]):=by rw[<- LL];unfold iy;rw[ag m1,ak]
 have Ii:H' q1=some (.kd (some (p,0)) o1 mW):=by rw[<- LL];unfold iy;rw[ak]
 have Cz:∀ b,b≠p->b≠q1->H' b=H b:=fun b a1 a3=>by rw[<- LL];unfold iy;rw[ag a3,ag a1]
 have sM:∀ b o,H b=some o->Zl o=false->H' b=some o:=fun b o e n=>by
   rw[Cz b (fun z=>by rw[z,hp] at e;cases e;cases n) (fun z=>by rw[z,Kq] at e;cases e;cases n)]
   exact e
 have kp:Kp H H':=⟨fun b o e kq=>sM b _ e (by cases o <;> first | rfl | exact(show False from kq).elim),fun b e=>by
   cases q:H b with
   | none=>rw[q] at e;exact e.elim
   | some u=>
     rw[q] at e
     rw[sM b u q (by cases u <;> first | rfl | exact e.elim)]
     exact e,fun b x e=>sM b _ e rfl⟩
 refine I.un (h':=s.heap) (t':=s.toks) ⟨fun b o e _ _ _=>e,fun b o e _ _ _=>⟨o.slots,e⟩,fun b o e n _=>?_,fun b o e _=>⟨o,e⟩,fun b xs e=>sM b _ e rfl,fun b o u e=>sM b _ e rfl,fun b ps e=>⟨#[],by rw[sM b _ e rfl];simp⟩⟩ fun b u e=>?_
 . rw[Cz b (fun z=>by rw[z,hp] at n;cases n) (fun z=>by rw[z,Kq] at n;cases n)]
   exact n
 . by_cases b1:b=p
   . subst b1
     rw[Uj] at e;cases e
     refine⟨⟨_,e1⟩,1,by decide,⟨f,rfl⟩,rfl,fun j a h hj=>?_,by simp,fun n hn=>by rw[List.mem_replicate] at hn;omega,fun j a h n hj hn=>?_⟩
     . match j,hj with
       | 0,hj=>cases hj;exact .inl rfl
     . match j,hj,hn with
       | 0,hj,hn=>
         cases hj;cases hn
         refine⟨_,_,e1,rfl,fun i hi=>?_⟩
         have:i=0:=by omega
         subst this
         exact⟨q1,o1,mW,rfl,Ii,f1.kp kp⟩
   . by_cases b3:b=q1
     . subst b3;rw[Ii] at e;cases e
       refine⟨Ui,⟨LK,lo1,Xv,Xw,o1,Xx,Xy,Ui,Xz⟩,fun a i ht=>?_⟩
       cases ht
       exact⟨by rw[Uj];trivial,_,_,e1,rfl⟩
     . rw[Cz b b1 b3] at e
       exact(I.a5 b u e).xS (fun _ _ _ q=>q) (fun c q=>sM c _ q rfl) (fun c xs q=>sM c _ q rfl) kp
end
section
variable {X:Cx}{G:Gr}{E:XK}{e1:Expr}{fs:List (Str×Dt)}{z C:Addr}{tl:List Slot}{f:Nat->List (Key×FD)}{n0 x0:Str}{Qa Qb Qc q1:Pos}
theorem wq (no:noOwn tl=true)(cl:tL X.K C)(P0:bF X.K C n0)(XD:EO X G (.own (.Aq z C fs)::tl) e1 (.eB (m9 (f 0))))(Qd:∀ p ls,putD n0 (.memo p ls 0 1) fs=su fs [n0] p ls 1:=by intro _ _;rfl)(hlen:Nat.ble fs.length 990=true:=by rfl)(hN:X.N[0]?=some x0:=by rfl)(hv:uA X.env.scope x0:=by first | exact Or.inl rfl | exact Or.inr (Or.inl rfl) | exact Or.inr (Or.inr rfl))(md:(x0 == ("__debug__":Str))=false:=by decide)(lO:(x0 == ("__classdict__":Str))=false:=by decide)(yD:starEach [e1] X.env=[(false,eval e1 X.env)]:=by rfl)(Gd:swapsWith (.List [e1] Qc) (some (.Attribute (.Name x0 Qa) n0 Qb)) q1.line X.env=pure false:=by rfl):me X G E (.own (.Aq z C fs)::tl) [.Assign [.Attribute (.Name x0 Qa) n0 Qb] (.List [e1] Qc) q1] (.nx (.own (.yb z C fs [f] [n0] 1)::tl)):=by
 intro pins s st H D I ⟨Hf,S,k⟩
 have base:=mi (uH (pos:=q1) (pos':=Qb) (i0 (pos:=Qa) hN hv md lO) (uI (pos:=Qc) (lb XD nB yD)) Gd)
 let RQ:L2.St->Hp->Prop:=fun jv H'=>∃ p a1 mW,H' p=some (.lst [.ref a1])/\H' a1=some (.dK mW)/\qU H' mW (f 0)/\∀ o1,D.nx jv (iy H' p a1 (.memo [(p,f)]) (.kd (some (p,0)) o1 mW))
 refine bX (base pins s st H { D with nx:=RQ} I ?_) fun fl s7 q7=>?_
 . obtain⟨za,hz,XE,RH,ez,dx,fv,LM,rf⟩:=S.own 0 _ rfl
   subst ez
   refine⟨Hf,S,fun a1 Hf1 H1 g1 Ul Qe ⟨mW,PF,XG⟩=>⟨Nat.le_of_ble_eq_true rfl,fun p hp=>?_⟩⟩
   have LK:H1 za=some (.ins C dx fv):=g1.big _ _ LM
   have Kr:za≠p:=aw LK hp
   have Um:a1≠p:=aw PF hp
   have NC:za≠a1:=fun w=>by rw[w,Ul] at LM;cases LM
   have XH:(upd H1 p (.lst [.ref a1])) za=some (.ins C dx fv):=by rw[ag Kr];exact LK
   refine⟨_,hz,za,C,dx,fv,rfl,XH,cl,P0,by rw[rf.length];exact Nat.lt_of_le_of_lt (Nat.le_of_ble_eq_true hlen) (by decide),?_⟩
   let H4:Hp:=upd (upd H1 p (.lst [.ref a1])) za (.ins C dx (ff n0 (.ref p) fv))
   have Fx:Hf1 za=none:=g1.kN XE LM
   have XI:bb Hf1 H1 Hf1 (upd H1 p (.lst [.ref a1])):=.dX g1.sub hp
   have S0:dJ X.K G st Hf H (.bw::tl):=S.weak ⟨rfl,fun i s' e n=>by
     cases i with
     | zero=>cases e;exact absurd rfl n
     | succ i=>exact e⟩
   have VM:noOwn (.bw::tl)=true:=no
   have S4:dJ X.K G st Hf1 H4 (.bw::tl):=oy ((S0.grow g1).grow XI) VM Fx RH
   have XT:H4 za=some (.ins C dx (ff n0 (.ref p) fv)):=ak
   have XQ:H4 p=some (.lst [.ref a1]):=by show(upd (upd H1 p _) za _) p=_;rw[ag (Ne.symm Kr),ak]
   have Qh:H4 a1=some (.dK mW):=by show(upd (upd H1 p _) za _) a1=_;rw[ag (Ne.symm NC),ag Um];exact PF
   have VQ:Hf1 p=none:=g1.sub.free hp
   have yE:aE Hf1 H4:=fun b o e=>by
     have b1:b≠za:=fun w=>by rw[w,Fx] at e;cases e
     have b2:b≠p:=fun w=>by rw[w,VQ] at e;cases e
     show(upd (upd H1 p _) za _) b=_
     rw[ag b1,ag b2];exact g1.sub _ _ e
   have gp:G.H p=none:=S.gr.big.free (g1.big.free hp)
   have Uq:G.H a1=none:=S.gr.big.free Ul
   have Ur:qU Hf1 mW (f 0):=pP XG
   refine⟨p,a1,mW,XQ,Qh,fS (fun b u e _=>yE _ _ e) Ur,fun o1=>?_⟩
   let ls:jL:=[(p,f)]
   let u1:HO:=.memo ls
   let u3:HO:=.kd (some (p,0)) o1 mW
   have m1:p≠a1:=Ne.symm Um
   have cat:∀ (B:Hp),iy B p a1 u1 u3 p=some u1/\iy B p a1 u1 u3 a1=some u3:=fun B=>by
     unfold iy
     refine⟨?_,?_⟩
     . rw[ag m1,ak]
     . rw[ak]
   have vg:∀ (B:Hp) b,b≠p->b≠a1->iy B p a1 u1 u3 b=B b:=fun B b c1 c3=>by unfold iy;rw[ag c3,ag c1]
   let wa:Hp:=iy Hf1 p a1 u1 u3
   have Gh:aE Hf1 wa:=fun b o e=>by
     show iy Hf1 p a1 u1 u3 b=some o
     rw[vg Hf1 b (fun w=>by rw[w,VQ] at e;cases e) (fun w=>by rw[w,Qe] at e;cases e)]
     exact e
   have key:∀ (A B:Hp),aE A B->aE (iy A p a1 u1 u3) (iy B p a1 u1 u3):=fun A B sm=>cS (cS sm)
   have Qi:aE wa (iy H4 p a1 u1 u3):=key _ _ yE
   have Ij:aX X.K wa (ff n0 (.ref p) fv) (su fs [n0] p ls 1):=by
     rw[<- Qd p ls]
     refine(rf.mono (g1.bC.trans Gh)).put (f:=n0) (d:=.memo p ls 0 1) ?_
     refine .memo (f:=f) rfl (cat Hf1).1 (.inl rfl) fun i hi=>?_
     have:i=0:=by omega
     subst this
     exact⟨a1,o1,mW,(cat Hf1).2,fS (fun b u e _=>Gh _ _ e) Ur⟩
   have XY:iy H4 p a1 u1 u3 za=some (.ins C dx (ff n0 (.ref p) fv)):=by rw[vg H4 za Kr NC];exact XT
   have XZ:wa za=none:=by show iy Hf1 p a1 u1 u3 za=none;rw[vg Hf1 za Kr NC];exact Fx
   refine k st wa _ (g1.bC.trans Gh) ⟨⟨fun b o e=>?_,S4.gr.bC.trans Gh,Qi,fun b o e=>?_⟩,by have:=S4.len;simpa using this,fun i d h=>?_,fun i o h=>?_,fun i j o o' a w1 w2=>?_⟩
   . rw[vg H4 b (fun w=>by rw[w,gp] at e;cases e) (fun w=>by rw[w,Uq] at e;cases e)]
     exact S4.gr.big _ _ e
   . by_cases c1:b=p
     . rw[c1];exact .inr (.inl gp)
     . by_cases c3:b=a1
       . rw[c3];exact .inr (.inl Uq)
       . have e:iy Hf1 p a1 u1 u3 b=some o:=e
         rw[vg Hf1 b c1 c3] at e
         exact S4.gr.new b o e
   . cases i with
     | zero=>cases h
     | succ i=>
       obtain⟨w,w1,w2⟩:=S4.val (i+1) d h
       exact⟨w,w1,w2.mono Gh⟩
   . cases i with
     | zero=>
       cases h
       exact⟨za,hz,XZ,RH,rfl,dx,_,p,ls,rfl,XY,Ij⟩
     | succ i=>exact absurd h (aQ no i o)
   . cases i with
     | zero=>cases j with
       | zero=>exact fun _ _=>rfl
       | succ j=>exact absurd w2 (aQ no j o')
     | succ i=>exact absurd w1 (aQ no i o)
 . cases fl with
   | next=>
     obtain⟨σ7,H7,I7,p,a1,mW,y1,y3,y5,kk⟩:=q7
     obtain⟨o1,I8⟩:=Inv.LR I7 y1 y3 y5
     exact⟨σ7,_,I8,kk o1⟩
   | cont=>exact q7
   | brk=>exact q7
   | ret v=>exact q7
end
section
variable {X:Cx}{G0:Gr}{E:XK}{fs:List (Str×Dt)}{l C:Addr}{ls:jL}{n N:Nat}{tl:List Slot}{f:Nat->List (Key×FD)}{n0 x0 xg:Str}{p1 p2 p3 a1 c1 q1:Pos}
theorem A2 (ng:Nat)(hs:j5 l fs=true)(ht:qy l tl=true)(hu:tl[ng]?=some .bw)(oH:ls.map (·.2)=[f])(hN:N < 9000)(cl:tL X.K C)(P0:bF X.K C n0)(hA:G0.Hf l=some (.memo ls))(hB:G0.H l=some (.memo ls))
   (RF:(oZ fs [n0] l ls n).lookup n0=some (.dH l ls 0 n):=by rfl)
   (RE:X.N[0]?=some x0:=by rfl) (VC:uA X.env.scope x0:=by first | exact Or.inl rfl | exact Or.inr (Or.inl rfl) | exact Or.inr (Or.inr rfl)) (VD:(x0 == ("__debug__":Str))=false:=by decide) (VE:(x0 == ("__classdict__":Str))=false:=by decide)
   (Xe:X.N[ng+1]?=some xg:=by rfl) (Xf:uA X.env.scope xg:=by first | exact Or.inl rfl | exact Or.inr (Or.inl rfl) | exact Or.inr (Or.inr rfl)) (Xg:(xg == ("__debug__":Str))=false:=by decide) (Xh:(xg == ("__classdict__":Str))=false:=by decide)
   (T8:attributeBase (.Name x0 p1) n0 X.env (eval (.Name x0 p1) X.env)=eval (.Name x0 p1) X.env:=by rfl)
   (CA:attributeBase (.Attribute (.Name x0 p1) n0 p2) "append" X.env (eval (.Attribute (.Name x0 p1) n0 p2) X.env)=eval (.Attribute (.Name x0 p1) n0 p2) X.env:=by rfl)
   (Ie:((backTo c1 (starEach [.Name xg p3] X.env)).all (fun x=>!x.1) && (backToKw c1 (keywordEach [] X.env)).all (fun x=>x.1.isSome) && decide ([Expr.Name xg p3].length+([]:List Keyword).length+(if ([]:List Keyword).isEmpty then 0 else 1) < 30))=true:=by rfl)
   (CB:(a1.endLine == c1.line)=true:=by rfl) (yD:starEach [.Name xg p3] X.env=(false,eval (.Name xg p3) X.env)::starEach [] X.env:=by rfl)
   (Gd:swapsWith (.Call (.Attribute (.Attribute (.Name x0 p1) n0 p2) "append" a1) [.Name xg p3] [] c1) none q1.line X.env=pure false:=by rfl) :
   me X (T7 G0 l (.bA ls (List.replicate ls.length N))) E (.val (.obj C (oZ fs [n0] l ls n))::tl.set ng (.own (.eB (m9 (f N)))))
     [.Expr (.Call (.Attribute (.Attribute (.Name x0 p1) n0 p2) "append" a1) [.Name xg p3] [] c1) q1] (.raw (RM X.K G0 C fs [n0] l ls n tl (N+1))):=by
 refine Ar (mi (k8 (uK PySem.F.plainAttrs_list PySem.F.slot_list_append PySem.F.type_list_append pQ (uG (i0 (pos:=p1) RE VC VD VE) T8) (lb (i0 (pos:=p3) Xe Xf Xg Xh) nB yD) CA Ie CB yD rfl) Gd)) fun D st H ⟨Hf,S,k⟩=>?_
 have e2:ls.length=1:=by have:=congrArg List.length oH;simpa using this
 have eR:∀ M:Nat,List.replicate ls.length M=[M]:=fun M=>by rw[e2];rfl
 rw[eR] at S
 have Ub:ng < tl.length:=(List.getElem?_eq_some_iff.mp hu).1
 obtain⟨v0,hv,rv⟩:=S.val 0 _ rfl
 cases rv with
 | @obj sa _ dx fv _ P4 rf=>
   obtain⟨oa,CC,VF,_,back⟩:=Rd.ex P4
   have P5:Hf l=some (.bA ls [N]):=S.gr.bC _ _ ak
   have NA:H l=some (.bA ls [N]):=S.sub _ _ P5
   have hm:bY Hf l ls:=.inr ⟨_,P5⟩
   obtain⟨y0,Xj,Xk⟩:=rf.lookup RF
   obtain⟨qa,hq,Uc,Xl,kvs,NB,rk⟩:=S.own (ng+1) (.eB (m9 (f N))) (by show(tl.set ng _)[ng]?=_;rw[List.getElem?_set_self Ub])
   cases Xk with
   | @dH _ p _ _ _ f0 AS _ Xm _=>
       have Xo:f0=f:=by
         have:=congrArg (fun z=>z[0]?) oH
         simp only[List.getElem?_map,AS] at this
         exact Option.some.inj this
       subst Xo
       have VG:qU H kvs (f0 N):=fS (fun b u e _=>S.sub _ _ e) (pP rk)
       have Xp:qa≠l:=fun z=>by rw[z,NA] at NB;cases NB
       have Ud:sa≠l:=fun z=>by rw[z,P5] at CC;cases CC;cases VF
       have Zh:sa≠qa:=fun z=>by rw[z,Uc] at CC;cases CC
       refine⟨_,hv,sa,C,dx,fv,_,rfl,back _ (S.sub _ _ CC),cl,P0,Xj,.inr (.inr (.inr (.inr ⟨rfl,l,ls,[N],0,f0,N,NA,AS,rfl⟩))),_,hq,l,ls,[N],0,p,f0,N,qa,kvs,rfl,rfl,NA,AS,rfl,hN,NB,VG,fun oq=>?_⟩
       let H6:Hp:=upd (upd H l (.bA ls ([N].set 0 (N+1)))) qa (.kd (some (p,N)) oq kvs)
       show D.nx st H6
       have Xr:H6 l=some (.bA ls [N+1]):=by show(upd (upd H l _) qa _) l=_;rw[ag (Ne.symm Xp),ak];rfl
       have Ug:∀ b o,H b=some o->b≠l->b≠qa->(upd H6 l (.memo ls)) b=some o:=fun b o e n1 n2=>by
         rw[ag n1]
         show(upd (upd H l _) qa _) b=_
         rw[ag n2,ag n1];exact e
       have Xs:∀ b o,Hf b=some o->b≠qa:=fun b o e z=>by rw[z,Uc] at e;cases e
       have Ig:aE (upd Hf l (.memo ls)) (upd H6 l (.memo ls)):=fun b o e=>by
         by_cases bl:b=l
         . rw[bl,ak] at e ⊢;exact e
         . rw[ag bl] at e;exact Ug b o (S.sub _ _ e) bl (Xs b o e)
       have Ih:=fR Ig
       have g6:bb G0.Hf G0.H (i7 (upd Hf l (.memo ls)) (upd H6 l (.memo ls))) (upd H6 l (.memo ls)):=by
         refine⟨fun b o e=>?_,fun b o e=>?_,nJ Ig,fun b o e=>?_⟩
         . by_cases bl:b=l
           . rw[bl,hB] at e;cases e;rw[bl];exact ak
           . have h3:H b=some o:=S.gr.big _ _ (by show(upd G0.H l _) b=_;rw[ag bl];exact e)
             have Xt:b≠qa:=fun z=>by
               have:(upd G0.H l (.bA ls [N])) qa=none:=Xl
               rw[<- z,ag bl,e] at this;cases this
             exact Ug b o h3 bl Xt
         . by_cases bl:b=l
           . rw[bl,hA] at e;cases e;rw[bl];exact Ih _ _ ak
           . have h3:Hf b=some o:=S.gr.bC _ _ (by show(upd G0.Hf l _) b=_;rw[ag bl];exact e)
             exact Ih _ _ (by rw[ag bl];exact h3)
         . rcases oC (Hf:=upd Hf l (.memo ls)) (H:=upd H6 l (.memo ls)) b with⟨u',z1,z2,z3⟩ | z
           . rw[z3] at e;cases e;exact .inr (.inr z2)
           . rw[z] at e
             by_cases bl:b=l
             . rw[bl];exact .inl ⟨_,hA⟩
             . rw[ag bl] at e
               rcases S.gr.new b o e with⟨O2,y⟩ | y | y
               . have y:(upd G0.Hf l _) b=some O2:=y
                 rw[ag bl] at y;exact .inl ⟨O2,y⟩
               . have y:(upd G0.H l _) b=none:=y
                 rw[ag bl] at y;exact .inr (.inl y)
               . exact .inr (.inr y)
       have P7:∀ {v:V} {d:Dt},rH l d=true->Rep X.K Hf v d->Rep X.K (i7 (upd Hf l (.memo ls)) (upd H6 l (.memo ls))) v d:=fun {v d} hn r=>(iw hm (.inl rfl) hn r).mono Ih
       refine k st H6 ⟨by rw[eR];exact Xr,_,⟨g6,by have:=S.len;simpa using this,fun i d h=>?_,fun i o h=>?_,fun i j o o' a h=>?_⟩⟩
       . cases i with
         | zero=>
           cases h
           refine⟨_,hv,.obj (back _ (Ih _ _ (by rw[ag Ud];exact CC))) ?_⟩
           exact(Nz hs hm rf).mono Ih
         | succ i=>
           have h:tl[i]?=some (.val d):=h
           have e:ng≠i:=fun z=>by rw[<- z,hu] at h;cases h
           obtain⟨w,w1,w2⟩:=S.val (i+1) d (by show(tl.set ng _)[i]?=_;rw[List.getElem?_set_ne e];exact h)
           exact⟨w,w1,P7 (lX ht h) w2⟩
       . cases i with
         | zero=>cases h
         | succ i=>exact absurd h (aQ (gF ht) i o)
       . cases i with
         | zero=>cases h
         | succ i=>exact absurd h (aQ (gF ht) i o)
end
noncomputable abbrev RI (g:Str)(C':Addr)(fs':List (Str×Dt))(nm':List Str)(l':Addr)(ls':jL)(n':Nat):List (Str×Dt):=[(g,.obj C' (su fs' nm' l' ls' n'))]
section
variable {X:Cx}{G:Gr}{E:XK}{dl:List Slot}{e:Expr}{pos:Pos}{sts:List Stmt}{o:Out}{C C' l l':Addr}{ls ls':jL}{n n' m:Nat}{nm nm':List Str}{fs':List (Str×Dt)}{g:Str}{tl:List Slot}{K:W.Frag}{Hf H:Hp}{st:L2.St}
theorem D4 {fv:List (Str×V)}(r:aX K Hf fv (su (RI g C' fs' nm' l' ls' n') nm l ls n)):∃ v f2,fv=(g,v)::f2/\Rep K Hf v (.obj C' (su fs' nm' l' ls' n'))/\aX K Hf f2 ((List.range nm.length).map fun j=>(nm.getD j "",.memo l ls j n)):=by
 have r:aX K Hf fv ((g,.obj C' (su fs' nm' l' ls' n'))::(List.range nm.length).map fun j=>(nm.getD j "",.memo l ls j n)):=r
 cases r with
 | cons h t=>exact⟨_,_,rfl,h,t⟩
theorem FF (i:Nat)(hn:0 < nm.length)(Rt:0 < nm'.length)(hl:ls'.length≠ls.length)(h:l'≠l->me X G E dl sts o)(hd:dl[i]?=some (.val (.obj C (su (RI g C' fs' nm' l' ls' n') nm l ls n))):=by rfl):me X G E dl sts o:=by
 intro pins s st H D I ⟨Hf,S,k⟩
 obtain⟨v,hv,rv⟩:=S.val i _ hd
 refine h ?_ pins s st H D I ⟨Hf,S,k⟩
 cases rv with
 | obj q r=>
   obtain⟨v',f2,_,r1,r2⟩:=D4 r
   have h1:=vf hn r
   cases r1 with
   | obj q' r'=>
     have h2:=vf Rt r'
     intro z
     rw[z,h1] at h2
     have:=HO.memo.inj (Option.some.inj h2)
     exact hl (by rw[this])
theorem FG (he:EE X G (.val (.obj C (su (RI g C' fs' nm' l' ls' n') nm l ls n))::tl) e (.tM l' ls' m))(hs:swapsWith e none pos.line X.env=pure false:=by rfl):ES X G E (.val (.obj C (su (RI g C' fs' nm' l' ls' n') nm l ls n))::tl) (.Expr e pos) (.nx (.val (.obj C (su (RI g C' fs' nm' l' ls' m) nm l ls n))::tl)):=
 sv (k8 he hs) fun D st H ⟨Hf,S,k⟩=>⟨Hf,S,fun v Hf1 H1 g1 r1=>by
   have S1:=S.grow g1
   cases r1 with
   | tM kn=>
     refine k st Hf1 H1 g1.bC ⟨S1.gr,S1.len,fun i d h=>?_,fun i o h=>S1.own i o ?_,fun i j o o' a h1 h2=>S1.E7 i j o o' a ?_ ?_⟩
     . cases i with
       | zero=>
         cases h
         obtain⟨v,hv,rv⟩:=S1.val 0 _ rfl
         cases rv with
         | obj q r=>
           obtain⟨v',f2,ef,r1,r2⟩:=D4 r
           subst ef
           cases r1 with
           | obj q' r'=>exact⟨_,hv,.obj q (.cons (.obj q' (AX kn r')) r2)⟩
       | succ i=>exact S1.val (i+1) d h
     . cases i with
       | zero=>cases h
       | succ i=>exact h
     . cases i with
       | zero=>cases h1
       | succ i=>exact h1
     . cases j with
       | zero=>cases h2
       | succ j=>exact h2⟩
end
noncomputable def X5 (K:PySem.W.Frag)(n:Nat)(t:KH):TG:=fun v σ H Q=>∃ a xs,v=.ref a/\mh K H a xs/\xs.length=n/\t xs σ H Q
theorem Qn {X:Cx}{es:List Expr}{k:Nat}{t:KH}{n:Nat}{pos:Pos}(hc:X.calm=true)(h:R3 X es t)(hn:(assignEach es X.env).length=n:=by rfl)(m7:(assignEach es X.env).findIdx? (·.1)=none:=by rfl):PG X (.Tuple es k pos) (X5 X.K n t):=by
 intro pins s σ H v u Q I r hw
 obtain⟨a,xs,e1,hq,hl,hw⟩:=hw
 subst e1
 cases r
 obtain⟨aC,rv,hp,hz⟩:=I.list hq
 obtain⟨o,m,e,h1,h2,h3⟩:=hp
 have hL:s.heap.IsList a aC.toArray:=⟨o,e,h1,m,h3⟩
 rw[assign_Tuple]
 refine wpAny_bind (wpAny_standAt ?_)
 unfold unpack
 have e5:(assignEach es X.env).length=aC.toArray.size:=by simp[hn,<- hl,rv.length]
 rw[e5,m7]
 refine wpAny_bind (wpAny_holding (W.kun_itemsOf (I.ok.hd hc) hL fun h' hx=>?_))
 have I1:Inv X pins σ H { s with heap:=h'}:=I.kept (t':=s.toks) fun b o e=>hx b o (Nat.ne_of_lt (Heap.lt_size e)) e
 exact h pins _ σ H xs _ Q I1 (by simpa using rv) hw
end Sg
namespace Pf
open PySem PySem.Spec PyProof.Rows L2 Sg
structure fT (K:W.Frag)(x q:Str)(st:Stmt)(ps:List Str)(f:Addr)(d:FuncData):Prop where
 F:Rx K x q st f d
 b:Binds K d ps []
structure LU (K:W.Frag)(x q:Str)(st:Stmt)(ps:List Str)(f:Addr)(d:FuncData):Prop where
 F:AD K x q st f d
 b:Binds K d ps []
structure jE (K:W.Frag)(x:Str)(st:Stmt)(ps:List Str)(f:Addr)(d:FuncData):Prop where
 F:Rx K x x st f d
 b:Binds K d ps []
 a:W.nsIn K mainGlobals x=some (some (.ref f))
structure FH (K:W.Frag)(x:Str)(C:Addr):Prop where
 a:W.nsIn K mainGlobals x=some (some (.ref C))
 cl:tL K C
 kc:W.keepIn K (.ref C)=true
noncomputable abbrev Qo (x q:Str)(st:Stmt)(ps:List Str):Prop:=∀ (kV doc pm:Value) (an:Option Addr) (bg ct:Value) (us:List Value),us.length=ps.length->bindArgs (W.fnOf x q (b0 st) (aD st) (af st) .none kV doc pm an bg ct) ⟨us,[]⟩=pure (ps.zip us)
section
variable {K:W.Frag}{x q:Str}{st:Stmt}{ps:List Str}{f:Addr}{oc:Value}{od an:Option Addr}{xi:Array (Option Value)}{kV doc pm bg ct:Value}
theorem Qp (l:K.lookup f=some ⟨oc,od,.func (W.fnOf x q (b0 st) (aD st) (af st) .none kV doc pm an bg ct),xi⟩)(c:W.codeIn K bg q=true)(k:W.keepIn K (.ref f)=true)(b:Qo x q st ps):fT K x q st ps f (W.fnOf x q (b0 st) (aD st) (af st) .none kV doc pm an bg ct):=⟨uN l c k,(uN l c k).binds b⟩
theorem Qq (l:K.lookup f=some ⟨oc,od,.func (W.fnOf x q (b0 st) (aD st) (af st) .none kV doc pm an bg ct),xi⟩)(c:W.codeIn K bg q=true)(k:W.keepIn K (.ref f)=true)(b:Qo x q st ps):LU K x q st ps f (W.fnOf x q (b0 st) (aD st) (af st) .none kV doc pm an bg ct):=⟨qt l c,(uN l c k).binds b⟩
theorem Qr (a:W.nsIn K mainGlobals q=some (some (.ref f)))(l:K.lookup f=some ⟨oc,od,.func (W.fnOf q q (b0 st) (aD st) (af st) .none kV doc pm an bg ct),xi⟩)(c:W.codeIn K bg q=true)(k:W.keepIn K (.ref f)=true)(b:Qo q q st ps):jE K q st ps f (W.fnOf q q (b0 st) (aD st) (af st) .none kV doc pm an bg ct):=⟨uN l c k,(uN l c k).binds b,a⟩
theorem Qs {C:Addr}(a:W.nsIn K mainGlobals x=some (some (.ref C)))(p:W.plainGet K C Str.empty=true)(h:W.hasDictIn K C=true)(o:W.plainOver K C=true)(s:W.findIn K (.ref C) "__setattr__"=some (some (.builtin "object.__setattr__")))(k:W.keepIn K (.ref C)=true):FH K x C:=⟨a,⟨p,h,o,s⟩,k⟩
end
theorem gf {N P:List Str}{sc:Scope}(h:(sc.kind == .function && !sc.isCoroutine && !sc.isGenerator && decide N.Nodup && decide (N.take P.length=P) && P.all (fun x=>decide (sc.names.lookup x=some .local\/sc.names.lookup x=some .cell)) && sc.names.all fun y=>decide (y.2≠.free))=true):aq N P sc:=by
 simp only[Bool.and_eq_true,List.all_eq_true,decide_eq_true_eq,Bool.not_eq_true',beq_iff_eq] at h
 exact⟨h.1.1.1.1.1.1,h.1.1.1.1.1.2,h.1.1.1.1.2,h.1.1.1.2,h.1.1.2,h.1.2,h.2⟩
noncomputable def top (i:Nat):Stmt:=PySem.Challenge.pw_strokegrow_k52_whole_cut_anywhere.main.body.getD i (.Pass ⟨0,0,0,0⟩)
noncomputable abbrev yH:Stmt:=top 13
noncomputable abbrev yI:Stmt:=top 14
noncomputable abbrev kQ:Stmt:=top 15
noncomputable abbrev mv:Stmt:=inClass (top 16) 3
noncomputable abbrev mw:Stmt:=inClass (top 16) 4
noncomputable abbrev pT:Stmt:=inClass (top 16) 5
noncomputable abbrev nM:Stmt:=inClass (top 16) 6
noncomputable abbrev kR:Stmt:=inClass (top 17) 0
noncomputable abbrev fq:Stmt:=inClass (top 17) 1
noncomputable abbrev jP:Stmt:=inClass (top 17) 2
noncomputable abbrev mx:Stmt:=inClass (top 18) 0
noncomputable abbrev gi:Stmt:=inClass (top 18) 1
noncomputable abbrev lG:Stmt:=inClass (top 18) 2
noncomputable abbrev vi:Stmt:=top 19
noncomputable abbrev my:Stmt:=inClass (top 21) 0
noncomputable abbrev mz:Stmt:=inClass (top 21) 1
noncomputable abbrev mB:Stmt:=inClass (top 21) 2
noncomputable abbrev jQ:Stmt:=inClass (top 21) 3
noncomputable abbrev cg:Stmt:=inClass (top 21) 4
noncomputable abbrev fh:Stmt:=inClass (top 21) 5
noncomputable abbrev cj:Stmt:=inClass (top 21) 6
noncomputable abbrev ck:Stmt:=inClass (top 21) 7
noncomputable abbrev mC:Stmt:=inClass (top 21) 8
noncomputable abbrev kS:Stmt:=inClass (top 21) 10
noncomputable abbrev mD:Stmt:=inClass (top 21) 11
noncomputable abbrev yJ:Stmt:=top 22
noncomputable abbrev cA:Stmt:=top 23
noncomputable abbrev pU:Stmt:=top 24
noncomputable abbrev lH:Stmt:=top 27
noncomputable abbrev qA:Stmt:=top 28
noncomputable abbrev fJ:Stmt:=inClass (top 30) 0
noncomputable abbrev hZ:Stmt:=inClass (top 30) 1
noncomputable abbrev bT:Stmt:=inClass (top 30) 2
noncomputable abbrev gH:Stmt:=inClass (top 30) 3
noncomputable abbrev cv:Stmt:=inClass (top 30) 4
noncomputable abbrev jF:Stmt:=top 32
noncomputable abbrev dZ:Stmt:=top 33
noncomputable abbrev dC:Stmt:=inClass (top 34) 0
noncomputable abbrev gj:Stmt:=inClass (top 34) 1
noncomputable abbrev bG:Stmt:=inClass (top 34) 3
noncomputable abbrev kT:Stmt:=inClass (top 34) 4
noncomputable abbrev fK:Stmt:=inClass (top 34) 5
noncomputable abbrev c6:Stmt:=inClass (top 34) 7
noncomputable abbrev eF:Stmt:=inClass (top 34) 8
noncomputable abbrev df:Stmt:=inClass (top 34) 9
noncomputable abbrev gI:Stmt:=inClass (top 34) 11
noncomputable abbrev iz:Stmt:=top 38
noncomputable abbrev fL:Stmt:=top 39
noncomputable abbrev eG:Stmt:=top 40
noncomputable abbrev j6:Stmt:=inClass (top 41) 0
noncomputable abbrev nO:Stmt:=inClass (top 41) 1
noncomputable abbrev jR:Stmt:=inClass (top 41) 2
noncomputable abbrev iC:Stmt:=inClass (top 41) 4
noncomputable abbrev mE:Stmt:=inClass (top 41) 5
noncomputable abbrev mF:Stmt:=inClass (top 41) 6
noncomputable abbrev aU:Stmt:=inClass (top 41) 7
noncomputable abbrev CF:Stmt:=top 43
noncomputable abbrev yK:Stmt:=top 44
noncomputable abbrev pV:Stmt:=top 45
noncomputable abbrev CG:Stmt:=top 46
noncomputable abbrev yL:Stmt:=top 47
noncomputable abbrev Iq:Stmt:=top 48
noncomputable abbrev vj:Stmt:=top 49
noncomputable abbrev yM:Stmt:=top 50
noncomputable abbrev yN:Stmt:=top 51
noncomputable abbrev CH:Stmt:=top 52
noncomputable abbrev qB:Stmt:=top 53
noncomputable abbrev A3:Stmt:=top 54
noncomputable abbrev LV:List Str:=["one","other"]
theorem Ir:aq LV ["one","other"] (af yH):=gf (by decide +kernel)
noncomputable abbrev LW:List Str:=["one","other"]
theorem Iu:aq LW ["one","other"] (af yI):=gf (by decide +kernel)
noncomputable abbrev vk:List Str:=["deed"]
theorem sP:aq vk ["deed"] (af kQ):=gf (by decide +kernel)
noncomputable abbrev yO:List Str:=["self","number"]
theorem wt:aq yO ["self","number"] (af mv):=gf (by decide +kernel)
noncomputable abbrev yP:List Str:=["self","spot","by","turns"]
theorem lI:aq yP ["self","spot","by"] (af mw):=gf (by decide +kernel)
noncomputable abbrev CI:List Str:=["self","way"]
theorem A4:aq CI ["self","way"] (af pT):=gf (by decide +kernel)
noncomputable abbrev A5:List Str:=["self","deed","spot","way"]
theorem qC:aq A5 ["self","deed","spot","way"] (af nM):=gf (by decide +kernel)
noncomputable abbrev vm:List Str:=["self"]
theorem sQ:aq vm ["self"] (af kR):=gf (by decide +kernel)
noncomputable abbrev nh:List Str:=["self","spot"]
theorem mG:aq nh ["self","spot"] (af fq):=gf (by decide +kernel)
noncomputable abbrev sS:List Str:=["self","way","spot","x","y"]
theorem i8:aq sS ["self","way","spot"] (af jP):=gf (by decide +kernel)
noncomputable abbrev yQ:List Str:=["self"]
theorem wu:aq yQ ["self"] (af mx):=gf (by decide +kernel)
noncomputable abbrev o4:List Str:=["self","spot"]
theorem nP:aq o4 ["self","spot"] (af gi):=gf (by decide +kernel)
noncomputable abbrev wz:List Str:=["self","way","spot","x","y"]
theorem kU:aq wz ["self","way","spot"] (af lG):=gf (by decide +kernel)
noncomputable abbrev Iv:List Str:=["ways"]
theorem FI:aq Iv ["ways"] (af vi):=gf (by decide +kernel)
noncomputable abbrev yR:List Str:=["self","pen","deed_count","last_way","last_spot","stroke_count","reaches","touches","crosses"]
theorem wA:aq yR ["self","pen","deed_count","last_way","last_spot","stroke_count","reaches","touches","crosses"] (af my):=gf (by decide +kernel)
noncomputable abbrev yS:List Str:=["self"]
theorem wC:aq yS ["self"] (af mz):=gf (by decide +kernel)
noncomputable abbrev yT:List Str:=["self"]
theorem wD:aq yT ["self"] (af mB):=gf (by decide +kernel)
noncomputable abbrev sU:List Str:=["self"]
theorem rM:aq sU ["self"] (af jQ):=gf (by decide +kernel)
noncomputable abbrev wF:List Str:=["self","first"]
theorem vn:aq wF ["self","first"] (af cg):=gf (by decide +kernel)
noncomputable abbrev mY:List Str:=["self","numbers","first"]
theorem rN:aq mY ["self","numbers","first"] (af fh):=gf (by decide +kernel)
noncomputable abbrev wG:List Str:=["self","first"]
theorem vo:aq wG ["self","first"] (af cj):=gf (by decide +kernel)
noncomputable abbrev wH:List Str:=["self","first"]
theorem vp:aq wH ["self","first"] (af ck):=gf (by decide +kernel)
noncomputable abbrev yU:List Str:=["self"]
theorem wI:aq yU ["self"] (af mC):=gf (by decide +kernel)
noncomputable abbrev vq:List Str:=["self","other","pen","shift","reaches","touches","way"]
theorem mZ:aq vq ["self","other"] (af kS):=gf (by decide +kernel)
noncomputable abbrev yV:List Str:=["self"]
theorem wJ:aq yV ["self"] (af mD):=gf (by decide +kernel)
noncomputable abbrev LX:List Str:=["pen"]
theorem Iw:aq LX ["pen"] (af yJ):=gf (by decide +kernel)
noncomputable abbrev jS:List Str:=["pen","deed","behind","spot","reaches","touches"]
theorem lY:aq jS ["pen","deed"] (af cA):=gf (by decide +kernel)
noncomputable abbrev CJ:List Str:=["pen","deeds","track","deed"]
theorem sE:aq CJ ["pen","deeds"] (af pU):=gf (by decide +kernel)
noncomputable abbrev wK:List Str:=["age","first","last"]
theorem vt:aq wK ["age","first","last"] (af lH):=gf (by decide +kernel)
noncomputable abbrev D5:List Str:=["rules","word"]
theorem A6:aq D5 ["rules","word"] (af qA):=gf (by decide +kernel)
noncomputable abbrev nQ:List Str:=["self","growth","rules"]
theorem m5:aq nQ ["self","growth"] (af fJ):=gf (by decide +kernel)
noncomputable abbrev pW:List Str:=["self","tracks","whole","track"]
theorem jV:aq pW ["self","tracks"] (af hZ):=gf (by decide +kernel)
noncomputable abbrev jW:List Str:=["self","age","rules","last","grown","letter"]
theorem jG:aq jW ["self","age"] (af bT):=gf (by decide +kernel)
noncomputable abbrev sV:List Str:=["self","age","letter"]
theorem rO:aq sV ["self","age","letter"] (af gH):=gf (by decide +kernel)
noncomputable abbrev lh:List Str:=["self","age","begin","end"]
theorem pX:aq lh ["self","age","begin","end"] (af cv):=gf (by decide +kernel)
noncomputable abbrev A7:List Str:=["tallies","letters"]
theorem xG:aq A7 ["tallies","letters"] (af jF):=gf (by decide +kernel)
noncomputable abbrev lZ:List Str:=["word","rounds"]
theorem qD:aq lZ ["word","rounds"] (af dZ):=gf (by decide +kernel)
noncomputable abbrev lJ:List Str:=["self","rules","start"]
theorem nS:aq lJ ["self","rules","start"] (af dC):=gf (by decide +kernel)
noncomputable abbrev o5:List Str:=["self"]
theorem nT:aq o5 ["self"] (af gj):=gf (by decide +kernel)
noncomputable abbrev ia:List Str:=["self","age","letters","last","grown","letter"]
theorem jX:aq ia ["self","age"] (af bG):=gf (by decide +kernel)
noncomputable abbrev vv:List Str:=["self","age"]
theorem sW:aq vv ["self","age"] (af kT):=gf (by decide +kernel)
noncomputable abbrev nU:List Str:=["self","age","place"]
theorem ni:aq nU ["self","age","place"] (af fK):=gf (by decide +kernel)
noncomputable abbrev nr:List Str:=["self","letter"]
theorem mH:aq nr ["self","letter"] (af c6):=gf (by decide +kernel)
noncomputable abbrev mI:List Str:=["self","age","begin","end"]
theorem l1:aq mI ["self","age","begin","end"] (af eF):=gf (by decide +kernel)
noncomputable abbrev m6:List Str:=["self","age"]
theorem rP:aq m6 ["self","age"] (af df):=gf (by decide +kernel)
noncomputable abbrev sX:List Str:=["self","age","begin","end","between","waiting","place","piece","rounds","behind"]
theorem l2:aq sX ["self","age","begin","end"] (af gI):=gf (by decide +kernel)
noncomputable abbrev qE:List Str:=["text"]
theorem pY:aq qE ["text"] (af iz):=gf (by decide +kernel)
noncomputable abbrev nV:List Str:=["word","letters"]
theorem sY:aq nV ["word","letters"] (af fL):=gf (by decide +kernel)
noncomputable abbrev mJ:List Str:=["rows","firsts","letters","number","row","letter_fits"]
theorem pB:aq mJ ["rows"] (af eG):=gf (by decide +kernel)
noncomputable abbrev yW:List Str:=["self","ways","rows","drawer","row"]
theorem pC:aq yW ["self","ways","rows"] (af j6):=gf (by decide +kernel)
noncomputable abbrev A8:List Str:=["self"]
theorem yX:aq A8 ["self"] (af nO):=gf (by decide +kernel)
noncomputable abbrev sZ:List Str:=["self"]
theorem rQ:aq sZ ["self"] (af jR):=gf (by decide +kernel)
noncomputable abbrev vw:List Str:=["self","letter"]
theorem tf:aq vw ["self","letter"] (af iC):=gf (by decide +kernel)
noncomputable abbrev yY:List Str:=["self","letter"]
theorem wL:aq yY ["self","letter"] (af mE):=gf (by decide +kernel)
noncomputable abbrev yZ:List Str:=["self","letter"]
theorem wM:aq yZ ["self","letter"] (af mF):=gf (by decide +kernel)
noncomputable abbrev tm:List Str:=["self","text","most","at","sign"]
theorem l3:aq tm ["self","text","most"] (af aU):=gf (by decide +kernel)
noncomputable abbrev Qt:List Str:=["_law_script","_law_k","_law_cell_here","_law_low"]
theorem tW:aq Qt ["_law_script","_law_k"] (af CF):=gf (by decide +kernel)
noncomputable abbrev LY:List Str:=["_law_found"]
theorem Iy:aq LY ["_law_found"] (af yK):=gf (by decide +kernel)
noncomputable abbrev CK:List Str:=["_law_cell_here","_law_many","_law_free","_law_found","_law_k","_law_at"]
theorem sF:aq CK ["_law_cell_here","_law_many"] (af pV):=gf (by decide +kernel)
noncomputable abbrev Qu:List Str:=["_law_number","_law_alphabet_here","_law_most","_law_found","_law_size","_law_k"]
theorem D6:aq Qu ["_law_number","_law_alphabet_here","_law_most"] (af CG):=gf (by decide +kernel)
noncomputable abbrev LZ:List Str:=["_law_script","_law_far","_law_first","_law_way","_law_age","_law_many","_law_most","_law_alphabet_here","_law_rows","_law_k","_law_cell_here","_law_deed","_law_start"]
theorem A9:aq LZ ["_law_script","_law_far"] (af yL):=gf (by decide +kernel)
noncomputable abbrev Ut:List Str:=["_law_script","_law_k","_law_far","_law_number"]
theorem Iz:aq Ut ["_law_script","_law_k"] (af Iq):=gf (by decide +kernel)
noncomputable abbrev IA:List Str:=["_law_ways","_law_spot","_law_by","_law_x","_law_y","_law_k"]
theorem xH:aq IA ["_law_ways","_law_spot","_law_by"] (af vj):=gf (by decide +kernel)
noncomputable abbrev L3:List Str:=["_law_ways","_law_spot","_law_x","_law_y"]
theorem Ba:aq L3 ["_law_ways","_law_spot"] (af yM):=gf (by decide +kernel)
noncomputable abbrev L5:List Str:=["_law_ways","_law_one","_law_other","_law_far","_law_spot","_law_along_here","_law_reach","_law_touch","_law_w","_law_v","_law_area"]
theorem Bb:aq L5 ["_law_ways","_law_one","_law_other"] (af yN):=gf (by decide +kernel)
noncomputable abbrev Qv:List Str:=["_law_ways"]
theorem L6:aq Qv ["_law_ways"] (af CH):=gf (by decide +kernel)
noncomputable abbrev D7:List Str:=["_law_found","_law_ways","_law_one","_law_wholes"]
theorem Bc:aq D7 ["_law_found","_law_ways"] (af qB):=gf (by decide +kernel)
noncomputable abbrev NJ:List Str:=["_law_script","_law_ways","_law_rows","_law_start","_law_age","_law_growth","_law_drawing","_law_size","_law_first","_law_cut","_law_last","_law_found","_law_left","_law_right","_law_due","_law_letter"]
theorem IB:aq NJ ["_law_script"] (af A3):=gf (by decide +kernel)
set_option genInjectivity false in
set_option genSizeOf false in
structure dN where
 (tY tZ iD dt du fM eD d0 bu dg fU bU fi qF fV fW fX dh cm di cn cq fY d5 fZ t5 gJ mK jd t6 d6 b8 bc cB bR nW f6 fj bV bH d7 bJ aP aZ cC cD fB iE j7 eI il dj cX f7 f9 aV zb t7 mL zc t8 D8 qG t9 ua zd ub qH:Addr)
 (ue uf iF j8 j9 mM lj iG c7 gK ka dO je qI ke kf kg gL jf gM jg jh kh iH ki ug gN mN ji uh iI eJ dP gO fC qJ gb jk dQ eK iJ dv c8 cJ gQ gR fD iK kj kl ll gS iL km ko gT ze uk mO zf um Ea qK uo uq zg ur vx:FuncData)
 (jl jm jo gU:Tok)
 (aN b5 aK ar au aB kr cR:Addr)
 (Bd vy zh:Tok)
 K:W.Frag
structure Txt (K:W.Frag)(mg:Str->Option Value)(t:dN):Prop where
 hK:t.K=K
 g:∀ {x:Str} {v:Value},W.nsIn K mainGlobals x=some (some v)->mg x=some v
 gn:∀ {x:Str},W.nsIn K mainGlobals x=some none->mg x=none
 i9:FH K "Quarter" t.aN
 mP:FH K "Sixth" t.b5
 dR:FH K "Rules" t.aK
 aM:FH K "Growth" t.ar
 aA:FH K "Track" t.au
 a0:FH K "Drawing" t.aB
 pZ:Pa K t.aN
 vz:Pa K t.b5
 vA:L2.Mk K t.aK t.eI
 rR:L2.Mk K t.ar t.fj
 vB:L2.Mk K t.au t.fV
 p0:L2.Mk K t.aB t.d6
 gW:bF K t.aK "drawer"
 aO:bF K t.aK "row_by_letter"
 cE:bF K t.ar "rules"
 fN:bF K t.ar "seed"
 cw:bF K t.ar "tallies"
 bS:bF K t.ar "lengths"
 dk:bF K t.au "drawer"
 bf:bF K t.au "deed_count"
 bh:bF K t.au "last_way"
 aS:bF K t.au "last_spot"
 b6:bF K t.au "stroke_count"
 b9:bF K t.au "reaches"
 d8:bF K t.au "touches"
 d9:bF K t.au "crosses"
 bj:bF K t.aB "growth"
 bo:bF K t.aB "tracks"
 zi:mg "DEEDS"=some (.ref t.kr)
 zj:∀ H,Rep K H (.ref t.kr) (.tup [.str "stroke",.str "step",.str "left",.str "right",.str "rest"])
 pD:mg "GOING_DEEDS"=some (.ref t.cR)
 pE:∀ H,Rep K H (.ref t.cR) (.tup [.str "stroke",.str "step"])
 Be:mg "MOST_ROWS"=some (.int 6 t.Bd)
 vC:mg "MOST_IN_WORD"=some (.int 8 t.vy)
 qL:mg "LAST_ROUND"=some (.int 200 t.zh)
 oJ:jE K "added" yH ["one","other"] t.tY t.ue
 oK:jE K "cross" yI ["one","other"] t.tZ t.uf
 ee:jE K "turn_of_deed" kQ ["deed"] t.iD t.iF
 fu:Meth K t.aN "way_of" t.dt
 gk:Meth K t.b5 "way_of" t.dt
 ky:fT K "way_of" "Pen.way_of" mv ["self","number"] t.dt t.j8
 fw:Meth K t.aN "turned" t.du
 gq:Meth K t.b5 "turned" t.du
 kz:fT K "turned" "Pen.turned" mw ["self","spot","by"] t.du t.j9
 gu:Meth K t.aN "step" t.fM
 iM:Meth K t.b5 "step" t.fM
 mQ:fT K "step" "Pen.step" pT ["self","way"] t.fM t.mM
 fO:Meth K t.aN "after" t.eD
 ib:Meth K t.b5 "after" t.eD
 lp:fT K "after" "Pen.after" nM ["self","deed","spot","way"] t.eD t.lj
 eh:Meth K t.aN "ways" t.d0
 iN:fT K "ways" "Quarter.ways" kR ["self"] t.d0 t.iG
 cb:Meth K t.aN "turned_left" t.bu
 c9:fT K "turned_left" "Quarter.turned_left" fq ["self","spot"] t.bu t.c7
 dD:Meth K t.aN "along" t.dg
 gX:fT K "along" "Quarter.along" jP ["self","way","spot"] t.dg t.gK
 gv:Meth K t.b5 "ways" t.fU
 kA:fT K "ways" "Sixth.ways" mx ["self"] t.fU t.ka
 cY:Meth K t.b5 "turned_left" t.bU
 dS:fT K "turned_left" "Sixth.turned_left" gi ["self","spot"] t.bU t.dO
 fP:Meth K t.b5 "along" t.fi
 jq:fT K "along" "Sixth.along" lG ["self","way","spot"] t.fi t.je
 l4:jE K "pen_of" vi ["ways"] t.qF t.qI
 kB:LU K "__init__" "Track.__init__" my ["self","pen","deed_count","last_way","last_spot","stroke_count","reaches","touches","crosses"] t.fV t.ke
 gw:Meth K t.au "many" t.fW
 kC:fT K "many" "Track.many" mz ["self"] t.fW t.kf
 gx:Meth K t.au "turn" t.fX
 kE:fT K "turn" "Track.turn" mB ["self"] t.fX t.kg
 eO:Meth K t.au "strokes" t.dh
 gY:fT K "strokes" "Track.strokes" jQ ["self"] t.dh t.gL
 dw:Meth K t.au "shift" t.cm
 vD:Binds K t.jf ["self","first"] [.int 0 t.jl]
 wN:AD K "shift" "Track.shift" cg t.cm t.jf
 Kt:W.keepIn K (.ref t.cm)=true
 wO:Binds K t.jf ["self","first"] []
 eP:Meth K t.au "by_ways" t.di
 gZ:fT K "by_ways" "Track.by_ways" fh ["self","numbers","first"] t.di t.gM
 dy:Meth K t.au "reach" t.cn
 vE:Binds K t.jg ["self","first"] [.int 0 t.jm]
 wQ:AD K "reach" "Track.reach" cj t.cn t.jg
 Ku:W.keepIn K (.ref t.cn)=true
 wR:Binds K t.jg ["self","first"] []
 dA:Meth K t.au "touch" t.cq
 vF:Binds K t.jh ["self","first"] [.int 0 t.jo]
 wU:AD K "touch" "Track.touch" ck t.cq t.jh
 Kv:W.keepIn K (.ref t.cq)=true
 wV:Binds K t.jh ["self","first"] []
 gy:Meth K t.au "area" t.fY
 kF:fT K "area" "Track.area" mC ["self"] t.fY t.kh
 fz:Meth K t.au "joined" t.d5
 iO:fT K "joined" "Track.joined" kS ["self","other"] t.d5 t.iH
 gz:Meth K t.au "told" t.fZ
 kG:fT K "told" "Track.told" mD ["self"] t.fZ t.ki
 oM:jE K "still" yJ ["pen"] t.t5 t.ug
 dm:jE K "track_of_deed" cA ["pen","deed"] t.gJ t.gN
 ja:jE K "track_of" pU ["pen","deeds"] t.mK t.mN
 fk:jE K "check_round" lH ["age","first","last"] t.jd t.ji
 oN:jE K "tally" qA ["rules","word"] t.t6 t.uh
 iP:LU K "__init__" "Drawing.__init__" fJ ["self","growth"] t.d6 t.iI
 cK:Meth K t.aB "join_all" t.b8
 eU:fT K "join_all" "Drawing.join_all" hZ ["self","tracks"] t.b8 t.eJ
 cF:Meth K t.aB "deepen_to" t.bc
 dU:fT K "deepen_to" "Drawing.deepen_to" bT ["self","age"] t.bc t.dP
 dF:Meth K t.aB "whole" t.cB
 g7:fT K "whole" "Drawing.whole" gH ["self","age","letter"] t.cB t.gO
 cZ:Meth K t.aB "stretch" t.bR
 fE:fT K "stretch" "Drawing.stretch" cv ["self","age","begin","end"] t.bR t.fC
 l5:jE K "summed" jF ["tallies","letters"] t.nW t.qJ
 cU:jE K "waiting_pieces" dZ ["word","rounds"] t.f6 t.gb
 jr:LU K "__init__" "Growth.__init__" dC ["self","rules","start"] t.fj t.jk
 cL:Meth K t.ar "rules_told" t.bV
 dW:fT K "rules_told" "Growth.rules_told" gj ["self"] t.bV t.dQ
 c5:Meth K t.ar "deepen_to" t.bH
 eV:fT K "deepen_to" "Growth.deepen_to" bG ["self","age"] t.bH t.eK
 eW:Meth K t.ar "enter" t.d7
 iQ:fT K "enter" "Growth.enter" kT ["self","age"] t.d7 t.iJ
 cG:Meth K t.ar "check_place" t.bJ
 dB:fT K "check_place" "Growth.check_place" fK ["self","age","place"] t.bJ t.dv
 cu:Meth K t.ar "check_letter" t.aP
 da:fT K "check_letter" "Growth.check_letter" c6 ["self","letter"] t.aP t.c8
 cf:Meth K t.ar "check_stretch" t.aZ
 cM:fT K "check_stretch" "Growth.check_stretch" eF ["self","age","begin","end"] t.aZ t.cJ
 er:Meth K t.ar "length" t.cC
 g8:fT K "length" "Growth.length" df ["self","age"] t.cC t.gQ
 eu:Meth K t.ar "pieces" t.cD
 g9:fT K "pieces" "Growth.pieces" gI ["self","age","begin","end"] t.cD t.gR
 cy:jE K "is_small_letter" iz ["text"] t.fB t.fD
 eA:jE K "is_word_over" fL ["word","letters"] t.iE t.iK
 gc:jE K "check_rows" eG ["rows"] t.j7 t.kj
 kH:LU K "__init__" "Rules.__init__" j6 ["self","ways","rows"] t.eI t.kl
 ig:Meth K t.aK "pen" t.il
 lq:fT K "pen" "Rules.pen" nO ["self"] t.il t.ll
 eY:Meth K t.aK "letters" t.dj
 hE:fT K "letters" "Rules.letters" jR ["self"] t.dj t.gS
 fA:Meth K t.aK "row_of" t.cX
 iR:fT K "row_of" "Rules.row_of" iC ["self","letter"] t.cX t.iL
 gA:Meth K t.aK "deed" t.f7
 kI:fT K "deed" "Rules.deed" mE ["self","letter"] t.f7 t.km
 gB:Meth K t.aK "word" t.f9
 kJ:fT K "word" "Rules.word" mF ["self","letter"] t.f9 t.ko
 eZ:Meth K t.aK "word_of" t.aV
 rS:Binds K t.gT ["self","text","most"] [.int 8 t.gU]
 tq:AD K "word_of" "Rules.word_of" aU t.aV t.gT
 Gj:W.keepIn K (.ref t.aV)=true
 Gk:Binds K t.gT ["self","text","most"] []
 rT:jE K "_law_cell" CF ["_law_script","_law_k"] t.zb t.ze
 oO:jE K "_law_whole" yK ["_law_found"] t.t7 t.uk
 jb:jE K "_law_alphabet" pV ["_law_cell_here","_law_many"] t.mL t.mO
 rV:jE K "_law_text" CG ["_law_number","_law_alphabet_here","_law_most"] t.zc t.zf
 oP:jE K "_law_shape" yL ["_law_script","_law_far"] t.t8 t.um
 xI:jE K "_law_big" Iq ["_law_script","_law_k"] t.D8 t.Ea
 l6:jE K "_law_turned" vj ["_law_ways","_law_spot","_law_by"] t.qG t.qK
 oQ:jE K "_law_along" yM ["_law_ways","_law_spot"] t.t9 t.uo
 oR:jE K "_law_after" yN ["_law_ways","_law_one","_law_other"] t.ua t.uq
 rW:jE K "_law_none" CH ["_law_ways"] t.zd t.zg
 oS:jE K "_law_track" qB ["_law_found","_law_ways"] t.ub t.ur
 Bf:jE K "law" A3 ["_law_script"] t.qH t.vx
 Eb:mg "all"=none
 CL:mg "bool"=none
 nX:mg "dict"=none
 lr:mg "enumerate"=none
 IC:mg "int"=none
 e6:mg "isinstance"=none
 iZ:mg "len"=none
 nY:mg "list"=none
 ID:mg "max"=none
 IE:mg "min"=none
 hU:mg "range"=none
 p7:mg "reversed"=none
 vG:mg "sorted"=none
 Bg:mg "sum"=none
 qM:mg "tuple"=none
theorem Qw {K:W.Frag}{h:Heap}{mg:Str->Option Value}(X:K.In h)(G:h.Ns mainGlobals mg){tY tZ iD dt du fM eD d0 bu dg fU bU fi qF fV fW fX dh cm di cn cq fY d5 fZ t5 gJ mK jd t6 d6 b8 bc cB bR nW f6 fj bV bH d7 bJ aP aZ cC cD fB iE j7 eI il dj cX f7 f9 aV zb t7 mL zc t8 D8 qG t9 ua zd ub qH aN b5 aK ar au aB kr cR:Addr}{ue uf iF j8 j9 mM lj iG c7 gK ka dO je qI ke kf kg gL gM kh iH ki ug gN mN ji uh iI eJ dP gO fC qJ gb jk dQ eK iJ dv c8 cJ gQ gR fD iK kj kl ll gS iL km ko ze uk mO zf um Ea qK uo uq zg ur vx:FuncData}{jl jm jo gU y0 y1 y2:Tok}{y3:Option Addr}{y4:Nat}{y5:Array (Option Value)}{IF IG IH II IJ:Tok}{y6:Option Addr}{y7:Nat}{y8:Array (Option Value)}{vH vI:Tok}{y9 Zu:Option Addr}{y11:Array (Option Value)}{y12 Zv Zw Zx X6 Zy:Value}{lK:Addr}{y18:Option Addr}{y19:Value}{y20:Nat}{y21:Array (Option Value)}{y22 Zz:Option Addr}{y24:Array (Option Value)}{y25 ZA ZC ZE X7 ZF:Value}{lL:Addr}{y31:Option Addr}{y32:Value}{y33:Nat}{y34:Array (Option Value)}{y35 ZG:Option Addr}{y37:Array (Option Value)}{y38 ZH ZI ZJ X8 ZK:Value}{lM:Addr}{y44:Option Addr}{y45:Value}{y46:Nat}{y47:Array (Option Value)}{y48 ZL:Option Addr}{y50:Array (Option Value)}{y51 ZM ZN ZO X9 ZP:Value}{jT:Addr}{y57:Option Addr}{y58:Value}{y59:Nat}{y60:Array (Option Value)}
   (i9:FH K "Quarter" aN)
   (mP:FH K "Sixth" b5)
   (dR:FH K "Rules" aK)
   (aM:FH K "Growth" ar)
   (aA:FH K "Track" au)
   (a0:FH K "Drawing" aB)
   (pZ:Pa K aN)
   (vz:Pa K b5)
   (vA:L2.Mk K aK eI)
   (rR:L2.Mk K ar fj)
   (vB:L2.Mk K au fV)
   (p0:L2.Mk K aB d6)
   (gW:W.findIn K (.ref aK) "drawer"=some none)
   (aO:W.findIn K (.ref aK) "row_by_letter"=some none)
   (cE:W.findIn K (.ref ar) "rules"=some none)
   (fN:W.findIn K (.ref ar) "seed"=some none)
   (cw:W.findIn K (.ref ar) "tallies"=some none)
   (bS:W.findIn K (.ref ar) "lengths"=some none)
   (dk:W.findIn K (.ref au) "drawer"=some none)
   (bf:W.findIn K (.ref au) "deed_count"=some none)
   (bh:W.findIn K (.ref au) "last_way"=some none)
   (aS:W.findIn K (.ref au) "last_spot"=some none)
   (b6:W.findIn K (.ref au) "stroke_count"=some none)
   (b9:W.findIn K (.ref au) "reaches"=some none)
   (d8:W.findIn K (.ref au) "touches"=some none)
   (d9:W.findIn K (.ref au) "crosses"=some none)
   (bj:W.findIn K (.ref aB) "growth"=some none)
   (bo:W.findIn K (.ref aB) "tracks"=some none)
   (IK:W.nsIn K mainGlobals "DEEDS"=some (some (.ref kr)))
   (IL:K.lookup kr=some ⟨.type "tuple",y3,.seq #[.str "stroke" IF,.str "step" IG,.str "left" IH,.str "right" II,.str "rest" IJ] y4,y5⟩)
   (vJ:W.nsIn K mainGlobals "GOING_DEEDS"=some (some (.ref cR)))
   (vK:K.lookup cR=some ⟨.type "tuple",y6,.seq #[.str "stroke" vH,.str "step" vI] y7,y8⟩)
   (zk:W.nsIn K mainGlobals "MOST_ROWS"=some (some (.int 6 y0)))
   (tu:W.nsIn K mainGlobals "MOST_IN_WORD"=some (some (.int 8 y1)))
   (wW:W.nsIn K mainGlobals "LAST_ROUND"=some (some (.int 200 y2)))
   (oJ:jE K "added" yH ["one","other"] tY ue)
   (oK:jE K "cross" yI ["one","other"] tZ uf)
   (ee:jE K "turn_of_deed" kQ ["deed"] iD iF)
   (fu:Meth K aN "way_of" dt)
   (gk:Meth K b5 "way_of" dt)
   (ky:fT K "way_of" "Pen.way_of" mv ["self","number"] dt j8)
   (fw:Meth K aN "turned" du)
   (gq:Meth K b5 "turned" du)
   (kz:fT K "turned" "Pen.turned" mw ["self","spot","by"] du j9)
   (gu:Meth K aN "step" fM)
   (iM:Meth K b5 "step" fM)
   (mQ:fT K "step" "Pen.step" pT ["self","way"] fM mM)
   (fO:Meth K aN "after" eD)
   (ib:Meth K b5 "after" eD)
   (lp:fT K "after" "Pen.after" nM ["self","deed","spot","way"] eD lj)
   (eh:Meth K aN "ways" d0)
   (iN:fT K "ways" "Quarter.ways" kR ["self"] d0 iG)
   (cb:Meth K aN "turned_left" bu)
   (c9:fT K "turned_left" "Quarter.turned_left" fq ["self","spot"] bu c7)
   (dD:Meth K aN "along" dg)
   (gX:fT K "along" "Quarter.along" jP ["self","way","spot"] dg gK)
   (gv:Meth K b5 "ways" fU)
   (kA:fT K "ways" "Sixth.ways" mx ["self"] fU ka)
   (cY:Meth K b5 "turned_left" bU)
   (dS:fT K "turned_left" "Sixth.turned_left" gi ["self","spot"] bU dO)
   (fP:Meth K b5 "along" fi)
   (jq:fT K "along" "Sixth.along" lG ["self","way","spot"] fi je)
   (l4:jE K "pen_of" vi ["ways"] qF qI)
   (kB:LU K "__init__" "Track.__init__" my ["self","pen","deed_count","last_way","last_spot","stroke_count","reaches","touches","crosses"] fV ke)
   (gw:Meth K au "many" fW)
   (kC:fT K "many" "Track.many" mz ["self"] fW kf)
   (gx:Meth K au "turn" fX)
   (kE:fT K "turn" "Track.turn" mB ["self"] fX kg)
   (eO:Meth K au "strokes" dh)
   (gY:fT K "strokes" "Track.strokes" jQ ["self"] dh gL)
   (dw:Meth K au "shift" cm)
   (y61:K.lookup cm=some ⟨y12,y9,.func (W.fnOf "shift" "Track.shift" (b0 cg) (aD cg) (af cg) (.ref lK) Zv Zw Zx Zu X6 Zy),y11⟩)
   (ZQ:K.lookup lK=some ⟨y19,y18,.seq #[.int 0 jl] y20,y21⟩)
   (y63:W.codeIn K X6 "Track.shift"=true)
   (y64:W.keepIn K (.ref cm)=true)
   (eP:Meth K au "by_ways" di)
   (gZ:fT K "by_ways" "Track.by_ways" fh ["self","numbers","first"] di gM)
   (dy:Meth K au "reach" cn)
   (y65:K.lookup cn=some ⟨y25,y22,.func (W.fnOf "reach" "Track.reach" (b0 cj) (aD cj) (af cj) (.ref lL) ZA ZC ZE Zz X7 ZF),y24⟩)
   (ZR:K.lookup lL=some ⟨y32,y31,.seq #[.int 0 jm] y33,y34⟩)
   (y67:W.codeIn K X7 "Track.reach"=true)
   (y68:W.keepIn K (.ref cn)=true)
   (dA:Meth K au "touch" cq)
   (y69:K.lookup cq=some ⟨y38,y35,.func (W.fnOf "touch" "Track.touch" (b0 ck) (aD ck) (af ck) (.ref lM) ZH ZI ZJ ZG X8 ZK),y37⟩)
   (ZT:K.lookup lM=some ⟨y45,y44,.seq #[.int 0 jo] y46,y47⟩)
   (y71:W.codeIn K X8 "Track.touch"=true)
   (y72:W.keepIn K (.ref cq)=true)
   (gy:Meth K au "area" fY)
   (kF:fT K "area" "Track.area" mC ["self"] fY kh)
   (fz:Meth K au "joined" d5)
   (iO:fT K "joined" "Track.joined" kS ["self","other"] d5 iH)
   (gz:Meth K au "told" fZ)
   (kG:fT K "told" "Track.told" mD ["self"] fZ ki)
   (oM:jE K "still" yJ ["pen"] t5 ug)
   (dm:jE K "track_of_deed" cA ["pen","deed"] gJ gN)
   (ja:jE K "track_of" pU ["pen","deeds"] mK mN)
   (fk:jE K "check_round" lH ["age","first","last"] jd ji)
   (oN:jE K "tally" qA ["rules","word"] t6 uh)
   (iP:LU K "__init__" "Drawing.__init__" fJ ["self","growth"] d6 iI)
   (cK:Meth K aB "join_all" b8)
   (eU:fT K "join_all" "Drawing.join_all" hZ ["self","tracks"] b8 eJ)
   (cF:Meth K aB "deepen_to" bc)
   (dU:fT K "deepen_to" "Drawing.deepen_to" bT ["self","age"] bc dP)
   (dF:Meth K aB "whole" cB)
   (g7:fT K "whole" "Drawing.whole" gH ["self","age","letter"] cB gO)
   (cZ:Meth K aB "stretch" bR)
   (fE:fT K "stretch" "Drawing.stretch" cv ["self","age","begin","end"] bR fC)
   (l5:jE K "summed" jF ["tallies","letters"] nW qJ)
   (cU:jE K "waiting_pieces" dZ ["word","rounds"] f6 gb)
   (jr:LU K "__init__" "Growth.__init__" dC ["self","rules","start"] fj jk)
   (cL:Meth K ar "rules_told" bV)
   (dW:fT K "rules_told" "Growth.rules_told" gj ["self"] bV dQ)
   (c5:Meth K ar "deepen_to" bH)
   (eV:fT K "deepen_to" "Growth.deepen_to" bG ["self","age"] bH eK)
   (eW:Meth K ar "enter" d7)
   (iQ:fT K "enter" "Growth.enter" kT ["self","age"] d7 iJ)
   (cG:Meth K ar "check_place" bJ)
   (dB:fT K "check_place" "Growth.check_place" fK ["self","age","place"] bJ dv)
   (cu:Meth K ar "check_letter" aP)
   (da:fT K "check_letter" "Growth.check_letter" c6 ["self","letter"] aP c8)
   (cf:Meth K ar "check_stretch" aZ)
   (cM:fT K "check_stretch" "Growth.check_stretch" eF ["self","age","begin","end"] aZ cJ)
   (er:Meth K ar "length" cC)
   (g8:fT K "length" "Growth.length" df ["self","age"] cC gQ)
   (eu:Meth K ar "pieces" cD)
   (g9:fT K "pieces" "Growth.pieces" gI ["self","age","begin","end"] cD gR)
   (cy:jE K "is_small_letter" iz ["text"] fB fD)
   (eA:jE K "is_word_over" fL ["word","letters"] iE iK)
   (gc:jE K "check_rows" eG ["rows"] j7 kj)
   (kH:LU K "__init__" "Rules.__init__" j6 ["self","ways","rows"] eI kl)
   (ig:Meth K aK "pen" il)
   (lq:fT K "pen" "Rules.pen" nO ["self"] il ll)
   (eY:Meth K aK "letters" dj)
   (hE:fT K "letters" "Rules.letters" jR ["self"] dj gS)
   (fA:Meth K aK "row_of" cX)
   (iR:fT K "row_of" "Rules.row_of" iC ["self","letter"] cX iL)
   (gA:Meth K aK "deed" f7)
   (kI:fT K "deed" "Rules.deed" mE ["self","letter"] f7 km)
   (gB:Meth K aK "word" f9)
   (kJ:fT K "word" "Rules.word" mF ["self","letter"] f9 ko)
   (eZ:Meth K aK "word_of" aV)
   (y73:K.lookup aV=some ⟨y51,y48,.func (W.fnOf "word_of" "Rules.word_of" (b0 aU) (aD aU) (af aU) (.ref jT) ZM ZN ZO ZL X9 ZP),y50⟩)
   (ZU:K.lookup jT=some ⟨y58,y57,.seq #[.int 8 gU] y59,y60⟩)
   (y75:W.codeIn K X9 "Rules.word_of"=true)
   (y76:W.keepIn K (.ref aV)=true)
   (rT:jE K "_law_cell" CF ["_law_script","_law_k"] zb ze)
   (oO:jE K "_law_whole" yK ["_law_found"] t7 uk)
   (jb:jE K "_law_alphabet" pV ["_law_cell_here","_law_many"] mL mO)
   (rV:jE K "_law_text" CG ["_law_number","_law_alphabet_here","_law_most"] zc zf)
   (oP:jE K "_law_shape" yL ["_law_script","_law_far"] t8 um)
   (xI:jE K "_law_big" Iq ["_law_script","_law_k"] D8 Ea)
   (l6:jE K "_law_turned" vj ["_law_ways","_law_spot","_law_by"] qG qK)
   (oQ:jE K "_law_along" yM ["_law_ways","_law_spot"] t9 uo)
   (oR:jE K "_law_after" yN ["_law_ways","_law_one","_law_other"] ua uq)
   (rW:jE K "_law_none" CH ["_law_ways"] zd zg)
   (oS:jE K "_law_track" qB ["_law_found","_law_ways"] ub ur)
   (Bf:jE K "law" A3 ["_law_script"] qH vx)
   (Eb:W.nsIn K mainGlobals "all"=some none)
   (CL:W.nsIn K mainGlobals "bool"=some none)
   (nX:W.nsIn K mainGlobals "dict"=some none)
   (lr:W.nsIn K mainGlobals "enumerate"=some none)
   (IC:W.nsIn K mainGlobals "int"=some none)
   (e6:W.nsIn K mainGlobals "isinstance"=some none)
   (iZ:W.nsIn K mainGlobals "len"=some none)
   (nY:W.nsIn K mainGlobals "list"=some none)
   (ID:W.nsIn K mainGlobals "max"=some none)
   (IE:W.nsIn K mainGlobals "min"=some none)
   (hU:W.nsIn K mainGlobals "range"=some none)
   (p7:W.nsIn K mainGlobals "reversed"=some none)
   (vG:W.nsIn K mainGlobals "sorted"=some none)
   (Bg:W.nsIn K mainGlobals "sum"=some none)
   (qM:W.nsIn K mainGlobals "tuple"=some none)
   : ∃ t,Txt K mg t/\t.qH=qH:=
 ⟨⟨tY,tZ,iD,dt,du,fM,eD,d0,bu,dg,fU,bU,fi,qF,fV,fW,fX,dh,cm,di,cn,cq,fY,d5,fZ,t5,gJ,mK,jd,t6,d6,b8,bc,cB,bR,nW,f6,fj,bV,bH,d7,bJ,aP,aZ,cC,cD,fB,iE,j7,eI,il,dj,cX,f7,f9,aV,zb,t7,mL,zc,t8,D8,qG,t9,ua,zd,ub,qH,ue,uf,iF,j8,j9,mM,lj,iG,c7,gK,ka,dO,je,qI,ke,kf,kg,gL,(W.fnOf "shift" "Track.shift" (b0 cg) (aD cg) (af cg) (.ref lK) Zv Zw Zx Zu X6 Zy),gM,(W.fnOf "reach" "Track.reach" (b0 cj) (aD cj) (af cj) (.ref lL) ZA ZC ZE Zz X7 ZF),(W.fnOf "touch" "Track.touch" (b0 ck) (aD ck) (af ck) (.ref lM) ZH ZI ZJ ZG X8 ZK),kh,iH,ki,ug,gN,mN,ji,uh,iI,eJ,dP,gO,fC,qJ,gb,jk,dQ,eK,iJ,dv,c8,cJ,gQ,gR,fD,iK,kj,kl,ll,gS,iL,km,ko,(W.fnOf "word_of" "Rules.word_of" (b0 aU) (aD aU) (af aU) (.ref jT) ZM ZN ZO ZL X9 ZP),ze,uk,mO,zf,um,Ea,qK,uo,uq,zg,ur,vx,jl,jm,jo,gU,aN,b5,aK,ar,au,aB,kr,cR,y0,y1,y2,K⟩,⟨rfl,
   W.mg_of X G,
   W.mg_none_of X G,
   i9,
   mP,
   dR,
   aM,
   aA,
   a0,
   pZ,
   vz,
   vA,
   rR,
   vB,
   p0,
   gW,
   aO,
   cE,
   fN,
   cw,
   bS,
   dk,
   bf,
   bh,
   aS,
   b6,
   b9,
   d8,
   d9,
   bj,
   bo,
   W.mg_of X G IK,
   fun H=>.tup (vs:=[.str "stroke",.str "step",.str "left",.str "right",.str "rest"]) (.inr ⟨_,_,_,IL,rfl,rfl,Nat.le_of_ble_eq_true rfl,.cons ⟨_,rfl⟩ (.cons ⟨_,rfl⟩ (.cons ⟨_,rfl⟩ (.cons ⟨_,rfl⟩ (.cons ⟨_,rfl⟩ (.nil)))))⟩) (.cons (.str _) (.cons (.str _) (.cons (.str _) (.cons (.str _) (.cons (.str _) (.nil)))))),
   W.mg_of X G vJ,
   fun H=>.tup (vs:=[.str "stroke",.str "step"]) (.inr ⟨_,_,_,vK,rfl,rfl,Nat.le_of_ble_eq_true rfl,.cons ⟨_,rfl⟩ (.cons ⟨_,rfl⟩ (.nil))⟩) (.cons (.str _) (.cons (.str _) (.nil))),
   W.mg_of X G zk,
   W.mg_of X G tu,
   W.mg_of X G wW,
   oJ,
   oK,
   ee,
   fu,
   gk,
   ky,
   fw,
   gq,
   kz,
   gu,
   iM,
   mQ,
   fO,
   ib,
   lp,
   eh,
   iN,
   cb,
   c9,
   dD,
   gX,
   gv,
   kA,
   cY,
   dS,
   fP,
   jq,
   l4,
   kB,
   gw,
   kC,
   gx,
   kE,
   eO,
   gY,
   dw,
   fun s us X hl=>by obtain⟨z,rfl⟩:=Ck hl;exact BindsTo.of_defaults rfl (X _ _ ZQ) rfl rfl rfl,
   qt (st:=cg) y61 y63,
   y64,
   fun s us X hl=>by obtain⟨z,y,rfl⟩:=yt hl;exact BindsTo.of_defaults rfl (X _ _ ZQ) rfl rfl rfl,
   eP,
   gZ,
   dy,
   fun s us X hl=>by obtain⟨z,rfl⟩:=Ck hl;exact BindsTo.of_defaults rfl (X _ _ ZR) rfl rfl rfl,
   qt (st:=cj) y65 y67,
   y68,
   fun s us X hl=>by obtain⟨z,y,rfl⟩:=yt hl;exact BindsTo.of_defaults rfl (X _ _ ZR) rfl rfl rfl,
   dA,
   fun s us X hl=>by obtain⟨z,rfl⟩:=Ck hl;exact BindsTo.of_defaults rfl (X _ _ ZT) rfl rfl rfl,
   qt (st:=ck) y69 y71,
   y72,
   fun s us X hl=>by obtain⟨z,y,rfl⟩:=yt hl;exact BindsTo.of_defaults rfl (X _ _ ZT) rfl rfl rfl,
   gy,
   kF,
   fz,
   iO,
   gz,
   kG,
   oM,
   dm,
   ja,
   fk,
   oN,
   iP,
   cK,
   eU,
   cF,
   dU,
   dF,
   g7,
   cZ,
   fE,
   l5,
   cU,
   jr,
   cL,
   dW,
   c5,
   eV,
   eW,
   iQ,
   cG,
   dB,
   cu,
   da,
   cf,
   cM,
   er,
   g8,
   eu,
   g9,
   cy,
   eA,
   gc,
   kH,
   ig,
   lq,
   eY,
   hE,
   fA,
   iR,
   gA,
   kI,
   gB,
   kJ,
   eZ,
   fun s us X hl=>by obtain⟨z,y,rfl⟩:=PJ hl;exact BindsTo.of_defaults rfl (X _ _ ZU) rfl rfl rfl,
   qt (st:=aU) y73 y75,
   y76,
   fun s us X hl=>match us,hl with | [_,_,_],_=>BindsTo.of_defaults rfl (X _ _ ZU) rfl rfl rfl,
   rT,
   oO,
   jb,
   rV,
   oP,
   xI,
   l6,
   oQ,
   oR,
   rW,
   oS,
   Bf,
   W.mg_none_of X G Eb,
   W.mg_none_of X G CL,
   W.mg_none_of X G nX,
   W.mg_none_of X G lr,
   W.mg_none_of X G IC,
   W.mg_none_of X G e6,
   W.mg_none_of X G iZ,
   W.mg_none_of X G nY,
   W.mg_none_of X G ID,
   W.mg_none_of X G IE,
   W.mg_none_of X G hU,
   W.mg_none_of X G p7,
   W.mg_none_of X G vG,
   W.mg_none_of X G Bg,
   W.mg_none_of X G qM⟩,rfl⟩
theorem Qx {K:W.Frag}{mg:Str->Option Value}{t:dN}(T:Txt K mg t)(s:Shared)(u:Value):BindsTo s t.vx ⟨[u],[]⟩ [("_law_script",u)]:=by
 obtain⟨oc,od,kV,doc,pm,an,bg,ct,xi,e,lk,lO⟩:=T.Bf.F.ex
 rw[e];exact .of_eq rfl
noncomputable abbrev CX:q9:=YO
noncomputable def sg (c:Nat):Str:=⟨#[c]⟩
noncomputable def tx (w:List Nat):Str:=⟨w.toArray⟩
structure Row where
 c:Nat
 d:Str
 w:List Nat
noncomputable def pF:List Str:=["stroke","step","left","right","rest"]
noncomputable def qT (r:Row):Dt:=.tup [.str (sg r.c),.str r.d,.str (tx r.w)]
noncomputable def small (c:Nat):Prop:=97<=c/\c<=122
structure cN (rows:List Row):Prop where
 pos:0 < rows.length
 le:rows.length<=6
 nd:(rows.map (·.c)).Nodup
 sm:∀ r∈rows,small r.c
 dd:∀ r∈rows,r.d∈pF
 wp:∀ r∈rows,0 < r.w.length/\r.w.length<=8
 wo:∀ r∈rows,∀ x∈r.w,x∈rows.map (·.c)
noncomputable def rX (rows:List Row):List (Key×Dt):=rows.map fun r=>(.inr (sg r.c),qT r)
noncomputable abbrev Rl:=List Dt->Res->Prop
noncomputable def wy (six:Bool):Int:=if six then 6 else 4
noncomputable def dN.pc (t:dN)(six:Bool):Addr:=if six then t.b5 else t.aN
noncomputable def dN.zN (t:dN)(six:Bool)(rows:List Row):Dt:=.obj t.aK [("drawer",.ip (.obj (t.pc six) [])),("row_by_letter",.eB (rX rows))]
theorem rY {a b:Nat}(h:sg a=sg b):a=b:=by
 have:=congrArg (fun s:Str=>s.cps.toList) h
 simpa [sg] using this
theorem IM {c:Nat}{L:List Nat}:sg c∈L.map sg ↔ c∈L:=by
 constructor
 . intro h
   obtain⟨x,hx,e⟩:=List.mem_map.mp h
   rw[<- rY e];exact hx
 . exact fun h=>List.mem_map.mpr ⟨c,h,rfl⟩
theorem Ya {c:Nat}(h:97<=c):PB "a" (sg c)=true:=by
 have e:("a":Str).cps.toList=[97]:=rfl
 unfold PB
 rw[e]
 show(!decide ([c] < [97]))=true
 have:¬ ([c] < [97]):=by
   intro z
   rcases List.cons_lt_cons_iff.mp z with z | ⟨_,z⟩
   . omega
   . exact absurd z (by simp)
 simp[this]
theorem Yb {c:Nat}(h:c<=122):PB (sg c) "z"=true:=by
 have e:("z":Str).cps.toList=[122]:=rfl
 unfold PB
 rw[e]
 show(!decide ([122] < [c]))=true
 have:¬ ([122] < [c]):=by
   intro z
   rcases List.cons_lt_cons_iff.mp z with z | ⟨_,z⟩
   . omega
   . exact absurd z (by simp)
 simp[this]
theorem vL (w:List Nat):Sg.signs (tx w)=(w.map sg).map Dt.str:=by
 unfold Sg.signs tx
 rw[List.map_map];rfl
theorem ij (w:List Nat):(tx w).length=w.length:=by show w.toArray.size=w.length;simp
theorem jH {w:List Nat}(h:∀ x∈w,x < 128):jO (tx w)=true:=by
 unfold jO tx
 rw[Array.all_eq_true_iff_forall_mem]
 intro x hx
 exact decide_eq_true (h x (by simpa using hx))
theorem rZ:∀ {rows:List Row},(rows.map (·.c)).Nodup->∀ {r:Row},r∈rows->lF (rX rows) (.inr (sg r.c))=some (qT r)
 | [],_,r,h=>by cases h
 | q::rows,nd,r,h=>by
   rw[List.map_cons,List.nodup_cons] at nd
   rcases List.mem_cons.mp h with rfl | h
   . exact qw (p:=(.inr (sg r.c),qT r)) rfl
   . have ne:¬ (Sum.inr (sg q.c):Key)=.inr (sg r.c):=fun z=>nd.1 (by
       rw[rY (Sum.inr.inj z)]
       exact List.mem_map.mpr ⟨r,h,rfl⟩)
     show lF ((.inr (sg q.c),qT q)::rX rows) _=_
     rw[nI (p:=(.inr (sg q.c),qT q)) ne]
     exact rZ nd.2 h
theorem r0 {n:Nat}(h:n<=2000):n<=sizeLine:=Nat.le_trans h (by decide)
noncomputable def L7:Rl:=fun ds r=>∃ c,ds=[.str (sg c)]/\small c/\r=.ret (.bl true)
noncomputable def Qy:Rl:=fun ds r=>∃ (w L:List Nat),ds=[.str (tx w),.lst ((L.map sg).map .str)]/\(0 < w.length/\w.length<=8)/\(∀ x∈w,x∈L)/\(∀ x∈L,small x)/\r=.ret (.bl true)
noncomputable def L8:Rl:=fun ds r=>∃ rows,ds=[.lst (rows.map qT)]/\cN rows/\r=.ret .cP
noncomputable def Qz:Stmt->Scope
 | .Return (some (.BoolOp _ [_,.Call _ [.ListComp _ _ sc _] _ _] _)) _=>sc
 | _=>af (.Pass ⟨0,0,0,0⟩)
noncomputable abbrev L9:Scope:=Qz ((aD fL).getD 0 (.Pass ⟨0,0,0,0⟩))
theorem Ec:iY L9 (af fL) nV ["sign","letters"] ["sign"] [1]=true:=by decide +kernel
noncomputable abbrev FJ:Scope:=Ts ((aD eG).getD 2 (.Pass ⟨0,0,0,0⟩))
theorem xJ:iY FJ (af eG) mJ ["row"] ["row"] []=true:=by decide +kernel
noncomputable abbrev Ma:Scope:=Ts ((aD eG).getD 3 (.Pass ⟨0,0,0,0⟩))
theorem Ed:iY Ma (af eG) mJ ["first"] ["first"] []=true:=by decide +kernel
theorem e9 {X:Cx}{G:Gr}{dl:List Slot}{zs ZV:List Dt}{wi:TI}(h:qv X G dl zs wi)(e:ZV=zs):qv X G dl ZV wi:=by subst e;exact h
variable {P:Program}{w:World}{K:W.Frag}{mg:Str->Option Value}{base:Heap}{t:dN}
theorem IP (T:Txt K mg t):GF P w K mg base CX 1 "is_small_letter" 1 L7:=by
 refine⟨_,_,_,iq T.cy.F pY rfl fun bg A outer s H E G ds r hr hl hR=>?_,(T.g T.cy.a),T.cy.F.kp,T.cy.b⟩
 obtain⟨c,rfl,⟨h1,h2⟩,rfl⟩:=hR
 exact⟨_,.rt _,ao (aF (ye (u:=true) (v:=true) (bP (Pj (yi T.iZ (aa 0 rfl) (r0 (n:=1) (by decide))) ah) rfl) fun _=>(tN (bP (HD fo (aa 0 rfl) fo) (by rw[Ya h1,Yb h2];rfl)))))⟩
theorem Mb (T:Txt K mg t):GF P w K mg base CX 1 "is_word_over" 2 Qy:=by
 refine⟨_,_,_,iq T.eA.F sY rfl fun bg A outer s H E G ds r hr hl hR=>?_,(T.g T.eA.a),T.eA.F.kp,T.eA.b⟩
 obtain⟨wd,L,rfl,⟨h0,h8⟩,hw,hL,rfl⟩:=hR
 have PH:jO (tx wd)=true:=jH fun x hx=>by have:=hL x (hw x hx);unfold small at this;omega
 have hlen:=ij wd
 have e1:(decide ((1:Int)<=((tx wd).length:Nat)) && decide (((tx wd).length:Nat)<=(8:Int)))=true:=by
   rw[hlen,decide_eq_true (by omega),decide_eq_true (by omega)];rfl
 have e2:(((wd.filter fun _=>true).map fun x=>Dt.bl (decide (sg x∈L.map sg))))=((List.replicate wd.length true).map Dt.bl):=by
   rw[List.filter_eq_self.mpr (fun _ _=>rfl)]
   refine List.ext_getElem (by simp) fun i h1 h2=>?_
   simp only[List.getElem_map,List.getElem_replicate]
   have hi:i < wd.length:=by simpa using h1
   rw[decide_eq_true (IM.mpr (hw _ (List.getElem_mem hi)))]
 have e3:(List.replicate wd.length true).all id=true:=by simp
 have es:wd.map (fun x=>Dt.str (sg x))=Sg.signs (tx wd):=by rw[vL,List.map_map];rfl
 refine⟨_,.rt _,ao (aF (ye (u:=true) (v:=true) (bP (HE ah (yi T.iZ (aa 0 rfl) (r0 (by omega))) (j0 (w:=.int 8) T.vC ⟨_,rfl⟩ fun _=>.int 8)) (congrArg Dt.bl e1)) fun _=>(tN (bP (HG (bs:=List.replicate wd.length true) T.Eb rfl (bP (jB (iu wd (fun x=>Dt.str (sg x)) (fun x=>.bl (decide (sg x∈L.map sg))) (fun x=>[.val (.str (sg x))]) (fun _=>true) rfl (cQ Ec) (i4 (aa 0 rfl)) (cW (cQ Ec) rfl) (e9 (dY PH) es) (fun a _=>dM) (.nil fun _ _=>rfl)
   (fun a ha _ C fp s' H' G'=>PD (aa 0 rfl) (aa 1 rfl)) (r0 (by omega)))) (congrArg Dt.lst e2))) (congrArg Dt.bl e3)))))⟩
theorem CM {k:Nat}{ds:List Dt}{K:W.Frag}{H:Hp}{vs:List V}(r:br K H vs ds)(hk:k<=ds.length):br K H (EY vs none (some (k:Int))) (ds.take k):=by
 unfold EY
 rw[HT.GN,HT.KS,List.drop_zero,r.length,Nat.min_eq_left hk,Nat.sub_zero]
 exact r.take k
theorem Mc {X:Cx}{G:Gr}{dl:List Slot}{a b:Expr}{ds:List Dt}{k:Nat}{pos p2:Pos}(ha:EE X G dl a (.lst ds))(hb:EE X G dl b (.int (k:Int)))(hk:k<=ds.length):EO X G dl (.Subscript a (.Slice none (some b) none p2) pos) (.lst (ds.take k)):=
 gh (Ae KW ha Dw (Dx hb)) fun st H Q ⟨Hf,S,kk⟩=>⟨Hf,S,fun v Hf1 H1 g1 r1=>by
   cases r1 with
   | @lst q vs _ hq rp=>
     refine⟨Hf1,S.grow g1,fun z bO H2 g2 r2=>?_⟩
     cases r2
     have g:=g1.trans g2
     refine⟨(k:Int),rfl,q,vs,rfl,.of (g2.big _ _ (g1.sub _ _ hq)),fun p hp=>kk p bO _ (g.trans (.dX g.sub hp)) (g.big.free hp) (g.sub.free hp) ⟨_,ak,CM (rp.mono g2.bC) hk⟩⟩⟩
theorem ik {L:List Dt}{L':List Dt}(e:L=L'){X:Cx}{G:Gr}{dl:List Slot}{z:Expr}(h:EO X G dl z (.lst L)):EE X G dl z (.lst L'):=by subst e;exact jB h
theorem IQ (T:Txt K mg t):GF P w K mg base CX 2 "check_rows" 1 L8:=by
 refine⟨_,_,_,iq T.gc.F pB rfl fun bg A outer s H E G ds r hr hl hR=>?_,(T.g T.gc.a),T.gc.F.kp,T.gc.b⟩
 obtain⟨rows,rfl,ok,rfl⟩:=hR
 have Ee:=IP (P:=P) (w:=w) (base:=base) T
 have QA:=Mb (P:=P) (w:=w) (base:=base) T
 have nd:=pB.nd
 have hp:=ok.pos
 have hl6:=ok.le
 let cs:=rows.map (·.c)
 let lt:List Dt:=(cs.map sg).map Dt.str
 have e0:(decide ((((rows.map qT).length:Nat):Int)=0))=false:=by rw[List.length_map];exact decide_eq_false (by omega)
 have e1:(decide ((6:Int) < (((rows.map qT).length:Nat):Int)))=false:=by rw[List.length_map];exact decide_eq_false (by omega)
 have ef:((rows.filter fun _=>true).map fun r=>Dt.str (sg r.c))=lt:=by
   rw[List.filter_eq_self.mpr (fun _ _=>rfl)]
   show _=((rows.map (·.c)).map sg).map Dt.str
   rw[List.map_map,List.map_map];rfl
 have ez:(rows.map fun r=>Dt.str (sg r.c))=lt:=by
   show _=((rows.map (·.c)).map sg).map Dt.str
   rw[List.map_map,List.map_map];rfl
 have hsz:rows.length<=sizeLine:=r0 (by omega)
 let S:Nat->List Slot:=fun _=>[.val (.lst (rows.map qT)),.val (.lst lt),.val (.lst lt),.bw,.bw,.bw]
 let xs:=rows.map qT
 have RJ:xs.length=rows.length:=List.length_map ..
 refine⟨.nx (S rows.length),.nx _,ai (bQ (u:=false) (dq (lE (yg T.iZ (aa 0 rfl)) ah) e0) (fun h=>nomatch h) (fun h=>bZ))
   (ai (bQ (u:=false) (dq (Aw (yg T.iZ (aa 0 rfl)) (j0 (w:=.int 6) T.Be ⟨_,rfl⟩ fun _=>.int 6)) e1) (fun h=>nomatch h) (fun h=>bZ))
   (ai (Hw 1 rows qT (fun r=>Dt.str (sg r.c)) (fun r=>[.val (qT r)]) (fun _=>true) rfl nd (cQ xJ) (k9 (aa 0 rfl)) (cW (cQ xJ) rfl) lU (fun a _=>dM) (.nil fun _ _=>rfl) (fun a ha _ C fp s' H' G'=>av (aa 0 rfl) ah rfl) hsz)
   ?r1))⟩
 rw[ef]
 refine uX 1 (w:=.lst lt) (ai (Hw 2 rows (fun r=>Dt.str (sg r.c)) (fun r=>Dt.str (sg r.c)) (fun r=>[.val (.str (sg r.c))]) (fun _=>true) rfl nd (cQ Ed) (k9 (aa 1 rfl)) (cW (cQ Ed) rfl) (e9 lU ez) (fun a _=>dM)
   (.one fun a ha C fp s' H' G'=>ql (bM Ee ay hr (ae (aa 0 rfl) aj) ⟨a.c,rfl,ok.sm a ha,rfl⟩)) (fun a ha _ C fp s' H' G'=>aa 0 rfl) hsz) ?r2)
 rw[ef]
 refine uX 2 (w:=.lst lt) (ao (oo (o:=.nx (S rows.length)) (m:=rows.length) (List.range xs.length) (fun(j:Nat)=>.tup [.int j,xs.getD j .cP]) (fun(j:Nat) dl=>(dl.set 3 (.val (.int j))).set 4 (.val (xs.getD j .cP))) S rfl PassesOwn.leaving
   (Lq rfl T.lr (ae (aa 0 rfl) aj)) (Fj (xs:=xs)) (uD rfl (cV (bx nd rfl (.inl rfl)) (cV (bx nd rfl (.inl rfl)) n6))) (fun a _=>DQ) (Le.of ⟨rfl,rfl,rfl,trivial⟩) (by rw[List.length_range,RJ];exact Nat.le_refl _) (fun j a hj ha=>?l) (by rw[List.length_range,RJ];exact .all rfl)))
 rw[List.getElem?_range (by omega)] at ha
 cases ha
 have ex:xs.getD j .cP=qT rows[j]:=by
   show(rows.map qT).getD j .cP=_
   rw[List.getD_eq_getElem?_getD,List.getElem?_map,List.getElem?_eq_getElem hj];rfl
 have hm:=List.getElem_mem hj
 have W6:cs.length=rows.length:=List.length_map ..
 have eT:lt.take j=((cs.take j).map sg).map Dt.str:=by
   show((cs.map sg).map Dt.str).take j=_
   rw[<- List.map_take,<- List.map_take]
 have de:lt.length=rows.length:=by show((cs.map sg).map Dt.str).length=_;rw[List.length_map,List.length_map,W6]
 have Yc:sg rows[j].c ∉ (cs.take j).map sg:=by
   intro z
   have z:=IM.mp z
   obtain⟨i,hi,e⟩:=List.mem_iff_getElem.mp z
   rw[List.length_take] at hi
   rw[List.getElem_take] at e
   have h:=List.pairwise_iff_getElem.mp ok.nd i j (by rw[List.length_map];omega) (by rw[List.length_map];exact hj) (by omega)
   exact h (e.trans (List.getElem_map (f:=Row.c) (l:=rows) (i:=j) (h:=by rw[List.length_map];exact hj)).symm)
 have en:(!decide (sg rows[j].c∈(cs.take j).map sg))=true:=by rw[decide_eq_false Yc];rfl
 have v4:∀ {X:Cx} {G:Gr} {dl:List Slot} {e:Expr},EE X G dl e (xs.getD j .cP)->EE X G dl e (.tup [.str (sg rows[j].c),.str rows[j].d,.str (tx rows[j].w)]):=fun h=>by rw[ex] at h;exact h
 refine .nx (ai (ax 5 nd (ye (u:=true) (v:=true) (bM Ee ay hr (ae (av (v4 (aa 4 rfl)) ah rfl) aj) ⟨_,rfl,ok.sm _ hm,rfl⟩) fun _=>(tN (bP (Lr (xs:=(cs.take j).map sg) (av (v4 (aa 4 rfl)) ah rfl) (ik eT (Mc (aa 1 rfl) (aa 3 rfl) (by rw[de];exact Nat.le_of_lt hj)))) (congrArg Dt.bl en)))))
   (ao (bQ (u:=false) (pL (u:=true) (uS (uR (u:=true) (v:=true) (ql (aa 5 rfl)) fun _=>(uR (u:=true) (v:=true) (dq (Co (xs:=pF) (av (v4 (aa 4 rfl)) ah rfl) (j0 (w:=.ref t.kr) T.zi rfl T.zj)) (decide_eq_true (ok.dd _ hm))) fun _=>(yd (ql (bM QA ay hr (ae (av (v4 (aa 4 rfl)) ah rfl) (ae (aa 2 rfl) aj)) ⟨rows[j].w,cs,rfl,ok.wp _ hm,ok.wo _ hm,fun x hx=>?_,rfl⟩))))))) (fun h=>nomatch h) (fun h=>bZ)))) (Le.of ⟨rfl,rfl,rfl,trivial⟩)
 obtain⟨r,hr',rfl⟩:=List.mem_map.mp hx
 exact ok.sm r hr'
noncomputable def IS (t:dN):Rl:=fun ds r=>∃ six,ds=[.int (wy six)]/\r=.ret (.ip (.obj (t.pc six) []))
noncomputable def Md (t:dN):Rl:=fun ds r=>∃ six rows,ds=[.int (wy six),.lst (rows.map qT)]/\cN rows/\r=.own (.obj t.aK [("drawer",.ip (.obj (t.pc six) [])),("row_by_letter",.eB (rX rows))])
noncomputable def rr (r:Row):Str×List Dt:=(sg r.c,[.str r.d,.str (tx r.w)])
theorem Ef (rows:List Row):rows.map qT=(rows.map rr).map u9:=by rw[List.map_map];rfl
theorem QB (rows:List Row):rX rows=pv (rows.map rr):=by unfold pv rX;rw[List.map_map];rfl
theorem Uu {rows:List Row}(nd:(rows.map (·.c)).Nodup):((rows.map rr).map (·.1)).Nodup:=by
 have e:(rows.map rr).map (·.1)=(rows.map (·.c)).map sg:=by rw[List.map_map,List.map_map];rfl
 rw[e]
 exact List.Pairwise.map sg (fun a b h z=>h (rY z)) nd
theorem FK (T:Txt K mg t):GF P w K mg base CX 1 "pen_of" 1 (IS t):=by
 refine⟨_,_,_,iq T.l4.F FI rfl fun bg A outer s H E G ds r hr hl hR=>?_,(T.g T.l4.a),T.l4.F.kp,T.l4.b⟩
 obtain⟨six,rfl,rfl⟩:=hR
 cases six with
 | false=>exact⟨_,.rt _,qm (bQ (lE (aa 0 rfl) ah) (fun h=>ao (aF (A1 T.pZ (T.g T.i9.a)))) (fun h=>absurd h (by decide)))⟩
 | true=>exact⟨_,.rt _,ai (bQ (lE (aa 0 rfl) ah) (fun h=>absurd h (by decide)) (fun h=>bZ)) (qm (bQ (lE (aa 0 rfl) ah) (fun h=>ao (aF (A1 T.vz (T.g T.mP.a)))) (fun h=>absurd h (by decide))))⟩
theorem IT (T:Txt K mg t):RC P w K mg base CX 3 "Rules" t.aK 3 (Md t):=by
 refine⟨_,_,_,Vu T.kH.F pC rfl fun bg A outer s H E G z ds r hr hl hR=>?_,T.vA,(T.g T.dR.a),T.kH.b⟩
 obtain⟨six,rows,rfl,ok,rfl⟩:=hR
 have Uv:=FK (P:=P) (w:=w) (base:=base) T
 have Me:=IQ (P:=P) (w:=w) (base:=base) T
 have nd:=pC.nd
 have hu:(A.deeper (envOfC "Rules.__init__" (af j6) s.heap.objs.size t.eI bg)).units+1 < cLine:=by have:=hr.units;omega
 rw[QB,Ef]
 refine⟨_,.nx ?fin,ai (ax 3 nd (bM Uv ay hr (ae (aa 1 rfl) aj) ⟨six,rfl,rfl⟩))
   (ai (oi (bM Me ay hr (ae (aa 2 rfl) aj) ⟨rows,by rw[Ef],ok,rfl⟩))
   (ai (jN (aa 3 rfl) T.dR.cl T.gW)
   (HJ 2 4 (C:=t.aK) (rows:=rows.map rr) (dlu:=[.bw,.val (.int (wy six)),.val (.lst ((rows.map rr).map u9)),.val (.ip (.obj (t.pc six) [])),.bw]) hu nd rfl PassesOwn.leaving T.dR.cl T.aO rfl rfl rfl rfl (by decide) (by decide) rfl (Uu ok.nd) (by rw[List.length_map];exact Nat.lt_of_le_of_lt ok.le (by decide))
     (fun r=>av (aa 4 rfl) ah (jY (j:=0) rfl)) (fun r=>Lx T.qM (aa 4 rfl)))))⟩
 rfl
open PySem.Builtin.Str in
theorem xK (x:Str){a b:Nat}(ZW:a<=b)(hb:b<=x.length){l u:Option Int}(h:strSliceIndices l u 1 x.length=strSliceIndices (some (a:Int)) (some (b:Int)) 1 x.length):Txt.slice x l u=⟨((x.cps.toList.drop a).take (b - a)).toArray⟩:=by
 unfold Txt.slice
 rw[h,PySem.StrLaws.sliced_plain x ZW hb]
 split
 . rename_i q
   rw[PySem.StrLaws.strSliceIndices_plain ZW hb,List.length_map,List.length_range] at q
   have q:b - a=x.length:=by simpa using q
   have ea:a=0:=by omega
   have eb:b=x.length:=by omega
   subst ea eb
   rw[List.drop_zero,Nat.sub_zero]
   have:x.cps.toList.take x.length=x.cps.toList:=List.take_of_length_le (by simp[Str.length])
   rw[this]
 . rfl
open PySem.Builtin.Str in
theorem IU (L:List Nat){k:Nat}(h:k<=L.length):Txt.slice (tx L) none (some (k:Int))=tx (L.take k):=by
 rw[xK (tx L) (a:=0) (b:=k) (Nat.zero_le _) (by rw[ij];exact h)]
 . show(⟨(((L.toArray.toList).drop 0).take (k - 0)).toArray⟩:Str)=_
   simp[tx]
 . simp[strSliceIndices]
   have e:max (0:Int) (min 0 ((tx L).length:Int))=0:=by omega
   rw[e]
open PySem.Builtin.Str in
theorem CN (L:List Nat){k:Nat}(h:k<=L.length):Txt.slice (tx L) (some (k:Int)) none=tx (L.drop k):=by
 rw[xK (tx L) (a:=k) (b:=(tx L).length) (by rw[ij];exact h) (Nat.le_refl _)]
 . show(⟨(((L.toArray.toList).drop k).take ((tx L).length - k)).toArray⟩:Str)=_
   rw[ij,List.toList_toArray,List.take_of_length_le (by rw[List.length_drop];exact Nat.le_refl _)]
   rfl
 . simp[strSliceIndices]
   have e:max (0:Int) (min (if ((tx L).length:Int) < 0 then ((tx L).length:Int)+(tx L).length else (tx L).length) ((tx L).length:Int))=(tx L).length:=by
     rw[if_neg (by omega)];omega
   rw[e]
theorem QC (a b:List Nat):tx a ++ tx b=tx (a ++ b):=by
 show(⟨a.toArray ++ b.toArray⟩:Str)=⟨(a ++ b).toArray⟩
 simp
theorem Uw (L:List Nat){k:Nat}(h:k < L.length):ny (tx L).cps.toList (k:Int)=some (L.getD k 0):=by
 show ny L.toArray.toList (k:Int)=_
 rw[List.toList_toArray]
 refine jY ?_
 rw[List.getD_eq_getElem?_getD,List.getElem?_eq_getElem h];rfl
section
variable {X:Cx}{G:Gr}{dl:List Slot}{a b:Expr}{L M:List Nat}{k:Nat}{pos p p2:Pos}
theorem zl (ha:EE X G dl a (.str (tx L)))(hb:EE X G dl b (.str (tx M)))(h:L.length+M.length<=2000):EE X G dl (.BinOp a .Add b pos) (.str (tx (L ++ M))):=
 bP (O4 ha hb (by rw[ij,ij];exact r0 h)) (by rw[QC])
theorem zm (ha:EE X G dl a (.str (tx L)))(hb:EE X G dl b (.int (k:Int)))(h:k < L.length)(hl:L.length<=2000)(hs:jZ b:=by intro _ _;rfl):EE X G dl (.Subscript a b pos) (.str (tx [L.getD k 0])):=
 O7 ha hb (Uw L h) (by rw[ij];exact r0 hl) hs
theorem Mf (ha:EE X G dl a (.str (tx L)))(hb:EE X G dl b (.int (k:Int)))(h:k<=L.length)(hl:L.length<=2000):EE X G dl (.Subscript a (.Slice none (some b) none p2) pos) (.str (tx (L.take k))):=
 bP (HA ha Hz (DR hb) (by rw[ij];exact r0 hl)) (by rw[IU L h])
theorem FL (ha:EE X G dl a (.str (tx L)))(hb:EE X G dl b (.int (k:Int)))(h:k<=L.length)(hl:L.length<=2000):EE X G dl (.Subscript a (.Slice (some b) none none p2) pos) (.str (tx (L.drop k))):=
 bP (HA ha (DR hb) Hz (by rw[ij];exact r0 hl)) (by rw[CN L h])
theorem qN (hm:X.mg "len"=none)(ha:EE X G dl a (.str (tx L)))(hl:L.length<=2000)(hg:Gl X "len":=by rfl)(he:starEach [a] X.env=[(false,eval a X.env)]:=by rfl):EE X G dl (.Call (.Name "len" p) [a] [] pos) (.int (L.length:Nat)):=
 bP (yi hm ha (by rw[ij];exact r0 hl) hg he) (by rw[ij])
end
theorem Eg:∀ (Ls:List (List Nat)) (a:List Nat),(Ls.map tx).foldl (fun acc p=>acc ++ (("":Str).cps) ++ p.cps) a.toArray=(a ++ Ls.flatten).toArray
 | [],a=>by simp
 | l::r,a=>by
   have e:a.toArray ++ ("":Str).cps ++ (tx l).cps=(a ++ l).toArray:=by
     show a.toArray ++ (#[]:Array Nat) ++ l.toArray=_
     simp
   rw[List.map_cons,List.foldl_cons,e,Eg r,List.flatten_cons,List.append_assoc]
theorem Mg (Ls:List (List Nat)):Txt.join "" (Ls.map tx)=tx Ls.flatten:=by
 cases Ls with
 | nil=>rfl
 | cons l r=>
   show(⟨(r.map tx).foldl (fun acc p=>acc ++ (("":Str).cps) ++ p.cps) l.toArray⟩:Str)=_
   rw[Eg,List.flatten_cons];rfl
theorem FN {X:Cx}{G:Gr}{dl:List Slot}{a e:Expr}{apos bW:Pos}{Ls:List (List Nat)}(ha:EE X G dl a (.str ""))(he:EE X G dl e (.lst ((Ls.map tx).map .str)))(hw:Ls.flatten.length+Ls.length<=100000)(jy:attributeBase a "join" X.env (eval a X.env)=eval a X.env:=by rfl)
   (uL:((backTo bW (starEach [e] X.env)).all (fun x=>!x.1) && (backToKw bW (keywordEach [] X.env)).all (fun x=>x.1.isSome) && decide ([e].length+([]:List Keyword).length+(if ([]:List Keyword).isEmpty then 0 else 1) < 30))=true:=by rfl)
   (jz:(apos.endLine == bW.line)=true:=by rfl) (m7:starEach [e] X.env=(false,eval e X.env)::starEach [] X.env:=by rfl):EE X G dl (.Call (.Attribute a "join" apos) [e] [] bW) (.str (tx Ls.flatten)):=by
 have e1:((Ls.map tx).map (·.length)).sum=Ls.flatten.length:=by
   rw[List.length_flatten,List.map_map]
   congr 1
 exact bP (Lv ha he (joinOk_of_weight (by rw[e1,List.length_map];omega) (by decide)) jy uL jz m7) (by rw[Mg])
theorem Bh:∀ rows:List Row,(rows.map fun r=>[r.c]).flatten=rows.map (·.c)
 | []=>rfl
 | a::r=>by rw[List.map_cons,List.flatten_cons,Bh r];rfl
noncomputable def dN.xM (t:dN)(six:Bool)(rows:List Row):List (Str×Dt):=[("drawer",.ip (.obj (t.pc six) [])),("row_by_letter",.eB (rX rows))]
noncomputable def mS (rows:List Row)(x:Nat):Str:=((rows.find? fun r=>decide (r.c=x)).map (·.d)).getD ""
noncomputable def wordOf (rows:List Row)(x:Nat):List Nat:=((rows.find? fun r=>decide (r.c=x)).map (·.w)).getD []
theorem jI {rows:List Row}{x:Nat}(h:x∈rows.map (·.c)):∃ r∈rows,r.c=x/\mS rows x=r.d/\wordOf rows x=r.w:=by
 obtain⟨q,hq,e⟩:=List.mem_map.mp h
 cases f:rows.find? (fun r=>decide (r.c=x)) with
 | none=>exact absurd (decide_eq_true e) (by simpa using List.find?_eq_none.mp f q hq)
 | some r=>
   refine⟨r,List.mem_of_find?_eq_some f,of_decide_eq_true (List.find?_some (p:=fun r:Row=>decide (r.c=x)) f),?_,?_⟩
   . unfold mS;rw[f];rfl
   . unfold wordOf;rw[f];rfl
noncomputable def CO (t:dN):Rl:=fun ds r=>∃ six rows,ds=[t.zN six rows]/\cN rows/\r=.ret (.str (tx (rows.map (·.c))))
noncomputable def IV (t:dN):Rl:=fun ds r=>∃ six rows q,ds=[t.zN six rows,.str (sg q.c)]/\cN rows/\q∈rows/\r=.ret (qT q)
noncomputable def Mh (t:dN):Rl:=fun ds r=>∃ six rows x,ds=[t.zN six rows,.str (sg x)]/\cN rows/\x∈rows.map (·.c)/\r=.ret (.str (mS rows x))
noncomputable def Mi (t:dN):Rl:=fun ds r=>∃ six rows x,ds=[t.zN six rows,.str (sg x)]/\cN rows/\x∈rows.map (·.c)/\r=.ret (.str (tx (wordOf rows x)))
theorem xN (T:Txt K mg t):MF P w K mg base CX 1 t.aK "row_of" 2 (IV t):=by
 refine⟨T.dR.cl,_,_,_,iq T.iR.F tf rfl fun bg A outer s H E G ds r hr hl hR=>?_,T.fA,T.iR.b⟩
 obtain⟨six,rows,q,rfl,ok,hq,rfl⟩:=hR
 have hu:(A.deeper (envOfC "Rules.row_of" (af iC) s.heap.objs.size t.cX bg)).units+1 < cLine:=by have:=hr.units;omega
 have hv:=rZ ok.nd hq
 exact⟨_,.rt _,ai (bQ (u:=false) (dq (DT hu (aa 1 rfl) (aG (fs:=t.xM six rows) (aa 0 rfl) T.dR.cl T.aO rfl)) (by rw[hv];rfl)) (fun h=>nomatch h) (fun h=>bZ))
   (ao (aF (Lw hu (aG (fs:=t.xM six rows) (aa 0 rfl) T.dR.cl T.aO rfl) (aa 1 rfl) hv (fun _ _=>rfl))))⟩
theorem vM (T:Txt K mg t):MF P w K mg base CX 2 t.aK "word" 2 (Mi t):=by
 refine⟨T.dR.cl,_,_,_,iq T.kJ.F wM rfl fun bg A outer s H E G ds r hr hl hR=>?_,T.gB,T.kJ.b⟩
 obtain⟨six,rows,x,rfl,ok,hx,rfl⟩:=hR
 obtain⟨q,hq,rfl,e1,e2⟩:=jI hx
 have m:=xN (P:=P) (w:=w) (base:=base) T
 rw[e2]
 exact⟨_,.rt _,ao (aF (av (bB (fs:=t.xM six rows) (aa 0 rfl) m ay hr (ae (aa 1 rfl) aj) ⟨six,rows,q,rfl,ok,hq,rfl⟩) ah rfl))⟩
theorem jJ (T:Txt K mg t):MF P w K mg base CX 1 t.aK "letters" 1 (CO t):=by
 refine⟨T.dR.cl,_,_,_,iq T.hE.F rQ rfl fun bg A outer s H E G ds r hr hl hR=>?_,T.eY,T.hE.b⟩
 obtain⟨six,rows,rfl,ok,rfl⟩:=hR
 have h6:=ok.le
 have el:((rX rows).map fun kd=>kD kd.1)=((rows.map fun r=>[r.c]).map tx).map Dt.str:=by
   unfold rX
   rw[List.map_map,List.map_map,List.map_map];rfl
 have ef:(rows.map fun r=>[r.c]).flatten=rows.map (·.c):=Bh rows
 refine⟨_,.rt _,ao (aF (bP (FN (Ls:=rows.map fun r=>[r.c]) fo (ik el (HL T.nY rfl (aG (fs:=t.xM six rows) (aa 0 rfl) T.dR.cl T.aO rfl))) (by rw[ef,List.length_map,List.length_map];omega)) (by rw[ef])))⟩
theorem IW (T:Txt K mg t):MF P w K mg base CX 2 t.aK "deed" 2 (Mh t):=by
 refine⟨T.dR.cl,_,_,_,iq T.kI.F wL rfl fun bg A outer s H E G ds r hr hl hR=>?_,T.gA,T.kI.b⟩
 obtain⟨six,rows,x,rfl,ok,hx,rfl⟩:=hR
 obtain⟨q,hq,rfl,e1,e2⟩:=jI hx
 have m:=xN (P:=P) (w:=w) (base:=base) T
 rw[e1]
 exact⟨_,.rt _,ao (aF (av (bB (fs:=t.xM six rows) (aa 0 rfl) m ay hr (ae (aa 1 rfl) aj) ⟨six,rows,q,rfl,ok,hq,rfl⟩) ah rfl))⟩
noncomputable def xO (t:dN):Rl:=fun ds r=>∃ (six:Bool) (rows:List Row) (w:List Nat) (m:Nat),ds=[t.zN six rows,.str (tx w),.int (m:Nat)]/\cN rows/\(∀ x∈w,x∈rows.map (·.c))/\(0 < w.length/\w.length<=m/\m<=1000)/\r=.ret (.str (tx w))
theorem Mj (w:List Nat):w.map (fun x=>Dt.str (sg x))=Sg.signs (tx w):=by rw[vL,List.map_map];rfl
theorem uu {rows:List Row}(ok:cN rows){w:List Nat}(h:∀ x∈w,x∈rows.map (·.c)):jO (tx w)=true:=jH fun x hx=>by
 obtain⟨r,hr,rfl⟩:=List.mem_map.mp (h x hx)
 have:=ok.sm r hr
 unfold small at this;omega
theorem CP (T:Txt K mg t):jx P w K mg base CX 1 t.aV t.gT ["self","text","most"] (DH K 3 (xO t)):=by
 refine Vt T.tq l3 rfl fun bg A outer s H E G ds r hr hl hR=>?_
 obtain⟨six,rows,wd,m,rfl,ok,hw,⟨h0,hm,Ze⟩,rfl⟩:=hR
 have nd:=l3.nd
 have hu:(A.deeper (envOfC "Rules.word_of" (af aU) s.heap.objs.size t.aV bg)).units+1 < cLine:=by have:=hr.units;omega
 have ne:¬ tx wd=("":Str):=fun z=>by
   have:=congrArg Str.length z
   rw[ij] at this
   have e:("":Str).length=0:=rfl
   omega
 let xs:=Sg.signs (tx wd)
 have RJ:xs.length=wd.length:=by show(Sg.signs (tx wd)).length=_;rw[ow,ij]
 let S:Nat->List Slot:=fun _=>[.val (t.zN six rows),.val (.str (tx wd)),.val (.int (m:Nat)),.bw,.bw]
 refine⟨_,.rt _,ai (bQ (u:=false) (dq (pM (aa 1 rfl) fo) (decide_eq_false ne)) (fun h=>nomatch h) (fun h=>bZ))
   (ai (oo (o:=.nx (S wd.length)) (m:=wd.length) (List.range xs.length) (fun(j:Nat)=>.tup [.int j,xs.getD j .cP]) (fun(j:Nat) dl=>(dl.set 3 (.val (.int j))).set 4 (.val (xs.getD j .cP))) S rfl PassesOwn.leaving
     (HN rfl T.lr (ae (aa 1 rfl) aj)) (Cv (uu ok hw)) (uD rfl (cV (bx nd rfl (.inl rfl)) (cV (bx nd rfl (.inl rfl)) n6))) (fun a _=>DQ) (Le.of ⟨rfl,rfl,rfl,trivial⟩) (by rw[List.length_range,RJ];exact Nat.le_refl _) (fun j a hj ha=>?_) (by rw[List.length_range,RJ];exact .all rfl))
   (ao (aF (aa 1 rfl))))⟩
 rw[List.getElem?_range (by omega)] at ha
 cases ha
 have ex:xs.getD j .cP=.str (sg wd[j]):=by
   show(Sg.signs (tx wd)).getD j .cP=_
   rw[<- Mj,List.getD_eq_getElem?_getD,List.getElem?_map,List.getElem?_eq_getElem hj];rfl
 have v4:∀ {X:Cx} {G:Gr} {dl:List Slot} {e:Expr},EE X G dl e (xs.getD j .cP)->EE X G dl e (.str (sg wd[j])):=fun h=>by rw[ex] at h;exact h
 obtain⟨q,hq,hc,_,_⟩:=jI (hw _ (List.getElem_mem hj))
 have hv:=rZ ok.nd hq
 rw[hc] at hv
 exact .nx (ao (bQ (u:=false) (uS (pk (u:=false) (v:=false) (dq (G7 (aa 3 rfl) (aa 2 rfl)) (decide_eq_false (by omega))) fun _=>(pK (dq (DT hu (v4 (aa 4 rfl)) (aG (fs:=t.xM six rows) (aa 0 rfl) T.dR.cl T.aO rfl)) (by rw[hv];rfl))))) (fun h=>nomatch h) (fun h=>bZ))) (Le.of ⟨rfl,rfl,rfl,trivial⟩)
theorem Yd {K:W.Frag}:∀ H,br K H [.int 8] [.int 8]:=fun _=>.cons (.int 8) .nil
theorem Bi (T:Txt K mg t):Ge P w K mg base CX 1 t.aK "word_of" 3 [.int 8] (xO t):=⟨T.dR.cl,_,_,_,_,[.int 8],CP T,T.eZ,T.rS,.cons ⟨_,rfl⟩ .nil,Yd⟩
noncomputable def QD (t:dN):Rl:=fun ds r=>∃ six rows,ds=[t.zN six rows]/\r=.ret (.ip (.obj (t.pc six) []))
theorem Eh (T:Txt K mg t):MF P w K mg base CX 1 t.aK "pen" 1 (QD t):=by
 refine⟨T.dR.cl,_,_,_,iq T.lq.F yX rfl fun bg A outer s H E G ds r hr hl hR=>?_,T.ig,T.lq.b⟩
 obtain⟨six,rows,rfl,rfl⟩:=hR
 exact⟨_,.rt _,ao (aF (aG (fs:=t.xM six rows) (aa 0 rfl) T.dR.cl T.gW rfl))⟩
noncomputable def tl (six:Bool)(p:Int×Int):Int×Int:=if six then (-p.2,p.1+p.2) else (-p.2,p.1)
noncomputable def tn (six:Bool):Nat->Int×Int->Int×Int
 | 0,p=>p
 | n+1,p=>tl six (tn six n p)
noncomputable def sp (p:Int×Int):Dt:=.tup [.int p.1,.int p.2]
theorem fe (six:Bool):0 < wy six:=by cases six <;> decide
noncomputable def QE (t:dN)(six:Bool):Rl:=fun ds r=>ds=[.obj (t.pc six) []]/\r=.ret (.int (wy six))
noncomputable def QF (t:dN)(six:Bool):Rl:=fun ds r=>∃ p,ds=[.obj (t.pc six) [],sp p]/\r=.ret (sp (tl six p))
noncomputable def IY (t:dN)(six:Bool):Rl:=fun ds r=>∃ z,ds=[.obj (t.pc six) [],.int z]/\r=.ret (.int (z % wy six))
noncomputable def IZ (t:dN)(six:Bool):Rl:=fun ds r=>∃ p b,ds=[.obj (t.pc six) [],sp p,.int b]/\r=.ret (sp (tn six (b % wy six).toNat p))
theorem uv (T:Txt K mg t)(six:Bool):MF P w K mg base CX 1 (t.pc six) "ways" 1 (QE t six):=by
 cases six with
 | false=>
   refine⟨T.i9.cl,_,_,_,iq T.iN.F sQ rfl fun bg A outer s H E G ds r hr hl hR=>?_,T.eh,T.iN.b⟩
   obtain⟨rfl,rfl⟩:=hR
   exact⟨_,.rt _,ao (aF ah)⟩
 | true=>
   refine⟨T.mP.cl,_,_,_,iq T.kA.F wu rfl fun bg A outer s H E G ds r hr hl hR=>?_,T.gv,T.kA.b⟩
   obtain⟨rfl,rfl⟩:=hR
   exact⟨_,.rt _,ao (aF ah)⟩
theorem Ml (T:Txt K mg t)(six:Bool):MF P w K mg base CX 1 (t.pc six) "turned_left" 2 (QF t six):=by
 cases six with
 | false=>
   refine⟨T.i9.cl,_,_,_,iq T.c9.F mG rfl fun bg A outer s H E G ds r hr hl hR=>?_,T.cb,T.c9.b⟩
   obtain⟨p,rfl,rfl⟩:=hR
   exact⟨_,.rt _,(ao (aF (b7 (ae (hX (av (aa 1 rfl) ah rfl)) (ae (av (aa 1 rfl) ah rfl) aj)) AA3)))⟩
 | true=>
   refine⟨T.mP.cl,_,_,_,iq T.dS.F nP rfl fun bg A outer s H E G ds r hr hl hR=>?_,T.cY,T.dS.b⟩
   obtain⟨p,rfl,rfl⟩:=hR
   exact⟨_,.rt _,(ao (aF (b7 (ae (hX (av (aa 1 rfl) ah rfl)) (ae (aI (av (aa 1 rfl) ah rfl) (av (aa 1 rfl) ah rfl)) aj)) AA3)))⟩
theorem Ei {six:Bool}{m:Str}{f:Addr}(hQ:Meth K t.aN m f)(hS:Meth K t.b5 m f):Meth K (t.pc six) m f:=by cases six <;> assumption
theorem Ej (T:Txt K mg t)(six:Bool):tL K (t.pc six):=by cases six;exact T.i9.cl;exact T.mP.cl
theorem l7 (T:Txt K mg t)(six:Bool):MF P w K mg base CX 2 (t.pc six) "way_of" 2 (IY t six):=by
 refine⟨Ej T six,_,_,_,iq T.ky.F wt rfl fun bg A outer s H E G ds r hr hl hR=>?_,Ei T.fu T.gk,T.ky.b⟩
 obtain⟨z,rfl,rfl⟩:=hR
 have h1:=uv (P:=P) (w:=w) (base:=base) T six
 refine⟨_,.rt _,ao (aF (dc (aa 1 rfl) (bL (aa 0 rfl) h1 ay hr ⟨rfl,rfl⟩) (fe six)))⟩
theorem xP (T:Txt K mg t)(six:Bool):MF P w K mg base CX 3 (t.pc six) "turned" 3 (IZ t six):=by
 refine⟨Ej T six,_,_,_,iq T.kz.F lI rfl fun bg A outer s H E G ds r hr hl hR=>?_,Ei T.fw T.gq,T.kz.b⟩
 obtain⟨p,b,rfl,rfl⟩:=hR
 have h1:=l7 (P:=P) (w:=w) (base:=base) T six
 have h2:=Ml (P:=P) (w:=w) (base:=base) T six
 have T8:=Int.emod_nonneg b (Int.ne_of_gt (fe six))
 have Xi:=Int.emod_lt_of_pos b (fe six)
 have hb3:wy six<=6:=by cases six <;> decide
 refine⟨_,.rt _,ai (i3 3 (fun k=>[.val (.obj (t.pc six) []),.val (sp (tn six k p)),.val (.int b),.bw]) lI.nd rfl PassesOwn.leaving T.hU
   (ae (bB (aa 0 rfl) h1 ay hr (ae (aa 2 rfl) aj) ⟨b,rfl,rfl⟩) aj) ⟨by omega,by omega⟩ (Le.of ⟨rfl,rfl,rfl,trivial⟩) (Nat.le_refl _) (fun k hk=>?_) (.all rfl)) (ao (aF (aa 1 rfl)))⟩
 refine .nx (ao (ax 1 lI.nd (bB (aa 0 rfl) h2 ay hr (ae (aa 1 rfl) aj) ⟨_,rfl,rfl⟩))) (Le.of ⟨rfl,rfl,rfl,trivial⟩)
theorem vN {m n:Nat}{a b:Int}(ha:a.natAbs < 2 ^ m)(hb:b.natAbs < 2 ^ n)(h:m+n<=134217728):IntMulOk a b:=IntMulOk.of_le (PySem.intBits_le_iff.mpr ha) (PySem.intBits_le_iff.mpr hb) h
noncomputable def iV (six:Bool)(w:Int)(p:Int×Int):Int:=
 if six then (if w=0 then 2 * p.1+p.2 else if w=1 then p.1+2 * p.2 else if w=2 then p.2 - p.1 else if w=3 then -2 * p.1 - p.2 else if w=4 then -p.1 - 2 * p.2 else p.1 - p.2)
 else (if w=0 then p.1 else if w=1 then p.2 else if w=2 then -p.1 else -p.2)
theorem Ux (six:Bool){w:Int}(h0:0<=w)(h1:w < wy six)(p:Int×Int):iV six ((w+1) % wy six) (Pf.tl six p)=iV six w p:=by
 obtain⟨x,y⟩:=p
 cases six with
 | false=>
   have h1:w < 4:=h1
   have h:w=0\/w=1\/w=2\/w=3:=by omega
   rcases h with rfl | rfl | rfl | rfl <;> simp[iV,Pf.tl,wy]
 | true=>
   have h1:w < 6:=h1
   have h:w=0\/w=1\/w=2\/w=3\/w=4\/w=5:=by omega
   rcases h with rfl | rfl | rfl | rfl | rfl | rfl <;> simp[iV,Pf.tl,wy] <;> omega
theorem NK (six:Bool){w:Int}(h0:0<=w)(h1:w < wy six)(p:Int×Int):∀ n:Nat,iV six ((w+n) % wy six) (tn six n p)=iV six w p
 | 0=>by
   show iV six ((w+0) % wy six) p=_
   rw[Int.add_zero,Int.emod_eq_of_lt h0 h1]
 | n+1=>by
   have hp:=fe six
   have a:=Int.emod_nonneg (w+n) (Int.ne_of_gt hp)
   have b:=Int.emod_lt_of_pos (w+n) hp
   show iV six ((w+((n+1:Nat):Int)) % wy six) (Pf.tl six (tn six n p))=_
   rw[<- NK six h0 h1 p n,<- Ux six a b]
   congr 1
   rw[Int.emod_add_emod]
   congr 1
   push_cast
   omega
theorem Ja (six:Bool){w:Int}(h0:0<=w)(h1:w < wy six)(b:Int)(p:Int×Int):iV six ((w+b) % wy six) (tn six (b % wy six).toNat p)=iV six w p:=by
 have a:=Int.emod_nonneg b (Int.ne_of_gt (fe six))
 have e:((((b % wy six).toNat:Nat):Int))=b % wy six:=by omega
 have:=NK six h0 h1 p (b % wy six).toNat
 rw[e,Int.add_emod_emod] at this
 exact this
noncomputable def Mm (t:dN)(six:Bool):Rl:=fun ds r=>∃ z p,ds=[.obj (t.pc six) [],.int z,sp p]/\(0<=z/\z < wy six)/\r=.ret (.int (iV six z p))
theorem Uy {z:Int}(p:Int×Int)(h0:0<=z)(h1:z < 4):ny [Dt.int p.1,Dt.int p.2,Dt.int (-p.1),Dt.int (-p.2)] z=some (Dt.int (iV false z p)):=by
 have h:z=0\/z=1\/z=2\/z=3:=by omega
 rcases h with rfl | rfl | rfl | rfl <;> rfl
theorem Uz {z:Int}(p:Int×Int)(h0:0<=z)(h1:z < 6):ny [Dt.int (2 * p.1+p.2),Dt.int (p.1+2 * p.2),Dt.int (p.2 - p.1),Dt.int (-2 * p.1 - p.2),Dt.int (-p.1 - 2 * p.2),Dt.int (p.1 - p.2)] z=some (Dt.int (iV true z p)):=by
 have h:z=0\/z=1\/z=2\/z=3\/z=4\/z=5:=by omega
 rcases h with rfl | rfl | rfl | rfl | rfl | rfl <;> rfl
theorem mod_lt {z m:Int}(h0:0<=z)(h1:z < m):z % m=z:=Int.emod_eq_of_lt h0 h1
theorem Bj (T:Txt K mg t)(six:Bool):MF P w K mg base CX 3 (t.pc six) "along" 3 (Mm t six):=by
 have qO:=l7 (P:=P) (w:=w) (base:=base) T six
 cases six with
 | false=>
   refine⟨T.i9.cl,_,_,_,iq T.gX.F i8 rfl fun bg A outer s H E G ds r hr hl hR=>?_,T.dD,T.gX.b⟩
   obtain⟨z,p,rfl,⟨h0,h1⟩,rfl⟩:=hR
   exact⟨_,.rt _,(ai (ax 3 i8.nd (av (aa 2 rfl) ah rfl))
 (ai (ax 4 i8.nd (av (aa 2 rfl) ah rfl))
 (ao (aF (av (b7 (ae (aa 3 rfl) (ae (aa 4 rfl) (ae (hX (aa 3 rfl)) (ae (hX (aa 4 rfl)) aj)))) AA3) (bB (aa 0 rfl) qO ay hr (ae (aa 1 rfl) aj) ⟨z,rfl,rfl⟩) (by rw[mod_lt h0 h1];exact Uy p h0 h1))))))⟩
 | true=>
   refine⟨T.mP.cl,_,_,_,iq T.jq.F kU rfl fun bg A outer s H E G ds r hr hl hR=>?_,T.fP,T.jq.b⟩
   obtain⟨z,p,rfl,⟨h0,h1⟩,rfl⟩:=hR
   exact⟨_,.rt _,(ai (ax 3 kU.nd (av (aa 2 rfl) ah rfl))
 (ai (ax 4 kU.nd (av (aa 2 rfl) ah rfl))
 (ao (aF (av (b7 (ae (aI (eE ah (aa 3 rfl) (qe.ok (Or.inl ⟨by decide,by decide⟩))) (aa 4 rfl)) (ae (aI (aa 3 rfl) (eE ah (aa 4 rfl) (qe.ok (Or.inl ⟨by decide,by decide⟩)))) (ae (hV (aa 4 rfl) (aa 3 rfl)) (ae (hV (eE (hX ah) (aa 3 rfl) (qe.ok (Or.inl ⟨by decide,by decide⟩))) (aa 4 rfl)) (ae (hV (hX (aa 3 rfl)) (eE ah (aa 4 rfl) (qe.ok (Or.inl ⟨by decide,by decide⟩)))) (ae (hV (aa 3 rfl) (aa 4 rfl)) aj)))))) AA3) (bB (aa 0 rfl) qO ay hr (ae (aa 1 rfl) aj) ⟨z,rfl,rfl⟩) (by rw[mod_lt h0 h1];exact Uz p h0 h1))))))⟩
noncomputable def ad (p q:Int×Int):Int×Int:=(p.1+q.1,p.2+q.2)
noncomputable def Mn:Rl:=fun ds r=>∃ p q,ds=[sp p,sp q]/\r=.ret (sp (ad p q))
noncomputable def NL:List Str:=["stroke","step"]
noncomputable def qP (d:Str):Int:=if d="left" then 1 else if d="right" then -1 else 0
noncomputable def uw (six:Bool)(d:Str)(p:Int×Int)(w:Int):(Int×Int)×Int:=(if d∈NL then ad p (tn six (w % wy six).toNat (1,0)) else p,(w+qP d) % wy six)
noncomputable def Mo:Rl:=fun ds r=>∃ d:Str,ds=[.str d]/\r=.ret (.int (qP d))
noncomputable def QG (t:dN)(six:Bool):Rl:=fun ds r=>∃ w,ds=[.obj (t.pc six) [],.int w]/\r=.ret (sp (tn six (w % wy six).toNat (1,0)))
noncomputable def Mp (t:dN)(six:Bool):Rl:=fun ds r=>∃ d p w,ds=[.obj (t.pc six) [],.str d,sp p,.int w]/\d∈pF/\r=.ret (.tup [sp (uw six d p w).1,.int (uw six d p w).2])
theorem Bk (T:Txt K mg t):GF P w K mg base CX 1 "added" 2 Mn:=by
 refine⟨_,_,_,iq T.oJ.F Ir rfl fun bg A outer s H E G ds r hr hl hR=>?_,(T.g T.oJ.a),T.oJ.F.kp,T.oJ.b⟩
 obtain⟨p,q,rfl,rfl⟩:=hR
 exact⟨_,.rt _,(ao (aF (b7 (ae (aI (av (aa 0 rfl) ah rfl) (av (aa 1 rfl) ah rfl)) (ae (aI (av (aa 0 rfl) ah rfl) (av (aa 1 rfl) ah rfl)) aj)) AA3)))⟩
theorem Jb (T:Txt K mg t):GF P w K mg base CX 1 "turn_of_deed" 1 Mo:=by
 refine⟨_,_,_,iq T.ee.F sP rfl fun bg A outer s H E G ds r hr hl hR=>?_,(T.g T.ee.a),T.ee.F.kp,T.ee.b⟩
 obtain⟨d,rfl,rfl⟩:=hR
 by_cases c0:d="left"
 . rw[show qP d=1 from if_pos c0]
   exact⟨_,.rt _,qm (bQ (pM (aa 0 rfl) fo) (fun h=>ao (aF ah)) (fun h=>absurd c0 (of_decide_eq_false h)))⟩
 by_cases c1:d="right"
 . rw[show qP d=-1 by unfold qP;rw[if_neg c0,if_pos c1]]
   exact⟨_,.rt _,ai (bQ (pM (aa 0 rfl) fo) (fun h=>absurd (of_decide_eq_true h) c0) (fun h=>bZ)) (qm (bQ (pM (aa 0 rfl) fo) (fun h=>ao (aF (hX ah))) (fun h=>absurd c1 (of_decide_eq_false h))))⟩
 . rw[show qP d=0 by unfold qP;rw[if_neg c0,if_neg c1]]
   exact⟨_,.rt _,ai (bQ (pM (aa 0 rfl) fo) (fun h=>absurd (of_decide_eq_true h) c0) (fun h=>bZ)) (ai (bQ (pM (aa 0 rfl) fo) (fun h=>absurd (of_decide_eq_true h) c1) (fun h=>bZ)) (ao (aF ah)))⟩
theorem Mq (T:Txt K mg t)(six:Bool):MF P w K mg base CX 4 (t.pc six) "step" 2 (QG t six):=by
 refine⟨Ej T six,_,_,_,iq T.mQ.F A4 rfl fun bg A outer s H E G ds r hr hl hR=>?_,Ei T.gu T.iM,T.mQ.b⟩
 obtain⟨z,rfl,rfl⟩:=hR
 have h1:=xP (P:=P) (w:=w) (base:=base) T six
 exact⟨_,.rt _,ao (aF (bB (aa 0 rfl) h1 ay hr (ae (b7 (ae ah (ae ah aj)) AA3) (ae (aa 1 rfl) aj)) ⟨(1,0),z,rfl,rfl⟩))⟩
theorem Jc (T:Txt K mg t)(six:Bool):MF P w K mg base CX 5 (t.pc six) "after" 4 (Mp t six):=by
 refine⟨Ej T six,_,_,_,iq T.lp.F qC rfl fun bg A outer s H E G ds r hr hl hR=>?_,Ei T.fO T.ib,T.lp.b⟩
 obtain⟨d,p,z,rfl,hd,rfl⟩:=hR
 have h1:=Mq (P:=P) (w:=w) (base:=base) T six
 have h2:=Bk (P:=P) (w:=w) (base:=base) T
 have h3:=Jb (P:=P) (w:=w) (base:=base) T
 have h4:=l7 (P:=P) (w:=w) (base:=base) T six
 by_cases c:d∈NL
 . rw[show uw six d p z=(ad p (tn six (z % wy six).toNat (1,0)),(z+qP d) % wy six) by unfold uw;rw[if_pos c]]
   exact⟨_,.rt _,(ai (bQ (DM (xs:=pF) (aa 1 rfl) (j0 (w:=.ref t.kr) T.zi rfl T.zj)) (fun h=>absurd h (by simp[hd])) (fun h=>bZ))
 (ai (bQ (Co (xs:=NL) (aa 1 rfl) (j0 (w:=.ref t.cR) T.pD rfl T.pE)) (fun h=>
     (ao (ax 2 qC.nd (bM h2 ay hr (ae (aa 2 rfl) (ae (bB (aa 0 rfl) h1 ay hr (ae (aa 3 rfl) aj) ⟨_,rfl,rfl⟩) aj)) ⟨_,_,rfl,rfl⟩)))) (fun h=>absurd c (of_decide_eq_false h)))
 (ao (aF (b7 (ae (aa 2 rfl) (ae (bB (aa 0 rfl) h4 ay hr (ae (aI (aa 3 rfl) (bM h3 ay hr (ae (aa 1 rfl) aj) ⟨_,rfl,rfl⟩)) aj) ⟨_,rfl,rfl⟩) aj)) AA3)))))⟩
 . rw[show uw six d p z=(p,(z+qP d) % wy six) by unfold uw;rw[if_neg c]]
   exact⟨_,.rt _,(ai (bQ (DM (xs:=pF) (aa 1 rfl) (j0 (w:=.ref t.kr) T.zi rfl T.zj)) (fun h=>absurd h (by simp[hd])) (fun h=>bZ))
 (ai (bQ (Co (xs:=NL) (aa 1 rfl) (j0 (w:=.ref t.cR) T.pD rfl T.pE)) (fun h=>absurd (of_decide_eq_true h) c) (fun h=>bZ))
 (ao (aF (b7 (ae (aa 2 rfl) (ae (bB (aa 0 rfl) h4 ay hr (ae (aI (aa 3 rfl) (bM h3 ay hr (ae (aa 1 rfl) aj) ⟨_,rfl,rfl⟩)) aj) ⟨_,rfl,rfl⟩) aj)) AA3)))))⟩
noncomputable def sm (p:Int×Int):Prop:=p.1.natAbs < 2 ^ 1000/\p.2.natAbs < 2 ^ 1000
noncomputable def cr (p q:Int×Int):Int:=p.1 * q.2 - p.2 * q.1
noncomputable def Mr:Rl:=fun ds r=>∃ p q,ds=[sp p,sp q]/\(sm p/\sm q)/\r=.ret (.int (cr p q))
theorem Jd (T:Txt K mg t):GF P w K mg base CX 1 "cross" 2 Mr:=by
 refine⟨_,_,_,iq T.oK.F Iu rfl fun bg A outer s H E G ds r hr hl hR=>?_,(T.g T.oK.a),T.oK.F.kp,T.oK.b⟩
 obtain⟨p,q,rfl,⟨hp,hq⟩,rfl⟩:=hR
 exact⟨_,.rt _,(ao (aF (hV (eE (av (aa 0 rfl) ah rfl) (av (aa 1 rfl) ah rfl) (vN hp.1 hq.2 (by decide))) (eE (av (aa 0 rfl) ah rfl) (av (aa 1 rfl) ah rfl) (vN hp.2 hq.1 (by decide))))))⟩
structure Tr where
 many:Int
 turn:Int
 shift:Int×Int
 cz:Int
 reach:List Int
 aL:List Int
 iS:Int
noncomputable def dN.Ye (t:dN)(six:Bool)(x:Tr):List (Str×FD):=[("drawer",.obj (t.pc six) []),("deed_count",.int x.many),("last_way",.int x.turn),("last_spot",.tup t.K [x.shift.1,x.shift.2]),("stroke_count",.int x.cz),("reaches",.lst x.reach),("touches",.lst x.aL),("crosses",.int x.iS)]
noncomputable def dN.jt (t:dN)(six:Bool)(x:Tr):List (Str×Dt):=[("drawer",.ip (.obj (t.pc six) [])),("deed_count",.int x.many),("last_way",.int x.turn),("last_spot",.ip (.tup t.K [x.shift.1,x.shift.2])),("stroke_count",.int x.cz),("reaches",.ip (.lst x.reach)),("touches",.ip (.lst x.aL)),("crosses",.int x.iS)]
noncomputable def dN.BU (t:dN)(six:Bool)(x:Tr):Dt:=.obj t.au (t.jt six x)
noncomputable def dN.o6 (t:dN)(six:Bool)(x:Tr):Dt:=.ip (.obj t.au (t.Ye six x))
theorem lN {X:Cx}{G:Gr}{dl:List Slot}{e:Expr}{t:dN}{six:Bool}{x:Tr}(h:EE X G dl e (t.o6 six x)):EE X G dl e (t.BU six x):=NI h
theorem CQ {X:Cx}{G:Gr}{dl:List Slot}{e:Expr}{t:dN}{six:Bool}{x:Tr}(h:EO X G dl e (.obj t.au (t.jt six x))):EE X G dl e (t.o6 six x):=Ip (fs:=t.Ye six x) h
theorem kW {X:Cx}{G:Gr}{dl:List Slot}{e:Expr}{t:dN}{six:Bool}(h:EE X G dl e (.ip (.obj (t.pc six) []))):EE X G dl e (.obj (t.pc six) []):=NI h
theorem vO {X:Cx}{G:Gr}{dl:List Slot}{e:Expr}{K':W.Frag}{p:Int×Int}(hK:K'=X.K)(h:EE X G dl e (.ip (.tup K' [p.1,p.2]))):EE X G dl e (sp p):=Qk h hK
theorem CS {X:Cx}{G:Gr}{dl:List Slot}{e:Expr}{K':W.Frag}{p:Int×Int}(hK:K'=X.K)(h:EE X G dl e (sp p)):EE X G dl e (.ip (.tup K' [p.1,p.2])):=Ql (ns:=[p.1,p.2]) h hK
noncomputable def wn (six:Bool):Nat:=if six then 6 else 4
theorem qQ (six:Bool):(wn six:Int)=wy six:=by cases six <;> rfl
noncomputable def nu (six:Bool)(ns:List Int)(f:Int):List Int:=(List.range (wn six)).map fun(w:Nat)=>ns.getD (((w:Int) - f) % wy six).toNat 0
noncomputable def o7 (six:Bool)(x y:Tr)(w:Nat):Int:=if (nu six y.reach x.turn).getD w 0+iV six w x.shift<=x.reach.getD w 0 then x.reach.getD w 0 else (nu six y.reach x.turn).getD w 0+iV six w x.shift
noncomputable def p8 (six:Bool)(x y:Tr)(w:Nat):Int:=if (nu six y.reach x.turn).getD w 0+iV six w x.shift<=x.reach.getD w 0 then x.aL.getD w 0 else (nu six y.aL x.turn).getD w 0+x.many
noncomputable def jn (six:Bool)(x y:Tr):Tr where
 many:=x.many+y.many
 turn:=(x.turn+y.turn) % wy six
 shift:=ad x.shift (tn six (x.turn % wy six).toNat y.shift)
 cz:=x.cz+y.cz
 reach:=(List.range (wn six)).map (o7 six x y)
 aL:=(List.range (wn six)).map (p8 six x y)
 iS:=x.iS+y.iS+cr x.shift (tn six (x.turn % wy six).toNat y.shift)
noncomputable def zO (six:Bool):Tr:=⟨0,0,(0,0),0,List.replicate (wn six) 0,List.replicate (wn six) 0,0⟩
noncomputable def one (six:Bool)(d:Str):Tr:=⟨1,(uw six d (0,0) 0).2,(uw six d (0,0) 0).1,if d="stroke" then 1 else 0,(List.range (wn six)).map fun(w:Nat)=>if iV six w (uw six d (0,0) 0).1 > 0 then iV six w (uw six d (0,0) 0).1 else 0,
 (List.range (wn six)).map fun(w:Nat)=>if (if iV six w (uw six d (0,0) 0).1 > 0 then iV six w (uw six d (0,0) 0).1 else 0) < 1 then (if iV six w (uw six d (0,0) 0).1 > 0 then iV six w (uw six d (0,0) 0).1 else 0) else 1,0⟩
noncomputable def bD (six:Bool)(ds:List Str):Tr:=ds.foldl (fun x d=>jn six x (one six d)) (zO six)
structure WF (six:Bool)(x:Tr):Prop where
 rl:x.reach.length=wn six
 tl:x.aL.length=wn six
 sm:x.shift.1.natAbs < 2 ^ 990/\x.shift.2.natAbs < 2 ^ 990
noncomputable def QH (t:dN):Rl:=fun ds r=>∃ six x,ds=[.ip (.obj (t.pc six) []),.int x.many,.int x.turn,.ip (.tup t.K [x.shift.1,x.shift.2]),.int x.cz,.ip (.lst x.reach),.ip (.lst x.aL),.int x.iS]/\r=.own (.obj t.au (t.jt six x))
noncomputable def Ek (t:dN)(f:Tr->Dt):Rl:=fun ds r=>∃ six x,ds=[t.BU six x]/\r=.ret (f x)
noncomputable def zo (t:dN):Rl:=fun ds r=>∃ six x f,ds=[t.BU six x,.int f]/\r=.ret (sp (tn six (f % wy six).toNat x.shift))
noncomputable def UA (t:dN):Rl:=fun ds r=>∃ six x ns f,ds=[t.BU six x,.oh ns,.int f]/\ns.length=wn six/\r=.own (.lst ((nu six ns f).map .int))
noncomputable def zp (t:dN):Rl:=fun ds r=>∃ six x f,ds=[t.BU six x,.int f]/\WF six x/\r=.own (.lst ((nu six x.reach f).map .int))
noncomputable def zq (t:dN):Rl:=fun ds r=>∃ six x f,ds=[t.BU six x,.int f]/\WF six x/\r=.own (.lst ((nu six x.aL f).map .int))
noncomputable def Je (t:dN):Rl:=fun ds r=>∃ six x y,ds=[t.BU six x,t.BU six y]/\(WF six x/\WF six y)/\r=.ret (t.o6 six (jn six x y))
noncomputable def Ms (t:dN):Rl:=fun ds r=>∃ six,ds=[.ip (.obj (t.pc six) [])]/\r=.ret (t.o6 six (zO six))
noncomputable def FO (t:dN):Rl:=fun ds r=>∃ six d,ds=[.ip (.obj (t.pc six) []),.str d]/\d∈pF/\r=.ret (t.o6 six (one six d))
noncomputable def CT (t:dN):Rl:=fun ds r=>∃ (six:Bool) (xs:List Str),ds=[.ip (.obj (t.pc six) []),.lst (xs.map .str)]/\(∀ d∈xs,d∈pF)/\xs.length<=1000/\r=.ret (t.o6 six (bD six xs))
theorem zr (T:Txt K mg t):RC P w K mg base CX 1 "Track" t.au 9 (QH t):=by
 refine⟨_,_,_,Vu T.kB.F wA rfl fun bg A outer s H E G z ds r hr hl hR=>?_,T.vB,(T.g T.aA.a),T.kB.b⟩
 obtain⟨six,x,rfl,rfl⟩:=hR
 exact⟨_,.nx rfl,ai (jN (aa 1 rfl) T.aA.cl T.dk) (ai (jN (aa 2 rfl) T.aA.cl T.bf) (ai (jN (aa 3 rfl) T.aA.cl T.bh) (ai (jN (aa 4 rfl) T.aA.cl T.aS)
   (ai (jN (aa 5 rfl) T.aA.cl T.b6) (ai (jN (aa 6 rfl) T.aA.cl T.b9) (ai (jN (aa 7 rfl) T.aA.cl T.d8) (ao (jN (aa 8 rfl) T.aA.cl T.d9))))))))⟩
theorem El (T:Txt K mg t):MF P w K mg base CX 1 t.au "many" 1 (Ek t fun x=>.int x.many):=by
 refine⟨T.aA.cl,_,_,_,iq T.kC.F wC rfl fun bg A outer s H E G ds r hr hl hR=>?_,T.gw,T.kC.b⟩
 obtain⟨six,x,rfl,rfl⟩:=hR
 exact⟨_,.rt _,ao (aF (aG (fs:=t.jt six x) (aa 0 rfl) T.aA.cl T.bf rfl))⟩
theorem Em (T:Txt K mg t):MF P w K mg base CX 1 t.au "turn" 1 (Ek t fun x=>.int x.turn):=by
 refine⟨T.aA.cl,_,_,_,iq T.kE.F wD rfl fun bg A outer s H E G ds r hr hl hR=>?_,T.gx,T.kE.b⟩
 obtain⟨six,x,rfl,rfl⟩:=hR
 exact⟨_,.rt _,ao (aF (aG (fs:=t.jt six x) (aa 0 rfl) T.aA.cl T.bh rfl))⟩
theorem vP (T:Txt K mg t):MF P w K mg base CX 1 t.au "strokes" 1 (Ek t fun x=>.int x.cz):=by
 refine⟨T.aA.cl,_,_,_,iq T.gY.F rM rfl fun bg A outer s H E G ds r hr hl hR=>?_,T.eO,T.gY.b⟩
 obtain⟨six,x,rfl,rfl⟩:=hR
 exact⟨_,.rt _,ao (aF (aG (fs:=t.jt six x) (aa 0 rfl) T.aA.cl T.b6 rfl))⟩
theorem En (T:Txt K mg t):MF P w K mg base CX 1 t.au "area" 1 (Ek t fun x=>.int x.iS):=by
 refine⟨T.aA.cl,_,_,_,iq T.kF.F wI rfl fun bg A outer s H E G ds r hr hl hR=>?_,T.gy,T.kF.b⟩
 obtain⟨six,x,rfl,rfl⟩:=hR
 exact⟨_,.rt _,ao (aF (aG (fs:=t.jt six x) (aa 0 rfl) T.aA.cl T.d9 rfl))⟩
theorem Bl (T:Txt K mg t):jx P w K mg base CX 4 t.cm t.jf ["self","first"] (DH K 2 (zo t)):=by
 refine Vt T.wN vn rfl fun bg A outer s H E G ds r hr hl hR=>?_
 obtain⟨six,x,f,rfl,rfl⟩:=hR
 have h1:=xP (P:=P) (w:=w) (base:=base) T six
 exact⟨_,.rt _,ao (aF (bB (kW (aG (fs:=t.jt six x) (aa 0 rfl) T.aA.cl T.dk rfl)) h1 ay hr (ae (vO T.hK (aG (fs:=t.jt six x) (aa 0 rfl) T.aA.cl T.aS rfl)) (ae (aa 1 rfl) aj)) ⟨_,_,rfl,rfl⟩))⟩
theorem rep0 {K:W.Frag}:∀ H,br K H [.int 0] [.int 0]:=fun _=>.cons (.int 0) .nil
theorem Jf (T:Txt K mg t):Ge P w K mg base CX 4 t.au "shift" 2 [] (zo t):=⟨T.aA.cl,_,_,_,[],[],Bl T,T.dw,T.wO,.nil,fun _=>.nil⟩
theorem FP (T:Txt K mg t):Ge P w K mg base CX 4 t.au "shift" 2 [.int 0] (zo t):=⟨T.aA.cl,_,_,_,_,[.int 0],Bl T,T.dw,T.vD,.cons ⟨_,rfl⟩ .nil,rep0⟩
noncomputable abbrev CU:Scope:=Ts ((aD fh).getD 0 (.Pass ⟨0,0,0,0⟩))
theorem CV:u5 CU (af fh) mY ["way","self","numbers","first"] [0,1,2] "way"=true:=by decide +kernel
theorem Mt {ns:List Int}{k:Int}(h0:0<=k)(h1:k < ns.length):ny (ns.map Dt.int) k=some (.int (ns.getD k.toNat 0)):=by
 obtain⟨n,rfl⟩:=Int.eq_ofNat_of_zero_le h0
 refine jY ?_
 have h:n < ns.length:=by omega
 rw[List.getElem?_map,List.getElem?_eq_getElem h,Int.toNat_natCast,List.getD_eq_getElem?_getD,List.getElem?_eq_getElem h];rfl
theorem vQ {ns:List Int}{k:Int}(h0:0<=k)(h1:k < ns.length):ny ns k=some (ns.getD k.toNat 0):=by
 obtain⟨n,rfl⟩:=Int.eq_ofNat_of_zero_le h0
 refine jY ?_
 have h:n < ns.length:=by omega
 rw[List.getElem?_eq_getElem h,Int.toNat_natCast,List.getD_eq_getElem?_getD,List.getElem?_eq_getElem h];rfl
theorem oT {f:Nat->Int}{n k:Nat}(h:k < n):(((List.range n).map f).map Dt.int).getD k .cP=.int (f k):=by
 rw[List.getD_eq_getElem?_getD,List.getElem?_map,List.getElem?_map,List.getElem?_range h];rfl
theorem vR (T:Txt K mg t):MF P w K mg base CX 3 t.au "by_ways" 3 (UA t):=by
 refine⟨T.aA.cl,_,_,_,iq T.gZ.F rN rfl fun bg A outer s H E G ds r hr hl hR=>?_,T.eP,T.gZ.b⟩
 obtain⟨six,x,ns,f,rfl,hn,rfl⟩:=hR
 have h1:=l7 (P:=P) (w:=w) (base:=base) T six
 have hw:=qQ six
 have ZX:wn six<=6:=by cases six <;> decide
 have Rt:ns.length=wn six:=hn
 refine⟨_,.ro _,ao (lg (To (N:=["way","self","numbers","first"]) (ix:=[0,1,2]) rfl (Cn CV) (n8 rfl T.hU (ae (yh T.iZ (aa 1 rfl)) aj)) (uZ ?_) (fun k hk C fp s' H' G'=>?_) ?_ ?_))⟩
 . omega
 . rw[Int.toNat_natCast,Rt] at hk
   have e:((nu six ns f).map Dt.int).getD k .cP=.int (ns.getD (((k:Int) - f) % wy six).toNat 0):=oT hk
   rw[e]
   have O9:=Int.emod_nonneg ((k:Int) - f) (Int.ne_of_gt (fe six))
   have Zd:=Int.emod_lt_of_pos ((k:Int) - f) (fe six)
   exact rj (aa 2 rfl) (bB (kW (aG (fs:=t.jt six x) (aa 1 rfl) T.aA.cl T.dk rfl)) h1 ay hr (ae (hV (aa 0 rfl) (aa 3 rfl)) aj) ⟨_,rfl,rfl⟩) (vQ O9 (by omega))
 . rw[List.length_map,Int.toNat_natCast,Rt]
   unfold nu
   simp
 . rw[Int.toNat_natCast]
   exact Nat.le_of_lt (rg (by omega))
theorem Bm (T:Txt K mg t):jx P w K mg base CX 4 t.cn t.jg ["self","first"] (DH K 2 (zp t)):=by
 refine Vt T.wQ vo rfl fun bg A outer s H E G ds r hr hl hR=>?_
 obtain⟨six,x,f,rfl,hw,rfl⟩:=hR
 have h1:=Pq (vR (P:=P) (w:=w) (base:=base) T)
 exact⟨_,.ro _,ao (lg (AG (fs:=t.jt six x) (aa 0 rfl) h1 ay hr (ae (pS (aG (fs:=t.jt six x) (aa 0 rfl) T.aA.cl T.b9 rfl)) (ae (aa 1 rfl) aj)) ⟨six,x,_,_,rfl,hw.rl,rfl⟩))⟩
theorem Bo (T:Txt K mg t):jx P w K mg base CX 4 t.cq t.jh ["self","first"] (DH K 2 (zq t)):=by
 refine Vt T.wU vp rfl fun bg A outer s H E G ds r hr hl hR=>?_
 obtain⟨six,x,f,rfl,hw,rfl⟩:=hR
 have h1:=Pq (vR (P:=P) (w:=w) (base:=base) T)
 exact⟨_,.ro _,ao (lg (AG (fs:=t.jt six x) (aa 0 rfl) h1 ay hr (ae (pS (aG (fs:=t.jt six x) (aa 0 rfl) T.aA.cl T.d8 rfl)) (ae (aa 1 rfl) aj)) ⟨six,x,_,_,rfl,hw.tl,rfl⟩))⟩
theorem Jg (T:Txt K mg t):Ge P w K mg base CX 4 t.au "reach" 2 [] (zp t):=⟨T.aA.cl,_,_,_,[],[],Bm T,T.dy,T.wR,.nil,fun _=>.nil⟩
theorem Jh (T:Txt K mg t):Ge P w K mg base CX 4 t.au "touch" 2 [] (zq t):=⟨T.aA.cl,_,_,_,[],[],Bo T,T.dA,T.wV,.nil,fun _=>.nil⟩
theorem FQ (T:Txt K mg t):Ge P w K mg base CX 4 t.au "reach" 2 [.int 0] (zp t):=⟨T.aA.cl,_,_,_,_,[.int 0],Bm T,T.dy,T.vE,.cons ⟨_,rfl⟩ .nil,rep0⟩
theorem FR (T:Txt K mg t):Ge P w K mg base CX 4 t.au "touch" 2 [.int 0] (zq t):=⟨T.aA.cl,_,_,_,_,[.int 0],Bo T,T.dA,T.vF,.cons ⟨_,rfl⟩ .nil,rep0⟩
theorem Bp (T:Txt K mg t):GF P w K mg base CX 3 "still" 1 (Ms t):=by
 refine⟨_,_,_,iq T.oM.F Iw rfl fun bg A outer s H E G ds r hr hl hR=>?_,(T.g T.oM.a),T.oM.F.kp,T.oM.b⟩
 obtain⟨six,rfl,rfl⟩:=hR
 have h1:=uv (P:=P) (w:=w) (base:=base) T six
 have h2:=zr (P:=P) (w:=w) (base:=base) T
 have e:∀ {X:Cx} {G:Gr} {dl:List Slot} {e:Expr},EO X G dl e (.lst (List.replicate (wy six).toNat [Dt.int 0]).flatten)->EE X G dl e (.ip (.lst (List.replicate (wn six) (0:Int)))):=fun h=>by
   refine Qm (Ay h ?_)
   cases six <;> rfl
 have hb:-(2 ^ 63)<=wy six/\wy six < 2 ^ 63/\[Dt.int 0].length * (wy six).toNat<=sizeLine:=by cases six <;> decide
 exact⟨_,.rt _,ao (aF (CQ (tP h2 ay hr (ae (aa 0 rfl) (ae ah (ae ah (ae (CS (p:=(0,0)) T.hK (b7 (ae ah (ae ah aj)) AA3)) (ae ah
   (ae (e (yq (yf (ae ah aj) AA3) (bL (kW (aa 0 rfl)) h1 ay hr ⟨rfl,rfl⟩) hb.1 hb.2.1 hb.2.2)) (ae (e (yq (yf (ae ah aj) AA3) (bL (kW (aa 0 rfl)) h1 ay hr ⟨rfl,rfl⟩) hb.1 hb.2.1 hb.2.2)) (ae ah aj)))))))) ⟨six,zO six,rfl,rfl⟩)))⟩
noncomputable abbrev QI:Scope:=Ts ((aD cA).getD 2 (.Pass ⟨0,0,0,0⟩))
noncomputable abbrev QJ:Scope:=Ts ((aD cA).getD 3 (.Pass ⟨0,0,0,0⟩))
theorem QK:u5 QI (af cA) jS ["way","pen","spot"] [0,3] "way"=true:=by decide +kernel
theorem QL:u5 QJ (af cA) jS ["reach"] [] "reach"=true:=by decide +kernel
noncomputable def mU (six:Bool)(d:Str)(w:Nat):Int:=if iV six w (uw six d (0,0) 0).1 > 0 then iV six w (uw six d (0,0) 0).1 else 0
theorem CW (T:Txt K mg t):GF P w K mg base CX 6 "track_of_deed" 2 (FO t):=by
 refine⟨_,_,_,iq T.dm.F lY rfl fun bg A outer s H E G ds r hr hl hR=>?_,(T.g T.dm.a),T.dm.F.kp,T.dm.b⟩
 obtain⟨six,d,rfl,hd,rfl⟩:=hR
 have h1:=uv (P:=P) (w:=w) (base:=base) T six
 have h2:=zr (P:=P) (w:=w) (base:=base) T
 have h3:=Jc (P:=P) (w:=w) (base:=base) T six
 have h4:=Bj (P:=P) (w:=w) (base:=base) T six
 have hw:=qQ six
 have ZX:wn six<=6:=by cases six <;> decide
 have UB:(wy six).toNat=wn six:=by omega
 have nd:=lY.nd
 refine⟨_,.rt _,ai (ax 2 nd (bB (kW (aa 0 rfl)) h3 ay hr (ae (aa 1 rfl) (ae (b7 (ae ah (ae ah aj)) AA3) (ae ah aj))) ⟨d,(0,0),0,rfl,hd,rfl⟩)) (ai (ax 3 nd (av (aa 2 rfl) ah rfl))
   (ai (Np (ys:=((List.range (wn six)).map (mU six d)).map .int) 4 (N:=["way","pen","spot"]) (ix:=[0,3]) rfl nd (Cn QK) (n8 rfl T.hU (ae (bL (kW (aa 0 rfl)) h1 ay hr ⟨rfl,rfl⟩) aj)) (uZ ?_) (fun k hk C fp s' H' G'=>?_) ?_ ?_)
   (tV (ns:=(List.range (wn six)).map (mU six d)) 4 (ai (Np (ys:=((List.range (wn six)).map (fun k=>if mU six d k < 1 then mU six d k else 1)).map .int) 5 (N:=["reach"]) (ix:=[]) rfl nd (Cn QL) (k9 (pS (aa 4 rfl))) LQ (fun k hk C fp s' H' G'=>?_) ?_ ?_)
   (tV (ns:=(List.range (wn six)).map fun k=>if mU six d k < 1 then mU six d k else 1) 5 (ao (aF (CQ (tP h2 ay hr (ae (aa 0 rfl) (ae ah (ae (av (aa 2 rfl) ah rfl) (ae (CS T.hK (aa 3 rfl)) (ae (bP (d:=.int (if d="stroke" then 1 else 0)) ?_ rfl) (ae (aa 4 rfl) (ae (aa 5 rfl) (ae ah aj)))))))) ⟨six,one six d,rfl,rfl⟩)))))))))⟩
 . omega
 . rw[UB] at hk
   rw[oT hk]
   exact Pm T.ID rfl (ae ah (ae (bB (kW (aa 1 rfl)) h4 ay hr (ae (aa 0 rfl) (ae (aa 2 rfl) aj)) ⟨_,_,rfl,⟨by omega,by omega⟩,rfl⟩) aj))
 . rw[List.length_map,List.length_map,List.length_range,UB]
 . rw[UB];exact Nat.le_of_lt (rg (by omega))
 . rw[List.length_map,List.length_range] at hk
   rw[show(((List.range (wn six)).map (fun k=>if mU six d k < 1 then mU six d k else 1)).map Dt.int).getD k .cP=.int (if mU six d k < 1 then mU six d k else 1) from oT hk]
   have e:((List.map (mU six d) (List.range (wn six))).map Dt.int).getD k .cP=.int (mU six d k):=oT hk
   refine Pn (i:=1) (j:=mU six d k) T.IE rfl (ae ah (ae ?_ aj))
   rw[<- e]
   exact aa 0 rfl
 . simp
 . rw[List.length_map,List.length_range];exact Nat.le_of_lt (rg (by omega))
 . exact O6 (pM (aa 1 rfl) fo) (fun h=>bP ah (by rw[if_pos (of_decide_eq_true h)])) (fun h=>bP ah (by rw[if_neg (of_decide_eq_false h)]))
theorem oU {f g:Nat->Int}{n k:Nat}(h:k < n):((List.range n).map fun w=>if w < k then f w else g w).set k (f k)=(List.range n).map fun w=>if w < k+1 then f w else g w:=by
 refine List.ext_getElem? fun i=>?_
 by_cases hi:i < n
 . by_cases e:k=i
   . subst e
     rw[List.getElem?_set_self (by simp;exact h),List.getElem?_map,List.getElem?_range h]
     simp
   . rw[List.getElem?_set_ne e,List.getElem?_map,List.getElem?_map,List.getElem?_range hi]
     have:(i < k+1) ↔ (i < k):=by omega
     simp[this]
 . rw[List.getElem?_eq_none (by simp;omega),List.getElem?_eq_none (by simp;omega)]
theorem Eo {f g:Nat->Int}{n:Nat}:((List.range n).map fun w=>if w < 0 then f w else g w)=(List.range n).map g:=by simp
theorem Ep {f g:Nat->Int}{n:Nat}:((List.range n).map fun w=>if w < n then f w else g w)=(List.range n).map f:=by
 refine List.map_congr_left fun i hi=>?_
 rw[if_pos (List.mem_range.mp hi)]
theorem l8 {l:List Int}{k:Nat}{z:Int}:(l.map Dt.int).set k (.int z)=(l.set k z).map Dt.int:=by rw[List.map_set]
theorem Er (six:Bool)(ns:List Int)(f:Int):(List.range (wn six)).map (fun w=>(nu six ns f).getD w 0)=nu six ns f:=by
 refine List.ext_getElem? fun i=>?_
 by_cases hi:i < wn six
 . rw[List.getElem?_map,List.getElem?_range hi]
   have hl:i < (nu six ns f).length:=by unfold nu;simpa using hi
   rw[List.getElem?_eq_getElem hl]
   simp[List.getD_eq_getElem?_getD,hl]
 . rw[List.getElem?_eq_none (by simp;omega),List.getElem?_eq_none (by unfold nu;simp;omega)]
theorem zt {n k:Nat}(h:k < n):B8 n (k:Int)=some k:=by
 unfold B8
 simp[h]
theorem NM {six:Bool}{b:Int}{p:Int×Int}(h:p.1.natAbs < 2 ^ 990/\p.2.natAbs < 2 ^ 990):sm (tn six (b % wy six).toNat p):=by
 obtain⟨x,y⟩:=p
 obtain⟨h1,h2⟩:=h
 simp only at h1 h2
 unfold sm
 cases six with
 | false=>
   have e:wy false=4:=rfl
   rw[e]
   have h:b % 4=0\/b % 4=1\/b % 4=2\/b % 4=3:=by omega
   rcases h with h | h | h | h <;> rw[h] <;> simp[tn,Pf.tl] <;> omega
 | true=>
   have e:wy true=6:=rfl
   rw[e]
   have h:b % 6=0\/b % 6=1\/b % 6=2\/b % 6=3\/b % 6=4\/b % 6=5:=by omega
   rcases h with h | h | h | h | h | h <;> rw[h] <;> simp[tn,Pf.tl] <;> omega
theorem xQ (T:Txt K mg t):MF P w K mg base CX 5 t.au "joined" 2 (Je t):=by
 refine⟨T.aA.cl,_,_,_,iq T.iO.F mZ rfl fun bg A outer s H E G ds r hr hl hR=>?_,T.fz,T.iO.b⟩
 obtain⟨six,x,y,rfl,⟨wx,NN⟩,rfl⟩:=hR
 have zu:=Jf (P:=P) (w:=w) (base:=base) T
 have zv:=Jg (P:=P) (w:=w) (base:=base) T
 have zw:=Jh (P:=P) (w:=w) (base:=base) T
 have QM:=uv (P:=P) (w:=w) (base:=base) T six
 have Es:=Bj (P:=P) (w:=w) (base:=base) T six
 have qO:=l7 (P:=P) (w:=w) (base:=base) T six
 have CY:=El (P:=P) (w:=w) (base:=base) T
 have CZ:=Em (P:=P) (w:=w) (base:=base) T
 have r6:=vP (P:=P) (w:=w) (base:=base) T
 have C0:=En (P:=P) (w:=w) (base:=base) T
 have Mu:=Bk (P:=P) (w:=w) (base:=base) T
 have Mv:=Jd (P:=P) (w:=w) (base:=base) T
 have QN:=zr (P:=P) (w:=w) (base:=base) T
 have hw:=qQ six
 have UB:(wy six).toNat=wn six:=by omega
 have ZX:wn six<=6:=by cases six <;> decide
 have nd:=mZ.nd
 let S:Nat->List Slot:=fun k=>[.val (t.BU six x),.val (t.BU six y),.val (.ip (.obj (t.pc six) [])),.val (sp (tn six (x.turn % wy six).toNat y.shift)),
   .own (.lst (((List.range (wn six)).map fun w=>if w < k then o7 six x y w else (nu six y.reach x.turn).getD w 0).map .int)),
   .own (.lst (((List.range (wn six)).map fun w=>if w < k then p8 six x y w else (nu six y.aL x.turn).getD w 0).map .int)),.bw]
 have e0:S 0=[.val (t.BU six x),.val (t.BU six y),.val (.ip (.obj (t.pc six) [])),.val (sp (tn six (x.turn % wy six).toNat y.shift)),.own (.lst ((nu six y.reach x.turn).map .int)),.own (.lst ((nu six y.aL x.turn).map .int)),.bw]:=by
   show [_,_,_,_,Slot.own (.lst (((List.range (wn six)).map fun w=>if w < 0 then _ else _).map .int)),Slot.own (.lst (((List.range (wn six)).map fun w=>if w < 0 then _ else _).map .int)),_]=_
   rw[Eo,Eo,Er,Er]
 have en:S (wn six)=[.val (t.BU six x),.val (t.BU six y),.val (.ip (.obj (t.pc six) [])),.val (sp (tn six (x.turn % wy six).toNat y.shift)),.own (.lst ((jn six x y).reach.map .int)),.own (.lst ((jn six x y).aL.map .int)),.bw]:=by
   show [_,_,_,_,Slot.own (.lst (((List.range (wn six)).map fun w=>if w < wn six then _ else _).map .int)),Slot.own (.lst (((List.range (wn six)).map fun w=>if w < wn six then _ else _).map .int)),_]=_
   rw[Ep,Ep];rfl
 refine⟨_,.rt _,ai (ax 2 nd (aG (fs:=t.jt six x) (aa 0 rfl) T.aA.cl T.dk rfl))
   (ai (ax 3 nd (Hn (fs:=t.jt six y) (aa 1 rfl) zu ay hr (ae (aG (fs:=t.jt six x) (aa 0 rfl) T.aA.cl T.bh rfl) aj) ⟨six,y,_,rfl,rfl⟩))
   (ai (j4 4 nd (AG (fs:=t.jt six y) (aa 1 rfl) zv ay hr (ae (aG (fs:=t.jt six x) (aa 0 rfl) T.aA.cl T.bh rfl) aj) ⟨six,y,_,rfl,NN,rfl⟩))
   (ai (j4 5 nd (AG (fs:=t.jt six y) (aa 1 rfl) zw ay hr (ae (aG (fs:=t.jt six x) (aa 0 rfl) T.aA.cl T.bh rfl) aj) ⟨six,y,_,rfl,NN,rfl⟩))
   (ai (i3 (m:=wn six) 6 S nd rfl PassesOwn.leaving T.hU (ae (bL (kW (aa 2 rfl)) QM ay hr ⟨rfl,rfl⟩) aj) ⟨by omega,by omega⟩ (by rw[e0];exact Le.of ⟨rfl,rfl,rfl,rfl,rfl,rfl,trivial⟩) (by omega) (fun k hk=>?_) (by rw[UB];exact .all rfl))
   ?_))))⟩
 . have Vq:k < ((List.range (wn six)).map fun w=>if w < k then o7 six x y w else (nu six y.reach x.turn).getD w 0).length:=by simpa using hk
   have acp:k < ((List.range (wn six)).map fun w=>if w < k then p8 six x y w else (nu six y.aL x.turn).getD w 0).length:=by simpa using hk
   have ga:∀ (f g:Nat->Int) (z:Int),ny ((((List.range (wn six)).map fun w=>if w < k then f w else g w)).map Dt.int) (k:Int)=some (.int (g k)):=fun f g z=>by
     refine jY ?_
     rw[List.getElem?_map,List.getElem?_map,List.getElem?_range hk]
     simp
   have gs:∀ (l:List Int) (z:Int),l.length=wn six->ny ((l.map Dt.int).set k (.int z)) (k:Int)=some (.int z):=fun l z hl=>by
     refine jY ?_
     rw[List.getElem?_set_self (by simp;omega)]
   have ix:∀ (l:List Dt),l.length=wn six->B8 l.length (k:Int)=some k:=fun l hl=>zt (by omega)
   have xr:ny x.reach (k:Int)=some (x.reach.getD k 0):=by
     have:=vQ (ns:=x.reach) (k:=k) (by omega) (by rw[wx.rl];omega)
     simpa using this
   have xt:ny x.aL (k:Int)=some (x.aL.getD k 0):=by
     have:=vQ (ns:=x.aL) (k:=k) (by omega) (by rw[wx.tl];omega)
     simpa using this
   have lA:(((List.range (wn six)).map fun w=>if w < k then o7 six x y w else (nu six y.reach x.turn).getD w 0).map Dt.int).length=wn six:=by simp
   have lB:(((List.range (wn six)).map fun w=>if w < k then p8 six x y w else (nu six y.aL x.turn).getD w 0).map Dt.int).length=wn six:=by simp
   have ZY:((List.range (wn six)).map fun w=>if w < k then o7 six x y w else (nu six y.reach x.turn).getD w 0).length=wn six:=by simp
   have iA:=ix _ lA
   have iB:=ix _ lB
   have iA':∀ z,B8 (List.length (List.set (((List.range (wn six)).map fun w=>if w < k then o7 six x y w else (nu six y.reach x.turn).getD w 0).map Dt.int) k z)) (k:Int)=some k:=fun z=>ix _ (by rw[List.length_set];exact lA)
   have iB':∀ z,B8 (List.length (List.set (((List.range (wn six)).map fun w=>if w < k then p8 six x y w else (nu six y.aL x.turn).getD w 0).map Dt.int) k z)) (k:Int)=some k:=fun z=>ix _ (by rw[List.length_set];exact lB)
   by_cases c:(nu six y.reach x.turn).getD k 0+iV six k x.shift<=x.reach.getD k 0
   . have eR:o7 six x y k=x.reach.getD k 0:=if_pos c
     have eT:p8 six x y k=x.aL.getD k 0:=if_pos c
     refine .nx (ai (jC (m:=k) 4 (aI (pN 4 (aa 6 rfl) (ga _ _ 0)) (bB (kW (aa 2 rfl)) Es ay hr (ae (aa 6 rfl) (ae (vO T.hK (aG (fs:=t.jt six x) (aa 0 rfl) T.aA.cl T.aS rfl)) aj)) ⟨_,_,rfl,⟨by omega,by omega⟩,rfl⟩)) (aa 6 rfl) iA)
       (ai (jC (m:=k) 5 (aI (pN 5 (aa 6 rfl) (ga _ _ 0)) (aG (fs:=t.jt six x) (aa 0 rfl) T.aA.cl T.bf rfl)) (aa 6 rfl) iB)
       (ao (bQ (G7 (rj (pS (aG (fs:=t.jt six x) (aa 0 rfl) T.aA.cl T.b9 rfl)) (aa 6 rfl) xr) (pN 4 (aa 6 rfl) (gs _ _ ZY)))
         (fun h=>ai (jC (m:=k) 4 (rj (pS (aG (fs:=t.jt six x) (aa 0 rfl) T.aA.cl T.b9 rfl)) (aa 6 rfl) xr) (aa 6 rfl) (iA' _))
           (ao (jC (m:=k) 5 (rj (pS (aG (fs:=t.jt six x) (aa 0 rfl) T.aA.cl T.d8 rfl)) (aa 6 rfl) xt) (aa 6 rfl) (iB' _))))
         (fun h=>absurd c (of_decide_eq_false h)))))) (Le.of ⟨rfl,rfl,rfl,rfl,?_,?_,trivial⟩)
     . rw[List.set_set,l8,<- eR,oU hk]
     . rw[List.set_set,l8,<- eT,oU hk]
   . have eR:o7 six x y k=(nu six y.reach x.turn).getD k 0+iV six k x.shift:=if_neg c
     have eT:p8 six x y k=(nu six y.aL x.turn).getD k 0+x.many:=if_neg c
     refine .nx (ai (jC (m:=k) 4 (aI (pN 4 (aa 6 rfl) (ga _ _ 0)) (bB (kW (aa 2 rfl)) Es ay hr (ae (aa 6 rfl) (ae (vO T.hK (aG (fs:=t.jt six x) (aa 0 rfl) T.aA.cl T.aS rfl)) aj)) ⟨_,_,rfl,⟨by omega,by omega⟩,rfl⟩)) (aa 6 rfl) iA)
       (ai (jC (m:=k) 5 (aI (pN 5 (aa 6 rfl) (ga _ _ 0)) (aG (fs:=t.jt six x) (aa 0 rfl) T.aA.cl T.bf rfl)) (aa 6 rfl) iB)
       (ao (bQ (G7 (rj (pS (aG (fs:=t.jt six x) (aa 0 rfl) T.aA.cl T.b9 rfl)) (aa 6 rfl) xr) (pN 4 (aa 6 rfl) (gs _ _ ZY)))
         (fun h=>absurd (of_decide_eq_true h) c)
         (fun h=>bZ))))) (Le.of ⟨rfl,rfl,rfl,rfl,?_,?_,trivial⟩)
     . rw[l8,<- eR,oU hk]
     . rw[l8,<- eT,oU hk]
 . rw[en]
   exact tV (ns:=(jn six x y).reach) 4 (tV (ns:=(jn six x y).aL) 5 (ao (aF (CQ (tP QN ay hr (ae (aa 2 rfl) (ae (aI (aG (fs:=t.jt six x) (aa 0 rfl) T.aA.cl T.bf rfl) (bL (fs:=t.jt six y) (aa 1 rfl) CY ay hr ⟨six,y,rfl,rfl⟩))
     (ae (bB (kW (aa 2 rfl)) qO ay hr (ae (aI (aG (fs:=t.jt six x) (aa 0 rfl) T.aA.cl T.bh rfl) (bL (fs:=t.jt six y) (aa 1 rfl) CZ ay hr ⟨six,y,rfl,rfl⟩)) aj) ⟨_,rfl,rfl⟩)
     (ae (CS T.hK (bM Mu ay hr (ae (vO T.hK (aG (fs:=t.jt six x) (aa 0 rfl) T.aA.cl T.aS rfl)) (ae (aa 3 rfl) aj)) ⟨_,_,rfl,rfl⟩))
     (ae (aI (aG (fs:=t.jt six x) (aa 0 rfl) T.aA.cl T.b6 rfl) (bL (fs:=t.jt six y) (aa 1 rfl) r6 ay hr ⟨six,y,rfl,rfl⟩))
     (ae (aa 4 rfl) (ae (aa 5 rfl) (ae (aI (aI (aG (fs:=t.jt six x) (aa 0 rfl) T.aA.cl T.d9 rfl) (bL (fs:=t.jt six y) (aa 1 rfl) C0 ay hr ⟨six,y,rfl,rfl⟩))
       (bM Mv ay hr (ae (vO T.hK (aG (fs:=t.jt six x) (aa 0 rfl) T.aA.cl T.aS rfl)) (ae (aa 3 rfl) aj)) ⟨_,_,rfl,⟨⟨by have:=wx.sm;omega,by have:=wx.sm;omega⟩,NM NN.sm⟩,rfl⟩)) aj)))))))) ⟨six,jn six x y,rfl,rfl⟩)))))
theorem kX (six:Bool)(xs:List Str)(d:Str):bD six (xs ++ [d])=jn six (bD six xs) (one six d):=by
 unfold bD
 rw[List.foldl_append];rfl
theorem ux (six:Bool):∀ n:Nat,tn six n (0,0)=(0,0)
 | 0=>rfl
 | n+1=>by rw[tn,ux six n];cases six <;> rfl
theorem Bq (six:Bool)(d:Str):(uw six d (0,0) 0).1=if d∈NL then (1,0) else (0,0):=by
 have e:tn six ((0:Int) % wy six).toNat (1,0)=(1,0):=by cases six <;> rfl
 unfold uw
 show(if d∈NL then ad (0,0) (tn six ((0:Int) % wy six).toNat (1,0)) else (0,0))=_
 rw[e];rfl
theorem Mw (six:Bool)(b:Int):(tn six (b % wy six).toNat (1,0)).1.natAbs<=1/\(tn six (b % wy six).toNat (1,0)).2.natAbs<=1:=by
 cases six with
 | false=>
   have e:wy false=4:=rfl
   rw[e]
   have h:b % 4=0\/b % 4=1\/b % 4=2\/b % 4=3:=by omega
   rcases h with h | h | h | h <;> rw[h] <;> decide
 | true=>
   have e:wy true=6:=rfl
   rw[e]
   have h:b % 6=0\/b % 6=1\/b % 6=2\/b % 6=3\/b % 6=4\/b % 6=5:=by omega
   rcases h with h | h | h | h | h | h <;> rw[h] <;> decide
theorem Mx (six:Bool)(x:Tr)(d:Str):(jn six x (one six d)).shift.1.natAbs<=x.shift.1.natAbs+1/\(jn six x (one six d)).shift.2.natAbs<=x.shift.2.natAbs+1:=by
 show(x.shift.1+(tn six (x.turn % wy six).toNat (uw six d (0,0) 0).1).1).natAbs<=_/\(x.shift.2+(tn six (x.turn % wy six).toNat (uw six d (0,0) 0).1).2).natAbs<=_
 rw[Bq]
 by_cases c:d∈NL
 . rw[if_pos c]
   have:=Mw six x.turn
   omega
 . rw[if_neg c,ux]
   simp
theorem QO (six:Bool)(d:Str):WF six (one six d):=⟨by unfold one;simp,by unfold one;simp,by
 show(uw six d (0,0) 0).1.1.natAbs < _/\(uw six d (0,0) 0).1.2.natAbs < _
 rw[Bq]
 by_cases c:d∈NL
 . rw[if_pos c];decide
 . rw[if_neg c];decide⟩
theorem QP (six:Bool):WF six (zO six):=⟨by unfold zO;simp,by unfold zO;simp,by show(0:Int).natAbs < _/\(0:Int).natAbs < _;decide⟩
theorem Ji (six:Bool):∀ (n:Nat) (xs:List Str),xs.length=n->(bD six xs).shift.1.natAbs<=n/\(bD six xs).shift.2.natAbs<=n/\(bD six xs).reach.length=wn six/\(bD six xs).aL.length=wn six:=by
 intro n
 induction n with
 | zero=>
   intro xs h
   have e:xs=[]:=List.eq_nil_of_length_eq_zero h
   subst e
   have w:=QP six
   exact⟨Nat.le_refl _,Nat.le_refl _,w.rl,w.tl⟩
 | succ n ih=>
   intro xs h
   have BV:xs≠[]:=fun e=>by rw[e] at h;cases h
   have e:=List.dropLast_concat_getLast BV
   have hl:xs.dropLast.length=n:=by rw[List.length_dropLast];omega
   obtain⟨h1,h2,h3,h4⟩:=ih _ hl
   rw[<- e,kX]
   obtain⟨q1,q2⟩:=Mx six (bD six xs.dropLast) (xs.getLast BV)
   refine⟨by omega,by omega,?_,?_⟩
   . unfold jn;simp
   . unfold jn;simp
theorem oV (six:Bool){xs:List Str}(h:xs.length < 2 ^ 990):WF six (bD six xs):=by
 obtain⟨h1,h2,h3,h4⟩:=Ji six _ xs rfl
 exact⟨h3,h4,Nat.lt_of_le_of_lt h1 h,Nat.lt_of_le_of_lt h2 h⟩
theorem QQ (six:Bool){xs:List Str}(h:xs.length<=100000):WF six (bD six xs):=oV six (Nat.lt_of_le_of_lt h (Nat.lt_of_lt_of_le (show 100000 < 2 ^ 20 by decide) (Nat.pow_le_pow_right (by decide) (by decide))))
theorem Br (T:Txt K mg t):GF P w K mg base CX 7 "track_of" 2 (CT t):=by
 refine⟨_,_,_,iq T.ja.F sE rfl fun bg A outer s H E G ds r hr hl hR=>?_,(T.g T.ja.a),T.ja.F.kp,T.ja.b⟩
 obtain⟨six,xs,rfl,hd,hn,rfl⟩:=hR
 have zx:=Bp (P:=P) (w:=w) (base:=base) T
 have UC:=CW (P:=P) (w:=w) (base:=base) T
 have vS:=xQ (P:=P) (w:=w) (base:=base) T
 have nd:=sE.nd
 let S:Nat->List Slot:=fun k=>[.val (.ip (.obj (t.pc six) [])),.val (.lst (xs.map .str)),.val (t.o6 six (bD six (xs.take k))),.bw]
 have en:S (xs.map Dt.str).length=[.val (.ip (.obj (t.pc six) [])),.val (.lst (xs.map .str)),.val (t.o6 six (bD six xs)),.bw]:=by
   show [_,_,Slot.val (t.o6 six (bD six (xs.take (xs.map Dt.str).length))),_]=_
   rw[List.length_map,List.take_length]
 refine⟨_,.rt _,ai (ax 2 nd (bM zx ay hr (ae (aa 0 rfl) aj) ⟨six,rfl,rfl⟩))
   (ai (DG (m:=(xs.map Dt.str).length) 3 S nd rfl PassesOwn.leaving (aa 1 rfl) (Le.of ⟨rfl,rfl,rfl,trivial⟩) (Nat.le_refl _) (fun k z hk hz=>?_) (.all rfl)) ?_)⟩
 . rw[List.length_map] at hk
   rw[List.getElem?_map,List.getElem?_eq_getElem hk] at hz
   cases hz
   have hm:xs[k]∈xs:=List.getElem_mem hk
   have e:bD six (xs.take (k+1))=jn six (bD six (xs.take k)) (one six xs[k]):=by
     rw[List.take_add_one,List.getElem?_eq_getElem hk]
     exact kX _ _ _
   have hl:(xs.take k).length<=100000:=by rw[List.length_take];omega
   refine .nx (ao (ax 2 nd (bB (fs:=t.jt six (bD six (xs.take k))) (lN (aa 2 rfl)) vS ay hr (ae (lN (bM UC ay hr (ae (aa 0 rfl) (ae (aa 3 rfl) aj)) ⟨six,xs[k],rfl,hd _ hm,rfl⟩)) aj) ⟨six,_,one six xs[k],rfl,⟨QQ six hl,QO six _⟩,rfl⟩))) (Le.of ⟨rfl,rfl,?_,trivial⟩)
   show Slot.val (t.o6 six (bD six (xs.take (k+1))))=_
   rw[e]
 . rw[en]
   exact ao (aF (aa 2 rfl))
theorem Bs (six:Bool):∀ (n:Nat) (xs:List Str),xs.length=n->(bD six xs).many=n/\(bD six xs).cz=(xs.count ("stroke":Str):Nat):=by
 intro n
 induction n with
 | zero=>
   intro xs h
   have e:xs=[]:=List.eq_nil_of_length_eq_zero h
   subst e
   exact⟨rfl,rfl⟩
 | succ n ih=>
   intro xs h
   have BV:xs≠[]:=fun e=>by rw[e] at h;cases h
   have e:=List.dropLast_concat_getLast BV
   have hl:xs.dropLast.length=n:=by rw[List.length_dropLast];omega
   obtain⟨h1,h2⟩:=ih _ hl
   have ec:xs.count ("stroke":Str)=xs.dropLast.count ("stroke":Str)+if xs.getLast BV="stroke" then 1 else 0:=by
     conv=>lhs;rw[<- e]
     rw[List.count_append,List.count_singleton]
     congr 1
     by_cases c:xs.getLast BV="stroke" <;> simp[c]
   rw[ec]
   conv=>lhs;rw[<- e]
   rw[show(bD six xs).cz=(bD six (xs.dropLast ++ [xs.getLast BV])).cz by rw[e],kX]
   refine⟨?_,?_⟩
   . show(bD six xs.dropLast).many+1=_
     rw[h1];omega
   . show(bD six xs.dropLast).cz+(if xs.getLast BV="stroke" then 1 else 0)=_
     rw[h2]
     by_cases c:xs.getLast BV="stroke"
     . rw[if_pos c,if_pos c];omega
     . rw[if_neg c,if_neg c];omega
open PySem.Builtin.Str PySem.StrLaws in
theorem zy (s:Str)(c limit:Nat):∀ (n i:Nat) (acc:Array Nat) (free:Nat),free<=i->acc.size+n<=limit->(forIn (List.range' i n) (acc,free) (occBody s ⟨#[c]⟩ s.length limit)).run.fst.size=acc.size+(List.range' i n).countP (fun j=>decide (s.cps.toList[j]?=some c))
 | 0,i,acc,free,_,_=>by simp
 | n+1,i,acc,free,hf,hl=>by
   rw[List.range'_succ,List.forIn_cons,List.countP_cons]
   have ZZ:=subAt_one s c i
   by_cases hc:s.cps.toList[i]?=some c
   . obtain⟨h1,h2⟩:=ZZ.mpr hc
     have e:occBody s ⟨#[c]⟩ s.length limit i (acc,free)=pure (ForInStep.yield (acc.push i,i+(⟨#[c]⟩:Str).length)):=by
       unfold occBody
       exact if_pos ⟨⟨⟨by show acc.size < limit;omega,hf⟩,h1⟩,h2⟩
     rw[e]
     show(forIn (List.range' (i+1) n) (acc.push i,i+(⟨#[c]⟩:Str).length) (occBody s ⟨#[c]⟩ s.length limit)).run.fst.size=_
     rw[zy s c limit n (i+1) (acc.push i) _ (by show i+1<=i+1;omega) (by rw[Array.size_push];omega),Array.size_push,if_pos (decide_eq_true hc)]
     omega
   . have e:occBody s ⟨#[c]⟩ s.length limit i (acc,free)=pure (ForInStep.yield (acc,free)):=by
       unfold occBody
       exact if_neg fun h=>hc (ZZ.mp ⟨h.1.2,h.2⟩)
     rw[e]
     show(forIn (List.range' (i+1) n) (acc,free) (occBody s ⟨#[c]⟩ s.length limit)).run.fst.size=_
     rw[zy s c limit n (i+1) acc free (by omega) (by omega),if_neg (by simpa using hc)]
     omega
theorem FT (L:List Nat)(c:Nat):(List.range' 0 (L.length+1)).countP (fun j=>decide (L[j]?=some c))=L.count c:=by
 rw[<- List.range_eq_range',List.range_succ,List.countP_append]
 have e1:(List.range L.length).map (fun j=>L[j]?)=L.map some:=by
   refine List.ext_getElem? fun i=>?_
   rw[List.getElem?_map,List.getElem?_map]
   by_cases h:i < L.length
   . rw[List.getElem?_range h];simp[h]
   . rw[List.getElem?_eq_none (by simp;omega),List.getElem?_eq_none (by omega)];rfl
 have e2:(List.range L.length).countP (fun j=>decide (L[j]?=some c))=((List.range L.length).map (fun j=>L[j]?)).countP (fun o=>decide (o=some c)):=by
   rw[List.countP_map];rfl
 rw[e2,e1,List.countP_map]
 have e3:((fun o=>decide (o=some c)) ∘ some)=fun x:Nat=>x == c:=by
   funext x
   by_cases h:x=c <;> simp[h]
 rw[e3]
 simp[List.count]
open PySem.Builtin.Str PySem.StrLaws in
theorem Jj (w:List Nat)(x:Nat):Txt.count (tx w) (sg x)=((w.count x:Nat):Int):=by
 unfold Txt.count
 have hl:=ij w
 rw[occ_eq,Array.length_toList]
 show(((forIn (List.range' 0 ((tx w).length+1 - 0)) (#[],0) (occBody (tx w) ⟨#[x]⟩ (tx w).length ((tx w).length+1))).run.fst.size:Nat):Int)=_
 rw[zy (tx w) x _ _ 0 #[] 0 (Nat.le_refl _) (by simp)]
 have e:(tx w).cps.toList=w:=by show w.toArray.toList=w;simp
 rw[e,hl,Nat.sub_zero,FT]
 simp
noncomputable def NO (L w:List Nat):List (Key×Int):=L.map fun x=>(.inr (sg x),((w.count x:Nat):Int))
theorem Jl (L w:List Nat):(dI (NO L w)).map (·.1)=L.map fun x=>(Sum.inr (sg x):Key):=by
 unfold dI NO
 rw[List.map_map,List.map_map];rfl
theorem kK {L:List Nat}(h:L.Nodup):(L.map fun x=>(Sum.inr (sg x):Key)).Nodup:=by
 rw[List.nodup_iff_pairwise_ne,List.pairwise_map]
 exact(List.nodup_iff_pairwise_ne.mp h).imp fun hn e=>hn (rY (Sum.inr.inj e))
theorem QR (L w:List Nat):(L.map fun x=>Dt.tup [.str (sg x),.int ((w.count x:Nat):Int)])=(dI (NO L w)).map Ko:=by
 unfold dI NO
 rw[List.map_map,List.map_map];rfl
noncomputable def My (t:dN):Rl:=fun ds r=>∃ six rows w,ds=[t.zN six rows,.str (tx w)]/\cN rows/\r=.own (.eB (dI (NO (rows.map (·.c)) w)))
noncomputable abbrev Yf:Stmt->Scope
 | .Return (some (.Call _ (.ListComp _ _ sc _::_) _ _)) _=>sc
 | _=>af (.Pass ⟨0,0,0,0⟩)
noncomputable abbrev Jm:Scope:=Yf ((aD qA).getD 0 (.Pass ⟨0,0,0,0⟩))
theorem Bt:iY Jm (af qA) D5 ["letter","word"] ["letter"] [1]=true:=by decide +kernel
theorem gd (w:List Nat):w.map (fun x=>Dt.str (sg x))=Sg.signs (tx w):=by rw[vL,List.map_map];rfl
theorem vT {rows:List Row}(ok:cN rows):jO (tx (rows.map (·.c)))=true:=jH fun x hx=>by
 obtain⟨r,hr,rfl⟩:=List.mem_map.mp hx
 have:=ok.sm r hr
 unfold small at this;omega
theorem Jn (T:Txt K mg t):GF P w K mg base CX 3 "tally" 2 (My t):=by
 refine⟨_,_,_,iq T.oN.F A6 rfl fun bg A outer s H E G ds r hr hl hR=>?_,(T.g T.oN.a),T.oN.F.kp,T.oN.b⟩
 obtain⟨six,rows,wd,rfl,ok,rfl⟩:=hR
 have fm:=jJ (P:=P) (w:=w) (base:=base) T
 have nd:=A6.nd
 have h6:=ok.le
 let L:=rows.map (·.c)
 have e2:((L.filter fun _=>true).map fun x=>Dt.tup [.str (sg x),.int ((wd.count x:Nat):Int)])=(dI (NO L wd)).map Ko:=by
   rw[List.filter_eq_self.mpr (fun _ _=>rfl)]
   exact QR L wd
 refine⟨_,.ro _,ao (lg (lV T.nX rfl (ik e2 (iu L (fun x=>Dt.str (sg x)) (fun x=>.tup [.str (sg x),.int ((wd.count x:Nat):Int)]) (fun x=>[.val (.str (sg x))]) (fun _=>true) rfl (cQ Bt) (i4 (bL (fs:=t.xM six rows) (aa 0 rfl) fm ay hr ⟨six,rows,rfl,ok,rfl⟩)) (cW (cQ Bt) rfl) (e9 (dY (vT ok)) (gd L)) (fun a _=>dM) (.nil fun _ _=>rfl)
     (fun a ha _ C fp s' H' G'=>b7 (ae (aa 0 rfl) (ae (bP (Fs (aa 1 rfl) (aa 0 rfl)) (congrArg Dt.int (Jj wd a))) aj)) AA3) (r0 (by show(rows.map (·.c)).length<=_;rw[List.length_map];omega)))) ?_ ?_))⟩
 . rw[Jl];exact kK ok.nd
 . show((NO (rows.map (·.c)) wd).map _).length<=_
   unfold NO
   rw[List.length_map,List.length_map,List.length_map]
   exact r0 (by omega)
noncomputable def cT (rows:List Row):Nat->Nat->Nat->Int
 | 0,c,x=>(([c].count x:Nat):Int)
 | i+1,c,x=>((wordOf rows c).map fun y=>cT rows i y x).sum
noncomputable def kc (L:List Nat)(T:Nat->Int):List (Key×Int):=L.map fun x=>(.inr (sg x),T x)
noncomputable def lT (rows:List Row)(i c:Nat):Int:=((rows.map (·.c)).map fun x=>cT rows i c x).sum
noncomputable def vU (rows:List Row)(i:Nat):List (Key×FD):=(rows.map (·.c)).map fun c=>(.inr (sg c),.eB (kc (rows.map (·.c)) (cT rows i c)))
noncomputable def wX (rows:List Row)(i:Nat):List (Key×FD):=(rows.map (·.c)).map fun c=>(.inr (sg c),.int (lT rows i c))
theorem Mz (L:List Nat)(T:Nat->Int):(kc L T).map (·.2)=L.map T:=by unfold kc;rw[List.map_map];rfl
theorem MA (L:List Nat)(T:Nat->Int):(dI (kc L T)).map (·.1)=L.map fun x=>(Sum.inr (sg x):Key):=by unfold dI kc;rw[List.map_map,List.map_map];rfl
theorem QS (L:List Nat)(T:Nat->Int):(dI (kc L T)).length=L.length:=by unfold dI kc;rw[List.length_map,List.length_map]
noncomputable def kd (L:List Nat)(D:Nat->Dt):List (Key×Dt):=L.map fun x=>(.inr (sg x),D x)
theorem ju {D:Nat->Dt}:∀ {L:List Nat} {x:Nat},x∈L->lF (kd L D) (.inr (sg x))=some (D x)
 | [],_,h=>by cases h
 | y::L,x,h=>by
   by_cases e:y=x
   . subst e
     exact qw (p:=((.inr (sg y):Key),D y)) rfl
   . have ne:¬ (Sum.inr (sg y):Key)=.inr (sg x):=fun z=>e (rY (Sum.inr.inj z))
     have hx:x∈L:=by
       rcases List.mem_cons.mp h with z | z
       . exact absurd z.symm e
       . exact z
     exact(nI (p:=((.inr (sg y):Key),D y)) ne).trans (ju hx)
theorem NP (L:List Nat)(T:Nat->Int):dI (kc L T)=kd L fun x=>.int (T x):=by unfold dI kc kd;rw[List.map_map];rfl
theorem Gi (rows:List Row)(i:Nat):m9 (vU rows i)=kd (rows.map (·.c)) fun c=>.dn (dI (kc (rows.map (·.c)) (cT rows i c))):=by unfold m9 vU kd;rw[List.map_map];rfl
theorem MB (rows:List Row)(i:Nat):m9 (wX rows i)=kd (rows.map (·.c)) fun c=>.int (lT rows i c):=by unfold m9 wX kd;rw[List.map_map];rfl
theorem qR (L:List Nat)(D:Nat->Dt):(kd L D).map (·.1)=L.map fun x=>(Sum.inr (sg x):Key):=by unfold kd;rw[List.map_map];rfl
theorem Bu (L:List Nat)(D:Nat->Dt):(L.map fun x=>Dt.tup [.str (sg x),D x])=(kd L D).map Ko:=by unfold kd;rw[List.map_map];rfl
theorem Jo {L:List Nat}(nd:L.Nodup){D:Nat->Dt}{j:Nat}(hj:j < L.length):u7 (kd (L.take j) D) (.inr (sg L[j])) (D L[j])=kd (L.take (j+1)) D:=by
 have hn:lF (kd (L.take j) D) (.inr (sg L[j]))=none:=by
   refine rF fun kv WT=>?_
   have:kv.1∈(kd (L.take j) D).map (·.1):=List.mem_map.mpr ⟨kv,WT,rfl⟩
   rw[qR] at this
   obtain⟨y,hy,e⟩:=List.mem_map.mp this
   intro z
   rw[<- e] at z
   have z:y=L[j]:=rY (Sum.inr.inj z)
   obtain⟨i,hi,e⟩:=List.mem_iff_getElem.mp hy
   rw[List.length_take] at hi
   rw[List.getElem_take] at e
   exact List.pairwise_iff_getElem.mp nd i j (by omega) hj (by omega) (e.trans z)
 unfold u7
 rw[hn,if_neg (by simp)]
 unfold kd
 rw[List.take_add_one,List.getElem?_eq_getElem hj,List.map_append];rfl
noncomputable def Jp (L:List Nat)(T:Nat->Int):Dt:=.dn (dI (kc L T))
noncomputable def Jq:Rl:=fun ds r=>∃ (L:List Nat) (ts:List (Nat->Int)),ds=[.lst (ts.map (Jp L)),.str (tx L)]/\L.Nodup/\L.length<=6/\(∀ x∈L,x < 128)/\ts.length<=1000/\r=.own (.eB (dI (kc L fun x=>(ts.map fun T=>T x).sum)))
noncomputable abbrev QT:Stmt->Scope
 | .Return (some (.Call _ (.ListComp _ _ sc _::_) _ _)) _=>sc
 | _=>af (.Pass ⟨0,0,0,0⟩)
noncomputable abbrev UD:Stmt->Scope
 | .Return (some (.Call _ (.ListComp (.Tuple [_,.Call _ (.ListComp _ _ sc _::_) _ _] _ _) _ _ _::_) _ _)) _=>sc
 | _=>af (.Pass ⟨0,0,0,0⟩)
noncomputable abbrev NQ:Scope:=QT ((aD jF).getD 0 (.Pass ⟨0,0,0,0⟩))
noncomputable abbrev QU:Scope:=UD ((aD jF).getD 0 (.Pass ⟨0,0,0,0⟩))
noncomputable def Yg (sc:Scope):Env:={ scope:=sc,locals:=0,globals:=0,cells:=[],qual:="",func:=none,code:=.none,frame:=none,builtins:=0}
noncomputable abbrev UE:Scope:=relabel NQ (Yg (af jF))
theorem NR:HV NQ (af jF) A7 ["letter","tallies"] "letter" [0]=true:=by decide +kernel
theorem Jr:iY QU UE ["letter","tallies"] ["counts","letter"] ["counts"] [0]=true:=by decide +kernel
theorem FU (T:Txt K mg t):GF P w K mg base CX 2 "summed" 2 Jq:=by
 refine⟨_,_,_,iq T.l5.F xG rfl fun bg A outer s H E G ds r hr hl hR=>?_,(T.g T.l5.a),T.l5.F.kp,T.l5.b⟩
 obtain⟨L,ts,rfl,hnd,hL,h7,Z0,rfl⟩:=hR
 have nd:=xG.nd
 have hu:(A.deeper (envOfC "summed" (af jF) s.heap.objs.size t.nW bg)).units+1 < cLine:=by have:=hr.units;omega
 let D:Nat->Dt:=fun x=>.int (ts.map fun T=>T x).sum
 have e2:((L.filter fun _=>true).map fun x=>Dt.tup [.str (sg x),D x])=(dI (kc L fun x=>(ts.map fun T=>T x).sum)).map Ko:=by
   rw[List.filter_eq_self.mpr (fun _ _=>rfl),NP]
   exact Bu L D
 refine⟨_,.ro _,ao (lg (lV T.nX rfl (ik e2 (PQ L (fun x=>Dt.str (sg x)) (fun x=>.tup [.str (sg x),D x]) (fun x=>[.val (.str (sg x))]) (fun _=>true) rfl (Nw NR) (i4 (aa 1 rfl)) (HU (Nw NR)) (e9 (dY (jH h7)) (gd L)) (fun a _=>dM) (.nil fun _ _=>rfl)
     (fun a ha _ c C fp s' H' G'=>?_) (r0 (by omega)))) (by rw[MA];exact kK hnd) (by rw[QS];exact r0 (by omega))))⟩
 have e3:((ts.filter fun _=>true).map fun T=>Dt.int (T a))=(ts.map fun T=>T a).map Dt.int:=by
   rw[List.filter_eq_self.mpr (fun _ _=>rfl),List.map_map];rfl
 refine b7 (ae (aa 0 rfl) (ae (HH T.Bg rfl (ik e3 (iu ts (Jp L) (fun T=>Dt.int (T a)) (fun T=>[.val (Jp L T)]) (fun _=>true) rfl (cQ Jr) (k9 (aa 1 rfl)) (cW (cQ Jr) rfl) lU (fun a _=>dM) (.nil fun _ _=>rfl)
   (fun T' hT' _ C2 W0 s2 H2 G2=>?_) (r0 (by omega))))) aj)) AA3
 exact jD hu (aa 0 rfl) (aa 1 rfl) (by rw[NP];exact ju ha) (fun _ _=>rfl)
noncomputable def dN.zA (t:dN)(six:Bool)(rows:List Row)(w:List Nat):List (Str×Dt):=[("rules",t.zN six rows),("seed",.str (tx w))]
noncomputable def p9 (rows:List Row):List (Nat->List (Key×FD)):=[vU rows,wX rows]
noncomputable abbrev dN.iW (t:dN)(six:Bool)(rows:List Row)(w:List Nat)(l:Addr)(ls:jL)(n:Nat):List (Str×Dt):=su (t.zA six rows w) ["tallies","lengths"] l ls n
noncomputable abbrev dN.FV (t:dN)(six:Bool)(rows:List Row)(w:List Nat)(l:Addr)(ls:jL)(n:Nat):List (Str×Dt):=oZ (t.zA six rows w) ["tallies","lengths"] l ls n
noncomputable abbrev dN.Yh (t:dN)(six:Bool)(rows:List Row)(w:List Nat)(n:Nat):Dt:=.uO t.ar (t.zA six rows w) (p9 rows) ["tallies","lengths"] n
structure nv (rows:List Row)(w:List Nat):Prop where
 ok:cN rows
 w0:0 < w.length
 w8:w.length<=8
 wm:∀ x∈w,x∈rows.map (·.c)
theorem Bv {a:Addr}:∀ rows:List Row,yB a (rX rows)=true
 | []=>rfl
 | r::rows=>by
   show(rH a (qT r) && yB a (rX rows))=true
   rw[Bv rows];rfl
theorem C1 {a:Addr}(t:dN)(six:Bool)(rows:List Row):rH a (t.zN six rows)=true:=by
 show j5 a [("drawer",.ip (.obj (t.pc six) [])),("row_by_letter",.eB (rX rows))]=true
 show(true && (yB a (rX rows) && true))=true
 rw[Bv];rfl
theorem Bw {a:Addr}(t:dN)(six:Bool)(rows:List Row)(w:List Nat):j5 a (t.zA six rows w)=true:=by
 show(rH a (t.zN six rows) && (true && true))=true
 rw[C1];rfl
noncomputable def MC (t:dN):Rl:=fun ds r=>∃ six rows w,ds=[t.zN six rows,.str (tx w)]/\nv rows w/\r=.own (.rh t.ar (t.zA six rows w) (p9 rows) ["tallies","lengths"] 1)
noncomputable abbrev C3:Stmt->Scope
 | .Assign _ (.List [.Call _ (.ListComp _ _ sc _::_) _ _] _) _=>sc
 | _=>af (.Pass ⟨0,0,0,0⟩)
noncomputable abbrev QV:Scope:=C3 ((aD dC).getD 2 (.Pass ⟨0,0,0,0⟩))
noncomputable abbrev QW:Scope:=C3 ((aD dC).getD 3 (.Pass ⟨0,0,0,0⟩))
theorem Js:iY QV (af dC) lJ ["letter","rules"] ["letter"] [1]=true:=by decide +kernel
theorem Jt:iY QW (af dC) lJ ["letter"] ["letter"] []=true:=by decide +kernel
theorem Et:∀ {L:List Nat} {c:Nat},L.Nodup->c∈L->(L.map fun x=>(([c].count x:Nat):Int)).sum=1
 | [],_,_,h=>by cases h
 | y::L,c,nd,h=>by
   rw[List.nodup_cons] at nd
   rw[List.map_cons,List.sum_cons]
   by_cases e:c=y
   . subst e
     have z:(L.map fun x=>(([c].count x:Nat):Int)).sum=0:=by
       have:∀ x∈L,(([c].count x:Nat):Int)=0:=fun x hx=>by
         have:¬ c=x:=fun z=>nd.1 (z ▸ hx)
         simp[List.count_cons,this]
       rw[List.map_congr_left this]
       clear this nd h
       induction L with
       | nil=>rfl
       | cons a r ih=>rw[List.map_cons,List.sum_cons,ih];rfl
     rw[z]
     simp
   . have hc:c∈L:=by
       rcases List.mem_cons.mp h with z | z
       . exact absurd z e
       . exact z
     rw[Et nd.2 hc]
     simp[List.count_cons,e]
theorem UG {rows:List Row}(ok:cN rows){c:Nat}(h:c∈rows.map (·.c)):lT rows 0 c=1:=Et ok.nd h
theorem Ju (T:Txt K mg t):RC P w K mg base CX 4 "Growth" t.ar 3 (MC t):=by
 refine⟨_,_,_,Vu T.jr.F nS rfl fun bg A outer s H E G z ds r hr hl hR=>?_,T.rR,(T.g T.aM.a),T.jr.b⟩
 obtain⟨six,rows,wd,rfl,ok,rfl⟩:=hR
 have fm:=jJ (P:=P) (w:=w) (base:=base) T
 have FW:=Bi (P:=P) (w:=w) (base:=base) T
 have MD:=Jn (P:=P) (w:=w) (base:=base) T
 have h6:=ok.ok.le
 let L:=rows.map (·.c)
 have hL:L.length<=6:=by show(rows.map (·.c)).length<=6;rw[List.length_map];exact h6
 have nd:=nS.nd
 have e1:((L.filter fun _=>true).map fun x=>Dt.tup [.str (sg x),Jp L (cT rows 0 x)])=(m9 (vU rows 0)).map Ko:=by
   rw[List.filter_eq_self.mpr (fun _ _=>rfl),Gi]
   exact Bu L _
 have e2:((L.filter fun _=>true).map fun x=>Dt.tup [.str (sg x),.int 1])=(m9 (wX rows 0)).map Ko:=by
   rw[List.filter_eq_self.mpr (fun _ _=>rfl),MB,<- Bu]
   exact List.map_congr_left fun x hx=>by rw[UG ok.ok hx]
 refine⟨_,.WI (fs:=t.zA six rows wd) (gs:=p9 rows) (nm:=["tallies","lengths"]) (n:=1) rfl,ai (jN (aa 1 rfl) T.aM.cl T.cE) (ai (jN (Hn (fs:=t.xM six rows) (aa 1 rfl) FW ay hr (ae (aa 2 rfl) aj) ⟨six,rows,wd,8,rfl,ok.ok,ok.wm,⟨ok.w0,ok.w8,by decide⟩,rfl⟩) T.aM.cl T.fN)
   (yF (f:=vU rows) (g:=wX rows) rfl T.aM.cl T.cw T.bS ?_ ?_))⟩
 . refine lV T.nX rfl (ik e1 (iu L (fun x=>Dt.str (sg x)) (fun x=>.tup [.str (sg x),Jp L (cT rows 0 x)]) (fun x=>[.val (.str (sg x))]) (fun _=>true) rfl (cQ Js) (i4 (bL (fs:=t.xM six rows) (aa 1 rfl) fm ay hr ⟨six,rows,rfl,ok.ok,rfl⟩)) (cW (cQ Js) rfl) (e9 (dY (vT ok.ok)) (gd L)) (fun a _=>dM) (.nil fun _ _=>rfl)
     (fun a ha _ C fp s' H' G'=>b7 (ae (aa 0 rfl) (ae (Ny (AF MD ay hr (ae (aa 1 rfl) (ae (aa 0 rfl) aj)) ⟨six,rows,[a],rfl,ok.ok,rfl⟩)) aj)) AA3) (r0 (by omega)))) (by rw[Gi,qR];exact kK ok.ok.nd) (by rw[Gi];show(List.map _ _).length<=_;rw[List.length_map,List.length_map];exact r0 (by omega))
 . refine lV T.nX rfl (ik e2 (iu L (fun x=>Dt.str (sg x)) (fun x=>.tup [.str (sg x),.int 1]) (fun x=>[.val (.str (sg x))]) (fun _=>true) rfl (cQ Jt) (i4 (bL (fs:=t.xM six rows) (aa 1 rfl) fm ay hr ⟨six,rows,rfl,ok.ok,rfl⟩)) (cW (cQ Jt) rfl) (e9 (dY (vT ok.ok)) (gd L)) (fun a _=>dM) (.nil fun _ _=>rfl)
     (fun a ha _ C fp s' H' G'=>b7 (ae (aa 0 rfl) (ae ah aj)) AA3) (r0 (by omega)))) (by rw[MB,qR];exact kK ok.ok.nd) (by rw[MB];show(List.map _ _).length<=_;rw[List.length_map,List.length_map];exact r0 (by omega))
noncomputable def Jv (t:dN):Rl:=fun ds r=>∃ six rows w l ls n age,ds=[.obj t.ar (t.iW six rows w l ls n),.int ((age:Nat):Int)]/\nv rows w/\ls.map (·.2)=p9 rows/\age<=1000/\r=.ret (.tM l ls (age+1))
noncomputable abbrev UH:Stmt->List Stmt
 | .While _ b _ _=>b
 | _=>[]
noncomputable abbrev Bx:Stmt->Scope
 | .For _ _ [.Assign _ (.Call _ (.ListComp _ _ sc _::_) _ _) _] _ _=>sc
 | _=>af (.Pass ⟨0,0,0,0⟩)
noncomputable abbrev ME:Stmt->Scope
 | .Expr (.Call _ [.Call _ (.ListComp _ _ sc _::_) _ _] _ _) _=>sc
 | _=>af (.Pass ⟨0,0,0,0⟩)
noncomputable abbrev wB:List Stmt:=UH ((aD bG).getD 1 (.Pass ⟨0,0,0,0⟩))
noncomputable abbrev UI:Scope:=Bx (wB.getD 2 (.Pass ⟨0,0,0,0⟩))
noncomputable abbrev UJ:Scope:=ME (wB.getD 4 (.Pass ⟨0,0,0,0⟩))
theorem NS:iY UI (af bG) ia ["younger","last"] ["younger"] [3]=true:=by decide +kernel
theorem NT:iY UJ (af bG) ia ["letter","grown"] ["letter"] [4]=true:=by decide +kernel
theorem FX (T:Txt K mg t):MF P w K mg base CX 4 t.ar "deepen_to" 2 (Jv t):=by
 refine⟨T.aM.cl,_,_,_,iq T.eV.F jX rfl fun bg A outer s H E G ds r hr hl hR=>?_,T.c5,T.eV.b⟩
 obtain⟨six,rows,wd,l,ls,n,age,rfl,ok,oH,kO,rfl⟩:=hR
 have fm:=jJ (P:=P) (w:=w) (base:=base) T
 have vV:=vM (P:=P) (w:=w) (base:=base) T
 have Jw:=FU (P:=P) (w:=w) (base:=base) T
 have nd:=jX.nd
 have h6:=ok.ok.le
 let L:=rows.map (·.c)
 have hL:L.length<=6:=by show(rows.map (·.c)).length<=6;rw[List.length_map];exact h6
 have h7:∀ x∈L,x < 128:=fun x hx=>by
   obtain⟨r,hr,rfl⟩:=List.mem_map.mp hx
   have:=ok.ok.sm r hr
   unfold small at this;omega
 have hu:(A.deeper (envOfC "Growth.deepen_to" (af bG) s.heap.objs.size t.bH bg)).units+1 < cLine:=by have:=hr.units;omega
 have e2:ls.length=2:=by have:=congrArg List.length oH;simpa [p9] using this
 let tl:List Slot:=[.val (.int ((age:Nat):Int)),.val (.str (tx L)),.bw,.bw,.bw]
 refine⟨_,oG (by rw[e2];exact Nat.le_refl 2),ai (dl1:=zL t.ar (t.zA six rows wd) ["tallies","lengths"] l ls n tl) (ax 2 nd (bL (fs:=t.xM six rows) (aG (fs:=t.iW six rows wd l ls n) (aa 0 rfl) T.aM.cl T.cE rfl) fm ay hr ⟨six,rows,rfl,ok.ok,rfl⟩))
   (ao (xB (age:=age) PassesOwn.leaving (Bw t six rows wd) rfl (by decide) (by omega) (fun N G hx=>?_) (fun N hN hNa G0 hA hB=>?_)))⟩
 . exact dq (sA (DZ (N:=N) T.iZ hx (aG (fs:=t.FV six rows wd l ls n) (aa 0 rfl) T.aM.cl T.cw rfl) (by rw[e2];rfl)) (aa 1 rfl)) (decide_eq_decide.mpr (by omega))
 . let Dk:Nat->Dt:=fun c=>Jp L (cT rows N c)
   let S:Nat->List Slot:=fun k=>[.val (.obj t.ar (t.FV six rows wd l ls n)),.val (.int ((age:Nat):Int)),.val (.str (tx L)),.val (.dn (m9 (vU rows (N - 1)))),.own (.eB (kd (L.take k) Dk)),.bw]
   have eS:S L.length=[.val (.obj t.ar (t.FV six rows wd l ls n)),.val (.int ((age:Nat):Int)),.val (.str (tx L)),.val (.dn (m9 (vU rows (N - 1)))),.own (.eB (m9 (vU rows N))),.bw]:=by
     show [_,_,_,_,Slot.own (.eB (kd (L.take L.length) Dk)),_]=_
     rw[List.take_length,Gi rows N];rfl
   refine ai (ax 3 nd (AW (f:=vU rows) (N:=N) ak (aG (fs:=t.FV six rows wd l ls n) (aa 0 rfl) T.aM.cl T.cw rfl) (hX ah) (by rw[oH];rfl) (by rw[e2];rfl) hN)) (ai (j4 4 nd DU)
     (ai (dl1:=S L.length) (oo (o:=.nx (S L.length)) (m:=L.length) L (fun x=>Dt.str (sg x)) (fun x dl=>dl.set 5 (.val (.str (sg x)))) S rfl PassesOwn.leaving (i4 (aa 2 rfl)) (e9 (dY (jH h7)) (gd L)) (bx nd rfl (.inl rfl)) (fun a _=>tR) (Le.of ⟨rfl,rfl,rfl,rfl,rfl,trivial⟩) (Nat.le_refl _) (fun k a hk ha=>?_) (.all rfl)) ?_))
   . rw[List.getElem?_eq_getElem hk] at ha
     cases ha
     have hm:L[k]∈L:=List.getElem_mem hk
     obtain⟨q,hq,hc,_,ew⟩:=jI hm
     have Yi:=ok.ok.wp q hq
     have UK:∀ y∈wordOf rows L[k],y∈L:=fun y hy=>ok.ok.wo q hq y (by rw[ew] at hy;exact hy)
     have OY:(wordOf rows L[k]).length<=8:=by rw[ew];exact Yi.2
     have TL:(kd (L.take k) Dk).length < sizeLine:=by
       unfold kd
       rw[List.length_map,List.length_take];exact Nat.lt_of_lt_of_le (show min k L.length < 2000 by omega) (by decide)
     have e3:(((wordOf rows L[k]).filter fun _=>true).map fun y=>Jp L (cT rows (N - 1) y))=((wordOf rows L[k]).map fun y=>cT rows (N - 1) y).map (Jp L):=by
       rw[List.filter_eq_self.mpr (fun _ _=>rfl),List.map_map];rfl
     have eN:N=(N - 1)+1:=by omega
     have ed:Dk L[k]=.dn (dI (kc L fun x=>(((wordOf rows L[k]).map fun y=>cT rows (N - 1) y).map fun T=>T x).sum)):=by
       have e7:(cT rows N L[k])=fun x=>(((wordOf rows L[k]).map fun y=>cT rows (N - 1) y).map fun T=>T x).sum:=by
         funext x
         rw[List.map_map]
         obtain⟨M,rfl⟩:∃ M,N=M+1:=⟨N - 1,eN⟩
         rfl
       show Jp L (cT rows N L[k])=_
       rw[e7];rfl
     refine .nx (ao (DV (kds:=kd (L.take k) Dk) (d:=Dk L[k]) 4 hu (by rw[ed];exact Ny (AF Jw ay hr (ae (ik e3 (iu (wordOf rows L[k]) (fun x=>Dt.str (sg x)) (fun y=>Jp L (cT rows (N - 1) y)) (fun x=>[.val (.str (sg x))]) (fun _=>true) rfl (cQ NS) (i4 (bB (fs:=t.xM six rows) (aG (fs:=t.FV six rows wd l ls n) (aa 0 rfl) T.aM.cl T.cE rfl) vV ay hr (ae (aa 5 rfl) aj) ⟨six,rows,L[k],rfl,ok.ok,hm,rfl⟩)) (cW (cQ NS) rfl) (e9 (dY (uu ok.ok UK)) (gd _)) (fun a _=>dM) (.nil fun _ _=>rfl)
       (fun y hy _ C fp s' H' G'=>jD hu (aa 1 rfl) (aa 0 rfl) (by rw[Gi];exact ju (UK y hy)) (fun _ _=>rfl)) (r0 (by omega)))) (ae (aa 2 rfl) aj)) ⟨L,_,rfl,ok.ok.nd,hL,h7,by rw[List.length_map];omega,rfl⟩)) (aa 5 rfl) TL)) (Le.of ⟨rfl,rfl,rfl,rfl,?_,trivial⟩)
     show Slot.own (.eB (kd (L.take (k+1)) Dk))=Slot.own (.eB (u7 (kd (L.take k) Dk) (.inr (sg L[k])) (Dk L[k])))
     rw[Jo ok.ok.nd hk]
   . rw[eS]
     refine DF (dl1:=.val (.obj t.ar (t.FV six rows wd l ls n))::tl.set 3 (.own (.eB (m9 (vU rows N))))) (A0 (f:=vU rows) (g:=wX rows) (tl:=tl) 3 (Bw t six rows wd) rfl rfl oH (by omega) T.aM.cl T.cw T.bS hA hB (fun G2=>?_)) (Le.of ⟨rfl,rfl,rfl,rfl,trivial⟩)
     have e4:((L.filter fun _=>true).map fun x=>Dt.tup [.str (sg x),.int (lT rows N x)])=(m9 (wX rows N)).map Ko:=by
       rw[List.filter_eq_self.mpr (fun _ _=>rfl),MB]
       exact Bu L _
     exact lV T.nX rfl (ik e4 (iu L (fun x=>Dt.str (sg x)) (fun x=>.tup [.str (sg x),.int (lT rows N x)]) (fun x=>[.val (.str (sg x))]) (fun _=>true) rfl (cQ NT) (i4 (aa 2 rfl)) (cW (cQ NT) rfl) (e9 (dY (jH h7)) (gd L)) (fun a _=>dM) (.nil fun _ _=>rfl)
       (fun a ha _ C fp s' H' G'=>b7 (ae (aa 0 rfl) (ae (bP (LH (kds:=kc L (cT rows N a)) T.Bg rfl (jD (d:=Jp L (cT rows N a)) hu (aa 1 rfl) (aa 0 rfl) (by rw[Gi];exact ju ha) (fun _ _=>rfl)) (.inl rfl)) (by rw[Mz];rfl)) aj)) AA3) (r0 (by omega)))) (by rw[MB,qR];exact kK ok.ok.nd) (by rw[MB];show(List.map _ _).length<=_;rw[List.length_map,List.length_map];exact r0 (by omega))
noncomputable def Yj:Rl:=fun ds r=>∃ z f l:Int,ds=[.int z,.int f,.int l]/\f<=z/\z<=l/\r=.ret .cP
noncomputable def MG (t:dN):Rl:=fun ds r=>∃ six rows w l ls n age,ds=[.obj t.ar (t.iW six rows w l ls n),.int ((age:Nat):Int)]/\nv rows w/\ls.map (·.2)=p9 rows/\age<=200/\r=.ret (.tM l ls (age+1))
noncomputable def Yk (rows:List Row)(w:List Nat)(age:Nat):Int:=(w.map (lT rows age)).sum
noncomputable def QX (t:dN):Rl:=fun ds r=>∃ six rows w l ls n age,ds=[.obj t.ar (t.iW six rows w l ls n),.int ((age:Nat):Int)]/\nv rows w/\ls.map (·.2)=p9 rows/\age<=200/\r=.ret (.int (Yk rows w age))
noncomputable def QY (t:dN):Rl:=fun ds r=>∃ six rows w l ls n,ds=[.obj t.ar (t.iW six rows w l ls n)]/\r=.ret (t.zN six rows)
noncomputable abbrev C4:Stmt->Scope
 | .Return (some (.Call _ (.ListComp _ _ sc _::_) _ _)) _=>sc
 | _=>af (.Pass ⟨0,0,0,0⟩)
noncomputable abbrev UL:Scope:=C4 ((aD df).getD 1 (.Pass ⟨0,0,0,0⟩))
theorem NU:iY UL (af df) m6 ["letter","self","age"] ["letter"] [0,1]=true:=by decide +kernel
theorem nv.asc {rows:List Row}{w:List Nat}(ok:nv rows w):jO (tx w)=true:=uu ok.ok ok.wm
theorem NV (T:Txt K mg t):GF P w K mg base CX 1 "check_round" 3 Yj:=by
 refine⟨_,_,_,iq T.fk.F vt rfl fun bg A outer s H E G ds r hr hl hR=>?_,(T.g T.fk.a),T.fk.F.kp,T.fk.b⟩
 obtain⟨z,f,l,rfl,h1,h2,rfl⟩:=hR
 exact⟨_,.nx _,ao (bQ (u:=false) (uS (pk (u:=false) (v:=false) (dq (Av (aa 0 rfl) (aa 1 rfl)) (decide_eq_false (by omega))) fun _=>(pK (dq (Aw (aa 0 rfl) (aa 2 rfl)) (decide_eq_false (by omega)))))) (fun h=>nomatch h) (fun h=>bZ))⟩
theorem By (T:Txt K mg t):MF P w K mg base CX 5 t.ar "enter" 2 (MG t):=by
 refine⟨T.aM.cl,_,_,_,iq T.iQ.F sW rfl fun bg A outer s H E G ds r hr hl hR=>?_,T.eW,T.iQ.b⟩
 obtain⟨six,rows,wd,l,ls,n,age,rfl,ok,oH,kO,rfl⟩:=hR
 have QZ:=NV (P:=P) (w:=w) (base:=base) T
 have vW:=FX (P:=P) (w:=w) (base:=base) T
 have e2:ls.length=2:=by have:=congrArg List.length oH;simpa [p9] using this
 exact⟨_,oG (nm:=["tallies","lengths"]) (by rw[e2];exact Nat.le_refl 2),ai (oi (bM QZ ay hr (ae (aa 1 rfl) (ae ah (ae (j0 (w:=.int 200) T.qL ⟨_,rfl⟩ fun _=>.int 200) aj))) ⟨_,_,_,rfl,by omega,by omega,rfl⟩))
   (ao (nK (m:=age+1) (tl:=[.val (.int ((age:Nat):Int))]) (bB (fs:=t.iW six rows wd l ls n) (aa 0 rfl) vW ay hr (ae (aa 1 rfl) aj) ⟨six,rows,wd,l,ls,n,age,rfl,ok,oH,by omega,rfl⟩)))⟩
theorem Eu (T:Txt K mg t):MF P w K mg base CX 6 t.ar "length" 2 (QX t):=by
 refine⟨T.aM.cl,_,_,_,iq T.g8.F rP rfl fun bg A outer s H E G ds r hr hl hR=>?_,T.er,T.g8.b⟩
 obtain⟨six,rows,wd,l,ls,n,age,rfl,ok,oH,kO,rfl⟩:=hR
 have Jx:=By (P:=P) (w:=w) (base:=base) T
 have hu:(A.deeper (envOfC "Growth.length" (af df) s.heap.objs.size t.cC bg)).units+1 < cLine:=by have:=hr.units;omega
 have w8:=ok.w8
 have e3:((wd.filter fun _=>true).map fun x=>Dt.int (lT rows age x))=(wd.map (lT rows age)).map Dt.int:=by
   rw[List.filter_eq_self.mpr (fun _ _=>rfl),List.map_map];rfl
 exact⟨_,.rt _,ai (nK (m:=age+1) (tl:=[.val (.int ((age:Nat):Int))]) (bB (fs:=t.iW six rows wd l ls n) (aa 0 rfl) Jx ay hr (ae (aa 1 rfl) aj) ⟨six,rows,wd,l,ls,n,age,rfl,ok,oH,by omega,rfl⟩))
   (ao (aF (HH T.Bg rfl (ik e3 (iu wd (fun x=>Dt.str (sg x)) (fun x=>Dt.int (lT rows age x)) (fun x=>[.val (.str (sg x))]) (fun _=>true) rfl (cQ NU) (i4 (aG (fs:=t.iW six rows wd l ls (age+1)) (aa 0 rfl) T.aM.cl T.fN rfl)) (cW (cQ NU) rfl) (e9 (dY ok.asc) (gd wd)) (fun a _=>dM) (.nil fun _ _=>rfl)
     (fun a ha _ C fp s' H' G'=>jD hu (vd (n:=age+1) (j:=1) (f:=wX rows) (aG (fs:=t.iW six rows wd l ls (age+1)) (aa 1 rfl) T.aM.cl T.bS rfl) (aa 2 rfl) (by rw[oH];rfl) (by omega) (by omega)) (aa 0 rfl) (by rw[MB];exact ju (ok.wm a ha)) (fun _ _=>rfl)) (r0 (by omega)))))))⟩
theorem zB (T:Txt K mg t):MF P w K mg base CX 1 t.ar "rules_told" 1 (QY t):=by
 refine⟨T.aM.cl,_,_,_,iq T.dW.F nT rfl fun bg A outer s H E G ds r hr hl hR=>?_,T.cL,T.dW.b⟩
 obtain⟨six,rows,wd,l,ls,n,rfl,rfl⟩:=hR
 exact⟨_,.rt _,ao (aF (aG (fs:=t.iW six rows wd l ls n) (aa 0 rfl) T.aM.cl T.cE rfl))⟩
noncomputable def MM:Int:=2305843009213693951
noncomputable def mV (ns:List Int)(k:Nat):Int:=ns.getD (k % ns.length) 0
noncomputable def bK (ns:List Int)(k:Nat):Int:=mV ns k % 10 ^ 60 / MM * MM+(mV ns k+7919 * ((k:Int)+1)) * 6364136223846793005 % MM
theorem Bz (ns:List Int)(k:Nat):0<=bK ns k:=by
 have h1:=Int.emod_nonneg (mV ns k) (show(10:Int) ^ 60≠0 by decide)
 have h2:=Int.emod_nonneg ((mV ns k+7919 * ((k:Int)+1)) * 6364136223846793005) (show MM≠0 by decide)
 have h3:0<=mV ns k % 10 ^ 60 / MM:=Int.ediv_nonneg h1 (by decide)
 unfold bK
 have h4:0<=mV ns k % 10 ^ 60 / MM * MM:=Int.mul_nonneg h3 (by decide)
 omega
noncomputable def UM:Rl:=fun ds r=>∃ ns:List Int,ns.length<=63/\ds=[.oh ns]/\r=.ret (.bl true)
noncomputable def Jy (K:W.Frag):Sp:=DH K 1 UM
theorem Q0 {K:W.Frag}{H:Hp}{a:Addr}{ns:List Int}(hl:ns.length<=63)(hS:mh K H a (ns.map V.int)):Jy K [.ref a] H (fun v _=>v=.bl true) fun _ _ _=>False:=
 ⟨H,[.oh ns],.ret (.bl true),aE.refl H,.cons (.oh hS) .nil,rfl,⟨ns,hl,rfl,rfl⟩,fun v aH H' g r=>by cases r;rfl⟩
noncomputable def zC:Rl:=fun ds r=>∃ (ns:List Int) (k:Nat),ds=[.oh ns,.int k]/\k<=100/\r=.ret (.int (bK ns k))
noncomputable def MH:Rl:=fun ds r=>∃ z,ds=[.int z]/\r=.ret (.bl true)
theorem Jz (ns:List Int)(k:Nat)(h:k < ns.length):ny ns (k:Int)=some (ns.getD k 0):=by
 refine jY ?_
 rw[List.getD_eq_getElem?_getD,List.getElem?_eq_getElem h];rfl
theorem BA (T:Txt K mg t):GF P w K mg base CX 1 "_law_cell" 2 zC:=by
 refine⟨_,_,_,iq T.rT.F tW rfl fun bg A outer s H E G ds r hr hl hR=>?_,(T.g T.rT.a),T.rT.F.kp,T.rT.b⟩
 obtain⟨ns,k,rfl,hk,rfl⟩:=hR
 refine⟨_,.rt _,ai (ax 2 tW.nd ah) (ai (dl1:=[.val (.oh ns),.val (.int k),.val (.int (mV ns k)),.bw]) (bQ (Aw (yh T.iZ (aa 0 rfl)) ah) (fun h=>?_) (fun h=>?_))
   (ai (ax 3 tW.nd (dc (eE (aI (aa 2 rfl) (eE ah (aI (aa 1 rfl) ah) (qe.ok (Or.inl ⟨by decide,by decide⟩)))) ah (qe.ok (Or.inr ⟨by decide,by decide⟩))) ah (by decide)))
 (ao (aF (aI (eE (ir (dc (aa 2 rfl) (GZ ah ah ⟨by decide,by decide,by decide⟩) (by decide)) ah ⟨by decide,by decide +kernel⟩) ah (qe.ok (Or.inr ⟨by decide,by decide⟩))) (aa 3 rfl))))))⟩
 . have h:=of_decide_eq_true h
   have hl:0 < ns.length:=by omega
   have e:((k:Nat):Int) % ((ns.length:Nat):Int)=((k % ns.length:Nat):Int):=by omega
   exact ao (ax 2 tW.nd (rj (aa 0 rfl) (bP (dc (aa 1 rfl) (yh T.iZ (aa 0 rfl)) (by omega)) (congrArg Dt.int e)) (Jz ns _ (Nat.mod_lt _ hl))))
 . have h:=of_decide_eq_false h
   have e:mV ns k=0:=by unfold mV;rw[List.getD_eq_getElem?_getD,List.getElem?_eq_none (by omega)];rfl
   rw[e]
   exact bZ
theorem JA (T:Txt K mg t):GF P w K mg base CX 1 "_law_whole" 1 MH:=by
 refine⟨_,_,_,iq T.oO.F Iy rfl fun bg A outer s H E G ds r hr hl hR=>?_,(T.g T.oO.a),T.oO.F.kp,T.oO.b⟩
 obtain⟨z,rfl,rfl⟩:=hR
 exact⟨_,.rt _,(ao (aF (ye (u:=true) (v:=true) (uU T.e6 (aa 0 rfl) (Au T.IC Sg.boot_int) rfl trivial rfl) fun _=>(tN (O5 (u:=false) (uU T.e6 (aa 0 rfl) (Au T.CL Sg.boot_bool) rfl trivial rfl))))))⟩
noncomputable def Yl:List Nat:=(List.range 26).map (97 + ·)
structure LS where
 left:List Nat
 rest:Int
 out:List Nat
noncomputable def ls (c:Int):Nat->LS
 | 0=>⟨Yl,c,[]⟩
 | k+1=>let s:=ls c k;let at_:=(s.rest % (s.left.length:Nat)).toNat;⟨s.left.take at_ ++ s.left.drop (at_+1),s.rest / (s.left.length:Nat),s.out ++ [s.left.getD at_ 0]⟩
noncomputable def oW (s:LS):Nat:=(s.rest % (s.left.length:Nat)).toNat
structure LOk (k:Nat)(s:LS):Prop where
 len:s.left.length+k=26
 ol:s.out.length=k
 sm:∀ x∈s.left,small x
 so:∀ x∈s.out,small x
 nl:s.left.Nodup
 no:s.out.Nodup
 ap:∀ x∈s.out,x ∉ s.left
theorem JB {s:LS}(h:0 < s.left.length):oW s < s.left.length:=by
 have h0:=Int.emod_nonneg s.rest (show((s.left.length:Nat):Int)≠0 by omega)
 have h1:=Int.emod_lt_of_pos s.rest (show(0:Int) < (s.left.length:Nat) by omega)
 unfold oW
 omega
theorem JC (c:Int):∀ k,k<=6->LOk k (ls c k)
 | 0,_=>⟨show Yl.length+0=26 by decide,rfl,fun x hx=>by
     obtain⟨i,hi,rfl⟩:=List.mem_map.mp (show x∈(List.range 26).map (97 + ·) from hx)
     have:=List.mem_range.mp hi
     unfold small;omega,fun x h=>absurd h (List.not_mem_nil),show Yl.Nodup by decide,List.nodup_nil,fun x h=>absurd h (List.not_mem_nil)⟩
 | k+1,hk=>by
   have ih:=JC c k (by omega)
   have hl:=ih.len
   have de:oW (ls c k) < (ls c k).left.length:=JB (by omega)
   generalize hs:ls c k=s at ih hl de
   have e:ls c (k+1)=⟨s.left.take (oW s) ++ s.left.drop (oW s+1),s.rest / (s.left.length:Nat),s.out ++ [s.left.getD (oW s) 0]⟩:=by rw[<- hs];rfl
   rw[e]
   have eg:s.left.getD (oW s) 0=s.left[oW s]:=by rw[List.getD_eq_getElem?_getD,List.getElem?_eq_getElem de];rfl
   have sub:s.left.take (oW s) ++ s.left.drop (oW s+1)=s.left.eraseIdx (oW s):=(List.eraseIdx_eq_take_drop_succ _ _).symm
   have mem:∀ x∈s.left.take (oW s) ++ s.left.drop (oW s+1),x∈s.left:=fun x hx=>by
     rcases List.mem_append.mp hx with h | h
     . exact List.mem_of_mem_take h
     . exact List.mem_of_mem_drop h
   have PL:s.left[oW s]∈s.left:=List.getElem_mem de
   have nin:s.left[oW s] ∉ s.left.take (oW s) ++ s.left.drop (oW s+1):=by
     have pw:=List.pairwise_iff_getElem.mp ih.nl
     intro h
     rcases List.mem_append.mp h with h | h
     . obtain⟨i,hi,e⟩:=List.mem_iff_getElem.mp h
       rw[List.length_take] at hi
       rw[List.getElem_take] at e
       exact pw i (oW s) (by omega) de (by omega) e
     . obtain⟨i,hi,e⟩:=List.mem_iff_getElem.mp h
       rw[List.length_drop] at hi
       rw[List.getElem_drop] at e
       exact pw (oW s) (oW s+1+i) de (by omega) (by omega) e.symm
   refine⟨?_,?_,fun x hx=>ih.sm x (mem x hx),fun x hx=>?_,?_,?_,fun x hx=>?_⟩
   . show(s.left.take (oW s) ++ s.left.drop (oW s+1)).length+(k+1)=26
     rw[List.length_append,List.length_take,List.length_drop];omega
   . show(s.out ++ [s.left.getD (oW s) 0]).length=k+1
     rw[List.length_append,ih.ol];rfl
   . rcases List.mem_append.mp hx with h | h
     . exact ih.so x h
     . have:x=s.left[oW s]:=by rw[<- eg];simpa using h
       rw[this];exact ih.sm _ PL
   . show(s.left.take (oW s) ++ s.left.drop (oW s+1)).Nodup
     rw[sub]
     exact List.Nodup.sublist (List.eraseIdx_sublist _ _) ih.nl
   . show(s.out ++ [s.left.getD (oW s) 0]).Nodup
     rw[eg]
     refine List.nodup_append.mpr ⟨ih.no,by simp,fun a ha b hb z=>?_⟩
     have:b=s.left[oW s]:=by simpa using hb
     subst z this
     exact ih.ap _ ha PL
   . rcases List.mem_append.mp hx with h | h
     . exact fun z=>ih.ap x h (mem x z)
     . have:x=s.left[oW s]:=by rw[<- eg];simpa using h
       rw[this];exact nin
noncomputable def ws (L:List Nat)(c m:Int):Nat->Int×List Nat
 | 0=>(c / m,[])
 | k+1=>let s:=ws L c m k;(s.1 / (L.length:Nat),s.2 ++ [L.getD (s.1 % (L.length:Nat)).toNat 0])
noncomputable def vX (L:List Nat)(c m:Int):List Nat:=(ws L c m (1+c % m).toNat).2
theorem C5 (L:List Nat)(c m:Int):∀ k,(ws L c m k).2.length=k
 | 0=>rfl
 | k+1=>by show((ws L c m k).2 ++ [_]).length=_;rw[List.length_append,C5 L c m k];rfl
theorem JD (L:List Nat)(hL:0 < L.length)(c m:Int):∀ k,∀ x∈(ws L c m k).2,x∈L
 | 0,x,h=>by cases h
 | k+1,x,h=>by
   rcases List.mem_append.mp h with h | h
   . exact JD L hL c m k x h
   . have h0:=Int.emod_nonneg (ws L c m k).1 (show((L.length:Nat):Int)≠0 by omega)
     have h1:=Int.emod_lt_of_pos (ws L c m k).1 (show(0:Int) < (L.length:Nat) by omega)
     have de:((ws L c m k).1 % (L.length:Nat)).toNat < L.length:=by omega
     have:x=L.getD ((ws L c m k).1 % (L.length:Nat)).toNat 0:=by simpa using h
     rw[this,List.getD_eq_getElem?_getD,List.getElem?_eq_getElem de]
     exact List.getElem_mem de
theorem at_getD {L:List Str}{i:Int}{n:Nat}(hn:L.length=n)(h0:0<=i)(h1:i < n):ny (L.map Dt.str) i=some (.str (L.getD i.toNat "")):=by
 have e:i=((i.toNat:Nat):Int):=by omega
 rw[e]
 have hk:i.toNat < L.length:=by omega
 refine(jY (j:=i.toNat) ?_).trans rfl
 rw[List.getElem?_map,List.getElem?_eq_getElem hk,List.getD_eq_getElem?_getD]
 show some (Dt.str L[i.toNat])=some (Dt.str ((L[(i.toNat:Int).toNat]?).getD ""))
 rw[Int.toNat_natCast,List.getElem?_eq_getElem hk];rfl
theorem zD {L:List Nat}(hL:0 < L.length)(c m:Int)(hm:0 < m):0 < (vX L c m).length/\(vX L c m).length<=m.toNat/\∀ x∈vX L c m,x∈L:=by
 have h0:=Int.emod_nonneg c (show m≠0 by omega)
 have h1:=Int.emod_lt_of_pos c hm
 have hl:=C5 L c m (1+c % m).toNat
 refine⟨?_,?_,JD L hL c m _⟩
 . show 0 < (ws L c m (1+c % m).toNat).2.length;omega
 . show(ws L c m (1+c % m).toNat).2.length<=_;omega
noncomputable def vY (c:Int)(n:Nat):List Nat:=(ls c n).out
theorem BB (c:Int){n:Nat}(h:n<=6):(vY c n).length=n/\(vY c n).Nodup/\∀ x∈vY c n,small x:=let ok:=JC c n h;⟨ok.ol,ok.no,ok.so⟩
noncomputable def MI:Rl:=fun ds r=>∃ (c:Int) (n:Nat),ds=[.int c,.int n]/\n<=6/\r=.ret (.str (tx (vY c n)))
noncomputable def Q1:Rl:=fun ds r=>∃ (L:List Nat) (c m:Int),ds=[.int c,.str (tx L),.int m]/\(0 < L.length/\L.length<=100)/\(0<=c/\0 < m/\m<=500)/\r=.ret (.str (tx (vX L c m)))
theorem JE (T:Txt K mg t):GF P w K mg base CX 1 "_law_alphabet" 2 MI:=by
 refine⟨_,_,_,iq T.jb.F sF rfl fun bg A outer s H E G ds r hr hl hR=>?_,(T.g T.jb.a),T.jb.F.kp,T.jb.b⟩
 obtain⟨c,n,rfl,hn,rfl⟩:=hR
 have nd:=sF.nd
 let S:Nat->List Slot:=fun k=>[.val (.int (ls c k).rest),.val (.int n),.val (.str (tx (ls c k).left)),.val (.str (tx (ls c k).out)),.bw,.bw]
 refine⟨_,.rt _,ai (ax 2 nd fo) (ai (ax 3 nd fo)
   (ai (i3 (o:=.nx (S n)) (m:=n) 4 S nd rfl PassesOwn.leaving T.hU (ae (aa 1 rfl) aj) ⟨by omega,by omega⟩ (Le.of ⟨rfl,rfl,rfl,rfl,trivial⟩) (by omega) (fun k hk=>?_) (by rw[Int.toNat_natCast];exact .all rfl)) (ao (aF (aa 3 rfl)))))⟩
 have ok:=JC c k (by omega)
 have hl:=ok.len
 have hol:=ok.ol
 have de:oW (ls c k) < (ls c k).left.length:=JB (by omega)
 have ea:(ls c k).rest % (((ls c k).left.length:Nat):Int)=((oW (ls c k):Nat):Int):=by
   have h0:=Int.emod_nonneg (ls c k).rest (show(((ls c k).left.length:Nat):Int)≠0 by omega)
   unfold oW;omega
 have ea1:((oW (ls c k):Nat):Int)+1=((oW (ls c k)+1:Nat):Int):=by omega
 have hb:0 < (((ls c k).left.length:Nat):Int)/\(((ls c k).left.length:Nat):Int).natAbs.log2 < 9000:=⟨by omega,by
   have:(((ls c k).left.length:Nat):Int).natAbs<=26:=by omega
   exact Nat.lt_of_le_of_lt (Nat.log2_le_self _) (by omega)⟩
 exact .nx (ai (ax 5 nd (bP (dc (aa 0 rfl) (qN T.iZ (aa 2 rfl) (by omega)) (by omega)) (congrArg Dt.int ea)))
   (ai (ax 0 nd (ir (aa 0 rfl) (qN T.iZ (aa 2 rfl) (by omega)) hb))
   (ai (ax 3 nd (zl (aa 3 rfl) (zm (aa 2 rfl) (aa 5 rfl) de (by omega)) (by rw[hol];show k+1<=2000;omega)))
   (ao (ax 2 nd (zl (Mf (aa 2 rfl) (aa 5 rfl) (Nat.le_of_lt de) (by omega)) (FL (aa 2 rfl) (bP (aI (aa 5 rfl) ah) (congrArg Dt.int ea1)) de (by omega)) (by rw[List.length_take,List.length_drop];omega))))))) (Le.of ⟨rfl,rfl,rfl,rfl,trivial⟩)
theorem MJ (T:Txt K mg t):GF P w K mg base CX 1 "_law_text" 3 Q1:=by
 refine⟨_,_,_,iq T.rV.F D6 rfl fun bg A outer s H E G ds r hr hl hR=>?_,(T.g T.rV.a),T.rV.F.kp,T.rV.b⟩
 obtain⟨L,c,m,rfl,⟨hL0,hL⟩,⟨hc,O9,hm⟩,rfl⟩:=hR
 have nd:=D6.nd
 have h0:=Int.emod_nonneg c (show m≠0 by omega)
 have h1:=Int.emod_lt_of_pos c O9
 have hmb:0 < m/\m.natAbs.log2 < 9000:=⟨O9,Nat.lt_of_le_of_lt (Nat.log2_le_self _) (by omega)⟩
 have hLb:0 < ((L.length:Nat):Int)/\((L.length:Nat):Int).natAbs.log2 < 9000:=⟨by omega,Nat.lt_of_le_of_lt (Nat.log2_le_self _) (by omega)⟩
 let S:Nat->List Slot:=fun k=>[.val (.int (ws L c m k).1),.val (.str (tx L)),.val (.int m),.val (.str (tx (ws L c m k).2)),.val (.int (1+c % m)),.bw]
 refine⟨_,.rt _,ai (ax 3 nd fo) (ai (ax 4 nd (aI ah (dc (aa 0 rfl) (aa 2 rfl) O9))) (ai (ax 0 nd (ir (aa 0 rfl) (aa 2 rfl) hmb))
   (ai (i3 (m:=(1+c % m).toNat) 5 S nd rfl PassesOwn.leaving T.hU (ae (aa 4 rfl) aj) ⟨by omega,by omega⟩ (Le.of ⟨rfl,rfl,rfl,rfl,rfl,trivial⟩) (Nat.le_refl _) (fun k hk=>?_) (.all rfl)) (ao (aF (aa 3 rfl))))))⟩
 have OY:=C5 L c m k
 have h2:=Int.emod_nonneg (ws L c m k).1 (show((L.length:Nat):Int)≠0 by omega)
 have h3:=Int.emod_lt_of_pos (ws L c m k).1 (show(0:Int) < (L.length:Nat) by omega)
 have ea:(ws L c m k).1 % ((L.length:Nat):Int)=((((ws L c m k).1 % (L.length:Nat)).toNat:Nat):Int):=by omega
 exact .nx (ai (ax 3 nd (zl (aa 3 rfl) (zm (aa 1 rfl) (bP (dc (aa 0 rfl) (qN T.iZ (aa 1 rfl) (by omega)) (by omega)) (congrArg Dt.int ea)) (by omega) (by omega)) (by rw[OY];show k+1<=2000;omega)))
   (ao (ax 0 nd (ir (aa 0 rfl) (qN T.iZ (aa 1 rfl) (by omega)) hLb)))) (Le.of ⟨rfl,rfl,rfl,rfl,rfl,trivial⟩)
noncomputable def Ew:List Str:=["stroke","left","right","step","rest"]
noncomputable def dG (c:Int):Str:=Ew.getD (c % 5).toNat ""
theorem FY:∀ x∈Ew,x∈pF:=by decide
theorem Q2 (c:Int):dG c∈pF:=by
 have h0:=Int.emod_nonneg c (show(5:Int)≠0 by decide)
 have h1:=Int.emod_lt_of_pos c (show(0:Int) < 5 by decide)
 have hk:(c % 5).toNat < Ew.length:=by show _ < 5;omega
 refine FY _ ?_
 unfold dG
 rw[List.getD_eq_getElem?_getD,List.getElem?_eq_getElem hk]
 exact List.getElem_mem hk
noncomputable def wY (L:List Nat)(ns:List Int)(m:Int)(k:Nat):Row:=⟨L.getD k 0,dG (bK ns (3+k)),vX L (bK ns (3+k) / 5) m⟩
noncomputable def vZ (L:List Nat)(ns:List Int)(m:Int):List Row:=(List.range L.length).map (wY L ns m)
theorem C6 (L:List Nat)(ns:List Int)(m:Int):(vZ L ns m).map (·.c)=L:=by
 unfold vZ
 rw[List.map_map]
 refine List.ext_getElem (by simp) fun i h1 h2=>?_
 simp only[List.getElem_map,List.getElem_range,Function.comp]
 show L.getD i 0=L[i]
 rw[List.getD_eq_getElem?_getD,List.getElem?_eq_getElem h2];rfl
theorem JF {L:List Nat}(ns:List Int){m:Int}(hm:0 < m/\m<=8)(h0:0 < L.length)(h6:L.length<=6)(nd:L.Nodup)(sm:∀ x∈L,small x):cN (vZ L ns m):=by
 have hl:(vZ L ns m).length=L.length:=by unfold vZ;rw[List.length_map,List.length_range]
 have get:∀ r∈vZ L ns m,∃ k,k < L.length/\r=wY L ns m k:=fun r hr=>by
   obtain⟨k,hk,e⟩:=List.mem_map.mp hr
   exact⟨k,List.mem_range.mp hk,e.symm⟩
 refine⟨by omega,by omega,by rw[C6];exact nd,fun r hr=>?_,fun r hr=>?_,fun r hr=>?_,fun r hr x hx=>?_⟩
 . obtain⟨k,hk,rfl⟩:=get r hr
   refine sm _ ?_
   show L.getD k 0∈L
   rw[List.getD_eq_getElem?_getD,List.getElem?_eq_getElem hk]
   exact List.getElem_mem hk
 . obtain⟨k,hk,rfl⟩:=get r hr
   exact Q2 _
 . obtain⟨k,hk,rfl⟩:=get r hr
   have:=zD h0 (bK ns (3+k) / 5) m hm.1
   exact⟨this.1,by have:=this.2.1;show(vX _ _ _).length<=8;omega⟩
 . obtain⟨k,hk,rfl⟩:=get r hr
   rw[C6]
   exact(zD h0 (bK ns (3+k) / 5) m hm.1).2.2 x hx
noncomputable def r8 (ns:List Int)(far:Int):Int:=if bK ns 1 % 8=6 then bK ns 1 / 8 % (far+1) else bK ns 1 / 8 % 13
noncomputable def pG (ns:List Int)(far:Int):Int:=if bK ns 1 % 8=7 then 200 - bK ns 1 / 8 % 100 else r8 ns far
noncomputable def iT (ns:List Int):Int:=if bK ns 1 % 8=7 then 1+bK ns 0 / 2 % 2 else 1+bK ns 0 / 2 % 6
noncomputable def sd (ns:List Int):Int:=if bK ns 1 % 8=7 then 2 else 8
noncomputable def Ex (ns:List Int):List Nat:=vY (bK ns 0 / 12) (iT ns).toNat
noncomputable def v3 (ns:List Int):List Row:=vZ (Ex ns) ns (sd ns)
noncomputable def uy (ns:List Int):List Nat:=vX (Ex ns) (bK ns 2) 8
noncomputable def Ey (ns:List Int):Bool:=decide (bK ns 0 % 2=1)
theorem UN (ns:List Int):4+2 * (bK ns 0 % 2)=wy (Ey ns):=by
 have:bK ns 0 % 2=0\/bK ns 0 % 2=1:=by omega
 unfold Ey
 rcases this with h | h <;> rw[h] <;> rfl
theorem v5 (ns:List Int):1<=iT ns/\iT ns<=6:=by
 unfold iT
 split <;> omega
theorem BC (ns:List Int):0 < sd ns/\sd ns<=8:=by
 unfold sd
 split <;> omega
theorem MK (ns:List Int){far:Int}(h0:0<=far)(h:far<=200):0<=pG ns far/\pG ns far<=200:=by
 have h1:=Int.emod_nonneg (bK ns 1 / 8) (show far+1≠0 by omega)
 have h2:=Int.emod_lt_of_pos (bK ns 1 / 8) (show(0:Int) < far+1 by omega)
 unfold pG r8
 split
 . omega
 . split <;> omega
theorem C7 (ns:List Int):0 < (Ex ns).length/\(Ex ns).length<=6/\(Ex ns).Nodup/\∀ x∈Ex ns,small x:=by
 have hb:=v5 ns
 have ok:=BB (bK ns 0 / 12) (n:=(iT ns).toNat) (by omega)
 unfold Ex
 exact⟨by omega,by omega,ok.2.1,ok.2.2⟩
theorem Q3 (ns:List Int):(Ex ns).length=(iT ns).toNat:=by
 have hb:=v5 ns
 exact(BB (bK ns 0 / 12) (n:=(iT ns).toNat) (by omega)).1
theorem UO (ns:List Int):cN (v3 ns):=let h:=C7 ns;JF ns (BC ns) h.1 h.2.1 h.2.2.1 h.2.2.2
theorem UP (ns:List Int):nv (v3 ns) (uy ns):=by
 have h:=C7 ns
 have w:=zD h.1 (bK ns 2) 8 (by decide)
 exact⟨UO ns,w.1,w.2.1,fun x hx=>by unfold v3;rw[C6];exact w.2.2 x hx⟩
noncomputable def ML:Rl:=fun ds r=>∃ (ns:List Int) (far:Int),ds=[.oh ns,.int far]/\(0<=far/\far<=200)/\r=.ret (.tup [.int (wy (Ey ns)),.lst ((v3 ns).map qT),.str (tx (uy ns)),.int (pG ns far)])
theorem JG (T:Txt K mg t):GF P w K mg base CX 2 "_law_shape" 2 ML:=by
 refine⟨_,_,_,iq T.oP.F A9 rfl fun bg A outer s H E G ds r hr hl hR=>?_,(T.g T.oP.a),T.oP.F.kp,T.oP.b⟩
 obtain⟨ns,far,rfl,⟨hf0,hf⟩,rfl⟩:=hR
 have nd:=A9.nd
 have kY:=BA (P:=P) (w:=w) (base:=base) T
 have MN:=JE (P:=P) (w:=w) (base:=base) T
 have JH:=MJ (P:=P) (w:=w) (base:=base) T
 have hM:=v5 ns
 have hm:=BC ns
 have hL:=C7 ns
 have hlen:=Q3 ns
 have eM:iT ns=(((iT ns).toNat:Nat):Int):=by omega
 let c0:=bK ns 0
 let c1:=bK ns 1
 let L:=Ex ns
 let m:=sd ns
 let D:Int->Int->Int->List Slot:=fun a b c=>[.val (.oh ns),.val (.int far),.val (.int c0),.val (.int (c1 % 8)),.val (.int a),.val (.int b),.val (.int c),.bw,.bw,.bw,.bw,.bw,.bw]
 let S:Nat->List Slot:=fun k=>[.val (.oh ns),.val (.int far),.val (.int c0),.val (.int (c1 % 8)),.val (.int (pG ns far)),.val (.int (iT ns)),.val (.int m),.val (.str (tx L)),.own (.lst (((List.range k).map (wY L ns m)).map qT)),.bw,.bw,.bw,.bw]
 have cl:∀ (j:Nat),j<=100->zC [.oh ns,.int j] (.ret (.int (bK ns j))):=fun j hj=>⟨ns,j,rfl,hj,rfl⟩
 refine⟨_,.rt _,ai (ax 2 nd (bM kY ay hr (ae (aa 0 rfl) (ae ah aj)) (cl 0 (by decide))))
   (ai (ax 3 nd (dc (bM kY ay hr (ae (aa 0 rfl) (ae ah aj)) (cl 1 (by decide))) ah (by decide)))
   (ai (ax 4 nd (dc (ir (bM kY ay hr (ae (aa 0 rfl) (ae ah aj)) (cl 1 (by decide))) ah ⟨by decide,by decide +kernel⟩) ah (by decide)))
   (ai (ax 5 nd (aI ah (dc (ir (aa 2 rfl) ah ⟨by decide,by decide +kernel⟩) ah (by decide))))
   (ai (ax 6 nd ah)
   (ai (dl1:=D (r8 ns far) (1+c0 / 2 % 6) 8) (bQ (lE (aa 3 rfl) ah) (fun h=>?_) (fun h=>?_))
   (ai (dl1:=D (pG ns far) (iT ns) m) (bQ (lE (aa 3 rfl) ah) (fun h=>?_) (fun h=>?_))
   (ai (ax 7 nd (d:=.str (tx L)) (bM MN ay hr (ae (ir (aa 2 rfl) ah ⟨by decide,by decide +kernel⟩) (ae (bP (aa 5 rfl) (congrArg Dt.int eM)) aj)) ⟨c0 / 12,(iT ns).toNat,rfl,by omega,rfl⟩))
   (ai (j4 8 nd (rB aj AA3))
   (ai (dl1:=S L.length) (i3 (o:=.nx (S L.length)) (m:=L.length) 9 S nd rfl PassesOwn.leaving T.hU (ae (bP (aa 5 rfl) (congrArg Dt.int eM)) aj) ⟨by omega,by omega⟩ (Le.of ⟨rfl,rfl,rfl,rfl,rfl,rfl,rfl,rfl,rfl,trivial⟩) (by show(Ex ns).length<=_;omega) (fun k hk=>?_) (by rw[Int.toNat_natCast,<- hlen];exact .all rfl))
   (ai (ax 12 nd (d:=.str (tx (uy ns))) (bM JH ay hr (ae (bM kY ay hr (ae (aa 0 rfl) (ae ah aj)) (cl 2 (by decide))) (ae (aa 7 rfl) (ae ah aj))) ⟨L,bK ns 2,8,rfl,⟨hL.1,by show(Ex ns).length<=100;omega⟩,⟨Bz _ _,by decide,by decide⟩,rfl⟩))
   (uX (w:=.lst (((List.range L.length).map (wY L ns m)).map qT)) 8 (ao (aF (b7 (ae (bP (aI ah (eE ah (dc (aa 2 rfl) ah (by decide)) (qe.ok (Or.inl ⟨by decide,by decide⟩)))) (congrArg Dt.int (UN ns))) (ae (aa 8 rfl) (ae (aa 12 rfl) (ae (aa 4 rfl) aj)))) AA3))))))))))))))⟩
 . have h:=of_decide_eq_true h
   have e:r8 ns far=c1 / 8 % (far+1):=if_pos h
   rw[e]
   exact ao (ax 4 nd (dc (ir (bM kY ay hr (ae (aa 0 rfl) (ae ah aj)) (cl 1 (by decide))) ah ⟨by decide,by decide +kernel⟩) (aI (aa 1 rfl) ah) (by omega)))
 . have h:=of_decide_eq_false h
   have e:r8 ns far=c1 / 8 % 13:=if_neg h
   rw[e]
   exact bZ
 . have h:=of_decide_eq_true h
   have e1:pG ns far=200 - c1 / 8 % 100:=if_pos h
   have e2:iT ns=1+c0 / 2 % 2:=if_pos h
   have e3:m=2:=if_pos h
   rw[e1,e2,e3]
   exact ai (ax 4 nd (hV ah (dc (ir (bM kY ay hr (ae (aa 0 rfl) (ae ah aj)) (cl 1 (by decide))) ah ⟨by decide,by decide +kernel⟩) ah (by decide))))
     (ai (ax 5 nd (aI ah (dc (ir (aa 2 rfl) ah ⟨by decide,by decide +kernel⟩) ah (by decide)))) (ao (ax 6 nd ah)))
 . have h:=of_decide_eq_false h
   have e1:pG ns far=r8 ns far:=if_neg h
   have e2:iT ns=1+c0 / 2 % 6:=if_neg h
   have e3:m=8:=if_neg h
   rw[e1,e2,e3]
   exact bZ
 . have hk:k < (Ex ns).length:=hk
   have h0:=Int.emod_nonneg (bK ns (3+k)) (show(5:Int)≠0 by decide)
   have h1:=Int.emod_lt_of_pos (bK ns (3+k)) (show(0:Int) < 5 by decide)
   have hnn:=Bz ns (3+k)
   have e:((List.range (k+1)).map (wY L ns m)).map qT=((List.range k).map (wY L ns m)).map qT ++ [qT (wY L ns m k)]:=by
     rw[List.range_succ,List.map_append,List.map_append];rfl
   refine .nx (ai (ax 10 nd (bM kY ay hr (ae (aa 0 rfl) (ae (bP (aI ah (aa 9 rfl)) (congrArg Dt.int (show(3:Int)+(k:Int)=((3+k:Nat):Int) by omega))) aj)) (cl (3+k) (by omega))))
     (ai (ax 11 nd (d:=.str (dG (bK ns (3+k)))) (av (b7 (ae fo (ae fo (ae fo (ae fo (ae fo aj))))) AA3) (dc (aa 10 rfl) ah (by decide)) (at_getD (L:=Ew) (n:=5) rfl h0 h1)))
     (ao (xp (ds:=((List.range k).map (wY L ns m)).map qT) 8 (d:=qT (wY L ns m k)) (b7 (ae (zm (aa 7 rfl) (aa 9 rfl) hk (by show(Ex ns).length<=2000;omega)) (ae (aa 11 rfl) (ae (bM JH ay hr (ae (ir (aa 10 rfl) ah ⟨by decide,by decide +kernel⟩) (ae (aa 7 rfl) (ae (aa 6 rfl) aj))) ⟨L,bK ns (3+k) / 5,m,rfl,⟨hL.1,by show(Ex ns).length<=100;omega⟩,⟨Int.ediv_nonneg hnn (by decide),hm.1,by have:=hm.2;show sd ns<=500;omega⟩,rfl⟩) aj))) AA3) (by rw[List.length_map,List.length_map,List.length_range];exact Nat.lt_of_lt_of_le (show k < 2000 by omega) (by decide)))))) (Le.of ⟨rfl,rfl,rfl,rfl,rfl,rfl,rfl,rfl,?_,trivial⟩)
   show Slot.own (.lst (((List.range (k+1)).map (wY L ns m)).map qT))=_
   rw[e]
theorem JI (B:List Nat)(f g:Nat->Int):(B.map fun b=>f b+g b).sum=(B.map f).sum+(B.map g).sum:=by
 induction B with
 | nil=>rfl
 | cons b B ih=>rw[List.map_cons,List.sum_cons,ih,List.map_cons,List.sum_cons,List.map_cons,List.sum_cons];omega
theorem JJ (B:List Nat):(B.map fun _=>(0:Int)).sum=0:=by
 induction B with
 | nil=>rfl
 | cons b B ih=>rw[List.map_cons,List.sum_cons,ih];rfl
theorem FZ (A B:List Nat)(f:Nat->Nat->Int):(A.map fun a=>(B.map fun b=>f a b).sum).sum=(B.map fun b=>(A.map fun a=>f a b).sum).sum:=by
 induction A with
 | nil=>exact(JJ B).symm
 | cons a A ih=>
   rw[List.map_cons,List.sum_cons,ih,<- JI]
   rfl
noncomputable def gP (rows:List Row):Nat->Nat->List Nat
 | 0,c=>[c]
 | r+1,c=>(wordOf rows c).flatMap (gP rows r)
theorem Ym (rows:List Row)(r c:Nat):lT rows (r+1) c=((wordOf rows c).map (lT rows r)).sum:=by
 unfold lT
 exact(FZ (wordOf rows c) (rows.map (·.c)) fun y x=>cT rows r y x).symm
theorem l9 {rows:List Row}(ok:cN rows){c:Nat}(hc:c∈rows.map (·.c)):(∀ y∈wordOf rows c,y∈rows.map (·.c))/\0 < (wordOf rows c).length/\(wordOf rows c).length<=8:=by
 obtain⟨q,hq,_,_,ew⟩:=jI hc
 rw[ew]
 exact⟨ok.wo q hq,ok.wp q hq⟩
theorem v7 {f:Nat->List Nat}{g:Nat->Int}:∀ {w:List Nat},(∀ y∈w,(((f y).length:Nat):Int)=g y)->(((w.flatMap f).length:Nat):Int)=(w.map g).sum
 | [],_=>rfl
 | y::w,h=>by
   rw[List.flatMap_cons,List.length_append,List.map_cons,List.sum_cons,<- h y (by simp),<- v7 (f:=f) (g:=g) fun z hz=>h z (by simp[hz])]
   omega
theorem C8 {rows:List Row}(ok:cN rows):∀ (r:Nat) {c:Nat},c∈rows.map (·.c)->(((gP rows r c).length:Nat):Int)=lT rows r c
 | 0,c,hc=>by rw[UG ok hc];rfl
 | r+1,c,hc=>by
   rw[Ym]
   exact v7 fun y hy=>C8 ok r ((l9 ok hc).1 y hy)
theorem JK {rows:List Row}(ok:cN rows):∀ (r:Nat) {c:Nat},c∈rows.map (·.c)->0 < (gP rows r c).length
 | 0,c,hc=>by show 0 < [c].length;simp
 | r+1,c,hc=>by
   obtain⟨h1,h2,_⟩:=l9 ok hc
   show 0 < ((wordOf rows c).flatMap (gP rows r)).length
   cases hw:wordOf rows c with
   | nil=>rw[hw] at h2;simp at h2
   | cons y w=>
     have:=JK ok r (h1 y (by rw[hw];simp))
     rw[List.flatMap_cons,List.length_append];omega
noncomputable abbrev Pc:=Nat×Nat
noncomputable def tw (p:Pc):Dt:=.tup [.int ((p.1:Nat):Int),.str (sg p.2)]
noncomputable def flat (rows:List Row)(st:List Pc):List Nat:=st.flatMap fun p=>gP rows p.1 p.2
noncomputable def wp (r:Nat)(w:List Nat):List Pc:=w.map fun c=>(r,c)
theorem BD (rows:List Row)(a b:List Pc):flat rows (a ++ b)=flat rows a ++ flat rows b:=List.flatMap_append
theorem zE (rows:List Row)(r:Nat)(w:List Nat):flat rows (wp r w)=w.flatMap (gP rows r):=by unfold flat wp;rw[List.flatMap_map]
theorem UQ (rows:List Row)(p:Pc):flat rows [p]=gP rows p.1 p.2:=by unfold flat;simp
theorem xR (rows:List Row)(p:Pc)(st:List Pc):flat rows (p::st)=gP rows p.1 p.2 ++ flat rows st:=by unfold flat;rw[List.flatMap_cons]
structure PS where
 place:Nat
 st:List Pc
 bt:List Pc
noncomputable def nZ (rows:List Row)(b e:Nat)(s:PS):PS:=match s.st with
 | []=>s
 | p::st=>
   if s.place+(gP rows p.1 p.2).length<=b then ⟨s.place+(gP rows p.1 p.2).length,st,s.bt⟩
   else if b<=s.place/\s.place+(gP rows p.1 p.2).length<=e then ⟨s.place+(gP rows p.1 p.2).length,st,s.bt ++ [p]⟩
   else ⟨s.place,wp (p.1 - 1) (wordOf rows p.2) ++ st,s.bt⟩
noncomputable def run (rows:List Row)(b e:Nat)(s:PS):Nat->PS
 | 0=>s
 | k+1=>nZ rows b e (run rows b e s k)
theorem JL (rows:List Row)(b e:Nat)(s:PS):∀ k,run rows b e s (k+1)=run rows b e (nZ rows b e s) k
 | 0=>rfl
 | k+1=>by
   show nZ rows b e (run rows b e s (k+1))=nZ rows b e (run rows b e (nZ rows b e s) k)
   rw[JL rows b e s k]
structure RK (rows:List Row)(age b e:Nat)(W:List Nat)(s:PS):Prop where
 be:b<=e
 ew:e<=W.length
 pe:s.place<=e
 fl:flat rows s.st=W.drop s.place
 fb:flat rows s.bt=(W.take s.place).drop b
 mb:∀ p∈s.st,p.2∈rows.map (·.c)/\p.1<=age
 mt:∀ p∈s.bt,p.2∈rows.map (·.c)/\p.1<=age
noncomputable def ins (b p q:Nat):Nat:=if p < b/\b < q then 1 else 0
theorem JM (b p q:Nat):ins b p q<=1:=by unfold ins;split <;> omega
theorem Ez (b:Nat){p q r:Nat}(h1:p<=q)(h2:q<=r):ins b p q+ins b q r<=ins b p r:=by
 unfold ins
 split <;> split <;> split <;> omega
noncomputable def mu (rows:List Row)(b e:Nat):Nat->List Pc->Nat
 | _,[]=>0
 | p,x::st=>1+8 * x.1 * (ins b p (p+(gP rows x.1 x.2).length)+ins e p (p+(gP rows x.1 x.2).length))+mu rows b e (p+(gP rows x.1 x.2).length) st
theorem JN (rows:List Row)(b e:Nat):∀ (p:Nat) (st:List Pc),st.length<=mu rows b e p st
 | _,[]=>Nat.le_refl 0
 | p,x::st=>by
   have:=JN rows b e (p+(gP rows x.1 x.2).length) st
   rw[mu,List.length_cons];omega
theorem JO (rows:List Row)(b e r:Nat)(st:List Pc):∀ (p:Nat) (w:List Nat),mu rows b e p (wp r w ++ st)<=w.length+8 * r * (ins b p (p+(flat rows (wp r w)).length)+ins e p (p+(flat rows (wp r w)).length))+mu rows b e (p+(flat rows (wp r w)).length) st
 | p,[]=>by
   show mu rows b e p st<=_
   have:p+(flat rows (wp r [])).length=p:=rfl
   rw[this];omega
 | p,c::w=>by
   have ih:=JO rows b e r st (p+(gP rows r c).length) w
   have el:p+(flat rows (wp r (c::w))).length=p+(gP rows r c).length+(flat rows (wp r w)).length:=by
     show p+(flat rows ((r,c)::wp r w)).length=_
     rw[xR,List.length_append];exact(Nat.add_assoc _ _ _).symm
   rw[el]
   have c1:=Ez b (Nat.le_add_right p (gP rows r c).length) (Nat.le_add_right (p+(gP rows r c).length) (flat rows (wp r w)).length)
   have c2:=Ez e (Nat.le_add_right p (gP rows r c).length) (Nat.le_add_right (p+(gP rows r c).length) (flat rows (wp r w)).length)
   have m:=Nat.mul_le_mul_left (8 * r) (Nat.add_le_add c1 c2)
   have m2:8 * r * (ins b p (p+(gP rows r c).length)+ins e p (p+(gP rows r c).length))+8 * r * (ins b (p+(gP rows r c).length) (p+(gP rows r c).length+(flat rows (wp r w)).length)+ins e (p+(gP rows r c).length) (p+(gP rows r c).length+(flat rows (wp r w)).length))<=8 * r * (ins b p (p+(gP rows r c).length+(flat rows (wp r w)).length)+ins e p (p+(gP rows r c).length+(flat rows (wp r w)).length)):=by
     rw[<- Nat.mul_add]
     refine Nat.le_trans (Nat.mul_le_mul_left _ ?_) m
     omega
   show mu rows b e p ((r,c)::(wp r w ++ st))<=_
   rw[mu,List.length_cons]
   show 1+8 * r * (ins b p (p+(gP rows r c).length)+ins e p (p+(gP rows r c).length))+mu rows b e (p+(gP rows r c).length) (wp r w ++ st)<=_
   omega
theorem C9 {rows:List Row}(ok:cN rows){age b e:Nat}{W:List Nat}{s:PS}(I:RK rows age b e W s)(hp:s.place < e):RK rows age b e W (nZ rows b e s)/\mu rows b e (nZ rows b e s).place (nZ rows b e s).st < mu rows b e s.place s.st/\(nZ rows b e s).bt.length+mu rows b e (nZ rows b e s).place (nZ rows b e s).st<=s.bt.length+mu rows b e s.place s.st/\∃ p st,s.st=p::st/\(¬ s.place+(gP rows p.1 p.2).length<=b->¬ (b<=s.place/\s.place+(gP rows p.1 p.2).length<=e)->0 < p.1):=by
 obtain⟨be,ew,pe,fl,fb,mb,mt⟩:=I
 obtain⟨place,st,bt⟩:=s
 simp only at pe fl fb mb mt hp ⊢
 cases st with
 | nil=>
   have:=congrArg List.length fl
   rw[List.length_drop] at this
   have z:(flat rows []).length=0:=rfl
   omega
 | cons p st=>
   rw[xR] at fl
   have UR:=JK ok p.1 (mb p (by simp)).1
   have m7:∀ x∈st,x.2∈rows.map (·.c)/\x.1<=age:=fun x hx=>mb x (by simp[hx])
   have hlen:=congrArg List.length fl
   rw[List.length_drop,List.length_append] at hlen
   have Z1:flat rows st=W.drop (place+(gP rows p.1 p.2).length):=by
     rw[<- List.drop_drop,<- fl,List.drop_left]
   have ft:W.take (place+(gP rows p.1 p.2).length)=W.take place ++ gP rows p.1 p.2:=by
     rw[List.take_add,<- fl,List.take_left]
   have AS:(¬ place+(gP rows p.1 p.2).length<=b->¬ (b<=place/\place+(gP rows p.1 p.2).length<=e)->0 < p.1):=fun h1 h2=>by
     rcases Nat.eq_zero_or_pos p.1 with z | z
     . rw[z] at h1 h2
       have e1:(gP rows 0 p.2).length=1:=rfl
       rw[e1] at h1 h2
       omega
     . exact z
   refine⟨?_,?_,?_,p,st,rfl,AS⟩
   . unfold nZ
     simp only
     split
     . rename_i h
       refine⟨be,ew,by show place+_<=e;omega,Z1,?_,m7,mt⟩
       have n1:(W.take place).drop b=[]:=List.drop_eq_nil_of_le (by rw[List.length_take];omega)
       have n2:(W.take (place+(gP rows p.1 p.2).length)).drop b=[]:=List.drop_eq_nil_of_le (by rw[List.length_take];omega)
       show flat rows bt=(W.take (place+(gP rows p.1 p.2).length)).drop b
       rw[fb,n1,n2]
     . split
       . rename_i h1 h2
         refine⟨be,ew,h2.2,Z1,?_,m7,fun x hx=>?_⟩
         . show flat rows (bt ++ [p])=(W.take (place+(gP rows p.1 p.2).length)).drop b
           rw[BD,UQ,fb,ft,List.drop_append_of_le_length (by rw[List.length_take];omega)]
         . rcases List.mem_append.mp hx with hx | hx
           . exact mt x hx
           . have:x=p:=by simpa using hx
             rw[this];exact mb p (by simp)
       . rename_i h1 h2
         have hz:=AS h1 h2
         refine⟨be,ew,pe,?_,fb,fun x hx=>?_,mt⟩
         . show flat rows (wp (p.1 - 1) (wordOf rows p.2) ++ st)=_
           rw[BD,zE,<- fl]
           congr 1
           obtain⟨r,hr⟩:∃ r,p.1=r+1:=⟨p.1 - 1,by omega⟩
           rw[hr];rfl
         . rcases List.mem_append.mp hx with hx | hx
           . obtain⟨y,hy,rfl⟩:=List.mem_map.mp hx
             exact⟨(l9 ok (mb p (by simp)).1).1 y hy,by have:=(mb p (by simp)).2;show p.1 - 1<=age;omega⟩
           . exact m7 x hx
   all_goals
     unfold nZ
     simp only
     rw[mu]
     split
     . show _;simp only;omega
     . split
       . simp only[List.length_append,List.length_singleton];omega
       . rename_i h1 h2
         have hz:=AS h1 h2
         have hw8:=(l9 ok (mb p (by simp)).1).2.2
         have key:=JO rows b e (p.1 - 1) st place (wordOf rows p.2)
         have ef:(flat rows (wp (p.1 - 1) (wordOf rows p.2))).length=(gP rows p.1 p.2).length:=by
           rw[zE]
           obtain⟨r,hr⟩:∃ r,p.1=r+1:=⟨p.1 - 1,by omega⟩
           rw[hr];rfl
         rw[ef] at key
         have hI:1<=ins b place (place+(gP rows p.1 p.2).length)+ins e place (place+(gP rows p.1 p.2).length):=by
           unfold ins
           split <;> split <;> omega
         generalize ins b place (place+(gP rows p.1 p.2).length)+ins e place (place+(gP rows p.1 p.2).length)=J at key hI ⊢
         have m:8+8 * (p.1 - 1) * J<=8 * p.1 * J:=by
           obtain⟨r,hr⟩:∃ r,p.1=r+1:=⟨p.1 - 1,by omega⟩
           rw[hr,Nat.add_sub_cancel,Nat.mul_add,Nat.add_mul]
           omega
         simp only
         omega
theorem Dc {rows:List Row}(ok:cN rows){age b e:Nat}{W:List Nat}{s:PS}(I:RK rows age b e W s){n:Nat}(h:∀ k,k < n->(run rows b e s k).place < e):∀ k,k<=n->RK rows age b e W (run rows b e s k)/\(run rows b e s k).bt.length+mu rows b e (run rows b e s k).place (run rows b e s k).st<=s.bt.length+mu rows b e s.place s.st
 | 0,_=>⟨I,Nat.le_refl _⟩
 | k+1,hk=>by
   obtain⟨i1,i2⟩:=Dc ok I h k (by omega)
   obtain⟨j1,_,j3,_⟩:=C9 ok i1 (h k (by omega))
   exact⟨j1,Nat.le_trans j3 i2⟩
theorem BE {rows:List Row}(ok:cN rows){age b e:Nat}{W:List Nat}:∀ (m:Nat) {s:PS},RK rows age b e W s->mu rows b e s.place s.st<=m->∃ n,e<=(run rows b e s n).place/\∀ k,k < n->(run rows b e s k).place < e
 | m,s,I,hm=>by
   by_cases hp:s.place < e
   . obtain⟨j1,j2,_⟩:=C9 ok I hp
     cases m with
     | zero=>omega
     | succ m=>
       obtain⟨n,h1,h2⟩:=BE ok m j1 (by omega)
       refine⟨n+1,by rw[JL];exact h1,fun k hk=>?_⟩
       cases k with
       | zero=>exact hp
       | succ k=>rw[JL];exact h2 k (by omega)
   . exact⟨0,by show e<=s.place;omega,fun k hk=>by omega⟩
noncomputable def F0 (rows:List Row)(w:List Nat)(age:Nat):List Nat:=w.flatMap (gP rows age)
noncomputable def wZ (w:List Nat)(age:Nat):PS:=⟨0,wp age w,[]⟩
theorem Dd {rows:List Row}{w:List Nat}(ok:nv rows w){age b e:Nat}(be:b<=e)(ew:e<=(F0 rows w age).length):RK rows age b e (F0 rows w age) (wZ w age):=
 ⟨be,ew,Nat.zero_le _,zE rows age w,by show []=(List.take 0 _).drop b;simp,fun p hp=>by
   obtain⟨y,hy,rfl⟩:=List.mem_map.mp hp
   exact⟨ok.wm y hy,Nat.le_refl _⟩,fun p hp=>by cases hp⟩
theorem JP {rows:List Row}{w:List Nat}(ok:nv rows w){age b e:Nat}(ha:age<=200):mu rows b e (wZ w age).place (wZ w age).st<=4000:=by
 have key:=JO rows b e age [] 0 w
 rw[List.append_nil] at key
 have w8:=ok.w8
 have i1:=JM b 0 (0+(flat rows (wp age w)).length)
 have i2:=JM e 0 (0+(flat rows (wp age w)).length)
 have m:8 * age * (ins b 0 (0+(flat rows (wp age w)).length)+ins e 0 (0+(flat rows (wp age w)).length))<=8 * 200 * 2:=Nat.mul_le_mul (by omega) (by omega)
 have z:mu rows b e (0+(flat rows (wp age w)).length) []=0:=rfl
 show mu rows b e 0 (wp age w)<=4000
 omega
theorem EC {rows:List Row}{w:List Nat}(ok:nv rows w)(age:Nat):(((F0 rows w age).length:Nat):Int)=Yk rows w age:=v7 fun y hy=>C8 ok.ok age (ok.wm y hy)
noncomputable def Q4:Rl:=fun ds r=>∃ (w:List Nat) (n:Nat),ds=[.str (tx w),.int ((n:Nat):Int)]/\w.length<=1000/\r=.own (.lst ((wp n w).reverse.map tw))
noncomputable abbrev Q5:Stmt->Scope
 | .Return (some (.ListComp _ _ sc _)) _=>sc
 | _=>af (.Pass ⟨0,0,0,0⟩)
noncomputable abbrev US:Scope:=Q5 ((aD dZ).getD 0 (.Pass ⟨0,0,0,0⟩))
theorem NW:iY US (af dZ) lZ ["letter","rounds"] ["letter"] [1]=true:=by decide +kernel
noncomputable def JQ (t:dN):Rl:=fun ds r=>∃ six rows w l ls N age b e n,ds=[.obj t.ar (t.iW six rows w l ls N),.int ((age:Nat):Int),.int ((b:Nat):Int),.int ((e:Nat):Int)]/\(nv rows w/\ls.map (·.2)=p9 rows/\age < N/\N<=1000/\age<=200)/\(b<=e/\e<=(F0 rows w age).length)/\(e<=(run rows b e (wZ w age) n).place/\∀ k,k < n->(run rows b e (wZ w age) k).place < e) /\
 r=.own (.lst ((run rows b e (wZ w age) n).bt.map tw))
theorem MO (T:Txt K mg t):GF P w K mg base CX 1 "waiting_pieces" 2 Q4:=by
 refine⟨_,_,_,iq T.cU.F qD rfl fun bg A outer s H E G ds r hr hl hR=>?_,(T.g T.cU.a),T.cU.F.kp,T.cU.b⟩
 obtain⟨wd,n,rfl,hw,rfl⟩:=hR
 have e1:(wd.reverse.map fun x=>Dt.str (sg x))=(Sg.signs (tx wd)).reverse:=by rw[<- gd,List.map_reverse]
 have e2:((wd.reverse.filter fun _=>true).map fun x=>Dt.tup [.int ((n:Nat):Int),.str (sg x)])=(wp n wd).reverse.map tw:=by
   rw[List.filter_eq_self.mpr (fun _ _=>rfl)]
   unfold wp
   rw[<- List.map_reverse,List.map_map];rfl
 exact⟨_,.ro _,ao (lg (Ay (iu wd.reverse (fun x=>Dt.str (sg x)) (fun x=>Dt.tup [.int ((n:Nat):Int),.str (sg x)]) (fun x=>[.val (.str (sg x))]) (fun _=>true) rfl (cQ NW) (LP T.p7 (ae (aa 0 rfl) aj)) (cW (cQ NW) rfl) (e9 (FC (by rw[ij];omega)) e1) (fun a _=>dM) (.nil fun _ _=>rfl)
   (fun a ha _ C fp s' H' G'=>b7 (ae (aa 1 rfl) (ae (aa 0 rfl) aj)) AA3) (r0 (by rw[List.length_reverse];omega))) (congrArg Own.lst e2)))⟩
theorem F1 (T:Txt K mg t):MF P w K mg base CX 4 t.ar "pieces" 4 (JQ t):=by
 refine⟨T.aM.cl,_,_,_,iq T.g9.F l2 rfl fun bg A outer s H E G ds r hr hl hR=>?_,T.eu,T.g9.b⟩
 obtain⟨six,rows,wd,l,ls,N,age,b,e,n,rfl,⟨ok,oH,hN,hN1,kO⟩,⟨tF,MP⟩,⟨hen,de⟩,rfl⟩:=hR
 have JR:=MO (P:=P) (w:=w) (base:=base) T
 have vV:=vM (P:=P) (w:=w) (base:=base) T
 have nd:=l2.nd
 have hu:(A.deeper (envOfC "Growth.pieces" (af gI) s.heap.objs.size t.cD bg)).units+1 < cLine:=by have:=hr.units;omega
 have w8:=ok.w8
 let R:Nat->PS:=run rows b e (wZ wd age)
 have PL:=Dc ok.ok (Dd ok tF MP) de
 have h0:(wZ wd age).bt.length+mu rows b e (wZ wd age).place (wZ wd age).st<=4000:=by
   have:=JP ok (b:=b) (e:=e) kO
   show 0+_<=_;omega
 have hsz:∀ k,k<=n->(R k).bt.length<=4000/\(R k).st.length<=4000:=fun k hk=>by
   have h1:=(PL k hk).2
   have h2:=JN rows b e (run rows b e (wZ wd age) k).place (run rows b e (wZ wd age) k).st
   exact⟨by show(run rows b e (wZ wd age) k).bt.length<=4000;omega,by show(run rows b e (wZ wd age) k).st.length<=4000;omega⟩
 have Z2:∀ {m:Nat},m<=8000->m < sizeLine:=fun h=>Nat.lt_of_le_of_lt h (by decide)
 let sf:Dt:=.obj t.ar (t.iW six rows wd l ls N)
 let S:Nat->List Slot:=fun k=>[.val sf,.val (.int ((age:Nat):Int)),.val (.int ((b:Nat):Int)),.val (.int ((e:Nat):Int)),.own (.lst ((R k).bt.map tw)),.own (.lst ((R k).st.reverse.map tw)),.val (.int (((R k).place:Nat):Int)),.bw,.bw,.bw]
 refine⟨_,.ro _,ai (j4 4 nd (rB aj AA3)) (ai (j4 5 nd (AF JR ay hr (ae (aG (fs:=t.iW six rows wd l ls N) (aa 0 rfl) T.aM.cl T.fN rfl) (ae (aa 1 rfl) aj)) ⟨wd,age,rfl,by omega,rfl⟩))
   (ai (ax 6 nd ah) (ai (dl1:=S n) (Ho S n PassesOwn.leaving (Le.of ⟨rfl,rfl,rfl,rfl,rfl,rfl,rfl,trivial⟩) (fun k hk=>dq (Av (aa 6 rfl) (aa 3 rfl)) (decide_eq_true ?c1)) (dq (Av (aa 6 rfl) (aa 3 rfl)) (decide_eq_false ?c2)) (fun k hk=>?body)) (ao (Lf 4)))))⟩
 case c1=>have:=de k hk;show(((run rows b e (wZ wd age) k).place:Nat):Int) < _;omega
 case c2=>show ¬ (((run rows b e (wZ wd age) n).place:Nat):Int) < _;omega
 case body=>
   have Vq:=de k hk
   obtain⟨Ik,_⟩:=PL k (Nat.le_of_lt hk)
   obtain⟨_,_,_,p,st,es,AS⟩:=C9 ok.ok Ik Vq
   have eR:R (k+1)=nZ rows b e (R k):=rfl
   obtain⟨Gd,z8⟩:=hsz k (Nat.le_of_lt hk)
   have KA:(R k).st=p::st:=es
   have Gg:=Ik.mb p (by rw[es];simp)
   have UR:p.1 < N:=by omega
   have hg:=C8 ok.ok p.1 Gg.1
   have Yn:(R k).st.reverse.map tw=st.reverse.map tw ++ [tw p]:=by rw[KA,List.reverse_cons,List.map_append];rfl
   have acD:st.length<=4000:=by have:=congrArg List.length KA;rw[List.length_cons] at this;omega
   let q:Nat:=(R k).place+(gP rows p.1 p.2).length
   have eq:(((R k).place:Nat):Int)+lT rows p.1 p.2=((q:Nat):Int):=by rw[<- hg];show _=(((R k).place+(gP rows p.1 p.2).length:Nat):Int);omega
   let U:List Slot:=[.val sf,.val (.int ((age:Nat):Int)),.val (.int ((b:Nat):Int)),.val (.int ((e:Nat):Int)),.own (.lst ((R k).bt.map tw)),.own (.lst (st.reverse.map tw)),.val (.int (((R k).place:Nat):Int)),.val (tw p),.val (.int ((p.1:Nat):Int)),.val (.int ((q:Nat):Int))]
   have hS:S k=[.val sf,.val (.int ((age:Nat):Int)),.val (.int ((b:Nat):Int)),.val (.int ((e:Nat):Int)),.own (.lst ((R k).bt.map tw)),.own (.lst (st.reverse.map tw ++ [tw p])),.val (.int (((R k).place:Nat):Int)),.bw,.bw,.bw]:=by
     show [_,_,_,_,_,Slot.own (.lst ((R k).st.reverse.map tw)),_,_,_,_]=_
     rw[Yn]
   rw[hS]
   refine .nx (dl':=[.val sf,.val (.int ((age:Nat):Int)),.val (.int ((b:Nat):Int)),.val (.int ((e:Nat):Int)),.own (.lst ((R (k+1)).bt.map tw)),.own (.lst ((R (k+1)).st.reverse.map tw)),.val (.int (((R (k+1)).place:Nat):Int)),.val (tw p),.val (.int ((p.1:Nat):Int)),.val (.int ((q:Nat):Int))]) (ai (Qj (ds:=st.reverse.map tw) (d:=tw p) 7 5 nd rfl) (ai (ax 8 nd (av (aa 7 rfl) ah rfl)) (ai (dl1:=U) (ax 9 nd (bP (aI (aa 6 rfl) (jD hu (vd (n:=N) (j:=1) (f:=wX rows) (aG (fs:=t.iW six rows wd l ls N) (aa 0 rfl) T.aM.cl T.bS rfl) (aa 8 rfl) (by rw[oH];rfl) UR hN1) (av (aa 7 rfl) ah rfl) (by rw[MB];exact ju Gg.1) (fun _ _=>rfl))) (congrArg Dt.int eq)))
     (ao (bQ (u:=decide (q<=b)) (dq (sA (aa 9 rfl) (aa 2 rfl)) (decide_eq_decide.mpr (Int.ofNat_le (m:=q) (n:=b)))) (fun h=>?b1) (fun h=>ao (bQ (u:=decide (b<=(R k).place/\q<=e)) ?cc (fun h'=>?b2) (fun h'=>?b3)))))))) (Le.of ⟨rfl,rfl,rfl,rfl,rfl,rfl,rfl,trivial⟩)
   case b1=>
     have h:q<=b:=of_decide_eq_true h
     have e1:R (k+1)=⟨q,st,(R k).bt⟩:=by rw[eR];unfold nZ;rw[KA];exact if_pos h
     rw[e1]
     exact ao (ax 6 nd (aa 9 rfl))
   case cc=>
     by_cases h1:b<=(R k).place
     . by_cases h2:q<=e
       . rw[decide_eq_true (⟨h1,h2⟩:b<=(R k).place/\q<=e)]
         exact uS (uR (u:=true) (v:=true) (dq (sA (aa 2 rfl) (aa 6 rfl)) (decide_eq_true (by omega))) fun _=>yd (dq (sA (aa 9 rfl) (aa 3 rfl)) (decide_eq_true (by omega))))
       . rw[decide_eq_false (fun z:b<=(R k).place/\q<=e=>h2 z.2)]
         exact uS (uR (u:=true) (v:=false) (dq (sA (aa 2 rfl) (aa 6 rfl)) (decide_eq_true (by omega))) fun _=>yd (dq (sA (aa 9 rfl) (aa 3 rfl)) (decide_eq_false (by omega))))
     . rw[decide_eq_false (fun z:b<=(R k).place/\q<=e=>h1 z.1)]
       exact uS (uR (u:=false) (v:=false) (dq (sA (aa 2 rfl) (aa 6 rfl)) (decide_eq_false (by omega))) fun z=>nomatch z)
   case b2=>
     have h:¬ q<=b:=of_decide_eq_false h
     have h':=of_decide_eq_true h'
     have e1:R (k+1)=⟨q,st,(R k).bt ++ [p]⟩:=by rw[eR];unfold nZ;rw[KA];exact(if_neg h).trans (if_pos h')
     rw[e1]
     show me _ _ _ _ _ (.nx [_,_,_,_,.own (.lst (((R k).bt ++ [p]).map tw)),_,_,_,_,_])
     rw[List.map_append]
     exact ai (xp (ds:=(R k).bt.map tw) 4 (aa 7 rfl) (by rw[List.length_map];exact Z2 (by omega))) (ao (ax 6 nd (aa 9 rfl)))
   case b3=>
     have h:¬ q<=b:=of_decide_eq_false h
     have h':=of_decide_eq_false h'
     have hz:=AS h h'
     have e1:R (k+1)=⟨(R k).place,wp (p.1 - 1) (wordOf rows p.2) ++ st,(R k).bt⟩:=by rw[eR];unfold nZ;rw[KA];exact(if_neg h).trans (if_neg h')
     rw[e1]
     have hw:=l9 ok.ok Gg.1
     show me _ _ _ _ _ (.nx [_,_,_,_,_,.own (.lst ((wp (p.1 - 1) (wordOf rows p.2) ++ st).reverse.map tw)),_,_,_,_])
     rw[List.reverse_append,List.map_append]
     exact ao (Fn (ds:=st.reverse.map tw) 5 (jB (AF JR ay hr (ae (bB (fs:=t.xM six rows) (aG (fs:=t.iW six rows wd l ls N) (aa 0 rfl) T.aM.cl T.cE rfl) vV ay hr (ae (av (aa 7 rfl) ah rfl) aj) ⟨six,rows,p.2,rfl,ok.ok,Gg.1,rfl⟩) (ae (bP (hV (aa 8 rfl) ah) (congrArg Dt.int (show((p.1:Nat):Int) - 1=((p.1 - 1:Nat):Int) by omega))) aj)) ⟨wordOf rows p.2,p.1 - 1,rfl,by omega,rfl⟩)) (by
       rw[List.length_map,List.length_map,List.length_reverse,List.length_reverse]
       show st.length+((wordOf rows p.2).map fun c=>(p.1 - 1,c)).length<=_
       rw[List.length_map]
       exact Nat.le_of_lt (Z2 (by omega))))
noncomputable def grow (rows:List Row)(w:List Nat):List Nat:=(w.map (wordOf rows)).flatten
noncomputable abbrev BF (t:dN)(six:Bool)(rows:List Row)(w:List Nat)(l:Addr)(ls:jL)(n:Nat):Dt:=.obj t.ar (t.iW six rows w l ls n)
noncomputable def Yo (t:dN):Rl:=fun ds r=>∃ six rows w l ls n age z,ds=[BF t six rows w l ls n,.int ((age:Nat):Int),.int z]/\nv rows w/\ls.map (·.2)=p9 rows/\age<=200/\(0<=z/\z<=((F0 rows w age).length:Nat))/\r=.ret .cP
noncomputable def Yp (t:dN):Rl:=fun ds r=>∃ six rows w l ls n age,∃ b e:Nat,ds=[BF t six rows w l ls n,.int ((age:Nat):Int),.int (b:Int),.int (e:Int)]/\nv rows w/\ls.map (·.2)=p9 rows/\age<=200/\(b<=e/\e<=(F0 rows w age).length)/\r=.ret (.tM l ls (age+1))
noncomputable def cut (W:List Nat)(b e:Nat):List Nat:=(W.take e).drop b
theorem UT (T:Txt K mg t):MF P w K mg base CX 7 t.ar "check_place" 3 (Yo t):=by
 refine⟨T.aM.cl,_,_,_,iq T.dB.F ni rfl fun bg A outer s H E G ds r hr hl hR=>?_,T.cG,T.dB.b⟩
 obtain⟨six,rows,wd,l,ls,n,age,z,rfl,ok,oH,kO,hz,rfl⟩:=hR
 have JS:=Eu (P:=P) (w:=w) (base:=base) T
 have e:=EC ok age
 exact⟨_,.nx _,ao (bQ (u:=false) (uS (pk (u:=false) (v:=false) (dq (Av (aa 2 rfl) ah) (decide_eq_false (by omega))) fun _=>(pK (dq (Aw (aa 2 rfl) (bB (fs:=t.iW six rows wd l ls n) (aa 0 rfl) JS ay hr (ae (aa 1 rfl) aj) ⟨six,rows,wd,l,ls,n,age,rfl,ok,oH,kO,rfl⟩)) (decide_eq_false (by omega)))))) (fun h=>nomatch h) (fun h=>bZ))⟩
theorem UU (T:Txt K mg t):MF P w K mg base CX 8 t.ar "check_stretch" 4 (Yp t):=by
 refine⟨T.aM.cl,_,_,_,iq T.cM.F l1 rfl fun bg A outer s H E G ds r hr hl hR=>?_,T.cf,T.cM.b⟩
 obtain⟨six,rows,wd,l,ls,n,age,b,e,rfl,ok,oH,kO,⟨tF,MP⟩,rfl⟩:=hR
 have Jx:=By (P:=P) (w:=w) (base:=base) T
 have UW:=UT (P:=P) (w:=w) (base:=base) T
 have e2:ls.length=2:=by have:=congrArg List.length oH;simpa [p9] using this
 exact⟨_,oG (nm:=["tallies","lengths"]) (tl:=[.val (.int ((age:Nat):Int)),.val (.int (b:Int)),.val (.int (e:Int))]) (by rw[e2];exact Nat.le_refl 2),ai (nK (m:=age+1) (tl:=[.val (.int ((age:Nat):Int)),.val (.int (b:Int)),.val (.int (e:Int))]) (bB (fs:=t.iW six rows wd l ls n) (aa 0 rfl) Jx ay hr (ae (aa 1 rfl) aj) ⟨six,rows,wd,l,ls,n,age,rfl,ok,oH,by omega,rfl⟩))
   (ai (oi (bB (fs:=t.iW six rows wd l ls (age+1)) (aa 0 rfl) UW ay hr (ae (aa 1 rfl) (ae (aa 2 rfl) aj)) ⟨six,rows,wd,l,ls,_,age,b,rfl,ok,oH,kO,⟨by omega,by omega⟩,rfl⟩))
   (ai (bQ (u:=false) (dq (Av (aa 3 rfl) (aa 2 rfl)) (decide_eq_false (by omega))) (fun h=>nomatch h) (fun h=>bZ))
   (ao (oi (bB (fs:=t.iW six rows wd l ls (age+1)) (aa 0 rfl) UW ay hr (ae (aa 1 rfl) (ae (aa 3 rfl) aj)) ⟨six,rows,wd,l,ls,_,age,e,rfl,ok,oH,kO,⟨by omega,by omega⟩,rfl⟩)))))⟩
theorem De (six:Bool)(w:Int)(p q:Int×Int):iV six w (ad p q)=iV six w p+iV six w q:=by
 unfold iV ad
 cases six
 . simp only[Bool.false_eq_true,if_false]
   split
   . rfl
   . split
     . rfl
     . split <;> omega
 . simp only[if_true]
   split
   . omega
   . split
     . omega
     . split
       . omega
       . split
         . omega
         . split <;> omega
theorem BG (six:Bool){w:Nat}(h:w < wn six)(b:Int)(p:Int×Int):iV six (((w:Int) - b) % wy six) p=iV six w (tn six (b % wy six).toNat p):=by
 have hw:=qQ six
 have h0:=Int.emod_nonneg ((w:Int) - b) (Int.ne_of_gt (fe six))
 have h1:=Int.emod_lt_of_pos ((w:Int) - b) (fe six)
 have k:=Ja six h0 h1 b p
 rw[<- k]
 congr 1
 cases six with
 | false=>show(((w:Int) - b) % 4+b) % 4=w;have:w < 4:=h;omega
 | true=>show(((w:Int) - b) % 6+b) % 6=w;have:w < 6:=h;omega
theorem v8 (six:Bool)(ns:List Int)(f:Int){w:Nat}(h:w < wn six):(nu six ns f).getD w 0=ns.getD (((w:Int) - f) % wy six).toNat 0:=by
 unfold nu
 rw[List.getD_eq_getElem?_getD,List.getElem?_map,List.getElem?_range h];rfl
theorem zF (six:Bool)(w:Nat)(b:Int):(((w:Int) - b) % wy six).toNat < wn six/\((((w:Int) - b) % wy six).toNat:Int)=((w:Int) - b) % wy six:=by
 have hw:=qQ six
 have h0:=Int.emod_nonneg ((w:Int) - b) (Int.ne_of_gt (fe six))
 have h1:=Int.emod_lt_of_pos ((w:Int) - b) (fe six)
 omega
theorem kZ {f:Nat->Int}{n k:Nat}(h:k < n):((List.range n).map f).getD k 0=f k:=by
 rw[List.getD_eq_getElem?_getD,List.getElem?_map,List.getElem?_range h];rfl
noncomputable def Q6 (p q:Int):Int:=if q<=p then p else q
theorem jK (six:Bool)(x y:Tr){w:Nat}(h:w < wn six):(jn six x y).reach.getD w 0=Q6 (x.reach.getD w 0) (y.reach.getD (((w:Int) - x.turn) % wy six).toNat 0+iV six w x.shift):=by
 show((List.range (wn six)).map (o7 six x y)).getD w 0=_
 rw[kZ h]
 unfold o7 Q6
 rw[v8 six _ _ h]
theorem ma (six:Bool)(x y:Tr){w:Nat}(h:w < wn six):(jn six x y).aL.getD w 0=if y.reach.getD (((w:Int) - x.turn) % wy six).toNat 0+iV six w x.shift<=x.reach.getD w 0 then x.aL.getD w 0 else y.aL.getD (((w:Int) - x.turn) % wy six).toNat 0+x.many:=by
 show((List.range (wn six)).map (p8 six x y)).getD w 0=_
 rw[kZ h]
 unfold p8
 rw[v8 six _ _ h,v8 six _ _ h]
theorem JT (six:Bool):∀ (n:Nat) (p q:Int×Int),tn six n (ad p q)=ad (tn six n p) (tn six n q)
 | 0,p,q=>rfl
 | n+1,p,q=>by
   rw[tn,tn,tn,JT six n]
   generalize tn six n p=a
   generalize tn six n q=b
   cases six
   . simp only[Pf.tl,ad,Bool.false_eq_true,if_false];refine Prod.ext ?_ ?_ <;> simp only <;> omega
   . simp only[Pf.tl,ad,if_true];refine Prod.ext ?_ ?_ <;> simp only <;> omega
theorem Df (six:Bool)(p:Int×Int)(b:Nat):∀ a:Nat,tn six (a+b) p=tn six a (tn six b p)
 | 0=>by rw[Nat.zero_add];rfl
 | a+1=>by
   rw[Nat.succ_add]
   show Pf.tl six (tn six (a+b) p)=Pf.tl six (tn six a (tn six b p))
   rw[Df six p b a]
theorem Q7 (six:Bool)(p:Int×Int):tn six (wn six) p=p:=by
 obtain⟨x,y⟩:=p
 cases six with
 | false=>show Pf.tl false (Pf.tl false (Pf.tl false (Pf.tl false (x,y))))=_;simp[Pf.tl]
 | true=>show Pf.tl true (Pf.tl true (Pf.tl true (Pf.tl true (Pf.tl true (Pf.tl true (x,y))))))=_;simp[Pf.tl];omega
theorem JU (six:Bool)(p:Int×Int)(r:Nat):∀ q:Nat,tn six (r+wn six * q) p=tn six r p
 | 0=>rfl
 | q+1=>by rw[Nat.mul_succ,<- Nat.add_assoc,Df,Q7,JU six p r q]
theorem JV (six:Bool)(a b:Int)(p:Int×Int):tn six (a % wy six).toNat (tn six (b % wy six).toNat p)=tn six (((a+b) % wy six) % wy six).toNat p:=by
 rw[<- Df,<- Nat.mod_add_div ((a % wy six).toNat+(b % wy six).toNat) (wn six),JU]
 congr 1
 have hw:=qQ six
 have hp:=fe six
 have h1:=Int.emod_nonneg a (Int.ne_of_gt hp)
 have h2:=Int.emod_nonneg b (Int.ne_of_gt hp)
 have e:((((a % wy six).toNat+(b % wy six).toNat) % wn six:Nat):Int)=((a+b) % wy six) % wy six:=by
   rw[Int.natCast_emod,hw,Int.natCast_add,Int.toNat_of_nonneg h1,Int.toNat_of_nonneg h2,Int.emod_emod,<- Int.add_emod]
 omega
theorem UX (six:Bool)(p q:Int×Int):cr (Pf.tl six p) (Pf.tl six q)=cr p q:=by
 unfold cr Pf.tl
 cases six
 . simp only[Bool.false_eq_true,if_false]
   have h1:-p.2 * q.1=-(p.2 * q.1):=Int.neg_mul _ _
   have h2:p.1 * -q.2=-(p.1 * q.2):=Int.mul_neg _ _
   omega
 . simp only[if_true]
   have h1:-p.2 * (q.1+q.2)=-(p.2 * q.1) - p.2 * q.2:=by rw[Int.neg_mul,Int.mul_add];omega
   have h2:(p.1+p.2) * -q.2=-(p.1 * q.2) - p.2 * q.2:=by rw[Int.mul_neg,Int.add_mul];omega
   omega
theorem NX (six:Bool):∀ (n:Nat) (p q:Int×Int),cr (tn six n p) (tn six n q)=cr p q
 | 0,_,_=>rfl
 | n+1,p,q=>by rw[tn,tn,UX,NX six n]
theorem MQ (p q r:Int×Int):cr p (ad q r)=cr p q+cr p r:=by
 unfold cr ad
 simp only[Int.mul_add];omega
theorem MR (p q r:Int×Int):cr (ad p q) r=cr p r+cr q r:=by
 unfold cr ad
 simp only[Int.add_mul];omega
theorem JW (p q r:Int×Int):ad p (ad q r)=ad (ad p q) r:=by
 unfold ad
 refine Prod.ext ?_ ?_ <;> simp only <;> omega
theorem list_eq {six:Bool}{a b:List Int}(ha:a.length=wn six)(hb:b.length=wn six)(h:∀ w,w < wn six->a.getD w 0=b.getD w 0):a=b:=by
 refine List.ext_getElem (by omega) fun i h1 h2=>?_
 have:=h i (by omega)
 rw[List.getD_eq_getElem?_getD,List.getD_eq_getElem?_getD,List.getElem?_eq_getElem h1,List.getElem?_eq_getElem h2] at this
 exact this
theorem se (six:Bool)(x y:Tr):(jn six x y).reach.length=wn six/\(jn six x y).aL.length=wn six:=by unfold jn;simp
theorem JX (six:Bool)(x y z:Tr):jn six x (jn six y z)=jn six (jn six x y) z:=by
 have key:∀ w,w < wn six->∃ v u:Nat,v < wn six/\u < wn six/\(((w:Int) - x.turn) % wy six).toNat=v/\(((v:Int) - y.turn) % wy six).toNat=u/\(((w:Int) - (x.turn+y.turn) % wy six) % wy six).toNat=u/\iV six w (tn six (x.turn % wy six).toNat y.shift)=iV six v y.shift:=by
   intro w hw
   obtain⟨h1,h2⟩:=zF six w x.turn
   obtain⟨h3,h4⟩:=zF six (((w:Int) - x.turn) % wy six).toNat y.turn
   refine⟨_,_,h1,h3,rfl,rfl,?_,?_⟩
   . rw[h2]
     cases six with
     | false=>show(((w:Int) - (x.turn+y.turn) % 4) % 4).toNat=(((w - x.turn) % 4 - y.turn) % 4).toNat;congr 1;omega
     | true=>show(((w:Int) - (x.turn+y.turn) % 6) % 6).toNat=(((w - x.turn) % 6 - y.turn) % 6).toNat;congr 1;omega
   . rw[h2,BG six hw]
 have hr:(jn six x (jn six y z)).reach=(jn six (jn six x y) z).reach:=by
   refine list_eq (se _ _ _).1 (se _ _ _).1 fun w hw=>?_
   obtain⟨v,u,hv,hu,e1,e2,e3,e4⟩:=key w hw
   rw[jK six _ _ hw,jK six _ _ hw,jK six _ _ hw,e1,jK six _ _ hv,e2]
   show _=Q6 _ (z.reach.getD (((w:Int) - (x.turn+y.turn) % wy six) % wy six).toNat 0+iV six w (ad x.shift (tn six (x.turn % wy six).toNat y.shift)))
   rw[e3,De,e4]
   unfold Q6
   split <;> split <;> split <;> (try split) <;> omega
 have ht:(jn six x (jn six y z)).aL=(jn six (jn six x y) z).aL:=by
   refine list_eq (se _ _ _).2 (se _ _ _).2 fun w hw=>?_
   obtain⟨v,u,hv,hu,e1,e2,e3,e4⟩:=key w hw
   rw[ma six _ _ hw,ma six (jn six x y) _ hw,ma six x y hw,jK six x y hw,e1,jK six _ _ hv,ma six _ _ hv,e2]
   show _=if z.reach.getD (((w:Int) - (x.turn+y.turn) % wy six) % wy six).toNat 0+iV six w (ad x.shift (tn six (x.turn % wy six).toNat y.shift))<=_ then _ else z.aL.getD (((w:Int) - (x.turn+y.turn) % wy six) % wy six).toNat 0+(x.many+y.many)
   rw[e3,De,e4]
   unfold Q6
   split <;> split <;> split <;> (try split) <;> (try split) <;> omega
 have e1:(jn six x (jn six y z)).turn=(jn six (jn six x y) z).turn:=by
   show(x.turn+(y.turn+z.turn) % wy six) % wy six=((x.turn+y.turn) % wy six+z.turn) % wy six
   rw[Int.add_emod_emod,Int.emod_add_emod,Int.add_assoc]
 have e2:(jn six x (jn six y z)).shift=(jn six (jn six x y) z).shift:=by
   show ad x.shift (tn six (x.turn % wy six).toNat (ad y.shift (tn six (y.turn % wy six).toNat z.shift)))=ad (ad x.shift (tn six (x.turn % wy six).toNat y.shift)) (tn six (((x.turn+y.turn) % wy six) % wy six).toNat z.shift)
   rw[JT,JV,JW]
 have e3:(jn six x (jn six y z)).iS=(jn six (jn six x y) z).iS:=by
   show x.iS+(y.iS+z.iS+cr y.shift (tn six (y.turn % wy six).toNat z.shift))+cr x.shift (tn six (x.turn % wy six).toNat (ad y.shift (tn six (y.turn % wy six).toNat z.shift)))
     = x.iS+y.iS+cr x.shift (tn six (x.turn % wy six).toNat y.shift)+z.iS+cr (ad x.shift (tn six (x.turn % wy six).toNat y.shift)) (tn six (((x.turn+y.turn) % wy six) % wy six).toNat z.shift)
   have q:=NX six (x.turn % wy six).toNat y.shift (tn six (y.turn % wy six).toNat z.shift)
   rw[JV] at q
   rw[JT,JV,MQ,MR,<- q]
   omega
 have e4:(jn six x (jn six y z)).many=(jn six (jn six x y) z).many:=(Int.add_assoc _ _ _).symm
 have e5:(jn six x (jn six y z)).cz=(jn six (jn six x y) z).cz:=(Int.add_assoc _ _ _).symm
 generalize jn six x (jn six y z)=a at hr ht e1 e2 e3 e4 e5
 generalize jn six (jn six x y) z=b at hr ht e1 e2 e3 e4 e5
 cases a;cases b
 simp only at hr ht e1 e2 e3 e4 e5
 subst hr ht e1 e2 e3 e4 e5
 rfl
noncomputable def BH (six:Bool)(xs:List Str)(k:Nat):Int×Int:=(bD six (xs.take k)).shift
theorem JY (six:Bool)(xs:List Str):0<=(bD six xs).turn/\(bD six xs).turn < wy six:=by
 by_cases h:xs=[]
 . subst h;exact⟨Int.le_refl _,fe six⟩
 . rw[<- List.dropLast_concat_getLast h,kX]
   exact⟨Int.emod_nonneg _ (Int.ne_of_gt (fe six)),Int.emod_lt_of_pos _ (fe six)⟩
noncomputable def rec (six:Bool)(xs:List Str)(w:Int):Nat->Int×Int
 | 0=>(0,0)
 | j+1=>if (rec six xs w j).1 < iV six w (BH six xs j) then (iV six w (BH six xs j),j) else rec six xs w j
theorem BI (six:Bool)(xs:List Str)(d:Str)(w:Int):∀ j,j<=xs.length+1->rec six (xs ++ [d]) w j=rec six xs w j
 | 0,_=>rfl
 | j+1,h=>by
   rw[rec,rec,BI six xs d w j (by omega)]
   have e:BH six (xs ++ [d]) j=BH six xs j:=by
     unfold BH
     rw[List.take_append_of_le_length (by omega)]
   rw[e]
theorem BJ (six:Bool)(w:Int):iV six w (0,0)=0:=by
 unfold iV
 cases six <;> simp
theorem ED (six:Bool){w:Nat}(hw:w < wn six):∀ (n:Nat) (xs:List Str),xs.length=n->rec six xs w (n+1)=((bD six xs).reach.getD w 0,(bD six xs).aL.getD w 0)/\iV six w (bD six xs).shift<=(bD six xs).reach.getD w 0:=by
 intro n
 induction n with
 | zero=>
   intro xs h
   have e:xs=[]:=List.eq_nil_of_length_eq_zero h
   subst e
   have e1:(bD six []).reach.getD w 0=0:=by
     show(List.replicate (wn six) (0:Int)).getD w 0=0
     rw[List.getD_eq_getElem?_getD,List.getElem?_replicate];split <;> rfl
   have e2:(bD six []).aL.getD w 0=0:=e1
   have e3:iV six w (BH six [] 0)=0:=BJ six w
   have e4:iV six w (bD six []).shift=0:=BJ six w
   rw[e1,e2,e4,rec,rec,e3]
   simp
 | succ n ih=>
   intro xs h
   have BV:xs≠[]:=fun e=>by rw[e] at h;cases h
   have e:=List.dropLast_concat_getLast BV
   have hl:xs.dropLast.length=n:=by rw[List.length_dropLast];omega
   generalize xs.getLast BV=d at e
   generalize xs.dropLast=ys at e hl
   subst e
   obtain⟨h1,h2⟩:=ih ys hl
   rw[rec,BI six ys d w (n+1) (by omega),h1]
   have es:BH six (ys ++ [d]) (n+1)=(bD six (ys ++ [d])).shift:=by
     unfold BH
     rw[List.take_of_length_le (by rw[List.length_append];simp;omega)]
   rw[es,kX,jK six _ _ hw,ma six _ _ hw]
   obtain⟨b1,b2⟩:=zF six w (bD six ys).turn
   have r1:(one six d).reach.getD (((w:Int) - (bD six ys).turn) % wy six).toNat 0=mU six d (((w:Int) - (bD six ys).turn) % wy six).toNat:=kZ b1
   have t1:(one six d).aL.getD (((w:Int) - (bD six ys).turn) % wy six).toNat 0=if mU six d (((w:Int) - (bD six ys).turn) % wy six).toNat < 1 then mU six d (((w:Int) - (bD six ys).turn) % wy six).toNat else 1:=kZ (f:=fun k=>if mU six d k < 1 then mU six d k else 1) b1
   rw[r1,t1]
   unfold mU
   rw[b2,BG six hw]
   have ec:iV six w (jn six (bD six ys) (one six d)).shift=iV six w (bD six ys).shift+iV six w (tn six ((bD six ys).turn % wy six).toNat (uw six d (0,0) 0).1):=De six w _ _
   rw[ec]
   have hm:=(Bs six n ys hl).1
   rw[hm]
   generalize iV six w (tn six ((bD six ys).turn % wy six).toNat (uw six d (0,0) 0).1)=D
   generalize iV six w (bD six ys).shift=B at h2 ⊢
   generalize (bD six ys).reach.getD w 0=A at h2 ⊢
   generalize (bD six ys).aL.getD w 0=U
   unfold Q6
   refine⟨?_,?_⟩
   . by_cases c1:D > 0
     . simp only[if_pos c1]
       by_cases c2:D+B<=A
       . simp only[if_pos c2]
         rw[if_neg (by omega)]
       . simp only[if_neg c2]
         rw[if_pos (by omega),if_neg (by omega)]
         refine Prod.ext ?_ ?_
         . show B+D=D+B;omega
         . show((n+1:Nat):Int)=1+n;omega
     . simp only[if_neg c1]
       rw[if_neg (by omega)]
       have c2:0+B<=A:=by omega
       simp only[if_pos c2]
   . by_cases c1:D > 0
     . simp only[if_pos c1];split <;> omega
     . simp only[if_neg c1];split <;> omega
theorem Q8 (six:Bool)(xs:List Str):jn six (bD six xs) (zO six)=bD six xs:=by
 have w:=Ji six _ xs rfl
 have tt:=JY six xs
 have z:∀ k,(zO six).reach.getD k 0=0:=fun k=>by
   show(List.replicate (wn six) (0:Int)).getD k 0=0
   rw[List.getD_eq_getElem?_getD,List.getElem?_replicate];split <;> rfl
 have hr:(jn six (bD six xs) (zO six)).reach=(bD six xs).reach:=list_eq (se _ _ _).1 w.2.2.1 fun v hv=>by
   have:=(ED six hv _ xs rfl).2
   rw[jK six _ _ hv,z]
   unfold Q6
   rw[if_pos (by omega)]
 have ht:(jn six (bD six xs) (zO six)).aL=(bD six xs).aL:=list_eq (se _ _ _).2 w.2.2.2 fun v hv=>by
   have:=(ED six hv _ xs rfl).2
   rw[ma six _ _ hv,z,if_pos (by omega)]
 have e1:(jn six (bD six xs) (zO six)).turn=(bD six xs).turn:=by
   show((bD six xs).turn+0) % wy six=_
   rw[Int.add_zero,Int.emod_eq_of_lt tt.1 tt.2]
 have e2:(jn six (bD six xs) (zO six)).shift=(bD six xs).shift:=by
   show ad (bD six xs).shift (tn six _ (0,0))=_
   rw[ux];unfold ad;simp
 have e3:(jn six (bD six xs) (zO six)).iS=(bD six xs).iS:=by
   show(bD six xs).iS+0+cr (bD six xs).shift (tn six _ (0,0))=_
   rw[ux];unfold cr;simp
 have e4:(jn six (bD six xs) (zO six)).many=(bD six xs).many:=Int.add_zero _
 have e5:(jn six (bD six xs) (zO six)).cz=(bD six xs).cz:=Int.add_zero _
 generalize jn six (bD six xs) (zO six)=a at hr ht e1 e2 e3 e4 e5 ⊢
 generalize bD six xs=b at hr ht e1 e2 e3 e4 e5 ⊢
 cases a;cases b
 simp only at hr ht e1 e2 e3 e4 e5
 subst hr ht e1 e2 e3 e4 e5
 rfl
theorem zG (six:Bool)(xs:List Str):∀ (n:Nat) (ys:List Str),ys.length=n->jn six (bD six xs) (bD six ys)=bD six (xs ++ ys):=by
 intro n
 induction n with
 | zero=>
   intro ys h
   have e:ys=[]:=List.eq_nil_of_length_eq_zero h
   subst e
   rw[List.append_nil]
   exact Q8 six xs
 | succ n ih=>
   intro ys h
   have BV:ys≠[]:=fun e=>by rw[e] at h;cases h
   have e:=List.dropLast_concat_getLast BV
   have hl:ys.dropLast.length=n:=by rw[List.length_dropLast];omega
   rw[<- e,kX,JX,ih _ hl,<- List.append_assoc,kX]
noncomputable def qc (rows:List Row)(w:List Nat):List Str:=w.map (mS rows)
theorem JZ {rows:List Row}(ok:cN rows):∀ (r:Nat) {c:Nat},c∈rows.map (·.c)->(gP rows r c).length<=8 ^ r
 | 0,_,_=>Nat.le_refl _
 | r+1,c,h=>by
   obtain⟨q,hq,_,_,ew⟩:=jI h
   have hw:∀ y∈wordOf rows c,y∈rows.map (·.c):=fun y hy=>ok.wo q hq y (by rw[ew] at hy;exact hy)
   have hl:(wordOf rows c).length<=8:=by rw[ew];exact(ok.wp q hq).2
   have:∀ (w:List Nat),(∀ y∈w,y∈rows.map (·.c))->(w.flatMap (gP rows r)).length<=w.length * 8 ^ r:=by
     intro w
     induction w with
     | nil=>intro _;simp
     | cons a w ih=>
       intro h
       rw[List.flatMap_cons,List.length_append,List.length_cons,Nat.add_mul,Nat.one_mul]
       have h1:=JZ ok r (h a (by simp))
       have h2:=ih fun y hy=>h y (by simp[hy])
       omega
   have h3:=this _ hw
   have h4:(wordOf rows c).length * 8 ^ r<=8 * 8 ^ r:=Nat.mul_le_mul_right _ hl
   show((wordOf rows c).flatMap (gP rows r)).length<=8 ^ (r+1)
   rw[Nat.pow_succ];omega
theorem NY {rows:List Row}{w:List Nat}(ok:nv rows w){age:Nat}(h:age<=200):(F0 rows w age).length < 2 ^ 990:=by
 have:∀ (v:List Nat),(∀ y∈v,y∈rows.map (·.c))->(v.flatMap (gP rows age)).length<=v.length * 8 ^ age:=by
   intro v
   induction v with
   | nil=>intro _;simp
   | cons a v ih=>
     intro h
     rw[List.flatMap_cons,List.length_append,List.length_cons,Nat.add_mul,Nat.one_mul]
     have h1:=JZ ok.ok age (h a (by simp))
     have h2:=ih fun y hy=>h y (by simp[hy])
     omega
 have h1:=this w ok.wm
 have h2:w.length * 8 ^ age<=8 * 8 ^ 200:=Nat.mul_le_mul ok.w8 (Nat.pow_le_pow_right (by decide) h)
 have h3:8 * 8 ^ 200 < 2 ^ 990:=by decide +kernel
 exact Nat.lt_of_le_of_lt (Nat.le_trans h1 h2) h3
theorem UY {rows:List Row}(ok:cN rows){r c:Nat}(h:c∈rows.map (·.c))(hr:r<=200):(gP rows r c).length < 2 ^ 990:=by
 have h1:=JZ ok r h
 have h2:8 ^ r<=8 ^ 200:=Nat.pow_le_pow_right (by decide) hr
 exact Nat.lt_of_le_of_lt (Nat.le_trans h1 h2) (by decide +kernel)
noncomputable def Dg (six:Bool)(rows:List Row)(i c:Nat):Tr:=bD six (qc rows (gP rows i c))
noncomputable def dN.o8 (t:dN)(six:Bool)(rows:List Row)(i:Nat):List (Key×FD):=(rows.map (·.c)).map fun c=>(.inr (sg c),.obj t.au (t.Ye six (Dg six rows i c)))
theorem Q9 (t:dN)(six:Bool)(rows:List Row)(i:Nat):m9 (t.o8 six rows i)=kd (rows.map (·.c)) fun c=>t.o6 six (Dg six rows i c):=by unfold m9 dN.o8 kd;rw[List.map_map];rfl
noncomputable abbrev dN.w4 (t:dN)(six:Bool)(rows:List Row)(w:List Nat)(l':Addr)(ls':jL)(n':Nat):List (Str×Dt):=RI "growth" t.ar (t.zA six rows w) ["tallies","lengths"] l' ls' n'
noncomputable abbrev dN.zH (t:dN)(six:Bool)(rows:List Row)(w:List Nat)(l':Addr)(ls':jL)(n':Nat)(l:Addr)(ls:jL)(n:Nat):List (Str×Dt):=su (t.w4 six rows w l' ls' n') ["tracks"] l ls n
noncomputable abbrev dN.UZ (t:dN)(six:Bool)(rows:List Row)(w:List Nat)(l':Addr)(ls':jL)(n':Nat)(l:Addr)(ls:jL)(n:Nat):List (Str×Dt):=oZ (t.w4 six rows w l' ls' n') ["tracks"] l ls n
theorem Ra {l l':Addr}{ls':jL}{n':Nat}(h:l'≠l)(t:dN)(six:Bool)(rows:List Row)(w:List Nat):j5 l (t.w4 six rows w l' ls' n')=true:=by
 have e:rH l (.memo l' ls' 0 n')=true/\rH l (.memo l' ls' 1 n')=true:=by
   unfold rH
   simp[h]
 show((rH l (t.zN six rows) && (rH l (.str (tx w)) && (rH l (.memo l' ls' 0 n') && (rH l (.memo l' ls' 1 n') && true)))) && true)=true
 rw[C1,e.1,e.2];rfl
theorem J0 (six:Bool)(xs:List (List Str)){k:Nat}(h:k < xs.length):jn six (bD six (xs.take k).flatten) (bD six xs[k])=bD six (xs.take (k+1)).flatten:=by
 rw[zG six _ _ _ rfl,List.take_add_one,List.getElem?_eq_getElem h,List.flatten_append]
 simp
theorem Rb {rows:List Row}{w:List Nat}(ok:nv rows w){age b e:Nat}(kO:age<=200)(tF:b<=e)(MP:e<=(F0 rows w age).length):∃ k bt,(e<=(run rows b e (wZ w age) k).place/\∀ j,j < k->(run rows b e (wZ w age) j).place < e)/\(run rows b e (wZ w age) k).bt=bt/\flat rows bt=cut (F0 rows w age) b e/\bt.length<=4000/\∀ p∈bt,p.2∈rows.map (·.c)/\p.1<=age:=by
 obtain⟨k,Yq,VR⟩:=BE ok.ok _ (Dd ok tF MP) (Nat.le_refl _)
 obtain⟨Ik,Jk⟩:=Dc ok.ok (Dd ok tF MP) VR k (Nat.le_refl _)
 have hmu:=JP ok (b:=b) (e:=e) kO
 have hp:(run rows b e (wZ w age) k).place=e:=by have:=Ik.pe;omega
 refine⟨k,_,⟨Yq,VR⟩,rfl,by rw[Ik.fb,hp];rfl,?_,Ik.mt⟩
 have:(wZ w age).bt.length=0:=rfl
 omega
noncomputable def F2 (t:dN):Rl:=fun ds r=>∃ six rows w l ls n rest,∃ xs:List (List Str),ds=[.obj t.aB (("growth",BF t six rows w l ls n)::rest),.lst (xs.map fun x=>t.o6 six (bD six x))]/\xs.flatten.length < 2 ^ 990/\r=.ret (t.o6 six (bD six xs.flatten))
noncomputable def MS (t:dN):Rl:=fun ds r=>∃ six rows w l ls n,ds=[BF t six rows w l ls n]/\nv rows w/\r=.own (.rh t.aB (t.w4 six rows w l ls n) [t.o8 six rows] ["tracks"] 1)
structure MT (t:dN)(six:Bool)(rows:List Row)(w:List Nat)(ls' ls:jL):Prop where
 ok:nv rows w
 gs:ls'.map (·.2)=p9 rows
 ts:ls.map (·.2)=[t.o8 six rows]
noncomputable def MU (t:dN):Rl:=fun ds r=>∃ six rows w l' ls' n' l ls n age,ds=[.obj t.aB (t.zH six rows w l' ls' n' l ls n),.int ((age:Nat):Int)]/\MT t six rows w ls' ls/\age<=200/\r=.ret (.tM l ls (age+1))
noncomputable def sh (t:dN):Rl:=fun ds r=>∃ six rows w l' ls' n' l ls n age,∃ b e:Nat,ds=[.obj t.aB (t.zH six rows w l' ls' n' l ls n),.int ((age:Nat):Int),.int (b:Int),.int (e:Int)]/\MT t six rows w ls' ls/\age<=200/\(b<=e/\e<=(F0 rows w age).length)/\r=.ret (t.o6 six (bD six (qc rows (cut (F0 rows w age) b e))))
noncomputable abbrev U0:Scope:=C3 ((aD fJ).getD 2 (.Pass ⟨0,0,0,0⟩))
theorem NZ:iY U0 (af fJ) nQ ["letter","rules"] ["letter"] [2]=true:=by decide +kernel
noncomputable abbrev wBd:List Stmt:=UH ((aD bT).getD 1 (.Pass ⟨0,0,0,0⟩))
noncomputable abbrev U1:Scope:=Bx (wBd.getD 2 (.Pass ⟨0,0,0,0⟩))
theorem N1:iY U1 (af bT) jW ["younger","last"] ["younger"] [3]=true:=by decide +kernel
noncomputable abbrev U2:Scope:=C4 ((aD cv).getD 2 (.Pass ⟨0,0,0,0⟩))
theorem N2:iY U2 (af cv) lh ["rounds","letter","self"] ["rounds","letter"] [0]=true:=by decide +kernel
theorem J1 {rows:List Row}(ok:cN rows){x:Nat}(h:x∈rows.map (·.c)):mS rows x∈pF:=by
 obtain⟨q,hq,_,e,_⟩:=jI h
 rw[e];exact ok.dd q hq
theorem v9 (T:Txt K mg t):MF P w K mg base CX 6 t.aB "join_all" 2 (F2 t):=by
 refine⟨T.a0.cl,_,_,_,iq T.eU.F jV rfl fun bg A outer s H E G ds r hr hl hR=>?_,T.cK,T.eU.b⟩
 obtain⟨six,rows,wd,l,ls,n,rest,xs,rfl,hx,rfl⟩:=hR
 have zx:=Bp (P:=P) (w:=w) (base:=base) T
 have BK:=zB (P:=P) (w:=w) (base:=base) T
 have J2:=Eh (P:=P) (w:=w) (base:=base) T
 have vS:=xQ (P:=P) (w:=w) (base:=base) T
 have nd:=jV.nd
 let D:Dt:=.obj t.aB (("growth",BF t six rows wd l ls n)::rest)
 let tr:List Str->Dt:=fun x=>t.o6 six (bD six x)
 let S:Nat->List Slot:=fun k=>[.val D,.val (.lst (xs.map tr)),.val (t.o6 six (bD six (xs.take k).flatten)),.bw]
 have en:S (xs.map tr).length=[.val D,.val (.lst (xs.map tr)),.val (t.o6 six (bD six xs.flatten)),.bw]:=by
   show [_,_,Slot.val (t.o6 six (bD six (xs.take (xs.map tr).length).flatten)),_]=_
   rw[List.length_map,List.take_length]
 have hle:∀ k,(xs.take k).flatten.length < 2 ^ 990:=fun k=>by
   have e:=List.take_append_drop k xs
   rw[<- e,List.flatten_append,List.length_append] at hx
   omega
 refine⟨_,.rt _,ai (ax 2 nd (bM zx ay hr (ae (bL (fs:=t.xM six rows) (bL (fs:=t.iW six rows wd l ls n) (aG (fs:=("growth",BF t six rows wd l ls n)::rest) (aa 0 rfl) T.a0.cl T.bj rfl) BK ay hr ⟨six,rows,wd,l,ls,n,rfl,rfl⟩) J2 ay hr ⟨six,rows,rfl,rfl⟩) aj) ⟨six,rfl,rfl⟩))
   (ai (DG (m:=(xs.map tr).length) 3 S nd rfl PassesOwn.leaving (aa 1 rfl) (Le.of ⟨rfl,rfl,rfl,trivial⟩) (Nat.le_refl _) (fun k z hk hz=>?_) (.all rfl)) ?_)⟩
 . rw[List.length_map] at hk
   rw[List.getElem?_map,List.getElem?_eq_getElem hk] at hz
   cases hz
   have h1:xs[k].length < 2 ^ 990:=by
     have:=hle (k+1)
     rw[List.take_add_one,List.getElem?_eq_getElem hk,List.flatten_append,List.length_append] at this
     simp at this
     omega
   refine .nx (ao (ax 2 nd (bB (fs:=t.jt six (bD six (xs.take k).flatten)) (lN (aa 2 rfl)) vS ay hr (ae (lN (x:=bD six xs[k]) (aa 3 rfl)) aj) ⟨six,_,bD six xs[k],rfl,⟨oV six (hle k),oV six h1⟩,rfl⟩))) (Le.of ⟨rfl,rfl,?_,trivial⟩)
   show Slot.val (t.o6 six (bD six (xs.take (k+1)).flatten))=_
   rw[J0 six xs hk]
 . rw[en]
   exact ao (aF (aa 2 rfl))
theorem J3 (T:Txt K mg t):RC P w K mg base CX 8 "Drawing" t.aB 2 (MS t):=by
 refine⟨_,_,_,Vu T.iP.F m5 rfl fun bg A outer s H E G z ds r hr hl hR=>?_,T.p0,(T.g T.a0.a),T.iP.b⟩
 obtain⟨six,rows,wd,l,ls,n,rfl,ok,rfl⟩:=hR
 have fm:=jJ (P:=P) (w:=w) (base:=base) T
 have BK:=zB (P:=P) (w:=w) (base:=base) T
 have J2:=Eh (P:=P) (w:=w) (base:=base) T
 have Rc:=IW (P:=P) (w:=w) (base:=base) T
 have Yr:=Br (P:=P) (w:=w) (base:=base) T
 have h6:=ok.ok.le
 let L:=rows.map (·.c)
 have hL:L.length<=6:=by show(rows.map (·.c)).length<=6;rw[List.length_map];exact h6
 have nd:=m5.nd
 have e1:((L.filter fun _=>true).map fun x=>Dt.tup [.str (sg x),t.o6 six (Dg six rows 0 x)])=(m9 (t.o8 six rows 0)).map Ko:=by
   rw[List.filter_eq_self.mpr (fun _ _=>rfl),Q9]
   exact Bu L _
 have h7:∀ x∈L,x < 128:=fun x hx=>by
   obtain⟨r,hr,rfl⟩:=List.mem_map.mp hx
   have:=ok.ok.sm r hr
   unfold small at this;omega
 refine⟨_,.WI (fs:=t.w4 six rows wd l ls n) (gs:=[t.o8 six rows]) (nm:=["tracks"]) (n:=1) rfl,ai (jN (aa 1 rfl) T.a0.cl T.bj) (ai (ax 2 nd (bL (fs:=t.iW six rows wd l ls n) (aa 1 rfl) BK ay hr ⟨six,rows,wd,l,ls,n,rfl,rfl⟩))
   (wq (f:=t.o8 six rows) rfl T.a0.cl T.bo ?_))⟩
 refine lV T.nX rfl (ik e1 (iu L (fun x=>Dt.str (sg x)) (fun x=>.tup [.str (sg x),t.o6 six (Dg six rows 0 x)]) (fun x=>[.val (.str (sg x))]) (fun _=>true) rfl (cQ NZ) (i4 (bL (fs:=t.xM six rows) (aa 2 rfl) fm ay hr ⟨six,rows,rfl,ok.ok,rfl⟩)) (cW (cQ NZ) rfl) (e9 (dY (jH h7)) (gd L)) (fun a _=>dM) (.nil fun _ _=>rfl)
     (fun a ha _ C fp s' H' G'=>b7 (ae (aa 0 rfl) (ae (bM Yr ay hr (ae (bL (fs:=t.xM six rows) (aa 1 rfl) J2 ay hr ⟨six,rows,rfl,rfl⟩) (ae (jB (rB (ae (bB (fs:=t.xM six rows) (aa 1 rfl) Rc ay hr (ae (aa 0 rfl) aj) ⟨six,rows,a,rfl,ok.ok,ha,rfl⟩) aj) AA3)) aj)) ⟨six,[mS rows a],rfl,fun d hd=>by
       have:d=mS rows a:=by simpa using hd
       rw[this];exact J1 ok.ok ha,by simp,rfl⟩) aj)) AA3) (r0 (by omega)))) (by rw[Q9,qR];exact kK ok.ok.nd) (by rw[Q9];show(List.map _ _).length<=_;rw[List.length_map,List.length_map];exact r0 (by omega))
theorem BL (T:Txt K mg t):MF P w K mg base CX 7 t.aB "deepen_to" 2 (MU t):=by
 refine⟨T.a0.cl,_,_,_,iq T.dU.F jG rfl fun bg A outer s H E G ds r hr hl hR=>?_,T.cF,T.dU.b⟩
 obtain⟨six,rows,wd,l',ls',n',l,ls,n,age,rfl,ok,kO,rfl⟩:=hR
 have oH:=ok.ts
 have MV:=ok.ok.ok
 have BK:=zB (P:=P) (w:=w) (base:=base) T
 have fm:=jJ (P:=P) (w:=w) (base:=base) T
 have vV:=vM (P:=P) (w:=w) (base:=base) T
 have Dh:=v9 (P:=P) (w:=w) (base:=base) T
 have nd:=jG.nd
 have h6:=MV.le
 let L:=rows.map (·.c)
 have hL:L.length<=6:=by show(rows.map (·.c)).length<=6;rw[List.length_map];exact h6
 have h7:∀ x∈L,x < 128:=fun x hx=>by
   obtain⟨r,hr,rfl⟩:=List.mem_map.mp hx
   have:=MV.sm r hr
   unfold small at this;omega
 have hu:(A.deeper (envOfC "Drawing.deepen_to" (af bT) s.heap.objs.size t.bc bg)).units+1 < cLine:=by have:=hr.units;omega
 have e1:ls.length=1:=by have:=congrArg List.length oH;simpa using this
 have e2:ls'.length=2:=by have:=congrArg List.length ok.gs;simpa [p9] using this
 let tl:List Slot:=[.val (.int ((age:Nat):Int)),.val (t.zN six rows),.bw,.bw,.bw]
 refine⟨_,oG (C:=t.aB) (fs:=t.w4 six rows wd l' ls' n') (nm:=["tracks"]) (tl:=tl) (by rw[e1];exact Nat.le_refl 1),FF (nm:=["tracks"]) (nm':=["tallies","lengths"]) (C:=t.aB) (C':=t.ar) (l:=l) (l':=l') (ls:=ls) (ls':=ls') (n:=n) (n':=n') (fs':=t.zA six rows wd) (g:="growth") 0 (by decide) (by decide) (by omega) (fun BV=>?_) rfl⟩
 have hs:=Ra (ls':=ls') (n':=n') BV t six rows wd
 have ht:qy l tl=true:=by
   have:qy l [.val (t.zN six rows),.bw,.bw,.bw]=true:=by
     unfold qy;rw[C1];rfl
   exact this
 refine ai (dl1:=zL t.aB (t.w4 six rows wd l' ls' n') ["tracks"] l ls n tl) (ax 2 nd (bL (fs:=t.iW six rows wd l' ls' n') (aG (fs:=t.zH six rows wd l' ls' n' l ls n) (aa 0 rfl) T.a0.cl T.bj rfl) BK ay hr ⟨six,rows,wd,l',ls',n',rfl,rfl⟩))
   (ao (xB (age:=age) PassesOwn.leaving hs ht (by decide) (by omega) (fun N G hx=>?_) (fun N hN hNa G0 hA hB=>?_)))
 . exact dq (sA (DZ (N:=N) T.iZ hx (aG (fs:=t.UZ six rows wd l' ls' n' l ls n) (aa 0 rfl) T.a0.cl T.bo rfl) (by rw[e1];rfl)) (aa 1 rfl)) (decide_eq_decide.mpr (by omega))
 . let Dk:Nat->Dt:=fun c=>t.o6 six (Dg six rows N c)
   let O:Dt:=.obj t.aB (t.UZ six rows wd l' ls' n' l ls n)
   let S:Nat->List Slot:=fun k=>[.val O,.val (.int ((age:Nat):Int)),.val (t.zN six rows),.val (.dn (m9 (t.o8 six rows (N - 1)))),.own (.eB (kd (L.take k) Dk)),.bw]
   have eS:S L.length=[.val O,.val (.int ((age:Nat):Int)),.val (t.zN six rows),.val (.dn (m9 (t.o8 six rows (N - 1)))),.own (.eB (m9 (t.o8 six rows N))),.bw]:=by
     show [_,_,_,_,Slot.own (.eB (kd (L.take L.length) Dk)),_]=_
     rw[List.take_length,Q9 t six rows N]
   refine ai (ax 3 nd (AW (f:=t.o8 six rows) (N:=N) ak (aG (fs:=t.UZ six rows wd l' ls' n' l ls n) (aa 0 rfl) T.a0.cl T.bo rfl) (hX ah) (by rw[oH];rfl) (by rw[e1];rfl) hN)) (ai (j4 4 nd DU)
     (ai (dl1:=S L.length) (oo (o:=.nx (S L.length)) (m:=L.length) L (fun x=>Dt.str (sg x)) (fun x dl=>dl.set 5 (.val (.str (sg x)))) S rfl PassesOwn.leaving (i4 (bL (fs:=t.xM six rows) (aa 2 rfl) fm ay hr ⟨six,rows,rfl,MV,rfl⟩)) (e9 (dY (jH h7)) (gd L)) (bx nd rfl (.inl rfl)) (fun a _=>tR) (Le.of ⟨rfl,rfl,rfl,rfl,rfl,trivial⟩) (Nat.le_refl _) (fun k a hk ha=>?_) (.all rfl)) ?_))
   . rw[List.getElem?_eq_getElem hk] at ha
     cases ha
     have hm:L[k]∈L:=List.getElem_mem hk
     obtain⟨q,hq,hc,_,ew⟩:=jI hm
     have Yi:=MV.wp q hq
     have UK:∀ y∈wordOf rows L[k],y∈L:=fun y hy=>MV.wo q hq y (by rw[ew] at hy;exact hy)
     have OY:(wordOf rows L[k]).length<=8:=by rw[ew];exact Yi.2
     have TL:(kd (L.take k) Dk).length < sizeLine:=by
       unfold kd
       rw[List.length_map,List.length_take];exact Nat.lt_of_lt_of_le (show min k L.length < 2000 by omega) (by decide)
     let xs:List (List Str):=(wordOf rows L[k]).map fun y=>qc rows (gP rows (N - 1) y)
     have e3:(((wordOf rows L[k]).filter fun _=>true).map fun y=>t.o6 six (Dg six rows (N - 1) y))=xs.map fun x=>t.o6 six (bD six x):=by
       rw[List.filter_eq_self.mpr (fun _ _=>rfl),List.map_map];rfl
     have U3:xs.flatten=qc rows (gP rows N L[k]):=by
       obtain⟨M,rfl⟩:∃ M,N=M+1:=⟨N - 1,by omega⟩
       show((wordOf rows L[k]).map fun y=>qc rows (gP rows M y)).flatten=((wordOf rows L[k]).flatMap (gP rows M)).map (mS rows)
       rw[List.map_flatMap,List.flatMap_def];rfl
     have ed:Dk L[k]=t.o6 six (bD six xs.flatten):=by rw[U3];rfl
     have hb:xs.flatten.length < 2 ^ 990:=by
       rw[U3];unfold qc;rw[List.length_map];exact UY MV hm (by omega)
     refine .nx (ao (DV (kds:=kd (L.take k) Dk) (d:=Dk L[k]) 4 hu (by rw[ed];exact bB (fs:=t.UZ six rows wd l' ls' n' l ls n) (aa 0 rfl) Dh ay hr (ae (ik e3 (iu (wordOf rows L[k]) (fun x=>Dt.str (sg x)) (fun y=>t.o6 six (Dg six rows (N - 1) y)) (fun x=>[.val (.str (sg x))]) (fun _=>true) rfl (cQ N1) (i4 (bB (fs:=t.xM six rows) (aa 2 rfl) vV ay hr (ae (aa 5 rfl) aj) ⟨six,rows,L[k],rfl,MV,hm,rfl⟩)) (cW (cQ N1) rfl) (e9 (dY (uu MV UK)) (gd _)) (fun a _=>dM) (.nil fun _ _=>rfl)
       (fun y hy _ C fp s' H' G'=>jD hu (aa 1 rfl) (aa 0 rfl) (by rw[Q9];exact ju (UK y hy)) (fun _ _=>rfl)) (r0 (by omega)))) aj) ⟨six,rows,wd,l',ls',n',_,xs,rfl,hb,rfl⟩) (aa 5 rfl) TL)) (Le.of ⟨rfl,rfl,rfl,rfl,?_,trivial⟩)
     show Slot.own (.eB (kd (L.take (k+1)) Dk))=Slot.own (.eB (u7 (kd (L.take k) Dk) (.inr (sg L[k])) (Dk L[k])))
     rw[Jo MV.nd hk]
   . rw[eS]
     exact DF (dl1:=.val (.obj t.aB (t.UZ six rows wd l' ls' n' l ls n))::tl.set 3 (.own (.eB (m9 (t.o8 six rows N))))) (A2 (f:=t.o8 six rows) (tl:=tl) 3 hs ht rfl oH (by omega) T.a0.cl T.bo hA hB) (Le.of ⟨rfl,rfl,rfl,rfl,trivial⟩)
theorem Di (T:Txt K mg t):MF P w K mg base CX 9 t.aB "stretch" 4 (sh t):=by
 refine⟨T.a0.cl,_,_,_,iq T.fE.F pX rfl fun bg A outer s H E G ds r hr hl hR=>?_,T.cZ,T.fE.b⟩
 obtain⟨six,rows,wd,l',ls',n',l,ls,n,age,b,e,rfl,ok,kO,⟨tF,MP⟩,rfl⟩:=hR
 have Ys:=UU (P:=P) (w:=w) (base:=base) T
 have vW:=BL (P:=P) (w:=w) (base:=base) T
 have Dh:=v9 (P:=P) (w:=w) (base:=base) T
 have J4:=F1 (P:=P) (w:=w) (base:=base) T
 have hu:(A.deeper (envOfC "Drawing.stretch" (af cv) s.heap.objs.size t.bR bg)).units+1 < cLine:=by have:=hr.units;omega
 obtain⟨k,bt,⟨Yq,VR⟩,hbt,YZ,hb4,hmt⟩:=Rb ok.ok kO tF MP
 let xs:List (List Str):=bt.map fun p=>qc rows (gP rows p.1 p.2)
 have e3:((bt.filter fun _=>true).map fun p=>t.o6 six (Dg six rows p.1 p.2))=xs.map fun x=>t.o6 six (bD six x):=by
   rw[List.filter_eq_self.mpr (fun _ _=>rfl),List.map_map];rfl
 have U3:xs.flatten=qc rows (cut (F0 rows wd age) b e):=by
   rw[<- YZ]
   show(bt.map fun p=>qc rows (gP rows p.1 p.2)).flatten=(bt.flatMap fun p=>gP rows p.1 p.2).map (mS rows)
   rw[List.map_flatMap,List.flatMap_def];rfl
 have hb:xs.flatten.length < 2 ^ 990:=by
   rw[U3];unfold qc cut
   rw[List.length_map,List.length_drop,List.length_take]
   have:=NY ok.ok kO
   omega
 rw[<- U3]
 refine⟨_,.rt _,ai (FG (m:=age+1) (tl:=[.val (.int ((age:Nat):Int)),.val (.int (b:Int)),.val (.int (e:Int))]) (bB (fs:=t.iW six rows wd l' ls' n') (aG (fs:=t.zH six rows wd l' ls' n' l ls n) (aa 0 rfl) T.a0.cl T.bj rfl) Ys ay hr (ae (aa 1 rfl) (ae (aa 2 rfl) (ae (aa 3 rfl) aj))) ⟨six,rows,wd,l',ls',n',age,b,e,rfl,ok.ok,ok.gs,kO,⟨tF,MP⟩,rfl⟩))
   (ai (nK (m:=age+1) (fs:=t.w4 six rows wd l' ls' (age+1)) (nm:=["tracks"]) (tl:=[.val (.int ((age:Nat):Int)),.val (.int (b:Int)),.val (.int (e:Int))]) (bB (fs:=t.zH six rows wd l' ls' (age+1) l ls n) (aa 0 rfl) vW ay hr (ae (aa 1 rfl) aj) ⟨six,rows,wd,l',ls',_,l,ls,n,age,rfl,ok,kO,rfl⟩))
   (ao (aF (bB (fs:=t.zH six rows wd l' ls' (age+1) l ls (age+1)) (aa 0 rfl) Dh ay hr (ae (ik e3 (iu bt tw (fun p=>t.o6 six (Dg six rows p.1 p.2)) (fun p=>[.val (.int ((p.1:Nat):Int)),.val (.str (sg p.2))]) (fun _=>true) rfl (cQ N2) (k9 (jB (Ay (AG (fs:=t.iW six rows wd l' ls' (age+1)) (aG (fs:=t.zH six rows wd l' ls' (age+1) l ls (age+1)) (aa 0 rfl) T.a0.cl T.bj rfl) (Pq J4) ay hr (ae (aa 1 rfl) (ae (aa 2 rfl) (ae (aa 3 rfl) aj))) ⟨six,rows,wd,l',ls',age+1,age,b,e,k,rfl,⟨ok.ok,ok.gs,by omega,by omega,kO⟩,⟨tF,MP⟩,⟨Yq,VR⟩,rfl⟩) (by rw[hbt])))) (Hx rfl (cQ N2) rfl) lU (fun a _=>Lm) (.nil fun _ _=>rfl)
     (fun p hp _ C fp s' H' G'=>?_) (Nat.le_trans hb4 (by decide)))) aj) ⟨six,rows,wd,l',ls',age+1,_,xs,rfl,hb,rfl⟩))))⟩
 obtain⟨m1,m2⟩:=hmt p hp
 exact jD hu (vd (n:=age+1) (j:=0) (f:=t.o8 six rows) (aG (fs:=t.zH six rows wd l' ls' (age+1) l ls (age+1)) (aa 2 rfl) T.a0.cl T.bo rfl) (aa 0 rfl) (by rw[ok.ts];rfl) (by omega) (by omega)) (aa 1 rfl) (by rw[Q9];exact ju m1) (fun _ _=>rfl)
noncomputable def zI (ns:List Int)(k:Nat):Int:=(bK ns k % 10 ^ 59 * 10 ^ 59+bK ns (k+1) % 10 ^ 59) * 10 ^ 59+bK ns (k+2) % 10 ^ 59
noncomputable def U4:Rl:=fun ds r=>∃ (ns:List Int) (k:Nat),ds=[.oh ns,.int k]/\k<=90/\r=.ret (.int (zI ns k))
theorem Rf (T:Txt K mg t):GF P w K mg base CX 2 "_law_big" 2 U4:=by
 refine⟨_,_,_,iq T.xI.F Iz rfl fun bg A outer s H E G ds r hr hl hR=>?_,(T.g T.xI.a),T.xI.F.kp,T.xI.b⟩
 obtain⟨ns,k,rfl,hk,rfl⟩:=hR
 have kY:=BA (P:=P) (w:=w) (base:=base) T
 have nd:=Iz.nd
 have cl:∀ (j:Nat),j<=100->zC [.oh ns,.int j] (.ret (.int (bK ns j))):=fun j hj=>⟨ns,j,rfl,hj,rfl⟩
 have fb:∀ z:Int,0<=z % 10 ^ 59/\z % 10 ^ 59 < 10 ^ 59:=fun z=>⟨Int.emod_nonneg _ (by decide),Int.emod_lt_of_pos _ (by decide)⟩
 have f59:(10 ^ 59:Int) < 2 ^ 200:=by decide
 have acI:(10 ^ 59 * 10 ^ 59:Int) < 2 ^ 400:=by decide
 have h1:=fb (bK ns k)
 have h2:=fb (bK ns (k+1))
 exact⟨_,.rt _,ai (ax 2 nd (d:=.int (10 ^ 59)) (GZ ah ah ⟨by decide,by decide,by decide⟩))
   (ai (ax 3 nd (aI (eE (dc (bM kY ay hr (ae (aa 0 rfl) (ae (aa 1 rfl) aj)) (cl k (by omega))) (aa 2 rfl) (by decide)) (aa 2 rfl) (vN (m:=200) (n:=200) (by omega) (by decide) (by decide))) (dc (bM kY ay hr (ae (aa 0 rfl) (ae (bP (aI (aa 1 rfl) ah) (congrArg Dt.int (show(k:Int)+1=((k+1:Nat):Int) by omega))) aj)) (cl (k+1) (by omega))) (aa 2 rfl) (by decide))))
   (ao (aF (aI (eE (aa 3 rfl) (aa 2 rfl) (vN (m:=401) (n:=200) (by omega) (by decide) (by decide))) (dc (bM kY ay hr (ae (aa 0 rfl) (ae (bP (aI (aa 1 rfl) ah) (congrArg Dt.int (show(k:Int)+2=((k+2:Nat):Int) by omega))) aj)) (cl (k+2) (by omega))) (aa 2 rfl) (by decide))))))⟩
noncomputable def Yt (six:Bool)(p:Int×Int):List Dt:=if six then [.int (2 * p.1+p.2),.int (p.1+2 * p.2),.int (p.2 - p.1),.int (-2 * p.1 - p.2),.int (-p.1 - 2 * p.2),.int (p.1 - p.2)] else [.int p.1,.int p.2,.int (-p.1),.int (-p.2)]
theorem Rg (six:Bool)(p:Int×Int){z:Int}(h0:0<=z)(h1:z < wy six):ny (Yt six p) z=some (.int (iV six z p)):=by
 cases six with
 | false=>exact Uy p h0 h1
 | true=>exact Uz p h0 h1
noncomputable def J5:Rl:=fun ds r=>∃ six p,ds=[.int (wy six),sp p]/\r=.own (.lst (Yt six p))
theorem F3 (T:Txt K mg t):GF P w K mg base CX 1 "_law_along" 2 J5:=by
 refine⟨_,_,_,iq T.oQ.F Ba rfl fun bg A outer s H E G ds r hr hl hR=>?_,(T.g T.oQ.a),T.oQ.F.kp,T.oQ.b⟩
 obtain⟨six,p,rfl,rfl⟩:=hR
 have nd:=Ba.nd
 cases six with
 | false=>
   exact⟨_,.ro _,ai (yx 2 3 nd rfl (aa 1 rfl)) (qm (bQ (u:=true) (dq (lE (aa 0 rfl) ah) (decide_eq_true rfl)) (fun h=>ao (lg (rB (ae (aa 2 rfl) (ae (aa 3 rfl) (ae (hX (aa 2 rfl)) (ae (hX (aa 3 rfl)) aj)))) AA3))) (fun h=>nomatch h)))⟩
 | true=>
   exact⟨_,.ro _,ai (yx 2 3 nd rfl (aa 1 rfl)) (ai (bQ (u:=false) (dq (lE (aa 0 rfl) ah) (decide_eq_false (by decide))) (fun h=>nomatch h) (fun h=>bZ))
     (ao (lg (rB (ae (aI (eE ah (aa 2 rfl) (qe.ok (Or.inl ⟨by decide,by decide⟩))) (aa 3 rfl)) (ae (aI (aa 2 rfl) (eE ah (aa 3 rfl) (qe.ok (Or.inl ⟨by decide,by decide⟩)))) (ae (hV (aa 3 rfl) (aa 2 rfl)) (ae (hV (eE (hX ah) (aa 2 rfl) (qe.ok (Or.inl ⟨by decide,by decide⟩))) (aa 3 rfl)) (ae (hV (hX (aa 2 rfl)) (eE ah (aa 3 rfl) (qe.ok (Or.inl ⟨by decide,by decide⟩)))) (ae (hV (aa 2 rfl) (aa 3 rfl)) aj)))))) AA3))))⟩
theorem MW {W:List Nat}{b e:Nat}(h:b<=e)(he:e<=W.length):(cut W b e).length=e - b:=by
 unfold cut;rw[List.length_drop,List.length_take];omega
section
variable {X:Cx}{G:Gr}{dl:List Slot}{i o:Expr}{kds:List (Key×Dt)}{k:Str}{pos:Pos}
theorem MX (hu:X.A.units+1 < cLine)(hi:EE X G dl i (.str k))(ho:EE X G dl o (.dn kds))(hm:behindInMarks .NotIn o=false:=by rfl):EB X G dl (.Compare i [.NotIn] [o] pos) (!(lF kds (.inr k)).isSome):=
 SU (Gv (xl hu hi ho) hm) fun st H Q ⟨Hf,S,kk⟩=>⟨Hf,S,fun v Hf1 H1 g1 r1=>⟨Hf1,S.grow g1,fun w bO H2 g2 r2=>by
     cases r1
     cases r2 with
     | @dn q tg ob kvs _ hq rp=>exact⟨q,_,rfl,.inl ⟨kvs,.inr k,.inr (.inr (.inl ⟨tg,ob,kvs,g2.sub _ _ hq,rfl⟩)),rfl,rfl⟩,by rw[rp.xy];exact⟨_,rfl,kk bO H2 (g1.trans g2)⟩⟩⟩⟩
end
theorem qS:∀ xs:List Int,Ci (xs.map Dt.int)=xs.map PyData.int
 | []=>by simp[Ci]
 | x::xs=>by rw[List.map_cons,Ci,qS xs];simp[pd]
theorem BM (xs:List Int):Kh (.lst (xs.map .int)):=by
 have h1:kM (xs.map Dt.int)=true:=by
   induction xs with
   | nil=>simp[kM]
   | cons x xs ih=>rw[List.map_cons,kM,ih];simp[Sg.plain]
 have h2:∀ ys:List Int,PyData.canLayAll0 (ys.map PyData.int)=true/\PyData.depthAll (ys.map PyData.int)=0:=by
   intro ys
   induction ys with
   | nil=>simp[PyData.canLayAll0,PyData.depthAll]
   | cons y ys ih=>rw[List.map_cons];simp[PyData.canLayAll0,PyData.depthAll,PyData.canLay0,PyData.depth,ih]
 refine⟨by rw[Sg.plain];exact h1,?_⟩
 unfold SeqAt.shaped
 rw[pd,qS]
 simp[PyData.canLay0,PyData.depth,h2 xs]
theorem sG (ys:List Int):PyData.depthAll (ys.map PyData.int)=0:=by
 induction ys with
 | nil=>simp[PyData.depthAll]
 | cons y ys ih=>rw[List.map_cons];simp[PyData.depthAll,PyData.depth,ih]
noncomputable def fF (x:Tr):Dt:=.tup [.int x.many,.int x.turn,sp x.shift,.int x.cz,.lst (x.reach.map .int),.lst (x.aL.map .int),.int x.iS]
theorem k4 (x:Tr):Kh (fF x):=by
 have h1:=BM x.reach
 have h2:=BM x.aL
 have c1:=SeqAt.canLay_of_shaped h1.2
 have c2:=SeqAt.canLay_of_shaped h2.2
 have d1:(pd (.lst (x.reach.map Dt.int))).depth<=1:=by rw[pd,qS];simp[PyData.depth,sG]
 have d2:(pd (.lst (x.aL.map Dt.int))).depth<=1:=by rw[pd,qS];simp[PyData.depth,sG]
 have p1:=h1.1
 have p2:=h2.1
 unfold fF sp
 refine⟨by simp[Sg.plain,kM] at p1 p2 ⊢;exact⟨p1,p2⟩,?_⟩
 unfold SeqAt.shaped
 rw[pd]
 simp[Ci,pd] at c1 c2 d1 d2 ⊢
 simp[Ci,pd,PyData.canLay0,PyData.canLayAll0,PyData.depth,PyData.depthAll] at c1 c2 d1 d2 ⊢
 refine⟨⟨c1,c2⟩,?_⟩
 omega
noncomputable def J6 (t:dN):Rl:=fun ds r=>∃ six x,ds=[t.BU six x]/\WF six x/\(x.reach.length=wn six)/\r=.ret (fF x)
theorem BN (six:Bool){ns:List Int}(h:ns.length=wn six):nu six ns 0=ns:=by
 refine list_eq (six:=six) (by unfold nu;simp) h fun v hv=>?_
 rw[v8 six _ _ hv]
 congr 1
 have hw:=qQ six
 rw[Int.sub_zero,Int.emod_eq_of_lt (by omega) (by omega),Int.toNat_natCast]
noncomputable def Yu (t:dN):Rl:=fun ds r=>∃ six rows w l ls n x,ds=[BF t six rows w l ls n,.str (sg x)]/\ls.map (·.2)=p9 rows/\0 < n/\n<=1000/\x∈rows.map (·.c)/\r=.ret .cP
noncomputable def BO (t:dN):Rl:=fun ds r=>∃ six rows w l' ls' n' l ls n age x,ds=[.obj t.aB (t.zH six rows w l' ls' n' l ls n),.int ((age:Nat):Int),.str (sg x)]/\MT t six rows w ls' ls/\(0 < n'/\n'<=1000)/\age<=200/\x∈rows.map (·.c)/\r=.ret (t.o6 six (Dg six rows age x))
noncomputable def F4:Rl:=fun ds r=>∃ six p b,ds=[.int (wy six),sp p,.int b]/\r=.ret (sp (tn six (b % wy six).toNat p))
noncomputable def J7:Rl:=fun ds r=>∃ six x y,ds=[.int (wy six),fF x,fF y]/\WF six x/\WF six y/\r=.ret (fF (jn six x y))
noncomputable def Rh:Rl:=fun ds r=>∃ six,ds=[.int (wy six)]/\r=.ret (fF (zO six))
noncomputable def J8:Rl:=fun ds r=>∃ six x,ds=[fF x,.int (wy six)]/\WF six x/\r=.ret (.bl true)
section
variable {X:Cx}{G:Gr}{E:XK}{dl:List Slot}{e a b:Expr}{d1 d2 d3:Dt}{pos p:Pos}{ds:List Dt}
theorem J9 (n1 n2 n3:Nat){a b c:Str}{pa pb pc tp:Pos}{cx:Nat}(hN:X.N.Nodup)(hc:X.calm=true)(he:EE X G dl e (.lst [d1,d2,d3]))(Tv:X.N[n1]?=some a:=by rfl)(Tw:X.N[n2]?=some b:=by rfl)(X0:X.N[n3]?=some c:=by rfl)(Tx:Loc X.env.scope a:=by first | exact Or.inl rfl | exact Or.inr rfl)(O1:Loc X.env.scope b:=by first | exact Or.inl rfl | exact Or.inr rfl)(X1:Loc X.env.scope c:=by first | exact Or.inl rfl | exact Or.inr rfl)(Tz:X.fn a=true\/X.env.scope.names.lookup a=some .local:=by first | exact .inl rfl | exact .inr rfl)(TB:X.fn b=true\/X.env.scope.names.lookup b=some .local:=by first | exact .inl rfl | exact .inr rfl)(X2:X.fn c=true\/X.env.scope.names.lookup c=some .local:=by first | exact .inl rfl | exact .inr rfl)(hn:(assignEach [.Name a pa,.Name b pb,.Name c pc] X.env).length=3:=by rfl)(m7:(assignEach [.Name a pa,.Name b pb,.Name c pc] X.env).findIdx? (·.1)=none:=by rfl)(q1:(assignEach [.Name a pa,.Name b pb,.Name c pc] X.env).map (·.2)=assign (.Name a pa) X.env::(assignEach [.Name b pb,.Name c pc] X.env).map (·.2):=by rfl)(q2:(assignEach [.Name b pb,.Name c pc] X.env).map (·.2)=assign (.Name b pb) X.env::(assignEach [.Name c pc] X.env).map (·.2):=by rfl)(q3:(assignEach [.Name c pc] X.env).map (·.2)=assign (.Name c pc) X.env::(assignEach [] X.env).map (·.2):=by rfl)(hs:swapsWithSole [.Tuple [.Name a pa,.Name b pb,.Name c pc] cx tp] e pos.line X.env=pure false:=by rfl)(hw:swappedStores [.Tuple [.Name a pa,.Name b pb,.Name c pc] cx tp] e X.env=pure none:=by rfl)(h1:(assignEach [.Tuple [.Name a pa,.Name b pb,.Name c pc] cx tp] X.env).map (·.2)=[assign (.Tuple [.Name a pa,.Name b pb,.Name c pc] cx tp) X.env]:=by rfl):ES X G E dl (.Assign [.Tuple [.Name a pa,.Name b pb,.Name c pc] cx tp] e pos) (.nx (((dl.set n1 (.val d1)).set n2 (.val d2)).set n3 (.val d3))):=
 sv (xX he (Qn hc (cV (bx (pos:=pa) hN Tv Tx Tz) (cV (bx (pos:=pb) hN Tw O1 TB) (cV (bx (pos:=pc) hN X0 X1 X2) n6 q3) q2) q1) hn m7) hs hw h1) fun D st H ⟨Hf,S,k⟩=>⟨Hf,S,fun v Hf1 H1 g1 r1=>by
   cases r1 with
   | @lst q vs _ hq rp=>
     cases rp with
     | cons r1 t1=>cases t1 with
       | cons r2 t2=>cases t2 with
         | cons r3 t3=>
           cases t3
           exact⟨q,_,rfl,.of (g1.sub _ _ hq),rfl,_,_,rfl,_,_,rfl,_,_,rfl,rfl,k _ Hf1 H1 g1.bC ((((S.grow g1).set r1).set r2).set r3)⟩⟩
theorem Ka (hm:X.mg "list"=none)(ha:EE X G dl a (.tup ds))(hg:Gl X "list":=by rfl)(he:starEach [a] X.env=[(false,eval a X.env)]:=by rfl):EO X G dl (.Call (.Name "list" p) [a] [] pos) (.lst ds):=
 gh (lP qj hg hm Sg.boot_list (ae ha aj he) (he:=he)) fun st H Q ⟨Hf,S,k⟩=>⟨Hf,S,fun vs Hf1 H1 g1 r1=>by
   cases r1 with
   | cons r t=>cases t;cases r with
     | @tup q vs _ z r=>exact⟨q,vs,rfl,.inr (bN g1.sub z),fun l hl=>k l Hf1 _ (g1.trans (.dX g1.sub hl)) (g1.big.free hl) (g1.sub.free hl) ⟨vs,ak,r⟩⟩⟩
end
noncomputable abbrev U5:Scope:=C4 ((aD qB).getD 3 (.Pass ⟨0,0,0,0⟩))
theorem N3:iY U5 (af qB) D7 ["_law_one"] ["_law_one"] []=true:=by decide +kernel
noncomputable def Ri (x:Tr):List Int:=[x.many,x.turn,x.cz,x.iS] ++ [x.shift.1,x.shift.2] ++ x.reach ++ x.aL
theorem U6 (T:Txt K mg t):MF P w K mg base CX 1 t.ar "check_letter" 2 (Yu t):=by
 refine⟨T.aM.cl,_,_,_,iq T.da.F mH rfl fun bg A outer s H E G ds r hr hl hR=>?_,T.cu,T.da.b⟩
 obtain⟨six,rows,wd,l,ls,n,x,rfl,oH,hn,Yv,hx,rfl⟩:=hR
 have hu:(A.deeper (envOfC "Growth.check_letter" (af c6) s.heap.objs.size t.aP bg)).units+1 < cLine:=by have:=hr.units;omega
 exact⟨_,.nx _,ao (bQ (u:=false) (dq (MX hu (aa 1 rfl) (vd (n:=n) (j:=1) (f:=wX rows) (k:=0) (aG (fs:=t.iW six rows wd l ls n) (aa 0 rfl) T.aM.cl T.bS rfl) ah (by rw[oH];rfl) hn Yv)) (by rw[MB,ju hx];rfl)) (fun h=>nomatch h) (fun h=>bZ))⟩
theorem MY (T:Txt K mg t):MF P w K mg base CX 5 t.au "told" 1 (J6 t):=by
 refine⟨T.aA.cl,_,_,_,iq T.kG.F wJ rfl fun bg A outer s H E G ds r hr hl hR=>?_,T.gz,T.kG.b⟩
 obtain⟨six,x,rfl,hw,_,rfl⟩:=hR
 have zu:=FP (P:=P) (w:=w) (base:=base) T
 have zv:=FQ (P:=P) (w:=w) (base:=base) T
 have zw:=FR (P:=P) (w:=w) (base:=base) T
 have CY:=El (P:=P) (w:=w) (base:=base) T
 have CZ:=Em (P:=P) (w:=w) (base:=base) T
 have r6:=vP (P:=P) (w:=w) (base:=base) T
 have C0:=En (P:=P) (w:=w) (base:=base) T
 have e0:tn six ((0:Int) % wy six).toNat x.shift=x.shift:=by cases six <;> rfl
 refine⟨_,.rt _,ao (aF (bP (b7 (ae (bL (fs:=t.jt six x) (aa 0 rfl) CY ay hr ⟨six,x,rfl,rfl⟩) (ae (bL (fs:=t.jt six x) (aa 0 rfl) CZ ay hr ⟨six,x,rfl,rfl⟩) (ae (Li (fs:=t.jt six x) (aa 0 rfl) zu ay hr ⟨six,x,0,rfl,rfl⟩)
   (ae (bL (fs:=t.jt six x) (aa 0 rfl) r6 ay hr ⟨six,x,rfl,rfl⟩) (ae (jB (Hm (fs:=t.jt six x) (aa 0 rfl) zv ay hr ⟨six,x,0,rfl,hw,rfl⟩)) (ae (jB (Hm (fs:=t.jt six x) (aa 0 rfl) zw ay hr ⟨six,x,0,rfl,hw,rfl⟩))
   (ae (bL (fs:=t.jt six x) (aa 0 rfl) C0 ay hr ⟨six,x,rfl,rfl⟩) aj))))))) AA3) ?_))⟩
 rw[e0,BN six hw.rl,BN six hw.tl];rfl
theorem F5 (T:Txt K mg t):MF P w K mg base CX 8 t.aB "whole" 3 (BO t):=by
 refine⟨T.a0.cl,_,_,_,iq T.g7.F rO rfl fun bg A outer s H E G ds r hr hl hR=>?_,T.dF,T.g7.b⟩
 obtain⟨six,rows,wd,l',ls',n',l,ls,n,age,x,rfl,ok,⟨WU,Yv⟩,kO,hx,rfl⟩:=hR
 have QZ:=NV (P:=P) (w:=w) (base:=base) T
 have Yw:=U6 (P:=P) (w:=w) (base:=base) T
 have vW:=BL (P:=P) (w:=w) (base:=base) T
 have hu:(A.deeper (envOfC "Drawing.whole" (af gH) s.heap.objs.size t.cB bg)).units+1 < cLine:=by have:=hr.units;omega
 exact⟨_,.rt _,ai (oi (bM QZ ay hr (ae (aa 1 rfl) (ae ah (ae (j0 (w:=.int 200) T.qL ⟨_,rfl⟩ fun _=>.int 200) aj))) ⟨_,0,200,rfl,by omega,by omega,rfl⟩))
   (ai (oi (bB (fs:=t.iW six rows wd l' ls' n') (aG (fs:=t.zH six rows wd l' ls' n' l ls n) (aa 0 rfl) T.a0.cl T.bj rfl) Yw ay hr (ae (aa 2 rfl) aj) ⟨six,rows,wd,l',ls',n',x,rfl,ok.gs,WU,Yv,hx,rfl⟩))
   (ai (nK (m:=age+1) (fs:=t.w4 six rows wd l' ls' n') (nm:=["tracks"]) (tl:=[.val (.int ((age:Nat):Int)),.val (.str (sg x))]) (bB (fs:=t.zH six rows wd l' ls' n' l ls n) (aa 0 rfl) vW ay hr (ae (aa 1 rfl) aj) ⟨six,rows,wd,l',ls',_,l,ls,n,age,rfl,ok,kO,rfl⟩))
   (ao (aF (jD hu (vd (n:=age+1) (j:=0) (f:=t.o8 six rows) (aG (fs:=t.zH six rows wd l' ls' n' l ls (age+1)) (aa 0 rfl) T.a0.cl T.bo rfl) (aa 1 rfl) (by rw[ok.ts];rfl) (by omega) (by omega)) (aa 2 rfl) (by rw[Q9];exact ju hx) (fun _ _=>rfl))))))⟩
theorem Dj (T:Txt K mg t):GF P w K mg base CX 1 "_law_turned" 3 F4:=by
 refine⟨_,_,_,iq T.l6.F xH rfl fun bg A outer s H E G ds r hr hl hR=>?_,(T.g T.l6.a),T.l6.F.kp,T.l6.b⟩
 obtain⟨six,p,b,rfl,rfl⟩:=hR
 have nd:=xH.nd
 have T8:=Int.emod_nonneg b (Int.ne_of_gt (fe six))
 have Xi:=Int.emod_lt_of_pos b (fe six)
 have hb3:wy six<=6:=by cases six <;> decide
 refine⟨_,.rt _,ai (yx 3 4 nd rfl (aa 1 rfl)) (ai (i3 5 (fun k=>[.val (.int (wy six)),.bw,.val (.int b),.val (.int (tn six k p).1),.val (.int (tn six k p).2),.bw]) nd rfl PassesOwn.leaving T.hU
   (ae (dc (aa 2 rfl) (aa 0 rfl) (fe six)) aj) ⟨by omega,by omega⟩ (Le.of ⟨rfl,rfl,rfl,rfl,trivial⟩) (Nat.le_refl _) (fun k hk=>?_) (.all rfl)) (ao (aF (b7 (ae (aa 3 rfl) (ae (aa 4 rfl) aj)) AA3))))⟩
 cases six with
 | false=>exact .nx (ao (bQ (lE (aa 0 rfl) ah) (fun h=>ao (Hy 3 4 nd rfl (ae (hX (aa 4 rfl)) (ae (aa 3 rfl) aj)))) (fun h=>absurd h (by decide)))) (Le.of ⟨rfl,rfl,rfl,rfl,trivial⟩)
 | true=>exact .nx (ao (bQ (lE (aa 0 rfl) ah) (fun h=>absurd h (by decide)) (fun h=>ao (Hy 3 4 nd rfl (ae (hX (aa 4 rfl)) (ae (aI (aa 3 rfl) (aa 4 rfl)) aj)))))) (Le.of ⟨rfl,rfl,rfl,rfl,trivial⟩)
theorem MZ (T:Txt K mg t):GF P w K mg base CX 1 "_law_none" 1 Rh:=by
 refine⟨_,_,_,iq T.rW.F L6 rfl fun bg A outer s H E G ds r hr hl hR=>?_,(T.g T.rW.a),T.rW.F.kp,T.rW.b⟩
 obtain⟨six,rfl,rfl⟩:=hR
 have hb:-(2 ^ 63)<=wy six/\wy six < 2 ^ 63/\[Dt.int 0].length * (wy six).toNat<=sizeLine:=by cases six <;> decide
 exact⟨_,.rt _,ao (aF (bP (b7 (ae ah (ae ah (ae (b7 (ae ah (ae ah aj)) AA3) (ae ah
   (ae (jB (yq (yf (ae ah aj) AA3) (aa 0 rfl) hb.1 hb.2.1 hb.2.2)) (ae (jB (yq (yf (ae ah aj) AA3) (aa 0 rfl) hb.1 hb.2.1 hb.2.2)) (ae ah aj))))))) AA3) (by cases six <;> rfl)))⟩
theorem F6 (T:Txt K mg t):GF P w K mg base CX 2 "_law_track" 2 J8:=by
 refine⟨_,_,_,iq T.oS.F Bc rfl fun bg A outer s H E G ds r hr hl hR=>?_,(T.g T.oS.a),T.oS.F.kp,T.oS.b⟩
 obtain⟨six,x,rfl,wf,rfl⟩:=hR
 have M0:=JA (P:=P) (w:=w) (base:=base) T
 have nd:=Bc.nd
 have Yx:=qQ six
 have w6:wn six<=6:=by cases six <;> decide
 have Ly:=wf.rl
 have K0:=wf.tl
 let lD:List Int->Dt:=fun l=>.lst (l.map .int)
 let S:Nat->List Slot:=fun _=>[.val (fF x),.val (.int (wy six)),.bw,.bw]
 have e1:([Dt.int x.many,.int x.turn,.int x.cz,.int x.iS] ++ [.int x.shift.1,.int x.shift.2] ++ x.reach.map Dt.int ++ x.aL.map Dt.int)=(Ri x).map Dt.int:=by
   unfold Ri;simp
 have e2:(((Ri x).filter fun _=>true).map fun _=>Dt.bl true)=((Ri x).map fun _=>true).map Dt.bl:=by
   rw[List.filter_eq_self.mpr (fun _ _=>rfl),List.map_map];rfl
 have sz:∀ n:Nat,n<=100->n<=sizeLine:=fun n h=>Nat.le_trans h (by decide)
 refine⟨_,.rt _,ai (bQ (u:=false) (uS (pk (u:=false) (v:=false) (pL (u:=true) (ql (uU (d:=fF x) T.e6 (aa 0 rfl) (Au T.qM Sg.boot_tuple) rfl trivial rfl))) fun _=>(pk (u:=false) (v:=false) (dq (yk (DJ T.iZ (aa 0 rfl)) ah) rfl) fun _=>
     (pk (u:=false) (v:=false) (pL (u:=true) (ql (uU (d:=sp x.shift) T.e6 (av (aa 0 rfl) ah rfl) (Au T.qM Sg.boot_tuple) rfl trivial rfl))) fun _=>(pK (dq (yk (DJ (ds:=[.int x.shift.1,.int x.shift.2]) T.iZ (av (aa 0 rfl) ah rfl)) ah) rfl)))))) (fun h=>nomatch h) (fun h=>bZ))
   (ai (dl1:=S 2) (oo (o:=.nx (S 2)) (m:=2) [x.reach,x.aL] lD (fun l dl=>dl.set 2 (.val (lD l))) S rfl PassesOwn.leaving (Oz (b7 (ae (av (aa 0 rfl) ah rfl) (ae (av (aa 0 rfl) ah rfl) aj)) AA3)) Hq (bx nd rfl (.inl rfl)) (fun a _=>tR) (Le.of ⟨rfl,rfl,trivial⟩) (Nat.le_refl _) (fun k a hk ha=>?_) (.all rfl))
   (ai (dl1:=[.val (fF x),.val (.int (wy six)),.bw,.val (.lst ((Ri x).map Dt.int))]) (ax 3 nd (bP (jB (Cj (jB (Cj (jB (Cj (jB (rB (ae (av (aa 0 rfl) ah rfl) (ae (av (aa 0 rfl) ah rfl) (ae (av (aa 0 rfl) ah rfl) (ae (av (aa 0 rfl) ah rfl) aj)))) AA3)) (jB (Ka (ds:=[.int x.shift.1,.int x.shift.2]) T.nY (av (aa 0 rfl) ah rfl))) (sz _ (show 4+2<=100 by decide)))) (av (aa 0 rfl) ah rfl) (sz _ (by simp;omega)))) (av (aa 0 rfl) ah rfl) (sz _ (by simp;omega)))) (congrArg Dt.lst e1)))
   (ao (aF (bP (HG T.Eb rfl (ik e2 (iu (Ri x) Dt.int (fun _=>.bl true) (fun z=>[.val (.int z)]) (fun _=>true) rfl (cQ N3) (k9 (aa 3 rfl)) (cW (cQ N3) rfl) lU (fun a _=>dM) (.nil fun _ _=>rfl)
     (fun z hz _ C fp s' H' G'=>bM M0 ay hr (ae (aa 0 rfl) aj) ⟨z,rfl,rfl⟩) (sz _ (by unfold Ri;simp;omega))))) (congrArg Dt.bl (by rw[List.all_map];simp)))))))⟩
 have hla:a.length=wn six:=by
   rcases List.mem_iff_getElem?.mpr ⟨k,ha⟩ |> (by simpa using ·) with h | h <;> rw[h] <;> assumption
 exact .nx (ao (bQ (u:=false) (uS (pk (u:=false) (v:=false) (pL (u:=true) (ql (uU (d:=lD a) T.e6 (aa 2 rfl) (Au T.nY Sg.boot_list) rfl trivial rfl))) fun _=>(pK (dq (yk (yg (ds:=a.map Dt.int) T.iZ (aa 2 rfl)) (aa 1 rfl)) (by rw[List.length_map,hla,Yx,decide_eq_true rfl];rfl))))) (fun h=>nomatch h) (fun h=>bZ))) (Le.of ⟨rfl,rfl,trivial⟩)
theorem F7 (T:Txt K mg t):GF P w K mg base CX 2 "_law_after" 3 J7:=by
 refine⟨_,_,_,iq T.oR.F Bb rfl fun bg A outer s H E G ds r hr hl hR=>?_,(T.g T.oR.a),T.oR.F.kp,T.oR.b⟩
 obtain⟨six,x,y,rfl,wx,NN,rfl⟩:=hR
 have Kb:=Dj (P:=P) (w:=w) (base:=base) T
 have M3:=F3 (P:=P) (w:=w) (base:=base) T
 have nd:=Bb.nd
 have Yx:=qQ six
 have VS:=fe six
 have w6:wn six<=6:=by cases six <;> decide
 let fa:Int×Int:=tn six (x.turn % wy six).toNat y.shift
 let mR:Nat->List Int:=fun k=>(List.range (wn six)).map fun w=>if w < k then o7 six x y w else x.reach.getD w 0
 let mT:Nat->List Int:=fun k=>(List.range (wn six)).map fun w=>if w < k then p8 six x y w else x.aL.getD w 0
 have gl:∀ l:List Int,l.length=wn six->(List.range (wn six)).map (fun w=>l.getD w 0)=l:=fun l h=>by
   refine list_eq (six:=six) (by simp) h fun w hw=>?_
   rw[kZ hw]
 have e0R:mR 0=x.reach:=by show(List.range (wn six)).map _=_;rw[Eo,gl _ wx.rl]
 have e0T:mT 0=x.aL:=by show(List.range (wn six)).map _=_;rw[Eo,gl _ wx.tl]
 have enR:mR (wn six)=(jn six x y).reach:=by show(List.range (wn six)).map _=_;rw[Ep];rfl
 have enT:mT (wn six)=(jn six x y).aL:=by show(List.range (wn six)).map _=_;rw[Ep];rfl
 let D:Slot->Slot->Slot->Slot->Slot->List Slot:=fun a6 a7 a8 a9 Yy=>[.val (.int (wy six)),.val (fF x),.val (fF y),.val (sp fa),.val (sp (ad x.shift fa)),.val (.lst (Yt six x.shift)),a6,a7,a8,a9,Yy]
 let S:Nat->List Slot:=fun k=>D (.own (.lst ((mR k).map .int))) (.own (.lst ((mT k).map .int))) .bw .bw .bw
 have Z3:sm fa:=NM NN.sm
 have RJ:=wx.sm
 refine⟨_,.rt _,ai (ax 3 nd (d:=sp fa) (bM Kb ay hr (ae (aa 0 rfl) (ae (av (aa 2 rfl) ah rfl) (ae (av (aa 1 rfl) ah rfl) aj))) ⟨six,y.shift,x.turn,rfl,rfl⟩))
   (ai (ax 4 nd (d:=sp (ad x.shift fa)) (b7 (ae (aI (av (ds:=[.int x.shift.1,.int x.shift.2]) (av (aa 1 rfl) ah rfl) ah rfl) (av (ds:=[.int fa.1,.int fa.2]) (aa 3 rfl) ah rfl)) (ae (aI (av (ds:=[.int x.shift.1,.int x.shift.2]) (av (aa 1 rfl) ah rfl) ah rfl) (av (ds:=[.int fa.1,.int fa.2]) (aa 3 rfl) ah rfl)) aj)) AA3))
   (ai (dl1:=D .bw .bw .bw .bw .bw) (ax 5 nd (jB (AF M3 ay hr (ae (aa 0 rfl) (ae (av (aa 1 rfl) ah rfl) aj)) ⟨six,x.shift,rfl,rfl⟩)))
   (ai (dl1:=D (.own (.lst ((mR 0).map .int))) .bw .bw .bw .bw) (j4 6 nd (Ay (yr T.nY (av (aa 1 rfl) ah rfl)) (by rw[e0R])))
   (ai (dl1:=S 0) (j4 7 nd (Ay (yr T.nY (av (aa 1 rfl) ah rfl)) (by rw[e0T])))
   (ai (dl1:=S (wn six)) (i3 (o:=.nx (S (wn six))) (m:=wn six) 8 S nd rfl PassesOwn.leaving T.hU (ae (aa 0 rfl) aj) ⟨by omega,by omega⟩ (Le.of ⟨rfl,rfl,rfl,rfl,rfl,rfl,rfl,rfl,trivial⟩) (by omega) (fun k hk=>?_) (by rw[<- Yx,Int.toNat_natCast];exact .all rfl))
   ?_)))))⟩
 . obtain⟨v,hv,hvn⟩:∃ v:Nat,((k:Int) - x.turn) % wy six=(v:Int)/\v < wn six:=by
     have h1:=Int.emod_nonneg ((k:Int) - x.turn) (Int.ne_of_gt VS)
     have h2:=Int.emod_lt_of_pos ((k:Int) - x.turn) VS
     exact⟨(((k:Int) - x.turn) % wy six).toNat,by omega,by omega⟩
   have rr:∀ ns:List Int,(nu six ns x.turn).getD k 0=ns.getD v 0:=fun ns=>by rw[v8 six ns x.turn hk,hv,Int.toNat_natCast]
   have gm:∀ (f g:Nat->Int),ny (((List.range (wn six)).map fun w=>if w < k then f w else g w).map Dt.int) (k:Int)=some (.int (g k)):=fun f g=>by
     refine jY ?_
     rw[List.getElem?_map,List.getElem?_map,List.getElem?_range hk]
     simp
   have yv:∀ l:List Int,l.length=wn six->ny (l.map Dt.int) (v:Int)=some (.int (l.getD v 0)):=fun l h=>by
     rw[Mt (by omega) (by omega),Int.toNat_natCast]
   have Z4:=Rg six x.shift (z:=(k:Int)) (by omega) (by omega)
   have lR:((mR k).map Dt.int).length=wn six:=by simp[mR]
   have lT:((mT k).map Dt.int).length=wn six:=by simp[mT]
   let D9:Slot->Slot->List Slot:=fun a6 a7=>D a6 a7 (.val (.int (k:Int))) (.val (.int (v:Int))) .bw
   refine .nx (dl':=D9 (.own (.lst ((mR (k+1)).map .int))) (.own (.lst ((mT (k+1)).map .int)))) (ai (dl1:=D9 (.own (.lst ((mR k).map .int))) (.own (.lst ((mT k).map .int)))) (ax 9 nd (bP (dc (hV (aa 8 rfl) (av (aa 1 rfl) ah rfl)) (aa 0 rfl) VS) (congrArg Dt.int hv)))
     (ao (bQ (Aw (aI (uT (aa 5 rfl) (aa 8 rfl) Z4) (uT (av (aa 2 rfl) ah rfl) (aa 9 rfl) (yv y.reach NN.rl))) (pN 6 (aa 8 rfl) (gm _ _))) (fun h=>?_) (fun h=>?_)))) (Le.of ⟨rfl,rfl,rfl,rfl,rfl,rfl,rfl,rfl,trivial⟩)
   . have h:=of_decide_eq_true h
     have c:¬ (nu six y.reach x.turn).getD k 0+iV six k x.shift<=x.reach.getD k 0:=by rw[rr];omega
     have eR:o7 six x y k=iV six k x.shift+y.reach.getD v 0:=by
       have:o7 six x y k=(nu six y.reach x.turn).getD k 0+iV six k x.shift:=if_neg c
       rw[this,rr];omega
     have eT:p8 six x y k=x.many+y.aL.getD v 0:=by
       have:p8 six x y k=(nu six y.aL x.turn).getD k 0+x.many:=if_neg c
       rw[this,rr];omega
     let aR:List Dt:=((mR k).map Dt.int).set k (.int (iV six k x.shift+y.reach.getD v 0))
     let aT:List Dt:=((mT k).map Dt.int).set k (.int (x.many+y.aL.getD v 0))
     have q1:(mR (k+1)).map Dt.int=aR:=by
       show _=((mR k).map Dt.int).set k (.int (iV six k x.shift+y.reach.getD v 0))
       rw[l8,<- eR]
       show _=(((List.range (wn six)).map fun w=>if w < k then o7 six x y w else x.reach.getD w 0).set k (o7 six x y k)).map Dt.int
       rw[oU hk]
     have q2:(mT (k+1)).map Dt.int=aT:=by
       show _=((mT k).map Dt.int).set k (.int (x.many+y.aL.getD v 0))
       rw[l8,<- eT]
       show _=(((List.range (wn six)).map fun w=>if w < k then p8 six x y w else x.aL.getD w 0).set k (p8 six x y k)).map Dt.int
       rw[oU hk]
     rw[q1,q2]
     exact ai (dl1:=D9 (.own (.lst aR)) (.own (.lst ((mT k).map .int)))) (jC (m:=k) 6 (aI (uT (aa 5 rfl) (aa 8 rfl) Z4) (uT (av (aa 2 rfl) ah rfl) (aa 9 rfl) (yv y.reach NN.rl))) (aa 8 rfl) (zt (by omega)))
       (ao (jC (m:=k) 7 (aI (av (aa 1 rfl) ah rfl) (uT (av (aa 2 rfl) ah rfl) (aa 9 rfl) (yv y.aL NN.tl))) (aa 8 rfl) (zt (by omega))))
   . have h:=of_decide_eq_false h
     have c:(nu six y.reach x.turn).getD k 0+iV six k x.shift<=x.reach.getD k 0:=by rw[rr];omega
     have eR:o7 six x y k=x.reach.getD k 0:=if_pos c
     have eT:p8 six x y k=x.aL.getD k 0:=if_pos c
     have sR:mR (k+1)=mR k:=List.map_congr_left fun w _=>by
       by_cases z:w=k
       . subst z;rw[if_pos (by omega),if_neg (by omega),eR]
       . by_cases z2:w < k
         . rw[if_pos (by omega),if_pos z2]
         . rw[if_neg (by omega),if_neg z2]
     have sT:mT (k+1)=mT k:=List.map_congr_left fun w _=>by
       by_cases z:w=k
       . subst z;rw[if_pos (by omega),if_neg (by omega),eT]
       . by_cases z2:w < k
         . rw[if_pos (by omega),if_pos z2]
         . rw[if_neg (by omega),if_neg z2]
     rw[sR,sT]
     exact bZ
 . have ear:x.iS+y.iS+x.shift.1 * fa.2 - x.shift.2 * fa.1=(jn six x y).iS:=by
     show _=x.iS+y.iS+(x.shift.1 * fa.2 - x.shift.2 * fa.1)
     omega
   have m1:IntMulOk x.shift.1 fa.2:=vN (m:=1000) (n:=1000) (by omega) Z3.2 (by decide)
   have m2:IntMulOk x.shift.2 fa.1:=vN (m:=1000) (n:=1000) (by omega) Z3.1 (by decide)
   show me _ _ _ (D (.own (.lst ((mR (wn six)).map .int))) (.own (.lst ((mT (wn six)).map .int))) .bw .bw .bw) _ _
   rw[enR,enT]
   refine ai (dl1:=D (.own (.lst ((jn six x y).reach.map .int))) (.own (.lst ((jn six x y).aL.map .int))) .bw .bw (.val (.int (jn six x y).iS))) (ax 10 nd (bP (hV (aI (aI (av (aa 1 rfl) ah rfl) (av (aa 2 rfl) ah rfl)) (eE (av (ds:=[.int x.shift.1,.int x.shift.2]) (av (aa 1 rfl) ah rfl) ah rfl) (av (ds:=[.int fa.1,.int fa.2]) (aa 3 rfl) ah rfl) m1)) (eE (av (ds:=[.int x.shift.1,.int x.shift.2]) (av (aa 1 rfl) ah rfl) ah rfl) (av (ds:=[.int fa.1,.int fa.2]) (aa 3 rfl) ah rfl) m2)) (congrArg Dt.int ear))) ?_
   refine uX (w:=.lst ((jn six x y).reach.map .int)) 6 (uX (w:=.lst ((jn six x y).aL.map .int)) 7 ?_)
   show me _ _ _ (D (.val (.lst ((jn six x y).reach.map .int))) (.val (.lst ((jn six x y).aL.map .int))) .bw .bw (.val (.int (jn six x y).iS))) _ _
   exact ao (aF (bP (d:=.tup [.int (x.many+y.many),.int ((x.turn+y.turn) % wy six),sp (ad x.shift fa),.int (x.cz+y.cz),.lst ((jn six x y).reach.map .int),.lst ((jn six x y).aL.map .int),.int (jn six x y).iS]) (b7 (ae (aI (av (aa 1 rfl) ah rfl) (av (aa 2 rfl) ah rfl)) (ae (dc (aI (av (aa 1 rfl) ah rfl) (av (aa 2 rfl) ah rfl)) (aa 0 rfl) VS) (ae (aa 4 rfl) (ae (aI (av (aa 1 rfl) ah rfl) (av (aa 2 rfl) ah rfl)) (ae (aa 6 rfl) (ae (aa 7 rfl) (ae (aa 10 rfl) aj))))))) AA3) rfl))
theorem Rj (l:List Int):∃ l':List Int,l'.Perm l/\l'.Pairwise (·<=·):=by
 refine⟨l.mergeSort (fun a b=>decide (a<=b)),List.mergeSort_perm _ _,?_⟩
 have:=List.pairwise_mergeSort (le:=fun(a b:Int)=>decide (a<=b)) (fun a b c h1 h2=>by simp at h1 h2 ⊢;omega) (fun a b=>by simp;omega) l
 exact this.imp fun h=>of_decide_eq_true h
theorem M4 {W:List Nat}{b c e:Nat}(h1:b<=c)(h2:c<=e):cut W b c ++ cut W c e=cut W b e:=by
 unfold cut
 have e1:W.take c=(W.take e).take c:=by rw[List.take_take,Nat.min_eq_left h2]
 rw[e1]
 generalize W.take e=V
 have e2:V=V.take c ++ V.drop c:=(List.take_append_drop c V).symm
 by_cases h:b<=(V.take c).length
 . calc (V.take c).drop b ++ V.drop c=(V.take c ++ V.drop c).drop b:=(List.drop_append_of_le_length h).symm
     _=V.drop b:=by rw[<- e2]
 . have hl:V.length<=b:=by rw[List.length_take] at h;omega
   rw[List.drop_eq_nil_of_le (by omega),List.drop_eq_nil_of_le (by omega),List.drop_eq_nil_of_le hl];rfl
noncomputable abbrev Rk:Stmt->Scope
 | .Assign _ (.Call _ (.ListComp _ _ sc _::_) _ _) _=>sc
 | _=>af (.Pass ⟨0,0,0,0⟩)
noncomputable abbrev U7:Scope:=Rk ((aD A3).getD 4 (.Pass ⟨0,0,0,0⟩))
theorem N4:iY U7 (af A3) NJ ["_law_k","_law_script","_law_size"] ["_law_k"] [0,7]=true:=by decide +kernel
theorem Rm (T:Txt K mg t):jx P w K mg base CX 12 t.qH t.vx ["_law_script"] (Jy K):=by
 refine iq T.Bf.F IB rfl fun bg A outer s H E G ds r hr hl hR=>?_
 obtain⟨ns,hlen,rfl,rfl⟩:=hR
 have U8:=Rf (P:=P) (w:=w) (base:=base) T
 have M5:=JG (P:=P) (w:=w) (base:=base) T
 have EF:=F7 (P:=P) (w:=w) (base:=base) T
 have Kc:=MZ (P:=P) (w:=w) (base:=base) T
 have zJ:=F6 (P:=P) (w:=w) (base:=base) T
 have M6:=IT (P:=P) (w:=w) (base:=base) T
 have Rn:=Ju (P:=P) (w:=w) (base:=base) T
 have Yz:=J3 (P:=P) (w:=w) (base:=base) T
 have JS:=Eu (P:=P) (w:=w) (base:=base) T
 have Kd:=Di (P:=P) (w:=w) (base:=base) T
 have YA:=F5 (P:=P) (w:=w) (base:=base) T
 have si:=MY (P:=P) (w:=w) (base:=base) T
 have nd:=IB.nd
 let six:=Ey ns
 let rows:=v3 ns
 let wd:=uy ns
 have M7:nv rows wd:=UP ns
 have ok:cN rows:=M7.ok
 have hb:=MK ns (far:=16) (by decide) (by decide)
 obtain⟨age,kO⟩:∃ age:Nat,pG ns 16=((age:Nat):Int):=⟨(pG ns 16).toNat,by omega⟩
 have Km:age<=200:=by omega
 obtain⟨W,hW⟩:∃ W:List Nat,W=F0 rows wd age:=⟨_,rfl⟩
 obtain⟨sz,hsz⟩:∃ sz:Nat,sz=W.length:=⟨_,rfl⟩
 have esz:((sz:Nat):Int)=Yk rows wd age:=by rw[hsz,hW];exact EC M7 age
 have hWb:sz < 2 ^ 990:=by rw[hsz,hW];exact NY M7 Km
 obtain⟨pl,m8⟩:∃ pl:Nat->Nat,∀ k,zI ns (9+3 * k) % (((sz:Nat):Int)+1)=((pl k:Nat):Int)/\pl k<=sz:=by
   refine⟨fun k=>(zI ns (9+3 * k) % (((sz:Nat):Int)+1)).toNat,fun k=>?_⟩
   have a:=Int.emod_nonneg (zI ns (9+3 * k)) (show((sz:Nat):Int)+1≠0 by omega)
   have b:=Int.emod_lt_of_pos (zI ns (9+3 * k)) (show(0:Int) < ((sz:Nat):Int)+1 by omega)
   show zI ns (9+3 * k) % (((sz:Nat):Int)+1)=(((zI ns (9+3 * k) % (((sz:Nat):Int)+1)).toNat:Nat):Int)/\(zI ns (9+3 * k) % (((sz:Nat):Int)+1)).toNat<=sz
   generalize zI ns (9+3 * k) % (((sz:Nat):Int)+1)=y at a b ⊢
   omega
 obtain⟨b,c,e,U9,YB,Va,LC,N5⟩:∃ b c e:Nat,[((b:Nat):Int),((c:Nat):Int),((e:Nat):Int)].Perm ((List.range 3).map fun k=>((pl k:Nat):Int))/\[((b:Nat):Int),((c:Nat):Int),((e:Nat):Int)].Pairwise (·<=·)/\b<=c/\c<=e/\e<=sz:=by
   obtain⟨l',Kl,zV⟩:=Rj ((List.range 3).map fun k=>((pl k:Nat):Int))
   have WN:l'.length=3:=by rw[Kl.length_eq,List.length_map,List.length_range]
   have yw:∀ a∈l',∃ b:Nat,a=(b:Int)/\b<=sz:=fun a ha=>by
     obtain⟨k,_,rfl⟩:=List.mem_map.mp (Kl.mem_iff.mp ha)
     exact⟨pl k,rfl,(m8 k).2⟩
   match l',WN,Kl,zV,yw with
   | [x,y,z],_,Kl,zV,yw=>
     obtain⟨x',rfl,hx⟩:=yw x (by simp)
     obtain⟨y',rfl,hy⟩:=yw y (by simp)
     obtain⟨z',rfl,hz⟩:=yw z (by simp)
     refine⟨x',y',z',Kl,zV,?_,?_,hz⟩
     . have:=List.pairwise_iff_getElem.mp zV 0 1 (by simp) (by simp) (by omega)
       simpa using this
     . have:=List.pairwise_iff_getElem.mp zV 1 2 (by simp) (by simp) (by omega)
       simpa using this
 let nD:Nat->Dt:=fun a=>.int ((a:Nat):Int)
 let X3:Nat->Nat->List Str:=fun p q=>qc rows (cut W p q)
 have Z5:∀ p q,p<=q->q<=sz->(X3 p q).length=q - p:=fun p q h1 h2=>by
   show(qc rows (cut W p q)).length=_
   unfold qc;rw[List.length_map];exact MW h1 (by omega)
 have Kw:∀ p q,p<=q->q<=sz->WF six (bD six (X3 p q)):=fun p q h1 h2=>oV six (by rw[Z5 p q h1 h2];omega)
 have eX:jn six (bD six (X3 b c)) (bD six (X3 c e))=bD six (X3 b e):=by
   rw[zG six _ _ _ rfl]
   show bD six (qc rows (cut W b c) ++ qc rows (cut W c e))=bD six (qc rows (cut W b e))
   unfold qc
   rw[<- List.map_append,M4 Va LC]
 have e0:fF (zO six)=fF (bD six (X3 c c)):=by
   have:cut W c c=[]:=by unfold cut;exact List.drop_eq_nil_of_le (by rw[List.length_take];omega)
   show _=fF (bD six (qc rows (cut W c c)))
   rw[this];rfl
 let Q:Nat->List Str:=fun k=>qc rows ((wd.take k).flatMap (gP rows age))
 have hQl:∀ k,(Q k).length < 2 ^ 990:=fun k=>by
   show(qc rows ((wd.take k).flatMap (gP rows age))).length < _
   unfold qc;rw[List.length_map]
   have e1:W=(wd.take k).flatMap (gP rows age) ++ (wd.drop k).flatMap (gP rows age):=by
     rw[<- List.flatMap_append,List.take_append_drop,hW];rfl
   have:=congrArg List.length e1
   rw[List.length_append] at this
   omega
 have hQS:∀ k (h:k < wd.length),jn six (bD six (Q k)) (Dg six rows age wd[k])=bD six (Q (k+1)):=fun k h=>by
   show jn six (bD six (Q k)) (bD six (qc rows (gP rows age wd[k])))=_
   rw[zG six _ _ _ rfl]
   show bD six (qc rows ((wd.take k).flatMap (gP rows age)) ++ qc rows (gP rows age wd[k]))=bD six (qc rows ((wd.take (k+1)).flatMap (gP rows age)))
   have e1:(wd.take (k+1)).flatMap (gP rows age)=(wd.take k).flatMap (gP rows age) ++ gP rows age wd[k]:=by
     rw[List.take_add_one,List.getElem?_eq_getElem h,List.flatMap_append]
     show _ ++ [wd[k]].flatMap (gP rows age)=_
     rw[List.flatMap_cons,List.flatMap_nil,List.append_nil]
   rw[e1]
   unfold qc
   rw[List.map_append]
 have eQ:bD six (Q wd.length)=bD six (X3 0 sz):=by
   show bD six (qc rows ((wd.take wd.length).flatMap (gP rows age)))=bD six (qc rows (cut W 0 sz))
   have e1:cut W 0 sz=W:=by unfold cut;rw[hsz,List.take_length,List.drop_zero]
   rw[List.take_length,e1,hW];rfl
 have YC:∀ x:Tr,PyData.eqv (pd (fF x)) (pd (fF x))=true:=fun x=>eqv_refl _ (k4 x).1
 have e4:(((List.range 3).filter fun _=>true).map fun k=>Dt.int ((pl k:Nat):Int))=((List.range 3).map fun k=>((pl k:Nat):Int)).map Dt.int:=by
   rw[List.filter_eq_self.mpr (fun _ _=>rfl),List.map_map];rfl
 refine⟨_,.rt _,?_⟩
 refine ai (LO 1 2 3 4 nd rfl (bP (bM M5 ay hr (ae (aa 0 rfl) (ae ah aj)) ⟨ns,16,rfl,⟨by decide,by decide⟩,rfl⟩) (by rw[kO]))) ?_
 refine ai (ax 5 nd (d:=t.Yh six rows wd 1) (Ld (AE Rn ay hr (ae (Tg (tP M6 ay hr (ae (aa 1 rfl) (ae (jB (yr T.nY (aa 2 rfl))) aj)) ⟨six,rows,rfl,ok,rfl⟩)) (ae (aa 3 rfl) aj)) ⟨six,rows,wd,rfl,M7,rfl⟩))) ?_
 refine AY 5 fun l' ls' oH=>?_
 refine ai (ax 6 nd (d:=.uO t.aB (t.w4 six rows wd l' ls' 1) [t.o8 six rows] ["tracks"] 1) (Ld (AE Yz ay hr (ae (aa 5 rfl) aj) ⟨six,rows,wd,l',ls',1,rfl,M7,rfl⟩))) ?_
 refine AY 6 fun l ls Z0=>?_
 have Z6:MT t six rows wd ls' ls:=⟨M7,oH,Z0⟩
 let gE:Dt:=BF t six rows wd l' ls' 1
 let dE:Dt:=.obj t.aB (t.zH six rows wd l' ls' 1 l ls 1)
 let D:Slot->Slot->Slot->Slot->Slot->Slot->Slot->Slot->Slot->List Slot:=fun a7 a8 a9 Yy a11 a12 a13 a14 a15=>[.val (.oh ns),.val (.int (wy six)),.val (.lst (rows.map qT)),.val (.str (tx wd)),.val (nD age),.val gE,.val dE,a7,a8,a9,Yy,a11,a12,a13,a14,a15]
 have Vb:∀ p q:Nat,p<=q->q<=sz->sh t [dE,nD age,nD p,nD q] (.ret (t.o6 six (bD six (X3 p q)))):=fun p q h1 h2=>by
   show sh t [dE,nD age,nD p,nD q] (.ret (t.o6 six (bD six (qc rows (cut W p q)))))
   rw[hsz,hW] at h2
   rw[hW]
   exact⟨six,rows,wd,l',ls',1,l,ls,1,age,p,q,rfl,Z6,Km,⟨h1,h2⟩,rfl⟩
 have RL:∀ x:Tr,WF six x->J6 t [t.BU six x] (.ret (fF x)):=fun x h=>⟨six,x,rfl,h,h.rl,rfl⟩
 have whR:∀ x,x∈rows.map (·.c)->BO t [dE,nD age,.str (sg x)] (.ret (t.o6 six (Dg six rows age x))):=fun x hx=>⟨six,rows,wd,l',ls',1,l,ls,1,age,x,rfl,Z6,⟨by decide,by decide⟩,Km,hx,rfl⟩
 have Z7:∀ x,x∈rows.map (·.c)->WF six (Dg six rows age x):=fun x hx=>oV six (by unfold qc;rw[List.length_map];exact UY ok hx Km)
 let tX:Nat->Nat->Dt:=fun p q=>fF (bD six (X3 p q))
 show me _ _ _ (D .bw .bw .bw .bw .bw .bw .bw .bw .bw) _ _
 refine ai (dl1:=D (.val (nD sz)) .bw .bw .bw .bw .bw .bw .bw .bw) (ax 7 nd (bB (fs:=t.iW six rows wd l' ls' 1) (aa 5 rfl) JS ay hr (ae (aa 4 rfl) aj) ⟨six,rows,wd,l',ls',1,age,rfl,M7,oH,Km,by show Res.ret (.int ((sz:Nat):Int))=_;rw[esz]⟩)) ?_
 refine ai (dl1:=D (.val (nD sz)) (.val (nD b)) (.val (nD c)) (.val (nD e)) .bw .bw .bw .bw .bw) (J9 8 9 10 nd rfl (jB (FE (ns:=(List.range 3).map fun k=>((pl k:Nat):Int)) (ns':=[((b:Nat):Int),((c:Nat):Int),((e:Nat):Int)]) T.vG (ik e4 (iu (List.range 3) (fun(k:Nat)=>Dt.int (k:Nat)) (fun k=>Dt.int ((pl k:Nat):Int)) (fun(k:Nat)=>[.val (.int (k:Nat))]) (fun _=>true) rfl (cQ N4) (n8 rfl T.hU (ae ah aj)) (cW (cQ N4) rfl) (AL (j:=3) ⟨by decide,by decide⟩) (fun a _=>dM) (.nil fun _ _=>rfl)
     (fun k hk _ C fp s' H' G'=>have hk3:k < 3:=List.mem_range.mp hk;bP (dc (bM U8 ay hr (ae (aa 1 rfl) (ae (bP (aI ah (eE ah (aa 0 rfl) (vN (m:=10) (n:=40) (by omega) (by omega) (by decide)))) (congrArg Dt.int (show(9:Int)+3 * (k:Int)=((9+3 * k:Nat):Int) by omega))) aj)) ⟨ns,9+3 * k,rfl,by omega,rfl⟩) (aI (aa 2 rfl) ah) (show(0:Int) < ((sz:Nat):Int)+1 by omega)) (congrArg Dt.int (m8 k).1)) (r0 (by decide)))) (show 3 < 64 by decide) U9 YB))) ?_
 have tF:b<=e:=by omega
 have RN:c<=sz:=by omega
 let D2:Slot->Slot->Slot->Slot->Slot->List Slot:=D (.val (nD sz)) (.val (nD b)) (.val (nD c)) (.val (nD e))
 refine ai (dl1:=D2 (.val (tX b e)) .bw .bw .bw .bw) (ax 11 nd (bL (fs:=t.jt six (bD six (X3 b e))) (lN (bB (fs:=t.zH six rows wd l' ls' 1 l ls 1) (aa 6 rfl) Kd ay hr (ae (aa 4 rfl) (ae (aa 8 rfl) (ae (aa 10 rfl) aj))) (Vb b e tF N5))) si ay hr (RL _ (Kw b e tF N5)))) ?_
 refine ai (dl1:=D2 (.val (tX b e)) (.val (tX b c)) .bw .bw .bw) (ax 12 nd (bL (fs:=t.jt six (bD six (X3 b c))) (lN (bB (fs:=t.zH six rows wd l' ls' 1 l ls 1) (aa 6 rfl) Kd ay hr (ae (aa 4 rfl) (ae (aa 8 rfl) (ae (aa 9 rfl) aj))) (Vb b c Va RN))) si ay hr (RL _ (Kw b c Va RN)))) ?_
 refine ai (dl1:=D2 (.val (tX b e)) (.val (tX b c)) (.val (tX c e)) .bw .bw) (ax 13 nd (bL (fs:=t.jt six (bD six (X3 c e))) (lN (bB (fs:=t.zH six rows wd l' ls' 1 l ls 1) (aa 6 rfl) Kd ay hr (ae (aa 4 rfl) (ae (aa 9 rfl) (ae (aa 10 rfl) aj))) (Vb c e LC N5))) si ay hr (RL _ (Kw c e LC N5)))) ?_
 refine ai (bQ (u:=false) (uS (pk (u:=false) (v:=false) (pL (u:=true) (ql (bM zJ ay hr (ae (aa 11 rfl) (ae (aa 1 rfl) aj)) ⟨six,_,rfl,Kw b e tF N5,rfl⟩))) fun _=>(pk (u:=false) (v:=false) (pL (u:=true) (ql (bM zJ ay hr (ae (aa 12 rfl) (ae (aa 1 rfl) aj)) ⟨six,_,rfl,Kw b c Va RN,rfl⟩))) fun _=>(pK (pL (u:=true) (ql (bM zJ ay hr (ae (aa 13 rfl) (ae (aa 1 rfl) aj)) ⟨six,_,rfl,Kw c e LC N5,rfl⟩))))))) (fun h=>nomatch h) (fun h=>bZ)) ?_
 have Vc:(bD six (X3 b e)).many=((e:Nat):Int) - ((b:Nat):Int):=by
   rw[(Bs six _ _ rfl).1,Z5 b e tF N5];omega
 refine ai (bQ (u:=false) (uS (pk (u:=false) (v:=false) (Nk hr.units (aa 11 rfl) (bM EF ay hr (ae (aa 1 rfl) (ae (aa 12 rfl) (ae (aa 13 rfl) aj))) ⟨six,_,_,rfl,Kw b c Va RN,Kw c e LC N5,rfl⟩) (k4 _) (k4 _) (by rw[eX,YC];rfl)) fun _=>(pK (dq (yk (av (aa 11 rfl) ah rfl) (hV (aa 10 rfl) (aa 8 rfl))) (by rw[Vc,decide_eq_true rfl];rfl))))) (fun h=>nomatch h) (fun h=>bZ)) ?_
 refine ai (bQ (u:=false) (Nk hr.units (bL (fs:=t.jt six (bD six (X3 c c))) (lN (bB (fs:=t.zH six rows wd l' ls' 1 l ls 1) (aa 6 rfl) Kd ay hr (ae (aa 4 rfl) (ae (aa 9 rfl) (ae (aa 9 rfl) aj))) (Vb c c (Nat.le_refl _) RN))) si ay hr (RL _ (Kw c c (Nat.le_refl _) RN))) (bM Kc ay hr (ae (aa 1 rfl) aj) ⟨six,rfl,rfl⟩) (k4 _) (k4 _) (by rw[e0,YC];rfl)) (fun h=>nomatch h) (fun h=>bZ)) ?_
 let S:Nat->List Slot:=fun k=>D2 (.val (tX b e)) (.val (tX b c)) (.val (tX c e)) (.val (fF (bD six (Q k)))) .bw
 refine ai (dl1:=S 0) (ax 14 nd (bM Kc ay hr (ae (aa 1 rfl) aj) ⟨six,rfl,rfl⟩)) ?_
 refine ai (dl1:=S wd.length) (oo (o:=.nx (S wd.length)) (m:=wd.length) wd (fun x=>Dt.str (sg x)) (fun x dl=>dl.set 15 (.val (.str (sg x)))) S rfl PassesOwn.leaving (i4 (aa 3 rfl)) (e9 (dY M7.asc) (gd wd)) (bx nd rfl (.inl rfl)) (fun a _=>tR) (Le.of ⟨rfl,rfl,rfl,rfl,rfl,rfl,rfl,rfl,rfl,rfl,rfl,rfl,rfl,rfl,rfl,trivial⟩) (Nat.le_refl _) (fun k a hk ha=>?_) (.all rfl)) ?_
 . rw[List.getElem?_eq_getElem hk] at ha
   cases ha
   have hx:wd[k]∈rows.map (·.c):=M7.wm _ (List.getElem_mem hk)
   refine .nx (dl':=D2 (.val (tX b e)) (.val (tX b c)) (.val (tX c e)) (.val (fF (jn six (bD six (Q k)) (Dg six rows age wd[k])))) (.val (.str (sg wd[k])))) (ao (ax 14 nd (bM EF ay hr (ae (aa 1 rfl) (ae (aa 14 rfl) (ae (bL (fs:=t.jt six (Dg six rows age wd[k])) (lN (bB (fs:=t.zH six rows wd l' ls' 1 l ls 1) (aa 6 rfl) YA ay hr (ae (aa 4 rfl) (ae (aa 15 rfl) aj)) (whR _ hx))) si ay hr (RL _ (Z7 _ hx))) aj))) ⟨six,_,_,rfl,oV six (hQl k),Z7 _ hx,rfl⟩))) (Le.of ⟨rfl,rfl,rfl,rfl,rfl,rfl,rfl,rfl,rfl,rfl,rfl,rfl,rfl,rfl,?_,trivial⟩)
   show Slot.val (fF (bD six (Q (k+1))))=_
   rw[hQS k hk]
 show me _ _ _ (D2 (.val (tX b e)) (.val (tX b c)) (.val (tX c e)) (.val (fF (bD six (Q wd.length)))) .bw) _ _
 rw[eQ]
 exact ao (aF (SY hr.units (bL (fs:=t.jt six (bD six (X3 0 sz))) (lN (bB (fs:=t.zH six rows wd l' ls' 1 l ls 1) (aa 6 rfl) Kd ay hr (ae (aa 4 rfl) (ae ah (ae (aa 7 rfl) aj))) (Vb 0 sz (Nat.zero_le _) (Nat.le_refl _)))) si ay hr (RL _ (Kw 0 sz (Nat.zero_le _) (Nat.le_refl _)))) (aa 14 rfl) (k4 _) (k4 _) (YC _)))
end Pf
local macro_rules | `(tactic| walk_at "b")=>`(tactic| first
 | exact fun _ _ _ _ _ _ us hl=>match us,hl with | [_],_=>rfl
 | exact fun _ _ _ _ _ _ us hl=>match us,hl with | [_,_],_=>rfl
 | exact fun _ _ _ _ _ _ us hl=>match us,hl with | [_,_,_],_=>rfl
 | exact fun _ _ _ _ _ _ us hl=>match us,hl with | [_,_,_,_],_=>rfl
 | exact fun _ _ _ _ _ _ us hl=>match us,hl with | [_,_,_,_,_],_=>rfl
 | exact fun _ _ _ _ _ _ us hl=>match us,hl with | [_,_,_,_,_,_],_=>rfl
 | exact fun _ _ _ _ _ _ us hl=>match us,hl with | [_,_,_,_,_,_,_],_=>rfl
 | exact fun _ _ _ _ _ _ us hl=>match us,hl with | [_,_,_,_,_,_,_,_],_=>rfl
 | exact fun _ _ _ _ _ _ us hl=>match us,hl with | [_,_,_,_,_,_,_,_,_],_=>rfl
 | exact fun _ _ _ _ _ _ us hl=>match us,hl with | [],_=>rfl)
local macro_rules | `(tactic| walk_at "z")=>`(tactic| first
 | (refine' Pf.Qr ?a ?l ?c ?k ?b;(case a=>k_is);(case l=>k_is);(case c=>k_is);(case k=>k_is);(case b=>walk_at "b"))
 | (refine' Pf.Qp ?l ?c ?k ?b;(case l=>k_is);(case c=>k_is);(case k=>k_is);(case b=>walk_at "b"))
 | (refine' Pf.Qq ?l ?c ?k ?b;(case l=>k_is);(case c=>k_is);(case k=>k_is);(case b=>walk_at "b"))
 | (refine' Pf.Qs ?a ?p ?h ?o ?s ?k;(case a=>k_is);(case p=>k_is);(case h=>k_is);(case o=>k_is);(case s=>k_is);(case k=>k_is))
 | (refine' L2.Meth.mk ?a ?i ?k;(case a=>k_is);(case i=>k_is);(case k=>k_is))
 | (refine' L2.Mk.mk ?a ?i ?f ?k;(case a=>k_is);(case i=>k_is);(case f=>k_is);(case k=>k_is))
 | (refine' Sg.Pa.mk ?a ?i ?k;(case a=>k_is);(case i=>k_is);(case k=>k_is))
 | k_is | kernel_rfl)
namespace PySem.W.Fast
theorem tw12276729843352044788:True:=⟨⟩
theorem tw8887216480625050418:True:=⟨⟩
theorem tw17969748347859533045:True:=⟨⟩
theorem tw12278495368802565111:True:=⟨⟩
theorem tw15216265695622055433:True:=⟨⟩
theorem tw12834554349725966481:True:=⟨⟩
theorem tw15218738202122639532:True:=⟨⟩
theorem tw7075359324706349267:True:=⟨⟩
theorem tw10566498752807124375:True:=⟨⟩
theorem tw14970969867562969194:True:=⟨⟩
theorem tw9022683536457987856:True:=⟨⟩
theorem tw10007274857148549997:True:=⟨⟩
theorem tw11381859901617600048:True:=⟨⟩
theorem tw12234931397367435827:True:=⟨⟩
theorem tw9839908692042126127:True:=⟨⟩
theorem tw11281335592805401210:True:=⟨⟩
theorem tw4920310766321867495:True:=⟨⟩
theorem tw14434529559226779159:True:=⟨⟩
theorem tw11922872584085459385:True:=⟨⟩
theorem tw1276921811980285289:True:=⟨⟩
theorem tw14374265087577066860:True:=⟨⟩
theorem tw7839434100129910043:True:=⟨⟩
theorem tw15606467843200907313:True:=⟨⟩
theorem tw1811915647780969331:True:=⟨⟩
theorem tw10494382373344823516:True:=⟨⟩
theorem tw12814664035714900532:True:=⟨⟩
theorem tw14946854971265893518:True:=⟨⟩
theorem tw12143745038566639003:True:=⟨⟩
theorem tw15881905313139711755:True:=⟨⟩
theorem tw15406687560529170165:True:=⟨⟩
theorem tw14975413526501168471:True:=⟨⟩
theorem tw16913386294537521003:True:=⟨⟩
theorem tw9811096979164316773:True:=⟨⟩
theorem tw7888133951617646620:True:=⟨⟩
theorem tw17150327013176823001:True:=⟨⟩
theorem tw3314337613140084885:True:=⟨⟩
theorem tw11880422097801169926:True:=⟨⟩
theorem tw8424350544249330114:True:=⟨⟩
theorem tw16537347485134548695:True:=⟨⟩
theorem tw9946809347349886205:True:=⟨⟩
theorem tw14099427410160375817:True:=⟨⟩
theorem tw5997614622079477798:True:=⟨⟩
theorem tw9718968644907704887:True:=⟨⟩
theorem tw1708769771355653739:True:=⟨⟩
theorem tw17032260298549066460:True:=⟨⟩
theorem tw17227639073889131768:True:=⟨⟩
theorem tw13788334214695858957:True:=⟨⟩
theorem tw4279441432820040499:True:=⟨⟩
theorem tw8880215652810723718:True:=⟨⟩
theorem tw18332274735962440547:True:=⟨⟩
theorem tw2077387403570251834:True:=⟨⟩
theorem tw9569107441195906028:True:=⟨⟩
theorem tw11341274061963551298:True:=⟨⟩
theorem tw1726662468418493194:True:=⟨⟩
theorem tw6978230242684420895:True:=⟨⟩
theorem tw11918200583037868946:True:=⟨⟩
theorem tw8496778313940848466:True:=⟨⟩
theorem tw14089082389931295328:True:=⟨⟩
theorem tw12142308525093761104:True:=⟨⟩
theorem tw18122565174898200219:True:=⟨⟩
theorem tw14090331757318542753:True:=⟨⟩
theorem tw13013001171330643289:True:=⟨⟩
theorem tw12052132056529872971:True:=⟨⟩
theorem tw16455771203008304908:True:=⟨⟩
theorem tw7825912644913845201:True:=⟨⟩
theorem tw2556057854746662431:True:=⟨⟩
theorem tw18253816768325741641:True:=⟨⟩
theorem tw6159363024360411816:True:=⟨⟩
theorem tw15658669828351081124:True:=⟨⟩
theorem tw16761924726250201462:True:=⟨⟩
theorem tw16478092133290359758:True:=⟨⟩
theorem tw11700191778916253674:True:=⟨⟩
theorem tw16797550760153443998:True:=⟨⟩
theorem tw190339124030755964:True:=⟨⟩
theorem tw3784553267017476375:True:=⟨⟩
theorem tw10738632697808388479:True:=⟨⟩
theorem tw14455260723182260313:True:=⟨⟩
theorem tw18187998431820320568:True:=⟨⟩
theorem tw9418966462036384822:True:=⟨⟩
theorem tw5034525054052606820:True:=⟨⟩
theorem tw11047091513280607942:True:=⟨⟩
theorem tw13299941449013721547:True:=⟨⟩
theorem tw7202869569499520458:True:=⟨⟩
theorem tw16253641726517246343:True:=⟨⟩
theorem tw13039429983474316649:True:=⟨⟩
theorem tw14815435727618826211:True:=⟨⟩
theorem tw12342924400854367841:True:=⟨⟩
theorem tw14277277403458488759:True:=⟨⟩
theorem tw8219160850134550881:True:=⟨⟩
theorem tw2033658664795021884:True:=⟨⟩
theorem tw496737571350176836:True:=⟨⟩
theorem tw17982481634311882065:True:=⟨⟩
theorem tw9536102533003703980:True:=⟨⟩
theorem tw13893735145992500118:True:=⟨⟩
theorem tw12871456371843904233:True:=⟨⟩
theorem tw16964679543082806833:True:=⟨⟩
theorem tw880417634799411356:True:=⟨⟩
theorem tw16406142995848562339:True:=⟨⟩
theorem tw2809736230386208000:True:=⟨⟩
theorem tw10159747224734894187:True:=⟨⟩
theorem tw138391995453070520:True:=⟨⟩
theorem tw15549850199332246004:True:=⟨⟩
theorem tw5539366545841964098:True:=⟨⟩
theorem tw1400886383143333389:True:=⟨⟩
theorem tw13811422226303682939:True:=⟨⟩
theorem tw15324533351357178670:True:=⟨⟩
theorem tw11387219012331435175:True:=⟨⟩
theorem tw5550770516862032648:True:=⟨⟩
theorem tw15335620248689933784:True:=⟨⟩
theorem tw14469672001818988995:True:=⟨⟩
theorem tw13213283337681116772:True:=⟨⟩
theorem tw9205098264219312420:True:=⟨⟩
theorem tw14351610928172093090:True:=⟨⟩
theorem tw16825777236767146004:True:=⟨⟩
theorem tw1022510202070590111:True:=⟨⟩
theorem tw10904585684085796858:True:=⟨⟩
theorem tw10217757981668175227:True:=⟨⟩
theorem tw10186328219637776180:True:=⟨⟩
theorem tw13430218455546320916:True:=⟨⟩
theorem tw2225246779687050734:True:=⟨⟩
theorem tw6588272889476853044:True:=⟨⟩
theorem tw10886617667121093369:True:=⟨⟩
theorem tw13598945800688500006:True:=⟨⟩
theorem tw4664923231787309656:True:=⟨⟩
theorem tw9313508057044925877:True:=⟨⟩
theorem tw1179416747915813162:True:=⟨⟩
theorem tw6226224110166156424:True:=⟨⟩
theorem tw4307977603372455108:True:=⟨⟩
theorem tw13544051382844273627:True:=⟨⟩
theorem tw18258634848164460164:True:=⟨⟩
theorem tw14583613535127863325:True:=⟨⟩
theorem tw17419877957010670485:True:=⟨⟩
theorem tw2801678279207146737:True:=⟨⟩
theorem tw8809664031560169425:True:=⟨⟩
theorem tw4789662927905555769:True:=⟨⟩
theorem tw16709185372619161703:True:=⟨⟩
theorem tw11073151308589697192:True:=⟨⟩
theorem tw13853162020484422607:True:=⟨⟩
theorem tw13257785047583487545:True:=⟨⟩
theorem tw11777906944806269604:True:=⟨⟩
theorem tw8080253968834621336:True:=⟨⟩
theorem tw4014362346247949895:True:=⟨⟩
theorem tw11077848646881320632:True:=⟨⟩
theorem tw4304422589607667851:True:=⟨⟩
theorem tw12920953534144975488:True:=⟨⟩
theorem tw11934180910439458212:True:=⟨⟩
theorem tw10524868640448297289:True:=⟨⟩
theorem tw13913377667175825819:True:=⟨⟩
theorem tw14738034265692412422:True:=⟨⟩
theorem tw14779893118961279409:True:=⟨⟩
theorem tw6835457829398064213:True:=⟨⟩
theorem tw8051689862940948824:True:=⟨⟩
theorem tw5538990173897120937:True:=⟨⟩
theorem tw9326167446533559725:True:=⟨⟩
theorem tw16998917578026696334:True:=⟨⟩
theorem tw11218081461577285804:True:=⟨⟩
theorem tw12570498495361351974:True:=⟨⟩
theorem tw5590733045512504285:True:=⟨⟩
theorem tw17446460035106681365:True:=⟨⟩
theorem tw16231158539716832103:True:=⟨⟩
theorem tw9434488811102143849:True:=⟨⟩
theorem tw8875874791958587256:True:=⟨⟩
theorem tw17675727560903879166:True:=⟨⟩
theorem tw8862889424639930528:True:=⟨⟩
theorem tw128846289479765624:True:=⟨⟩
theorem tw3437924497118992686:True:=⟨⟩
theorem tw12806685332893552866:True:=⟨⟩
theorem tw6058902346377478205:True:=⟨⟩
theorem tw6510742854097651583:True:=⟨⟩
theorem tw17855822945347022245:True:=⟨⟩
theorem tw11475757105639026838:True:=⟨⟩
theorem tw12295739186892908442:True:=⟨⟩
theorem tw2775038891425864153:True:=⟨⟩
theorem tw13843751879934114805:True:=⟨⟩
theorem tw14750937589826194616:True:=⟨⟩
theorem tw3106645365815877534:True:=⟨⟩
theorem tw18213873834766417875:True:=⟨⟩
theorem tw16683521719936736186:True:=⟨⟩
theorem tw10155144980055475626:True:=⟨⟩
theorem tw953210902738504162:True:=⟨⟩
theorem tw7794325222026993345:True:=⟨⟩
theorem tw4814427102284446747:True:=⟨⟩
theorem tw5165480143718838691:True:=⟨⟩
theorem tw7680470940151055061:True:=⟨⟩
theorem tw10772851775161556753:True:=⟨⟩
theorem tw2157941532346104742:True:=⟨⟩
theorem tw11112154726715878236:True:=⟨⟩
theorem tw1476336484760205396:True:=⟨⟩
theorem tw6449886448594442840:True:=⟨⟩
theorem tw15646737911481860759:True:=⟨⟩
theorem tw9990890341742316361:True:=⟨⟩
theorem tw11174507772994793812:True:=⟨⟩
theorem tw3111874356272090664:True:=⟨⟩
theorem tw5970573830640644515:True:=⟨⟩
theorem tw2297295123573363553:True:=⟨⟩
theorem tw18285180311773088995:True:=⟨⟩
theorem tw18321389038917702043:True:=⟨⟩
theorem tw3124681413124786939:True:=⟨⟩
theorem tw9576877142999702967:True:=⟨⟩
theorem tw2183601393499392013:True:=⟨⟩
theorem tw9837083472208091307:True:=⟨⟩
theorem tw5106438629061214324:True:=⟨⟩
theorem tw7851461744909472374:True:=⟨⟩
theorem tw10799265364735956127:True:=⟨⟩
theorem tw8863978311480976864:True:=⟨⟩
theorem tw8280608825807730697:True:=⟨⟩
theorem tw287268214533784225:True:=⟨⟩
theorem tw14644758763581908406:True:=⟨⟩
theorem tw15529739233494443130:True:=⟨⟩
theorem tw10995440094261714135:True:=⟨⟩
theorem tw11050727784892090621:True:=⟨⟩
theorem tw5944495445448869090:True:=⟨⟩
theorem tw17414007640795533487:True:=⟨⟩
theorem tw6553321340209743015:True:=⟨⟩
theorem tw1195567677178635428:True:=⟨⟩
theorem tw14828247143749600130:True:=⟨⟩
theorem tw12598629221372956406:True:=⟨⟩
theorem tw15815774307471614188:True:=⟨⟩
theorem tw6098492327813171256:True:=⟨⟩
theorem tw17061692045525565977:True:=⟨⟩
theorem tw17813270838296509341:True:=⟨⟩
theorem tw16984894243435582260:True:=⟨⟩
theorem tw11005268127350796675:True:=⟨⟩
theorem tw17574642006089828638:True:=⟨⟩
theorem tw4315700260970844783:True:=⟨⟩
theorem tw11547591747241068571:True:=⟨⟩
theorem tw1023963989563698632:True:=⟨⟩
theorem tw8427287628943612891:True:=⟨⟩
theorem tw4405253814846291571:True:=⟨⟩
theorem tw15468719639520771570:True:=⟨⟩
theorem tw16715200289134200483:True:=⟨⟩
theorem tw12324144809787482925:True:=⟨⟩
theorem tw17433410104445354720:True:=⟨⟩
theorem tw18221982061497871874:True:=⟨⟩
theorem tw1076878816980150617:True:=⟨⟩
theorem tw13355551580052853054:True:=⟨⟩
theorem tw16483769083504628620:True:=⟨⟩
theorem tw13644952748742696594:True:=⟨⟩
theorem tw9385395545640637691:True:=⟨⟩
theorem tw6573180933712118300:True:=⟨⟩
theorem tw15044479661414823548:True:=⟨⟩
theorem tw14168545576906987521:True:=⟨⟩
theorem tw11339081311162161750:True:=⟨⟩
theorem tw8296629692970516009:True:=⟨⟩
theorem tw16639145283732367786:True:=⟨⟩
theorem tw3955659203557219329:True:=⟨⟩
theorem tw5824610807573733806:True:=⟨⟩
theorem tw1600579417086798081:True:=⟨⟩
theorem tw16742271461976380599:True:=⟨⟩
theorem tw18416697104190552378:True:=⟨⟩
theorem tw1741618301686937958:True:=⟨⟩
theorem tw12118874508598530277:True:=⟨⟩
theorem tw3663567902806926832:True:=⟨⟩
theorem tw1139208798500135806:True:=⟨⟩
theorem tw6221884549997748905:True:=⟨⟩
theorem tw5909041138141086208:True:=⟨⟩
theorem tw7287754060413576437:True:=⟨⟩
theorem tw11709807945485331789:True:=⟨⟩
theorem tw2158955690365692792:True:=⟨⟩
theorem tw3947333335128058809:True:=⟨⟩
theorem tw5857570540067224628:True:=⟨⟩
theorem tw10923738969014649694:True:=⟨⟩
theorem tw6076371631660804653:True:=⟨⟩
theorem tw14197081013225147450:True:=⟨⟩
theorem tw1850811008738388352:True:=⟨⟩
theorem tw14770312331663475361:True:=⟨⟩
theorem tw5708756564492049366:True:=⟨⟩
theorem tw7804234349100807990:True:=⟨⟩
theorem tw4732891816198926893:True:=⟨⟩
theorem tw1624463173979967325:True:=⟨⟩
theorem tw8617988093588350397:True:=⟨⟩
theorem tw18075618158038817332:True:=⟨⟩
theorem tw5000060961690565070:True:=⟨⟩
theorem tw6544752107821761651:True:=⟨⟩
theorem tw4269654465501932390:True:=⟨⟩
theorem tw8571235849821105533:True:=⟨⟩
theorem tw15126574228377945650:True:=⟨⟩
theorem tw9541084092813864482:True:=⟨⟩
theorem tw727696725345771354:True:=⟨⟩
theorem tw10174528612335921579:True:=⟨⟩
theorem tw8712973132106176185:True:=⟨⟩
theorem tw17756661511546658373:True:=⟨⟩
theorem tw5044299836620509829:True:=⟨⟩
theorem tw12271510541396533539:True:=⟨⟩
theorem tw8018395293367457055:True:=⟨⟩
theorem tw15968734976943129023:True:=⟨⟩
theorem tw17454094426194622683:True:=⟨⟩
theorem tw3035452767547104703:True:=⟨⟩
theorem tw16122176039080648773:True:=⟨⟩
theorem tw194248967813355157:True:=⟨⟩
theorem tw14402756349497528753:True:=⟨⟩
theorem tw3397515920323032248:True:=⟨⟩
theorem tw7829120636977001318:True:=⟨⟩
theorem tw10912862644403252573:True:=⟨⟩
theorem tw14197622996006745281:True:=⟨⟩
theorem tw10341464998976333588:True:=⟨⟩
theorem tw6260541244099566912:True:=⟨⟩
theorem tw2295899688961619796:True:=⟨⟩
theorem tw8694744349372090509:True:=⟨⟩
theorem tw14195075012128822569:True:=⟨⟩
theorem tw10696077652529165332:True:=⟨⟩
theorem tw9706468473008859180:True:=⟨⟩
theorem tw10677983820863562127:True:=⟨⟩
theorem tw11791604885434526218:True:=⟨⟩
theorem tw13129874774499427750:True:=⟨⟩
theorem tw1485016604476070950:True:=⟨⟩
theorem tw4068113482610265164:True:=⟨⟩
theorem tw3726861123183471551:True:=⟨⟩
theorem tw18187782504867299921:True:=⟨⟩
theorem tw8394158256876005117:True:=⟨⟩
theorem tw813137965354659978:True:=⟨⟩
theorem tw12191206792536600045:True:=⟨⟩
theorem tw6187547065490410171:True:=⟨⟩
theorem tw3022515200623884566:True:=⟨⟩
theorem tw8028630505425022622:True:=⟨⟩
theorem tw9485021105026231013:True:=⟨⟩
theorem tw12548742264467671336:True:=⟨⟩
theorem tw1394094814151714230:True:=⟨⟩
theorem tw7142409868413604147:True:=⟨⟩
theorem tw15752783357359187832:True:=⟨⟩
theorem tw36689462495052488:True:=⟨⟩
theorem tw9876070477198416428:True:=⟨⟩
theorem tw5145997883679218841:True:=⟨⟩
theorem tw10285634078542030363:True:=⟨⟩
theorem tw17558605814156033327:True:=⟨⟩
theorem tw10638074641690487723:True:=⟨⟩
theorem tw72114301448150779:True:=⟨⟩
theorem tw13359074560258203993:True:=⟨⟩
theorem tw3923888382559398714:True:=⟨⟩
theorem tw17078019933310097006:True:=⟨⟩
theorem tw10035576361170198422:True:=⟨⟩
theorem tw4972923288799477311:True:=⟨⟩
theorem tw8355109984016106103:True:=⟨⟩
theorem tw5249214687281894244:True:=⟨⟩
theorem tw17984168172968120497:True:=⟨⟩
theorem tw12729921694573333507:True:=⟨⟩
theorem tw7720602210634225487:True:=⟨⟩
theorem tw473966056101609670:True:=⟨⟩
theorem tw1366622168417406741:True:=⟨⟩
theorem tw14822328821084965631:True:=⟨⟩
theorem tw13029176587281161554:True:=⟨⟩
theorem tw11379491453061983183:True:=⟨⟩
theorem tw18405331166938527930:True:=⟨⟩
theorem tw13173993798684237831:True:=⟨⟩
theorem tw5529290714003391161:True:=⟨⟩
theorem tw16416991879797642671:True:=⟨⟩
theorem tw10280878288054335535:True:=⟨⟩
theorem tw9329520793593004154:True:=⟨⟩
theorem tw9307525925342480514:True:=⟨⟩
theorem tw3198457884570918307:True:=⟨⟩
theorem tw14214869311497942020:True:=⟨⟩
theorem tw15083421521450892457:True:=⟨⟩
theorem tw4069700050950901082:True:=⟨⟩
theorem tw4800652423329213204:True:=⟨⟩
theorem tw9118008035422184596:True:=⟨⟩
theorem tw5721035874349402299:True:=⟨⟩
theorem tw7263505536121381742:True:=⟨⟩
theorem tw16418228012889342132:True:=⟨⟩
theorem tw725838439225557824:True:=⟨⟩
theorem tw12856431289429326935:True:=⟨⟩
theorem tw9562874413228176298:True:=⟨⟩
theorem tw14364409237911227024:True:=⟨⟩
theorem tw8384688988142752442:True:=⟨⟩
theorem tw13230261668802911387:True:=⟨⟩
theorem tw9521927333758954454:True:=⟨⟩
theorem tw9663352023532554336:True:=⟨⟩
theorem tw5033941365064820303:True:=⟨⟩
theorem tw16184884651809263349:True:=⟨⟩
theorem tw10346598081322938435:True:=⟨⟩
theorem tw1521662578314085027:True:=⟨⟩
theorem tw3247014026204095810:True:=⟨⟩
theorem tw14479837988570631701:True:=⟨⟩
theorem tw216222917795528544:True:=⟨⟩
theorem tw5015814133435837160:True:=⟨⟩
theorem tw3537109535536624459:True:=⟨⟩
theorem tw1767435396142018887:True:=⟨⟩
theorem tw7593030440696645215:True:=⟨⟩
theorem tw9654037908209166634:True:=⟨⟩
theorem tw2199264189974671457:True:=⟨⟩
theorem tw17388639221583367659:True:=⟨⟩
theorem tw3535398462644488117:True:=⟨⟩
theorem tw17023404166780955755:True:=⟨⟩
theorem tw768098766351908830:True:=⟨⟩
theorem tw16141047106096485785:True:=⟨⟩
theorem tw16679975497359448637:True:=⟨⟩
theorem tw16524856472959757927:True:=⟨⟩
theorem tw9299080416664879311:True:=⟨⟩
theorem tw8427322211268665717:True:=⟨⟩
theorem tw16553360446651792936:True:=⟨⟩
theorem tw9975292982496770123:True:=⟨⟩
theorem tw9864627790535195441:True:=⟨⟩
theorem tw14577838421473511784:True:=⟨⟩
theorem tw13582145688091728761:True:=⟨⟩
theorem tw286204494239811448:True:=⟨⟩
theorem tw12701394082718800905:True:=⟨⟩
theorem tw4144717449759240113:True:=⟨⟩
theorem tw11668696313928482830:True:=⟨⟩
theorem tw1657324942907756903:True:=⟨⟩
theorem tw16162714908804678354:True:=⟨⟩
theorem tw9931071073869952693:True:=⟨⟩
theorem tw1003474702633110239:True:=⟨⟩
theorem tw5619865103194968868:True:=⟨⟩
theorem tw11329060741385306284:True:=⟨⟩
theorem tw15902179862728903900:True:=⟨⟩
theorem tw14587141745836213963:True:=⟨⟩
theorem tw4869779674893171815:True:=⟨⟩
theorem tw11159081135108977680:True:=⟨⟩
theorem tw8525695219406505553:True:=⟨⟩
theorem tw10549824204061533857:True:=⟨⟩
theorem tw10353146601778596223:True:=⟨⟩
theorem tw15997979620051311637:True:=⟨⟩
theorem tw493472545038366726:True:=⟨⟩
theorem tw8890845187603787509:True:=⟨⟩
theorem tw4135156066146277733:True:=⟨⟩
theorem tw5651341050551960099:True:=⟨⟩
theorem tw18388322406461934186:True:=⟨⟩
theorem tw13723452679474861659:True:=⟨⟩
theorem tw15483275051182549244:True:=⟨⟩
theorem tw2442189393687749221:True:=⟨⟩
theorem tw17696374744315384128:True:=⟨⟩
theorem tw393090937966599479:True:=⟨⟩
theorem tw3094215192102974158:True:=⟨⟩
theorem tw5927128913692145433:True:=⟨⟩
theorem tw1974746667527823375:True:=⟨⟩
theorem tw9956798737809937861:True:=⟨⟩
theorem tw8615481152620321122:True:=⟨⟩
theorem tw9193303983843791467:True:=⟨⟩
theorem tw5298211091646135501:True:=⟨⟩
theorem tw4027980242988644192:True:=⟨⟩
theorem tw5715903021784157286:True:=⟨⟩
theorem tw3884039140618276766:True:=⟨⟩
theorem tw6269112810711882087:True:=⟨⟩
theorem tw4386643175305803096:True:=⟨⟩
theorem tw4902507208471374644:True:=⟨⟩
theorem tw16436927687734962933:True:=⟨⟩
theorem tw3457872083959003331:True:=⟨⟩
theorem tw15306021079538807284:True:=⟨⟩
theorem tw2146312262716950561:True:=⟨⟩
theorem tw10092897943259609706:True:=⟨⟩
theorem tw4859056577195235877:True:=⟨⟩
theorem tw8873532646739630416:True:=⟨⟩
theorem tw5267177115004093250:True:=⟨⟩
theorem tw11361050434444767557:True:=⟨⟩
theorem tw1807286011246281018:True:=⟨⟩
theorem tw7762422049976642462:True:=⟨⟩
theorem tw9421683690764866913:True:=⟨⟩
theorem tw14619568800398952949:True:=⟨⟩
theorem tw4858673319279238065:True:=⟨⟩
theorem tw12306163977946177190:True:=⟨⟩
theorem tw18322212581821278221:True:=⟨⟩
theorem tw4607502910473558668:True:=⟨⟩
theorem tw18206439538649292260:True:=⟨⟩
theorem tw17794053403264791151:True:=⟨⟩
theorem tw2007220909389393947:True:=⟨⟩
theorem tw11176414308464876274:True:=⟨⟩
theorem tw6710461147768375767:True:=⟨⟩
theorem tw15637704649239509882:True:=⟨⟩
theorem tw3925922236255817667:True:=⟨⟩
theorem tw16861923337744016613:True:=⟨⟩
theorem tw2444669071695482210:True:=⟨⟩
theorem tw3232833914641515527:True:=⟨⟩
theorem tw6287917017627508782:True:=⟨⟩
theorem tw2439866194154182842:True:=⟨⟩
theorem tw1605757290941543594:True:=⟨⟩
theorem tw3838298194422038411:True:=⟨⟩
theorem tw8003584175275911811:True:=⟨⟩
theorem tw12948118038302403020:True:=⟨⟩
theorem tw2323713654863274537:True:=⟨⟩
theorem tw11614987335223369636:True:=⟨⟩
theorem tw12430162093171770755:True:=⟨⟩
theorem tw10146526823987247598:True:=⟨⟩
theorem tw1614315866253039328:True:=⟨⟩
theorem tw18379223653021574058:True:=⟨⟩
theorem tw12172068851166251079:True:=⟨⟩
theorem tw18157184612146182531:True:=⟨⟩
theorem tw14487480088336670469:True:=⟨⟩
theorem tw10476627056919508632:True:=⟨⟩
theorem tw15977992000398605512:True:=⟨⟩
theorem tw9020214224726750207:True:=⟨⟩
theorem tw16019392098164505088:True:=⟨⟩
theorem tw9468215245200313034:True:=⟨⟩
theorem tw2935297957881864501:True:=⟨⟩
theorem tw16515337916951643860:True:=⟨⟩
theorem tw4094742140959962451:True:=⟨⟩
theorem tw17301425219329372349:True:=⟨⟩
theorem tw17811311192000496330:True:=⟨⟩
theorem tw10075831732696855715:True:=⟨⟩
theorem tw94789552002969709:True:=⟨⟩
theorem tw13348668073526865852:True:=⟨⟩
theorem tw15101666062925568434:True:=⟨⟩
theorem tw5435566726723579600:True:=⟨⟩
theorem tw11639063489814939613:True:=⟨⟩
theorem tw12595128620357496052:True:=⟨⟩
theorem tw2949671112551080802:True:=⟨⟩
theorem tw775989491151539026:True:=⟨⟩
theorem tw18444931521393548712:True:=⟨⟩
theorem tw13562466792354453710:True:=⟨⟩
theorem tw4997524741556971057:True:=⟨⟩
theorem tw14503279396982768330:True:=⟨⟩
theorem tw14266061111578238646:True:=⟨⟩
theorem tw1341122447921387100:True:=⟨⟩
theorem tw18195539551180848000:True:=⟨⟩
theorem tw9995495032018436651:True:=⟨⟩
theorem tw10340599994089702336:True:=⟨⟩
theorem tw3141166745476325410:True:=⟨⟩
theorem tw3989079930821776332:True:=⟨⟩
theorem tw7312483265815017863:True:=⟨⟩
theorem tw11130647716230517520:True:=⟨⟩
theorem tw9906875098835672133:True:=⟨⟩
theorem tw17529749702598903140:True:=⟨⟩
theorem tw16526227787393186099:True:=⟨⟩
theorem tw4950350886231765188:True:=⟨⟩
theorem tw15366179400325859753:True:=⟨⟩
theorem tw15048589014081443757:True:=⟨⟩
theorem tw15209543202860188233:True:=⟨⟩
theorem tw16239285140854970812:True:=⟨⟩
theorem tw6870463041078736830:True:=⟨⟩
theorem tw13890391938141385177:True:=⟨⟩
theorem tw13923622149365385426:True:=⟨⟩
theorem tw8443674219015607947:True:=⟨⟩
theorem tw2766898684732011997:True:=⟨⟩
theorem tw8834666936884797197:True:=⟨⟩
theorem tw5518739959834594095:True:=⟨⟩
theorem tw12234356856253968523:True:=⟨⟩
theorem tw13965876263615880303:True:=⟨⟩
theorem tw2575573111786370163:True:=⟨⟩
theorem tw13397774760579050339:True:=⟨⟩
theorem tw17367680995085230337:True:=⟨⟩
theorem tw16557095264922906866:True:=⟨⟩
theorem tw8109924540869463583:True:=⟨⟩
theorem tw1929570540104461423:True:=⟨⟩
theorem tw7803046026003672562:True:=⟨⟩
theorem tw7781460489712600622:True:=⟨⟩
theorem tw16064196590447228696:True:=⟨⟩
theorem tw2529249002167011537:True:=⟨⟩
theorem tw12203790615320622956:True:=⟨⟩
theorem tw4176469370016618534:True:=⟨⟩
theorem tw17081943094562622971:True:=⟨⟩
theorem tw3285686936196391511:True:=⟨⟩
theorem tw16306246151167073401:True:=⟨⟩
theorem tw8792376561129286975:True:=⟨⟩
theorem tw2847823789854950098:True:=⟨⟩
theorem tw13324519591825102897:True:=⟨⟩
theorem tw12196748333044885337:True:=⟨⟩
theorem tw14063405150235984734:True:=⟨⟩
theorem tw6833930597564973483:True:=⟨⟩
theorem tw12871574101929942336:True:=⟨⟩
theorem tw8224323783908880938:True:=⟨⟩
theorem tw16989610720614006868:True:=⟨⟩
theorem tw4233625694600828843:True:=⟨⟩
theorem tw11106494192265221193:True:=⟨⟩
theorem tw17129367232741902892:True:=⟨⟩
theorem tw17764435464790286174:True:=⟨⟩
theorem tw15256145930775803850:True:=⟨⟩
theorem tw6138027054255200956:True:=⟨⟩
theorem tw2238253362055769705:True:=⟨⟩
theorem tw8461039890733021082:True:=⟨⟩
theorem tw3148438384881653242:True:=⟨⟩
theorem tw8050476769642007197:True:=⟨⟩
theorem tw10671230423648573029:True:=⟨⟩
theorem tw7928390517765244496:True:=⟨⟩
theorem tw9753712266375161679:True:=⟨⟩
theorem tw12223096436442924192:True:=⟨⟩
theorem tw9813292455539550527:True:=⟨⟩
theorem tw3271908664862397470:True:=⟨⟩
theorem tw3809993359514985353:True:=⟨⟩
theorem tw4236600837881561455:True:=⟨⟩
theorem tw9453771908213460130:True:=⟨⟩
theorem tw2801700993876697481:True:=⟨⟩
theorem tw9474951290274962865:True:=⟨⟩
theorem tw2183948143377781556:True:=⟨⟩
theorem tw5816964713681599696:True:=⟨⟩
theorem tw418019527296781567:True:=⟨⟩
theorem tw13200703969899713420:True:=⟨⟩
theorem tw14613070925622186757:True:=⟨⟩
theorem tw10713450336405279465:True:=⟨⟩
theorem tw7085112005253876527:True:=⟨⟩
theorem tw4523234005742383284:True:=⟨⟩
theorem tw16975707715911824589:True:=⟨⟩
theorem tw17095180607252234034:True:=⟨⟩
theorem tw15998594856769311804:True:=⟨⟩
theorem tw1826904240468310467:True:=⟨⟩
theorem tw10597916245014324747:True:=⟨⟩
theorem tw14792671559072236167:True:=⟨⟩
theorem tw42461189936524729:True:=⟨⟩
theorem tw6456490828649856212:True:=⟨⟩
theorem tw11370497213966888502:True:=⟨⟩
theorem tw23170283709304746:True:=⟨⟩
theorem tw11371241390392902212:True:=⟨⟩
theorem tw1803446105697839190:True:=⟨⟩
theorem tw787755528887519213:True:=⟨⟩
theorem tw7572081595975623484:True:=⟨⟩
theorem tw1114096632494733315:True:=⟨⟩
theorem tw18400765813170425603:True:=⟨⟩
theorem tw15287131296851681814:True:=⟨⟩
theorem tw15618086005494744777:True:=⟨⟩
theorem tw2789736759069393372:True:=⟨⟩
theorem tw5405831504806665449:True:=⟨⟩
theorem tw12044757235455265871:True:=⟨⟩
theorem tw15708470308614688330:True:=⟨⟩
theorem tw14092985735685279859:True:=⟨⟩
theorem tw786783992826302819:True:=⟨⟩
theorem tw9556023059181120832:True:=⟨⟩
theorem tw11059146217901071066:True:=⟨⟩
theorem tw12337620811585046464:True:=⟨⟩
theorem tw16545515006876544369:True:=⟨⟩
theorem tw11776077794858324556:True:=⟨⟩
theorem tw17364882415096786065:True:=⟨⟩
theorem tw17448188480302263006:True:=⟨⟩
theorem tw17074466816755668164:True:=⟨⟩
theorem tw9360567137492815482:True:=⟨⟩
theorem tw12311618534340622977:True:=⟨⟩
theorem tw16020268348033563003:True:=⟨⟩
theorem tw17482393115743522481:True:=⟨⟩
theorem tw11573273350675589775:True:=⟨⟩
theorem tw4409658979799324285:True:=⟨⟩
theorem tw14655053435719771298:True:=⟨⟩
theorem tw16900152638909541309:True:=⟨⟩
theorem tw3690351274109996546:True:=⟨⟩
theorem tw2505436528198435081:True:=⟨⟩
theorem tw18362520777136038338:True:=⟨⟩
theorem tw11464302804236169686:True:=⟨⟩
theorem tw12561079489282230530:True:=⟨⟩
theorem tw4713216878928764236:True:=⟨⟩
theorem tw4848204419091699400:True:=⟨⟩
theorem tw13208795165479930422:True:=⟨⟩
theorem tw10651609874437132574:True:=⟨⟩
theorem tw10751035157426454506:True:=⟨⟩
theorem tw11964134751843998044:True:=⟨⟩
theorem tw12437174846266963107:True:=⟨⟩
theorem tw17098648013008521387:True:=⟨⟩
theorem tw14919437943899429510:True:=⟨⟩
theorem tw4481728516053181503:True:=⟨⟩
theorem tw10192444569122278231:True:=⟨⟩
theorem tw10734854893500929445:True:=⟨⟩
theorem tw11980104562925275435:True:=⟨⟩
theorem tw1777713936961905338:True:=⟨⟩
theorem tw13734077478875003219:True:=⟨⟩
theorem tw15331742615859862788:True:=⟨⟩
theorem tw6652340254813806404:True:=⟨⟩
theorem tw3557098350734239586:True:=⟨⟩
theorem tw5690419456671704207:True:=⟨⟩
theorem tw1970040757937297182:True:=⟨⟩
theorem tw6944868941632370996:True:=⟨⟩
theorem tw3774684719436908117:True:=⟨⟩
theorem tw8290373180415402058:True:=⟨⟩
theorem tw4611977767110195300:True:=⟨⟩
theorem tw7994265087206459292:True:=⟨⟩
theorem tw7227755266743457794:True:=⟨⟩
theorem tw6228824919493390198:True:=⟨⟩
theorem tw8185484623301499568:True:=⟨⟩
theorem tw4060130718785451571:True:=⟨⟩
theorem tw7783403823217688934:True:=⟨⟩
theorem tw4073163319110850822:True:=⟨⟩
theorem tw6228968912256210068:True:=⟨⟩
theorem tw6749342976097658575:True:=⟨⟩
theorem tw10974147845890589218:True:=⟨⟩
theorem tw16019947685939956626:True:=⟨⟩
theorem tw3713355312148804087:True:=⟨⟩
theorem tw330033071592288972:True:=⟨⟩
theorem tw549727803023847614:True:=⟨⟩
theorem tw13971488547067659103:True:=⟨⟩
theorem tw13806690485460320738:True:=⟨⟩
theorem tw8139762274589797489:True:=⟨⟩
theorem tw7817144193077563426:True:=⟨⟩
theorem tw35854151696338379:True:=⟨⟩
theorem tw16072182361642253274:True:=⟨⟩
theorem tw4074139493344608148:True:=⟨⟩
theorem tw1601064723943075374:True:=⟨⟩
theorem tw12418650135080473961:True:=⟨⟩
theorem tw10519776794747103480:True:=⟨⟩
theorem tw7453849374098027285:True:=⟨⟩
theorem tw10996276623497300011:True:=⟨⟩
theorem tw13480714712546920743:True:=⟨⟩
theorem tw17601930743351995819:True:=⟨⟩
theorem tw17017941226909354231:True:=⟨⟩
theorem tw1423261312530377929:True:=⟨⟩
theorem tw16110622419978152638:True:=⟨⟩
theorem tw13126668482018455127:True:=⟨⟩
theorem tw8806630035446193459:True:=⟨⟩
theorem tw13283647618310444041:True:=⟨⟩
theorem tw12010789334082904773:True:=⟨⟩
theorem tw1512044168508204478:True:=⟨⟩
theorem tw13223963360785752080:True:=⟨⟩
theorem tw13546378597370697300:True:=⟨⟩
theorem tw9809988857800010580:True:=⟨⟩
theorem tw15890554491990896262:True:=⟨⟩
theorem tw2980651966226776763:True:=⟨⟩
theorem tw11940630681395195680:True:=⟨⟩
theorem tw16534062124286111954:True:=⟨⟩
theorem tw3423877268581819193:True:=⟨⟩
theorem tw12344993504236099835:True:=⟨⟩
theorem tw6747845470727699326:True:=⟨⟩
theorem tw13252303671140680332:True:=⟨⟩
theorem tw2565254969697938388:True:=⟨⟩
theorem tw6024643292028623509:True:=⟨⟩
theorem tw11945590978575930315:True:=⟨⟩
theorem tw10919910481439451173:True:=⟨⟩
theorem tw16656194616755075759:True:=⟨⟩
theorem tw15078429783981095641:True:=⟨⟩
theorem tw13726378139495337585:True:=⟨⟩
theorem tw3797708132466715084:True:=⟨⟩
theorem tw15345232321861774510:True:=⟨⟩
theorem tw8432059295660990968:True:=⟨⟩
theorem tw17203917869153526878:True:=⟨⟩
theorem tw13773760352053670053:True:=⟨⟩
theorem tw332299323850594149:True:=⟨⟩
theorem tw8650523808325500666:True:=⟨⟩
theorem tw2977650331521104544:True:=⟨⟩
theorem tw13197065146025112702:True:=⟨⟩
theorem tw11352164455953018870:True:=⟨⟩
theorem tw290578133352966680:True:=⟨⟩
theorem tw4132758832754181125:True:=⟨⟩
theorem tw14041114957360630891:True:=⟨⟩
theorem tw9717622878867596584:True:=⟨⟩
theorem tw297290346719395708:True:=⟨⟩
theorem tw9258592575291085644:True:=⟨⟩
theorem tw12251883012488841719:True:=⟨⟩
theorem tw13591228843239187189:True:=⟨⟩
theorem tw10848031006029566157:True:=⟨⟩
theorem tw5356322385654166742:True:=⟨⟩
theorem tw5706324471610938043:True:=⟨⟩
theorem tw16041634907722183247:True:=⟨⟩
theorem tw5547264793331229788:True:=⟨⟩
theorem tw2190536892875199953:True:=⟨⟩
theorem tw1085773799248877382:True:=⟨⟩
theorem tw16587882581696143059:True:=⟨⟩
theorem tw8950067506991400041:True:=⟨⟩
theorem tw1627351236576828649:True:=⟨⟩
theorem tw2144564567286317176:True:=⟨⟩
theorem tw16534161816098848692:True:=⟨⟩
theorem tw17495028265543000532:True:=⟨⟩
theorem tw11413238275844641812:True:=⟨⟩
theorem tw43333011916124519:True:=⟨⟩
theorem tw4779956228269463877:True:=⟨⟩
theorem tw14475280036576343289:True:=⟨⟩
theorem tw5046893543873326425:True:=⟨⟩
theorem tw14617298664029796121:True:=⟨⟩
theorem tw8473922820996351648:True:=⟨⟩
theorem tw5654452816398900558:True:=⟨⟩
theorem tw8869914142990058816:True:=⟨⟩
theorem tw6314559792935114602:True:=⟨⟩
theorem tw3779775999636109782:True:=⟨⟩
theorem tw14822761490570722528:True:=⟨⟩
theorem tw7215314486832163609:True:=⟨⟩
theorem tw10401019955646328457:True:=⟨⟩
theorem tw4415226460352370551:True:=⟨⟩
theorem tw6536871679882071120:True:=⟨⟩
theorem tw10548549998101364659:True:=⟨⟩
theorem tw10045769592071033271:True:=⟨⟩
theorem tw5329861305868806934:True:=⟨⟩
theorem tw12088508362753106217:True:=⟨⟩
theorem tw4113111331513801541:True:=⟨⟩
theorem tw16111130625029058424:True:=⟨⟩
theorem tw14255623958145704467:True:=⟨⟩
theorem tw14987853205454063153:True:=⟨⟩
theorem tw12934106127553055440:True:=⟨⟩
theorem tw4432244338280223584:True:=⟨⟩
theorem tw11774836718154660414:True:=⟨⟩
theorem tw3197867761636806589:True:=⟨⟩
theorem tw16918348125967494019:True:=⟨⟩
theorem tw16416460082382113706:True:=⟨⟩
theorem tw3781461873983045497:True:=⟨⟩
theorem tw645450120964566628:True:=⟨⟩
theorem tw7311606484721398938:True:=⟨⟩
theorem tw15287714354820829349:True:=⟨⟩
theorem tw5129275029290831413:True:=⟨⟩
theorem tw15194608158875200210:True:=⟨⟩
theorem tw3560989588928349157:True:=⟨⟩
theorem tw4669513796017114651:True:=⟨⟩
theorem tw137850116984505924:True:=⟨⟩
theorem tw10760561488865092835:True:=⟨⟩
theorem tw15761032332102695036:True:=⟨⟩
theorem tw11751496484806075990:True:=⟨⟩
theorem tw2894956427507778637:True:=⟨⟩
theorem tw16701025338661738452:True:=⟨⟩
theorem tw9605313135409560053:True:=⟨⟩
theorem tw11928186676795241856:True:=⟨⟩
theorem tw36508216657905227:True:=⟨⟩
theorem tw6567141713511085991:True:=⟨⟩
theorem tw10982333847738910141:True:=⟨⟩
theorem tw1245569786314174927:True:=⟨⟩
theorem tw12046175470490314095:True:=⟨⟩
theorem tw1367962659054516614:True:=⟨⟩
theorem tw17341364482275204185:True:=⟨⟩
theorem tw5346218717486787069:True:=⟨⟩
theorem tw12016430420870558342:True:=⟨⟩
theorem tw8874183505072269694:True:=⟨⟩
theorem tw4603207955446114043:True:=⟨⟩
theorem tw3229412066066968532:True:=⟨⟩
theorem tw1902542526652281195:True:=⟨⟩
theorem tw14451854880194624767:True:=⟨⟩
theorem tw18259277092636302765:True:=⟨⟩
theorem tw2884119005030956252:True:=⟨⟩
theorem tw14921804649184915268:True:=⟨⟩
theorem tw6306596443878073925:True:=⟨⟩
theorem tw16069388743433116676:True:=⟨⟩
theorem tw6582665374667539795:True:=⟨⟩
theorem tw14369675174780536388:True:=⟨⟩
theorem tw2628229327821469491:True:=⟨⟩
theorem tw3662381727956126188:True:=⟨⟩
theorem tw11100291223344277352:True:=⟨⟩
theorem tw5830050421443431509:True:=⟨⟩
theorem tw1817796491518782442:True:=⟨⟩
theorem tw7277241042600389964:True:=⟨⟩
theorem tw15239798414449833005:True:=⟨⟩
theorem tw2858484480003697340:True:=⟨⟩
theorem tw433304687383567228:True:=⟨⟩
theorem tw18088615116830101784:True:=⟨⟩
theorem tw14722757494473411832:True:=⟨⟩
theorem tw12936182717440251554:True:=⟨⟩
theorem tw3513040335592882232:True:=⟨⟩
theorem tw18007717435748225737:True:=⟨⟩
theorem tw8366501761535286696:True:=⟨⟩
theorem tw13857375669412929566:True:=⟨⟩
theorem tw10721526956239381050:True:=⟨⟩
theorem tw16899663236271162144:True:=⟨⟩
theorem tw14504077010191102836:True:=⟨⟩
theorem tw13773031525980312652:True:=⟨⟩
theorem tw4994401966407754469:True:=⟨⟩
theorem tw16574554176431926900:True:=⟨⟩
theorem tw632176815290648831:True:=⟨⟩
theorem tw11499651977960063434:True:=⟨⟩
theorem tw12536321745252881480:True:=⟨⟩
theorem tw14685733344703270171:True:=⟨⟩
theorem tw16366772646067780842:True:=⟨⟩
theorem tw14254758121959290674:True:=⟨⟩
theorem tw13118431786741407610:True:=⟨⟩
theorem tw3565414381855948167:True:=⟨⟩
end PySem.W.Fast
open PySem PySem.W PyProof.Rows
set_option maxRecDepth 100000 in
set_option maxHeartbeats 0 in
theorem PySem.Challenge.cw_strokegrow_k52_whole_cut_anywhere_holds : PySem.Challenge.rw_strokegrow_k52_whole_cut_anywhere.Holds := by
 w_on;o_law;k_head;(case hw=>w_witness2)
 k_fill
 refine L2.GV (l:=PySem.Challenge.rw_strokegrow_k52_whole_cut_anywhere) (n:=63) (k:=12) (x:="_law_script") (CX:=Pf.CX) (sp:=fun K=>Pf.Jy K) rfl (by decide) rfl ⟨rfl,by decide,by decide⟩ (fun w h Y=>PySem.W.kIn_of Y) ?F ?S ?C
 case F=>
   intro w mg fa h KX G SM
   have T:∃ t,Pf.Txt (L2.YN KX) mg t∧t.qH=fa:=by
     dsimp only [L2.YN]
     obtain⟨t,T,e⟩:∃ t,Pf.Txt _ mg t∧t.qH=_:=by
       refine' Pf.Qw KX G ?_ ?_ ?_ ?_ ?_ ?_ ?_ ?_ ?_ ?_ ?_ ?_ ?_ ?_ ?_ ?_ ?_ ?_ ?_ ?_ ?_ ?_ ?_ ?_ ?_ ?_ ?_ ?_ ?_ ?_ ?_ ?_ ?_ ?_ ?_ ?_ ?_ ?_ ?_ ?_ ?_ ?_ ?_ ?_ ?_ ?_ ?_ ?_ ?_ ?_ ?_ ?_ ?_ ?_ ?_ ?_ ?_ ?_ ?_ ?_ ?_ ?_ ?_ ?_ ?_ ?_ ?_ ?_ ?_ ?_ ?_ ?_ ?_ ?_ ?_ ?_ ?_ ?_ ?_ ?_ ?_ ?_ ?_ ?_ ?_ ?_ ?_ ?_ ?_ ?_ ?_ ?_ ?_ ?_ ?_ ?_ ?_ ?_ ?_ ?_ ?_ ?_ ?_ ?_ ?_ ?_ ?_ ?_ ?_ ?_ ?_ ?_ ?_ ?_ ?_ ?_ ?_ ?_ ?_ ?_ ?_ ?_ ?_ ?_ ?_ ?_ ?_ ?_ ?_ ?_ ?_ ?_ ?_ ?_ ?_ ?_ ?_ ?_ ?_ ?_ ?_ ?_ ?_ ?_ ?_ ?_ ?_ ?_ ?_ ?_ ?_ ?_ ?_ ?_ ?_ ?_ ?_ ?_ ?_ ?_ ?_ ?_ ?_ ?_ ?_ ?_ ?_ ?_ ?_ ?_ ?_ ?_
       any_goals walk_at "z"
     refine⟨t,T,?_⟩
     have e0:=SM.symm.trans (T.g T.Bf.a)
     cases e0
     rfl
   obtain⟨t,T,e⟩:=T
   subst e
   refine' ⟨t.vx,?b,fun base kb nb=>Pf.Rm T⟩
   exact Pf.Qx T
 case S=>exact fun K H a ns hl hO hS=>Pf.Q0 hl hS
 case C=>exact fun H s e s' h=>h
