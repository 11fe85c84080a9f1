import PyProof.Rows.All
import Wide.All
import OpenK.AllK
import Wide.FinOn
import Lean
import PyProof.EqAt
import PyProof.EqKinds
import PyProof.TupleCall
import PyProof.WalksEnum
import PyProof.EnumMake
import PyProof.ZipIter
import PyProof.ReprStr
import PyProof.StrBlockG
import PyProof.StrWalks
import PyProof.FString5
import PyProof.ConsumeWalk
import PyProof.SumAny
import PyProof.StrCalls2
import KE.KDictList
import PyProof.Draws
import PyProof.StrBlock2
import PyProof.DictIter
import PyProof.ExcInit
import PyProof.ExcClass3
import PyProof.FString
import PyProof.FitsInt
import PyProof.StrLawsRepr
import PyProof.Rows.Range3
import PyProof.StrCalls
import PyProof.ListRange
import PyProof.AttrMissHeap
import KE.KDictOf
import PyProof.StrCalls3
import PyProof.FactsAll.dict_2
import PyProof.MeetsIn
import PyProof.Cells
import KE.KDictSum
import PyProof.DictWalks
import KE.KRevIter
import PyProof.FactsAll.subtypes_3
import PyProof.Rows.SortWalk
import KE.KSortedM
import PyProof.Rows.SortStr
import PyProof.MinMaxWalk
import PyProof.WalkInts
import PyProof.SeqI3
import PyProof.Rows.CallKwBuiltin
import KE.KUnpack
import PyProof.Rows.SeqMore2
import PyProof.LongRange
import PySem.Challenge.RW_strokegrow_k57_whole_turns_kept
theorem AA3 {a b:Nat}(h:Nat.ble a b=true:=by rfl):a<=b:=Nat.le_of_ble_eq_true h
set_option Elab.async false
set_option linter.all false
set_option maxRecDepth 100000
namespace L2
open PySem PySem.Spec PyProof.Rows
noncomputable abbrev Key:=Sum Int Str
noncomputable def xF:Key->Value->Bool
 | .inl k,v=>Value.isInt k v
 | .inr x,v=>Value.isStrOf x v
noncomputable def Wh (w:World):Key->Int
 | .inl k=>hashInt k
 | .inr x=>hashStr w x
theorem cE:∀ {k:Key} {v:Value},xF k v=true->(∃ i t,k=Sum.inl i/\v=Value.int i t)\/(∃ x t,k=Sum.inr x/\v=Value.str x t)
 | .inl i,v,h=>by
   obtain⟨t,e⟩:=Value.isInt_shape (k:=i) (v:=v) h
   exact .inl ⟨i,t,rfl,e⟩
 | .inr x,v,h=>by
   obtain⟨t,e⟩:=Value.isStrOf_shape (x:=x) (v:=v) h
   exact .inr ⟨x,t,rfl,e⟩
theorem Fn (i:Int)(t:Tok):xF (.inl i) (.int i t)=true:=by simp[xF,Value.isInt]
theorem Fp (x:Str)(t:Tok):xF (.inr x) (.str x t)=true:=by simp[xF,Value.isStrOf]
theorem OK (a b:Int):decide ((Sum.inl a:Key)=Sum.inl b)=(a == b):=by
 by_cases e:a=b
 . subst e;simp
 . have h:¬ (Sum.inl a:Key)=Sum.inl b:=fun q=>e (Sum.inl.inj q)
   rw[decide_eq_false h]
   exact(beq_eq_false_iff_ne.mpr e).symm
theorem OL (a b:Str):decide ((Sum.inr a:Key)=Sum.inr b)=decide (a=b):=by
 by_cases e:a=b
 . subst e;simp
 . have h:¬ (Sum.inr a:Key)=Sum.inr b:=fun q=>e (Sum.inr.inj q)
   rw[decide_eq_false h,decide_eq_false e]
theorem OM (a:Int)(b:Str):decide ((Sum.inl a:Key)=Sum.inr b)=false:=decide_eq_false (fun q=>nomatch q)
theorem ON (a:Str)(b:Int):decide ((Sum.inr a:Key)=Sum.inl b)=false:=decide_eq_false (fun q=>nomatch q)
noncomputable def cv (prog:Program)(w:World):PySem.KeyKind prog w Key where
 is:=xF
 hash:=Wh w
 inj:=fun v a b ha hb=>by
   rcases cE ha with⟨i,t,rfl,rfl⟩ | ⟨x,t,rfl,rfl⟩
   . rcases cE hb with⟨j,u,rfl,e⟩ | ⟨y,u,rfl,e⟩
     . injection e with e1 _;rw[e1]
     . exact nomatch e
   . rcases cE hb with⟨j,u,rfl,e⟩ | ⟨y,u,rfl,e⟩
     . exact nomatch e
     . injection e with e1 _;rw[e1]
 byValue:=fun k v h=>by
   rcases cE h with⟨i,t,rfl,rfl⟩ | ⟨x,t,rfl,rfl⟩ <;> rfl
 pyHash:=fun hv h=>by
   rcases cE hv with⟨i,t,rfl,rfl⟩ | ⟨x,t,rfl,rfl⟩
   . exact wpAny_pyHash_int h
   . exact wpAny_pyHash_str h
 eqBool:=fun hu hv h=>by
   rcases cE hu with⟨i,t,rfl,rfl⟩ | ⟨x,t,rfl,rfl⟩
   . rcases cE hv with⟨j,u,rfl,rfl⟩ | ⟨y,u,rfl,rfl⟩
     . rw[OK] at h;exact wpAny_eqBool_int h
     . rw[OM] at h;exact SeqAt.EqAt.int_str i t y u _ _ _ _ h
   . rcases cE hv with⟨j,u,rfl,rfl⟩ | ⟨y,u,rfl,rfl⟩
     . rw[ON] at h;exact SeqAt.EqAt.str_int x t j u _ _ _ _ h
     . rw[OL] at h;exact wpAny_eqBool_str h
 «strs»:=fun k x t v h=>by
   rcases cE h with⟨i,u,rfl,e⟩ | ⟨y,u,rfl,e⟩
   . exact nomatch e
   . injection e with e1 _
     subst e1
     cases v <;> rfl
theorem An (prog:Program)(w:World)(i:Int)(t:Tok):(cv prog w).is (.inl i) (.int i t)=true:=Fn i t
theorem Ao (prog:Program)(w:World)(x:Str)(t:Tok):(cv prog w).is (.inr x) (.str x t)=true:=Fp x t
inductive V where
 | c9 | bl (b:Bool) | int (i:Int) | str (x:Str) | GN (b:Array UInt8) | RN (b:UInt64) | ref (a:Addr) | ty (n:String)
 deriving DecidableEq
noncomputable def RelV:V->Value->Prop
 | .c9,u=>u=Value.none
 | .bl b,u=>u=Value.bool b
 | .int i,u=>∃ t,u=Value.int i t
 | .str x,u=>∃ t,u=Value.str x t
 | .GN b,u=>∃ t,u=Value.bytes b t
 | .RN b,u=>∃ t,u=Value.float b t
 | .ref a,u=>u=Value.ref a
 | .ty n,u=>u=Value.type n
noncomputable abbrev Vals:List V->List Value->Prop:=Paired RelV
theorem Vals.length {xs:List V}{us:List Value}(r:Vals xs us):xs.length=us.length:=Paired.length r
theorem Vals.get:∀ {xs:List V} {us:List Value} {i:Nat} {x:V},Vals xs us->xs[i]?=some x->∃ u,us[i]?=some u/\RelV x u
 | _,_,_,_,.nil,e=>by simp at e
 | _,_,0,_,.cons r _,e=>by simp at e;subst e;exact⟨_,rfl,r⟩
 | _,_,i+1,x,.cons _ t,e=>by
   obtain⟨u,h1,h2⟩:=Vals.get (i:=i) (x:=x) t (by simpa using e)
   exact⟨u,by simpa using h1,h2⟩
theorem Vals.set {x:V}{u:Value}(r:RelV x u):∀ {xs:List V} {us:List Value} (i:Nat),Vals xs us->Vals (xs.set i x) (us.set i u)
 | _,_,_,.nil=>.nil
 | _,_,0,.cons _ t=>.cons r t
 | _,_,i+1,.cons q t=>.cons q (Vals.set r i t)
theorem Vals.append:∀ {xs ys:List V} {us ws:List Value},Vals xs us->Vals ys ws->Vals (xs ++ ys) (us ++ ws)
 | _,_,_,_,.nil,s=>s
 | _,_,_,_,.cons r t,s=>.cons r (Vals.append t s)
theorem Vals.take:∀ {xs:List V} {us:List Value} (n:Nat),Vals xs us->Vals (xs.take n) (us.take n)
 | _,_,0,_=>.nil
 | _,_,_+1,.nil=>.nil
 | _,_,n+1,.cons r t=>.cons r (Vals.take n t)
theorem Vals.drop:∀ {xs:List V} {us:List Value} (n:Nat),Vals xs us->Vals (xs.drop n) (us.drop n)
 | _,_,0,r=>r
 | _,_,_+1,.nil=>.nil
 | _,_,n+1,.cons _ t=>Vals.drop n t
noncomputable def pU:Option V->Option Value->Prop
 | some v,some u=>RelV v u
 | none,none=>True
 | _,_=>False
noncomputable def KV {κ:Type}:List (κ×V)->List (κ×Value)->Prop:=Paired fun(p:κ×V) (q:κ×Value)=>p.1=q.1/\RelV p.2 q.2
noncomputable def kV:Key->V
 | .inl i=>.int i
 | .inr x=>.str x
inductive FD where
 | int (i:Int)
 | dw (kds:List (Key×Int))
 | lst (ns:List Int)
 | tup (K:W.Frag) (ns:List Int)
 | obj (C:Addr) (fs:List (Str×FD))
noncomputable abbrev km:=List (Addr×(Nat->List (Key×FD)))
inductive HO where
   | lst (xs:List V)
   | tup (xs:List V)
   | dK (kvs:List (Key×V)) | dT (kvs:List (List Key×V))
   | set (S:Int->Bool) (n:Nat)
   | ins (C dx:Addr) (fs:List (Str×V))
   | own (x:Addr)
   | xd (fs:List (Str×V))
   | met (f x:Addr)
   | Wi (lo hi:Int)
   | bw (o:Obj) (u:HO)
   | OO (ps:Array Value)
   | ext (φ:Heap->Prop)
   | memo (ls:km)
 | bK (ls:km) (ns:List Nat)
   | part (p:Addr)
   | kd (tg:Option (Addr×Nat)) (o:Obj) (kvs:List (Key×V))
   | kx (o:Obj) (u:HO)
noncomputable abbrev Hp:=Addr->Option HO
noncomputable def upd (H:Hp)(a:Addr)(o:HO):Hp:=fun b=>if b=a then some o else H b
theorem ak {H:Hp}{a:Addr}{o:HO}:upd H a o a=some o:=by unfold upd;rw[if_pos rfl]
theorem ag {H:Hp}{a b:Addr}{o:HO}(h:b≠a):upd H a o b=H b:=by unfold upd;rw[if_neg h]
theorem ub {H:Hp}{a:Addr}{o u:HO}:upd (upd H a o) a u=upd H a u:=by
 funext b;unfold upd;split <;> rfl
theorem Sd {H:Hp}{a b:Addr}{o u:HO}(h:H a=some o)(h':H b=some u)(d:o≠u):a≠b:=by
 intro e;subst e;rw[h] at h';exact d (Option.some.inj h')
theorem av {H:Hp}{a b:Addr}{o:HO}(h:H a=some o)(h':H b=none):a≠b:=by
 intro e;subst e;rw[h] at h';cases h'
noncomputable def me:Option HO->Prop
 | some (.memo _)=>True
 | some (.bK _ _)=>True
 | some (.part _)=>True
 | _=>False
noncomputable def Kept:HO->Prop
 | .kd _ _ _=>True
 | .kx _ _=>True
 | .tup _=>True
 | _=>False
noncomputable def TupAt (K:W.Frag)(H:Hp)(a:Addr)(xs:List V):Prop:=
 H a=some (.tup xs) \/
   ∃ (o:Obj) (aG:Array Value) (n:Nat),K.lookup a=some o/\o.cls=.type "tuple"/\o.data=.seq aG n/\aG.size<=sizeLine/\Vals xs aG.toList
mutual
inductive Fz (H:Hp):V->FD->Prop
 | int (i:Int):Fz H (.int i) (.int i)
 | dw {a:Addr} {tg:Option (Addr×Nat)} {o:Obj} {kds:List (Key×Int)}:H a=some (.kd tg o (kds.map fun kd=>(kd.1,V.int kd.2)))->Fz H (.ref a) (.dw kds)
 | lst {a:Addr} {o:Obj} {ns:List Int}:H a=some (.kx o (.lst (ns.map V.int)))->Fz H (.ref a) (.lst ns)
 | tup {a:Addr} {K:W.Frag} {ns:List Int}:TupAt K H a (ns.map V.int)->Fz H (.ref a) (.tup K ns)
 | obj {a C dx:Addr} {o:Obj} {fv:List (Str×V)} {fs:List (Str×FD)}:H a=some (.kx o (.ins C dx fv))->G4 H fv fs->Fz H (.ref a) (.obj C fs)
inductive G4 (H:Hp):List (Str×V)->List (Str×FD)->Prop
 | nil:G4 H [] []
 | cons {k:Str} {v:V} {d:FD} {vs:List (Str×V)} {ds:List (Str×FD)}:Fz H v d->G4 H vs ds->G4 H ((k,v)::vs) ((k,d)::ds)
end
inductive rK (H:Hp):List (Key×V)->List (Key×FD)->Prop
 | nil:rK H [] []
 | cons {k:Key} {v:V} {d:FD} {kvs:List (Key×V)} {kds:List (Key×FD)}:Fz H v d->rK H kvs kds->rK H ((k,v)::kvs) ((k,d)::kds)
noncomputable def OP (H:Hp)(p:Addr)(i:Nat)(aG:List Value)(fd:List (Key×FD)):Prop:=∃ q o kvs,aG[i]?=some (.ref q)/\H q=some (.kd (some (p,i)) o kvs)/\rK H kvs fd
noncomputable def DJ (H:Hp)(h:Heap)(p:Addr)(f:Nat->List (Key×FD))(n:Nat):Prop:=∃ aG c,h.get? p=some { cls:=.type "list",data:=.seq (aG:List Value).toArray c}/\aG.length=n/\∀ i,i < n->OP H p i aG (f i)
noncomputable def uT (H:Hp)(h:Heap)(a:Addr)(ls:km)(ns:List Nat):Prop:=(∃ f,ls[0]?=some (a,f))/\ls.length=ns.length/\(∀ (j:Nat) (p:Addr) (f:Nat->List (Key×FD)),ls[j]?=some (p,f)->(p=a\/H p=some (.part a)))/\(ls.map (·.1)).Nodup/\(∀ n∈ns,n<=10000)/\∀ (j:Nat) (p:Addr) (f:Nat->List (Key×FD)) (n:Nat),ls[j]?=some (p,f)->ns[j]?=some n->DJ H h p f n
section
variable (P:Program)(w:World)
noncomputable def aP (H:Hp)(h:Heap)(a:Addr):HO->Prop
 | .lst xs=>xs.length<=sizeLine/\∃ (aG:List Value) (n:Nat),Vals xs aG/\h.get? a=some { cls:=.type "list",data:=.seq aG.toArray n}
 | .tup xs=>xs.length<=sizeLine/\∃ aG:List Value,Vals xs aG/\IsTup h a aG.toArray
 | .dK kvs=>kvs.length<=sizeLine/\(a == sysModules)=false/\∃ vs,KV kvs vs/\h.DictOf (cv P w) a vs
 | .dT kvs=>kvs.length<=sizeLine/\(a == sysModules)=false/\∃ xs:List (List Key×Addr×Value),
     Paired (fun(p:List Key×V) (q:List Key×Addr×Value)=>p.1=q.1/\H q.2.1=some (.tup (p.1.map kV))/\RelV p.2 q.2.2) kvs xs /\
     ∃ o es ep,h.get? a=some o/\o.ExactDict/\o.data=.dict es ep/\es.toList=xs.map (entryOfKey (tupleKind (cv P w)))/\(xs.map (·.1)).Nodup
 | .set S n=>h.SetOf (intKind P w) a S n
 | .ins C dx fs=>H dx=some (.own a)/\fs.length<=1000/\dx≠a/\h.get? a=some (W.instObj C dx) /\
     ∃ mA,h.Ns1 dx mA/\(∀ f,pU (fs.lookup f) (mA f))/\PySem.Within mA (fs.map (·.1))
 | .own _=>∃ o,h.get? a=some o
 | .xd fs=>∃ mA,h.Ns1 a mA/\∀ f,pU (fs.lookup f) (mA f)
 | .Wi lo hi=>∃ t u v,h.get? a=some { cls:=.type "range",data:=.fields #[.int lo t,.int hi u,.int 1 v]}
 | .bw o u=>h.get? a=some o/\aP H h a u
 | .OO ps=>h.get? a=some { cls:=.none,data:=.fields ps}
 | .met f x=>h.get? a=some (W.methodObj (.ref f) (.ref x))
 | .ext φ=>φ h/\(∃ o,h.get? a=some o)/\∀ h1 h2:Heap,φ h1->(∀ o,h1.get? a=some o->h2.get? a=some o)->φ h2
 | .memo ls=>(∃ o,h.get? a=some o)/\∃ n,0 < n/\uT H h a ls (List.replicate ls.length n)
 | .bK ls ns=>(∃ o,h.get? a=some o)/\uT H h a ls ns
 | .part _=>∃ o,h.get? a=some o
 | .kd tg o kvs=>h.get? a=some o/\(kvs.length<=sizeLine/\(a == sysModules)=false/\∃ vs,KV kvs vs/\h.DictOf (cv P w) a vs) /\
     ∀ p i,tg=some (p,i)->me (H p)/\∃ aG c,h.get? p=some { cls:=.type "list",data:=.seq (aG:List Value).toArray c}/\aG[i]?=some (.ref a)
 | .kx o u=>h.get? a=some o/\aP H h a u
noncomputable def qG (H:Hp)(h:Heap):Prop:=∀ a o,H a=some o->aP P w H h a o
end
section
variable {P:Program}{w:World}{H H':Hp}{h h':Heap}{a:Addr}{o:HO}
theorem aP.lt (x:aP P w H h a o):a < h.objs.size:=by
 cases o with
 | lst xs=>obtain⟨_,_,_,_,e⟩:=x;exact Heap.lt_size e
 | tup xs=>obtain⟨_,_,_,p⟩:=x;exact p.lt
 | dK kvs=>obtain⟨_,_,_,_,o,_,_,e,_⟩:=x;exact Heap.lt_size e
 | dT kvs=>obtain⟨_,_,_,_,o,_,_,e,_⟩:=x;exact Heap.lt_size e
 | set S n=>obtain⟨o,_,_,_,e,_⟩:=x;exact Heap.lt_size e
 | ins C dx fs=>obtain⟨_,_,_,e,_⟩:=x;exact Heap.lt_size e
 | own y=>obtain⟨_,e⟩:=x;exact Heap.lt_size e
 | xd fs=>obtain⟨_,⟨_,_,_,e,_⟩,_⟩:=x;exact Heap.lt_size e
 | Wi lo hi=>obtain⟨_,_,_,e⟩:=x;exact Heap.lt_size e
 | bw ob u=>obtain⟨e,_⟩:=x;exact Heap.lt_size e
 | OO ps=>exact Heap.lt_size (show h.get? a=some _ from x)
 | met f y=>exact Heap.lt_size (show h.get? a=some _ from x)
 | ext φ=>obtain⟨_,⟨_,e⟩,_⟩:=x;exact Heap.lt_size e
 | memo ls=>obtain⟨⟨_,e⟩,_⟩:=x;exact Heap.lt_size e
 | bK ls ns=>obtain⟨⟨_,e⟩,_⟩:=x;exact Heap.lt_size e
 | part y=>obtain⟨_,e⟩:=x;exact Heap.lt_size e
 | kd tg ob kvs=>exact Heap.lt_size x.1
 | kx ob u=>exact Heap.lt_size x.1
theorem Paired.OQ {α β:Type}{F G:α->β->Prop}:∀ {l₁:List α} {l₂:List β},Paired F l₁ l₂->(∀ a b,F a b->G a b)->Paired G l₁ l₂
 | _,_,.nil,_=>.nil
 | _,_,.cons r t,f=>.cons (f _ _ r) (Paired.OQ t f)
structure Kp (H H':Hp):Prop where
 st:∀ b u,H b=some u->Kept u->H' b=some u
 mem:∀ b,me (H b)->me (H' b)
 part:∀ b x,H b=some (.part x)->H' b=some (.part x)
theorem Kp.kd (kp:Kp H H')(b:Addr)(tg:Option (Addr×Nat))(o:Obj)(kvs:List (Key×V))(e:H b=some (.kd tg o kvs)):H' b=some (.kd tg o kvs):=kp.st b _ e trivial
theorem Kp.refl:Kp H H:=⟨fun _ _ e _=>e,fun _ e=>e,fun _ _ e=>e⟩
theorem Kp.of (s:∀ b u,H b=some u->H' b=some u):Kp H H':=⟨fun _ _ e _=>s _ _ e,fun b e=>by
 cases q:H b with
 | none=>rw[q] at e;exact e.elim
 | some u=>rw[s b u q,<- q];exact e,fun _ _ e=>s _ _ e⟩
theorem TupAt.kp {K:W.Frag}{xs:List V}(k:∀ b u,H b=some u->Kept u->H' b=some u)(h:TupAt K H a xs):TupAt K H' a xs:=h.imp (fun e=>k _ _ e trivial) id
mutual
theorem Fz.st (k:∀ b u,H b=some u->Kept u->H' b=some u):∀ {v:V} {d:FD},Fz H v d->Fz H' v d
 | _,_,.int i=>.int i
 | _,_,.dw e=>.dw (k _ _ e trivial)
 | _,_,.lst e=>.lst (k _ _ e trivial)
 | _,_,.tup e=>.tup (e.kp k)
 | _,_,.obj e f=>.obj (k _ _ e trivial) (G4.st k f)
theorem G4.st (k:∀ b u,H b=some u->Kept u->H' b=some u):∀ {v:List (Str×V)} {d:List (Str×FD)},G4 H v d->G4 H' v d
 | _,_,.nil=>.nil
 | _,_,.cons h t=>.cons (Fz.st k h) (G4.st k t)
end
theorem Fz.kp (kp:Kp H H'){v:V}{d:FD}(h:Fz H v d):Fz H' v d:=h.st kp.st
theorem rK.kp (kp:Kp H H'):∀ {kvs:List (Key×V)} {kds:List (Key×FD)},rK H kvs kds->rK H' kvs kds
 | _,_,.nil=>.nil
 | _,_,.cons h t=>.cons (h.kp kp) (rK.kp kp t)
theorem DJ.kp {p:Addr}{f:Nat->List (Key×FD)}{n:Nat}(kp:Kp H H')(x:DJ H h p f n)(k:∀ u,h.get? p=some u->h'.get? p=some u):DJ H' h' p f n:=by
 obtain⟨aG,c,e,hl,hi⟩:=x
 exact⟨aG,c,k _ e,hl,fun i hn=>let ⟨q,o,kvs,h1,h2,h3⟩:=hi i hn;⟨q,o,kvs,h1,kp.kd _ _ _ _ h2,h3.kp kp⟩⟩
theorem uT.kp {ls:km}{ns:List Nat}(kp:Kp H H')(x:uT H h a ls ns)(k:∀ b u,b=a\/H b=some (.part a)->h.get? b=some u->h'.get? b=some u):uT H' h' a ls ns:=by
 obtain⟨h1,h2,h3,h4,h5,h6⟩:=x
 exact⟨h1,h2,fun j p f e=>(h3 j p f e).imp id fun z=>kp.part _ _ z,h4,h5,fun j p f n e1 e2=>(h6 j p f n e1 e2).kp kp fun u e=>k p u (h3 j p f e1) e⟩
noncomputable def Se (h:Heap)(p:Addr)(i:Nat)(c:Addr):Prop:=∃ aG n,h.get? p=some { cls:=.type "list",data:=.seq (aG:List Value).toArray n}/\aG[i]?=some (.ref c)
theorem aP.NL (x:aP P w H h a o)(k:∀ b u,(b=a\/H b=some (.own a)\/H b=some (.part a))->h.get? b=some u->h'.get? b=some u)(ho:∀ b,H b=some (.own a)->H' b=some (.own a))(ht:∀ b xs,H b=some (.tup xs)->H' b=some (.tup xs))(kp:Kp H H')(hl:∀ p i c,me (H p)->Se h p i c->Se h' p i c):aP P w H' h' a o:=by
 induction o with
 | lst xs=>obtain⟨z,aG,n,r,e⟩:=x;exact⟨z,aG,n,r,k _ _ (.inl rfl) e⟩
 | tup xs=>obtain⟨z,aG,r,ob,e,c⟩:=x;exact⟨z,aG,r,ob,k _ _ (.inl rfl) e,c⟩
 | dK kvs=>obtain⟨z,y,vs,r,ob,es,ep,e,c⟩:=x;exact⟨z,y,vs,r,ob,es,ep,k _ _ (.inl rfl) e,c⟩
 | dT kvs=>
   obtain⟨z,y,xs,r,ob,es,ep,e,c⟩:=x
   exact⟨z,y,xs,Paired.OQ r fun p q z=>⟨z.1,ht _ _ z.2.1,z.2.2⟩,ob,es,ep,k _ _ (.inl rfl) e,c⟩
 | set S n=>obtain⟨ob,es,ep,t,e,c⟩:=x;exact⟨ob,es,ep,t,k _ _ (.inl rfl) e,c⟩
 | ins C dx fs=>
   obtain⟨d,z,ne,e,mA,⟨od,es,ep,e2,c⟩,r⟩:=x
   exact⟨ho _ d,z,ne,k _ _ (.inl rfl) e,mA,⟨od,es,ep,k _ _ (.inr (.inl d)) e2,c⟩,r⟩
 | own y=>obtain⟨ob,e⟩:=x;exact⟨ob,k _ _ (.inl rfl) e⟩
 | xd fs=>obtain⟨mA,⟨od,es,ep,e,c⟩,r⟩:=x;exact⟨mA,⟨od,es,ep,k _ _ (.inl rfl) e,c⟩,r⟩
 | Wi lo hi=>obtain⟨t,u,v,e⟩:=x;exact⟨t,u,v,k _ _ (.inl rfl) e⟩
 | bw ob u ih=>obtain⟨e,q⟩:=x;exact⟨k _ _ (.inl rfl) e,ih q⟩
 | OO ps=>
   have e:h.get? a=some { cls:=.none,data:=.fields ps}:=x
   show h'.get? a=some { cls:=.none,data:=.fields ps}
   exact k a _ (.inl rfl) e
 | met f y=>
   have e:h.get? a=some (W.methodObj (.ref f) (.ref y)):=x
   show h'.get? a=some (W.methodObj (.ref f) (.ref y))
   exact k a _ (.inl rfl) e
 | ext φ=>obtain⟨p,⟨o,e⟩,st⟩:=x;exact⟨st _ _ p fun o q=>k _ _ (.inl rfl) q,⟨o,k _ _ (.inl rfl) e⟩,st⟩
 | memo ls=>
   obtain⟨⟨o,e⟩,n,hn,q⟩:=x
   refine⟨⟨o,k _ _ (.inl rfl) e⟩,n,hn,q.kp kp fun b u hb=>k b u ?_⟩
   rcases hb with z | z
   . exact .inl z
   . exact .inr (.inr z)
 | bK ls ns=>
   obtain⟨⟨o,e⟩,q⟩:=x
   refine⟨⟨o,k _ _ (.inl rfl) e⟩,q.kp kp fun b u hb=>k b u ?_⟩
   rcases hb with z | z
   . exact .inl z
   . exact .inr (.inr z)
 | part y=>obtain⟨o,e⟩:=x;exact⟨o,k _ _ (.inl rfl) e⟩
 | kd tg ob kvs=>
   obtain⟨e,⟨z,y,vs,r,ob',es,ep,e',c⟩,q⟩:=x
   refine⟨k _ _ (.inl rfl) e,⟨z,y,vs,r,ob',es,ep,k _ _ (.inl rfl) e',c⟩,fun p i ht=>?_⟩
   obtain⟨q1,q2⟩:=q p i ht
   exact⟨kp.mem _ q1,hl p i _ q1 q2⟩
 | kx ob u ih=>obtain⟨e,q⟩:=x;exact⟨k _ _ (.inl rfl) e,ih q⟩
theorem aP.yt (x:aP P w H h a o)(k:∀ b u,(b=a\/H b=some (.own a)\/me (H b))->h.get? b=some u->h'.get? b=some u)(ho:∀ b,H b=some (.own a)->H' b=some (.own a))(ht:∀ b xs,H b=some (.tup xs)->H' b=some (.tup xs))(kp:Kp H H'):aP P w H' h' a o:=
 x.NL (fun b u hb=>k b u (by
   rcases hb with z | z | z
   . exact .inl z
   . exact .inr (.inl z)
   . exact .inr (.inr (by rw[z];trivial)))) ho ht kp fun p i c hm ⟨aG,n,e,q⟩=>⟨aG,n,k p _ (.inr (.inr hm)) e,q⟩
theorem qG.lt (x:qG P w H h)(e:H a=some o):a < h.objs.size:=(x a o e).lt
theorem qG.fresh (x:qG P w H h)(e:h.objs.size<=a):H a=none:=by
 cases q:H a with
 | none=>rfl
 | some u=>exact absurd (Nat.lt_of_lt_of_le (x.lt q) e) (Nat.lt_irrefl _)
theorem qG.kept (x:qG P w H h)(k:∀ b u,h.get? b=some u->h'.get? b=some u):qG P w H h':=fun a o e=>
 (x a o e).yt (fun b u _ q=>k b u q) (fun _ q=>q) (fun _ _ q=>q) .refl
theorem qG.laid (x:qG P w H h)(k:∀ b u,h.get? b=some u->h'.get? b=some u)(hp:h.objs.size<=a)(new:aP P w (upd H a o) h' a o):qG P w (upd H a o) h':=fun b u e=>by
 have hn:=x.fresh hp
 by_cases hb:b=a
 . subst hb;rw[ak] at e;cases e;exact new
 . rw[ag hb] at e
   exact(x b u e).yt (fun c v _ q=>k c v q) (fun c q=>by rw[ag (av q hn)];exact q) (fun c xs q=>by rw[ag (av q hn)];exact q) (.of fun c u q=>by rw[ag (av q hn)];exact q)
end
noncomputable def Rd (H:Hp)(a:Addr)(u:HO):Prop:=H a=some u\/(∃ o,H a=some (.bw o u))\/(∃ tg o kvs,H a=some (.kd tg o kvs)/\u=.dK kvs)\/∃ o,H a=some (.kx o u)
theorem Rd.of {H:Hp}{a:Addr}{u:HO}(h:H a=some u):Rd H a u:=.inl h
theorem Rd.ok {P:Program}{w:World}{H:Hp}{h:Heap}{a:Addr}{u:HO}(r:Rd H a u)(x:qG P w H h):aP P w H h a u:=by
 rcases r with r | ⟨o,r⟩ | ⟨tg,o,kvs,r,rfl⟩ | ⟨o,r⟩
 . exact x a u r
 . obtain⟨_,q⟩:=x a _ r
   exact q
 . obtain⟨_,q,_⟩:=x a _ r
   exact q
 . obtain⟨_,q⟩:=x a _ r
   exact q
noncomputable def RO:Option HO->Prop
 | some (.lst _)=>True
 | some (.dK _)=>True
 | some (.dT _)=>True
 | some (.set _ _)=>True
 | some (.ins _ _ _)=>True
 | some (.ext _)=>True
 | _=>False
section
variable {P:Program}{w:World}{H:Hp}{h h':Heap}{x e:Addr}{o':HO}
theorem qG.write (ok:qG P w H h)(mu:RO (H x))(he:e=x\/H e=some (.own x))(k:∀ b u,b≠e->h.get? b=some u->h'.get? b=some u)(RP:∃ u,h'.get? e=some u)(new:aP P w (upd H x o') h' x o'):qG P w (upd H x o') h':=fun b u q=>by
 have yu:∀ c y,H c=some (.own y)->c≠x:=fun c y r z=>by subst z;rw[r] at mu;exact mu
 have Wj:∀ c xs,H c=some (.tup xs)->c≠x:=fun c xs r z=>by subst z;rw[r] at mu;exact mu
 by_cases hb:b=x
 . subst hb;rw[ak] at q;cases q;exact new
 . rw[ag hb] at q
   by_cases Ap:b=e
   . have q':H b=some (.own x):=by
       rcases he with z | z
       . exact absurd (Ap.trans z) hb
       . rw[Ap];exact z
     rw[q] at q';cases q'
     obtain⟨v,hv⟩:=RP
     exact⟨v,by rw[Ap];exact hv⟩
   . have Y1:∀ c u,H c=some u->¬ RO (some u)->c≠x:=fun c u r nm z=>by subst z;rw[r] at mu;exact nm mu
     have Y2:∀ c,me (H c)->c≠x:=fun c r z=>by
       subst z
       cases qq:H c with
       | none=>rw[qq] at r;exact r
       | some u=>rw[qq] at r mu;cases u <;> first | exact mu | exact r
     refine(ok b u q).yt (fun c v hc r=>k c v ?_ r) (fun c r=>by rw[ag (yu c b r)];exact r) (fun c xs r=>by rw[ag (Wj c xs r)];exact r) ⟨fun c u r kq=>by rw[ag (Y1 c _ r (by cases u <;> first | exact(show False from kq).elim | exact fun z=>z))];exact r,fun c r=>by rw[ag (Y2 c r)];exact r,fun c y r=>by rw[ag (Y1 c _ r fun z=>z)];exact r⟩
     rcases hc with rfl | hc | hc
     . exact Ap
     . rintro rfl
       rcases he with z | z
       . exact yu c b hc z
       . rw[hc] at z;cases z;exact hb rfl
     . rintro rfl
       rcases he with z | z
       . exact Y2 c hc z
       . rw[z] at hc;exact hc
end
structure Un (fs ex:List Addr)(H H':Hp)(h h':Heap):Prop where
 keep:∀ b o,h.get? b=some o->H b=none->b ∉ fs->b ∉ ex->h'.get? b=some o
 slot:∀ b o,h.get? b=some o->H b=none->b∈fs->b ∉ ex->∃ sl,h'.get? b=some { o with slots:=sl}
 free:∀ b o,h.get? b=some o->H b=none->b ∉ ex->H' b=none
 there:∀ b o,h.get? b=some o->b ∉ ex->∃ o',h'.get? b=some o'
 Aq:∀ b xs,H b=some (.tup xs)->H' b=some (.tup xs)
 yv:∀ b o u,H b=some (.bw o u)->H' b=some (.bw o u)
 Ar:∀ b ps,H b=some (.OO ps)->∃ more,H' b=some (.OO (ps ++ more))
section
variable {fs ex:List Addr}{H H1:Hp}{h h1 h':Heap}{a x e:Addr}{o:HO}
theorem Un.any (u:Un fs ex H H1 h h1){b:Addr}{ob:Obj}(q:h.get? b=some ob)(n:H b=none)(hx:b ∉ ex):∃ sl,h1.get? b=some { ob with slots:=sl}:=by
 by_cases hb:b∈fs
 . exact u.slot b ob q n hb hx
 . exact⟨ob.slots,u.keep b ob q n hb hx⟩
theorem Un.kept (k:∀ b u,h.get? b=some u->h'.get? b=some u):Un fs ex H H h h':=
 ⟨fun b ob q _ _ _=>k b ob q,fun b ob q _ _ _=>⟨ob.slots,k b ob q⟩,fun _ _ _ n _=>n,fun b ob q _=>⟨ob,k b ob q⟩,fun _ _ q=>q,fun _ _ _ q=>q,fun _ ps q=>⟨#[],by rw[q];simp⟩⟩
theorem Un.refl:Un fs ex H H h h:=Un.kept fun _ _ q=>q
theorem Un.laid (k:∀ b u,h.get? b=some u->h'.get? b=some u)(hp:h.objs.size<=a)(hn:H a=none):Un fs ex H (upd H a o) h h' where
 keep:=fun b u q _ _ _=>k b u q
 slot:=fun b u q _ _ _=>⟨u.slots,k b u q⟩
 free:=fun b u q n _=>by rw[ag (Nat.ne_of_lt (Nat.lt_of_lt_of_le (Heap.lt_size q) hp))];exact n
 there:=fun b u q _=>⟨u,k b u q⟩
 Aq:=fun b xs q=>by rw[ag (av q hn)];exact q
 yv:=fun b u xs q=>by rw[ag (av q hn)];exact q
 Ar:=fun b ps q=>⟨#[],by rw[ag (av q hn),q];simp⟩
theorem Un.write (mu:RO (H x))(he:e=x\/H e=some (.own x))(k:∀ b u,b≠e->h.get? b=some u->h'.get? b=some u)(RP:∃ u,h'.get? e=some u):Un fs ex H (upd H x o) h h':=by
 have hx:∀ b,H b=none->b≠x:=fun b n z=>by subst z;rw[n] at mu;exact mu
 have hb:∀ b,H b=none->b≠e:=fun b n z=>by
   subst z
   rcases he with r | r
   . exact hx b n r
   . rw[n] at r;cases r
 have hm:∀ b u,H b=some u->¬ RO (some u)->b≠x:=fun b u q nm z=>by subst z;rw[q] at mu;exact nm mu
 refine⟨fun b u q n _ _=>k b u (hb b n) q,fun b u q n _ _=>⟨u.slots,k b u (hb b n) q⟩,fun b u q n _=>by rw[ag (hx b n)];exact n,fun b u q _=>?_,
   fun b xs q=>by rw[ag (hm b _ q fun z=>z)];exact q,fun b u xs q=>by rw[ag (hm b _ q fun z=>z)];exact q,fun b ps q=>⟨#[],by rw[ag (hm b _ q fun z=>z),q];simp⟩⟩
 by_cases Ap:b=e
 . subst Ap;exact RP
 . exact⟨u,k b u Ap q⟩
end
noncomputable def cw (h:Heap)(H:Hp):List Addr:=(List.range h.objs.size).filter fun a=>(H a).isSome
noncomputable def yw (h:Heap)(H:Hp):Heap:=PySem.W.hideAll h (cw h H)
theorem Fq (h:Heap)(H:Hp):(yw h H).objs.size=h.objs.size:=W.hideAll_size _ _
theorem G5 {h:Heap}{H:Hp}{b:Addr}{o:Obj}(e:h.get? b=some o)(n:H b=none):(yw h H).get? b=some o:=
 W.hideAll_get _ e fun hm=>by
   have q:(H b).isSome=true:=(List.mem_filter.mp hm).2
   rw[n] at q;simp at q
theorem Lj {h:Heap}{H:Hp}{b:Addr}{o:Obj}(e:(yw h H).get? b=some o):h.get? b=some o/\H b=none:=by
 have e':h.get? b=some o:=W.of_hideAll (cw h H) e
 refine⟨e',?_⟩
 cases q:H b with
 | none=>rfl
 | some x=>
   have hm:b∈cw h H:=List.mem_filter.mpr ⟨List.mem_range.mpr (Heap.lt_size e'),by simp[q]⟩
   have z:(yw h H).get? b=none:=W.hideAll_none (cw h H) hm
   rw[z] at e;cases e
noncomputable def Lk (g h:Heap)(L:Addr):List (Addr×Obj):=(List.range h.objs.size).filterMap fun a=>if a=L\/(g.get? a).isSome=true then none else (h.get? a).map fun o=>(a,o)
noncomputable def rest (g h:Heap)(L d:Addr):List (Addr×Obj):=(Lk g h L).filter fun p=>decide (p.1≠d)
structure Mod (K:W.Frag)(mg:Str->Option Value)(base:Heap):Prop where
 Sf:K.In base
 glob:base.Ns mainGlobals mg
 blt:∃ mb,base.Ns builtinsNs mb/\∀ x:Str,x≠"__name__"->mb x=bootBuiltins x
 nolimit:base.NoLimit
structure Cx where
 prog:Program
 w:World
 K:W.Frag
 mg:Str->Option Value
 base:Heap
 A:Around
 N:List Str
 s₀:Shared
 H₀:Hp
 env:Env
 outer:List Env
 stack:List Env
 ex:List Addr
 fn:Str->Bool
 calm:Bool
 pn:List (Addr×Obj)
 xe:Value->Shared->Prop
noncomputable def G6 (l:List Env):List Addr:=l.filterMap (·.frame)
noncomputable abbrev Cx.fs (X:Cx):List Addr:=G6 X.outer
noncomputable def uU (sc:Scope)(x:Str):Prop:=sc.names.lookup x=some .local\/sc.names.lookup x=some .cell\/sc.names.lookup x=some .free
noncomputable def Loc (sc:Scope)(x:Str):Prop:=sc.names.lookup x=some .local\/sc.names.lookup x=some .cell
noncomputable def Look (env:Env)(h:Heap)(m:Str->Option Value)(x:Str)(u:Value):Prop:=
 (env.kindOf x=some .local/\m x=some u)\/((env.kindOf x=some .cell\/env.kindOf x=some .free)/\∃ c,env.cells.lookup x=some c/\h.IsCell c (some u))
structure Cx.Ok (X:Cx):Prop where
 mod:Mod X.K X.mg X.base
 kind:X.env.scope.kind=.function
 glob:X.env.globals=mainGlobals
 blt:X.env.builtins=builtinsNs
 above:X.s₀.heap.objs.size<=X.env.locals
 inj:∀ x y c,X.env.cells.lookup x=some c->X.env.cells.lookup y=some c->x=y
 has:∀ x,(X.env.kindOf x=some .cell\/X.env.kindOf x=some .free)->∃ c,X.env.cells.lookup x=some c
 RS:∀ x c,X.fn x=true->X.env.cells.lookup x=some c->X.s₀.heap.objs.size<=c
 hd:X.calm=true->X.A.handled=none
 frames:X.A.frames=some X.stack
 Sh:X.stack=X.outer\/(X.stack=X.env::X.outer/\X.env.frame=some X.env.locals)
 Ll:∀ b∈X.ex,b≠X.env.locals/\∀ x c,X.env.cells.lookup x=some c->c≠b
 bs:∀ b o,X.base.get? b=some o->X.s₀.heap.get? b=some o/\X.H₀ b=none
 DK:X.base.objs.size<=X.s₀.heap.objs.size
 As:∀ b o,X.base.get? b=some o->b ∉ X.ex
 Au:∀ b∈X.ex,b ∉ X.fs
 rL:X.s₀.heap.FunFrames X.base X.outer
 NM:∀ b∈X.fs,X.H₀ b=none
structure Inv (X:Cx)(pins:List (Addr×Obj))(σ:List (Option V))(H:Hp)(s:Shared):Prop where
 ok:X.Ok
 os:s.os=X.s₀.os
 bare:AllBare s.gens
 base:Un X.fs X.ex X.H₀ H X.s₀.heap s.heap
 loc:∃ m,s.heap.Ns X.env.locals m/\∀ (i:Nat) (x:Str) (v:V),X.N[i]?=some x->σ[i]?=some (some v)->uU X.env.scope x->∃ u,RelV v u/\Look X.env s.heap m x u
 cell:∀ x c,X.env.cells.lookup x=some c->∃ v,s.heap.IsCell c v
 free:H X.env.locals=none
 p9:∀ x c,X.env.cells.lookup x=some c->H c=none
 pin:∀ p∈X.pn ++ pins,s.heap.get? p.1=some p.2/\H p.1=none/\p.1≠X.env.locals/\p.1 ∉ X.fs/\∀ v,p.2.data≠.cell v
 bH:qG X.prog X.w H s.heap
 len:σ.length=X.N.length
section
variable {X:Cx}{pins:List (Addr×Obj)}{σ:List (Option V)}{H H':Hp}{s:Shared}{h':Heap}
theorem Cx.Ok.OR (ok:X.Ok){b:Addr}{o:Obj}(e:X.base.get? b=some o):b ∉ X.fs:=fun hb=>by
 have:=(ok.rL.mem hb).1
 rw[e] at this;cases this
theorem Inv.bs (I:Inv X pins σ H s):∀ b o,X.base.get? b=some o->s.heap.get? b=some o/\H b=none:=fun b o e=>
 ⟨I.base.keep b o (I.ok.bs b o e).1 (I.ok.bs b o e).2 (I.ok.OR e) (I.ok.As b o e),I.base.free b o (I.ok.bs b o e).1 (I.ok.bs b o e).2 (I.ok.As b o e)⟩
theorem Inv.bk (I:Inv X pins σ H s):∀ b o,X.base.get? b=some o->s.heap.get? b=some o:=fun b o e=>(I.bs b o e).1
theorem Inv.mod (I:Inv X pins σ H s):Mod X.K X.mg X.base:=I.ok.mod
theorem Inv.Av (I:Inv X pins σ H s):X.K.In s.heap:=I.ok.mod.Sf.keeps I.bk
theorem Inv.lt (I:Inv X pins σ H s):X.env.locals < s.heap.objs.size:=let ⟨_,hn,_⟩:=I.loc;hn.lt
theorem Inv.sz (I:Inv X pins σ H s):X.s₀.heap.objs.size<=s.heap.objs.size:=Nat.le_trans I.ok.above (Nat.le_of_lt I.lt)
theorem Inv.Wk (I:Inv X pins σ H s){a:Addr}(h:s.heap.objs.size<=a):a ∉ X.fs:=fun hb=>by
 obtain⟨_,o,ho,_⟩:=I.ok.rL.mem hb
 exact absurd (Nat.lt_of_lt_of_le (Heap.lt_size ho) (Nat.le_trans I.sz h)) (Nat.lt_irrefl _)
theorem Inv.Cf (I:Inv X pins σ H s):∀ x c,X.env.cells.lookup x=some c->c≠X.env.locals:=fun x c e z=>by
 obtain⟨v,o,ho,hd⟩:=I.cell x c e
 obtain⟨m,⟨o',es,ep,G7,NN,_⟩,_⟩:=I.loc
 rw[z,G7] at ho;cases ho;rw[NN] at hd;cases hd
theorem Inv.rL (I:Inv X pins σ H s):s.heap.FunFrames X.base X.outer:=by
 have all:∀ (l:List Env),(∀ b∈G6 l,b∈X.fs)->X.s₀.heap.FunFrames X.base l->s.heap.FunFrames X.base l:=by
   intro l
   induction l with
   | nil=>intro _ _;trivial
   | cons env r ih=>
     intro hs hl
     obtain⟨hk,⟨L,o,hf,hn,ho,hd⟩,hr⟩:=hl
     have hL:L∈X.fs:=hs L (by unfold G6;rw[List.filterMap_cons,hf];exact List.mem_cons_self)
     obtain⟨sl,e⟩:=I.base.slot L o ho (I.ok.NM L hL) hL fun z=>I.ok.Au L z hL
     exact⟨hk,⟨L,_,hf,hn,e,hd⟩,ih (fun b hb=>hs b (by unfold G6;rw[List.filterMap_cons,hf];exact List.mem_cons_of_mem _ hb)) hr⟩
 exact all X.outer (fun _ hb=>hb) I.ok.rL
theorem Inv.stack (I:Inv X pins σ H s):s.heap.FunFrames X.base X.stack:=by
 rcases I.ok.Sh with e | ⟨e,hf⟩
 . rw[e];exact I.rL
 . rw[e]
   obtain⟨m,hn,_⟩:=I.loc
   refine .cons (by rw[I.ok.kind];decide) hf hn ?_ I.rL
   exact Heap.get?_none_of_le (Nat.le_trans I.ok.DK I.ok.above)
theorem Inv.uV (I:Inv X pins σ H s):∀ b∈G6 X.stack,b∈X.env.locals::X.fs:=fun b hb=>by
 rcases I.ok.Sh with e | ⟨e,hf⟩
 . rw[e] at hb;exact List.mem_cons_of_mem _ hb
 . rw[e] at hb
   unfold G6 at hb
   rw[List.filterMap_cons,hf] at hb
   exact hb
theorem Inv.uc (I:Inv X pins σ H s):∀ b∈G6 X.stack,H b=none:=fun b hb=>by
 rcases List.mem_cons.mp (I.uV b hb) with e | hb
 . rw[e];exact I.free
 . obtain⟨_,o,ho,_⟩:=I.ok.rL.mem hb
   exact I.base.free b o ho (I.ok.NM b hb) fun z=>I.ok.Au b z hb
theorem Inv.step {g':Array GenState}{t':Nat}{d':Drawn}{ch:List Addr}(I:Inv X pins σ H s)(Aj:∀ b∈ch,(b∈X.ex\/X.s₀.heap.objs.size<=b)/\b≠X.env.locals/\(∀ x c,X.env.cells.lookup x=some c->c≠b)/\∀ p∈X.pn ++ pins,p.1≠b)(keep:∀ b o,b≠X.env.locals->b ∉ X.fs->b ∉ ch->s.heap.get? b=some o->H b=none->h'.get? b=some o)(slot:∀ b o,b≠X.env.locals->b∈X.fs->b ∉ ch->s.heap.get? b=some o->H b=none->∃ sl,h'.get? b=some { o with slots:=sl})(free:∀ b o,b ∉ ch->s.heap.get? b=some o->H b=none->H' b=none)(there:∀ b o,b ∉ ch->s.heap.get? b=some o->∃ o',h'.get? b=some o')(Aq:∀ b xs,H b=some (.tup xs)->H' b=some (.tup xs))(yv:∀ b o u,H b=some (.bw o u)->H' b=some (.bw o u))(Ar:∀ b ps,H b=some (.OO ps)->∃ more,H' b=some (.OO (ps ++ more)))(ns:∀ m,s.heap.Ns X.env.locals m->h'.Ns X.env.locals m)(bH:qG X.prog X.w H' h')(hg:AllBare g'):Inv X pins σ H' { s with heap:=h',gens:=g',drawn:=d',toks:=t'}:=by
 have Y3:∀ b o,X.s₀.heap.get? b=some o->b≠X.env.locals:=fun b o e=>Nat.ne_of_lt (Nat.lt_of_lt_of_le (Heap.lt_size e) I.ok.above)
 have Vu:∀ b o,X.s₀.heap.get? b=some o->b ∉ X.ex->b ∉ ch:=fun b o e hx hb=>by
   rcases (Aj b hb).1 with z | z
   . exact hx z
   . exact absurd (Nat.lt_of_lt_of_le (Heap.lt_size e) z) (Nat.lt_irrefl _)
 have cellK:∀ x c,X.env.cells.lookup x=some c->∀ v,s.heap.IsCell c v->h'.IsCell c v:=fun x c e v ⟨o,ho,hd⟩=>by
   have Si:c ∉ ch:=fun z=>(Aj c z).2.2.1 x c e rfl
   by_cases hc:c∈X.fs
   . obtain⟨sl,q⟩:=slot c o (I.Cf x c e) hc Si ho (I.p9 x c e)
     exact⟨_,q,hd⟩
   . exact⟨o,keep c o (I.Cf x c e) hc Si ho (I.p9 x c e),hd⟩
 refine⟨I.ok,I.os,hg,⟨fun b o e n hb hx=>?_,fun b o e n hb hx=>?_,fun b o e n hx=>?_,fun b o e hx=>?_,fun b xs e=>Aq b xs (I.base.Aq b xs e),fun b o xs e=>yv b o xs (I.base.yv b o xs e),fun b ps e=>?_⟩,?_,fun x c e=>?_,?_,fun x c e=>?_,fun p hp=>?_,bH,I.len⟩
 . exact keep b o (Y3 b o e) hb (Vu b o e hx) (I.base.keep b o e n hb hx) (I.base.free b o e n hx)
 . obtain⟨sl,e1⟩:=I.base.slot b o e n hb hx
   obtain⟨sl',e2⟩:=slot b _ (Y3 b o e) hb (Vu b o e hx) e1 (I.base.free b o e n hx)
   exact⟨sl',e2⟩
 . obtain⟨o',e1⟩:=I.base.there b o e hx
   exact free b o' (Vu b o e hx) e1 (I.base.free b o e n hx)
 . obtain⟨o',e1⟩:=I.base.there b o e hx
   exact there b o' (Vu b o e hx) e1
 . obtain⟨m1,e1⟩:=I.base.Ar b ps e
   obtain⟨m2,e2⟩:=Ar b _ e1
   exact⟨m1 ++ m2,by rw[e2,Array.append_assoc]⟩
 . obtain⟨m,hn,hl⟩:=I.loc
   refine⟨m,ns m hn,fun i x v e1 e2 e3=>?_⟩
   obtain⟨u,r,l⟩:=hl i x v e1 e2 e3
   refine⟨u,r,?_⟩
   rcases l with l | ⟨k,c,e,z⟩
   . exact .inl l
   . exact .inr ⟨k,c,e,cellK x c e _ z⟩
 . obtain⟨v,z⟩:=I.cell x c e
   exact⟨v,cellK x c e v z⟩
 . obtain⟨m,⟨o,_,_,ho,_⟩,_⟩:=I.loc
   exact free _ o (fun z=>(Aj _ z).2.1 rfl) ho I.free
 . obtain⟨v,o,ho,hd⟩:=I.cell x c e
   exact free c o (fun z=>(Aj c z).2.2.1 x c e rfl) ho (I.p9 x c e)
 . obtain⟨e,n,ne,nf,d⟩:=I.pin p hp
   have Si:p.1 ∉ ch:=fun z=>(Aj p.1 z).2.2.2 p hp rfl
   exact⟨keep p.1 p.2 ne nf Si e n,free p.1 p.2 Si e n,ne,nf,d⟩
theorem Inv.un {t':Nat}(I:Inv X pins σ H s)(u:Un X.fs [] H H' s.heap h')(bH:qG X.prog X.w H' h'):Inv X pins σ H' { s with heap:=h',toks:=t'}:=by
 obtain⟨m,⟨o,es,ep,ho,r⟩,_⟩:=id I.loc
 obtain⟨sl,hL⟩:=u.any ho I.free (by simp)
 exact I.step (g':=s.gens) (d':=s.drawn) (ch:=[]) (fun _ z=>nomatch z) (fun b o _ hb _ e n=>u.keep b o e n hb (by simp)) (fun b o _ hb _ e n=>u.slot b o e n hb (by simp)) (fun b o _ e n=>u.free b o e n (by simp)) (fun b o _ e=>u.there b o e (by simp)) u.Aq u.yv u.Ar (fun m' hm=>by
   obtain⟨o',G8,Sk,G7,r'⟩:=hm
   rw[ho] at G7;cases G7
   exact⟨_,G8,Sk,hL,r'⟩) bH I.bare
theorem Inv.call {g':Array GenState}{t':Nat}{d':Drawn}{ch:List Addr}(I:Inv X pins σ H s)(u:Un (G6 X.stack) ch H H' s.heap h')(bH:qG X.prog X.w H' h')(hg:AllBare g')(Aj:∀ b∈ch,(b∈X.ex\/X.s₀.heap.objs.size<=b)/\b≠X.env.locals/\(∀ x c,X.env.cells.lookup x=some c->c≠b)/\∀ p∈X.pn ++ pins,p.1≠b):Inv X pins σ H' { s with heap:=h',gens:=g',drawn:=d',toks:=t'}:=by
 obtain⟨m,⟨o,es,ep,ho,r⟩,_⟩:=id I.loc
 obtain⟨sl,hL⟩:=u.any ho I.free fun z=>(Aj _ z).2.1 rfl
 exact I.step (ch:=ch) Aj (fun b o hL hb hc e n=>u.keep b o e n (fun z=>(List.mem_cons.mp (I.uV b z)).elim hL hb) hc) (fun b o _ _ hc e n=>u.any e n hc) (fun b o hc e n=>u.free b o e n hc) (fun b o hc e=>u.there b o e hc) u.Aq u.yv u.Ar (fun m' hm=>by
   obtain⟨o',G8,Sk,G7,r'⟩:=hm
   rw[ho] at G7;cases G7
   exact⟨_,G8,Sk,hL,r'⟩) bH hg
theorem Inv.turned {t':Nat}{it:Addr}(I:Inv X pins σ H s)(k:∀ b o,b≠it->s.heap.get? b=some o->h'.get? b=some o)(hn:H it=none)(hL:it≠X.env.locals)(h1:it∈X.ex\/X.s₀.heap.objs.size<=it)(h2:∀ x c,X.env.cells.lookup x=some c->c≠it)(h3:∀ p∈X.pn ++ pins,p.1≠it):Inv X pins σ H { s with heap:=h',toks:=t'}:=by
 have Sl:∀ b u,H b=some u->b≠it:=fun b u e z=>by rw[z,hn] at e;cases e
 refine I.step (g':=s.gens) (d':=s.drawn) (ch:=[it]) (fun b hb=>?_) (fun b o _ _ hc e _=>k b o (fun z=>hc (by simp[z])) e) (fun b o _ _ hc e _=>⟨o.slots,k b o (fun z=>hc (by simp[z])) e⟩) (fun _ _ _ _ n=>n)
   (fun b o hc e=>⟨o,k b o (fun z=>hc (by simp[z])) e⟩) (fun _ _ e=>e) (fun _ _ _ e=>e) (fun b ps e=>⟨#[],by rw[e];simp⟩) (fun m hm=>?_) (fun b u e=>?_) I.bare
 . have e:b=it:=by simpa using hb
   subst e
   exact⟨h1,hL,h2,h3⟩
 . obtain⟨o,es,ep,ho,r⟩:=hm
   exact⟨o,es,ep,k _ o (Ne.symm hL) ho,r⟩
 . refine(I.bH b u e).yt (fun c v hc q=>k c v ?_ q) (fun _ q=>q) (fun _ _ q=>q) .refl
   rcases hc with z | z | z
   . rw[z];exact Sl b u e
   . exact Sl c _ z
   . exact fun z'=>by rw[z',hn] at z;exact z
theorem Inv.tok (I:Inv X pins σ H s)(t:Nat):Inv X pins σ H { s with toks:=t}:=I.un (h':=s.heap) (t':=t) Un.refl I.bH
theorem Inv.kept {t':Nat}(I:Inv X pins σ H s)(k:∀ b u,s.heap.get? b=some u->h'.get? b=some u):Inv X pins σ H { s with heap:=h',toks:=t'}:=I.un (Un.kept k) (I.bH.kept k)
theorem Inv.laid {a:Addr}{o:HO}{t':Nat}(I:Inv X pins σ H s)(k:∀ b u,s.heap.get? b=some u->h'.get? b=some u)(hp:s.heap.objs.size<=a)(new:aP X.prog X.w (upd H a o) h' a o):Inv X pins σ (upd H a o) { s with heap:=h',toks:=t'}:=I.un (Un.laid k hp (I.bH.fresh hp)) (I.bH.laid k hp new)
theorem Inv.write {x e:Addr}{o:HO}{t':Nat}(I:Inv X pins σ H s)(mu:RO (H x))(he:e=x\/H e=some (.own x))(k:∀ b u,b≠e->s.heap.get? b=some u->h'.get? b=some u)(RP:∃ u,h'.get? e=some u)(new:aP X.prog X.w (upd H x o) h' x o):Inv X pins σ (upd H x o) { s with heap:=h',toks:=t'}:=I.un (Un.write mu he k RP) (I.bH.write mu he k RP new)
theorem Inv.DL {G9:List (Addr×Obj)}(I:Inv X pins σ H s)(h:∀ p∈G9,s.heap.get? p.1=some p.2/\H p.1=none/\p.1≠X.env.locals/\p.1 ∉ X.fs/\∀ v,p.2.data≠.cell v):Inv X G9 σ H s:=
 ⟨I.ok,I.os,I.bare,I.base,I.loc,I.cell,I.free,I.p9,fun p hp=>(List.mem_append.mp hp).elim (fun z=>I.pin p (List.mem_append_left _ z)) (h p),I.bH,I.len⟩
theorem Aw {N:List Str}(hN:N.Nodup){i j:Nat}{x:Str}(a:N[i]?=some x)(b:N[j]?=some x):i=j:=by
 obtain⟨h1,e1⟩:=List.getElem?_eq_some_iff.mp a
 obtain⟨h2,e2⟩:=List.getElem?_eq_some_iff.mp b
 exact(List.getElem_inj hN).mp (e1.trans e2.symm)
theorem rM {M:Model}{A:Around}{E:Value->Shared->Prop}{i:Nat}{x:Str}{v:V}{u:Value}{Q:Unit->Shared->Prop}(I:Inv X pins σ H s)(hN:X.N.Nodup)(hi:X.N[i]?=some x)(hx:Loc X.env.scope x)(r:RelV v u)(h:∀ s',Inv X pins (σ.set i (some v)) H s'->(∃ a,Heap.SameBut a s.heap s'.heap/\(a=X.env.locals\/X.env.cells.lookup x=some a))->Q () s')(hf:X.fn x=true\/X.env.scope.names.lookup x=some .local:=by first | exact .inl rfl | exact .inr rfl | assumption):wpAny M A (storeName X.env x u) Q E s:=by
 obtain⟨m,hn,hl⟩:=id I.loc
 have Wl:(X.env.scope.kind == .class || (X.env.scope.kind == .module && X.env.locals != X.env.globals))=false:=by rw[I.ok.kind];rfl
 have Y4:i < σ.length:=by rw[I.len];exact(List.getElem?_eq_some_iff.mp hi).1
 have Cf:=I.Cf
 have tracked:∀ {a:Addr} {h':Heap},(∃ o,s.heap.get? a=some o/\H a=none)->Heap.SameBut a s.heap h'->qG X.prog X.w H h':=fun {a h'} ha hs b ob e=>by
   obtain⟨_,_,Hc⟩:=ha
   refine(I.bH b ob e).yt (fun c w' hc q=>(hs.2 c ?_).trans q) (fun _ q=>q) (fun _ _ q=>q) .refl
   rintro rfl
   rcases hc with rfl | hc | hc
   . rw[Hc] at e;cases e
   . rw[Hc] at hc;cases hc
   . rw[Hc] at hc;exact hc
 rcases hx with hk | hk
 . refine wpAny_storeName_local hk hn (fun h' RT hs=>?_) Wl
   obtain⟨oL,_,_,hoL,_⟩:=id hn
   refine h _ ⟨I.ok,I.os,I.bare,⟨fun b o e n hb hx=>?_,fun b o e n hb hx=>?_,I.base.free,fun b o e hx=>?_,I.base.Aq,I.base.yv,I.base.Ar⟩,⟨_,RT,fun j y v' e1 e2 e3=>?_⟩,fun y c e=>?_,I.free,I.p9,fun p hp=>?_,tracked ⟨oL,hoL,I.free⟩ hs,by simpa using I.len⟩ ⟨_,hs,.inl rfl⟩
   . exact(hs.2 b (Nat.ne_of_lt (Nat.lt_of_lt_of_le (Heap.lt_size e) I.ok.above))).trans (I.base.keep b o e n hb hx)
   . obtain⟨sl,e1⟩:=I.base.slot b o e n hb hx
     exact⟨sl,(hs.2 b (Nat.ne_of_lt (Nat.lt_of_lt_of_le (Heap.lt_size e) I.ok.above))).trans e1⟩
   . obtain⟨o',e1⟩:=I.base.there b o e hx
     exact⟨o',(hs.2 b (Nat.ne_of_lt (Nat.lt_of_lt_of_le (Heap.lt_size e) I.ok.above))).trans e1⟩
   . by_cases hj:j=i
     . subst hj
       rw[hi] at e1;cases e1
       rw[List.getElem?_set_self Y4] at e2
       cases e2
       exact⟨u,r,.inl ⟨hk,by simp⟩⟩
     . rw[List.getElem?_set_ne (Ne.symm hj)] at e2
       obtain⟨u',r',q⟩:=hl j y v' e1 e2 e3
       refine⟨u',r',?_⟩
       rcases q with⟨k,e⟩ | ⟨k,c,e,z⟩
       . refine .inl ⟨k,?_⟩
         have:y≠x:=fun e=>hj (Aw hN e1 (e ▸ hi))
         simp[this,e]
       . exact .inr ⟨k,c,e,z.sameBut hs (Cf y c e)⟩
   . obtain⟨w',z⟩:=I.cell y c e
     exact⟨w',z.sameBut hs (Cf y c e)⟩
   . obtain⟨e,n,ne,nf,d⟩:=I.pin p hp
     exact⟨(hs.2 p.1 ne).trans e,n,ne,nf,d⟩
 . have Wm:X.fn x=true:=by
     rcases hf with z | z
     . exact z
     . rw[z] at hk;cases hk
   obtain⟨c,hc⟩:=I.ok.has x (.inl hk)
   obtain⟨w',z⟩:=I.cell x c hc
   refine wpAny_storeName_cell I.ok.kind hk hc z (fun h' xG hs=>?_)
   obtain⟨oc,DM,Wn⟩:=id z
   refine h { s with heap:=h'} ⟨I.ok,I.os,I.bare,⟨fun b o e n hb hx=>?_,fun b o e n hb hx=>?_,I.base.free,fun b o e hx=>?_,I.base.Aq,I.base.yv,I.base.Ar⟩,⟨m,hn.sameBut hs (Ne.symm (Cf x c hc)),fun j y v' e1 e2 e3=>?_⟩,fun y c' e=>?_,I.free,I.p9,fun p hp=>?_,tracked ⟨oc,DM,I.p9 x c hc⟩ hs,by simpa using I.len⟩ ⟨c,hs,.inr hc⟩
   . exact(hs.2 b (Nat.ne_of_lt (Nat.lt_of_lt_of_le (Heap.lt_size e) (I.ok.RS x c Wm hc)))).trans (I.base.keep b o e n hb hx)
   . obtain⟨sl,e1⟩:=I.base.slot b o e n hb hx
     exact⟨sl,(hs.2 b (Nat.ne_of_lt (Nat.lt_of_lt_of_le (Heap.lt_size e) (I.ok.RS x c Wm hc)))).trans e1⟩
   . obtain⟨o',e1⟩:=I.base.there b o e hx
     exact⟨o',(hs.2 b (Nat.ne_of_lt (Nat.lt_of_lt_of_le (Heap.lt_size e) (I.ok.RS x c Wm hc)))).trans e1⟩
   . by_cases hj:j=i
     . subst hj
       rw[hi] at e1;cases e1
       rw[List.getElem?_set_self Y4] at e2
       cases e2
       exact⟨u,r,.inr ⟨.inl hk,c,hc,xG⟩⟩
     . rw[List.getElem?_set_ne (Ne.symm hj)] at e2
       obtain⟨u',r',q⟩:=hl j y v' e1 e2 e3
       refine⟨u',r',?_⟩
       rcases q with q | ⟨k,c',e,z'⟩
       . exact .inl q
       . refine .inr ⟨k,c',e,z'.sameBut hs ?_⟩
         rintro rfl
         exact hj (Aw hN e1 (I.ok.inj _ _ _ e hc ▸ hi))
   . by_cases Sm:c'=c
     . subst Sm;exact⟨_,xG⟩
     . obtain⟨w2,z2⟩:=I.cell y c' e
       exact⟨w2,z2.sameBut hs Sm⟩
   . obtain⟨e,n,ne,nf,d⟩:=I.pin p hp
     refine⟨(hs.2 p.1 ?_).trans e,n,ne,nf,d⟩
     intro q
     rw[q,DM] at e
     have q':oc=p.2:=Option.some.inj e
     exact d w' (by rw[<- q'];exact Wn)
theorem Ax {M:Model}{A:Around}{E:Value->Shared->Prop}{i:Nat}{x:Str}{v:V}{u:Value}{Q:Unit->Shared->Prop}(I:Inv X pins σ H s)(hN:X.N.Nodup)(hi:X.N[i]?=some x)(hx:Loc X.env.scope x)(r:RelV v u)(h:∀ s',Inv X pins (σ.set i (some v)) H s'->Q () s')(hf:X.fn x=true\/X.env.scope.names.lookup x=some .local:=by first | exact .inl rfl | exact .inr rfl | assumption):wpAny M A (storeName X.env x u) Q E s:=
 rM I hN hi hx r (fun s' I' _=>h s' I') hf
theorem Inv.Hd {s':Shared}{ch:List Addr}(I:Inv X pins σ H s)(ho:s'.os=s.os)(u:Un (G6 X.stack) ch H H' s.heap s'.heap)(bH:qG X.prog X.w H' s'.heap)(hg:AllBare s'.gens)(Aj:∀ b∈ch,(b∈X.ex\/X.s₀.heap.objs.size<=b)/\b≠X.env.locals/\(∀ x c,X.env.cells.lookup x=some c->c≠b)/\∀ p∈X.pn ++ pins,p.1≠b):Inv X pins σ H' s':=by
 obtain⟨h',g',d',t',o'⟩:=s'
 have e:o'=s.os:=ho
 subst e
 exact I.call (g':=g') (t':=t') (d':=d') u bH hg Aj
end
noncomputable abbrev XK:=Value->Option Addr->Hp->Prop
noncomputable abbrev St:=List (Option V)
noncomputable abbrev VK:=V->Hp->Prop
noncomputable abbrev TE:=St->Hp->VK->Prop
noncomputable abbrev TT:=St->Hp->(Bool->Hp->Prop)->Prop
noncomputable abbrev TA:=St->Hp->(List V->Hp->Prop)->Prop
structure Ends where
 nx:St->Hp->Prop
 rt:VK
 bk:St->Hp->Prop:=fun _ _=>False
 ct:St->Hp->Prop:=fun _ _=>False
noncomputable abbrev TS:=Ends->St->Hp->Prop
noncomputable def EP (X:Cx)(pins:List (Addr×Obj))(σ:St)(Q:VK)(u:Value)(s':Shared):Prop:=∃ v H',Inv X pins σ H' s'/\RelV v u/\Q v H'
noncomputable def TP (X:Cx)(pins:List (Addr×Obj))(σ:St)(Q:Bool->Hp->Prop)(b:Bool)(s':Shared):Prop:=∃ H',Inv X pins σ H' s'/\Q b H'
noncomputable def AP (X:Cx)(pins:List (Addr×Obj))(σ:St)(Q:List V->Hp->Prop)(us:List Value)(s':Shared):Prop:=∃ vs H',Inv X pins σ H' s'/\Vals vs us/\Q vs H'
noncomputable def SP (X:Cx)(pins:List (Addr×Obj))(D:Ends)(f:Flow)(s':Shared):Prop:=
 match f with
 | .next=>∃ σ' H',Inv X pins σ' H' s'/\D.nx σ' H'
 | .brk=>∃ σ' H',Inv X pins σ' H' s'/\D.bk σ' H'
 | .cont=>∃ σ' H',Inv X pins σ' H' s'/\D.ct σ' H'
 | .ret u=>∃ v σ' H',Inv X pins σ' H' s'/\RelV v u/\D.rt v H'
noncomputable def PE (X:Cx)(e:Expr)(t:TE):Prop:=
 ∀ (pins:List (Addr×Obj)) (s:Shared) (σ:St) (H:Hp) (Q:VK),Inv X pins σ H s->t σ H Q->wpAny (model X.prog X.w) X.A (eval e X.env) (EP X pins σ Q) X.xe s
noncomputable def PT (X:Cx)(e:Expr)(t:TT):Prop:=
 ∀ (pins:List (Addr×Obj)) (s:Shared) (σ:St) (H:Hp) (Q:Bool->Hp->Prop),Inv X pins σ H s->t σ H Q->wpAny (model X.prog X.w) X.A (isTrue e X.env (eval e X.env)) (TP X pins σ Q) X.xe s
noncomputable def PW (X:Cx)(e:Expr)(t:TT):Prop:=
 ∀ (whole:Sem Value) (pins:List (Addr×Obj)) (s:Shared) (σ:St) (H:Hp) (Q:Bool->Hp->Prop),Inv X pins σ H s->t σ H Q->wpAny (model X.prog X.w) X.A (isTrue e X.env whole) (TP X pins σ Q) X.xe s
theorem PW.pt {X:Cx}{e:Expr}{t:TT}(h:PW X e t):PT X e t:=h _
noncomputable def PA (X:Cx)(es:List Expr)(t:TA):Prop:=
 ∀ (pos:Pos) (pins:List (Addr×Obj)) (s:Shared) (σ:St) (H:Hp) (Q:List V->Hp->Prop),Inv X pins σ H s->t σ H Q->wpAny (model X.prog X.w) X.A (spliced (backTo pos (starEach es X.env))) (AP X pins σ Q) X.xe s
noncomputable def PS (X:Cx)(st:Stmt)(t:TS):Prop:=
 ∀ (pins:List (Addr×Obj)) (s:Shared) (σ:St) (H:Hp) (D:Ends),Inv X pins σ H s->t D σ H->wpAny (model X.prog X.w) X.A (exec st X.env) (SP X pins D) X.xe s
noncomputable def Ci (X:Cx)(st:List Stmt)(t:TS):Prop:=
 ∀ (pins:List (Addr×Obj)) (s:Shared) (σ:St) (H:Hp) (D:Ends),Inv X pins σ H s->t D σ H->wpAny (model X.prog X.w) X.A (execs st X.env) (SP X pins D) X.xe s
theorem b7 {α:Type}{t:Sem α}{Q Q':α->Shared->Prop}{M:Model}{A:Around}{E:Value->Shared->Prop}{s:Shared}(h:wpAny M A t Q E s)(hQ:∀ a s,Q a s->Q' a s):wpAny M A t Q' E s:=wpAny_mono h hQ fun _ _ x=>x
section
variable {X:Cx}
noncomputable def Wo (i:Nat):TE:=fun σ H Q=>∃ v,σ[i]?=some (some v)/\Q v H
noncomputable def tC (v:V):TE:=fun _ H Q=>Q v H
theorem jF {i:Nat}{x:Str}{pos:Pos}(hN:X.N[i]?=some x)(hv:uU X.env.scope x)(hd:(x == ("__debug__":Str))=false:=by decide)(my:(x == ("__classdict__":Str))=false:=by decide):PE X (.Name x pos) (Wo i):=by
 intro pins s σ H Q I h
 obtain⟨v,e,h⟩:=h
 obtain⟨m,hn,hl⟩:=I.loc
 obtain⟨u,r,l⟩:=hl i x v hN e hv
 have fin:EP X pins σ Q u s:=⟨v,H,I,r,h⟩
 rcases l with⟨hk,hm⟩ | ⟨hk,c,hc,NO⟩
 . exact wpAny_Name (wpAny_loadName_local I.ok.kind hk hn hm fin) hd
 . rcases hk with hk | hk
   . exact wpAny_Name (wpAny_loadName_cell I.ok.kind hk hc NO fin) hd
   . exact wpAny_Name (wpAny_loadName_free I.ok.kind hk hc NO fin my) hd
theorem OS {i j pos}:PE X (.Constant (.int i) j pos) (tC (.int i)):=fun _ _ _ H _ I h=>wpAny_Constant_int ⟨.int i,H,I.tok _,⟨_,rfl⟩,h⟩
theorem So {b j pos}:PE X (.Constant (.bool b) j pos) (tC (.bl b)):=fun _ _ _ H _ I h=>Constant_bool ⟨.bl b,H,I,rfl,h⟩
theorem OT {x j pos}:PE X (.Constant (.str x) j pos) (tC (.str x)):=fun _ _ _ H _ I h=>Calls.Constant_str ⟨.str x,H,I.tok _,⟨_,rfl⟩,h⟩
noncomputable def Gl (X:Cx)(x:Str):Prop:=X.env.kindOf x=some .globalImplicit
theorem ud {E:Value->Shared->Prop}{pins:List (Addr×Obj)}{s:Shared}{σ:St}{H:Hp}{x:Str}{u:Value}{pos:Pos}{Q:Value->Shared->Prop}(I:Inv X pins σ H s)(hg:Gl X x)(hm:X.mg x=some u)(h:Q u s)(hd:(x == ("__debug__":Str))=false:=by decide):wpAny (model X.prog X.w) X.A (eval (.Name x pos) X.env) Q E s:=
 Calls.Name_function_global I.ok.kind hg (Calls.loadGlobal_global (by rw[I.ok.glob];exact I.mod.glob.keeps I.bk) hm h) hd
theorem rN {E:Value->Shared->Prop}{pins:List (Addr×Obj)}{s:Shared}{σ:St}{H:Hp}{x:Str}{u:Value}{pos:Pos}{Q:Value->Shared->Prop}(I:Inv X pins σ H s)(hg:Gl X x)(hm:X.mg x=none)(hv:bootBuiltins x=some u)(h:Q u s)(hn:x≠"__name__":=by decide)(hd:(x == ("__debug__":Str))=false:=by decide):wpAny (model X.prog X.w) X.A (eval (.Name x pos) X.env) Q E s:=by
 obtain⟨mb,h1,h2⟩:=I.mod.blt
 exact Calls.Name_function_global I.ok.kind hg (Calls.loadGlobal_builtin (by rw[I.ok.glob];exact I.mod.glob.keeps I.bk) hm (by rw[I.ok.blt];exact h1.keeps I.bk) ((h2 x hn).trans hv) h) hd
theorem Lm {x:Str}{v:V}{u:Value}{pos:Pos}(hg:Gl X x)(hm:X.mg x=some u)(r:RelV v u)(hd:(x == ("__debug__":Str))=false:=by decide):PE X (.Name x pos) (tC v):=
 fun _ _ _ H _ I h=>ud I hg hm ⟨v,H,I,r,h⟩ hd
variable {a b:Expr}{ta tb:TE}{pos:Pos}
noncomputable def PC (X:Cx)(op:CmpOp)(a b:Expr)(t:TE):Prop:=
 ∀ (pins:List (Addr×Obj)) (s:Shared) (σ:St) (H:Hp) (Q:VK),Inv X pins σ H s->t σ H Q ->
   wpAny (model X.prog X.w) X.A (eval a X.env) (fun v s₁=>wpAny (model X.prog X.w) X.A (eval b X.env) (fun u s₂=>wpAny (model X.prog X.w) X.A (compareOp op v u) (EP X pins σ Q) X.xe s₂) X.xe s₁) X.xe s
noncomputable def tB (t:TE):TT:=fun σ H Q=>t σ H fun x H1=>∃ c,x=.bl c/\Q c H1
theorem He {op:CmpOp}{t:TE}(h:PC X op a b t)(h1:behindInMarks op b=false:=by first | exact Sq _ (by decide) (by decide) | rfl):PT X (.Compare a [op] [b] pos) (tB t):=by
 intro pins s σ H Q I hw
 refine wpAny_isTrue_Compare1 (b7 (h pins s σ H _ I hw) fun v s1 h1=>b7 h1 fun u s2 h2=>b7 h2 fun c s3 ⟨x,H1,I1,r1,q1⟩=>?_) h1
 obtain⟨d,rfl,q⟩:=q1
 cases r1
 exact wpAny_truthy_bool ⟨H1,I1,q⟩
theorem OU {e:Expr}{t:TE}(h:PE X e t)(he:∀ whole,isTrue e X.env whole=(do let v <- whole;standAt e.pos;holding [v] (truthy v)):=by intro _;rfl):PT X e (tB t):=by
 intro pins s σ H Q I hw
 refine isTrue_plain (b7 (h pins s σ H _ I hw) fun v s1 ⟨x,H1,I1,r1,q1⟩=>?_) (he _)
 obtain⟨d,rfl,q⟩:=q1
 cases r1
 exact wpAny_truthy_bool ⟨H1,I1,q⟩
variable {tA Vv:TT}{rest:List Expr}
noncomputable def Wq (t u:TT):TT:=fun σ H Q=>t σ H fun c H1=>if c=true then u σ H1 Q else Q false H1
noncomputable def tOr (t u:TT):TT:=fun σ H Q=>t σ H fun c H1=>if c=true then Q true H1 else u σ H1 Q
noncomputable def Wr (t:TT):TT:=fun σ H Q=>t σ H fun c H1=>Q (!c) H1
theorem pw_and1 (ha:PT X a tA):PW X (.BoolOp .And [a] pos) tA:=by
 intro wh pins s σ H Q I h
 refine isTrue_and (b7 (ha pins s σ H Q I h) fun c s1 e=>?_)
 cases c with
 | true=>exact isTrue_and_nil e
 | false=>exact e
theorem pw_or1 (ha:PT X a tA):PW X (.BoolOp .Or [a] pos) tA:=by
 intro wh pins s σ H Q I h
 refine isTrue_or (b7 (ha pins s σ H Q I h) fun c s1 e=>?_)
 cases c with
 | false=>exact isTrue_or_nil e
 | true=>exact e
theorem pw_and (ha:PT X a tA)(hb:PW X (.BoolOp .And (b::rest) pos) Vv):PW X (.BoolOp .And (a::b::rest) pos) (Wq tA Vv):=by
 intro wh pins s σ H Q I h
 refine isTrue_and (b7 (ha pins s σ H _ I h) fun c s1 ⟨H1,I1,q1⟩=>?_)
 cases c with
 | true=>exact hb wh pins s1 σ H1 Q I1 q1
 | false=>exact⟨H1,I1,q1⟩
theorem pw_or (ha:PT X a tA)(hb:PW X (.BoolOp .Or (b::rest) pos) Vv):PW X (.BoolOp .Or (a::b::rest) pos) (tOr tA Vv):=by
 intro wh pins s σ H Q I h
 refine isTrue_or (b7 (ha pins s σ H _ I h) fun c s1 ⟨H1,I1,q1⟩=>?_)
 cases c with
 | true=>exact⟨H1,I1,q1⟩
 | false=>exact hb wh pins s1 σ H1 Q I1 q1
theorem OV (ha:PT X a tA):PT X (.UnaryOp .Not a pos) (Wr tA):=by
 intro pins s σ H Q I h
 exact isTrue_not (ha pins s σ H (fun c H1=>Q (!c) H1) I h)
noncomputable def Sr (ta tb:TE):TE:=fun σ H Q=>ta σ H fun x H1=>∃ c,x=.bl c/\if c=true then tb σ H1 Q else Q (.bl false) H1
theorem OW {op}{t:TE}(h:PE X a t):PE X (.BoolOp op [a] pos) t:=fun pins s σ H Q I hw=>BoolOp_one (h pins s σ H Q I hw)
theorem Hg (ha:PE X a ta)(hb:PE X (.BoolOp .And (b::rest) pos) tb):PE X (.BoolOp .And (a::b::rest) pos) (Sr ta tb):=by
 intro pins s σ H Q I h
 refine BoolOp_and (b7 (ha pins s σ H _ I h) fun v s1 ⟨x,H1,I1,r1,q1⟩=>?_)
 obtain⟨c,rfl,q1⟩:=q1
 cases r1
 refine wpAny_truthy_bool ?_
 cases c with
 | true=>exact hb pins s1 σ H1 Q I1 q1
 | false=>exact⟨.bl false,H1,I1,rfl,q1⟩
noncomputable def tIf (t:TT)(ta tb:TE):TE:=fun σ H Q=>t σ H fun c H1=>if c=true then ta σ H1 Q else tb σ H1 Q
theorem Ay {c:Expr}(hc:PT X c tA)(ha:PE X a ta)(hb:PE X b tb):PE X (.IfExp c a b pos) (tIf tA ta tb):=by
 intro pins s σ H Q I h
 refine wpAny_IfExp (b7 (hc pins s σ H _ I h) fun d s1 ⟨H1,I1,q1⟩=>?_)
 cases d with
 | true=>exact ha pins s1 σ H1 Q I1 q1
 | false=>exact hb pins s1 σ H1 Q I1 q1
end
noncomputable def oe (K:PySem.W.Frag)(H:Hp)(a:Addr)(xs:List V):Prop:=
 Rd H a (.lst xs) \/
   ∃ (o:Obj) (aG:Array Value) (n:Nat),K.lookup a=some o/\o.cls=.type "list"/\o.dict=none/\o.data=.seq aG n/\aG.size<=sizeLine/\Vals xs aG.toList
noncomputable abbrev Cg (K:PySem.W.Frag)(H:Hp)(a:Addr)(xs:List V):Prop:=TupAt K H a xs
noncomputable def Ws:Value->Option V
 | .none=>some .c9
 | .bool b=>some (.bl b)
 | .int i _=>some (.int i)
 | .str x _=>some (.str x)
 | .bytes b _=>some (.GN b)
 | .float b _=>some (.RN b)
 | .ref a=>some (.ref a)
 | .type n=>some (.ty n)
 | _=>none
theorem RelV.abs {x:V}{u:Value}(r:RelV x u):Ws u=some x:=by
 cases x with
 | c9=>cases r;rfl
 | bl _=>cases r;rfl
 | int _=>obtain⟨t,rfl⟩:=r;rfl
 | str _=>obtain⟨t,rfl⟩:=r;rfl
 | GN _=>obtain⟨t,rfl⟩:=r;rfl
 | RN _=>obtain⟨t,rfl⟩:=r;rfl
 | ref _=>cases r;rfl
 | ty _=>cases r;rfl
theorem RelV.inj {x y:V}{u:Value}(r:RelV x u)(q:RelV y u):x=y:=Option.some.inj (r.abs.symm.trans q.abs)
theorem Vals.inj:∀ {xs ys:List V} {us:List Value},Vals xs us->Vals ys us->xs=ys
 | _,_,_,.nil,.nil=>rfl
 | _,_,_,.cons r t,.cons r' t'=>by rw[r.inj r',Vals.inj t t']
section
variable {X:Cx}{pins:List (Addr×Obj)}{σ:St}{H:Hp}{s:Shared}{a:Addr}{xs ys:List V}
theorem oe.of {K:W.Frag}(h:H a=some (.lst xs)):oe K H a xs:=.inl (.inl h)
theorem Cg.of {K:W.Frag}(h:H a=some (.tup xs)):Cg K H a xs:=.inl h
theorem Inv.list (I:Inv X pins σ H s)(h:oe X.K H a xs):∃ aG:List Value,Vals xs aG/\PlainL s.heap a aG.toArray/\xs.length<=sizeLine:=by
 rcases h with h | ⟨o,aG,n,hk,hc,hd,hs,hz,r⟩
 . obtain⟨z,aG,n,r,e⟩:=h.ok I.bH
   exact⟨aG,r,⟨_,n,e,rfl,rfl,rfl⟩,z⟩
 . refine⟨aG.toList,r,⟨o,n,I.Av a o hk,hc,hd,by simpa using hs⟩,?_⟩
   have e:=r.length
   simp only[Array.length_toList] at e
   omega
theorem Inv.tuple (I:Inv X pins σ H s)(h:Cg X.K H a xs):∃ aG:List Value,Vals xs aG/\IsTup s.heap a aG.toArray/\xs.length<=sizeLine:=by
 rcases h with h | ⟨o,aG,n,hk,hc,hs,hz,r⟩
 . obtain⟨z,aG,r,p⟩:=(show aP X.prog X.w H s.heap a (.tup xs) from I.bH a _ h)
   exact⟨aG,r,p,z⟩
 . refine⟨aG.toList,r,⟨o,I.Av a o hk,hc,n,by simpa using hs⟩,?_⟩
   have e:=r.length
   simp only[Array.length_toList] at e
   omega
theorem Inv.Az (I:Inv X pins σ H s)(h:oe X.K H a xs)(h':oe X.K H a ys):xs=ys:=by
 obtain⟨aG,r,⟨o,n,e,_,_,d⟩,_⟩:=I.list h
 obtain⟨its',r',⟨o',n',e',_,_,d'⟩,_⟩:=I.list h'
 rw[e] at e';cases e'
 rw[d] at d'
 injection d' with d1 _
 have:aG=its':=by simpa using congrArg Array.toList d1
 subst this
 exact r.inj r'
end
section
variable {X:Cx}{st:Stmt}{rest:List Stmt}{t u:TS}{e:Expr}{te:TE}{pos:Pos}
noncomputable def Ss:TS:=fun D σ H=>D.nx σ H
noncomputable def Wt (t u:TS):TS:=fun D σ H=>t { D with nx:=u D} σ H
theorem Ln:Ci X [] Ss:=fun _ _ σ H _ I h=>wpAny_execs_nil ⟨σ,H,I,h⟩
theorem oy (h1:PS X st t)(h2:Ci X rest u):Ci X (st::rest) (Wt t u):=by
 intro pins s σ H D I h
 refine wpAny_execs_cons (b7 (h1 pins s σ H { D with nx:=u D} I h) fun f s1 q=>?_)
 cases f with
 | next=>
   obtain⟨σ',H',I',q⟩:=q
   exact h2 pins s1 σ' H' D I' q
 | ret v=>exact q
 | brk=>exact q
 | cont=>exact q
theorem mT (h1:PS X st t):Ci X [st] t:=by
 intro pins s σ H D I h
 refine wpAny_execs_cons (b7 (h1 pins s σ H D I h) fun f s1 q=>?_)
 cases f with
 | next=>exact wpAny_execs_nil q
 | ret v=>exact q
 | brk=>exact q
 | cont=>exact q
theorem Inv.quiet {pins:List (Addr×Obj)}{σ:St}{H:Hp}{s:Shared}(I:Inv X pins σ H s):interactive X.env=false:=by simp[interactive,I.ok.kind]
noncomputable def Sv (te:TE):TS:=fun D σ H=>te σ H fun _ H1=>D.nx σ H1
theorem lX (he:PE X e te)(hs:swapsWith e none pos.line X.env=pure false:=by rfl):PS X (.Expr e pos) (Sv te):=by
 intro pins s σ H D I h
 exact wpAny_Expr_any (b7 (he pins s σ H _ I h) fun v s1 ⟨x,H1,I1,r1,q1⟩=>⟨σ,H1,I1,q1⟩) I.quiet hs
noncomputable def Wu (te:TE):TS:=fun D σ H=>te σ H D.rt
theorem Cj (he:PE X e te):PS X (.Return (some e) pos) (Wu te):=by
 intro pins s σ H D I h
 exact wpAny_Return_some (b7 (he pins s σ H _ I h) fun v s1 ⟨x,H1,I1,r1,q1⟩=>⟨x,σ,H1,I1,r1,q1⟩)
noncomputable def Wv (c:TT)(t u:TS):TS:=fun D σ H=>c σ H fun b H1=>if b=true then t D σ H1 else u D σ H1
theorem NP {c:Expr}{a b:List Stmt}{tc:TT}(hc:PT X c tc)(ha:Ci X a t)(hb:Ci X b u):PS X (.If c a b pos) (Wv tc t u):=by
 intro pins s σ H D I h
 refine wpAny_If (b7 (hc pins s σ H _ I h) fun d s1 ⟨H1,I1,q1⟩=>?_)
 cases d with
 | true=>exact ha pins s1 σ H1 D I1 q1
 | false=>exact hb pins s1 σ H1 D I1 q1
noncomputable def OX:TS:=fun _ _ _=>False
theorem rO {sts:List Stmt}:Ci X sts OX:=fun _ _ _ _ _ _ h=>h.elim
end
noncomputable abbrev TG:=V->St->Hp->(St->Hp->Prop)->Prop
noncomputable abbrev OY:=List V->St->Hp->(St->Hp->Prop)->Prop
noncomputable def PG (X:Cx)(target:Expr)(t:TG):Prop:=
 ∀ (pins:List (Addr×Obj)) (s:Shared) (σ:St) (H:Hp) (v:V) (u:Value) (Q:St->Hp->Prop),Inv X pins σ H s->RelV v u->t v σ H Q ->
   wpAny (model X.prog X.w) X.A (assign target X.env u) (fun _ s'=>∃ σ' H',Inv X pins σ' H' s'/\Q σ' H') X.xe s
noncomputable def Vw (X:Cx)(ts:List Expr)(t:OY):Prop:=
 ∀ (pins:List (Addr×Obj)) (s:Shared) (σ:St) (H:Hp) (vs:List V) (us:List Value) (Q:St->Hp->Prop),Inv X pins σ H s->Vals vs us->t vs σ H Q ->
   wpAny (model X.prog X.w) X.A (assignInOrder ((assignEach ts X.env).map (·.2)) us) (fun _ s'=>∃ σ' H',Inv X pins σ' H' s'/\Q σ' H') X.xe s
noncomputable abbrev OZ:=V->V->V->Hp->(Hp->Prop)->Prop
noncomputable def Sx (X:Cx)(t:OZ):Prop:=
 ∀ (pins:List (Addr×Obj)) (s:Shared) (σ:St) (H:Hp) (o i v:V) (ov iv u:Value) (Q:Hp->Prop),Inv X pins σ H s->RelV o ov->RelV i iv->RelV v u->t o i v H Q ->
   wpAny (model X.prog X.w) X.A (setItem ov iv u) (fun _ s'=>∃ H',Inv X pins σ H' s'/\Q H') X.xe s
section
variable {X:Cx}{pos:Pos}
noncomputable def mz (i:Nat):TG:=fun v σ H Q=>Q (σ.set i (some v)) H
theorem bI {i:Nat}{x:Str}(hN:X.N.Nodup)(hi:X.N[i]?=some x)(hx:Loc X.env.scope x)(hf:X.fn x=true\/X.env.scope.names.lookup x=some .local:=by first | exact .inl rfl | exact .inr rfl | assumption):PG X (.Name x pos) (mz i):=by
 intro pins s σ H v u Q I r h
 exact wpAny_assign_Name (Ax I hN hi hx r (fun s' I'=>⟨_,H,I',h⟩) hf)
noncomputable def Lo:OY:=fun vs σ H Q=>vs=[]/\Q σ H
noncomputable def tm (t:TG)(u:OY):OY:=fun vs σ H Q=>∃ v r,vs=v::r/\t v σ H fun σ' H'=>u r σ' H' Q
theorem o5:Vw X [] Lo:=by
 intro pins s σ H vs us Q I r h
 obtain⟨e,h⟩:=h
 subst e
 cases r
 exact assignInOrder_nil ⟨σ,H,I,h⟩
theorem dg {e:Expr}{es:List Expr}{t:TG}{u:OY}(h1:PG X e t)(h2:Vw X es u)(hs:(assignEach (e::es) X.env).map (·.2)=assign e X.env::(assignEach es X.env).map (·.2):=by rfl):Vw X (e::es) (tm t u):=by
 intro pins s σ H vs us Q I r h
 obtain⟨v,vr,e1,h⟩:=h
 subst e1
 cases r with
 | cons r rr=>
   rw[hs]
   refine assignInOrder_cons (b7 (h1 pins s σ H _ _ _ I r h) fun _ s1 ⟨σ1,H1,I1,q1⟩=>?_)
   exact h2 pins s1 σ1 H1 _ _ Q I1 rr q1
noncomputable def Lp (K:W.Frag)(n:Nat)(t:OY):TG:=fun v σ H Q=>∃ a xs,v=.ref a/\Cg K H a xs/\xs.length=n/\t xs σ H Q
theorem rP {es:List Expr}{k:Nat}{t:OY}{n:Nat}(hc:X.calm=true)(h:Vw X es t)(hn:(assignEach es X.env).length=n:=by rfl)(qm:(assignEach es X.env).findIdx? (·.1)=none:=by rfl):PG X (.Tuple es k pos) (Lp X.K n t):=by
 intro pins s σ H v u Q I r hw
 obtain⟨a,xs,e1,hq,hl,hw⟩:=hw
 subst e1
 cases r
 obtain⟨aG,rv,ht,hz⟩:=I.tuple hq
 refine assign_Tuple_tuple (I.ok.hd hc) ht (by simp[hn,<- hl,rv.length]) qm fun h' hx=>?_
 have I1:Inv X pins σ H { s with heap:=h'}:=I.kept (t':=s.toks) fun b o e=>hx b o (Nat.ne_of_lt (Heap.lt_size e)) e
 exact h pins _ σ H xs _ Q I1 (by simpa using rv) hw
noncomputable def Ww (to ti:TE)(t:OZ):TG:=fun v σ H Q=>to σ H fun o H1=>ti σ H1 fun i H2=>t o i v H2 fun H3=>Q σ H3
theorem O0 {o i:Expr}{to ti:TE}{t:OZ}(ho:PE X o to)(hi:PE X i ti)(hs:Sx X t)
   (ha:∀ v,assign (.Subscript o i pos) X.env v=(do
     let ov <- holding [v] (eval o X.env)
     let iv <- holding [v,ov] (eval i X.env)
     standAt pos
     holding [v,ov,iv] (setItem ov iv v)
     release [v,ov,iv] []):=by intro _;rfl):PG X (.Subscript o i pos) (Ww to ti t):=by
 intro pins s σ H v u Q I r h
 rw[ha]
 refine wpAny_bind (wpAny_holding (b7 (ho pins s σ H _ I h) fun ov s1 ⟨x,H1,I1,r1,q1⟩=>?_))
 refine wpAny_bind (wpAny_holding (b7 (hi pins s1 σ H1 _ I1 q1) fun iv s2 ⟨y,H2,I2,r2,q2⟩=>?_))
 refine wpAny_bind (wpAny_standAt (wpAny_bind (wpAny_holding (b7 (hs pins s2 σ H2 x y v ov iv u _ I2 r1 r2 r q2) fun _ s3 ⟨H3,I3,q3⟩=>?_))))
 exact wpAny_release ⟨σ,H3,I3,q3⟩
noncomputable def Sy (te:TE)(g:TG):TS:=fun D σ H=>te σ H fun x H1=>g x σ H1 D.nx
theorem Hh {tg e:Expr}{te:TE}{g:TG}(he:PE X e te)(hg:PG X tg g)(hs:swapsWithSole [tg] e pos.line X.env=pure false:=by rfl)(hw:swappedStores [tg] e X.env=pure none:=by rfl)(h1:(assignEach [tg] X.env).map (·.2)=[assign tg X.env]:=by rfl):PS X (.Assign [tg] e pos) (Sy te g):=by
 intro pins s σ H D I h
 refine wpAny_Assign_stores (b7 (he pins s σ H _ I h) fun v s1 ⟨x,H1,I1,r1,q1⟩=>?_) hs hw
 rw[h1]
 exact b7 (hg pins s1 σ H1 x v _ I1 r1 q1) fun _ s2 q=>q
theorem Ck {i:Nat}{x:Str}{e:Expr}{te:TE}{pos':Pos}(hN:X.N.Nodup)(hi:X.N[i]?=some x)(hx:Loc X.env.scope x)(he:PE X e te)(hs:swapsWith e (some (.Name x pos')) pos.line X.env=pure false:=by rfl)(hf:X.fn x=true\/X.env.scope.names.lookup x=some .local:=by first | exact .inl rfl | exact .inr rfl | assumption):PS X (.Assign [.Name x pos'] e pos) (Sy te (mz i)):=by
 intro pins s σ H D I h
 refine wpAny_Assign_Name (b7 (he pins s σ H _ I h) fun v s1 ⟨y,H1,I1,r1,q1⟩=>?_) hs
 exact Ax I1 hN hi hx r1 (fun s2 I2=>⟨_,H1,I2,q1⟩) hf
end
section
variable {X:Cx}{pos:Pos}
noncomputable def O1 (c:TT)(tb:TS):TS:=fun D σ H=>∃ W:Nat->St->Hp->Prop,(∃ m,W m σ H)/\∀ m σ H,W m σ H ->
 c σ H fun b H1=>if b=true then ∃ N:St->Hp->Prop,(∀ σ' H',N σ' H'->∃ m',m' < m/\W m' σ' H')/\tb { D with nx:=N,ct:=N,bk:=D.nx} σ H1 else D.nx σ H1
theorem AA {c:Expr}{body:List Stmt}{tc:TT}{tb:TS}(hp:PassesOwn (model X.prog X.w) X.A X.env X.xe)(hc:PT X c tc)(hb:Ci X body tb):PS X (.While c body [] pos) (O1 tc tb):=by
 intro pins s σ H D I h
 obtain⟨W,⟨m0,w0⟩,turn⟩:=h
 refine wpAny_While (codeAny_whileLoop (fun n s'=>∃ σ' H',Inv X pins σ' H' s'/\W n σ' H') ?_ m0 ⟨σ,H,I,w0⟩)
 rintro n s1 ⟨σ1,H1,I1,w1⟩
 refine wpAny_passesOwn hp (b7 (hc pins s1 σ1 H1 _ I1 (turn n σ1 H1 w1)) fun b s2 ⟨H2,I2,q2⟩=>?_)
 cases b with
 | true=>
   obtain⟨N,hN,q2⟩:=q2
   rw[if_pos rfl]
   refine wpAny_passesOwn hp (b7 (hb pins s2 σ1 H2 _ I2 q2) fun f s3 q3=>?_)
   cases f with
   | next=>
     obtain⟨σ3,H3,I3,n3⟩:=q3
     obtain⟨m',hm,w3⟩:=hN σ3 H3 n3
     exact⟨m',hm,σ3,H3,I3,w3⟩
   | cont=>
     obtain⟨σ3,H3,I3,n3⟩:=q3
     obtain⟨m',hm,w3⟩:=hN σ3 H3 n3
     exact⟨m',hm,σ3,H3,I3,w3⟩
   | brk=>exact q3
   | ret v=>exact q3
 | false=>
   rw[if_neg Bool.false_ne_true]
   exact wpAny_execs_nil ⟨σ1,H2,I2,q2⟩
end
structure It where
 go:Nat->Hp->Prop
 K4:Nat->Hp->V->Hp->Prop
 stop:Nat->Hp->Prop
noncomputable def lD (X:Cx)(pins:List (Addr×Obj))(H:Hp)(b:Addr):Prop:=
 H b=none/\b≠X.env.locals/\b ∉ X.fs/\(b∈X.ex\/X.s₀.heap.objs.size<=b)/\(∀ x c,X.env.cells.lookup x=some c->c≠b)/\∀ p∈X.pn ++ pins,p.1≠b
theorem Inv.uW {X:Cx}{pins:List (Addr×Obj)}{σ:St}{H H':Hp}{s:Shared}{b:Addr}(I:Inv X pins σ H s)(hb:s.heap.objs.size<=b)(hn:H' b=none):lD X pins H' b:=by
 refine⟨hn,Nat.ne_of_gt (Nat.lt_of_lt_of_le I.lt hb),I.Wk hb,.inr (Nat.le_trans I.sz hb),fun x c e z=>?_,fun p hp z=>?_⟩
 . obtain⟨v,q⟩:=I.cell x c e
   exact absurd (Nat.lt_of_lt_of_le q.lt (by rw[z];exact hb)) (Nat.lt_irrefl _)
 . exact absurd (Nat.lt_of_lt_of_le (Heap.lt_size (I.pin p hp).1) (by rw[z];exact hb)) (Nat.lt_irrefl _)
structure Turn (P:Program)(w:World)(K:W.Frag)(tg:Expr)(J:It)(fp:List Addr)(it:Addr)(tn:Nat->Heap->Prop):Prop where
 mem:it∈fp
 obj:∀ i h,tn i h->∀ b∈fp,∃ o,h.get? b=some o/\∀ v,o.data≠.cell v
 keep:∀ i h h',tn i h->(∀ b∈fp,∀ o,h.get? b=some o->h'.get? b=some o)->tn i h'
 item:∀ (X:Cx),X.prog=P->X.w=w->X.K=K->X.calm=true->∀ (i:Nat) (pins:List (Addr×Obj)) (s:Shared) (σ:St) (H:Hp) (E:Value->Shared->Prop),Inv X pins σ H s->(∀ b∈fp,lD X pins H b)->tn i s.heap->J.go i H ->
   wpAny (model P w) X.A (pyNext (.ref it)) (fun r s1=>∃ u,r=some u /\
     wpAny (model P w) X.A (letOwnedTupleGo tg (.ref it) u) (fun _ s2=>∃ x H',Inv X pins σ H' s2/\RelV x u/\J.K4 i H x H'/\tn (i+1) s2.heap/\∀ b∈fp,H' b=none) E s1) E s
 done:∀ (X:Cx),X.prog=P->X.w=w->X.K=K->X.calm=true->∀ (i:Nat) (pins:List (Addr×Obj)) (s:Shared) (σ:St) (H:Hp) (E:Value->Shared->Prop),Inv X pins σ H s->(∀ b∈fp,lD X pins H b)->tn i s.heap->J.stop i H ->
   wpAny (model P w) X.A (pyNext (.ref it)) (fun r s1=>r=none/\Inv X pins σ H s1) E s
 self:∀ (A:Around) (i:Nat) (s:Shared) (Q:Value->Shared->Prop) (E:Value->Shared->Prop),tn i s.heap->Q (.ref it) s->wpAny (model P w) A (pyIter (.ref it)) Q E s
noncomputable abbrev TI:=St->Hp->(It->Hp->Prop)->Prop
noncomputable def Y5 (X:Cx)(pins:List (Addr×Obj))(σ:St)(tg:Expr)(R:It->Hp->Prop)(O2:Value)(s2:Shared):Prop:=
 ∃ (it:Addr) (fp:List Addr) (tn:Nat->Heap->Prop) (J:It) (H':Hp),O2=.ref it/\Inv X pins σ H' s2/\Turn X.prog X.w X.K tg J fp it tn/\tn 0 s2.heap/\(∀ b∈fp,lD X pins H' b)/\R J H'
noncomputable def PI (X:Cx)(tg iter:Expr)(wi:TI):Prop:=
 ∀ (pins:List (Addr×Obj)) (s:Shared) (σ:St) (H:Hp) (R:It->Hp->Prop),Inv X pins σ H s->wi σ H R ->
   wpAny (model X.prog X.w) X.A (eval iter X.env) (fun v s1=>wpAny (model X.prog X.w) X.A (pyIter v) (Y5 X pins σ tg R) X.xe s1) X.xe s
theorem AB {M:Model}{A:Around}{E:Value->Shared->Prop}{s:Shared}{tg:Expr}{it:Addr}{u:Value}{o:Obj}{n:String}{vs:Array Value}{Q:Unit->Shared->Prop}(ho:s.heap.get? it=some o)(hc:o.cls=.type n)(hd:o.data=.fields vs)(hn:["enumerate","zip","dict_itemiterator","dict_reverseitemiterator","odict_iterator","itertools.zip_longest","itertools.pairwise"].contains n=false)(hQ:Q () s):wpAny M A (letOwnedTupleGo tg (.ref it) u) Q E s:=by
 unfold letOwnedTupleGo
 cases tg <;> first
   | exact wpAny_pure hQ
   | (cases u <;> first
       | exact wpAny_pure hQ
       | (refine wpAny_bind (wpAny_load ho ?_)
          rw[hc,hd]
          show wpAny M A (if (["enumerate","zip","dict_itemiterator","dict_reverseitemiterator","odict_iterator","itertools.zip_longest","itertools.pairwise"].contains n && vs[0]? == some (rawInt _))=true then _ else _) Q E s
          rw[if_neg (by intro h;rw[hn,Bool.false_and] at h;cases h)]
          exact wpAny_pure hQ))
noncomputable def Sz (K:W.Frag)(a:Addr):It:=
 ⟨fun i H=>∃ xs x,oe K H a xs/\xs[i]?=some x,fun i H x H'=>H'=H/\∀ xs,oe K H a xs->xs[i]?=some x,fun i H=>∃ xs,oe K H a xs/\xs.length<=i⟩
noncomputable def O3 (lo:Int)(n:Nat):It:=⟨fun i _=>i < n,fun i H x H'=>H'=H/\x=.int (lo+i),fun i _=>n<=i⟩
theorem Fs {P:Program}{w:World}{K:W.Frag}{tg:Expr}(a it:Addr):Turn P w K tg (Sz K a) [it] it (fun i h=>h.IsListIter it a i) where
 mem:=by simp
 obj:=fun i h st b hb=>by
   have e:b=it:=by simpa using hb
   subst e
   obtain⟨o,e,c,d⟩:=st
   exact⟨o,e,fun v z=>by rw[d] at z;cases z⟩
 keep:=fun i h h' st k=>st.at fun o e=>k it (by simp) o e
 item:=by
   intro X hP hw hK hc i pins s σ H E I hf st hg
   subst hP hw hK
   obtain⟨xs,x,hq,hx⟩:=hg
   obtain⟨aG,rv,p,hz⟩:=I.list hq
   obtain⟨u,hu,ru⟩:=rv.get hx
   obtain⟨f0,f1,f2,f3,f4,f5⟩:=hf it (by simp)
   refine wpAny_pyNext_list_item st p.isList (x:=u) (by simpa using hu) fun h' jC sb=>?_
   have I1:Inv X pins σ H { s with heap:=h'}:=I.turned (t':=s.toks) (fun b o hb e=>(sb.2 b hb).trans e) f0 f1 f3 f4 f5
   obtain⟨o,e,c,d⟩:=id jC
   exact⟨u,rfl,AB (s:={ s with heap:=h'}) e c d (by decide) ⟨x,H,I1,ru,⟨rfl,fun ys hy=>by rw[I.Az hy hq];exact hx⟩,jC,fun b hb=>(hf b hb).1⟩⟩
 done:=by
   intro X hP hw hK hc i pins s σ H E I hf st hg
   subst hP hw hK
   obtain⟨xs,hq,hx⟩:=hg
   obtain⟨aG,rv,p,hz⟩:=I.list hq
   obtain⟨f0,f1,f2,f3,f4,f5⟩:=hf it (by simp)
   have hl:=rv.length
   exact wpAny_pyNext_list_end (I.ok.hd hc) st p.isList (by simp;omega) fun h' eb=>⟨rfl,I.turned (t':=s.toks) (fun b o hb e=>eb b o hb e) f0 f1 f3 f4 f5⟩
 self:=fun _ _ _ _ _ st h=>wpAny_pyIter_listiter st h
theorem Cm {P:Program}{w:World}{K:PySem.W.Frag}{tg:Expr}(it:Addr)(lo:Int)(n:Nat):Turn P w K tg (O3 lo n) [it] it (fun i h=>IsRangeIter h it (lo+(i:Nat) * 1) ((n:Int) - (i:Nat)) 1) where
 mem:=by simp
 obj:=fun i h st b hb=>by
   have e:b=it:=by simpa using hb
   subst e
   exact⟨_,st,fun v z=>by
     have z':Data.fields _=Data.cell v:=z
     cases z'⟩
 keep:=fun i h h' st k=>k it (by simp) _ st
 item:=by
   intro X hP hw hK hc i pins s σ H E I hf st hg
   subst hP hw hK
   obtain⟨f0,f1,f2,f3,f4,f5⟩:=hf it (by simp)
   have W:=Walks.range (prog:=X.prog) (w:=X.w) (I.ok.hd hc) it lo 1 n
   refine W.item i s _ _ hg st fun v h' tk hv jC kk=>?_
   obtain⟨t,rfl⟩:=hv
   have I1:Inv X pins σ H { s with heap:=h',toks:=tk}:=I.turned (fun b o hb e=>kk b o (by simpa using hb) e) f0 f1 f3 f4 f5
   refine⟨_,rfl,AB (s:={ s with heap:=h',toks:=tk}) (n:="range_iterator") jC rfl rfl (by decide) ⟨.int (lo+i),H,I1,⟨t,?_⟩,⟨rfl,rfl⟩,jC,fun b hb=>(hf b hb).1⟩⟩
   rw[Int.mul_one]
 done:=by
   intro X hP hw hK hc i pins s σ H E I hf st hg
   subst hP hw hK
   obtain⟨f0,f1,f2,f3,f4,f5⟩:=hf it (by simp)
   exact wpAny_pyNext_range_end (I.ok.hd hc) st (by have:n<=i:=hg;omega) fun h' eb=>⟨rfl,I.turned (t':=s.toks) (fun b o hb e=>eb b o hb e) f0 f1 f3 f4 f5⟩
 self:=fun _ _ _ _ _ st h=>wpAny_pyIter_rangeiter st h
section
variable {X:Cx}{tg:Expr}
noncomputable def Hi (K:W.Frag)(tl:TE):TI:=fun σ H R=>tl σ H fun x H1=>∃ a,x=.ref a/\(∃ xs,oe K H1 a xs)/\R (Sz K a) H1
theorem gb {l:Expr}{tl:TE}(hl:PE X l tl):PI X tg l (Hi X.K tl):=by
 intro pins s σ H R I h
 refine b7 (hl pins s σ H _ I h) fun v s1 ⟨x,H1,I1,r1,q1⟩=>?_
 obtain⟨a,e,⟨xs,hq⟩,q⟩:=q1
 subst e
 cases r1
 obtain⟨aG,rv,p,hz⟩:=I1.list hq
 refine wpAny_pyIter_list p.isList ?_
 refine⟨s1.heap.objs.size,[s1.heap.objs.size],_,_,H1,rfl,I1.kept (t':=s1.toks) fun b o e=>Heap.get?_push_of_some _ e,Fs a _,⟨_,Heap.get?_push_size _ rfl,rfl,rfl⟩,fun b hb=>?_,q⟩
 have e:b=s1.heap.objs.size:=by simpa using hb
 subst e
 exact I1.uW (Nat.le_refl _) (I1.bH.fresh (Nat.le_refl _))
theorem Hj {pins:List (Addr×Obj)}{σ:St}{H:Hp}{s:Shared}{R:It->Hp->Prop}{E:Value->Shared->Prop}{lo hi:Int}{t u v:Tok}{tk:Nat}(I:Inv X pins σ H s)(h1:-(2 ^ 62)<=lo)(h2:lo < 2 ^ 62)(h3:-(2 ^ 62)<=hi)(h4:hi < 2 ^ 62)(q:R (O3 lo (hi - lo).toNat) H):wpAny (model X.prog X.w) X.A (pyIter (.ref s.heap.objs.size)) (Y5 X pins σ tg R) E { s with heap:=s.heap.push { cls:=.type "range",data:=.fields #[.int lo t,.int hi u,.int 1 v]},toks:=tk}:=by
 refine wpAny_pyIter_range (IsRange.new ..) (small_one h1 h2 h3 h4) ?_
 have I1:Inv X pins σ H { s with heap:=s.heap.push { cls:=.type "range",data:=.fields #[.int lo t,.int hi u,.int 1 v]},toks:=tk}:=I.kept fun b o e=>Heap.get?_push_of_some _ e
 refine⟨(s.heap.push { cls:=.type "range",data:=.fields #[.int lo t,.int hi u,.int 1 v]}).objs.size,[(s.heap.push { cls:=.type "range",data:=.fields #[.int lo t,.int hi u,.int 1 v]}).objs.size],_,_,H,rfl,
   I1.kept (t':=tk) fun b o e=>Heap.get?_push_of_some _ e,Cm _ lo (hi - lo).toNat,?_,fun b hb=>?_,q⟩
 . have e1:lo+((0:Nat):Int) * 1=lo:=by simp
   have e2:(((hi - lo).toNat:Nat):Int) - ((0:Nat):Int)=Builtin.Range.rangeSize lo hi 1:=by rw[rangeSize_one];split <;> omega
   show IsRangeIter _ _ (lo+((0:Nat):Int) * 1) ((((hi - lo).toNat:Nat):Int) - ((0:Nat):Int)) 1
   rw[e1,e2]
   exact Heap.get?_push_size _ rfl
 . have e:b=(s.heap.push { cls:=.type "range",data:=.fields #[.int lo t,.int hi u,.int 1 v]}).objs.size:=by simpa using hb
   subst e
   exact I1.uW (Nat.le_refl _) (I1.bH.fresh (Nat.le_refl _))
noncomputable def NQ (ta:TA):TI:=fun σ H R=>ta σ H fun vs H1=>∃ j:Int,vs=[.int j]/\-(2 ^ 62)<=j/\j < 2 ^ 62/\R (O3 0 j.toNat) H1
theorem rQ {a:Expr}{ta:TA}{p pos:Pos}(hg:Gl X "range")(hm:X.mg "range"=none)(ha:PA X [a] ta)(hs:starEach [a] X.env=[(false,eval a X.env)]:=by rfl):PI X tg (.Call (.Name "range" p) [a] [] pos) (NQ ta):=by
 intro pins s σ H R I h
 refine Call_ (rN I hg hm boot_range (PyProof.Rows.callWith_type1 (b7 (ha pos pins s σ H _ I h) fun us s1 ⟨vs,H1,I1,r1,q1⟩=>?_) hs rfl))
 obtain⟨j,e,q1,q2,q⟩:=q1
 subst e
 cases r1 with
 | cons r rr=>
   cases rr
   obtain⟨t,rfl⟩:=r
   exact call_range_1 (Hj I1 (by omega) (by omega) q1 q2 (by simpa using q))
noncomputable def Wx (wi:TI)(g:TG)(tb:TS):TS:=fun D σ H=>wi σ H fun J H1=>∃ W:Nat->Nat->St->Hp->Prop,(∃ m,W 0 m σ H1)/\∀ i m σ H,W i m σ H ->
 (J.stop i H/\D.nx σ H)\/(J.go i H/\∃ N:St->Hp->Prop,(∀ σ' H',N σ' H'->∃ m',m' < m/\W (i+1) m' σ' H')/\∀ x H',J.K4 i H x H'->g x σ H' fun σ2 H2=>tb { D with nx:=N,ct:=N,bk:=D.nx} σ2 H2)
noncomputable def rR (fp:List Addr)(h:Heap):List (Addr×Obj):=fp.filterMap fun b=>(h.get? b).map fun o=>(b,o)
theorem gj {fp:List Addr}{h:Heap}{b:Addr}{o:Obj}(hb:b∈fp)(e:h.get? b=some o):(b,o)∈rR fp h:=List.mem_filterMap.mpr ⟨b,hb,by rw[e];rfl⟩
theorem Ft {fp:List Addr}{h:Heap}{p:Addr×Obj}(hp:p∈rR fp h):p.1∈fp/\h.get? p.1=some p.2:=by
 obtain⟨b,hb,e⟩:=List.mem_filterMap.mp hp
 cases q:h.get? b with
 | none=>rw[q] at e;cases e
 | some o=>
   rw[q] at e
   have e':(b,o)=p:=Option.some.inj e
   subst e'
   exact⟨hb,q⟩
theorem Inv.pinned {pins:List (Addr×Obj)}{σ:St}{H:Hp}{s:Shared}{fp:List Addr}(I:Inv X pins σ H s)(hf:∀ b∈fp,lD X pins H b)(ho:∀ b∈fp,∃ o,s.heap.get? b=some o/\∀ v,o.data≠.cell v):Inv X (pins ++ rR fp s.heap) σ H s:=
 I.DL fun p hp=>(List.mem_append.mp hp).elim (fun z=>I.pin p (List.mem_append_right _ z)) fun z=>by
   obtain⟨hb,e⟩:=Ft z
   obtain⟨f0,f1,f2,_⟩:=hf p.1 hb
   obtain⟨o,e',d⟩:=ho p.1 hb
   rw[e] at e';cases e'
   exact⟨e,f0,f1,f2,d⟩
theorem Inv.ka {pins pl:List (Addr×Obj)}{σ:St}{H:Hp}{s:Shared}(I:Inv X (pins ++ pl) σ H s):Inv X pins σ H s:=I.DL fun p hp=>I.pin p (List.mem_append_right _ (List.mem_append_left _ hp))
theorem yx {iter:Expr}{body:List Stmt}{wi:TI}{g:TG}{tb:TS}{pos:Pos}(hp:PassesOwn (model X.prog X.w) X.A X.env X.xe)(hc:X.calm=true)(hi:PI X tg iter wi)(hg:PG X tg g)(hb:Ci X body tb)(hs:∀ x,foldedSetIterable iter X.env x=pure x:=by intro _;rfl):PS X (.For tg iter body [] pos) (Wx wi g tb):=by
 intro pins s σ H D I h
 refine wpAny_For (b7 (hi pins s σ H _ I h) fun v s1 h1=>b7 h1 fun O2 s2 h2=>?_) hs
 obtain⟨it,fp,tn,J,H2,e,I2,T,GO,f2,W,⟨m0,w0⟩,turn⟩:=h2
 subst e
 have qo:∀ {H':Hp},(∀ b∈fp,H' b=none)->∀ b∈fp,lD X pins H' b:=fun hn b hb=>⟨hn b hb,(f2 b hb).2⟩
 refine codeAny_forLoop_any (fun n s'=>∃ i σ' H',Inv X pins σ' H' s'/\tn i s'.heap/\(∀ b∈fp,H' b=none)/\W i n σ' H') ?_ m0 ⟨0,σ,H2,I2,GO,fun b hb=>(f2 b hb).1,w0⟩
 rintro n s3 ⟨i,σ3,H3,I3,Vx,Y6,w3⟩
 rcases turn i n σ3 H3 w3 with⟨stop,qn⟩ | ⟨go,N,hN,step⟩
 . refine wpAny_passesOwn hp (b7 (T.done X rfl rfl rfl hc i pins s3 σ3 H3 X.xe I3 (qo Y6) Vx stop) fun r s4 ⟨hr,I4⟩=>?_)
   subst hr
   exact wpAny_execs_nil ⟨σ3,H3,I4,qn⟩
 . refine wpAny_passesOwn hp (b7 (T.item X rfl rfl rfl hc i pins s3 σ3 H3 X.xe I3 (qo Y6) Vx go) fun r s4 ⟨u,hr,h4⟩=>?_)
   subst hr
   refine wpAny_passesOwn hp (b7 h4 fun _ s5 ⟨x,H5,I5,r5,y5,GP,K5⟩=>?_)
   have I5':=I5.pinned (qo K5) (T.obj _ _ GP)
   refine wpAny_passesOwn hp (b7 (hg _ s5 σ3 H5 x u _ I5' r5 (step x H5 y5)) fun _ s6 ⟨σ6,H6,I6,q6⟩=>?_)
   refine wpAny_passesOwn hp (b7 (hb _ s6 σ6 H6 _ I6 q6) fun f s7 q7=>?_)
   have again:∀ {σ7:St} {H7:Hp},Inv X (pins ++ rR fp s5.heap) σ7 H7 s7->N σ7 H7->∃ m,m < n/\∃ i σ' H',Inv X pins σ' H' s7/\tn i s7.heap/\(∀ b∈fp,H' b=none)/\W i m σ' H':=fun {σ7 H7} I7 n7=>by
     obtain⟨m',hm,w7⟩:=hN σ7 H7 n7
     refine⟨m',hm,i+1,σ7,H7,I7.ka,T.keep _ _ _ GP fun b hb o e=>(I7.pin (b,o) (List.mem_append_right _ (List.mem_append_right _ (gj hb e)))).1,fun b hb=>?_,w7⟩
     obtain⟨o,e,d⟩:=T.obj _ _ GP b hb
     exact(I7.pin (b,o) (List.mem_append_right _ (List.mem_append_right _ (gj hb e)))).2.1
   cases f with
   | next=>obtain⟨σ7,H7,I7,n7⟩:=q7;exact again I7 n7
   | cont=>obtain⟨σ7,H7,I7,n7⟩:=q7;exact again I7 n7
   | brk=>obtain⟨σ7,H7,I7,q7⟩:=q7;exact⟨σ7,H7,I7.ka,q7⟩
   | ret v=>obtain⟨x7,σ7,H7,I7,r7,q7⟩:=q7;exact⟨x7,σ7,H7,I7.ka,r7,q7⟩
end
theorem AD {K:PySem.W.Frag}{a:Addr}{xs:List V}{g:TG}{tb:TS}{D:Ends}{σ:St}{H:Hp}(Pv:Nat->St->Hp->Prop)(h0:Pv 0 σ H)(hl:∀ i σ H,i<=xs.length->Pv i σ H->oe K H a xs)(hs:∀ i x σ H,xs[i]?=some x->Pv i σ H->g x σ H fun σ2 H2=>tb { D with nx:=Pv (i+1),ct:=Pv (i+1),bk:=D.nx} σ2 H2)(hd:∀ σ H,Pv xs.length σ H->D.nx σ H):∃ W:Nat->Nat->St->Hp->Prop,(∃ m,W 0 m σ H)/\∀ i m σ H,W i m σ H->((Sz K a).stop i H/\D.nx σ H)\/((Sz K a).go i H/\∃ N:St->Hp->Prop,(∀ σ' H',N σ' H'->∃ m',m' < m/\W (i+1) m' σ' H')/\∀ x H',(Sz K a).K4 i H x H'->g x σ H' fun σ2 H2=>tb { D with nx:=N,ct:=N,bk:=D.nx} σ2 H2):=by
 refine⟨fun i m σ H=>m=xs.length - i/\i<=xs.length/\Pv i σ H,⟨xs.length,by simp,Nat.zero_le _,h0⟩,?_⟩
 rintro i m σ H ⟨rfl,hi,p⟩
 have q:=hl i σ H hi p
 by_cases dy:i < xs.length
 . refine .inr ⟨⟨xs,xs[i],q,by simp[dy]⟩,Pv (i+1),fun σ' H' p'=>⟨xs.length - (i+1),by omega,rfl,dy,p'⟩,fun x H' y=>?_⟩
   obtain⟨e,y⟩:=y
   subst e
   exact hs i x σ _ (y xs q) p
 . have e:i=xs.length:=by omega
   subst e
   exact .inl ⟨⟨xs,q,Nat.le_refl _⟩,hd σ H p⟩
theorem Fu {lo:Int}{n:Nat}{g:TG}{tb:TS}{D:Ends}{σ:St}{H:Hp}(Pv:Nat->St->Hp->Prop)(h0:Pv 0 σ H)(hs:∀ i σ H,i < n->Pv i σ H->g (.int (lo+i)) σ H fun σ2 H2=>tb { D with nx:=Pv (i+1),ct:=Pv (i+1),bk:=D.nx} σ2 H2)(hd:∀ σ H,Pv n σ H->D.nx σ H):∃ W:Nat->Nat->St->Hp->Prop,(∃ m,W 0 m σ H)/\∀ i m σ H,W i m σ H->((O3 lo n).stop i H/\D.nx σ H)\/((O3 lo n).go i H/\∃ N:St->Hp->Prop,(∀ σ' H',N σ' H'->∃ m',m' < m/\W (i+1) m' σ' H')/\∀ x H',(O3 lo n).K4 i H x H'->g x σ H' fun σ2 H2=>tb { D with nx:=N,ct:=N,bk:=D.nx} σ2 H2):=by
 refine⟨fun i m σ H=>m=n - i/\i<=n/\Pv i σ H,⟨n,by simp,Nat.zero_le _,h0⟩,?_⟩
 rintro i m σ H ⟨rfl,hi,p⟩
 by_cases dy:i < n
 . refine .inr ⟨dy,Pv (i+1),fun σ' H' p'=>⟨n - (i+1),by omega,rfl,dy,p'⟩,fun x H' y=>?_⟩
   obtain⟨e,y⟩:=y
   subst e y
   exact hs i σ _ dy p
 . have e:i=n:=by omega
   subst e
   exact .inl ⟨Nat.le_refl _,hd σ H p⟩
noncomputable abbrev R2:=V->V->Hp->VK->Prop
noncomputable def pV (X:Cx)(f:Value->Value->Sem Value)(r:R2):Prop:=
 ∀ (pins:List (Addr×Obj)) (s:Shared) (σ:St) (H:Hp) (x y:V) (v u:Value) (Q:VK),Inv X pins σ H s->RelV x v->RelV y u->r x y H Q ->
   wpAny (model X.prog X.w) X.A (f v u) (EP X pins σ Q) X.xe s
noncomputable def Wy (X:Cx)(f:Value->Sem Value)(r:V->Hp->VK->Prop):Prop:=
 ∀ (pins:List (Addr×Obj)) (s:Shared) (σ:St) (H:Hp) (x:V) (v:Value) (Q:VK),Inv X pins σ H s->RelV x v->r x H Q ->
   wpAny (model X.prog X.w) X.A (f v) (EP X pins σ Q) X.xe s
noncomputable def lE (X:Cx)(f:Value)(r:List V->Hp->VK->Prop):Prop:=
 ∀ (pins:List (Addr×Obj)) (s:Shared) (σ:St) (H:Hp) (xs:List V) (us:List Value) (Q:VK),Inv X pins σ H s->Vals xs us->r xs H Q ->
   wpAny (model X.prog X.w) X.A (call f us) (EP X pins σ Q) X.xe s
noncomputable def SA (r:R2)(ta tb:TE):TE:=fun σ H Q=>ta σ H fun x H1=>tb σ H1 fun y H2=>r x y H2 Q
noncomputable def tUn (r:V->Hp->VK->Prop)(ta:TE):TE:=fun σ H Q=>ta σ H fun x H1=>r x H1 Q
noncomputable def rI (C:Int->Int->Prop)(g:Int->Int->V):R2:=fun x y H Q=>∃ i j,x=.int i/\y=.int j/\C i j/\Q (g i j) H
noncomputable def Lq (g:Int->Int->V):R2:=fun x y H Q=>∃ i j,x=.int i/\y=.int j/\Q (g i j) H
noncomputable def rU (g:Int->V):V->Hp->VK->Prop:=fun x H Q=>∃ i,x=.int i/\Q (g i) H
section
variable {X:Cx}{a b:Expr}{ta tb:TE}{pos:Pos}
theorem O4 (ha:PE X a ta)(hb:PE X b tb){pins:List (Addr×Obj)}{s:Shared}{σ:St}{H:Hp}{R:V->V->Hp->Prop}(I:Inv X pins σ H s)(h:ta σ H fun x H1=>tb σ H1 fun y H2=>R x y H2){Q:Value->Shared->Prop}{f:Value->Value->Sem Value}(hf:∀ v u s2 x y H2,Inv X pins σ H2 s2->RelV x v->RelV y u->R x y H2->wpAny (model X.prog X.w) X.A (f v u) Q X.xe s2):wpAny (model X.prog X.w) X.A (eval a X.env) (fun v s₁=>wpAny (model X.prog X.w) X.A (eval b X.env) (fun u s₂=>wpAny (model X.prog X.w) X.A (f v u) Q X.xe s₂) X.xe s₁) X.xe s:=by
 refine b7 (ha pins s σ H _ I h) fun v s1 ⟨x,H1,I1,r1,q1⟩=>?_
 refine b7 (hb pins s1 σ H1 _ I1 q1) fun u s2 ⟨y,H2,I2,r2,q2⟩=>?_
 exact hf v u s2 x y H2 I2 r1 r2 q2
theorem NR {op:Operator}{r:R2}(ho:pV X (binaryOp op) r)(ha:PE X a ta)(hb:PE X b tb):PE X (.BinOp a op b pos) (SA r ta tb):=by
 intro pins s σ H Q I h
 exact wpAny_BinOp (O4 ha hb I h fun v u s2 x y H2 I2 rx ry q=>ho pins s2 σ H2 x y v u Q I2 rx ry q)
theorem SD {op:UnaryOp}{r:V->Hp->VK->Prop}(ho:Wy X (unaryOp op) r)(ha:PE X a ta):PE X (.UnaryOp op a pos) (tUn r ta):=by
 intro pins s σ H Q I h
 exact UnaryOp_ (b7 (ha pins s σ H _ I h) fun v s1 ⟨x,H1,I1,r1,q1⟩=>ho pins s1 σ H1 x v Q I1 r1 q1)
theorem Vy {f:Value->Value->Sem Value}{C:Int->Int->Prop}{g:Int->Int->Int}(rule:∀ (i j:Int) (t u:Tok) (s:Shared) (Q:Value->Shared->Prop) (E:Value->Shared->Prop),C i j->Q (.int (g i j) s.toks) { s with toks:=s.toks+1}->wpAny (model X.prog X.w) X.A (f (.int i t) (.int j u)) Q E s):pV X f (rI C fun i j=>.int (g i j)):=by
 intro pins s σ H x y v u Q I rx ry h
 obtain⟨i,j,rfl,rfl,hc,q⟩:=h
 obtain⟨t,rfl⟩:=rx
 obtain⟨t',rfl⟩:=ry
 exact rule i j t t' s _ _ hc ⟨.int (g i j),H,I.tok _,⟨_,rfl⟩,q⟩
theorem SE {f:Value->Value->Sem Value}{g:Int->Int->Int}(rule:∀ (i j:Int) (t u:Tok) (s:Shared) (Q:Value->Shared->Prop) (E:Value->Shared->Prop),Q (.int (g i j) s.toks) { s with toks:=s.toks+1}->wpAny (model X.prog X.w) X.A (f (.int i t) (.int j u)) Q E s):pV X f (Lq fun i j=>.int (g i j)):=by
 intro pins s σ H x y v u Q I rx ry h
 obtain⟨i,j,rfl,rfl,q⟩:=h
 obtain⟨t,rfl⟩:=rx
 obtain⟨t',rfl⟩:=ry
 exact rule i j t t' s _ _ ⟨.int (g i j),H,I.tok _,⟨_,rfl⟩,q⟩
theorem Lr {f:Value->Value->Sem Value}{g:Int->Int->Bool}(rule:∀ (i j:Int) (t u:Tok) (s:Shared) (Q:Value->Shared->Prop) (E:Value->Shared->Prop),Q (.bool (g i j)) s->wpAny (model X.prog X.w) X.A (f (.int i t) (.int j u)) Q E s):pV X f (Lq fun i j=>.bl (g i j)):=by
 intro pins s σ H x y v u Q I rx ry h
 obtain⟨i,j,rfl,rfl,q⟩:=h
 obtain⟨t,rfl⟩:=rx
 obtain⟨t',rfl⟩:=ry
 exact rule i j t t' s _ _ ⟨.bl (g i j),H,I,rfl,q⟩
noncomputable def SF (i j:Int):Prop:=0<=j/\j<=1000000/\i.natAbs < 2 ^ 64
noncomputable def uX (i j:Int):Prop:=(-(2 ^ 64) < i/\i < 2 ^ 64)\/(-(2 ^ 64) < j/\j < 2 ^ 64)
theorem uX.ok {i j:Int}(h:uX i j):IntMulOk i j:=by
 rcases h with⟨h1,h2⟩ | ⟨h1,h2⟩
 . exact .of_left (intBits_le_64 h1 h2)
 . exact .of_right (intBits_le_64 h1 h2)
theorem O5:pV X (binaryOp .Add) (Lq fun i j=>.int (i+j)):=SE fun _ _ _ _ _ _ _ q=>add_int q
theorem O6:pV X (binaryOp .Sub) (Lq fun i j=>.int (i - j)):=SE fun _ _ _ _ _ _ _ q=>sub_int q
theorem O7:pV X (binaryOp .Mod) (rI (fun _ j=>0 < j) fun i j=>.int (i % j)):=Vy fun i j _ _ _ _ _ hc q=>by
 have h1:(0:Int) < j:=hc
 exact mod_int' (by omega) (by rw[Int.fmod_eq_emod_of_nonneg i (by omega)];exact q)
theorem O8:pV X (binaryOp .Pow) (rI SF fun i j=>.int (i ^ j.toNat)):=Vy fun _ _ _ _ _ _ _ hc q=>pow_int_small hc.1 hc.2.1 hc.2.2 q
theorem unI {f:Value->Sem Value}{g:Int->Int}(rule:∀ (i:Int) (t:Tok) (s:Shared) (Q:Value->Shared->Prop) (E:Value->Shared->Prop),Q (.int (g i) s.toks) { s with toks:=s.toks+1}->wpAny (model X.prog X.w) X.A (f (.int i t)) Q E s):Wy X f (rU fun i=>.int (g i)):=by
 intro pins s σ H x v Q I rx h
 obtain⟨i,rfl,q⟩:=h
 obtain⟨t,rfl⟩:=rx
 exact rule i t s _ _ ⟨.int (g i),H,I.tok _,⟨_,rfl⟩,q⟩
theorem O9:Wy X (unaryOp .USub) (rU fun i=>.int (-i)):=unI fun _ _ _ _ _ q=>neg_int q
end
noncomputable def Lu:V->V->Bool
 | .c9,.c9=>true | .c9,.int _=>true | .int _,.c9=>true | .c9,.bl _=>true | .bl _,.c9=>true | .c9,.str _=>true | .str _,.c9=>true
 | .int _,.int _=>true | .bl _,.bl _=>true | .str _,.str _=>true | .GN _,.GN _=>true
 | .int _,.str _=>true | .str _,.int _=>true | .bl _,.str _=>true | .str _,.bl _=>true
 | _,_=>false
noncomputable def rEq:R2:=fun x y H Q=>Lu x y=true/\Q (.bl (decide (x=y))) H
noncomputable def rNe:R2:=fun x y H Q=>Lu x y=true/\Q (.bl (!decide (x=y))) H
theorem o6 {i j:Int}:decide (V.int i=V.int j)=(i == j):=by
 rw[Bool.eq_iff_iff]
 simp
theorem Hk {i j:Bool}:decide (V.bl i=V.bl j)=(i == j):=by
 rw[Bool.eq_iff_iff]
 simp
theorem qJ {i j:Str}:decide (V.str i=V.str j)=(i == j):=by
 rw[Bool.eq_iff_iff]
 simp
theorem DN {i j:Array UInt8}:decide (V.GN i=V.GN j)=(i.toList == j.toList):=by
 rw[Bool.eq_iff_iff]
 cases i
 cases j
 simp
section
variable {X:Cx}{a b c:Expr}{ta tb tc:TE}{pos:Pos}
theorem bL {pins:List (Addr×Obj)}{σ:St}{H:Hp}{s:Shared}{Q:VK}{k k':Bool}(I:Inv X pins σ H s)(q:Q (.bl k) H)(e:k=k'):EP X pins σ Q (.bool k') s:=by
 subst e
 exact⟨.bl k,H,I,rfl,q⟩
theorem DO:pV X (compareOp .Eq) rEq:=by
 intro pins s σ H x y v u Q I rx ry h
 obtain⟨hs,q⟩:=h
 cases x with
 | c9=>
   cases rx
   cases y with
   | c9=>cases ry;exact PySem.EqNone.eq_none_none (bL I q (by simp))
   | bl j=>cases ry;exact PySem.EqNone.eq_none_bool (bL I q (by simp))
   | int j=>obtain⟨t',rfl⟩:=ry;exact PySem.EqNone.eq_none_int (bL I q (by simp))
   | str j=>obtain⟨t',rfl⟩:=ry;exact PySem.EqNone.eq_none_str (bL I q (by simp))
   | _=>exact absurd (show false=true from hs) Bool.false_ne_true
 | bl i=>
   cases rx
   cases y with
   | c9=>cases ry;exact PySem.EqNone.eq_bool_none (bL I q (by simp))
   | bl j=>cases ry;exact eq_bool (bL I q Hk)
   | str j=>obtain⟨t',rfl⟩:=ry;exact PySem.EqMixed.eq_bool_str (bL I q (by simp))
   | _=>exact absurd (show false=true from hs) Bool.false_ne_true
 | int i=>
   obtain⟨t,rfl⟩:=rx
   cases y with
   | c9=>cases ry;exact PySem.EqNone.eq_int_none (bL I q (by simp))
   | int j=>obtain⟨t',rfl⟩:=ry;exact eq_int (bL I q o6)
   | str j=>obtain⟨t',rfl⟩:=ry;exact PySem.EqMixed.eq_int_str (bL I q (by simp))
   | _=>exact absurd (show false=true from hs) Bool.false_ne_true
 | str i=>
   obtain⟨t,rfl⟩:=rx
   cases y with
   | c9=>cases ry;exact PySem.EqNone.eq_str_none (bL I q (by simp))
   | bl j=>cases ry;exact PySem.EqMixed.eq_str_bool (bL I q (by simp))
   | int j=>obtain⟨t',rfl⟩:=ry;exact PySem.EqMixed.eq_str_int (bL I q (by simp))
   | str j=>obtain⟨t',rfl⟩:=ry;exact eq_str (bL I q qJ)
   | _=>exact absurd (show false=true from hs) Bool.false_ne_true
 | GN i=>
   obtain⟨t,rfl⟩:=rx
   cases y with
   | GN j=>obtain⟨t',rfl⟩:=ry;exact W.eq_bytes (bL I q DN)
   | _=>exact absurd (show false=true from hs) Bool.false_ne_true
 | _=>cases y <;> exact absurd (show false=true from hs) Bool.false_ne_true
theorem SG:pV X (compareOp .NotEq) rNe:=by
 intro pins s σ H x y v u Q I rx ry h
 obtain⟨hs,q⟩:=h
 cases x with
 | c9=>
   cases rx
   cases y with
   | c9=>cases ry;exact PySem.EqNone.ne_none_none (bL I q (by simp))
   | bl j=>cases ry;exact PySem.EqNone.ne_none_bool (bL I q (by simp))
   | int j=>obtain⟨t',rfl⟩:=ry;exact PySem.EqNone.ne_none_int (bL I q (by simp))
   | str j=>obtain⟨t',rfl⟩:=ry;exact PySem.EqNone.ne_none_str (bL I q (by simp))
   | _=>exact absurd (show false=true from hs) Bool.false_ne_true
 | bl i=>
   cases rx
   cases y with
   | c9=>cases ry;exact PySem.EqNone.ne_bool_none (bL I q (by simp))
   | bl j=>cases ry;exact ne_bool (bL I q (congrArg not Hk))
   | str j=>obtain⟨t',rfl⟩:=ry;exact PySem.EqMixed.ne_bool_str (bL I q (by simp))
   | _=>exact absurd (show false=true from hs) Bool.false_ne_true
 | int i=>
   obtain⟨t,rfl⟩:=rx
   cases y with
   | c9=>cases ry;exact PySem.EqNone.ne_int_none (bL I q (by simp))
   | int j=>obtain⟨t',rfl⟩:=ry;exact ne_int (bL I q (congrArg not o6))
   | str j=>obtain⟨t',rfl⟩:=ry;exact PySem.EqMixed.ne_int_str (bL I q (by simp))
   | _=>exact absurd (show false=true from hs) Bool.false_ne_true
 | str i=>
   obtain⟨t,rfl⟩:=rx
   cases y with
   | c9=>cases ry;exact PySem.EqNone.ne_str_none (bL I q (by simp))
   | bl j=>cases ry;exact PySem.EqMixed.ne_str_bool (bL I q (by simp))
   | int j=>obtain⟨t',rfl⟩:=ry;exact PySem.EqMixed.ne_str_int (bL I q (by simp))
   | str j=>obtain⟨t',rfl⟩:=ry;exact ne_str (bL I q (congrArg not qJ))
   | _=>exact absurd (show false=true from hs) Bool.false_ne_true
 | GN i=>
   obtain⟨t,rfl⟩:=rx
   cases y with
   | GN j=>obtain⟨t',rfl⟩:=ry;exact W.ne_bytes (bL I q (congrArg not DN))
   | _=>exact absurd (show false=true from hs) Bool.false_ne_true
 | _=>cases y <;> exact absurd (show false=true from hs) Bool.false_ne_true
theorem SH:pV X (compareOp .Lt) (Lq fun i j=>.bl (decide (i < j))):=Lr fun _ _ _ _ _ _ _ q=>lt_int q
theorem Hl:pV X (compareOp .LtE) (Lq fun i j=>.bl (decide (i<=j))):=Lr fun _ _ _ _ _ _ _ q=>le_int q
theorem NS:pV X (compareOp .Gt) (Lq fun i j=>.bl (decide (j < i))):=Lr fun _ _ _ _ _ _ _ q=>gt_int q
theorem SI:pV X (compareOp .GtE) (Lq fun i j=>.bl (decide (j<=i))):=Lr fun _ _ _ _ _ _ _ q=>ge_int q
theorem kr (b:Expr){op:CmpOp}(h:op≠.In:=by decide)(h2:op≠.NotIn:=by decide):behindInMarks op b=false:=by
 have e1:(op == CmpOp.In)=false:=by cases op <;> first | rfl | exact absurd rfl h
 have e2:(op == CmpOp.NotIn)=false:=by cases op <;> first | rfl | exact absurd rfl h2
 cases b <;> simp[behindInMarks,e1,e2]
theorem Lv {op:CmpOp}{r:R2}(ho:pV X (compareOp op) r)(ha:PE X a ta)(hb:PE X b tb)(hm:behindInMarks op b=false):PE X (.Compare a [op] [b] pos) (SA r ta tb):=by
 intro pins s σ H Q I h
 exact wpAny_Compare1 (O4 ha hb I h fun v u s2 x y H2 I2 rx ry q=>ho pins s2 σ H2 x y v u Q I2 rx ry q) hm
noncomputable def SJ (t:TE):TT:=fun σ H Q=>t σ H fun x H'=>∃ k,x=.bl k/\Q k H'
theorem Lw {op:CmpOp}{r:R2}(ho:pV X (compareOp op) r)(ha:PE X a ta)(hb:PE X b tb)(hm:behindInMarks op b=false):PT X (.Compare a [op] [b] pos) (SJ (SA r ta tb)):=by
 intro pins s σ H Q I h
 refine wpAny_isTrue_Compare1 (b7 (ha pins s σ H _ I h) fun v s1 ⟨x,H1,I1,r1,q1⟩=>b7 (hb pins s1 σ H1 _ I1 q1) fun u s2 ⟨y,H2,I2,r2,q2⟩=>
   b7 (ho pins s2 σ H2 x y v u _ I2 r1 r2 q2) fun c s3 ⟨z,H3,I3,r3,k,e,q3⟩=>?_) hm
 subst e
 cases r3
 exact wpAny_truthy_bool ⟨H3,I3,q3⟩
noncomputable def Pa (r r':R2)(ta tb tc:TE):TE:=fun σ H Q=>ta σ H fun x H1=>tb σ H1 fun y H2=>r x y H2 fun z H3=>∃ k,z=.bl k /\
 (if k=true then tc σ H3 fun w' H4=>r' y w' H4 Q else Q (.bl false) H3)
theorem Hm {op Pb:CmpOp}{r r':R2}(ho:pV X (compareOp op) r)(G7:pV X (compareOp Pb) r')(ha:PE X a ta)(hb:PE X b tb)(hc:PE X c tc)(hm:lastMarks [op,Pb] [b,c]=false:=by with_unfolding_all rfl):PE X (.Compare a [op,Pb] [b,c] pos) (Pa r r' ta tb tc):=by
 intro pins s σ H Q I h
 refine Compare_chain (b7 (ha pins s σ H _ I h) fun v s1 ⟨x,H1,I1,r1,q1⟩=>chain_link (b7 (hb pins s1 σ H1 _ I1 q1) fun u s2 ⟨y,H2,I2,r2,q2⟩=>
   b7 (ho pins s2 σ H2 x y v u _ I2 r1 r2 q2) fun d s3 ⟨z,H3,I3,r3,k,e,q3⟩=>?_)) hm
 subst e
 cases r3
 refine wpAny_truthy_bool ?_
 cases k with
 | false=>exact ite_ff ⟨.bl false,H3,I3,rfl,q3⟩
 | true=>exact ite_tt (chain_last (b7 (hc pins s3 σ H3 _ I3 q3) fun w' s4 ⟨z',H4,I4,r4,q4⟩=>G7 pins s4 σ H4 y z' u w' Q I4 r2 r4 q4))
theorem mf:(sizeLine:Nat) < 2 ^ 63:=by rw[sizeLine_eq];decide
theorem Cn:pV X (binaryOp .Add) (fun x y H Q=>∃ i j,x=.str i/\y=.str j/\i.length+j.length<=sizeLine/\Q (.str (i ++ j)) H):=by
 intro pins s σ H x y v u Q I rx ry h
 obtain⟨i,j,rfl,rfl,hz,q⟩:=h
 obtain⟨t,rfl⟩:=rx
 obtain⟨t',rfl⟩:=ry
 exact add_str (fun t' tk=>⟨.str (i ++ j),H,I.tok _,⟨_,rfl⟩,q⟩) hz
theorem vals1 {x:V}{us:List Value}(r:Vals [x] us):∃ u,us=[u]/\RelV x u:=by
 cases r with
 | cons r1 r2=>cases r2;exact⟨_,rfl,r1⟩
theorem vals2 {x y:V}{us:List Value}(r:Vals [x,y] us):∃ u w',us=[u,w']/\RelV x u/\RelV y w':=by
 cases r with
 | cons r1 r2=>
   cases r2 with
   | cons r3 r4=>cases r4;exact⟨_,_,rfl,r1,r3⟩
theorem Fv (hc:X.calm=true):lE X (.builtin "max") (fun xs H Q=>∃ i j,xs=[.int i,.int j]/\Q (.int (if j > i then j else i)) H):=by
 intro pins s σ H xs us Q I r h
 obtain⟨i,j,rfl,q⟩:=h
 obtain⟨u,w',rfl,⟨t,rfl⟩,⟨t',rfl⟩⟩:=vals2 r
 refine max_two_ints (I.ok.hd hc) fun h' tk k=>⟨_,H,I.kept k,?_,q⟩
 by_cases hj:j > i
 . rw[if_pos hj,if_pos hj];exact⟨_,rfl⟩
 . rw[if_neg hj,if_neg hj];exact⟨_,rfl⟩
theorem Fw (hc:X.calm=true):lE X (.builtin "min") (fun xs H Q=>∃ i j,xs=[.int i,.int j]/\Q (.int (if j < i then j else i)) H):=by
 intro pins s σ H xs us Q I r h
 obtain⟨i,j,rfl,q⟩:=h
 obtain⟨u,w',rfl,⟨t,rfl⟩,⟨t',rfl⟩⟩:=vals2 r
 refine min_two_ints (I.ok.hd hc) fun h' tk k=>⟨_,H,I.kept k,?_,q⟩
 by_cases hj:j < i
 . rw[if_pos hj,if_pos hj];exact⟨_,rfl⟩
 . rw[if_neg hj,if_neg hj];exact⟨_,rfl⟩
theorem Fx:lE X (.type "int") (fun xs H Q=>(∃ i,xs=[.int i]/\Q (.int i) H)\/∃ k,xs=[.bl k]/\Q (.int (if k then 1 else 0)) H):=by
 intro pins s σ H xs us Q I r h
 rcases h with⟨i,rfl,q⟩ | ⟨k,rfl,q⟩
 . obtain⟨u,rfl,t,rfl⟩:=vals1 r
   exact call_int_int ⟨.int i,H,I,⟨_,rfl⟩,q⟩
 . obtain⟨u,rfl,r1⟩:=vals1 r
   cases r1
   exact call_int_bool ⟨.int (if k then 1 else 0),H,I.tok _,⟨_,rfl⟩,q⟩
end
structure Co (h:Heap)(x dx C:Addr)(mA:Str->Option Value):Prop where
 obj:h.get? x=some (W.instObj C dx)
 ns:h.Ns1 dx mA
 ne:dx≠x
theorem Fy {h:Heap}{dx:Addr}{mA:Str->Option Value}(n:h.Ns1 dx mA):∃ od,h.get? dx=some od/\∀ name,W.lookIn name od=some (mA name):=by
 obtain⟨o,es,ep,ho,hd,hk,_,hm⟩:=n
 refine⟨o,ho,fun name=>?_⟩
 have e:=hm name
 unfold nsFind findBy at e
 rw[<- Array.find?_toList] at e
 unfold W.lookIn
 rw[hd]
 dsimp only
 split
 . rename_i y q
   rw[q] at e
   exact congrArg some e
 . rename_i q
   rw[q] at e
   have a:es.toList.any (·.refKey)=false:=by
     rw[List.any_eq_false]
     intro y hy
     obtain⟨z,t,Wz⟩:=hk y (Array.mem_toList_iff.mp hy)
     simp[DictEntry.refKey,Wz]
   have a':¬ es.toList.any (·.refKey)=true:=by rw[a];exact Bool.false_ne_true
   rw[if_neg a']
   exact congrArg some e
theorem Co.look {h:Heap}{x dx C:Addr}{mA:Str->Option Value}(I:Co h x dx C mA):∃ od,W.InstAt h x (W.instObj C dx) C (some od)/\∀ name,W.lookIn name od=some (mA name):=
 let ⟨od,ho,hl⟩:=Fy I.ns
 ⟨od,⟨I.obj,rfl,rfl,ho⟩,hl⟩
section
variable {prog:Program}{w:World}{A:Around}{E:Value->Shared->Prop}{s:Shared}{K:W.Frag}{x dx C f:Addr}{mA:Str->Option Value}{name:Str}{v:Value}
theorem get_map {expr:Bool}{Q:Value->Shared->Prop}(X:K.In s.heap)(I:Co s.heap x dx C mA)(hg:W.plainGet K C name=true)(hh:W.hasDictIn K C=true)(ha:W.findIn K (.ref C) name=some none)(hv:mA name=some v)(Vz:W.handedIn v=true)(h:Q v { s with toks:=s.toks+1}):wpAny (model prog w) A (getAttr (.ref x) name expr) Q E s:=by
 obtain⟨od,J,hl⟩:=I.look
 exact W.get_value X J (W.plainGet_of hg).1 (W.findObj_own hh ha rfl (by rw[hl,hv])) Vz h
theorem Hn {pl:Sem Bool}{Q:Value×List Value->Shared->Prop}(X:K.In s.heap)(I:Co s.heap x dx C mA)(hg:W.plainGet K C name=true)(hf:W.findIn K (.ref C) name=some (some (.ref f)))(ht:W.isFn K (.ref f)=true)(hv:mA name=none)(h:Q (.ref f,[.ref x]) s):wpAny (model prog w) A (getMethod (.ref x) name pl) Q E s:=by
 obtain⟨od,J,hl⟩:=I.look
 exact W.method_fn X J (W.plainGet_of hg).1 (W.plainGet_of hg).2 hf (beq_iff_eq.mp ht) (by show(W.lookIn name od).map (·.isSome)=some false;rw[hl,hv];rfl) h
theorem Lx {ns:List Str}{Q:Unit->Shared->Prop}(X:K.In s.heap)(I:Co s.heap x dx C mA)
   (hs:W.findIn K (.ref C) "__setattr__"=some (some (.builtin "object.__setattr__"))) (hp:W.plainOver K C=true) (ht:W.takerIn K C name=some none) (hh:W.hasDictIn K C=true)
   (hw:PySem.Within mA ns) (hsz:ns.length<=sizeLine)
   (h:∀ h',Co h' x dx C (fun y=>if y=name then some v else mA y)->Heap.SameBut dx s.heap h'->Q () { s with heap:=h',toks:=s.toks+2}) :
   wpAny (model prog w) A (setAttr (.ref x) name v) Q E s:=by
 obtain⟨od,J,hl⟩:=I.look
 refine W.set_plain X J hs (W.osa_open (s:={ s with toks:=s.toks+1}) (r:=none) X J hp ht fun b=>?_)
 obtain⟨cd,hc,NN⟩:=W.any_some hh
 have hx:s.heap.get? x=some ⟨.ref C,some dx,.plain,#[]⟩:=I.obj
 refine wpAny_bind (wpAny_pure (wpAny_bind (wpAny_bind (wpAny_loadPart hx (wpAny_bind (W.Looks.here (s:={ s with toks:=s.toks+1}) (W.looks_clsIn X hc) ?_))))))
 rw[NN]
 refine wpAny_pure (a:=some dx) (wpAny_bind (wpAny_pure (wpAny_bind ?_)))
 refine wpAny_nsSet1 (s:={ s with toks:=s.toks+1}) I.ns fun h' RU AE=>?_
 obtain⟨oD,esD,epD,hoD,hdD,hcD⟩:=RU.count (PySem.Within.cons name v hw)
 refine wpAny_bind (wpAny_lookBehind hoD (by rw[hdD];exact pastItsLine_dict (Nat.le_trans hcD (by rw[List.length_cons];omega))) ?_)
 exact wpAny_pure (h _ ⟨(AE.2 _ (Ne.symm I.ne)).trans I.obj,RU,I.ne⟩ AE)
theorem Ho {R:Result->Shared->Prop}{vs:List Value}{kw:List (Str×Value)}(X:K.In s.heap)(hm:W.makesIn K C=true)(hi:W.findIn K (.ref C) "__init__"=some (some (.ref f)))(hf:W.typeIn K (.ref f)=some (.type "function"))(h:codeAny (model prog w) (A.under (.builtin "type.__call__" ⟨.ref C::vs,kw⟩)) (.call (.ref f) ⟨.ref (s.heap.objs.size+1)::vs,kw⟩) (W.InitBack (s.heap.objs.size+1) R) { s with heap:=(s.heap.push W.emptyDict).push (W.instObj C s.heap.objs.size)}):codeAny (model prog w) A (.call (.ref C) ⟨vs,kw⟩) R s:=by
 obtain⟨hh,g,d,t,os⟩:=s
 exact W.make_core (W.makes_of X hm) (W.looks_findIn X hi) (fun self=>W.bind_fn X self hf) (.inl rfl) h
theorem FA {R:Result->Shared->Prop}(X:K.In s.heap)(hm:W.makesIn K C=true)(hi:W.findIn K (.ref C) "__init__"=some (some (.builtin "object.__init__")))(hb:∀ self,W.Looks (model prog w) s.heap (bindSpecial (.builtin "object.__init__") self) (.builtin "object.__init__",[self]))(h:codeAny (model prog w) (A.under (.builtin "type.__call__" ⟨[.ref C],[]⟩)) (.call (.builtin "object.__init__") ⟨[.ref (s.heap.objs.size+1)],[]⟩) (W.InitBack (s.heap.objs.size+1) R) { s with heap:=(s.heap.push W.emptyDict).push (W.instObj C s.heap.objs.size)}):codeAny (model prog w) A (.call (.ref C) ⟨[],[]⟩) R s:=by
 obtain⟨hh,g,d,t,os⟩:=s
 exact W.make_core (W.makes_of X hm) (W.looks_findIn X hi) hb (.inr ⟨rfl,rfl⟩) h
end
noncomputable def fL (f:Str)(v:V):List (Str×V)->List (Str×V)
 | []=>[(f,v)]
 | (g,x)::r=>if g=f then (g,v)::r else (g,x)::fL f v r
theorem oA (f g:Str)(v:V):∀ fs:List (Str×V),(fL f v fs).lookup g=if g=f then some v else fs.lookup g
 | []=>by
   show List.lookup g [(f,v)]=_
   by_cases h:g=f
   . have hb:(g == f)=true:=beq_iff_eq.mpr h
     simp only[List.lookup,hb,if_pos h]
   . have hb:(g == f)=false:=beq_eq_false_iff_ne.mpr h
     simp only[List.lookup,hb,if_neg h]
 | (k,x)::r=>by
   have ih:=oA f g v r
   rw[show fL f v ((k,x)::r)=(if k=f then (k,v)::r else (k,x)::fL f v r) from rfl]
   by_cases hk:k=f
   . rw[if_pos hk]
     by_cases h:g=k
     . have hb:(g == k)=true:=beq_iff_eq.mpr h
       simp only[List.lookup,hb,if_pos (h.trans hk)]
     . have hb:(g == k)=false:=beq_eq_false_iff_ne.mpr h
       simp only[List.lookup,hb,if_neg (fun e:g=f=>h (e.trans hk.symm))]
   . rw[if_neg hk]
     by_cases h:g=k
     . have hb:(g == k)=true:=beq_iff_eq.mpr h
       simp only[List.lookup,hb,if_neg (fun e:g=f=>hk (h.symm.trans e))]
     . have hb:(g == k)=false:=beq_eq_false_iff_ne.mpr h
       simp only[List.lookup,hb]
       exact ih
theorem rS (f:Str)(v:V):∀ fs:List (Str×V),f∈(fL f v fs).map (·.1)/\∀ g,g∈fs.map (·.1)->g∈(fL f v fs).map (·.1)
 | []=>⟨by simp[fL],fun g h=>by simp at h⟩
 | (k,x)::r=>by
   obtain⟨i1,i2⟩:=rS f v r
   rw[show fL f v ((k,x)::r)=(if k=f then (k,v)::r else (k,x)::fL f v r) from rfl]
   by_cases hk:k=f
   . rw[if_pos hk]
     subst hk
     exact⟨by simp,fun g h=>by simpa using h⟩
   . rw[if_neg hk]
     refine⟨?_,fun g h=>?_⟩
     . rw[List.map_cons]
       exact List.mem_cons_of_mem _ i1
     . rw[List.map_cons] at h ⊢
       rcases List.mem_cons.mp h with e | e
       . exact List.mem_cons.mpr (.inl e)
       . exact List.mem_cons_of_mem _ (i2 g e)
theorem tq (f:Str)(v:V):∀ fs:List (Str×V),(fL f v fs).length<=fs.length+1
 | []=>by simp[fL]
 | (k,x)::r=>by
   have ih:=tq f v r
   rw[show fL f v ((k,x)::r)=(if k=f then (k,v)::r else (k,x)::fL f v r) from rfl]
   by_cases hk:k=f
   . rw[if_pos hk,List.length_cons,List.length_cons];omega
   . rw[if_neg hk,List.length_cons,List.length_cons];omega
theorem pU.some_of {v:V}{o:Option Value}(r:pU (some v) o):∃ u,o=some u/\RelV v u:=by
 cases o with
 | none=>exact(show False from r).elim
 | some u=>exact⟨u,rfl,r⟩
theorem pU.none_of {o:Option Value}(r:pU none o):o=none:=by
 cases o with
 | none=>rfl
 | some u=>exact(show False from r).elim
theorem FC {v:V}{u:Value}(r:RelV v u):W.handedIn u=true:=by
 cases v with
 | c9=>cases (show u=Value.none from r);rfl
 | bl b=>cases (show u=Value.bool b from r);rfl
 | int i=>obtain⟨t,e⟩:=(show ∃ t,u=Value.int i t from r);cases e;rfl
 | str x=>obtain⟨t,e⟩:=(show ∃ t,u=Value.str x t from r);cases e;rfl
 | GN b=>obtain⟨t,e⟩:=(show ∃ t,u=Value.bytes b t from r);cases e;rfl
 | RN b=>obtain⟨t,e⟩:=(show ∃ t,u=Value.float b t from r);cases e;rfl
 | ref a=>cases (show u=Value.ref a from r);rfl
 | ty n=>cases (show u=Value.type n from r);rfl
section
variable {P:Program}{w:World}{H:Hp}{h:Heap}{a C dx:Addr}{fs:List (Str×V)}
theorem yy (bH:qG P w H h)(e:Rd H a (.ins C dx fs)):∃ mA,Co h a dx C mA/\(∀ f,pU (fs.lookup f) (mA f))/\PySem.Within mA (fs.map (·.1))/\fs.length<=1000/\H dx=some (.own a):=by
 obtain⟨d,z,ne,ob,mA,n,r,q⟩:=(show aP P w H h a (.ins C dx fs) from e.ok bH)
 exact⟨mA,⟨ob,n,ne⟩,r,q,z,d⟩
end
structure ue (K:W.Frag)(C:Addr):Prop where
 pg:W.plainGet K C Str.empty=true
 hd:W.hasDictIn K C=true
 po:W.plainOver K C=true
 sa:W.findIn K (.ref C) "__setattr__"=some (some (.builtin "object.__setattr__"))
theorem ue.get {K:W.Frag}{C:Addr}(c:ue K C)(f:Str):W.plainGet K C f=true:=c.pg
noncomputable def bM (K:W.Frag)(C:Addr)(f:Str):Prop:=W.findIn K (.ref C) f=some none
theorem bM.SK {K:W.Frag}{C:Addr}{f:Str}(n:bM K C f):W.takerIn K C f=some none:=by
 unfold W.takerIn
 rw[show W.findIn K (.ref C) f=some none from n]
 rfl
structure Con (K:W.Frag)(C:Addr)(f:Str)(v:V)(u:Value):Prop where
 at_:W.findIn K (.ref C) f=some (some u)
 rel:RelV v u
 get:W.specialIn K u "__get__"=some none
 cp:W.copiedNames.contains f=false
structure Meth (K:W.Frag)(C:Addr)(m:Str)(f:Addr):Prop where
 at_:W.findIn K (.ref C) m=some (some (.ref f))
 fn:W.isFn K (.ref f)=true
 kp:W.keepIn K (.ref f)=true
section
variable {X:Cx}{pins:List (Addr×Obj)}{σ:St}{H:Hp}{s:Shared}{a C dx:Addr}{fs:List (Str×V)}{f:Str}{v:V}{A:Around}{E:Value->Shared->Prop}
theorem Cp {b:Bool}{Q:Value->Shared->Prop}(I:Inv X pins σ H s)(e:Rd H a (.ins C dx fs))(c:ue X.K C)(n:bM X.K C f)(l:fs.lookup f=some v)(h:∀ u s',Inv X pins σ H s'->RelV v u->Q u s'):wpAny (model X.prog X.w) A (getAttr (.ref a) f b) Q E s:=by
 obtain⟨mA,O,r,_,_,_⟩:=yy I.bH e
 obtain⟨u,hu,ru⟩:=pU.some_of (v:=v) (o:=mA f) (by rw[<- l];exact r f)
 exact get_map I.Av O (c.get f) c.hd n hu (FC ru) (h u _ (I.tok _) ru)
theorem uY {m:Str}{g:Addr}{pl:Sem Bool}{Q:Value×List Value->Shared->Prop}(I:Inv X pins σ H s)(e:Rd H a (.ins C dx fs))(c:ue X.K C)(k:Meth X.K C m g)(l:fs.lookup m=none)(h:Q (.ref g,[.ref a]) s):wpAny (model X.prog X.w) A (getMethod (.ref a) m pl) Q E s:=by
 obtain⟨mA,O,r,_,_,_⟩:=yy I.bH e
 have hn:mA m=none:=pU.none_of (by rw[<- l];exact r m)
 exact Hn I.Av O (c.get m) k.at_ k.fn hn h
theorem Cq {y:V}{u:Value}{Q:Unit->Shared->Prop}(I:Inv X pins σ H s)(e:H a=some (.ins C dx fs))(c:ue X.K C)(n:bM X.K C f)(hl:fs.length < 1000)(ry:RelV y u)(h:∀ s',Inv X pins σ (upd H a (.ins C dx (fL f y fs))) s'->Q () s'):wpAny (model X.prog X.w) A (setAttr (.ref a) f u) Q E s:=by
 obtain⟨mA,O,r,wi,_,ho⟩:=yy I.bH (.of e)
 have hz:(fs.map (·.1)).length<=sizeLine:=by rw[List.length_map,sizeLine_eq];omega
 refine Lx I.Av O c.sa c.po n.SK c.hd wi hz fun h' O' sb=>h _ ?_
 have hd:∃ o,h'.get? dx=some o:=let ⟨o,_,_,e',_⟩:=O'.ns;⟨o,e'⟩
 refine I.write (x:=a) (e:=dx) (by rw[e];exact True.intro) (.inr ho) (fun b q hb z=>(sb.2 b hb).trans z) hd ?_
 refine⟨by rw[ag O.ne];exact ho,?_,O.ne,O'.obj,_,O'.ns,fun g=>?_,fun g hg=>?_⟩
 . have:=tq f y fs;omega
 . show pU ((fL f y fs).lookup g) (if g=f then some u else mA g)
   rw[oA]
   by_cases q:g=f
   . rw[if_pos q,if_pos q];exact ry
   . rw[if_neg q,if_neg q];exact r g
 . by_cases q:g=f
   . rw[q];exact(rS f y fs).1
   . refine(rS f y fs).2 g (wi g fun z=>hg ?_)
     show(if g=f then some u else mA g)=none
     rw[if_neg q];exact z
theorem Inv.made (I:Inv X pins σ H s):Inv X pins σ (upd (upd H s.heap.objs.size (.own (s.heap.objs.size+1))) (s.heap.objs.size+1) (.ins C s.heap.objs.size [])) { s with heap:=(s.heap.push W.emptyDict).push (W.instObj C s.heap.objs.size)}:=by
 have e1:(s.heap.push W.emptyDict).get? s.heap.objs.size=some W.emptyDict:=Heap.get?_push_size s.heap rfl
 have e2:((s.heap.push W.emptyDict).push (W.instObj C s.heap.objs.size)).get? (s.heap.objs.size+1)=some (W.instObj C s.heap.objs.size):=by
   have:=Heap.get?_push_size (s.heap.push W.emptyDict) (o:=W.instObj C s.heap.objs.size) rfl
   rwa [Heap.size_push] at this
 have e3:(s.heap.push W.emptyDict).Ns s.heap.objs.size (fun _=>none):=⟨W.emptyDict,#[],_,e1,rfl,(fun e he=>absurd he (by simp)),fun _=>rfl⟩
 have I1:=I.laid (a:=s.heap.objs.size) (o:=.own (s.heap.objs.size+1)) (h':=s.heap.push W.emptyDict) (t':=s.toks) (fun b u q=>Heap.get?_push_of_some _ q) (Nat.le_refl _) ⟨_,e1⟩
 refine I1.laid (a:=s.heap.objs.size+1) (o:=.ins C s.heap.objs.size []) (t':=s.toks) (fun b u q=>Heap.get?_push_of_some _ q) (Nat.le_of_eq (Heap.size_push _ _)) ?_
 have ne:s.heap.objs.size≠s.heap.objs.size+1:=Nat.ne_of_lt (Nat.lt_succ_self _)
 refine⟨by rw[ag ne,ak],Nat.zero_le _,ne,e2,fun _=>none,(Heap.Ns1.of_empty e3).at fun o q=>Heap.get?_push_of_some _ q,fun _=>True.intro,fun y hy=>absurd rfl hy⟩
theorem Ly {prog:Program}{w:World}{env:Env}{e:Expr}{f:Str}{pos:Pos}{s:Shared}{Q:Value->Shared->Prop}(hb:attributeBase e f env (eval e env)=eval e env)(h:wpAny (model prog w) A (eval e env) (fun o s₁=>wpAny (model prog w) A (getAttr o f true) Q E s₁) E s):wpAny (model prog w) A (eval (.Attribute e f pos) env) Q E s:=
 Attribute_any_ h (by rw[arm_eval_Attribute,hb])
end
noncomputable def WA (K:PySem.W.Frag)(ta:TE)(f:Str):TE:=fun σ H Q=>ta σ H fun x H1=>∃ a C dx fs v,x=.ref a/\Rd H1 a (.ins C dx fs)/\ue K C/\bM K C f/\fs.lookup f=some v/\Q v H1
noncomputable def WB (K:PySem.W.Frag)(ta tv:TE)(f:Str):TS:=fun D σ H=>tv σ H fun y H1=>ta σ H1 fun x H2=>∃ a C dx fs,x=.ref a/\H2 a=some (.ins C dx fs)/\ue K C/\bM K C f/\fs.length < 1000 /\
 D.nx σ (upd H2 a (.ins C dx (fL f y fs)))
section
variable {X:Cx}{o e value:Expr}{f:Str}{pos pos':Pos}{ta tv:TE}
theorem uZ (he:PE X e ta)(hb:attributeBase e f X.env (eval e X.env)=eval e X.env):PE X (.Attribute e f pos) (WA X.K ta f):=by
 intro pins s σ H Q I h
 refine Ly hb (b7 (he pins s σ H _ I h) fun u s1 ⟨x,H1,I1,rx,a,C,dx,fs,v,ex,ea,c,n,l,q⟩=>?_)
 subst ex
 obtain rfl:u=Value.ref a:=rx
 exact Cp I1 ea c n l fun u' s2 I2 ru=>⟨v,H1,I2,ru,q⟩
theorem u0 (ha:PE X o ta)(hv:PE X value tv)(hs:swapsWith value (some (.Attribute o f pos')) pos.line X.env=pure false):PS X (.Assign [.Attribute o f pos'] value pos) (WB X.K ta tv f):=by
 intro pins s σ H D I h
 refine plainObj_wpAny_Assign_Attribute (b7 (hv pins s σ H _ I h) fun u s1 ⟨y,H1,I1,ry,q⟩=>b7 (ha pins s1 σ H1 _ I1 q) fun ov s2 ⟨x,H2,I2,rx,a,C,dx,fs,ex,ea,c,n,l,q2⟩=>?_) hs
 subst ex
 obtain rfl:ov=Value.ref a:=rx
 exact Cq I2 ea c n l ry fun s3 I3=>⟨σ,_,I3,q2⟩
end
section
variable {H:Hp}
inductive u5 (K:W.Frag)(H:Hp):V->Value->Prop where
 | c9:u5 K H .c9 (.type "NoneType")
 | bl (x:Bool):u5 K H (.bl x) (.type "bool")
 | int (i:Int):u5 K H (.int i) (.type "int")
 | str (x:Str):u5 K H (.str x) (.type "str")
 | RN (x:UInt64):u5 K H (.RN x) (.type "float")
 | lst {a:Addr} {xs:List V} (e:H a=some (.lst xs)):u5 K H (.ref a) (.type "list")
 | bw {a:Addr} {o:Obj} {xs:List V} (e:H a=some (.bw o (.lst xs))):u5 K H (.ref a) (.type "list")
 | tup {a:Addr} {xs:List V} (e:H a=some (.tup xs)):u5 K H (.ref a) (.type "tuple")
 | dK {a:Addr} {kvs:List (Key×V)} (e:H a=some (.dK kvs)):u5 K H (.ref a) (.type "dict")
 | dT {a:Addr} {kvs:List (List Key×V)} (e:H a=some (.dT kvs)):u5 K H (.ref a) (.type "dict")
 | ins {a C dx:Addr} {fs:List (Str×V)} (e:Rd H a (.ins C dx fs)) (cl:ue K C) (ha:W.findIn K (.ref C) "__class__"=some (some (.builtin "object.__class__")))
     (hn:W.specialIn K (.builtin "object.__class__") "__get__"=some (some (.builtin "getset_descriptor.__get__"))) (Y7:W.takesIn K (.builtin "object.__class__")=some true)
     (hm:W.mroIn K C (.type "object")=some true):u5 K H (.ref a) (.ref C)
end
structure fj (k:Nat)(A:Around):Prop where
 hd:A.handled=none
 dp:A.depth+3 * k+5 < recursionLimit
 un:A.units+16 * k+200 < cLine
theorem fj.mono {j k:Nat}{A:Around}(r:fj k A)(h:j<=k):fj j A:=⟨r.hd,by have:=r.dp;omega,by have:=r.un;omega⟩
theorem fj.deeper {k:Nat}{A:Around}(r:fj (k+1) A)(env:Env):fj k (A.deeper env):=
 ⟨r.hd,by have:=r.dp;show A.depth+1+3 * k+5 < _;omega,by have:=r.un;show A.units+3+16 * k+200 < _;omega⟩
theorem Cr {A:Around}{C:Addr}{us:List Value}{kw:List (Str×Value)}:(A.under (.builtin "type.__call__" ⟨.ref C::us,kw⟩)).depth=A.depth+1:=by
 first | rfl | simp[Around.under,Code.weight,Code.isCreation,Code.isGuard,Code.isCaller,Code.frames,Code.isFrame,guardIds]
theorem Cs {A:Around}{C:Addr}{us:List Value}{kw:List (Str×Value)}:(A.under (.builtin "type.__call__" ⟨.ref C::us,kw⟩)).units=A.units+1:=by
 first | rfl | simp[Around.under,Code.cUnits,Code.frames,Code.isFrame]
theorem fj.make {k:Nat}{A:Around}(r:fj (k+1) A)(C:Addr)(us:List Value)(kw:List (Str×Value)):fj k (A.under (.builtin "type.__call__" ⟨.ref C::us,kw⟩)):=
 ⟨r.hd,by have:=r.dp;rw[Cr];omega,by have:=r.un;rw[Cs];omega⟩
theorem fj.depth {k:Nat}{A:Around}(r:fj k A):A.depth < recursionLimit:=by have:=r.dp;omega
theorem fj.units {k:Nat}{A:Around}(r:fj k A):A.units+64 < cLine:=by have:=r.un;omega
noncomputable def SM:TA:=fun _ H Q=>Q [] H
noncomputable def SN (ta:TE)(tr:TA):TA:=fun σ H Q=>ta σ H fun x H1=>tr σ H1 fun xs H2=>Q (x::xs) H2
section
variable {X:Cx}{e:Expr}{es:List Expr}{te:TE}{t:TA}{pos:Pos}
theorem oB:PA X [] SM:=fun _ _ _ _ H Q I h=>Calls.spliced_nil ⟨[],H,I,.nil,h⟩
theorem lY (ha:PE X e te)(hr:PA X es t)(hs:starEach (e::es) X.env=(false,eval e X.env)::starEach es X.env:=by rfl):PA X (e::es) (SN te t):=by
 intro pos pins s σ H Q I h
 rw[hs]
 show wpAny _ _ (spliced ((false,eval e X.env)::backTo pos (starEach es X.env))) _ _ s
 refine Calls.spliced_cons (b7 (ha pins s σ H _ I h) fun u s1 ⟨x,H1,I1,r1,q1⟩=>?_)
 exact b7 (hr pos pins s1 σ H1 _ I1 q1) fun us s2 ⟨xs,H2,I2,r2,q2⟩=>⟨x::xs,H2,I2,.cons r1 r2,q2⟩
noncomputable def WC (t:TA):TE:=fun σ H Q=>t σ H fun xs H1=>xs.length<=sizeLine/\∀ p,H1 p=none->Q (.ref p) (upd H1 p (.tup xs))
noncomputable def WD (t:TA):TE:=fun σ H Q=>t σ H fun xs H1=>xs.length<=sizeLine/\∀ p,H1 p=none->Q (.ref p) (upd H1 p (.lst xs))
theorem Pd {x1}(h:PA X es t):PE X (.Tuple es x1 pos) (WC t):=by
 intro pins s σ H Q I hq
 refine wpAny_Tuple_spliced (b7 (h pos pins s σ H _ I hq) fun us s1 ⟨xs,H1,I1,r,z,q⟩=>⟨by rw[<- r.length];exact z,?_⟩)
 have hf:H1 s1.heap.objs.size=none:=I1.bH.fresh (Nat.le_refl _)
 refine⟨.ref s1.heap.objs.size,upd H1 s1.heap.objs.size (.tup xs),I1.laid (t':=s1.toks) (fun b u e=>Heap.get?_push_of_some _ e) (Nat.le_refl _) ?_,rfl,q _ hf⟩
 exact⟨z,us,r,⟨_,Heap.get?_push_size _ rfl,rfl,_,rfl⟩⟩
theorem u6 (h:PA X es t):PE X (.List es pos) (WD t):=by
 intro pins s σ H Q I hq
 refine wpAny_List_spliced (b7 (h pos pins s σ H _ I hq) fun us s1 ⟨xs,H1,I1,r,z,q⟩=>⟨by rw[<- r.length];exact z,?_⟩)
 have hf:H1 s1.heap.objs.size=none:=I1.bH.fresh (Nat.le_refl _)
 refine⟨.ref s1.heap.objs.size,upd H1 s1.heap.objs.size (.lst xs),I1.laid (t':=s1.toks) (fun b u e=>Heap.get?_push_of_some _ e) (Nat.le_refl _) ?_,rfl,q _ hf⟩
 exact⟨z,us,0,r,Heap.get?_push_size _ rfl⟩
end
noncomputable abbrev Sp:=List V->Hp->VK->XK->Prop
noncomputable abbrev rT:=List Env->Hp->Shared->XK->Value->Shared->Prop
structure AF (P:Program)(w:World)(K:W.Frag)(mg:Str->Option Value)(base:Heap)(A:Around)(outer:List Env)(s:Shared)(H:Hp):Prop where
 frames:A.frames=some outer
 mod:Mod K mg base
 bs:∀ b o,base.get? b=some o->s.heap.get? b=some o/\H b=none
 DK:base.objs.size<=s.heap.objs.size
 rL:s.heap.FunFrames base outer
 NM:∀ b∈G6 outer,H b=none
 bH:qG P w H s.heap
 bare:AllBare s.gens
noncomputable def CE (outer:List Env)(P:Program)(w:World)(H:Hp)(s:Shared)(Q:VK)(u:Value)(s':Shared):Prop:=
 ∃ v H',s'.os=s.os/\AllBare s'.gens/\Un (G6 outer) [] H H' s.heap s'.heap/\qG P w H' s'.heap/\RelV v u/\Q v H'
noncomputable def CR (CX:rT)(outer:List Env)(P:Program)(w:World)(H:Hp)(s:Shared)(Q:VK)(E:XK)(r:Result)(s':Shared):Prop:=
 match r with
 | .ok (.ret u)=>CE outer P w H s Q u s'
 | .ok _=>False
 | .error e=>CX outer H s E e s'
structure ke (P:Program)(w:World)(K:W.Frag)(mg:Str->Option Value)(base:Heap)(CX:rT)(k:Nat)(f:Addr)(fd:FuncData)(ps:List Str)(sp:Sp):Prop where
 len:∀ vs H Q E,sp vs H Q E->vs.length=ps.length
 run:∀ (A:Around) (outer:List Env) (s:Shared) (H:Hp) (args:Args) (us:List Value) (vs:List V) (Q:VK) (E:XK),fj k A->AF P w K mg base A outer s H->BindsTo s fd args (ps.zip us)->Vals vs us->sp vs H Q E ->
   codeAny (model P w) A (.call (.ref f) args) (CR CX outer P w H s Q E) s
theorem AF.make {P:Program}{w:World}{K:W.Frag}{mg:Str->Option Value}{base:Heap}{A:Around}{outer:List Env}{s:Shared}{H:Hp}(e:AF P w K mg base A outer s H)(C:Addr)(us:List Value)(kw:List (Str×Value)):AF P w K mg base (A.under (.builtin "type.__call__" ⟨.ref C::us,kw⟩)) outer s H:=⟨by first | exact e.frames | (simpa [Around.under,Code.envs,Code.isFrame,pushEnvs] using e.frames),e.mod,e.bs,e.DK,e.rL,e.NM,e.bH,e.bare⟩
section
variable {X:Cx}{pins:List (Addr×Obj)}{σ:St}{H:Hp}{s s':Shared}
theorem Inv.SO (I:Inv X pins σ H s):AF X.prog X.w X.K X.mg X.base X.A X.stack s H:=
 ⟨I.ok.frames,I.ok.mod,I.bs,Nat.le_trans I.ok.DK I.sz,I.stack,I.uc,I.bH,I.bare⟩
theorem Inv.after {Q:VK}{u:Value}(I:Inv X pins σ H s)(h:CE X.stack X.prog X.w H s Q u s'):EP X pins σ Q u s':=by
 obtain⟨v,H',os,bare,un,bH,r,q⟩:=h
 obtain⟨hh,g,d,t,WE⟩:=s'
 obtain rfl:WE=s.os:=os
 exact⟨v,H',I.call (h':=hh) (g':=g) (d':=d) (t':=t) (ch:=[]) un bH bare (fun b z=>absurd z (by simp)),r,q⟩
end
noncomputable def SQ (sp:Sp)(dvs:List V)(E:XK)(t:TA):TE:=fun σ H Q=>t σ H fun vs H1=>sp (vs ++ dvs) H1 Q E
noncomputable def NT (C:Addr)(m:Str)(sp:Sp)(dvs:List V)(E:XK)(ta:TE)(t:TA):TE:=fun σ H Q=>ta σ H fun x H1=>∃ a dx fs,x=.ref a/\Rd H1 a (.ins C dx fs)/\fs.lookup m=none /\
 t σ H1 fun vs H2=>sp (x::(vs ++ dvs)) H2 Q E
noncomputable def SR (C:Addr)(sp:Sp)(dvs:List V)(E:XK)(t:TA):TE:=fun σ H Q=>t σ H fun vs H1=>∀ x dx,H1 x=none->H1 dx=none->dx≠x ->
 sp (.ref x::(vs ++ dvs)) (upd (upd H1 dx (.own x)) x (.ins C dx [])) (fun v H2=>v=.c9/\Q (.ref x) H2) E
noncomputable def Binds (K:PySem.W.Frag)(fd:FuncData)(ps:List Str)(ds:List Value):Prop:=
 ∀ (s:Shared) (us:List Value),K.In s.heap->(us ++ ds).length=ps.length->BindsTo s fd ⟨us,[]⟩ (ps.zip (us ++ ds))
theorem Binds.all {K:W.Frag}{fd:FuncData}{ps:List Str}(h:∀ us:List Value,us.length=ps.length->bindArgs fd ⟨us,[]⟩=pure (ps.zip us)):Binds K fd ps []:=fun s us _ hl=>by
 rw[List.append_nil] at hl ⊢
 exact .of_eq (h us hl)
noncomputable def Passes (CX:rT)(X:Cx)(E:XK):Prop:=∀ (pins:List (Addr×Obj)) (σ:St) (H:Hp) (s:Shared) (e:Value) (s':Shared),Inv X pins σ H s->CX X.stack H s E e s'->X.xe e s'
section
variable {X:Cx}{CX:rT}{k:Nat}{f C:Addr}{fd:FuncData}{ps:List Str}{sp:Sp}{dvs:List V}{ds:List Value}{E:XK}{x m:Str}{p pos apos:Pos}{e o:Expr}{es:List Expr}{ta:TE}{t:TA}
theorem Ct {pins:List (Addr×Obj)}{σ:St}{H:Hp}{s:Shared}{Q:VK}{us:List Value}{vs:List V}(F:ke X.prog X.w X.K X.mg X.base CX k f fd ps sp)(hr:fj k X.A)(hb:Binds X.K fd ps ds)(hd:Vals dvs ds)(hx:Passes CX X E)(I:Inv X pins σ H s)(r:Vals vs us)(h:sp (vs ++ dvs) H Q E):wpAny (model X.prog X.w) X.A (call (.ref f) us) (EP X pins σ Q) X.xe s:=by
 have r2:Vals (vs ++ dvs) (us ++ ds):=r.append hd
 have hl:(us ++ ds).length=ps.length:=by rw[<- r2.length];exact F.len _ _ _ _ h
 refine wpAny_call (codeAny_mono (F.run X.A X.stack s H ⟨us,[]⟩ (us ++ ds) (vs ++ dvs) Q E hr I.SO (hb s us I.Av hl) r2 h) fun r s' hq=>?_)
 cases r with
 | error e=>exact hx pins σ H s e s' I hq
 | ok fl=>
   cases fl with
   | ret u=>exact I.after hq
   | next=>exact False.elim hq
   | brk=>exact False.elim hq
   | cont=>exact False.elim hq
theorem DP (F:ke X.prog X.w X.K X.mg X.base CX k f fd ps sp)(hr:fj k X.A)(hg:Gl X x)(hm:X.mg x=some (.ref f))(hk:W.keepIn X.K (.ref f)=true)(hb:Binds X.K fd ps ds)(hd:Vals dvs ds)(hx:Passes CX X E)(ha:PA X (e::es) t)(mR:(x == ("__debug__":Str))=false:=by decide)(he:starEach (e::es) X.env=(false,eval e X.env)::starEach es X.env:=by rfl)(pW:(backTo pos (starEach es X.env)).any (·.1)=false:=by rfl):PE X (.Call (.Name x p) (e::es) [] pos) (SQ sp dvs E t):=by
 intro pins s σ H Q I h
 refine wpAny_Call_Name_kw (ud I hg hm ?_ mR)
 refine W.callWith_K (h₀:=X.base) I.ok.mod.Sf hk (b7 (ha pos pins s σ H _ I h) fun us s1 ⟨vs,H1,I1,r,q⟩=>⟨I1.Av,?_⟩) he pW
 exact Ct F hr hb hd hx I1 r q
theorem DQ {pl:Sem Bool}(he:PE X o ta)(c:ue X.K C)(hm:Meth X.K C m f)(F:ke X.prog X.w X.K X.mg X.base CX k f fd ps sp)(hr:fj k X.A)(hb:Binds X.K fd ps ds)(hd:Vals dvs ds)(hx:Passes CX X E)(ha:PA X (e::es) t)
   (qm:starEach (e::es) X.env=(false,eval e X.env)::starEach es X.env:=by rfl) (pW:(backTo pos (starEach es X.env)).any (·.1)=false:=by rfl)
   (ht:eval (.Call (.Attribute o m apos) (e::es) [] pos) X.env=(do
     let ov <- eval o X.env
     standAt apos.atName
     let (f,first) <- holding [ov] (getMethod ov m pl)
     callWith pos f first (backTo pos (starEach (e::es) X.env)) (backToKw pos (keywordEach [] X.env))):=by rfl) :
   PE X (.Call (.Attribute o m apos) (e::es) [] pos) (NT C m sp dvs E ta t):=by
 intro pins s σ H Q I h
 refine W.methodCall_KW (pl:=pl) (b7 (he pins s σ H _ I h) fun u s1 ⟨x,H1,I1,rx,a,dx,fs,ex,ea,l,q⟩=>?_) ht
 subst ex
 obtain rfl:u=Value.ref a:=rx
 refine uY I1 ea c hm l ?_
 refine W.callWith_K (first:=[.ref a]) (h₀:=X.base) I.ok.mod.Sf hm.kp (b7 (ha pos pins s1 σ H1 _ I1 q) fun us s2 ⟨vs,H2,I2,r,q2⟩=>⟨I2.Av,?_⟩) qm pW
 exact Ct (us:=.ref a::us) (vs:=.ref a::vs) F hr hb hd hx I2 (.cons rfl r) q2
theorem Hq {pl:Sem Bool}(he:PE X o ta)(c:ue X.K C)(hm:Meth X.K C m f)(F:ke X.prog X.w X.K X.mg X.base CX k f fd ps sp)(hr:fj k X.A)(hb:Binds X.K fd ps ds)(hd:Vals dvs ds)(hx:Passes CX X E)
   (ht:eval (.Call (.Attribute o m apos) [] [] pos) X.env=(do
     let ov <- eval o X.env
     standAt apos.atName
     let (f,first) <- holding [ov] (getMethod ov m pl)
     callWith pos f first (backTo pos (starEach [] X.env)) (backToKw pos (keywordEach [] X.env))):=by rfl) :
   PE X (.Call (.Attribute o m apos) [] [] pos) (NT C m sp dvs E ta SM):=by
 intro pins s σ H Q I h
 refine W.methodCall_KW (pl:=pl) (b7 (he pins s σ H _ I h) fun u s1 ⟨x,H1,I1,rx,a,dx,fs,ex,ea,l,q⟩=>?_) ht
 subst ex
 obtain rfl:u=Value.ref a:=rx
 refine uY I1 ea c hm l ?_
 exact W.callWith_K0 (first:=[.ref a]) I1.Av hm.kp (Ct (us:=[.ref a]) (vs:=[.ref a]) F hr hb hd hx I1 (.cons rfl .nil) q)
structure Mk (K:W.Frag)(C f:Addr):Prop where
 makes:W.makesIn K C=true
 init:W.findIn K (.ref C) "__init__"=some (some (.ref f))
 fn:W.isFn K (.ref f)=true
 kp:W.keepIn K (.ref C)=true
theorem Hr {pins:List (Addr×Obj)}{σ:St}{H:Hp}{s:Shared}{Q:VK}{us:List Value}{vs:List V}(M:Mk X.K C f)(F:ke X.prog X.w X.K X.mg X.base CX k f fd ps sp)(hr:fj (k+1) X.A)(hb:Binds X.K fd ps ds)(hd:Vals dvs ds)(hx:Passes CX X E)(I:Inv X pins σ H s)(r:Vals vs us)(h:∀ x dx,H x=none->H dx=none->dx≠x->sp (.ref x::(vs ++ dvs)) (upd (upd H dx (.own x)) x (.ins C dx [])) (fun v H2=>v=.c9/\Q (.ref x) H2) E):wpAny (model X.prog X.w) X.A (call (.ref C) us) (EP X pins σ Q) X.xe s:=by
 have hq:=h (s.heap.objs.size+1) s.heap.objs.size (I.bH.fresh (Nat.le_succ _)) (I.bH.fresh (Nat.le_refl _)) (Nat.ne_of_lt (Nat.lt_succ_self _))
 have I2:=Inv.made (C:=C) I
 have r2:Vals (V.ref (s.heap.objs.size+1)::(vs ++ dvs)) (Value.ref (s.heap.objs.size+1)::(us ++ ds)):=.cons rfl (r.append hd)
 have hl:(Value.ref (s.heap.objs.size+1)::us ++ ds).length=ps.length:=by
   have e:=r2.length
   rw[F.len _ _ _ _ hq] at e
   exact e.symm
 refine wpAny_call (Ho (f:=f) I.Av M.makes M.init (beq_iff_eq.mp M.fn) (codeAny_mono (F.run _ X.stack _ _ ⟨Value.ref (s.heap.objs.size+1)::us,[]⟩ (Value.ref (s.heap.objs.size+1)::(us ++ ds)) _ _ E (hr.make C us [])
   (I2.SO.make C us []) (hb _ (Value.ref (s.heap.objs.size+1)::us) I2.Av hl) r2 hq) fun r s' Pe=>?_))
 cases r with
 | error e=>exact hx pins σ _ _ e s' I2 Pe
 | ok fl=>
   cases fl with
   | ret u=>
     obtain⟨v,H',I3,rv,ev,q3⟩:=I2.after Pe
     subst ev
     exact⟨rv,⟨V.ref (s.heap.objs.size+1),H',I3,rfl,q3⟩⟩
   | next=>exact False.elim Pe
   | brk=>exact False.elim Pe
   | cont=>exact False.elim Pe
theorem DR (M:Mk X.K C f)(F:ke X.prog X.w X.K X.mg X.base CX k f fd ps sp)(hr:fj (k+1) X.A)(hg:Gl X x)(hm:X.mg x=some (.ref C))(hb:Binds X.K fd ps ds)(hd:Vals dvs ds)(hx:Passes CX X E)(ha:PA X (e::es) t)(mR:(x == ("__debug__":Str))=false:=by decide)(he:starEach (e::es) X.env=(false,eval e X.env)::starEach es X.env:=by rfl)(pW:(backTo pos (starEach es X.env)).any (·.1)=false:=by rfl):PE X (.Call (.Name x p) (e::es) [] pos) (SR C sp dvs E t):=by
 intro pins s σ H Q I h
 refine wpAny_Call_Name_kw (ud I hg hm ?_ mR)
 refine W.callWith_K (h₀:=X.base) I.ok.mod.Sf M.kp (b7 (ha pos pins s σ H _ I h) fun us s1 ⟨vs,H1,I1,r,q⟩=>⟨I1.Av,?_⟩) he pW
 exact Hr M F hr hb hd hx I1 r q
end
section
variable {fd:FuncData}{ps ks:List Str}
structure WG (K:W.Frag)(fd:FuncData)(ps ks:List Str)(g:List Value->List Value->List Value)(gV:List V->List V->List V):Prop where
 to:∀ (s:Shared) (us ws:List Value),K.In s.heap->(g us ws).length=ps.length->BindsTo s fd ⟨us,ks.zip ws⟩ (ps.zip (g us ws))
 rel:∀ {vs:List V} {us:List Value} {zs:List V} {ws:List Value},Vals vs us->Vals zs ws->Vals (gV vs zs) (g us ws)
end
structure aq (N P:List Str)(sc:Scope):Prop where
 kind:sc.kind=.function
 co:sc.isCoroutine=false
 gen:sc.isGenerator=false
 nd:N.Nodup
 pre:N.take P.length=P
 par:∀ x∈P,sc.names.lookup x=some .local\/sc.names.lookup x=some .cell
 Pg:∀ y∈sc.names,y.2≠.free
theorem xH {kindOf:Str->Option NameKind}{x:Str}:∀ {binds:List (Str×Value)} {m:Str->Option Value},(∀ v,(x,v) ∉ binds)->bindL kindOf binds m x=m x
 | [],_,_=>rfl
 | (n,v)::r,m,h=>by
   unfold bindL
   rw[xH fun w hw=>h w (List.mem_cons_of_mem _ hw)]
   split
   . have:x≠n:=by rintro rfl;exact h v List.mem_cons_self
     simp[this]
   . rfl
theorem xI {kindOf:Str->Option NameKind}{x:Str}:∀ {binds:List (Str×Value)} {m:Str->Option Value},(∀ v,(x,v) ∉ binds)->bindC kindOf binds m x=m x
 | [],_,_=>rfl
 | (n,v)::r,m,h=>by
   unfold bindC
   rw[xI fun w hw=>h w (List.mem_cons_of_mem _ hw)]
   split
   . rfl
   . have:x≠n:=by rintro rfl;exact h v List.mem_cons_self
     simp[this]
theorem xJ {kindOf:Str->Option NameKind}{x:Str}{v:Value}:∀ {P:List Str} {vs:List Value} {i:Nat} {m:Str->Option Value},P.Nodup->P[i]?=some x->vs[i]?=some v->kindOf x=some .local->bindL kindOf (P.zip vs) m x=some v
 | [],_,_,_,_,h,_,_=>by simp at h
 | _::_,[],_,_,_,_,h,_=>by simp at h
 | p::P,w::vs,0,m,nd,h1,h2,hk=>by
   simp at h1 h2;subst h1;subst h2
   show bindL kindOf ((p,w)::P.zip vs) m p=_
   unfold bindL
   rw[xH fun v hv=>(List.nodup_cons.mp nd).1 (List.of_mem_zip hv).1,if_pos hk]
   simp
 | p::P,w::vs,i+1,m,nd,h1,h2,hk=>by
   show bindL kindOf ((p,w)::P.zip vs) m x=_
   unfold bindL
   exact xJ (i:=i) (List.nodup_cons.mp nd).2 (by simpa using h1) (by simpa using h2) hk
theorem xK {kindOf:Str->Option NameKind}{x:Str}{v:Value}:∀ {P:List Str} {vs:List Value} {i:Nat} {m:Str->Option Value},P.Nodup->P[i]?=some x->vs[i]?=some v->kindOf x≠some .local->bindC kindOf (P.zip vs) m x=some v
 | [],_,_,_,_,h,_,_=>by simp at h
 | _::_,[],_,_,_,_,h,_=>by simp at h
 | p::P,w::vs,0,m,nd,h1,h2,hk=>by
   simp at h1 h2;subst h1;subst h2
   show bindC kindOf ((p,w)::P.zip vs) m p=_
   unfold bindC
   rw[xI fun v hv=>(List.nodup_cons.mp nd).1 (List.of_mem_zip hv).1,if_neg hk]
   simp
 | p::P,w::vs,i+1,m,nd,h1,h2,hk=>by
   show bindC kindOf ((p,w)::P.zip vs) m x=_
   unfold bindC
   exact xK (i:=i) (List.nodup_cons.mp nd).2 (by simpa using h1) (by simpa using h2) hk
noncomputable def start (N:List Str)(vs:List V):St:=vs.map some ++ List.replicate (N.length - vs.length) none
noncomputable def AG (CX:rT)(P:Program)(w:World)(K:W.Frag)(mg:Str->Option Value)(base:Heap)(N:List Str)(qual:Str)(scope:Scope)(f:Addr)(cd:Value)(A:Around)(outer:List Env)(s:Shared)(H:Hp)(E:XK):Cx where
 prog:=P
 w:=w
 K:=K
 mg:=mg
 base:=base
 A:=A.deeper (envOfC qual scope s.heap.objs.size f cd)
 N:=N
 s₀:=s
 H₀:=H
 env:=envOfC qual scope s.heap.objs.size f cd
 outer:=outer
 stack:=envOfC qual scope s.heap.objs.size f cd::outer
 ex:=[]
 calm:=true
 fn:=fun _=>true
 pn:=[]
 xe:=fun e s'=>wpAny (model P w) (A.deeper (envOfC qual scope s.heap.objs.size f cd)) (leaving (envOfC qual scope s.heap.objs.size f cd) e) (fun _ Ph=>CX outer H s E e Ph) (fun e' Ph=>CX outer H s E e' Ph) s'
theorem AH {sc:Scope}{n:Nat}{x:Str}(h:sc.names.lookup x=some .cell):∃ c,(cellsFrom n sc.names []).lookup x=some c:=by
 have q:=W.cellsFrom_some sc.names n [] (.inl h)
 exact Option.isSome_iff_exists.mp q
theorem FE {CX:rT}{P:Program}{w:World}{K:W.Frag}{mg:Str->Option Value}{base:Heap}{N ps:List Str}{qual:Str}{scope:Scope}{f:Addr}{cd:Value}{A:Around}{outer:List Env}{s s1:Shared}{H:Hp}{E:XK}{us:List Value}{vs:List V}(S:aq N ps scope)(hd:A.handled=none)(e0:AF P w K mg base A outer s H)(hl:vs.length=ps.length)(r:Vals vs us)(x:InCallC s s.heap.objs.size (bindL (envOfC qual scope s.heap.objs.size f cd).kindOf (ps.zip us) fun _=>none) (cellsFrom (s.heap.objs.size+1) scope.names []) (bindC (envOfC qual scope s.heap.objs.size f cd).kindOf (ps.zip us) fun _=>none) s1):Inv (AG CX P w K mg base N qual scope f cd A outer s H E) [] (start N vs) H s1:=by
 have pW:ps.length<=N.length:=by have:=congrArg List.length S.pre;rw[List.length_take] at this;omega
 obtain⟨h1,tk,rfl,hk⟩:=x.done
 have SS:∀ b:Addr,b ∉ (AG CX P w K mg base N qual scope f cd A outer s H E).ex:=fun b z=>absurd (show b∈([]:List Addr) from z) (by simp)
 refine⟨⟨e0.mod,S.kind,rfl,rfl,Nat.le_refl _,fun y z c h1 h2=>?_,fun y hy=>?_,fun y c _ h=>?_,fun _=>hd,Around.frames_deeper e0.frames,.inr ⟨rfl,rfl⟩,fun b z=>absurd z (SS b),e0.bs,e0.DK,fun b _ _=>SS b,fun b z=>absurd z (SS b),e0.rL,e0.NM⟩,
   rfl,e0.bare,Un.kept hk,⟨_,x.toInCall.ns,fun i y v h1 h2 h3=>?_⟩,fun y c h=>⟨_,x.cell y c h⟩,e0.bH.fresh (Nat.le_refl _),fun y c h=>?_,fun p hp=>absurd (show p∈([]:List (Addr×Obj)) from hp) (by simp),e0.bH.kept hk,?_⟩
 . exact name_of_addr x.apart (PySem.mem_of_lookup h1) (PySem.mem_of_lookup h2)
 . have hy:scope.names.lookup y=some .cell\/scope.names.lookup y=some .free:=hy
   rcases hy with hy | hy
   . exact AH hy
   . exact absurd rfl (S.Pg _ (PySem.mem_of_lookup hy))
 . exact Nat.le_of_lt (x.above y c (PySem.mem_of_lookup h))
 . have hi:i < vs.length:=by
     unfold start at h2
     by_cases hi:i < vs.length
     . exact hi
     . rw[List.getElem?_append_right (by simpa using hi)] at h2
       rw[List.getElem?_replicate] at h2
       split at h2 <;> cases h2
   have ha:vs[i]?=some v:=by
     unfold start at h2
     rw[List.getElem?_append_left (by simpa using hi),List.getElem?_map] at h2
     cases e:vs[i]? with
     | none=>rw[e] at h2;cases h2
     | some a=>rw[e] at h2;cases h2;rfl
   obtain⟨u,hu,rv⟩:=r.get ha
   have hp:ps[i]?=some y:=by
     rw[<- S.pre,List.getElem?_take_of_lt (by omega)];exact h1
   have Y8:ps.Nodup:=by rw[<- S.pre];exact S.nd.sublist (List.take_sublist _ _)
   refine⟨u,rv,?_⟩
   rcases S.par y (List.mem_of_getElem? hp) with k | k
   . exact .inl ⟨k,xJ Y8 hp hu k⟩
   . obtain⟨c,e⟩:=AH (n:=s.heap.objs.size+1) k
     refine .inr ⟨.inl k,c,e,?_⟩
     have q:=x.cell y c e
     rw[xK Y8 hp hu (by show scope.names.lookup y≠_;rw[k];decide)] at q
     exact q
 . exact e0.bH.fresh (Nat.le_of_lt (x.above y c (PySem.mem_of_lookup h)))
 . unfold start
   show _=N.length
   rw[List.length_append,List.length_map,List.length_replicate]
   omega
theorem Hs {CX:rT}{P:Program}{w:World}{K:W.Frag}{mg:Str->Option Value}{base:Heap}{k:Nat}{f:Addr}{name qual:Str}{params:Arguments}{body:List Stmt}{scope:Scope}{dV kV doc pm bf ct oc:Value}{an od:Option Addr}{xM:Array (Option Value)}{N ps:List Str}{sp:Sp}(lk:K.lookup f=some ⟨oc,od,.func (W.fnOf name qual params body scope dV kV doc pm an bf ct),xM⟩)(my:W.codeIn K bf qual=true)(S:aq N ps scope)(len:∀ vs H Q E,sp vs H Q E->vs.length=ps.length)(qK:∀ (A:Around) (outer:List Env) (s:Shared) (H:Hp) (vs:List V) (Q:VK) (E:XK),fj k (A.deeper (envOfC qual scope s.heap.objs.size f bf))->sp vs H Q E->∃ t,Ci (AG CX P w K mg base N qual scope f bf A outer s H E) body t/\t { nx:=fun _ H'=>Q .c9 H',rt:=Q} (start N vs) H):ke P w K mg base CX (k+1) f (W.fnOf name qual params body scope dV kV doc pm an bf ct) ps sp:=by
 refine⟨len,fun A outer s H args us vs Q E hr e0 hb r NU=>?_⟩
 have hl:=len _ _ _ _ NU
 have KX:K.In s.heap:=e0.mod.Sf.keeps fun b o e=>(e0.bs b o e).1
 have lim:s.heap.NoLimit:=e0.mod.nolimit.keeps fun b o e=>(e0.bs b o e).1
 have SU:∀ y∈ps.zip us,scope.names.lookup y.1=some .local\/(scope.names.lookup y.1=some .cell/\((cellsFrom (s.heap.objs.size+1) scope.names []).lookup y.1).isSome=true):=fun⟨n,v⟩ hy=>by
   rcases S.par n (List.of_mem_zip hy).1 with q | q
   . exact .inl q
   . exact .inr ⟨q,W.cellsFrom_some _ _ _ (.inl q)⟩
 refine codeAny_call_function hr.depth (KX _ _ lk) rfl S.co S.gen rfl (W.codeRec_of KX my) (hb _ _ _ _ ?_)
 refine wpAny_newFunctionEnv_cells S.kind SU fun env he s1 x=>?_
 subst he
 refine⟨lim.keeps x.toInCall.keep,codeAny_func ?_⟩
 obtain⟨t,ht,hq⟩:=qK A outer s H vs Q E (hr.deeper _) NU
 have I:Inv (AG CX P w K mg base N qual scope f bf A outer s H E) [] (start N vs) H s1:=FE S hr.hd e0 hl r x
 refine wpAny_mono (ht [] s1 (start N vs) H _ I hq) (fun fl s' hs=>?_) fun e s' hs=>hs
 have fin:∀ {σ':St} {H':Hp} {v:V} {u:Value},Inv (AG CX P w K mg base N qual scope f bf A outer s H E) [] σ' H' s'->RelV v u->Q v H'->CE outer P w H s Q u s':=
   fun {σ' H' v u} J rv q=>⟨v,H',J.os,J.bare,J.base,J.bH,rv,q⟩
 cases fl with
 | ret u=>
   obtain⟨v,σ',H',J,rv,q⟩:=hs
   exact fin J rv q
 | next=>
   obtain⟨σ',H',J,q⟩:=hs
   exact fin (v:=V.c9) (u:=Value.none) J rfl q
 | brk=>
   obtain⟨_,_,_,q⟩:=hs
   exact False.elim q
 | cont=>
   obtain⟨_,_,_,q⟩:=hs
   exact False.elim q
section
variable {X:Cx}{x:Str}{p pos:Pos}{e:Expr}{es:List Expr}{t:TA}{id T:String}{r:List V->Hp->VK->Prop}
noncomputable def Y9 (r:List V->Hp->VK->Prop)(t:TA):TE:=fun σ H Q=>t σ H fun vs H1=>r vs H1 Q
theorem i8 (hc:lE X (.builtin id) r)(hg:Gl X x)(hm:X.mg x=none)(hv:bootBuiltins x=some (.builtin id))(ha:PA X (e::es) t)(hn:x≠"__name__":=by decide)(mR:(x == ("__debug__":Str))=false:=by decide)(he:starEach (e::es) X.env=(false,eval e X.env)::starEach es X.env:=by rfl)(pW:(backTo pos (starEach es X.env)).any (·.1)=false:=by rfl):PE X (.Call (.Name x p) (e::es) [] pos) (Y9 r t):=by
 intro pins s σ H Q I h
 refine wpAny_Call_Name_kw (rN I hg hm hv ?_ hn mR)
 exact PyProof.Rows.callWith_builtin1 (b7 (ha pos pins s σ H _ I h) fun us s1 ⟨vs,H1,I1,r1,q1⟩=>hc pins s1 σ H1 vs us Q I1 r1 q1) he pW
theorem mB (hc:lE X (.type T) r)(hg:Gl X x)(hm:X.mg x=none)(hv:bootBuiltins x=some (.type T))(ha:PA X (e::es) t)(hn:x≠"__name__":=by decide)(mR:(x == ("__debug__":Str))=false:=by decide)(he:starEach (e::es) X.env=(false,eval e X.env)::starEach es X.env:=by rfl)(pW:(backTo pos (starEach es X.env)).any (·.1)=false:=by rfl):PE X (.Call (.Name x p) (e::es) [] pos) (Y9 r t):=by
 intro pins s σ H Q I h
 refine wpAny_Call_Name_kw (rN I hg hm hv ?_ hn mR)
 exact PyProof.Rows.callWith_type1 (b7 (ha pos pins s σ H _ I h) fun us s1 ⟨vs,H1,I1,r1,q1⟩=>hc pins s1 σ H1 vs us Q I1 r1 q1) he pW
end
end L2
namespace HT
open PySem PyProof.Rows
section
noncomputable def AI (n d:Nat):Option Int->Nat
 | none=>d
 | some v=>if v < 0 then (v+(n:Int)).toNat else min v.toNat n
theorem Ht (n d:Nat):AI n d none=d:=rfl
theorem Lz (n d k:Nat):AI n d (some (k:Int))=min k n:=by
 show(if (k:Int) < 0 then ((k:Int)+(n:Int)).toNat else min (k:Int).toNat n)=min k n
 rw[if_neg (by omega),Int.toNat_natCast]
end
end HT
namespace L2
open PySem PySem.Spec PyProof.Rows
noncomputable abbrev TO:=St->Hp->(Option Int->Hp->Prop)->Prop
noncomputable def PO (X:Cx)(e:Option Expr)(t:TO):Prop:=
 ∀ (pins:List (Addr×Obj)) (s:Shared) (σ:St) (H:Hp) (Q:Option Int->Hp->Prop),Inv X pins σ H s->t σ H Q ->
   wpAny (model X.prog X.w) X.A (evalPart e X.env) (fun u s'=>∃ o H',Inv X pins σ H' s'/\IsPart u o/\Q o H') X.xe s
noncomputable def LA:TO:=fun _ H Q=>Q none H
noncomputable def SV (t:TE):TO:=fun σ H Q=>t σ H fun x H1=>∃ i,x=.int i/\Q (some i) H1
section
variable {X:Cx}{e:Expr}{te:TE}{lo hi:Option Expr}{tl th:TO}{pos p2:Pos}
theorem DS:PO X none LA:=by
 intro pins s σ H Q I h
 rw[evalPart_none]
 exact wpAny_pure ⟨none,H,I,.none,h⟩
theorem DT (h:PE X e te):PO X (some e) (SV te):=by
 intro pins s σ H Q I hw
 rw[evalPart_some]
 refine b7 (h pins s σ H _ I hw) fun u s1 ⟨x,H1,I1,r1,q1⟩=>?_
 obtain⟨i,rfl,q⟩:=q1
 obtain⟨t,rfl⟩:=r1
 exact⟨some i,H1,I1,.int i t,q⟩
noncomputable def WH (X:Cx)(r:V->Option Int->Option Int->Hp->VK->Prop):Prop:=
 ∀ (pins:List (Addr×Obj)) (s:Shared) (σ:St) (H:Hp) (x:V) (v vl vu:Value) (lo hi:Option Int) (sl:Addr) (Q:VK),Inv X pins σ H s->RelV x v->s.heap.IsSliceOf sl vl vu .none->IsPart vl lo->IsPart vu hi->r x lo hi H Q ->
   ∃ T id,typeLookup (.type T) "__getitem__"=pure (some (.builtin id))/\s.TypeIs v T/\wpAny (model X.prog X.w) X.A (getItem v (.ref sl)) (EP X pins σ Q) X.xe s
noncomputable def tSl (r:V->Option Int->Option Int->Hp->VK->Prop)(te:TE)(tl th:TO):TE:=fun σ H Q=>te σ H fun x H1=>tl σ H1 fun l H2=>th σ H2 fun u H3=>r x l u H3 Q
theorem AJ {r:V->Option Int->Option Int->Hp->VK->Prop}(hr:WH X r)(he:PE X e te)(hl:PO X lo tl)(hu:PO X hi th):PE X (.Subscript e (.Slice lo hi none p2) pos) (tSl r te tl th):=by
 intro pins s σ H Q I h
 refine Subscript_ (b7 (he pins s σ H _ I h) fun v s1 ⟨x,H1,I1,r1,q1⟩=>?_)
 refine wpAny_Slice (b7 (hl pins s1 σ H1 _ I1 q1) fun vl s2 ⟨l,H2,I2,pl,q2⟩=>b7 (hu pins s2 σ H2 _ I2 q2) fun vu s3 ⟨u,H3,I3,pu,q3⟩=>?_)
 rw[evalPart_none]
 refine wpAny_pure ?_
 have I4:Inv X pins σ H3 { s3 with heap:=s3.heap.push { cls:=.type "slice",data:=.fields #[vl,vu,.none]}}:=I3.kept (t':=s3.toks) fun b ob q=>Heap.get?_push_of_some _ q
 obtain⟨T,id,hT,ht,hg⟩:=hr pins { s3 with heap:=s3.heap.push { cls:=.type "slice",data:=.fields #[vl,vu,.none]}} σ H3 x v vl vu l u s3.heap.objs.size Q I4 r1 (Heap.IsSliceOf.new ..) pl pu q3
 show wpAny (model X.prog X.w) X.A (subscriptTail e (.Slice lo hi none p2) v (.ref s3.heap.objs.size)) (EP X pins σ Q) X.xe { s3 with heap:=s3.heap.push { cls:=.type "slice",data:=.fields #[vl,vu,.none]}}
 exact tail_any (ops:=[.ref s3.heap.objs.size,v]) ht hT hg (by with_unfolding_all rfl)
noncomputable def FF (xs:List V)(lo hi:Option Int):List V:=(xs.drop (HT.AI xs.length 0 lo)).take (HT.AI xs.length xs.length hi - HT.AI xs.length 0 lo)
theorem AK (xs:List V)(lo hi:Option Int):(FF xs lo hi).length<=xs.length:=by
 unfold FF
 rw[List.length_take,List.length_drop]
 omega
theorem AL:lE X (.type "tuple") (fun xs H Q=>∃ a ys,xs=[.ref a]/\Cg X.K H a ys/\Q (.ref a) H):=by
 intro pins s σ H xs us Q I r h
 obtain⟨a,ys,rfl,ha,q⟩:=h
 obtain⟨u,rfl,ru⟩:=vals1 r
 cases ru
 obtain⟨aG,_,p1,_⟩:=I.tuple ha
 exact call_tuple_same (items:=aG.toArray) p1 ⟨.ref a,H,I,rfl,q⟩
end
noncomputable def Cu (n:Nat)(i:Int):Option Nat:=if 0<=i then (if i < n then some i.toNat else none) else if -(n:Int)<=i then some (i+n).toNat else none
noncomputable def o7 {α:Type}(xs:List α)(i:Int):Option α:=(Cu xs.length i).bind fun j=>xs[j]?
theorem DU {n:Nat}{i:Int}{j:Nat}(h:Cu n i=some j):seqIndex? i n=some j/\j < n/\-(n:Int)<=i/\i < n:=by
 unfold Cu at h
 by_cases h0:0<=i
 . rw[if_pos h0] at h
   by_cases h1:i < n
   . rw[if_pos h1] at h
     have e:i.toNat=j:=Option.some.inj h
     exact⟨by rw[seqIndex_of h0 h1,e],by omega,by omega,h1⟩
   . rw[if_neg h1] at h;cases h
 . rw[if_neg h0] at h
   by_cases h1:-(n:Int)<=i
   . rw[if_pos h1] at h
     have e:(i+n).toNat=j:=Option.some.inj h
     exact⟨by rw[seqIndex_neg (by omega) h1,e],by omega,h1,by omega⟩
   . rw[if_neg h1] at h;cases h
theorem yA {α:Type}{xs:List α}{i:Int}{v:α}(h:o7 xs i=some v):∃ j,seqIndex? i xs.length=some j/\xs[j]?=some v/\j < xs.length/\-(xs.length:Int)<=i/\i < xs.length:=by
 unfold o7 at h
 cases e:Cu xs.length i with
 | none=>rw[e] at h;cases h
 | some j=>
   rw[e] at h
   obtain⟨h1,h2,h3,h4⟩:=DU e
   exact⟨j,h1,h,h2,h3,h4⟩
theorem mU {α:Type}{xs:List α}{j:Nat}{v:α}(h:xs[j]?=some v):o7 xs (j:Int)=some v:=by
 have hj:j < xs.length:=(List.getElem?_eq_some_iff.mp h).1
 have e:Cu xs.length (j:Int)=some j:=by
   unfold Cu
   rw[if_pos (by omega),if_pos (by omega)];simp
 unfold o7;rw[e];exact h
noncomputable def kM (b:Expr):Prop:=∀ o i,subscripted b false o i=operate [o,i] (getItem o i)
noncomputable def RV (X:Cx)(r:R2):Prop:=
 ∀ (value slice:Expr) (pins:List (Addr×Obj)) (s:Shared) (σ:St) (H:Hp) (x y:V) (v u:Value) (Q:VK),Inv X pins σ H s->RelV x v->RelV y u->r x y H Q ->
   subscripted slice false v u=operate [v,u] (getItem v u)->wpAny (model X.prog X.w) X.A (subscriptTail value slice v u) (EP X pins σ Q) X.xe s
noncomputable def RW (X:Cx)(id:String)(r:V->List V->Hp->VK->Prop):Prop:=
 ∀ (pins:List (Addr×Obj)) (s:Shared) (σ:St) (H:Hp) (x:V) (xs:List V) (v:Value) (us:List Value) (Q:VK),Inv X pins σ H s->RelV x v->Vals xs us->r x xs H Q ->
   wpAny (model X.prog X.w) X.A (call (.builtin id) (v::us)) (EP X pins σ Q) X.xe s
section
variable {X:Cx}{a b:Expr}{ta tb:TE}{pos:Pos}
theorem u7 {r:R2}(hr:RV X r)(ha:PE X a ta)(hb:PE X b tb)(hs:kM b):PE X (.Subscript a b pos) (SA r ta tb):=by
 intro pins s σ H Q I h
 exact Subscript_ (O4 ha hb I h fun v u s2 x y H2 I2 rx ry q=>hr a b pins s2 σ H2 x y v u Q I2 rx ry q (hs _ _))
noncomputable def WI (K:W.Frag):R2:=fun x y H Q=>∃ p xs i v,x=.ref p/\y=.int i/\oe K H p xs/\o7 xs i=some v/\Q v H
noncomputable def WJ (K:W.Frag):R2:=fun x y H Q=>∃ p xs i v,x=.ref p/\y=.int i/\Cg K H p xs/\o7 xs i=some v/\Q v H
noncomputable def WK:R2:=fun x y H Q=>∃ z i c,x=.str z/\y=.int i/\z.length<=sizeLine/\o7 z.cps.toList i=some c/\Q (.str ⟨#[c]⟩) H
theorem yB:RV X (WI X.K):=by
 intro value slice pins s σ H x y v u Q I rx ry h hs
 obtain⟨p,xs,i,z,rfl,rfl,hq,he,q⟩:=h
 cases rx
 obtain⟨t,rfl⟩:=ry
 obtain⟨aG,r,pl,hz⟩:=I.list hq
 obtain⟨j,h1,h2,h3,h4,h5⟩:=yA he
 obtain⟨w,ew,LB⟩:=r.get h2
 have hl:=r.length
 have hn:=mf
 have fin:EP X pins σ Q w s:=⟨z,H,I,LB,q⟩
 by_cases h0:0<=i
 . have hj:i.toNat=j:=by
     rw[seqIndex_of h0 h5] at h1
     exact Option.some.inj h1
   exact item_listR pl.isList h0 (by omega) (by rw[hj];simpa using ew) fin hs
 . have hj:(i+(aG.toArray.size:Int)).toNat=j:=by
     rw[seqIndex_neg (by omega) h4] at h1
     rw[List.size_toArray,<- hl]
     exact Option.some.inj h1
   exact subscriptTail_builtinR (x:=w) pl.isList.typeIs slot_list_getitem.lookup
     (wpAny_getItem_list_neg (Q:=fun r s'=>r=w/\EP X pins σ Q r s') pl.isList (by omega) (by rw[List.size_toArray] <;> omega) (by omega) (by rw[hj];simpa using ew) ⟨rfl,fin⟩) hs
theorem Pj:RV X (WJ X.K):=by
 intro value slice pins s σ H x y v u Q I rx ry h hs
 obtain⟨p,xs,i,z,rfl,rfl,hq,he,q⟩:=h
 cases rx
 obtain⟨t,rfl⟩:=ry
 obtain⟨aG,r,pl,hz⟩:=I.tuple hq
 obtain⟨j,h1,h2,h3,h4,h5⟩:=yA he
 obtain⟨w,ew,LB⟩:=r.get h2
 have hl:=r.length
 have hn:=mf
 have fin:EP X pins σ Q w s:=⟨z,H,I,LB,q⟩
 exact subscriptTail_builtinR (x:=w) pl.typeIs slot_tuple_getitem.lookup
   (getItem_tuple (j:=j) (Q:=fun r s'=>r=w/\EP X pins σ Q r s') pl (by omega) (by omega) (by rw[List.size_toArray,<- hl];exact h1) (by simpa using ew) ⟨rfl,fin⟩) hs
theorem Pk:RV X WK:=by
 intro value slice pins s σ H x y v u Q I rx ry h hs
 obtain⟨z,i,c,rfl,rfl,hz,he,q⟩:=h
 obtain⟨t,rfl⟩:=rx
 obtain⟨t',rfl⟩:=ry
 obtain⟨j,h1,h2,h3,h4,h5⟩:=yA he
 have hl:z.cps.toList.length=z.length:=by simp[Str.length]
 rw[hl] at h1 h4 h5
 have hn:=mf
 exact tail_any (typeIs_str s z t) slot_str_getitem.lookup (getItem_str (c:=c) (by
   have e1:decide (i < -(2 ^ 63:Int))=false:=decide_eq_false (by omega)
   have e2:decide (i >= 2 ^ 63)=false:=decide_eq_false (by omega)
   rw[e1,e2,Bool.or_false]) (by rw[h1];simpa using h2) ⟨.str ⟨#[c]⟩,H,I.tok _,⟨_,rfl⟩,q⟩) hs
theorem Cv (aG:List Value)(n j:Nat)(u:Value):Obj.mapSeq (·.setIfInBounds j u) { cls:=.type "list",data:=.seq aG.toArray n}={ cls:=.type "list",data:=.seq (aG.set j u).toArray n}:=by
 simp[Obj.mapSeq]
theorem Inv.lst {pins:List (Addr×Obj)}{σ:St}{H:Hp}{s:Shared}{p:Addr}{xs:List V}(I:Inv X pins σ H s)(h:H p=some (.lst xs)):∃ (aG:List Value) (n:Nat),Vals xs aG/\s.heap.get? p=some { cls:=.type "list",data:=.seq aG.toArray n}/\xs.length<=sizeLine:=by
 obtain⟨z,aG,n,r,e⟩:=I.bH p _ h
 exact⟨aG,n,r,e,z⟩
theorem Inv.Pl {pins:List (Addr×Obj)}{σ:St}{H:Hp}{s:Shared}{p:Addr}{xs ys:List V}{aG its':List Value}{n n':Nat}{f:Obj->Obj}(I:Inv X pins σ H s)(h:H p=some (.lst xs))(ho:s.heap.get? p=some { cls:=.type "list",data:=.seq aG.toArray n})(hf:f { cls:=.type "list",data:=.seq aG.toArray n}={ cls:=.type "list",data:=.seq its'.toArray n'})(r:Vals ys its')(hz:ys.length<=sizeLine)(t:Nat):Inv X pins σ (upd H p (.lst ys)) { s with heap:=s.heap.update p f,toks:=t}:=by
 have e:(s.heap.update p f).get? p=some { cls:=.type "list",data:=.seq its'.toArray n'}:=by
   rw[Heap.get?_update_self f ho (by rw[hf] <;> rfl),hf]
 refine I.write (x:=p) (e:=p) (by rw[h];trivial) (.inl rfl) (fun b u hb q=>(Heap.get?_update_other _ _ (Ne.symm hb)).trans q) ⟨_,e⟩ ?_
 exact⟨hz,its',n',r,e⟩
noncomputable def SW:V->V->V->Hp->(Hp->Prop)->Prop:=fun o i v H Q=>∃ p xs k j,o=.ref p/\i=.int k/\H p=some (.lst xs)/\Cu xs.length k=some j/\Q (upd H p (.lst (xs.set j v)))
theorem set_list:Sx X SW:=by
 intro pins s σ H o i v ov iv u Q I ro ri rv h
 obtain⟨p,xs,k,j,rfl,rfl,hp,hj,q⟩:=h
 cases ro
 obtain⟨t,rfl⟩:=ri
 obtain⟨aG,n,r,ho,hz⟩:=I.lst hp
 obtain⟨h1,h2,h3,h4⟩:=DU hj
 have hl:=r.length
 have hn:=mf
 have I':Inv X pins σ (upd H p (.lst (xs.set j v))) { s with heap:=s.heap.update p (Obj.mapSeq (·.setIfInBounds j u))}:=
   I.Pl hp ho (Cv aG n j u) (r.set rv j) (by rw[List.length_set];exact hz) s.toks
 by_cases h0:0<=k
 . have hk:k.toNat=j:=by
     rw[seqIndex_of h0 h4] at h1
     exact Option.some.inj h1
   exact W.ki_setAt ho h0 (by omega) (by rw[List.size_toArray,<- hl];exact h4) (by rw[hk];exact⟨_,I',q⟩)
 . have hk:(k+(aG.toArray.size:Int)).toNat=j:=by
     rw[seqIndex_neg (by omega) h3] at h1
     rw[List.size_toArray,<- hl]
     exact Option.some.inj h1
   exact W.ki_setBack ho (by omega) (by rw[List.size_toArray,<- hl];exact h3) (by omega) (by rw[hk];exact⟨_,I',q⟩)
theorem yC (lo hi:Option Int)(n:Nat):(sliceBounds lo hi none n).1=((HT.AI n 0 lo:Nat):Int)/\(sliceBounds lo hi none n).2.1=((HT.AI n n hi:Nat):Int)/\(sliceBounds lo hi none n).2.2=1:=by
 refine⟨?_,?_,rfl⟩
 . cases lo with
   | none=>simp[sliceBounds,HT.AI]
   | some i=>
     simp only[sliceBounds,HT.AI,Option.getD_none,show(1:Int) > 0 by decide,if_true]
     by_cases h:i < 0
     . simp only[h,if_true] <;> omega
     . simp only[h,if_false] <;> omega
 . cases hi with
   | none=>simp[sliceBounds,HT.AI]
   | some i=>
     simp only[sliceBounds,HT.AI,Option.getD_none,show(1:Int) > 0 by decide,if_true]
     by_cases h:i < 0
     . simp only[h,if_true] <;> omega
     . simp only[h,if_false] <;> omega
theorem wQ (aG:List Value)(lo hi:Option Int):slicePick aG.toArray lo hi none=((aG.drop (HT.AI aG.length 0 lo)).take (HT.AI aG.length aG.length hi - HT.AI aG.length 0 lo)).toArray:=by
 obtain⟨h1,h2,h3⟩:=yC lo hi aG.toArray.size
 unfold slicePick
 rw[h1,h2,h3]
 simp only[sliceRange_one,pick_run,List.size_toArray] <;> rfl
noncomputable def WL (K:W.Frag):V->Option Int->Option Int->Hp->VK->Prop:=fun x lo hi H Q=>∃ a xs,x=.ref a/\oe K H a xs/\∀ p,H p=none->Q (.ref p) (upd H p (.lst (FF xs lo hi)))
theorem LC:WH X (WL X.K):=by
 intro pins s σ H x v vl vu lo hi sl Q I rx hs pl pu h
 obtain⟨a,xs,rfl,hx,q⟩:=h
 cases rx
 obtain⟨aG,r,ht,hz⟩:=I.list hx
 have hlen:=r.length
 refine⟨"list",_,slot_list_getitem.lookup,ht.isList.typeIs,?_⟩
 refine wpAny_getItem_list_slice ht.isList hs pl pu .none (by simp) ?_ (by rw[List.size_toArray] <;> omega)
 rw[wQ,<- hlen]
 refine⟨.ref s.heap.objs.size,_,I.laid (t':=s.toks) (o:=.lst (FF xs lo hi)) (fun b ob q=>Heap.get?_push_of_some _ q) (Nat.le_refl _) ?_,rfl,q _ (I.bH.fresh (Nat.le_refl _))⟩
 exact⟨Nat.le_trans (AK xs lo hi) hz,_,0,(r.drop (HT.AI xs.length 0 lo)).take (HT.AI xs.length xs.length hi - HT.AI xs.length 0 lo),Heap.get?_push_size _ rfl⟩
noncomputable def qL:V->Bool
 | .c9=>true
 | .bl _=>true
 | .int _=>true
 | .str _=>true
 | _=>false
noncomputable def K6:V->V->Bool
 | .c9,.c9=>true
 | .bl a,.bl b=>a == b
 | .bl a,.int b=>(if a then 1 else 0) == b
 | .int a,.bl b=>a == (if b then 1 else 0)
 | .int a,.int b=>a == b
 | .str a,.str b=>a == b
 | _,_=>false
theorem Pm {A:Around}{s:Shared}{y x:V}{u v:Value}(ry:RelV y u)(rx:RelV x v)(fy:qL y=true)(fx:qL x=true):SeqAt.EqAt A s u v (K6 y x):=by
 cases y with
 | c9=>
   cases ry
   cases x with
   | c9=>cases rx;exact SeqAt.EqAt.same _
   | bl b=>cases rx;exact SeqAt.EqAt.none_bool b
   | int b=>obtain⟨t,rfl⟩:=rx;exact SeqAt.EqAt.none_int b t
   | str b=>obtain⟨t,rfl⟩:=rx;exact SeqAt.EqAt.none_str b t
   | _=>exact absurd (show false=true from fx) Bool.false_ne_true
 | bl a=>
   cases ry
   cases x with
   | c9=>cases rx;exact SeqAt.EqAt.bool_none a
   | bl b=>cases rx;exact SeqAt.EqAt.bool_bool a b
   | int b=>obtain⟨t,rfl⟩:=rx;exact SeqAt.EqAt.bool_int a b t
   | str b=>obtain⟨t,rfl⟩:=rx;exact SeqAt.EqAt.bool_str a b t
   | _=>exact absurd (show false=true from fx) Bool.false_ne_true
 | int a=>
   obtain⟨t',rfl⟩:=ry
   cases x with
   | c9=>cases rx;exact SeqAt.EqAt.int_none a t'
   | bl b=>cases rx;exact SeqAt.EqAt.int_bool a t' b
   | int b=>obtain⟨t,rfl⟩:=rx;exact SeqAt.EqAt.int_int a t' b t
   | str b=>obtain⟨t,rfl⟩:=rx;exact SeqAt.EqAt.int_str a t' b t
   | _=>exact absurd (show false=true from fx) Bool.false_ne_true
 | str a=>
   obtain⟨t',rfl⟩:=ry
   cases x with
   | c9=>cases rx;exact SeqAt.EqAt.str_none a t'
   | bl b=>cases rx;exact SeqAt.EqAt.str_bool a t' b
   | int b=>obtain⟨t,rfl⟩:=rx;exact SeqAt.EqAt.str_int a t' b t
   | str b=>obtain⟨t,rfl⟩:=rx;exact SeqAt.EqAt.str_str a t' b t
   | _=>exact absurd (show false=true from fx) Bool.false_ne_true
 | _=>exact absurd (show false=true from fy) Bool.false_ne_true
noncomputable def Cw (x:V)(u:Value):Bool:=match u with
 | .none=>K6 .c9 x
 | .bool b=>K6 (.bl b) x
 | .int i _=>K6 (.int i) x
 | .str z _=>K6 (.str z) x
 | _=>false
theorem Hu {x y:V}{u:Value}(r:RelV y u)(f:qL y=true):Cw x u=K6 y x:=by
 cases y with
 | c9=>cases r;rfl
 | bl b=>cases r;rfl
 | int i=>obtain⟨t,rfl⟩:=r;rfl
 | str z=>obtain⟨t,rfl⟩:=r;rfl
 | _=>exact absurd (show false=true from f) Bool.false_ne_true
theorem qM {x:V}:∀ {xs:List V} {us:List Value},Vals xs us->xs.all qL=true->us.any (Cw x)=xs.any fun y=>K6 y x
 | _,_,.nil,_=>rfl
 | y::xs,u::us,.cons r t,f=>by
   rw[List.all_cons,Bool.and_eq_true] at f
   rw[List.any_cons,List.any_cons,Hu r f.1,qM t f.2]
theorem oC {A:Around}{s:Shared}{x:V}{v:Value}(rx:RelV x v)(fx:qL x=true):∀ {xs:List V} {us:List Value},Vals xs us->xs.all qL=true->∀ u∈us,SeqAt.EqAt A s u v (Cw x u)
 | _,_,.nil,_=>fun u hu=>by cases hu
 | y::xs,u::us,.cons r t,f=>fun u' hu=>by
   rw[List.all_cons,Bool.and_eq_true] at f
   rcases List.mem_cons.mp hu with rfl | hu
   . rw[Hu r f.1];exact Pm r rx f.1 fx
   . exact oC rx fx t f.2 u' hu
noncomputable def SY (x:V)(xs:List V):Bool:=xs.any fun y=>K6 y x
noncomputable def VA (K:W.Frag)(neg:Bool):R2:=fun x y H Q=>∃ p xs,y=.ref p/\(oe K H p xs\/Cg K H p xs)/\qL x=true/\xs.all qL=true/\Q (.bl (if neg then !SY x xs else SY x xs)) H
theorem xN:pV X (compareOp .In) (VA X.K false):=by
 intro pins s σ H x y v u Q I rx ry h
 obtain⟨p,xs,rfl,hq,fx,fs,q⟩:=h
 cases ry
 rcases hq with hq | hq
 . obtain⟨aG,r,pl,hz⟩:=I.list hq
   refine SeqAt.in_listAt (Cw x) pl.isList (fun w hw=>oC rx fx r fs w (by simpa using hw)) ⟨.bl _,H,I,rfl,?_⟩
   rw[show aG.toArray.any (Cw x)=aG.any (Cw x) by simp,qM r fs]
   exact q
 . obtain⟨aG,r,pl,hz⟩:=I.tuple hq
   refine SeqAt.in_tupleAt (Cw x) pl (fun w hw=>oC rx fx r fs w (by simpa using hw)) ⟨.bl _,H,I,rfl,?_⟩
   rw[show aG.toArray.any (Cw x)=aG.any (Cw x) by simp,qM r fs]
   exact q
theorem qN:pV X (compareOp .NotIn) (VA X.K true):=by
 intro pins s σ H x y v u Q I rx ry h
 obtain⟨p,xs,rfl,hq,fx,fs,q⟩:=h
 cases ry
 rcases hq with hq | hq
 . obtain⟨aG,r,pl,hz⟩:=I.list hq
   refine SeqAt.notIn_listAt (Cw x) pl.isList (fun w hw=>oC rx fx r fs w (by simpa using hw)) ⟨.bl _,H,I,rfl,?_⟩
   rw[show aG.toArray.any (Cw x)=aG.any (Cw x) by simp,qM r fs]
   exact q
 . obtain⟨aG,r,pl,hz⟩:=I.tuple hq
   refine SeqAt.notIn_tupleAt (Cw x) pl (fun w hw=>oC rx fx r fs w (by simpa using hw)) ⟨.bl _,H,I,rfl,?_⟩
   rw[show aG.toArray.any (Cw x)=aG.any (Cw x) by simp,qM r fs]
   exact q
theorem qO:lE X (.builtin "len") (fun xs H Q=>∃ p ys,xs=[.ref p]/\(oe X.K H p ys\/Cg X.K H p ys)/\Q (.int ys.length) H):=by
 intro pins s σ H xs us Q I r h
 obtain⟨p,ys,rfl,hq,q⟩:=h
 obtain⟨u,rfl,rx⟩:=vals1 r
 cases rx
 have hn:=mf
 rcases hq with hq | hq
 . obtain⟨aG,r',pl,hz⟩:=I.list hq
   have hlen:=r'.length
   exact Calls.call_len_list pl.isList (by simp only[List.size_toArray] <;> omega) ⟨.int ys.length,H,I.tok _,⟨s.toks+1,by rw[List.size_toArray,hlen]⟩,q⟩
 . obtain⟨aG,r',pl,hz⟩:=I.tuple hq
   have hlen:=r'.length
   exact len_tuple pl (by simp only[List.size_toArray] <;> omega) ⟨.int ys.length,H,I.tok _,⟨s.toks+1,by rw[List.size_toArray,hlen]⟩,q⟩
theorem yD:lE X (.builtin "len") (fun xs H Q=>∃ z,xs=[.str z]/\z.length<=sizeLine/\Q (.int z.length) H):=by
 intro pins s σ H xs us Q I r h
 obtain⟨z,rfl,hz,q⟩:=h
 obtain⟨u,rfl,t,rfl⟩:=vals1 r
 have hn:=mf
 exact len_str (by omega) ⟨.int z.length,H,I.tok _,⟨_,rfl⟩,q⟩
theorem yE:lE X (.type "list") (fun xs H Q=>∃ p ys,xs=[.ref p]/\(oe X.K H p ys\/Cg X.K H p ys)/\∀ l,H l=none->Q (.ref l) (upd H l (.lst ys))):=by
 intro pins s σ H xs us Q I r h
 obtain⟨p,ys,rfl,hq,q⟩:=h
 obtain⟨u,rfl,rx⟩:=vals1 r
 cases rx
 have fin:∀ (aG:List Value),Vals ys aG->ys.length<=sizeLine->∀ (h':Heap) (c':Nat),(∀ b o',s.heap.get? b=some o'->h'.get? b=some o') ->
     h'.get? s.heap.objs.size=some { cls:=.type "list",dict:=none,data:=.seq aG.toArray c',slots:=#[]}->EP X pins σ Q (.ref s.heap.objs.size) { s with heap:=h'}:=fun aG r' hz h' c' kp e=>
   ⟨.ref s.heap.objs.size,_,I.laid (t':=s.toks) kp (Nat.le_refl _) (show aP X.prog X.w _ h' _ (.lst ys) from⟨hz,aG,c',r',e⟩),rfl,q _ (I.bH.fresh (Nat.le_refl _))⟩
 rcases hq with hq | hq
 . obtain⟨aG,r',pl,hz⟩:=I.list hq
   have hlen:=r'.length
   obtain⟨o,ho,hc,n,hd⟩:=pl.isList
   exact call_list_seq p (.inl rfl) ho hc hd (fun h' c' kp e=>fin aG r' hz h' c' kp e) (by simp only[List.size_toArray] <;> omega)
 . obtain⟨aG,r',pl,hz⟩:=I.tuple hq
   have hlen:=r'.length
   obtain⟨o,ho,hc,n,hd⟩:=pl
   exact call_list_seq p (.inr rfl) ho hc hd (fun h' c' kp e=>fin aG r' hz h' c' kp e) (by simp only[List.size_toArray] <;> omega)
noncomputable def VB (K:W.Frag)(T:String)(x:V)(H:Hp):Prop:=match x with
 | .str _=>T="str"
 | .int _=>T="int"
 | .ref p=>(T="list"/\∃ xs,oe K H p xs)\/(T="tuple"/\∃ o,K.lookup p=some o/\o.cls=.type "tuple"/\o.dict=none) \/
     (T="dict"/\((∃ kvs,H p=some (.dK kvs))\/(∃ kvs,H p=some (.dT kvs))\/∃ tg o kvs,H p=some (.kd tg o kvs)))\/(T="set"/\∃ S n,H p=some (.set S n)) \/
     (T="list"/\∃ (a:Addr) (ls:km) (ns:List Nat) (j:Nat) (f:Nat->List (Key×FD)) (N:Nat),H a=some (.bK ls ns)/\ls[j]?=some (p,f)/\ns[j]?=some N)
 | _=>False
theorem Hv {pins:List (Addr×Obj)}{σ:St}{H:Hp}{s:Shared}{T:String}{x:V}{v:Value}(I:Inv X pins σ H s)(r:RelV x v)(ty:VB X.K T x H):s.TypeIs v T/\∀ a,v=.ref a->∃ ob,s.heap.get? a=some ob/\ob.dict=none:=by
 cases x with
 | str z=>
   obtain⟨t,rfl⟩:=r
   cases (show T="str" from ty)
   exact⟨typeIs_str s z t,fun _ e=>nomatch e⟩
 | int i=>
   obtain⟨t,rfl⟩:=r
   cases (show T="int" from ty)
   exact⟨typeIs_int s i t,fun _ e=>nomatch e⟩
 | ref p=>
   cases r
   rcases ty with⟨rfl,xs,hq⟩ | ⟨rfl,o,hk,hc,hd⟩ | ⟨rfl,hk⟩ | ⟨rfl,S,n,hk⟩ | ⟨rfl,a,ls,ns,j,f,N,h1,h2,h3⟩
   . obtain⟨aG,_,pl,_⟩:=I.list hq
     refine⟨pl.isList.typeIs,fun a e=>?_⟩
     cases e
     obtain⟨o,n,e,c,hd,_⟩:=pl
     exact⟨o,e,hd⟩
   . refine⟨⟨o,I.Av p o hk,hc⟩,fun a e=>?_⟩
     cases e
     exact⟨o,I.Av _ o hk,hd⟩
   . have z:∃ o,s.heap.get? p=some o/\o.ExactDict:=by
       rcases hk with⟨kvs,hk⟩ | ⟨kvs,hk⟩ | ⟨tg,ob,kvs,hk⟩
       . obtain⟨_,_,_,_,o,_,_,e,ex,_⟩:=I.bH p _ hk
         exact⟨o,e,ex⟩
       . obtain⟨_,_,_,_,o,_,_,e,ex,_⟩:=I.bH p _ hk
         exact⟨o,e,ex⟩
       . obtain⟨_,⟨_,_,_,_,o,_,_,e,ex,_⟩,_⟩:=I.bH p _ hk
         exact⟨o,e,ex⟩
     obtain⟨o,e,ex⟩:=z
     refine⟨⟨o,e,ex.1⟩,fun a e2=>?_⟩
     cases e2
     exact⟨o,e,ex.2.1⟩
   . obtain⟨o,_,_,_,e,ex,_⟩:=I.bH p _ hk
     refine⟨⟨o,e,ex.1⟩,fun a e2=>?_⟩
     cases e2
     exact⟨o,e,ex.2.1⟩
   . obtain⟨_,_,_,_,_,_,h6⟩:=(show aP X.prog X.w H s.heap a (.bK ls ns) from I.bH a _ h1)
     obtain⟨aG,c,e1,e2,e3⟩:=h6 j p f N h2 h3
     refine⟨⟨_,e1,rfl⟩,fun a' e4=>?_⟩
     cases e4
     exact⟨_,e1,rfl⟩
 | _=>exact False.elim ty
noncomputable def WM (K:W.Frag)(T:String)(r:V->List V->Hp->VK->Prop)(to:TE):TE:=fun σ H Q=>to σ H fun x H1=>VB K T x H1/\r x [] H1 Q
noncomputable def tBM (K:W.Frag)(T:String)(r:V->List V->Hp->VK->Prop)(to:TE)(t:TA):TE:=fun σ H Q=>to σ H fun x H1=>VB K T x H1/\t σ H1 fun xs H2=>r x xs H2 Q
variable {o e:Expr}{es:List Expr}{to:TE}{t:TA}{name:Str}{apos bY:Pos}{T id:String}{r:V->List V->Hp->VK->Prop}
theorem Hw (pa:PlainAttrs T)(slot:Slot T name id)(S5:typeOf (.builtin id)=pure (.type "method_descriptor"))(hm:RW X id r)(ho:PE X o to)(kf:attributeBase o name X.env (eval o X.env)=eval o X.env:=by rfl)(kg:(apos.endLine == bY.line)=true:=by rfl):PE X (.Call (.Attribute o name apos) [] [] bY) (WM X.K T r to):=by
 intro pins s σ H Q I h
 refine wpAny_Call_method0_late kf kg (b7 (ho pins s σ H _ I h) fun v s1 ⟨x,H1,I1,r1,ty,q1⟩=>?_)
 obtain⟨h1,h2⟩:=Hv I1 r1 ty
 exact⟨T,id,pa,slot,S5,h1,h2,Calls.callWith_builtin rfl (PySem.evalArgs_none (hm pins s1 σ H1 x [] v [] Q I1 r1 .nil q1))⟩
theorem u9 (pa:PlainAttrs T)(slot:Slot T name id)(S5:typeOf (.builtin id)=pure (.type "method_descriptor"))(hm:RW X id r)(ho:PE X o to)(ha:PA X (e::es) t)
   (kf:attributeBase o name X.env (eval o X.env)=eval o X.env:=by rfl)
   (va:((backTo bY (starEach (e::es) X.env)).all (fun x=>!x.1) && (backToKw bY (keywordEach [] X.env)).all (fun x=>x.1.isSome)
     && decide ((e::es).length+([]:List Keyword).length+(if ([]:List Keyword).isEmpty then 0 else 1) < 30))=true:=by rfl)
   (kg:(apos.endLine == bY.line)=true:=by rfl) (hs:starEach (e::es) X.env=(false,eval e X.env)::starEach es X.env:=by rfl) (Pn:(backTo bY (starEach es X.env)).any (·.1)=false:=by rfl) :
   PE X (.Call (.Attribute o name apos) (e::es) [] bY) (tBM X.K T r to t):=by
 intro pins s σ H Q I h
 refine wpAny_Call_method_late kf va kg rfl (b7 (ho pins s σ H _ I h) fun v s1 ⟨x,H1,I1,r1,ty,q1⟩=>?_)
 obtain⟨h1,h2⟩:=Hv I1 r1 ty
 refine⟨T,id,pa,slot,S5,h1,h2,?_⟩
 have hA:=ha bY pins s1 σ H1 _ I1 q1
 rw[hs] at hA ⊢
 refine Calls.callWith_builtin (by show(false || (backTo bY (starEach es X.env)).any (·.1))=false;rw[Pn] <;> rfl) (Calls.evalArgs_plain ?_)
 exact b7 hA fun us s2 ⟨vs,H2,I2,r2,q2⟩=>hm pins s2 σ H2 x vs v us Q I2 r1 r2 q2
end
noncomputable def WN (X:Cx)(id:String)(r:V->List V->Hp->VK->Prop):Prop:=
 ∀ (pins:List (Addr×Obj)) (s:Shared) (σ:St) (H:Hp) (x:V) (xs:List V) (v:Value) (us:List Value) (Q:VK),Inv X pins σ H s->RelV x v->Vals xs us->r x xs H Q ->
   wpAny (model X.prog X.w) X.A (call (.builtin id) (v::us)) (EP X pins σ Q) X.xe s
theorem Vals.one:∀ {x:V} {us:List Value},Vals [x] us->∃ u,us=[u]/\RelV x u
 | _,_,.cons r .nil=>⟨_,rfl,r⟩
theorem Vals.zero:∀ {us:List Value},Vals [] us->us=[]
 | _,.nil=>rfl
theorem Vals.dropLast {xs:List V}{us:List Value}(h:Vals xs us):Vals xs.dropLast us.dropLast:=by
 induction h with
 | nil=>exact .nil
 | cons r t ih=>
   cases t with
   | nil=>exact .nil
   | cons q t'=>exact .cons r ih
theorem Vals.rep {xs:List V}{us:List Value}(h:Vals xs us):∀ k:Nat,Vals (List.replicate k xs).flatten (List.replicate k us).flatten
 | 0=>.nil
 | k+1=>by
   rw[List.replicate_succ,List.replicate_succ,List.flatten_cons,List.flatten_cons]
   exact Vals.append h (Vals.rep h k)
theorem Cy {α:Type}(l:List α):l.eraseIdx (l.length - 1)=l.dropLast:=by
 induction l with
 | nil=>rfl
 | cons a r ih=>
   cases r with
   | nil=>rfl
   | cons b r=>
     have e:(a::b::r).length - 1=((b::r).length - 1)+1:=by
       have h1:(a::b::r).length=r.length+2:=rfl
       have h2:(b::r).length=r.length+1:=rfl
       omega
     rw[e,List.eraseIdx_cons_succ,ih]
     all_goals rfl
theorem foldl_rep (aG:List Value):∀ (k:Nat) (acc:List Value),List.foldl (fun x1 x2=>x1 ++ x2) acc.toArray (List.replicate k aG.toArray)=(acc ++ (List.replicate k aG).flatten).toArray
 | 0,acc=>by simp
 | k+1,acc=>by
   have e:acc.toArray ++ aG.toArray=(acc ++ aG).toArray:=by simp
   have e2:(acc ++ aG) ++ (List.replicate k aG).flatten=acc ++ (List.replicate (k+1) aG).flatten:=by
     rw[List.replicate_succ,List.flatten_cons,List.append_assoc]
   rw[<- e2,<- foldl_rep aG k (acc ++ aG),<- e,List.replicate_succ,List.foldl_cons]
section
variable {X:Cx}{pins:List (Addr×Obj)}{σ:St}{H:Hp}{s:Shared}{l:Addr}{xs ys:List V}
theorem Inv.Po {aG its':List Value}{n:Nat}{f:Array Value->Array Value}{t':Nat}(I:Inv X pins σ H s)(hH:H l=some (.lst xs))(e:s.heap.get? l=some { cls:=.type "list",data:=.seq aG.toArray n})(hf:f aG.toArray=its'.toArray)(hv:Vals ys its')(hz:ys.length<=sizeLine):Inv X pins σ (upd H l (.lst ys)) { s with heap:=s.heap.update l (Obj.mapSeq f),toks:=t'}:=by
 have q:=PySem.IsL.update e f
 rw[hf] at q
 refine I.write (x:=l) (e:=l) (by rw[hH];exact trivial) (.inl rfl) (fun b' u hb hu=>(Heap.get?_update_other s.heap (Obj.mapSeq f) (Ne.symm hb)).trans hu) ⟨_,q⟩ ?_
 exact⟨hz,its',_,hv,q⟩
theorem Inv.WO {aG:List Value}{t':Nat}(I:Inv X pins σ H s)(hv:Vals ys aG)(hz:ys.length<=sizeLine):Inv X pins σ (upd H s.heap.objs.size (.lst ys)) { s with heap:=s.heap.push { cls:=.type "list",data:=.seq aG.toArray},toks:=t'}:=
 I.laid (fun _ _ q=>Heap.get?_push_of_some _ q) (Nat.le_refl _) ⟨hz,aG,0,hv,Heap.get?_push_size _ rfl⟩
theorem Inv.fresh (I:Inv X pins σ H s):H s.heap.objs.size=none:=I.bH.fresh (Nat.le_refl _)
theorem Inv.Hx (I:Inv X pins σ H s)(hH:H l=some (.lst xs)):xs.length<=sizeLine/\∃ (aG:List Value) (n:Nat),Vals xs aG/\xs.length=aG.length/\s.heap.get? l=some { cls:=.type "list",data:=.seq aG.toArray n}:=by
 obtain⟨z,aG,n,r,e⟩:=I.bH l _ hH
 exact⟨z,aG,n,r,r.length,e⟩
theorem AM {n:Nat}(h:n<=sizeLine):Builtin.List.listTooLong n=false:=by
 unfold Builtin.List.listTooLong
 exact decide_eq_false (by omega)
end
section
variable {X:Cx}
noncomputable def LD:V->List V->Hp->VK->Prop:=fun x vs H Q=>∃ l xs y,x=.ref l/\vs=[y]/\H l=some (.lst xs)/\xs.length < sizeLine/\Q .c9 (upd H l (.lst (xs ++ [y])))
theorem o8:WN X "list.append" LD:=by
 intro pins s σ H x vs v us Q I rx rv h
 obtain⟨l,xs,y,rfl,rfl,hH,hz,q⟩:=h
 cases rx
 obtain⟨u,rfl,ru⟩:=rv.one
 obtain⟨z,aG,n,r,hl,e⟩:=I.Hx hH
 refine call_meets F.slot_list_append ⟨_,e,rfl⟩ F.entry_list_append (F.args_list_append_2 _ _) (PySem.list_append l aG.toArray n u (by rw[List.size_toArray];omega)) ⟨e,?_⟩
 refine⟨.c9,_,I.Po (its':=aG ++ [u]) hH e (by simp) (r.append (.cons ru .nil)) ?_,rfl,q⟩
 rw[List.length_append,List.length_singleton]
 omega
noncomputable def LF:V->List V->Hp->VK->Prop:=fun x vs H Q=>∃ l b xs zs,x=.ref l/\vs=[.ref b]/\H l=some (.lst xs)/\H b=some (.lst zs)/\xs.length+zs.length<=sizeLine/\Q .c9 (upd H l (.lst (xs ++ zs)))
theorem FG:WN X "list.extend" LF:=by
 intro pins s σ H x vs v us Q I rx rv h
 obtain⟨l,b,xs,zs,rfl,rfl,hH,hB,hz,q⟩:=h
 cases rx
 obtain⟨u,rfl,ru⟩:=rv.one
 cases ru
 obtain⟨z,aG,n,r,hl,e⟩:=I.Hx hH
 obtain⟨z2,LG,n2,r2,S6,e2⟩:=I.Hx hB
 have hsz:aG.toArray.size+LG.toArray.size<=sizeLine:=by rw[List.size_toArray,List.size_toArray];omega
 have Hy:¬ (!aG.toArray.isEmpty && Builtin.List.listTooLong (aG.toArray.size+LG.toArray.size))=true:=by
   rw[AM hsz,Bool.and_false]
   exact Bool.false_ne_true
 refine call_meets F.slot_list_extend ⟨_,e,rfl⟩ F.entry_list_extend (F.args_list_extend_2 _ _)
   (AutoSeq1.list_extend_list_list_0 l aG.toArray n b LG.toArray n2 Hy (by rw[List.size_toArray];omega) (by omega)) ⟨e,e2,?_⟩
 refine⟨.c9,_,I.Po (its':=aG ++ LG) hH e (by simp) (r.append r2) ?_,rfl,q⟩
 rw[List.length_append]
 omega
noncomputable def WQ:V->List V->Hp->VK->Prop:=fun x vs H Q=>∃ l xs y,x=.ref l/\vs=[]/\H l=some (.lst xs)/\xs[xs.length - 1]?=some y/\Q y (upd H l (.lst xs.dropLast))
theorem Pp:WN X "list.pop" WQ:=by
 intro pins s σ H x vs v us Q I rx rv h
 obtain⟨l,xs,y,rfl,rfl,hH,hy,q⟩:=h
 cases rx
 have hus:=rv.zero
 subst hus
 obtain⟨z,aG,n,r,hl,e⟩:=I.Hx hH
 obtain⟨u,hu,ru⟩:=r.get hy
 have S9:aG.toArray[aG.toArray.size - 1]?=some u:=by
   show aG.toArray[aG.length - 1]?=some u
   rw[<- Array.getElem?_toList,<- hl]
   exact hu
 refine call_meets F.slot_list_pop ⟨_,e,rfl⟩ F.entry_list_pop (F.args_list_pop_1 _) (MeetsSeq.list_pop_last l aG.toArray n u S9 (by rw[List.size_toArray];omega)) ⟨e,?_⟩
 refine⟨y,_,I.Po (its':=aG.dropLast) hH e ?_ r.dropLast ?_,ru,q⟩
 . show aG.toArray.eraseIdxIfInBounds (aG.toArray.size - 1)=aG.dropLast.toArray
   rw[List.size_toArray,List.eraseIdxIfInBounds_toArray,Cy]
 . rw[List.length_dropLast]
   omega
noncomputable def WR:R2:=fun x y H Q=>∃ l k xs,x=.ref l/\y=.int k/\H l=some (.lst xs)/\-(2 ^ 63)<=k/\k < 2 ^ 63/\xs.length * k.toNat<=sizeLine /\
 ∀ p,H p=none->Q (.ref p) (upd H p (.lst (List.replicate k.toNat xs).flatten))
theorem len_rep {α:Type}(xs:List α)(k:Nat):(List.replicate k xs).flatten.length=k * xs.length:=by
 induction k with
 | zero=>simp
 | succ k ih=>rw[List.replicate_succ,List.flatten_cons,List.length_append,ih,Nat.succ_mul,Nat.add_comm]
theorem Pq:pV X (binaryOp .Mult) WR:=by
 intro pins s σ H x y v u Q I rx ry h
 obtain⟨l,k,xs,rfl,rfl,hH,h1,h2,hz,q⟩:=h
 cases rx
 obtain⟨t,rfl⟩:=ry
 obtain⟨z,aG,n,r,hl,e⟩:=I.Hx hH
 have hlen:aG.toArray.size * k.toNat<=sizeLine:=by rw[List.size_toArray,<- hl];exact hz
 have WS:¬ aG.toArray.size * k.toNat > (2 ^ 63 - 1) / 8:=by
   have:(sizeLine:Nat)<=(2 ^ 63 - 1) / 8:=by decide
   omega
 have vb:¬ (!Builtin.List.listFitsIndex k)=true:=by
   rw[fitsIndex_both h1 h2]
   exact Bool.false_ne_true
 have Hy:¬ Builtin.List.listTooLong (aG.toArray.size * k.toNat)=true:=by
   rw[AM hlen]
   exact Bool.false_ne_true
 have FH:List.foldl (fun x1 x2=>x1 ++ x2) #[] (List.replicate (if aG.toArray.isEmpty=true then 0 else k.toNat) aG.toArray)=(List.replicate k.toNat aG).flatten.toArray:=by
   have f0:∀ m:Nat,List.foldl (fun x1 x2=>x1 ++ x2) #[] (List.replicate m aG.toArray)=(List.replicate m aG).flatten.toArray:=fun m=>by
     have:=foldl_rep aG m []
     rw[List.nil_append] at this
     exact this
   rw[f0]
   cases aG with
   | nil=>simp
   | cons a r'=>rw[if_neg (by simp)]
 refine wpAny_binaryOp_repeat_ref (T:="list") (U:="int") (by decide) ⟨_,e,rfl⟩ (fun s'=>typeIs_int s' k t) noFill_list_mul F.fills_int_mul F.slot_int_rmul repeat_list F.slot_int_index.lookup
   (call_meets F.slot_int_rmul (typeIs_int s k t) F.entry_int_rmul (F.args_int_rmul_2 _ _) (int___rmul___int_list k t l aG.toArray n)
     ⟨e,rfl,⟨_,e,rfl⟩,call_meets F.slot_list_mul ⟨_,e,rfl⟩ F.entry_list_mul (F.args_list_mul_2 _ _) (AutoListH.list___mul___list_int_3 l aG.toArray n k t vb WS Hy) ⟨e,?_⟩⟩)
 rw[FH]
 exact⟨.ref _,_,I.WO (t':=s.toks) (r.rep k.toNat) (by rw[len_rep,Nat.mul_comm];exact hz),rfl,q _ I.fresh⟩
end
section
variable {κ:Type}[DecidableEq κ]
noncomputable def og (kvs:List (κ×V))(k:κ):Option V:=(kvs.find? fun kv=>decide (kv.1=k)).map (·.2)
noncomputable def putK (kvs:List (κ×V))(k:κ)(v:V):List (κ×V):=
 if (kvs.any fun kv=>decide (kv.1=k))=true then kvs.map (fun kv=>if kv.1=k then (kv.1,v) else kv) else kvs ++ [(k,v)]
theorem oE {p:κ×V}{r:List (κ×V)}{k:κ}(e:p.1=k):og (p::r) k=some p.2:=by simp[og,List.find?_cons,e]
theorem mC {p:κ×V}{r:List (κ×V)}{k:κ}(e:¬ p.1=k):og (p::r) k=og r k:=by simp[og,List.find?_cons,e]
theorem qP (k:κ):∀ kvs:List (κ×V),(kvs.any fun kv=>decide (kv.1=k))=(og kvs k).isSome
 | []=>rfl
 | p::r=>by
   rw[List.any_cons]
   by_cases e:p.1=k
   . simp only[oE e,decide_eq_true e,Bool.true_or,Option.isSome_some]
   . rw[mC e,decide_eq_false e,Bool.false_or];exact qP k r
theorem tu (kvs:List (κ×V))(k:κ)(v:V):(putK kvs k v).length<=kvs.length+1:=by
 unfold putK
 split
 . rw[List.length_map];omega
 . rw[List.length_append,List.length_cons,List.length_nil];omega
theorem pU.rV {o:Option V}{u:Option Value}(r:pU o u):o.isSome=u.isSome:=by
 cases o with
 | none=>cases u with
   | none=>rfl
   | some _=>exact(show False from r).elim
 | some _=>cases u with
   | none=>exact(show False from r).elim
   | some _=>rfl
theorem KV.val {kvs:List (κ×V)}{vs:List (κ×Value)}(r:KV kvs vs)(k:κ):pU (og kvs k) (valueAt vs k):=by
 unfold KV at r
 induction r with
 | nil=>exact True.intro
 | @cons p q ps qs h t ih=>
   obtain⟨h1,h2⟩:=h
   by_cases e:p.1=k
   . have e':q.1=k:=h1.symm.trans e
     have b:valueAt (q::qs) k=some q.2:=by simp[valueAt,List.find?_cons,e']
     rw[oE e,b];exact h2
   . have e':¬ q.1=k:=fun z=>e (h1.trans z)
     have b:valueAt (q::qs) k=valueAt qs k:=by simp[valueAt,List.find?_cons,e']
     rw[mC e,b];exact ih
theorem KV.any {kvs:List (κ×V)}{vs:List (κ×Value)}(r:KV kvs vs)(k:κ):(kvs.any fun kv=>decide (kv.1=k))=vs.any fun kv=>decide (kv.1=k):=by
 unfold KV at r
 induction r with
 | nil=>rfl
 | cons h t ih=>rw[List.any_cons,List.any_cons,ih,h.1]
theorem KV.Pr {kvs:List (κ×V)}{vs:List (κ×Value)}(r:KV kvs vs)(k:κ){y:V}{u:Value}(ry:RelV y u):KV (kvs.map fun kv=>if kv.1=k then (kv.1,y) else kv) (vs.map fun kv=>if kv.1=k then (kv.1,u) else kv):=by
 unfold KV at r ⊢
 induction r with
 | nil=>exact .nil
 | @cons p q ps qs h t ih=>
   rw[List.map_cons,List.map_cons]
   refine .cons ?_ ih
   obtain⟨h1,h2⟩:=h
   by_cases e:p.1=k
   . rw[if_pos e,if_pos (h1.symm.trans e)];exact⟨h1,ry⟩
   . rw[if_neg e,if_neg (fun z=>e (h1.trans z))];exact⟨h1,h2⟩
theorem KV.put {kvs:List (κ×V)}{vs:List (κ×Value)}(r:KV kvs vs)(k:κ){y:V}{u:Value}(ry:RelV y u):KV (putK kvs k y) (stored vs k u):=by
 unfold putK stored
 rw[r.any k]
 by_cases e:(vs.any fun kv=>decide (kv.1=k))=true
 . rw[if_pos e,if_pos e];exact r.Pr k ry
 . rw[if_neg e,if_neg e];exact Paired.snoc r ⟨rfl,ry⟩
theorem KV.length {kvs:List (κ×V)}{vs:List (κ×Value)}(r:KV kvs vs):kvs.length=vs.length:=Paired.length r
end
theorem AN {P:Program}{w:World}{k:Key}{u:Value}(r:RelV (kV k) u):(cv P w).is k u=true:=by
 cases k with
 | inl i=>obtain⟨t,e⟩:=(show ∃ t,u=Value.int i t from r);subst e;exact An P w i t
 | inr x=>obtain⟨t,e⟩:=(show ∃ t,u=Value.str x t from r);subst e;exact Ao P w x t
theorem xO {P:Program}{w:World}:∀ {ks:List Key} {us:List Value},Vals (ks.map kV) us->ItemsAre (cv P w) ks us
 | [],_,r=>by rw[List.map_nil] at r;cases r;exact .nil
 | k::ks,_,r=>by
   rw[List.map_cons] at r
   cases r with
   | cons h t=>exact .cons (AN h) (xO t)
noncomputable abbrev KT (H:Hp):List (List Key×V)->List (List Key×Addr×Value)->Prop:=Paired fun p q=>p.1=q.1/\H q.2.1=some (.tup (p.1.map kV))/\RelV p.2 q.2.2
theorem KT.val {H:Hp}{kvs:List (List Key×V)}{xs:List (List Key×Addr×Value)}(r:KT H kvs xs)(k:List Key):pU (og kvs k) ((atKey xs k).map (·.2)):=by
 induction r with
 | nil=>exact True.intro
 | @cons p q ps qs h t ih=>
   obtain⟨h1,_,h2⟩:=h
   by_cases e:p.1=k
   . have e':q.1=k:=h1.symm.trans e
     have b:atKey (q::qs) k=some q.2:=by simp[atKey,List.find?_cons,e']
     rw[oE e,b];exact h2
   . have e':¬ q.1=k:=fun z=>e (h1.trans z)
     have b:atKey (q::qs) k=atKey qs k:=by simp[atKey,List.find?_cons,e']
     rw[mC e,b];exact ih
theorem KT.Pr {H:Hp}{kvs:List (List Key×V)}{xs:List (List Key×Addr×Value)}(r:KT H kvs xs)(k:List Key){y:V}{u:Value}(ry:RelV y u):KT H (kvs.map fun kv=>if kv.1=k then (kv.1,y) else kv) (xs.map (putAt k u)):=by
 induction r with
 | nil=>exact .nil
 | @cons p q ps qs h t ih=>
   rw[List.map_cons,List.map_cons]
   refine .cons ?_ ih
   obtain⟨h1,h2,h3⟩:=h
   unfold putAt
   by_cases e:p.1=k
   . rw[if_pos e,if_pos (h1.symm.trans e)];exact⟨h1,h2,ry⟩
   . rw[if_neg e,if_neg (fun z=>e (h1.trans z))];exact⟨h1,h2,h3⟩
theorem KT.put {H:Hp}{kvs:List (List Key×V)}{xs:List (List Key×Addr×Value)}(r:KT H kvs xs)(k:List Key){b:Addr}{y:V}{u:Value}(hb:H b=some (.tup (k.map kV)))(ry:RelV y u):KT H (putK kvs k y) (storedH xs k b u):=by
 have e:(kvs.any fun kv=>decide (kv.1=k))=(atKey xs k).isSome:=by
   rw[qP,(r.val k).rV,Option.isSome_map]
 unfold putK storedH
 rw[e]
 by_cases q:(atKey xs k).isSome=true
 . rw[if_pos q,if_pos q];exact r.Pr k ry
 . rw[if_neg q,if_neg q];exact Paired.snoc r ⟨rfl,hb,ry⟩
theorem KT.keeps {H H':Hp}{kvs:List (List Key×V)}{xs:List (List Key×Addr×Value)}(r:KT H kvs xs)(ht:∀ b ys,H b=some (.tup ys)->H' b=some (.tup ys)):KT H' kvs xs:=
 Paired.OQ r fun _ _ z=>⟨z.1,ht _ _ z.2.1,z.2.2⟩
section
variable {P:Program}{w:World}{H:Hp}{h:Heap}{a:Addr}
theorem NV {u:HO}(ok:qG P w H h)(e:Rd H a u):aP P w H h a u:=e.ok ok
theorem xP {kvs:List (Key×V)}(ok:qG P w H h)(e:Rd H a (.dK kvs)):kvs.length<=sizeLine/\(a == sysModules)=false/\∃ vs,KV kvs vs/\h.DictOf (cv P w) a vs:=
 show aP P w H h a (.dK kvs) from NV ok e
theorem NW {kvs:List (Key×V)}(ok:qG P w H h)(e:H a=some (.dK kvs)):kvs.length<=sizeLine/\(a == sysModules)=false/\∃ vs,KV kvs vs/\h.DictOf (cv P w) a vs:=xP ok (.inl e)
theorem yF {ks:List Key}(ok:qG P w H h)(e:H a=some (.tup (ks.map kV))):(tupleKind (cv P w)).is h ks a:=by
 obtain⟨_,aG,r,o,h1,h2,n,h3⟩:=(show aP P w H h a (.tup (ks.map kV)) from ok a _ e)
 exact⟨o,aG.toArray,n,h1,h2,h3,by simpa using xO r⟩
theorem DV {kvs:List (List Key×V)}(ok:qG P w H h)(e:Rd H a (.dT kvs)):kvs.length<=sizeLine/\(a == sysModules)=false/\∃ xs,KT H kvs xs/\h.DictOfH (tupleKind (cv P w)) a xs:=by
 obtain⟨z,y,xs,r,o,es,ep,h1,h2,h3,h4,h5⟩:=(show aP P w H h a (.dT kvs) from NV ok e)
 refine⟨z,y,xs,r,o,es,ep,h1,h2,h3,h4,fun x hx=>?_,h5⟩
 have all:∀ {l:List (List Key×V)} {m:List (List Key×Addr×Value)},KT H l m->∀ x∈m,(tupleKind (cv P w)).is h x.1 x.2.1:=by
   intro l m q
   induction q with
   | nil=>intro x hx;exact nomatch hx
   | @cons p q ps qs hq t ih=>
     intro x hx
     rcases List.mem_cons.mp hx with e | hx
     . subst e
       exact yF ok (by rw[<- hq.1];exact hq.2.1)
     . exact ih x hx
 exact all r x hx
theorem Ta {kvs:List (List Key×V)}(ok:qG P w H h)(e:H a=some (.dT kvs)):kvs.length<=sizeLine/\(a == sysModules)=false/\∃ xs,KT H kvs xs/\h.DictOfH (tupleKind (cv P w)) a xs:=DV ok (.inl e)
end
noncomputable def rW (H:Hp)(a:Addr)(y:V)(r:Option V):Prop:=
 (∃ kvs k,Rd H a (.dK kvs)/\y=kV k/\r=og kvs k)\/∃ kvs k b,Rd H a (.dT kvs)/\y=.ref b/\H b=some (.tup (k.map kV))/\r=og kvs k
noncomputable def FI (H:Hp)(a:Addr)(y v:V)(H':Hp):Prop:=
 (∃ kvs k,H a=some (.dK kvs)/\y=kV k/\kvs.length < sizeLine/\H'=upd H a (.dK (putK kvs k v))) \/
 ∃ kvs k b,H a=some (.dT kvs)/\y=.ref b/\H b=some (.tup (k.map kV))/\kvs.length < sizeLine/\H'=upd H a (.dT (putK kvs k v))
theorem rW.k {H:Hp}{a:Addr}{kvs:List (Key×V)}{k:Key}(e:H a=some (.dK kvs)):rW H a (kV k) (og kvs k):=.inl ⟨kvs,k,.inl e,rfl,rfl⟩
theorem FI.k {H:Hp}{a:Addr}{kvs:List (Key×V)}{k:Key}{v:V}(e:H a=some (.dK kvs))(hl:kvs.length < sizeLine):FI H a (kV k) v (upd H a (.dK (putK kvs k v))):=.inl ⟨kvs,k,e,rfl,hl,rfl⟩
section
variable {X:Cx}{pins:List (Addr×Obj)}{σ:St}{H:Hp}{s:Shared}{a:Addr}{y v:V}{u r:Value}{o:Option V}{A:Around}{E:Value->Shared->Prop}
theorem Inv.big (I:Inv X pins σ H s):sysModules < s.heap.objs.size:=by
 have h:mainGlobals < s.heap.objs.size:=(I.mod.glob.keeps I.bk).lt
 exact Nat.lt_trans (by decide) h
theorem FJ {Q:Value->Shared->Prop}(hu:A.units+1 < cLine)(I:Inv X pins σ H s)(g:rW H a y (some v))(ry:RelV y u)(h:∀ w' s',Inv X pins σ H s'->RelV v w'->Q w' s'):wpAny (model X.prog X.w) A (getItem (.ref a) u) Q E s:=by
 rcases g with⟨kvs,k,e,ey,l⟩ | ⟨kvs,k,b,e,ey,eb,l⟩
 . subst ey
   obtain⟨z,hd,vs,rel,dd⟩:=xP I.bH e
   obtain⟨w',hw,LB⟩:=pU.some_of (v:=v) (o:=valueAt vs k) (by rw[l];exact rel.val k)
   exact wpAny_getItem_of (AN ry) dd.mapOf hw (h w' _ (I.tok _) LB)
 . subst ey
   cases (show u=Value.ref b from ry)
   obtain⟨z,hd,xs,rel,dd⟩:=DV I.bH e
   obtain⟨w',hw,LB⟩:=pU.some_of (v:=v) (o:=(atKey xs k).map (·.2)) (by rw[l];exact rel.val k)
   obtain⟨p,hp,yG⟩:=Option.map_eq_some_iff.mp hw
   refine wpAny_getItem_heap (tupleKind_room_in1 hu) (yF I.bH eb) dd hp ?_
   rw[yG]
   exact h w' _ (I.tok _) LB
theorem LH {Q:Value->Shared->Prop}(hu:A.units+1 < cLine)(I:Inv X pins σ H s)(g:rW H a y o)(ry:RelV y u)(h:∀ s',Inv X pins σ H s'->Q (.bool (!o.isSome)) s'):wpAny (model X.prog X.w) A (compareOp .NotIn u (.ref a)) Q E s:=by
 rcases g with⟨kvs,k,e,ey,l⟩ | ⟨kvs,k,b,e,ey,eb,l⟩
 . subst ey
   obtain⟨z,hd,vs,rel,dd⟩:=xP I.bH e
   refine wpAny_notIn_of (AN ry) hd dd.mapOf ?_
   rw[<- (rel.val k).rV,<- l]
   exact h _ (I.tok _)
 . subst ey
   cases (show u=Value.ref b from ry)
   obtain⟨z,hd,xs,rel,dd⟩:=DV I.bH e
   refine wpAny_notIn_heap (tupleKind_room_in1 hu) (yF I.bH eb) hd dd ?_
   have q:=(rel.val k).rV
   rw[Option.isSome_map] at q
   rw[<- q,<- l]
   exact h _ (I.tok _)
theorem lZ {h':Heap}{t':Nat}{ob:HO}(I:Inv X pins σ H s)(mu:RO (H a))(hs:Heap.SameBut a s.heap h')(he:∃ q,h'.get? a=some q)(new:aP X.prog X.w (upd H a ob) h' a ob):Inv X pins σ (upd H a ob) { s with heap:=h',toks:=t'}:=
 I.write (x:=a) (e:=a) mu (.inl rfl) (fun b q hb z=>(hs.2 b hb).trans z) he new
theorem Hz {P:Program}{w:World}{H':Hp}{h':Heap}{kvs:List (Key×V)}{vs:List (Key×Value)}(z:kvs.length<=sizeLine)(hd:(a == sysModules)=false)(rel:KV kvs vs)(dd:h'.DictOf (cv P w) a vs):aP P w H' h' a (.dK kvs):=⟨z,hd,vs,rel,dd⟩
theorem FK {H':Hp}{Q:Unit->Shared->Prop}(hu:A.units+1 < cLine)(I:Inv X pins σ H s)(g:FI H a y v H')(ry:RelV y u)(rv:RelV v r)(h:∀ s',Inv X pins σ H' s'->Q () s'):wpAny (model X.prog X.w) A (setItem (.ref a) u r) Q E s:=by
 rcases g with⟨kvs,k,e,ey,l,eH⟩ | ⟨kvs,k,b,e,ey,eb,l,eH⟩
 . subst ey eH
   obtain⟨z,hd,vs,rel,dd⟩:=NW I.bH e
   have hz:vs.length<=sizeLine:=by rw[<- rel.length];exact z
   have hl:(putK kvs k v).length<=sizeLine:=by have:=tu kvs k v;omega
   refine wpAny_setItem_pairs (hsz:=hz) (AN ry) dd fun h' Pt hs=>h _ ?_
   have he:∃ q,h'.get? a=some q:=let ⟨q,_,_,hq,_⟩:=Pt;⟨q,hq⟩
   exact lZ I (by rw[e];exact True.intro) hs he (Hz hl hd (rel.put k rv) Pt)
 . subst ey eH
   cases (show u=Value.ref b from ry)
   obtain⟨z,hd,xs,rel,dd⟩:=Ta I.bH e
   have hz:xs.length<=sizeLine:=by rw[<- Paired.length rel];exact z
   have hl:(putK kvs k v).length<=sizeLine:=by have:=tu kvs k v;omega
   refine wpAny_setItem_heap (hsz:=hz) (tupleKind_room_in1 hu) (yF I.bH eb) dd fun h' Pt hs=>h _ ?_
   obtain⟨q,es,ep,hq,h2,h3,h4,_,h5⟩:=Pt
   refine lZ I (by rw[e];exact True.intro) hs ⟨q,hq⟩ ⟨hl,hd,_,(rel.put k eb rv).keeps fun c ys ec=>?_,q,es,ep,hq,h2,h3,h4,h5⟩
   rw[ag (Sd ec e (fun z=>nomatch z))]
   exact ec
end
noncomputable def HA (i:Expr):Prop:=∀ ov iv,subscripted i false ov iv=operate [ov,iv] (getItem ov iv)
theorem LI {prog:Program}{w:World}{A:Around}{E:Value->Shared->Prop}{s:Shared}{env:Env}{value slice:Expr}{pos:Pos}{T id:String}{Q:Value->Shared->Prop}(hl:typeLookup (.type T) "__getitem__"=pure (some (.builtin id)))(hs:HA slice)(h:wpAny (model prog w) A (eval value env) (fun o s₁=>wpAny (model prog w) A (eval slice env) (fun i s₂=>s₂.TypeIs o T/\wpAny (model prog w) A (getItem o i) Q E s₂) E s₁) E s):wpAny (model prog w) A (eval (.Subscript value slice pos) env) Q E s:=by
 refine Subscript_ (wpAny_mono h (fun o s₁ h₁=>wpAny_mono h₁ (fun i s₂ h₂=>?_) fun _ _ x=>x) fun _ _ x=>x)
 obtain⟨hT,h₂⟩:=h₂
 unfold subscriptTail
 refine wpAny_bind ?_
 rw[getitemInPython_of_ne hT.not_modules]
 refine wpAny_bind (wpAny_specialOf hT hl ?_)
 have fin:wpAny (model prog w) A (subscripted slice false o i) (fun r s₃=>wpAny (model prog w) A (letTemporaryGo value o r >>= fun _=>pure r) Q E s₃) E s₂:=by
   rw[hs o i]
   exact wpAny_operating (wpAny_mono h₂ (fun r s₃ h₃=>wpAny_bind (wpAny_letTemporaryGo (wpAny_pure h₃))) fun _ _ x=>x)
 first
   | exact wpAny_pure (wpAny_bind fin)
   | exact wpAny_bind (wpAny_pure (wpAny_bind fin))
   | exact wpAny_bind fin
theorem AO {X:Cx}{pins:List (Addr×Obj)}{σ:St}{H:Hp}{s:Shared}{a:Addr}{y:V}{o:Option V}(I:Inv X pins σ H s)(g:rW H a y o):s.TypeIs (.ref a) "dict":=by
 rcases g with⟨kvs,k,e,_,_⟩ | ⟨kvs,k,b,e,_,_,_⟩
 . obtain⟨_,_,vs,_,dd⟩:=xP I.bH e
   exact dd.typeIs
 . obtain⟨_,_,xs,_,dd⟩:=DV I.bH e
   exact dd.typeIs
noncomputable def Tb (td ty:TE):TE:=fun σ H Q=>td σ H fun x H1=>ty σ H1 fun y H2=>∃ a v,x=.ref a/\rW H2 a y (some v)/\Q v H2
noncomputable def WT (ty td:TE):TE:=fun σ H Q=>ty σ H fun y H1=>td σ H1 fun x H2=>∃ a o,x=.ref a/\rW H2 a y o/\Q (.bl o.isSome) H2
noncomputable def DW (ty td:TE):TE:=fun σ H Q=>ty σ H fun y H1=>td σ H1 fun x H2=>∃ a o,x=.ref a/\rW H2 a y o/\Q (.bl (!o.isSome)) H2
noncomputable def Tc (td ty tv:TE):TS:=fun D σ H=>tv σ H fun v H1=>td σ H1 fun x H2=>ty σ H2 fun y H3=>∃ a H4,x=.ref a/\FI H3 a y v H4/\D.nx σ H4
section
variable {X:Cx}{o i value:Expr}{pos pos':Pos}{td ty tv:TE}
theorem yH (hu:X.A.units+1 < cLine)(ho:PE X o td)(hi:PE X i ty)(hs:HA i):PE X (.Subscript o i pos) (Tb td ty):=by
 intro pins s σ H Q I h
 refine LI PySem.F.slot_dict_getitem.lookup hs (b7 (ho pins s σ H _ I h) fun u s1 ⟨x,H1,I1,rx,q1⟩=>b7 (hi pins s1 σ H1 _ I1 q1) fun iv s2 ⟨y,H2,I2,ry,a,v,ex,g,q2⟩=>?_)
 subst ex
 obtain rfl:u=Value.ref a:=rx
 exact⟨AO I2 g,FJ hu I2 g ry fun w' s3 I3 LB=>⟨v,H2,I3,LB,q2⟩⟩
theorem xQ (hu:X.A.units+1 < cLine)(hi:PE X i ty)(ho:PE X o td):PC X .NotIn i o (DW ty td):=by
 intro pins s σ H Q I h
 refine b7 (hi pins s σ H _ I h) fun iv s1 ⟨y,H1,I1,ry,q1⟩=>b7 (ho pins s1 σ H1 _ I1 q1) fun u s2 ⟨x,H2,I2,rx,a,ov,ex,g,q2⟩=>?_
 subst ex
 obtain rfl:u=Value.ref a:=rx
 exact LH hu I2 g ry fun s3 I3=>⟨.bl (!ov.isSome),H2,I3,rfl,q2⟩
theorem DX (hu:X.A.units+1 < cLine)(ho:PE X o td)(hi:PE X i ty)(hv:PE X value tv)(hs:swapsWith value (some (.Subscript o i pos')) pos.line X.env=pure false):PS X (.Assign [.Subscript o i pos'] value pos) (Tc td ty tv):=by
 intro pins s σ H D I h
 refine wpAny_Assign_Subscript (b7 (hv pins s σ H _ I h) fun r s1 ⟨v,H1,I1,rv,q1⟩=>b7 (ho pins s1 σ H1 _ I1 q1) fun u s2 ⟨x,H2,I2,rx,q2⟩=>b7 (hi pins s2 σ H2 _ I2 q2) fun iv s3 ⟨y,H3,I3,ry,a,H4,ex,g,q3⟩=>?_) hs
 subst ex
 obtain rfl:u=Value.ref a:=rx
 exact FK hu I3 g ry rv fun s4 I4=>⟨σ,H4,I4,q3⟩
end
theorem AQ {P:Program}{w:World}{H:Hp}(h:Heap)(hb:sysModules < h.objs.size):aP P w H (h.push { cls:=.type "dict",data:=.dict #[]}) h.objs.size (.dK []):=
 ⟨Nat.zero_le _,beq_eq_false_iff_ne.mpr (Ne.symm (Nat.ne_of_lt hb)),[],.nil,Heap.DictOf.new h⟩
noncomputable def Pu:TE:=fun _ H Q=>∀ p,H p=none->Q (.ref p) (upd H p (.dK []))
section
variable {X:Cx}{pos:Pos}
theorem AR:PE X (.Dict [] [] pos) Pu:=fun pins s σ H Q I h=>
 wpAny_Dict_empty ⟨.ref s.heap.objs.size,_,I.laid (a:=s.heap.objs.size) (o:=.dK []) (t':=s.toks) (fun _ _ q=>Heap.get?_push_of_some _ q) (Nat.le_refl _) (AQ s.heap I.big),rfl,h _ (I.bH.fresh (Nat.le_refl _))⟩
end
structure M1 (X:Cx)(o:Expr)(m:Str)(apos:Pos)(e:Expr)(bY:Pos):Prop where
 base:attributeBase o m X.env (eval o X.env)=eval o X.env
 few:((backTo bY (starEach [e] X.env)).all (fun x=>!x.1) && (backToKw bY (keywordEach [] X.env)).all (fun x=>x.1.isSome)
   && decide (([e]:List Expr).length+([]:List Keyword).length+(if ([]:List Keyword).isEmpty then 0 else 1) < 30))=true
 line:(apos.endLine == bY.line)=true
 trees:backTo bY (starEach [e] X.env)=[(false,eval e X.env)]
structure M2 (X:Cx)(o:Expr)(m:Str)(apos:Pos)(e f:Expr)(bY:Pos):Prop where
 base:attributeBase o m X.env (eval o X.env)=eval o X.env
 few:((backTo bY (starEach [e,f] X.env)).all (fun x=>!x.1) && (backToKw bY (keywordEach [] X.env)).all (fun x=>x.1.isSome)
   && decide (([e,f]:List Expr).length+([]:List Keyword).length+(if ([]:List Keyword).isEmpty then 0 else 1) < 30))=true
 line:(apos.endLine == bY.line)=true
 trees:backTo bY (starEach [e,f] X.env)=[(false,eval e X.env),(false,eval f X.env)]
end L2
namespace Att
open PySem PySem.W PySem.Calls PyProof.Rows
theorem tM {P:Params}{h:Heap}:∀ (ns:List Int) (vs:List Value),WellAll P h vs (ns.map WData.int)->IntsAre vs ns:=by
 intro ns
 induction ns with
 | nil=>
   intro vs w
   rw[List.map_nil] at w
   cases w
   exact .nil
 | cons n ns ih=>
   intro vs w
   rw[List.map_cons] at w
   cases w with
   | cons a b=>
     cases a
     exact .cons _ _ (ih _ b)
theorem FL {l:OpenLaw}{n:Nat}(hn:l.most=some n){P:Params}{h:Heap}{args:List WData}{vals:List Value}(LJ:l.row.toRowW.claim.pre args=true)(DY:WellAll P h vals args):∃ a vs ns,vals=[Value.ref a]/\args=[WData.list (ns.map WData.int)]/\h.get? a=some { cls:=.type "list",data:=.seq vs.toArray}/\IntsAre vs ns/\ns.length<=n:=by
 have hsh:WShape.hasAll [] args [.list .int]=true:=(pre_splitW LJ).1
 have hc:l.pre.holds [] { args:=args}=true:=(pre_splitW LJ).2
 obtain⟨d,r,rfl,h1,h2⟩:=hasAllW_cons hsh
 obtain rfl:=hasAllW_nil h2
 obtain⟨xs,rfl,h3⟩:=hasW_list h1
 obtain⟨ns,rfl⟩:=items_int h3
 have hlen:ns.length<=n:=by
   unfold OpenLaw.pre at hc
   have h4:(WTm.not (.lt (.lit (.int (n:Int))) (.len (.arg 0)))).holds [] { args:=[.list (ns.map .int)]}=true:=by
     have h4:=(holds_andW hc).1
     rw[hn] at h4
     exact h4
   have h5:=condW_of h4 (w_not (w_lt w_lit (w_len_list (w_arg rfl))))
   rw[List.length_map] at h5
   refine Nat.le_of_not_lt fun q=>?_
   have q':(n:Int) < ((ns.length:Nat):Int):=by omega
   first
     | (rw[decide_eq_true q'] at h5;exact absurd h5 (by decide))
     | (simp at h5;omega)
 cases DY with
 | cons w1 w2=>
   cases w2
   cases w1 with
   | list ho WU=>exact⟨_,_,ns,rfl,rfl,ho,tM ns _ WU,hlen⟩
theorem FN (l:OpenLaw)(args:List WData):l.row.toRowW.claim.post args (.bool true) args=true:=
 postW_of (r:=l.row.toRowW) (X:=(true == true))
   (show WShape.has [] (.bool true) .bool=true by first | rfl | decide | simp[WShape.has,WShape.arms,WShape.armsAll])
   (show(WTm.eq .res (.lit (.bool true))).value [] { args:=args,res:=some (.bool true),after:=args}=some (.bool (true == true)) from w_eq_bool (w_res rfl) w_lit) rfl
theorem AS {l:OpenLaw}{n:Nat}{q:Program}{loose:List Str}{XP:(Str->Option Value)->Heap->Prop}{YP:World->Heap->Prop}{d:DefRec}(hn:l.most=some n)(Td:d.params.defaults=[])(call:∀ (w:World) (s₀ s₁:Shared) (mg mb:Str->Option Value) (fa:Addr) (o:Obj) (pm cd doc:Value) (a:Addr) (vs:List Value) (ns:List Int),Ground q loose [] XP w s₀ mg mb s₁.heap->YP w s₁.heap->s₁.heap.get? fa=some o->o.data=.func (docDef d.name d.params d.body d.scope pm cd doc)->s₁.heap.CodeRec cd d.name->mg d.name=some (.ref fa)->s₁.heap.get? a=some { cls:=.type "list",data:=.seq vs.toArray}->IntsAre vs ns->ns.length<=n->s₁.gens=#[]->codeAny (model l.prog w) callerA (.call (.ref fa) ⟨[.ref a],[]⟩) (fun r s'=>r=.ok (.ret (.bool true))/\OldK s₁.heap s'.heap/\s'.os=s₁.os/\AllBare s'.gens) s₁):WalkO q loose XP YP l.row.toRowW d [] (fun f vs=>PySem.call f vs):=by
 intro w s₀ s₁ mg mb G Y fa o pm cd doc dV kV ho hd my hD Te hg args vals as LJ aaO NX DY hlo
 obtain rfl:dV=.none:=Dflts.none hD Td
 obtain rfl:kV=.none:=Dflts.noKw hD
 obtain⟨a,vs,ns,rfl,rfl,Pw,hints,hlen⟩:=FL hn LJ DY
 refine enter_call (codeAny_mono (call w s₀ s₁ mg mb fa o pm cd doc a vs ns G Y ho (fd_plain hd) my Te Pw hints hlen hg) fun r s' hq=>?_)
 obtain⟨rfl,h2,h3,h4⟩:=hq
 exact⟨.inl ⟨.bool true,.bool true,[],rfl,fun _=>rfl,.bool true,FN l _,fun _=>⟨List.Pairwise.nil,fun _ hm=>(nomatch hm)⟩⟩,h2,h3,h4⟩
end Att
namespace L2
open PySem PySem.Spec PyProof.Rows
theorem o9:∀ {vs:List Value} {ns:List Int},IntsAre vs ns->Vals (ns.map V.int) vs
 | _,_,.nil=>.nil
 | _,_,.cons n t h=>.cons ⟨t,rfl⟩ (o9 h)
noncomputable def LK (H:Hp):Prop:=∀ b,H b=none\/∃ o xs,H b=some (.bw o (.lst xs))
theorem HB {P:Program}{w:World}{K:W.Frag}{mg mb:Str->Option Value}{CX:rT}{k:Nat}{fa a:Addr}{fd:FuncData}{x:Str}{sp:Sp}{s₁:Shared}{vs:List Value}{ns:List Int}(KX:K.In s₁.heap)(GQ:s₁.heap.Ns mainGlobals mg)(hb:s₁.heap.Ns builtinsNs mb)(hbb:∀ x:Str,x≠"__name__"->mb x=bootBuiltins x)(WV:s₁.heap.NoLimit)(hg:s₁.gens=#[])(ha:s₁.heap.get? a=some { cls:=.type "list",data:=.seq vs.toArray})(hi:IntsAre vs ns)(hl:ns.length<=sizeLine)(hr:fj k callerA)(F:∀ base:Heap,K.In base->base.Ns mainGlobals mg->ke P w K mg base CX k fa fd [x] sp)(Tf:∀ (s:Shared) (u:Value),BindsTo s fd ⟨[u],[]⟩ [(x,u)])(NU:∀ H:Hp,LK H->oe K H a (ns.map V.int)->sp [.ref a] H (fun v _=>v=.bl true) fun _ _ _=>False)(Tg:∀ H e s',CX [] H s₁ (fun _ _ _=>False) e s'->False):codeAny (model P w) callerA (.call (.ref fa) ⟨[.ref a],[]⟩) (fun r s'=>r=.ok (.ret (.bool true))/\OldK s₁.heap s'.heap/\s'.os=s₁.os/\AllBare s'.gens) s₁:=by
 have rv:=o9 hi
 have WW:=hi.length
 have core:∀ H:Hp,LK H->oe K H a (ns.map V.int)->qG P w H s₁.heap->(∀ b,H b≠none->b=a)->(H a≠none->K.lookup a=none) ->
     codeAny (model P w) callerA (.call (.ref fa) ⟨[.ref a],[]⟩) (fun r s'=>r=.ok (.ret (.bool true))/\OldK s₁.heap s'.heap/\s'.os=s₁.os/\AllBare s'.gens) s₁:=by
   intro H hO hS bH hA hK
   have DZ:∀ {b:Addr} {o:Obj},s₁.heap.get? b=some o->H b=none->(yw s₁.heap H).get? b=some o:=fun e n=>G5 e n
   have SS:∀ {b:Addr} {o:Obj} {es:Array DictEntry} {ep:Nat},s₁.heap.get? b=some o->o.data=.dict es ep->H b=none:=fun {b o es ep} e d=>by
     cases q:H b with
     | none=>rfl
     | some u=>
       have e':b=a:=hA b (by rw[q];simp)
       subst e'
       rw[ha] at e;cases e
       have d':Data.seq vs.toArray _=Data.dict es ep:=d
       cases d'
   have VC:∀ {b:Addr} {m:Str->Option Value},s₁.heap.Ns b m->(yw s₁.heap H).Ns b m:=fun {b m} ⟨o,es,ep,e,d,r⟩=>⟨o,es,ep,DZ e (SS e d),d,r⟩
   have Za:K.In (yw s₁.heap H):=fun b o e=>DZ (KX b o e) (by
     cases q:H b with
     | none=>rfl
     | some u=>
       have e':b=a:=hA b (by rw[q];simp)
       subst e'
       rw[hK (by rw[q];simp)] at e;cases e)
   have hM:Mod K mg (yw s₁.heap H):=⟨Za,VC GQ,⟨mb,VC hb,hbb⟩,let ⟨mc,h1,h2⟩:=WV;⟨mc,VC h1,h2⟩⟩
   have e0:AF P w K mg (yw s₁.heap H) callerA [] s₁ H:=⟨rfl,hM,fun b o e=>Lj e,Nat.le_of_eq (Fq _ _),trivial,fun b hb=>absurd (show b∈([]:List Addr) from hb) (by simp),bH,.of_eq hg⟩
   refine codeAny_mono ((F _ Za (VC GQ)).run callerA [] s₁ H ⟨[.ref a],[]⟩ [.ref a] [.ref a] _ _ hr e0 (Tf s₁ (.ref a)) (.cons rfl .nil) (NU H hO hS)) fun r s' h=>?_
   cases r with
   | error e=>exact(Tg H e s' h).elim
   | ok fl=>
     cases fl with
     | next=>exact False.elim h
     | brk=>exact False.elim h
     | cont=>exact False.elim h
     | ret u=>
       obtain⟨v,H',os,bare,un,WX,r',q⟩:=h
       have q':v=.bl true:=q
       subst q'
       obtain rfl:u=Value.bool true:=r'
       refine⟨rfl,OldK.of_keep fun b o e=>?_,os,bare⟩
       cases q:H b with
       | none=>exact un.keep b o e q (by intro z;exact absurd (show b∈([]:List Addr) from z) (by simp)) (by simp)
       | some u=>
         rcases hO b with z | ⟨ob,xs,z⟩
         . rw[q] at z;cases z
         . have z2:=un.yv b ob _ z
           obtain⟨e1,_⟩:=bH b _ z
           obtain⟨e2,_⟩:=WX b _ z2
           rw[e] at e1;cases e1
           exact e2
 cases hk:K.lookup a with
 | some o=>
   have e:=KX a o hk
   rw[ha] at e
   cases e
   refine core (fun _=>none) (fun _=>.inl rfl) (.inr ⟨_,vs.toArray,_,hk,rfl,rfl,rfl,by rw[List.size_toArray,WW];exact hl,by simpa using rv⟩) (fun b u z=>by have z':(none:Option HO)=some u:=z;cases z') (fun b z=>absurd rfl z) fun z=>absurd rfl z
 | none=>
   refine core (fun b=>if b=a then some (.bw { cls:=.type "list",data:=.seq vs.toArray} (.lst (ns.map V.int))) else none) (fun b=>?_) (.inl (.inr (.inl ⟨{ cls:=.type "list",data:=.seq vs.toArray},if_pos rfl⟩))) (fun b u z=>?_) (fun b z=>?_) fun _=>hk
   . by_cases hb:b=a
     . exact .inr ⟨_,_,if_pos hb⟩
     . exact .inl (if_neg hb)
   . by_cases hb:b=a
     . have z':=(if_pos hb).symm.trans z
       cases z'
       subst hb
       exact⟨ha,by rw[List.length_map];exact hl,vs,_,rv,ha⟩
     . have z':=(if_neg hb).symm.trans z
       cases z'
   . by_cases hb:b=a
     . exact hb
     . exact absurd (if_neg hb) z
noncomputable abbrev Zb {K:W.Frag}{h:Heap}(_:K.In h):W.Frag:=K
theorem LL {l:W.OpenLaw}{n k:Nat}{q:Program}{loose:List Str}{XP:(Str->Option Value)->Heap->Prop}{YP:World->Heap->Prop}{d:DefRec}{K:Params->W.Frag}{CX:World->rT}{sp:World->Sp}{x:Str}(hn:l.most=some n)(RU:n<=sizeLine)(Td:d.params.defaults=[])(hr:fj k callerA)(hY:∀ (w:World) (h:Heap),YP w h->(K w.params).In h)(F:∀ (w:World) (mg:Str->Option Value) (fa:Addr) (h:Heap),(K w.params).In h->h.Ns mainGlobals mg->mg d.name=some (.ref fa)->∃ fd:FuncData,(∀ (s:Shared) (u:Value),BindsTo s fd ⟨[u],[]⟩ [(x,u)])/\∀ base:Heap,(K w.params).In base->base.Ns mainGlobals mg->ke l.prog w (K w.params) mg base (CX w) k fa fd [x] (sp w))(NU:∀ (w:World) (H:Hp) (a:Addr) (ns:List Int),ns.length<=n->LK H->oe (K w.params) H a (ns.map V.int)->sp w [.ref a] H (fun v _=>v=.bl true) fun _ _ _=>False)(Tg:∀ (w:World) (H:Hp) (s:Shared) (e:Value) (s':Shared),CX w [] H s (fun _ _ _=>False) e s'->False):W.WalkO q loose XP YP l.row.toRowW d [] (fun f vs=>PySem.call f vs):=by
 refine Att.AS hn Td fun w s₀ s₁ mg mb fa o pm cd doc a vs ns G Y ho hd my Te Pw hints hlen hg=>?_
 have KX:=hY w _ Y
 obtain⟨fd,hb,hF⟩:=F w mg fa _ KX G.T.g Te
 exact HB KX G.T.g G.T.b G.T.builtins G.T.nolimit hg Pw hints (Nat.le_trans hlen RU) hr hF hb (fun H hO hS=>NU w H a ns hlen hO hS) fun H e s'=>Tg w H s₁ e s'
theorem HC {l:W.OpenLaw}{n k:Nat}{q:Program}{loose:List Str}{XP:(Str->Option Value)->Heap->Prop}{YP:World->Heap->Prop}{d:DefRec}{K:Params->W.Frag}{CX:rT}{sp:W.Frag->Sp}{x:Str}(hn:l.most=some n)(RU:n<=sizeLine)(Td:d.params.defaults=[])(hr:fj k callerA)(hY:∀ (w:World) (h:Heap),YP w h->(K w.params).In h)(F:∀ (w:World) (mg:Str->Option Value) (fa:Addr) (h:Heap),(K w.params).In h->h.Ns mainGlobals mg->mg d.name=some (.ref fa)->∃ fd:FuncData,(∀ (s:Shared) (u:Value),BindsTo s fd ⟨[u],[]⟩ [(x,u)])/\∀ base:Heap,(K w.params).In base->base.Ns mainGlobals mg->ke l.prog w (K w.params) mg base CX k fa fd [x] (sp (K w.params)))(NU:∀ (K:W.Frag) (H:Hp) (a:Addr) (ns:List Int),ns.length<=n->LK H->oe K H a (ns.map V.int)->sp K [.ref a] H (fun v _=>v=.bl true) fun _ _ _=>False)(Tg:∀ (H:Hp) (s:Shared) (e:Value) (s':Shared),CX [] H s (fun _ _ _=>False) e s'->False):W.WalkO q loose XP YP l.row.toRowW d [] (fun f vs=>PySem.call f vs):=
 LL (K:=K) (CX:=fun _=>CX) (sp:=fun w=>sp (K w.params)) hn RU Td hr hY F (fun w H a ns h1 h2 h3=>NU (K w.params) H a ns h1 h2 h3) fun _ H s e s'=>Tg H s e s'
noncomputable def inClass (s:Stmt)(j:Nat):Stmt:=match s with
 | .ClassDef _ _ _ body _ _ _ _ _ _ _=>body.getD j (.Pass ⟨0,0,0,0⟩)
 | _=>.Pass ⟨0,0,0,0⟩
noncomputable def b8 (s:Stmt):Arguments:=match s with
 | .FunctionDef _ a _ _ _ _ _ _ _ _=>a
 | _=>{ posonlyargs:=[],args:=[],vararg:=none,kwonlyargs:=[],kw_defaults:=[],kwarg:=none,defaults:=[]}
noncomputable def aB (s:Stmt):List Stmt:=match s with
 | .FunctionDef _ _ b _ _ _ _ _ _ _=>b
 | _=>[]
noncomputable def af (s:Stmt):Scope:=match s with
 | .FunctionDef _ _ _ _ _ _ sc _ _ _=>sc
 | _=>{ kind:=.function,names:=[],isGenerator:=false,isCoroutine:=false}
noncomputable abbrev Zc:rT:=fun _ _ _ _ _ _=>False
noncomputable abbrev E0:XK:=fun _ _ _=>False
structure RX (K:W.Frag)(x qual:Str)(st:Stmt)(f:Addr)(fd:FuncData):Prop where
 ex:∃ (oc:Value) (od:Option Addr) (kV doc pm:Value) (an:Option Addr) (bf ct:Value) (xM:Array (Option Value)),
   fd=W.fnOf x qual (b8 st) (aB st) (af st) .none kV doc pm an bf ct/\K.lookup f=some ⟨oc,od,.func fd,xM⟩/\W.codeIn K bf qual=true
 kp:W.keepIn K (.ref f)=true
section
variable {K:W.Frag}
theorem RX.binds {x qual:Str}{st:Stmt}{f:Addr}{fd:FuncData}{ps:List Str}(F:RX K x qual st f fd)(h:∀ (kV doc pm:Value) (an:Option Addr) (bf ct:Value) (us:List Value),us.length=ps.length->bindArgs (W.fnOf x qual (b8 st) (aB st) (af st) .none kV doc pm an bf ct) ⟨us,[]⟩=pure (ps.zip us)):Binds K fd ps []:=by
 obtain⟨oc,od,kV,doc,pm,an,bf,ct,xM,rfl,lk,my⟩:=F.ex
 exact .all (h kV doc pm an bf ct)
theorem vc {x qual:Str}{st:Stmt}{f:Addr}{oc:Value}{od an:Option Addr}{xM:Array (Option Value)}{kV doc pm bf ct:Value}(l:K.lookup f=some ⟨oc,od,.func (W.fnOf x qual (b8 st) (aB st) (af st) .none kV doc pm an bf ct),xM⟩)(c:W.codeIn K bf qual=true)(k:W.keepIn K (.ref f)=true):RX K x qual st f (W.fnOf x qual (b8 st) (aB st) (af st) .none kV doc pm an bf ct):=⟨⟨oc,od,kV,doc,pm,an,bf,ct,xM,rfl,l,c⟩,k⟩
end
theorem rX {n:Nat}(h:n<=1000):n < sizeLine:=Nat.lt_of_le_of_lt h (by decide)
theorem AU {A B:Prop}(h:B):if false=true then A else B:=by
 rw[if_neg Bool.false_ne_true]
 exact h
theorem AV {A B:Prop}(h:A):if true=true then A else B:=by
 rw[if_pos rfl]
 exact h
noncomputable def aE (H H':Hp):Prop:=∀ b o,H b=some o->H' b=some o
theorem aE.refl (H:Hp):aE H H:=fun _ _ h=>h
theorem aE.trans {H H1 H2:Hp}(a:aE H H1)(b:aE H1 H2):aE H H2:=fun c o h=>b c o (a c o h)
theorem aE.free {H H':Hp}(e:aE H H'){l:Addr}(h:H' l=Option.none):H l=Option.none:=by
 cases q:H l with
 | none=>rfl
 | some o=>
   rw[e l o q] at h
   cases h
theorem aE.seq {K:W.Frag}{H H':Hp}{a:Addr}{xs:List V}(e:aE H H')(h:oe K H a xs):oe K H' a xs:=by
 rcases h with(h | ⟨o,h⟩ | ⟨_,_,_,_,h⟩ | ⟨o,h⟩) | h
 . exact .inl (.inl (e _ _ h))
 . exact .inl (.inr (.inl ⟨o,e _ _ h⟩))
 . cases h
 . exact .inl (.inr (.inr (.inr ⟨o,e _ _ h⟩)))
 . exact .inr h
end L2
set_option maxHeartbeats 4000000
namespace Sg
open PySem PySem.Spec PyProof.Rows L2 PySem.Builtin PySem.Builtin.Getset_descriptor
noncomputable def WY (h:Heap)(x D:Addr):Prop:=∃ ox,h.get? x=some ox/\ox.cls=.ref D
structure TyX (K:W.Frag)(C:Addr):Prop where
 hc:(W.clsIn K C).isSome=true
 ga:W.findIn K (.ref C) "__getattribute__"=some (some (.builtin "BaseException.__getattribute__"))
 gt:W.findIn K (.ref C) "__getattr__"=some none
 be:W.mroIn K C (.type "BaseException")=some true
 ha:W.findIn K (.ref C) "__class__"=some (some (.builtin "object.__class__"))
 hn:W.specialIn K (.builtin "object.__class__") "__get__"=some (some (.builtin "getset_descriptor.__get__"))
 Y7:W.takesIn K (.builtin "object.__class__")=some true
 hm:W.mroIn K C (.type "object")=some true
end Sg
namespace Sg
open PySem PySem.Spec PyProof.Rows L2
noncomputable abbrev St:=L2.St
noncomputable def Th (h:Heap)(x C dx:Addr):Prop:=∃ ox,h.get? x=some ox/\ox.cls=.ref C/\ox.dict=some dx/\∃ vs,ox.data=.fields vs
inductive Dt where
 | c9
 | bl (b:Bool)
 | int (i:Int)
 | str (x:Str)
 | tup (ds:List Dt)
 | lst (ds:List Dt)
 | ow (ns:List Int)
 | dw (kvs:List (Key×Dt))
 | obj (C:Addr) (fs:List (Str×Dt))
 | ty (n:String)
 | cls (C:Addr)
 | xo (C:Addr)
 | mV (kvs:List (Key×Dt))
 | GR (C:Addr) (fs:List (Str×Dt))
 | eG (kvs:List (Key×Dt))
 | memo (a:Addr) (ls:km) (j n:Nat)
 | gc (a:Addr) (ls:km) (j n:Nat)
 | xR (a:Addr) (ls:km) (n:Nat)
 | yI (C:Addr) (fs:List (Str×Dt)) (gs:List (Nat->List (Key×FD))) (nm:List Str) (n:Nat)
 | i9 (fd:FD)
 | mW (NY:List (List Key×Int))
noncomputable def tw (fs:List (Str×Dt))(nm:List Str)(a:Addr)(ls:km)(n:Nat):List (Str×Dt):=fs ++ (List.range nm.length).map fun j=>(nm.getD j "",.memo a ls j n)
noncomputable def Known (H:Hp)(p:Addr)(f:Nat->List (Key×FD))(n:Nat):Prop:=∀ i,i < n->∃ q o kvs,H q=some (.kd (some (p,i)) o kvs)/\rK H kvs (f i)
noncomputable def b6 (H:Hp)(a:Addr)(ls:km):Prop:=H a=some (.memo ls)\/∃ ns,H a=some (.bK ls ns)
theorem Known.mono {H H':Hp}{p:Addr}{f:Nat->List (Key×FD)}{n:Nat}(e:∀ b u,H b=some u->H' b=some u)(h:Known H p f n):Known H' p f n:=fun i hi=>let ⟨q,o,kvs,h1,h2⟩:=h i hi;⟨q,o,kvs,e _ _ h1,h2.kp (.of e)⟩
theorem b6.mono {H H':Hp}{a:Addr}{ls:km}(e:∀ b u,H b=some u->H' b=some u)(h:b6 H a ls):b6 H' a ls:=h.imp (e _ _) fun⟨ns,z⟩=>⟨ns,e _ _ z⟩
mutual
inductive Rep (K:W.Frag)(H:Hp):V->Dt->Prop
 | c9:Rep K H .c9 .c9
 | bl (b:Bool):Rep K H (.bl b) (.bl b)
 | int (i:Int):Rep K H (.int i) (.int i)
 | str (x:Str):Rep K H (.str x) (.str x)
 | tup {a:Addr} {vs:List V} {ds:List Dt}:Cg K H a vs->bD K H vs ds->Rep K H (.ref a) (.tup ds)
 | lst {a:Addr} {vs:List V} {ds:List Dt}:H a=some (.lst vs)->bD K H vs ds->Rep K H (.ref a) (.lst ds)
 | ow {a:Addr} {ns:List Int}:oe K H a (ns.map V.int)->Rep K H (.ref a) (.ow ns)
 | dw {a:Addr} {kvs:List (Key×V)} {kds:List (Key×Dt)}:H a=some (.dK kvs)->cW K H kvs kds->Rep K H (.ref a) (.dw kds)
 | obj {a C dx:Addr} {fs:List (Str×V)} {ds:List (Str×Dt)}:Rd H a (.ins C dx fs)->bg K H fs ds->Rep K H (.ref a) (.obj C ds)
 | ty (n:String):Rep K H (.ty n) (.ty n)
 | cls (C:Addr):Rep K H (.ref C) (.cls C)
 | xo {a C:Addr} {ph:Heap->Prop}:H a=some (.ext ph)->(∀ h,ph h->WY h a C)->Rep K H (.ref a) (.xo C)
 | mV {a:Addr} {ob:Obj} {kvs:List (Key×V)} {kds:List (Key×Dt)}:H a=some (.bw ob (.dK kvs))->cW K H kvs kds->Rep K H (.ref a) (.mV kds)
 | GR {a C dx:Addr} {ph:Heap->Prop} {fs:List (Str×V)} {ds:List (Str×Dt)}:H a=some (.ext ph)->(∀ h,ph h->Th h a C dx)->H dx=some (.xd fs)->bg K H fs ds->Rep K H (.ref a) (.GR C ds)
 | eG {a:Addr} {tg:Option (Addr×Nat)} {ob:Obj} {kvs:List (Key×V)} {kds:List (Key×Dt)}:H a=some (.kd tg ob kvs)->cW K H kvs kds->Rep K H (.ref a) (.eG kds)
 | memo {a p:Addr} {ls:km} {j n:Nat} {f:Nat->List (Key×FD)}:ls[j]?=some (p,f)->H a=some (.memo ls)->(p=a\/H p=some (.part a))->Known H p f n->Rep K H (.ref p) (.memo a ls j n)
 | gc {a p:Addr} {ls:km} {j n:Nat} {f:Nat->List (Key×FD)}:ls[j]?=some (p,f)->b6 H a ls->(p=a\/H p=some (.part a))->Known H p f n->Rep K H (.ref p) (.gc a ls j n)
 | xR {a:Addr} {ls:km} {n:Nat}:(∀ (j:Nat) (p:Addr) (f:Nat->List (Key×FD)),ls[j]?=some (p,f)->Known H p f n)->Rep K H .c9 (.xR a ls n)
 | yI {s a C dx:Addr} {fv:List (Str×V)} {fs:List (Str×Dt)} {gs:List (Nat->List (Key×FD))} {nm:List Str} {n:Nat} {ls:km}:ls.map (·.2)=gs->Rd H s (.ins C dx fv)->bg K H fv (tw fs nm a ls n)->Rep K H (.ref s) (.yI C fs gs nm n)
 | i9 {v:V} {fd:FD}:Fz H v fd->Rep K H v (.i9 fd)
 | mW {a:Addr} {NY:List (List Key×Int)}:H a=some (.dT (NY.map fun k=>(k.1,V.int k.2)))->Rep K H (.ref a) (.mW NY)
inductive bD (K:W.Frag)(H:Hp):List V->List Dt->Prop
 | nil:bD K H [] []
 | cons {v:V} {d:Dt} {vs:List V} {ds:List Dt}:Rep K H v d->bD K H vs ds->bD K H (v::vs) (d::ds)
inductive cW (K:W.Frag)(H:Hp):List (Key×V)->List (Key×Dt)->Prop
 | nil:cW K H [] []
 | cons {k:Key} {v:V} {d:Dt} {vs:List (Key×V)} {ds:List (Key×Dt)}:Rep K H v d->cW K H vs ds->cW K H ((k,v)::vs) ((k,d)::ds)
inductive bg (K:W.Frag)(H:Hp):List (Str×V)->List (Str×Dt)->Prop
 | nil:bg K H [] []
 | cons {k:Str} {v:V} {d:Dt} {vs:List (Str×V)} {ds:List (Str×Dt)}:Rep K H v d->bg K H vs ds->bg K H ((k,v)::vs) ((k,d)::ds)
end
theorem jR {H H':Hp}{a:Addr}{u:HO}(e:aE H H')(h:Rd H a u):Rd H' a u:=by
 rcases h with h | ⟨o,h⟩ | ⟨tg,o,kvs,h,z⟩ | ⟨o,h⟩
 . exact .inl (e _ _ h)
 . exact .inr (.inl ⟨o,e _ _ h⟩)
 . exact .inr (.inr (.inl ⟨tg,o,kvs,e _ _ h,z⟩))
 . exact .inr (.inr (.inr ⟨o,e _ _ h⟩))
theorem gk {K:W.Frag}{H H':Hp}{a:Addr}{xs:List V}(e:aE H H')(h:Cg K H a xs):Cg K H' a xs:=by
 rcases h with h | h
 . exact .inl (e _ _ h)
 . exact .inr h
mutual
theorem Rep.mono {K:W.Frag}{H H':Hp}(e:aE H H'):∀ {v:V} {d:Dt},Rep K H v d->Rep K H' v d
 | _,_,.c9=>.c9
 | _,_,.bl b=>.bl b
 | _,_,.int i=>.int i
 | _,_,.str x=>.str x
 | _,_,.tup h r=>.tup (gk e h) (bD.mono e r)
 | _,_,.lst h r=>.lst (e _ _ h) (bD.mono e r)
 | _,_,.ow h=>.ow (e.seq h)
 | _,_,.dw h r=>.dw (e _ _ h) (cW.mono e r)
 | _,_,.obj h r=>.obj (jR e h) (bg.mono e r)
 | _,_,.ty n=>.ty n
 | _,_,.cls C=>.cls C
 | _,_,.xo h r=>.xo (e _ _ h) r
 | _,_,.mV h r=>.mV (e _ _ h) (cW.mono e r)
 | _,_,.GR h q g r=>.GR (e _ _ h) q (e _ _ g) (bg.mono e r)
 | _,_,.eG h r=>.eG (e _ _ h) (cW.mono e r)
 | _,_,.memo h1 h2 h3 h4=>.memo h1 (e _ _ h2) (h3.imp id fun z=>e _ _ z) (h4.mono e)
 | _,_,.gc h1 h2 h3 h4=>.gc h1 (h2.mono e) (h3.imp id fun z=>e _ _ z) (h4.mono e)
 | _,_,.xR h=>.xR fun j p f z=>(h j p f z).mono e
 | _,_,.yI h1 h2 h3=>.yI h1 (jR e h2) (bg.mono e h3)
 | _,_,.i9 h=>.i9 (h.st fun b u q _=>e b u q)
 | _,_,.mW h=>.mW (e _ _ h)
theorem bD.mono {K:W.Frag}{H H':Hp}(e:aE H H'):∀ {v:List V} {d:List Dt},bD K H v d->bD K H' v d
 | _,_,.nil=>.nil
 | _,_,.cons h r=>.cons (Rep.mono e h) (bD.mono e r)
theorem cW.mono {K:W.Frag}{H H':Hp}(e:aE H H'):∀ {v:List (Key×V)} {d:List (Key×Dt)},cW K H v d->cW K H' v d
 | _,_,.nil=>.nil
 | _,_,.cons h r=>.cons (Rep.mono e h) (cW.mono e r)
theorem bg.mono {K:W.Frag}{H H':Hp}(e:aE H H'):∀ {v:List (Str×V)} {d:List (Str×Dt)},bg K H v d->bg K H' v d
 | _,_,.nil=>.nil
 | _,_,.cons h r=>.cons (Rep.mono e h) (bg.mono e r)
end
theorem bD.length {K:W.Frag}{H:Hp}:∀ {v:List V} {d:List Dt},bD K H v d->v.length=d.length
 | _,_,.nil=>rfl
 | _,_,.cons _ r=>congrArg (·+1) (bD.length r)
theorem bD.get {K:W.Frag}{H:Hp}:∀ {v:List V} {d:List Dt} {i:Nat} {x:Dt},bD K H v d->d[i]?=some x->∃ y,v[i]?=some y/\Rep K H y x
 | _,_,_,_,.nil,e=>by simp at e
 | _,_,0,_,.cons h _,e=>by simp at e;subst e;exact⟨_,rfl,h⟩
 | _,_,i+1,x,.cons _ r,e=>by
   obtain⟨y,h1,h2⟩:=bD.get (i:=i) (x:=x) r (by simpa using e)
   exact⟨y,by simpa using h1,h2⟩
theorem bD.get' {K:W.Frag}{H:Hp}{v:List V}{d:List Dt}{i:Nat}{y:V}(r:bD K H v d)(e:v[i]?=some y):∃ x,d[i]?=some x/\Rep K H y x:=by
 have hi:i < v.length:=(List.getElem?_eq_some_iff.mp e).1
 have Px:i < d.length:=by rw[<- r.length];exact hi
 obtain⟨z,h1,h2⟩:=r.get (List.getElem?_eq_getElem Px)
 rw[e] at h1;cases h1
 exact⟨_,List.getElem?_eq_getElem Px,h2⟩
theorem bD.append {K:W.Frag}{H:Hp}:∀ {v:List V} {d:List Dt} {v':List V} {d':List Dt},bD K H v d->bD K H v' d'->bD K H (v ++ v') (d ++ d')
 | _,_,_,_,.nil,s=>s
 | _,_,_,_,.cons h r,s=>.cons h (bD.append r s)
theorem bD.take {K:W.Frag}{H:Hp}:∀ {v:List V} {d:List Dt} (n:Nat),bD K H v d->bD K H (v.take n) (d.take n)
 | _,_,0,_=>.nil
 | _,_,_+1,.nil=>.nil
 | _,_,n+1,.cons h r=>.cons h (bD.take n r)
theorem bD.set {K:W.Frag}{H:Hp}{y:V}{x:Dt}(q:Rep K H y x):∀ {v:List V} {d:List Dt} (n:Nat),bD K H v d->bD K H (v.set n y) (d.set n x)
 | _,_,_,.nil=>.nil
 | _,_,0,.cons _ r=>.cons q r
 | _,_,n+1,.cons h r=>.cons h (bD.set q n r)
theorem bg.lookup {K:W.Frag}{H:Hp}{f:Str}:∀ {v:List (Str×V)} {d:List (Str×Dt)} {x:Dt},bg K H v d->d.lookup f=some x->∃ y,v.lookup f=some y/\Rep K H y x
 | _,_,_,.nil,e=>by simp at e
 | (k,v)::r,(_,d)::s,x,.cons h t,e=>by
   rw[List.lookup_cons] at e ⊢
   cases q:(f == k) with
   | true=>rw[q] at e;cases e;exact⟨v,rfl,h⟩
   | false=>rw[q] at e;exact bg.lookup t e
theorem bg.none_of {K:W.Frag}{H:Hp}{f:Str}:∀ {v:List (Str×V)} {d:List (Str×Dt)},bg K H v d->d.lookup f=none->v.lookup f=none
 | _,_,.nil,_=>rfl
 | (k,v)::r,(_,d)::s,.cons h t,e=>by
   rw[List.lookup_cons] at e ⊢
   cases q:(f == k) with
   | true=>rw[q] at e;cases e
   | false=>rw[q] at e;exact bg.none_of t e
theorem bg.length {K:W.Frag}{H:Hp}:∀ {v:List (Str×V)} {d:List (Str×Dt)},bg K H v d->v.length=d.length
 | _,_,.nil=>rfl
 | _,_,.cons _ r=>congrArg (·+1) (bg.length r)
theorem cW.length {K:W.Frag}{H:Hp}:∀ {v:List (Key×V)} {d:List (Key×Dt)},cW K H v d->v.length=d.length
 | _,_,.nil=>rfl
 | _,_,.cons _ r=>congrArg (·+1) (cW.length r)
structure bh (Hf H aH H':Hp):Prop where
 big:aE H H'
 bw:aE Hf aH
 sub:aE aH H'
 new:∀ a o,aH a=some o->(∃ o,Hf a=some o)\/H a=Option.none\/Kept o
theorem bh.refl {Hf H:Hp}(s:aE Hf H):bh Hf H Hf H:=⟨aE.refl _,aE.refl _,s,fun a o h=>.inl ⟨o,h⟩⟩
theorem bh.trans {Hf H aw H1 bZ H2:Hp}(a:bh Hf H aw H1)(b:bh aw H1 bZ H2):bh Hf H bZ H2:=
 ⟨a.big.trans b.big,a.bw.trans b.bw,b.sub,fun x o h=>by
   rcases b.new x o h with⟨o',h'⟩ | h' | h'
   . have e:=b.bw _ _ h'
     rw[h] at e;cases e
     exact a.new x o h'
   . exact .inr (.inl (a.big.free h'))
   . exact .inr (.inr h')⟩
theorem bh.yJ {Hf H aH H':Hp}(g:bh Hf H aH H'){a:Addr}{u o:HO}(h:H a=some u)(nk:¬ Kept u)(q:aH a=some o):∃ o,Hf a=some o:=by
 rcases g.new a o q with z | z | z
 . exact z
 . rw[h] at z;cases z
 . have e:=g.big _ _ h
   rw[g.sub _ _ q] at e;cases e
   exact absurd z nk
theorem bE {H:Hp}{p:Addr}{o:HO}(n:H p=Option.none):aE H (upd H p o):=fun b u e=>by
 rw[ag (av e n)];exact e
theorem cH {Hf H:Hp}{p:Addr}{o:HO}(s:aE Hf H):aE (upd Hf p o) (upd H p o):=fun b u e=>by
 by_cases hb:b=p
 . subst hb;rw[ak] at e ⊢;exact e
 . rw[ag hb] at e ⊢;exact s _ _ e
theorem xS {Hf H:Hp}{p:Addr}{o:HO}(s:aE Hf H)(n:Hf p=Option.none):aE Hf (upd H p o):=fun b u e=>by
 rw[ag (av e n)];exact s _ _ e
theorem bh.alloc {Hf H:Hp}{p:Addr}{o:HO}(s:aE Hf H)(n:H p=Option.none):bh Hf H (upd Hf p o) (upd H p o):=
 ⟨bE n,bE (s.free n),cH s,fun a u h=>by
   by_cases hb:a=p
   . subst hb;exact .inr (.inl n)
   . rw[ag hb] at h;exact .inl ⟨u,h⟩⟩
theorem bh.fU {Hf H:Hp}{p:Addr}{o:HO}(s:aE Hf H)(n:H p=Option.none):bh Hf H Hf (upd H p o):=
 ⟨bE n,aE.refl _,xS s (s.free n),fun a u h=>.inl ⟨u,h⟩⟩
inductive Own where
 | lst (ds:List Dt)
 | dw (kds:List (Key×Dt))
 | obj (C:Addr) (fs:List (Str×Dt))
 | AW (x:Addr) (C:Addr) (fs:List (Str×Dt))
 | rY (C:Addr) (fs:List (Str×Dt)) (gs:List (Nat->List (Key×FD))) (nm:List Str) (n:Nat)
 | yK (x:Addr) (C:Addr) (fs:List (Str×Dt)) (gs:List (Nat->List (Key×FD))) (nm:List Str) (n:Nat)
 | mW (NY:List (List Key×Int))
inductive Slot where
 | aL
 | val (d:Dt)
 | own (o:Own)
noncomputable def gZ (K:W.Frag)(Hf H:Hp)(a:Addr):Own->Prop
 | .lst ds=>∃ vs,H a=some (.lst vs)/\bD K Hf vs ds
 | .dw kds=>∃ kvs,H a=some (.dK kvs)/\cW K Hf kvs kds
 | .obj C ds=>∃ dx fs,H a=some (.ins C dx fs)/\bg K Hf fs ds
 | .AW x C ds=>a=x/\∃ dx fs,H a=some (.ins C dx fs)/\bg K Hf fs ds
 | .rY C ds gs nm n=>∃ dx fs b ls,(ls:km).map (·.2)=gs/\H a=some (.ins C dx fs)/\bg K Hf fs (tw ds nm b ls n)
 | .yK x C ds gs nm n=>a=x/\∃ dx fs b ls,(ls:km).map (·.2)=gs/\H a=some (.ins C dx fs)/\bg K Hf fs (tw ds nm b ls n)
 | .mW NY=>H a=some (.dT (NY.map fun k=>(k.1,V.int k.2)))
theorem gZ.Ti {K:W.Frag}{Hf H:Hp}{a:Addr}:∀ {o:Own},gZ K Hf H a o->∃ u,H a=some u/\¬ Kept u
 | .lst _,⟨_,h,_⟩=>⟨_,h,fun z=>z⟩
 | .dw _,⟨_,h,_⟩=>⟨_,h,fun z=>z⟩
 | .obj _ _,⟨_,_,h,_⟩=>⟨_,h,fun z=>z⟩
 | .AW _ _ _,⟨_,_,_,h,_⟩=>⟨_,h,fun z=>z⟩
 | .rY _ _ _ _ _,⟨_,_,_,_,_,h,_⟩=>⟨_,h,fun z=>z⟩
 | .yK _ _ _ _ _ _,⟨_,_,_,_,_,_,h,_⟩=>⟨_,h,fun z=>z⟩
 | .mW _,h=>⟨_,h,fun z=>z⟩
theorem gZ.some {K:W.Frag}{Hf H:Hp}{a:Addr}:∀ {o:Own},gZ K Hf H a o->∃ u,H a=some u
 | .lst _,⟨_,h,_⟩=>⟨_,h⟩
 | .dw _,⟨_,h,_⟩=>⟨_,h⟩
 | .obj _ _,⟨_,_,h,_⟩=>⟨_,h⟩
 | .AW _ _ _,⟨_,_,_,h,_⟩=>⟨_,h⟩
 | .rY _ _ _ _ _,⟨_,_,_,_,_,h,_⟩=>⟨_,h⟩
 | .yK _ _ _ _ _ _,⟨_,_,_,_,_,_,h,_⟩=>⟨_,h⟩
 | .mW _,h=>⟨_,h⟩
theorem gZ.grow {K:W.Frag}{Hf H aH H':Hp}{a:Addr}(e:H' a=H a)(f:aE Hf aH):∀ {o:Own},gZ K Hf H a o->gZ K aH H' a o
 | .lst _,⟨vs,h,r⟩=>⟨vs,by rw[e];exact h,r.mono f⟩
 | .dw _,⟨vs,h,r⟩=>⟨vs,by rw[e];exact h,r.mono f⟩
 | .obj _ _,⟨dx,fs,h,r⟩=>⟨dx,fs,by rw[e];exact h,r.mono f⟩
 | .AW _ _ _,⟨q,dx,fs,h,r⟩=>⟨q,dx,fs,by rw[e];exact h,r.mono f⟩
 | .rY _ _ _ _ _,⟨dx,fs,b,ls,q,h,r⟩=>⟨dx,fs,b,ls,q,by rw[e];exact h,r.mono f⟩
 | .yK _ _ _ _ _ _,⟨q0,dx,fs,b,ls,q,h,r⟩=>⟨q0,dx,fs,b,ls,q,by rw[e];exact h,r.mono f⟩
 | .mW NY,h=>(show H' a=Option.some (HO.dT (NY.map fun k=>(k.1,V.int k.2))) from by rw[e];exact h)
structure Gr where
 Hf:Hp
 H:Hp
structure d7 (K:W.Frag)(G:Gr)(st:L2.St)(Hf H:Hp)(dl:List Slot):Prop where
 gr:bh G.Hf G.H Hf H
 len:st.length=dl.length
 val:∀ (i:Nat) d,dl[i]?=some (.val d)->∃ v,st[i]?=some (some v)/\Rep K Hf v d
 own:∀ (i:Nat) o,dl[i]?=some (.own o)->∃ a,st[i]?=some (some (.ref a))/\Hf a=Option.none/\G.H a=Option.none/\gZ K Hf H a o
 FO:∀ (i j:Nat) o o' a,dl[i]?=some (.own o)->dl[j]?=some (.own o')->st[i]?=some (some (.ref a))->st[j]?=some (some (.ref a))->i=j
section
variable {K:W.Frag}{G:Gr}{st:L2.St}{Hf H aH H':Hp}{dl dl':List Slot}
theorem d7.sub (S:d7 K G st Hf H dl):aE Hf H:=S.gr.sub
theorem d7.grow (S:d7 K G st Hf H dl)(g:bh Hf H aH H'):d7 K G st aH H' dl:=by
 refine⟨S.gr.trans g,S.len,fun i d h=>let ⟨v,h1,h2⟩:=S.val i d h;⟨v,h1,h2.mono g.bw⟩,fun i o h=>?_,S.FO⟩
 obtain⟨a,h1,h2,h3,h4⟩:=S.own i o h
 obtain⟨u,hu,nk⟩:=h4.Ti
 refine⟨a,h1,?_,h3,h4.grow (by rw[hu];exact g.big _ _ hu) g.bw⟩
 cases q:aH a with
 | none=>rfl
 | some u'=>
   obtain⟨o',z⟩:=g.yJ hu nk q
   rw[h2] at z;cases z
theorem d7.set (S:d7 K G st Hf H dl){i:Nat}{v:V}{d:Dt}(r:Rep K Hf v d):d7 K G (st.set i (some v)) Hf H (dl.set i (.val d)):=by
 have ln:=S.len
 refine⟨S.gr,by simp[S.len],fun j x h=>?_,fun j o h=>?_,fun j k o o' a h1 h2 h3 h4=>?_⟩
 . by_cases e:i=j
   . subst e
     by_cases hl:i < dl.length
     . rw[List.getElem?_set_self hl] at h;cases h
       exact⟨v,List.getElem?_set_self (by omega),r⟩
     . rw[List.getElem?_eq_none (by simp;omega)] at h;cases h
   . rw[List.getElem?_set_ne e] at h ⊢;exact S.val j x h
 . by_cases e:i=j
   . subst e
     by_cases hl:i < dl.length
     . rw[List.getElem?_set_self hl] at h;cases h
     . rw[List.getElem?_eq_none (by simp;omega)] at h;cases h
   . rw[List.getElem?_set_ne e] at h ⊢;exact S.own j o h
 . have nj:i≠j:=fun e=>by
     subst e
     by_cases hl:i < dl.length
     . rw[List.getElem?_set_self hl] at h1;cases h1
     . rw[List.getElem?_eq_none (by simp;omega)] at h1;cases h1
   have nk:i≠k:=fun e=>by
     subst e
     by_cases hl:i < dl.length
     . rw[List.getElem?_set_self hl] at h2;cases h2
     . rw[List.getElem?_eq_none (by simp;omega)] at h2;cases h2
   rw[List.getElem?_set_ne nj] at h1 h3
   rw[List.getElem?_set_ne nk] at h2 h4
   exact S.FO j k o o' a h1 h2 h3 h4
theorem d7.FP (S:d7 K G st Hf H dl){i:Nat}{p:Addr}{o:HO}{w w':Own}(hi:dl[i]?=some (.own w))(hp:st[i]?=some (some (.ref p)))(r:gZ K Hf (upd H p o) p w'):d7 K G st Hf (upd H p o) (dl.set i (.own w')):=by
 have ln:=S.len
 obtain⟨p',q1,q2,q3,q4⟩:=S.own i w hi
 rw[hp] at q1;cases q1
 have hl:i < dl.length:=(List.getElem?_eq_some_iff.mp hi).1
 have g:bh G.Hf G.H Hf (upd H p o):=⟨fun b u e=>by rw[ag (av e q3)];exact S.gr.big _ _ e,S.gr.bw,xS S.sub q2,S.gr.new⟩
 refine⟨g,by simp[S.len],fun j x h=>?_,fun j o' h=>?_,fun j k o1 o2 a h1 h2 h3 h4=>?_⟩
 . by_cases e:i=j
   . subst e;rw[List.getElem?_set_self hl] at h;cases h
   . rw[List.getElem?_set_ne e] at h;exact S.val j x h
 . by_cases e:i=j
   . subst e;rw[List.getElem?_set_self hl] at h;cases h
     exact⟨p,hp,q2,q3,r⟩
   . rw[List.getElem?_set_ne e] at h
     obtain⟨a,z1,z2,z3,z4⟩:=S.own j o' h
     have:a≠p:=fun q=>by subst q;exact e (S.FO i j _ _ _ hi h hp z1)
     exact⟨a,z1,z2,z3,z4.grow (ag this) (aE.refl _)⟩
 . have tr:∀ (j:Nat) o',(dl.set i (.own w'))[j]?=some (.own o')->∃ Py,dl[j]?=some (.own Py):=fun j o' h=>by
     by_cases e:i=j
     . subst e;exact⟨_,hi⟩
     . rw[List.getElem?_set_ne e] at h;exact⟨_,h⟩
   obtain⟨_,t1⟩:=tr j o1 h1
   obtain⟨_,t2⟩:=tr k o2 h2
   exact S.FO j k _ _ a t1 t2 h3 h4
noncomputable def Le (dl dl':List Slot):Prop:=dl.length=dl'.length/\∀ (i:Nat) s,dl[i]?=some s->s≠.aL->dl'[i]?=some s
theorem Le.refl (dl:List Slot):Le dl dl:=⟨rfl,fun _ _ h _=>h⟩
theorem d7.weak (S:d7 K G st Hf H dl')(l:Le dl dl'):d7 K G st Hf H dl:=
 ⟨S.gr,by rw[S.len,l.1],fun i d h=>S.val i d (l.2 i _ h (by intro z;cases z)),fun i o h=>S.own i o (l.2 i _ h (by intro z;cases z)),
  fun i j o o' a h1 h2=>S.FO i j o o' a (l.2 i _ h1 (by intro z;cases z)) (l.2 j _ h2 (by intro z;cases z))⟩
noncomputable def Tj:List Slot->List Slot->Prop
 | [],[]=>True
 | .aL::r,_::s=>Tj r s
 | x::r,y::s=>x=y/\Tj r s
 | _,_=>False
theorem Le.of:∀ {dl dl':List Slot},Tj dl dl'->Le dl dl'
 | [],[],_=>Le.refl _
 | .aL::r,y::s,h=>by
   have q:=Le.of (dl:=r) (dl':=s) h
   refine⟨congrArg (·+1) q.1,fun i x e n=>?_⟩
   cases i with
   | zero=>simp at e;exact absurd e.symm n
   | succ i=>exact q.2 i x (by simpa using e) n
 | .val d::r,y::s,h=>by
   obtain⟨h1,h2⟩:=(show Slot.val d=y/\Tj r s from h)
   subst h1
   have q:=Le.of h2
   refine⟨congrArg (·+1) q.1,fun i x e n=>?_⟩
   cases i with
   | zero=>exact e
   | succ i=>exact q.2 i x (by simpa using e) n
 | .own d::r,y::s,h=>by
   obtain⟨h1,h2⟩:=(show Slot.own d=y/\Tj r s from h)
   subst h1
   have q:=Le.of h2
   refine⟨congrArg (·+1) q.1,fun i x e n=>?_⟩
   cases i with
   | zero=>exact e
   | succ i=>exact q.2 i x (by simpa using e) n
end
noncomputable def tD (K:PySem.W.Frag)(G:Gr)(dl:List Slot)(d:Dt):TE:=fun st H Q=>∃ Hf,d7 K G st Hf H dl/\∀ v aH H',bh Hf H aH H'->Rep K aH v d->Q v H'
noncomputable def Tn (K:PySem.W.Frag)(G:Gr)(dl:List Slot)(ds:List Dt):TA:=fun st H Q=>∃ Hf,d7 K G st Hf H dl/\∀ vs aH H',bh Hf H aH H'->bD K aH vs ds->Q vs H'
noncomputable def To (K:PySem.W.Frag)(G:Gr)(dl:List Slot)(b:Bool):TT:=fun st H Q=>∃ Hf,d7 K G st Hf H dl/\∀ aH H',bh Hf H aH H'->Q b H'
noncomputable abbrev EE (X:Cx)(G:Gr)(dl:List Slot)(e:Expr)(d:Dt):Prop:=PE X e (tD X.K G dl d)
noncomputable abbrev EA (X:Cx)(G:Gr)(dl:List Slot)(es:List Expr)(ds:List Dt):Prop:=PA X es (Tn X.K G dl ds)
noncomputable abbrev EB (X:Cx)(G:Gr)(dl:List Slot)(e:Expr)(b:Bool):Prop:=PT X e (To X.K G dl b)
noncomputable def ExcAt (K:PySem.W.Frag)(Hf:Hp)(od:Option Addr)(fs:List (Str×Dt)):Prop:=match od with
 | none=>fs=[]
 | some dx=>∃ fv,Hf dx=some (.xd fv)/\bg K Hf fv fs
inductive Out where
 | nx (dl:List Slot)
 | rt (d:Dt)
 | ro (w:Own)
 | bk (dl:List Slot)
 | ct (dl:List Slot)
 | ex (c:Value) (fs:List (Str×Dt))
 | raw (R:L2.St->Hp->Prop)
noncomputable def wR (K:W.Frag)(G:Gr)(E:XK)(D:Ends)(Hf:Hp):Out->Prop
 | .nx dl=>∀ st aH H,aE Hf aH->d7 K G st aH H dl->D.nx st H
 | .bk dl=>∀ st aH H,aE Hf aH->d7 K G st aH H dl->D.bk st H
 | .ct dl=>∀ st aH H,aE Hf aH->d7 K G st aH H dl->D.ct st H
 | .rt d=>∀ v aH H,bh G.Hf G.H aH H->Rep K aH v d->D.rt v H
 | .ro o=>∀ p aH H,bh G.Hf G.H aH H->G.H p=none->aH p=none->gZ K aH H p o->D.rt (.ref p) H
 | .ex c fs=>∀ od aH H,bh G.Hf G.H aH H->ExcAt K aH od fs->E c od H
 | .raw R=>∀ st H,R st H->D.nx st H
theorem wR.mono {K:W.Frag}{G:Gr}{E:XK}{D:Ends}{Hf aw:Hp}(s:aE Hf aw):∀ {o:Out},wR K G E D Hf o->wR K G E D aw o
 | .nx _,k=>fun st aH H s' S=>k st aH H (s.trans s') S
 | .bk _,k=>fun st aH H s' S=>k st aH H (s.trans s') S
 | .ct _,k=>fun st aH H s' S=>k st aH H (s.trans s') S
 | .rt _,k=>k
 | .ro _,k=>k
 | .ex _ _,k=>k
 | .raw _,k=>k
noncomputable def tO (K:W.Frag)(G:Gr)(E:XK)(dl:List Slot)(o:Out):TS:=fun D st H=>∃ Hf,d7 K G st Hf H dl/\wR K G E D Hf o
noncomputable abbrev ES (X:Cx)(G:Gr)(E:XK)(dl:List Slot)(s:Stmt)(o:Out):Prop:=PS X s (tO X.K G E dl o)
noncomputable abbrev oh (X:Cx)(G:Gr)(E:XK)(dl:List Slot)(s:List Stmt)(o:Out):Prop:=Ci X s (tO X.K G E dl o)
theorem iW {X:Cx}{e:Expr}{t t':TE}(h:PE X e t)(i:∀ st H Q,t' st H Q->t st H Q):PE X e t':=fun pins s st H Q I q=>h pins s st H Q I (i st H Q q)
theorem RY {X:Cx}{e:Expr}{t t':TT}(h:PT X e t)(i:∀ st H Q,t' st H Q->t st H Q):PT X e t':=fun pins s st H Q I q=>h pins s st H Q I (i st H Q q)
theorem Zd {X:Cx}{e:List Expr}{t t':TA}(h:PA X e t)(i:∀ st H Q,t' st H Q->t st H Q):PA X e t':=fun pos pins s st H Q I q=>h pos pins s st H Q I (i st H Q q)
theorem uf {X:Cx}{e:Stmt}{t t':TS}(h:PS X e t)(i:∀ D st H,t' D st H->t D st H):PS X e t':=fun pins s st H D I q=>h pins s st H D I (i D st H q)
theorem AX {X:Cx}{e:List Stmt}{t t':TS}(h:Ci X e t)(i:∀ D st H,t' D st H->t D st H):Ci X e t':=fun pins s st H D I q=>h pins s st H D I (i D st H q)
section
variable {X:Cx}{G:Gr}{dl:List Slot}{a b e:Expr}{i j:Int}{d d1 d2:Dt}{pos:Pos}{x y:Str}{u v:Bool}
theorem aa (n:Nat){x:Str}{pos:Pos}(hd:dl[n]?=some (.val d):=by rfl)(hN:X.N[n]?=some x:=by rfl)(hv:uU X.env.scope x:=by first | exact Or.inl rfl | exact Or.inr (Or.inl rfl) | exact Or.inr (Or.inr rfl))(hb:(x == ("__debug__":Str))=false:=by decide)(my:(x == ("__classdict__":Str))=false:=by decide):EE X G dl (.Name x pos) d:=
 iW (jF hN hv hb my) fun st H Q ⟨Hf,S,k⟩=>let ⟨v,h1,h2⟩:=S.val n d hd;⟨v,h1,k v Hf H (.refl S.sub) h2⟩
theorem aj {z:Int}{j pos}:EE X G dl (.Constant (.int z) j pos) (.int z):=iW OS fun st H Q ⟨Hf,S,k⟩=>k _ Hf H (.refl S.sub) (.int z)
theorem NZ {z:Bool}{j pos}:EE X G dl (.Constant (.bool z) j pos) (.bl z):=iW So fun st H Q ⟨Hf,S,k⟩=>k _ Hf H (.refl S.sub) (.bl z)
theorem cN {z:Str}{j pos}:EE X G dl (.Constant (.str z) j pos) (.str z):=iW OT fun st H Q ⟨Hf,S,k⟩=>k _ Hf H (.refl S.sub) (.str z)
noncomputable def Cz (K:W.Frag)(r:R2)(d1 d2 d:Dt):Prop:=∀ v w Hf H Q,aE Hf H->Rep K Hf v d1->Rep K Hf w d2->(∀ u aH H',bh Hf H aH H'->Rep K aH u d->Q u H')->r v w H Q
theorem vd {r:R2}(h:Cz X.K r d1 d2 d):∀ st H Q,tD X.K G dl d st H Q->SA r (tD X.K G dl d1) (tD X.K G dl d2) st H Q:=fun st H Q ⟨Hf,S,k⟩=>
 ⟨Hf,S,fun v aw H1 g1 r1=>⟨aw,S.grow g1,fun w bZ H2 g2 r2=>h v w bZ H2 Q g2.sub (r1.mono g2.bw) r2 fun u ko H3 g3 r3=>k u ko H3 ((g1.trans g2).trans g3) r3⟩⟩
theorem vf {op:Operator}{r:R2}(ho:pV X (binaryOp op) r)(h:Cz X.K r d1 d2 d)(ha:EE X G dl a d1)(hb:EE X G dl b d2):EE X G dl (.BinOp a op b pos) d:=iW (NR ho ha hb) (vd h)
theorem rZ {op:CmpOp}{r:R2}(ho:pV X (compareOp op) r)(h:Cz X.K r d1 d2 d)(hm:behindInMarks op b=false)(ha:EE X G dl a d1)(hb:EE X G dl b d2):EE X G dl (.Compare a [op] [b] pos) d:=iW (Lv ho ha hb hm) (vd h)
theorem mh {op:CmpOp}{r:R2}(ho:pV X (compareOp op) r)(h:Cz X.K r d1 d2 (.bl u))(hm:behindInMarks op b=false)(ha:EE X G dl a d1)(hb:EE X G dl b d2):EB X G dl (.Compare a [op] [b] pos) u:=
 RY (Lw ho ha hb hm) fun st H Q ⟨Hf,S,k⟩=>vd h st H _ ⟨Hf,S,fun v aH H' g r=>by cases r;exact⟨u,rfl,k aH H' g⟩⟩
theorem qQ {K:W.Frag}{g:Int->Int->V}{g':Int->Int->Dt}(h:∀ K H i j,Rep K H (g i j) (g' i j)):Cz K (Lq g) (.int i) (.int j) (g' i j):=fun v w Hf H Q s r1 r2 k=>by
 cases r1;cases r2;exact⟨i,j,rfl,rfl,k _ Hf H (.refl s) (h _ _ _ _)⟩
theorem LM {K:W.Frag}{C:Int->Int->Prop}{g:Int->Int->V}{g':Int->Int->Dt}(h:∀ K H i j,Rep K H (g i j) (g' i j))(hc:C i j):Cz K (rI C g) (.int i) (.int j) (g' i j):=fun v w Hf H Q s r1 r2 k=>by
 cases r1;cases r2;exact⟨i,j,rfl,rfl,hc,k _ Hf H (.refl s) (h _ _ _ _)⟩
theorem aT (ha:EE X G dl a (.int i))(hb:EE X G dl b (.int j)):EE X G dl (.BinOp a .Add b pos) (.int (i+j)):=vf O5 (qQ (g':=fun i j=>.int (i+j)) fun _ _ _ _=>.int _) ha hb
theorem lF (ha:EE X G dl a (.int i))(hb:EE X G dl b (.int j)):EE X G dl (.BinOp a .Sub b pos) (.int (i - j)):=vf O6 (qQ (g':=fun i j=>.int (i - j)) fun _ _ _ _=>.int _) ha hb
theorem LN:pV X (binaryOp .Mult) (rI IntMulOk fun i j=>.int (i * j)):=Vy fun _ _ _ _ _ _ _ hc q=>mul_int q hc
theorem ja (ha:EE X G dl a (.int i))(hb:EE X G dl b (.int j))(hc:IntMulOk i j):EE X G dl (.BinOp a .Mult b pos) (.int (i * j)):=vf LN (LM (g':=fun i j=>.int (i * j)) (fun _ _ _ _=>.int _) hc) ha hb
theorem HD:pV X (binaryOp .FloorDiv) (rI (fun _ j=>0 < j/\j.natAbs.log2 < 9000) fun i j=>.int (i / j)):=Vy fun i j _ _ _ _ _ hc q=>by
 refine floordiv_int (Int.ne_of_gt hc.1) ?_ (.inl (PyProof.noPylong_of_log2 hc.2))
 rw[Int.fdiv_eq_ediv_of_nonneg _ (Int.le_of_lt hc.1)]
 exact q
theorem gG (ha:EE X G dl a (.int i))(hb:EE X G dl b (.int j))(hc:0 < j/\j.natAbs.log2 < 9000):EE X G dl (.BinOp a .FloorDiv b pos) (.int (i / j)):=vf HD (LM (g':=fun i j=>.int (i / j)) (fun _ _ _ _=>.int _) hc) ha hb
theorem cO (ha:EE X G dl a (.int i))(hb:EE X G dl b (.int j))(hc:0 < j):EE X G dl (.BinOp a .Mod b pos) (.int (i % j)):=vf O7 (LM (g':=fun i j=>.int (i % j)) (fun _ _ _ _=>.int _) hc) ha hb
theorem HE (ha:EE X G dl a (.int i))(hb:EE X G dl b (.int j))(hc:SF i j):EE X G dl (.BinOp a .Pow b pos) (.int (i ^ j.toNat)):=vf O8 (LM (g':=fun i j=>.int (i ^ j.toNat)) (fun _ _ _ _=>.int _) hc) ha hb
theorem Pz {K:W.Frag}(h:x.length+y.length<=sizeLine):Cz K (fun a b H Q=>∃ i j,a=.str i/\b=.str j/\i.length+j.length<=sizeLine/\Q (.str (i ++ j)) H) (.str x) (.str y) (.str (x ++ y)):=fun v w Hf H Q s r1 r2 k=>by
 cases r1;cases r2;exact⟨x,y,rfl,rfl,h,k _ Hf H (.refl s) (.str _)⟩
theorem PB (ha:EE X G dl a (.str x))(hb:EE X G dl b (.str y))(h:x.length+y.length<=sizeLine):EE X G dl (.BinOp a .Add b pos) (.str (x ++ y)):=vf Cn (Pz h) ha hb
theorem mX (ha:EE X G dl a (.int i)):EE X G dl (.UnaryOp .USub a pos) (.int (-i)):=
 iW (SD O9 ha) fun st H Q ⟨Hf,S,k⟩=>⟨Hf,S,fun v aw H1 g1 r1=>by cases r1;exact⟨i,rfl,k _ aw H1 g1 (.int _)⟩⟩
theorem Tp (ha:EE X G dl a (.int i))(hb:EE X G dl b (.int j)):EE X G dl (.Compare a [.Gt] [b] pos) (.bl (decide (j < i))):=rZ NS (qQ (g':=fun i j=>.bl (decide (j < i))) fun _ _ _ _=>.bl _) (kr _) ha hb
theorem AY (h:EE X G dl e (.bl u))(he:∀ whole,isTrue e X.env whole=(do let v <- whole;standAt e.pos;holding [v] (truthy v)):=by intro _;rfl):EB X G dl e u:=
 RY (OU h he) fun st H Q ⟨Hf,S,k⟩=>⟨Hf,S,fun v aw H1 g1 r1=>by cases r1;exact⟨u,rfl,k aw H1 g1⟩⟩
end
section
variable {X:Cx}{G:Gr}{E:XK}{dl dl1 dl2:List Slot}{a b c e:Expr}{es:List Expr}{i j:Int}{d d1:Dt}{ds:List Dt}{pos:Pos}{o o':Out}{x:Str}{u v:Bool}{rest:List Expr}{sts FQ:List Stmt}{s:Stmt}
theorem CA:PE X e fun _ _ _=>False:=fun _ _ _ _ _ _ h=>h.elim
theorem pw_nev:PW X e fun _ _ _=>False:=fun _ _ _ _ _ _ _ h=>h.elim
noncomputable abbrev EW (X:Cx)(G:Gr)(dl:List Slot)(e:Expr)(b:Bool):Prop:=PW X e (To X.K G dl b)
theorem VD {e:Expr}{t t':TT}(h:PW X e t)(i:∀ st H Q,t' st H Q->t st H Q):PW X e t':=fun wh pins s st H Q I q=>h wh pins s st H Q I (i st H Q q)
theorem yL (ha:EB X G dl a u):EW X G dl (.BoolOp .And [a] pos) u:=pw_and1 ha
theorem CB (ha:EB X G dl a u):EW X G dl (.BoolOp .Or [a] pos) u:=pw_or1 ha
theorem vg (ha:EB X G dl a u)(hb:u=true->EW X G dl (.BoolOp .And (b::rest) pos) v):EW X G dl (.BoolOp .And (a::b::rest) pos) (u && v):=by
 cases u with
 | true=>exact VD (pw_and ha (hb rfl)) fun st H Q ⟨Hf,S,k⟩=>⟨Hf,S,fun aw H1 g1=>AV ⟨aw,S.grow g1,fun bZ H2 g2=>k bZ H2 (g1.trans g2)⟩⟩
 | false=>exact VD (pw_and ha pw_nev) fun st H Q ⟨Hf,S,k⟩=>⟨Hf,S,fun aw H1 g1=>AU (k aw H1 g1)⟩
theorem HF (ha:EB X G dl a u)(hb:u=false->EW X G dl (.BoolOp .Or (b::rest) pos) v):EW X G dl (.BoolOp .Or (a::b::rest) pos) (u || v):=by
 cases u with
 | false=>exact VD (pw_or ha (hb rfl)) fun st H Q ⟨Hf,S,k⟩=>⟨Hf,S,fun aw H1 g1=>AU ⟨aw,S.grow g1,fun bZ H2 g2=>k bZ H2 (g1.trans g2)⟩⟩
 | true=>exact VD (pw_or ha pw_nev) fun st H Q ⟨Hf,S,k⟩=>⟨Hf,S,fun aw H1 g1=>AV (k aw H1 g1)⟩
theorem CC (h:EW X G dl e u):EB X G dl e u:=h.pt
theorem CD (ha:EB X G dl a u):EB X G dl (.UnaryOp .Not a pos) (!u):=RY (OV ha) fun st H Q ⟨Hf,S,k⟩=>⟨Hf,S,fun aw H1 g1=>k aw H1 g1⟩
theorem yM (ha:EE X G dl a (.bl u)):EE X G dl (.BoolOp .And [a] pos) (.bl u):=OW ha
theorem CF (ha:EE X G dl a (.bl u))(hb:u=true->EE X G dl (.BoolOp .And (b::rest) pos) (.bl v)):EE X G dl (.BoolOp .And (a::b::rest) pos) (.bl (u && v)):=by
 cases u with
 | true=>exact iW (Hg ha (hb rfl)) fun st H Q ⟨Hf,S,k⟩=>⟨Hf,S,fun w aw H1 g1 r1=>by cases r1;exact⟨true,rfl,AV ⟨aw,S.grow g1,fun w bZ H2 g2 r2=>k w bZ H2 (g1.trans g2) r2⟩⟩⟩
 | false=>exact iW (Hg ha CA) fun st H Q ⟨Hf,S,k⟩=>⟨Hf,S,fun w aw H1 g1 r1=>by cases r1;exact⟨false,rfl,AU (k _ aw H1 g1 (.bl _))⟩⟩
theorem dP (h:EB X G dl e u)(q:u=v):EB X G dl e v:=by subst q;exact h
theorem aR (h:EE X G dl e d)(q:d=d1):EE X G dl e d1:=by subst q;exact h
theorem PD (hc:EB X G dl c u)(ha:u=true->EE X G dl a d)(hb:u=false->EE X G dl b d):EE X G dl (.IfExp c a b pos) d:=by
 cases u with
 | true=>exact iW (Ay hc (ha rfl) CA) fun st H Q ⟨Hf,S,k⟩=>⟨Hf,S,fun aw H1 g1=>AV ⟨aw,S.grow g1,fun w bZ H2 g2 r2=>k w bZ H2 (g1.trans g2) r2⟩⟩
 | false=>exact iW (Ay hc CA (hb rfl)) fun st H Q ⟨Hf,S,k⟩=>⟨Hf,S,fun aw H1 g1=>AU ⟨aw,S.grow g1,fun w bZ H2 g2 r2=>k w bZ H2 (g1.trans g2) r2⟩⟩
theorem ai:EA X G dl [] []:=Zd oB fun st H Q ⟨Hf,S,k⟩=>k [] Hf H (.refl S.sub) .nil
theorem ae (ha:EE X G dl e d)(hr:EA X G dl es ds)(hs:starEach (e::es) X.env=(false,eval e X.env)::starEach es X.env:=by rfl):EA X G dl (e::es) (d::ds):=
 Zd (lY ha hr hs) fun st H Q ⟨Hf,S,k⟩=>⟨Hf,S,fun v aw H1 g1 r1=>⟨aw,S.grow g1,fun vs bZ H2 g2 r2=>k _ bZ H2 (g1.trans g2) (.cons (r1.mono g2.bw) r2)⟩⟩
theorem cY {x1}(h:EA X G dl es ds)(hl:ds.length<=sizeLine:=by decide):EE X G dl (.Tuple es x1 pos) (.tup ds):=
 iW (Pd h) fun st H Q ⟨Hf,S,k⟩=>⟨Hf,S,fun vs aw H1 g1 r1=>⟨by rw[r1.length];exact hl,fun p hp=>k _ (upd aw p (.tup vs)) _ (g1.trans (.alloc g1.sub hp)) (.tup (.of ak) (r1.mono (bE (g1.sub.free hp))))⟩⟩
theorem HG (h:EA X G dl es ds)(hl:ds.length<=sizeLine:=by decide):EE X G dl (.List es pos) (.lst ds):=
 iW (u6 h) fun st H Q ⟨Hf,S,k⟩=>⟨Hf,S,fun vs aw H1 g1 r1=>⟨by rw[r1.length];exact hl,fun p hp=>k _ (upd aw p (.lst vs)) _ (g1.trans (.alloc g1.sub hp)) (.lst ak (r1.mono (bE (g1.sub.free hp))))⟩⟩
theorem bD.o7 {K:W.Frag}{H:Hp}{vs:List V}{ds:List Dt}{i:Int}{d:Dt}(r:bD K H vs ds)(h:L2.o7 ds i=some d):∃ v,L2.o7 vs i=some v/\Rep K H v d:=by
 unfold L2.o7 at h ⊢
 rw[r.length]
 cases q:Cu ds.length i with
 | none=>rw[q] at h;cases h
 | some n=>
   rw[q] at h
   exact r.get h
theorem aI (ha:EE X G dl a (.tup ds))(hb:EE X G dl b (.int i))(h:o7 ds i=some d)(hs:kM b:=by intro _ _;rfl):EE X G dl (.Subscript a b pos) d:=
 iW (u7 Pj ha hb hs) (vd fun v w Hf H Q s r1 r2 k=>by
   cases r1 with
   | tup q r=>
     cases r2
     obtain⟨v,h1,h2⟩:=r.o7 h
     exact⟨_,_,i,v,rfl,rfl,gk s q,h1,k v Hf H (.refl s) h2⟩)
theorem HH (ha:EE X G dl a (.lst ds))(hb:EE X G dl b (.int i))(h:o7 ds i=some d)(hs:kM b:=by intro _ _;rfl):EE X G dl (.Subscript a b pos) d:=
 iW (u7 yB ha hb hs) (vd fun v w Hf H Q s r1 r2 k=>by
   cases r1 with
   | lst q r=>
     cases r2
     obtain⟨v,h1,h2⟩:=r.o7 h
     exact⟨_,_,i,v,rfl,rfl,.of (s _ _ q),h1,k v Hf H (.refl s) h2⟩)
theorem r0 {ns:List Int}{z:Int}(ha:EE X G dl a (.ow ns))(hb:EE X G dl b (.int i))(h:o7 ns i=some z)(hs:kM b:=by intro _ _;rfl):EE X G dl (.Subscript a b pos) (.int z):=
 iW (u7 yB ha hb hs) (vd fun v w Hf H Q s r1 r2 k=>by
   cases r1 with
   | ow q=>
     cases r2
     have h':L2.o7 (ns.map V.int) i=some (.int z):=by
       unfold L2.o7 at h ⊢
       rw[List.length_map]
       cases q2:Cu ns.length i with
       | none=>rw[q2] at h;cases h
       | some n=>
         rw[q2] at h
         show(ns.map V.int)[n]?=_
         rw[List.getElem?_map,show ns[n]?=some z from h];rfl
     exact⟨_,_,i,_,rfl,rfl,s.seq q,h',k _ Hf H (.refl s) (.int z)⟩)
theorem PF {z:Nat}(ha:EE X G dl a (.str x))(hb:EE X G dl b (.int i))(h:o7 x.cps.toList i=some z)(hl:x.length<=sizeLine)(hs:kM b:=by intro _ _;rfl):EE X G dl (.Subscript a b pos) (.str ⟨#[z]⟩):=
 iW (u7 Pk ha hb hs) (vd fun v w Hf H Q s r1 r2 k=>by
   cases r1;cases r2
   exact⟨x,i,z,rfl,rfl,hl,h,k _ Hf H (.refl s) (.str _)⟩)
theorem cg:oh X G E dl [] (.nx dl):=AX Ln fun D st H ⟨Hf,S,k⟩=>k st Hf H (aE.refl _) S
theorem ah (h1:ES X G E dl s (.nx dl1))(h2:oh X G E dl1 sts o):oh X G E dl (s::sts) o:=
 AX (oy h1 h2) fun D st H ⟨Hf,S,k⟩=>⟨Hf,S,fun jC aH H' s' S'=>⟨aH,S',k.mono s'⟩⟩
theorem ao (h1:ES X G E dl s o):oh X G E dl [s] o:=mT h1
theorem wR.stop {K:W.Frag}{D D':Ends}{Hf:Hp}(h:(∀ dl,o≠.nx dl)/\∀ R,o≠.raw R)(hr:D'.rt=D.rt)(hb:D'.bk=D.bk)(hc:D'.ct=D.ct)(k:wR K G E D Hf o):wR K G E D' Hf o:=by
 cases o with
 | nx dl=>exact absurd rfl (h.1 dl)
 | raw R=>exact absurd rfl (h.2 R)
 | rt d=>show ∀ v Hf H,_->_->D'.rt v H;rw[hr];exact k
 | ro d=>show ∀ v Hf H,_->_->_->_->D'.rt _ H;rw[hr];exact k
 | bk d=>show ∀ v Hf H,_->_->D'.bk v H;rw[hb];exact k
 | ct d=>show ∀ v Hf H,_->_->D'.ct v H;rw[hc];exact k
 | ex c fs=>exact k
theorem ug (h1:ES X G E dl s o)(h:(∀ dl,o≠.nx dl)/\(∀ R,o≠.raw R):=by exact⟨(fun _ z=>nomatch z),(fun _ z=>nomatch z)⟩):oh X G E dl (s::sts) o:=
 AX (oy h1 (rO (sts:=sts))) fun D st H ⟨Hf,S,k⟩=>⟨Hf,S,wR.stop (D:=D) h rfl rfl rfl k⟩
theorem LO (h1:ES X G E dl s (.nx dl2))(l:Le dl1 dl2):ES X G E dl s (.nx dl1):=uf h1 fun D st H ⟨Hf,S,k⟩=>⟨Hf,S,fun jC aH H' s' S'=>k jC aH H' s' (S'.weak l)⟩
theorem D1 (h1:oh X G E dl1 sts o)(l:Le dl1 dl):oh X G E dl sts o:=AX h1 fun D st H ⟨Hf,S,k⟩=>⟨Hf,S.weak l,k⟩
theorem cb (hc:EB X G dl c u)(h1:u=true->oh X G E dl sts o)(h2:u=false->oh X G E dl FQ o):ES X G E dl (.If c sts FQ pos) o:=by
 cases u with
 | true=>exact uf (NP hc (h1 rfl) (rO (sts:=FQ))) fun D st H ⟨Hf,S,k⟩=>⟨Hf,S,fun aw H1 g1=>AV ⟨aw,S.grow g1,k.mono g1.bw⟩⟩
 | false=>exact uf (NP hc (rO (sts:=sts)) (h2 rfl)) fun D st H ⟨Hf,S,k⟩=>⟨Hf,S,fun aw H1 g1=>AU ⟨aw,S.grow g1,k.mono g1.bw⟩⟩
theorem aF (h:EE X G dl e d):ES X G E dl (.Return (some e) pos) (.rt d):=uf (Cj h) fun D st H ⟨Hf,S,k⟩=>⟨Hf,S,fun v aw H1 g1 r1=>k v aw H1 (S.gr.trans g1) r1⟩
theorem l1 (h:EE X G dl e d)(hs:swapsWith e none pos.line X.env=pure false:=by rfl):ES X G E dl (.Expr e pos) (.nx dl):=
 uf (lX h hs) fun D st H ⟨Hf,S,k⟩=>⟨Hf,S,fun v aw H1 g1 r1=>k st aw H1 g1.bw (S.grow g1)⟩
theorem au (n:Nat){x:Str}{pos':Pos}(hN:X.N.Nodup)(he:EE X G dl e d)(hi:X.N[n]?=some x:=by rfl)(hx:Loc X.env.scope x:=by first | exact Or.inl rfl | exact Or.inr rfl)(hs:swapsWith e (some (.Name x pos')) pos.line X.env=pure false:=by rfl)(hf:X.fn x=true\/X.env.scope.names.lookup x=some .local:=by first | exact .inl rfl | exact .inr rfl | assumption):ES X G E dl (.Assign [.Name x pos'] e pos) (.nx (dl.set n (.val d))):=
 uf (Ck hN hi hx he hs hf) fun D st H ⟨Hf,S,k⟩=>⟨Hf,S,fun v aw H1 g1 r1=>k _ aw H1 g1.bw ((S.grow g1).set r1)⟩
inductive qb (X:Cx)(G:Gr)(E:XK)(body:List Stmt)(S:Nat->List Slot)(pre:Nat->List Slot)(n m:Nat):Out->Prop
 | all (h:m=n):qb X G E body S pre n m (.nx (S n))
 | rt {d:Dt} (h:m < n) (hb:oh X G E (pre m) body (.rt d)):qb X G E body S pre n m (.rt d)
 | ro {d:Own} (h:m < n) (hb:oh X G E (pre m) body (.ro d)):qb X G E body S pre n m (.ro d)
 | bk {dl':List Slot} (h:m < n) (hb:oh X G E (pre m) body (.bk dl')):qb X G E body S pre n m (.nx dl')
 | ex {c:Value} {fs:List (Str×Dt)} (h:m < n) (hb:oh X G E (pre m) body (.ex c fs)):qb X G E body S pre n m (.ex c fs)
inductive Goes (X:Cx)(G:Gr)(E:XK)(body:List Stmt)(pre post:List Slot):Prop
 | nx {dl':List Slot} (hb:oh X G E pre body (.nx dl')) (l:Le post dl')
 | ct {dl':List Slot} (hb:oh X G E pre body (.ct dl')) (l:Le post dl')
noncomputable def HI (X:Cx)(G:Gr)(E:XK)(body:List Stmt):TS:=fun D st H=>∃ pre o,oh X G E pre body o/\tO X.K G E pre o D st H
theorem qR {body:List Stmt}:Ci X body (HI X G E body):=fun pins s st H D J ⟨pre,o,h,q⟩=>h pins s st H D J q
theorem pk {body:List Stmt}{pre post:List Slot}{D:Ends}{st:L2.St}{Hf H:Hp}(g:Goes X G E body pre post)(S:d7 X.K G st Hf H pre)(hn:∀ st aH H,aE Hf aH->d7 X.K G st aH H post->D.nx st H)(hc:∀ st aH H,aE Hf aH->d7 X.K G st aH H post->D.ct st H):HI X G E body D st H:=by
 cases g with
 | nx hb l=>exact⟨_,_,hb,Hf,S,fun jC aH H' s' S'=>hn jC aH H' s' (S'.weak l)⟩
 | ct hb l=>exact⟨_,_,hb,Hf,S,fun jC aH H' s' S'=>hc jC aH H' s' (S'.weak l)⟩
theorem r6 {body:List Stmt}{S pre:Nat->List Slot}{n m:Nat}{D D':Ends}{st:L2.St}{Hf H:Hp}(e:qb X G E body S pre n m o)(hm:m < n)(S':d7 X.K G st Hf H (pre m))(k:wR X.K G E D Hf o)(hr:D'.rt=D.rt)(PH:D'.bk=D.nx):HI X G E body D' st H:=by
 cases e with
 | all h=>omega
 | rt h hb=>exact⟨_,_,hb,Hf,S',by show ∀ v Hf H,_->_->D'.rt v H;rw[hr];exact k⟩
 | ro h hb=>exact⟨_,_,hb,Hf,S',by show ∀ v Hf H,_->_->_->_->D'.rt _ H;rw[hr];exact k⟩
 | bk h hb=>exact⟨_,_,hb,Hf,S',by show ∀ v Hf H,_->_->D'.bk v H;rw[PH];exact k⟩
 | ex h hb=>exact⟨_,_,hb,Hf,S',k⟩
theorem HJ (nN:Nat){x:Str}{px:Pos}{body:List Stmt}{lo:Int}{n m:Nat}(S:Nat->List Slot)(hN:X.N.Nodup)(qS:X.calm=true)(hp:PassesOwn (model X.prog X.w) X.A X.env X.xe){wi:TI}{iter:Expr}(hI:PI X (.Name x px) iter wi)(hw:∀ st Hf H R,d7 X.K G st Hf H dl->(∀ aH H',bh Hf H aH H'->R (O3 lo n) H')->wi st H R)(h0:Le (S 0) dl)(VE:m<=n)(hb:∀ k,k < m->Goes X G E body ((S k).set nN (.val (.int (lo+k)))) (S (k+1)))(he:qb X G E body S (fun k=>(S k).set nN (.val (.int (lo+k)))) n m o)(hi:X.N[nN]?=some x:=by rfl)(hx:Loc X.env.scope x:=by first | exact Or.inl rfl | exact Or.inr rfl)(hf:X.fn x=true\/X.env.scope.names.lookup x=some .local:=by first | exact .inl rfl | exact .inr rfl | assumption)(hs:∀ x,foldedSetIterable iter X.env x=pure x:=by intro _;rfl):ES X G E dl (.For (.Name x px) iter body [] pos) o:=by
 refine uf (yx hp qS hI (bI hN hi hx hf) (qR (G:=G) (E:=E)) hs) fun D st H ⟨Hf,S0,k⟩=>hw st Hf H _ S0 fun aH H' g=>?_
 refine Fu (lo:=lo) (n:=n) (fun j st H=>j<=m/\∃ aw,aE Hf aw/\d7 X.K G st aw H (S j)) ⟨Nat.zero_le _,aH,g.bw,(S0.grow g).weak h0⟩ (fun j st H hj ⟨WZ,aw,s1,Sj⟩=>?_) (fun st H ⟨Ze,aw,s1,Sn⟩=>?_)
 . have Sp:d7 X.K G (st.set nN (some (.int (lo+j)))) aw H ((S j).set nN (.val (.int (lo+j)))):=Sj.set (.int _)
   by_cases dy:j < m
   . exact pk (hb j dy) Sp (fun st bZ H s2 S'=>⟨dy,bZ,s1.trans s2,S'⟩) (fun st bZ H s2 S'=>⟨dy,bZ,s1.trans s2,S'⟩)
   . have e:j=m:=by omega
     subst e
     exact r6 he hj Sp (k.mono s1) rfl rfl
 . have e:m=n:=by omega
   subst e
   cases he with
   | all _=>exact k st aw H s1 Sn
   | rt h _=>omega
   | ro h _=>omega
   | bk h _=>omega
   | ex h _=>omega
theorem lz (nN:Nat){x:Str}{p px pc:Pos}{body:List Stmt}{n:Int}{m:Nat}(S:Nat->List Slot)(hN:X.N.Nodup)(qS:X.calm=true)(hp:PassesOwn (model X.prog X.w) X.A X.env X.xe)(HK:X.mg "range"=none)(ha:EA X G dl [a] [.int n])(hn:-(2 ^ 62)<=n/\n < 2 ^ 62)(h0:Le (S 0) dl)(VE:m<=n.toNat)(hb:∀ k:Nat,k < m->Goes X G E body ((S k).set nN (.val (.int k))) (S (k+1)))(he:qb X G E body S (fun k=>(S k).set nN (.val (.int k))) n.toNat m o)(hg:Gl X "range":=by rfl)(hi:X.N[nN]?=some x:=by rfl)(hx:Loc X.env.scope x:=by first | exact Or.inl rfl | exact Or.inr rfl)(hf:X.fn x=true\/X.env.scope.names.lookup x=some .local:=by first | exact .inl rfl | exact .inr rfl | assumption)(GS:starEach [a] X.env=[(false,eval a X.env)]:=by rfl)(hs:∀ z,foldedSetIterable (.Call (.Name "range" p) [a] [] pc) X.env z=pure z:=by intro _;rfl):ES X G E dl (.For (.Name x px) (.Call (.Name "range" p) [a] [] pc) body [] pos) o:=by
 have ez:∀ k:Nat,(0:Int)+k=k:=fun k=>Int.zero_add _
 have eS:(fun k:Nat=>(S k).set nN (.val (.int ((0:Int)+k))))=fun k:Nat=>(S k).set nN (.val (.int k)):=by funext k;rw[ez]
 refine HJ nN (lo:=0) (n:=n.toNat) (m:=m) S hN qS hp (rQ hg HK ha GS) (fun st Hf H R S0 h=>⟨Hf,S0,fun vs aw H1 g1 r1=>?_⟩) h0 VE (fun k hk=>by rw[ez];exact hb k hk) (by rw[eS];exact he) hi hx hf hs
 cases r1 with
 | cons r t=>cases t;cases r;exact⟨n,rfl,hn.1,hn.2,h aw H1 g1⟩
theorem D2 (nN:Nat){x:Str}{px:Pos}{iter:Expr}{body:List Stmt}{xs:List Dt}{m:Nat}(S:Nat->List Slot)(hN:X.N.Nodup)(qS:X.calm=true)(hp:PassesOwn (model X.prog X.w) X.A X.env X.xe)(hl:EE X G dl iter (.lst xs))(h0:Le (S 0) dl)(VE:m<=xs.length)(hb:∀ (k:Nat) (z:Dt),k < m->xs[k]?=some z->Goes X G E body ((S k).set nN (.val z)) (S (k+1)))(he:qb X G E body S (fun k=>(S k).set nN (.val (xs.getD k .c9))) xs.length m o)(hi:X.N[nN]?=some x:=by rfl)(hx:Loc X.env.scope x:=by first | exact Or.inl rfl | exact Or.inr rfl)(hf:X.fn x=true\/X.env.scope.names.lookup x=some .local:=by first | exact .inl rfl | exact .inr rfl | assumption)(hs:∀ z,foldedSetIterable iter X.env z=pure z:=by intro _;rfl):ES X G E dl (.For (.Name x px) iter body [] pos) o:=by
 refine uf (yx hp qS (gb hl) (bI hN hi hx hf) (qR (G:=G) (E:=E)) hs) fun D st H ⟨Hf,S0,k⟩=>⟨Hf,S0,fun v aH H' g r=>?_⟩
 cases r with
 | @lst a vs _ q r=>
   have hlen:=r.length
   refine⟨a,rfl,⟨vs,.of (g.sub _ _ q)⟩,AD (xs:=vs) (fun j st H=>j<=m/\∃ aw,aE aH aw/\d7 X.K G st aw H (S j)) ⟨Nat.zero_le _,aH,aE.refl _,(S0.grow g).weak h0⟩ ?_ ?_ ?_⟩
   . rintro j st H _ ⟨_,aw,s1,Sj⟩
     exact .of (Sj.sub _ _ (s1 _ _ q))
   . rintro j v st H hv ⟨WZ,aw,s1,Sj⟩
     obtain⟨z,hz,rz⟩:=r.get' hv
     have hj:j < xs.length:=(List.getElem?_eq_some_iff.mp hz).1
     have Sp:d7 X.K G (st.set nN (some v)) aw H ((S j).set nN (.val z)):=Sj.set (rz.mono s1)
     by_cases dy:j < m
     . exact pk (hb j z dy hz) Sp (fun st bZ H s2 S'=>⟨dy,bZ,s1.trans s2,S'⟩) (fun st bZ H s2 S'=>⟨dy,bZ,s1.trans s2,S'⟩)
     . have e:j=m:=by omega
       subst e
       have ez:xs.getD j .c9=z:=by rw[List.getD_eq_getElem?_getD,hz];rfl
       exact r6 he hj (by show d7 _ _ _ _ _ ((S j).set nN (.val (xs.getD j .c9)));rw[ez];exact Sp) (k.mono (g.bw.trans s1)) rfl rfl
   . rintro st H ⟨Ze,aw,s1,Sn⟩
     have e:m=xs.length:=by omega
     subst e
     rw[hlen] at Sn
     cases he with
     | all _=>exact k st aw H (g.bw.trans s1) Sn
     | rt h _=>omega
     | ro h _=>omega
     | bk h _=>omega
     | ex h _=>omega
inductive Res where
 | ret (d:Dt)
 | own (w:Own)
 | exc (c:Value) (fs:List (Str×Dt))
noncomputable def Tq (K:W.Frag)(Hf H:Hp)(Q:VK)(E:XK):Res->Prop
 | .ret d=>∀ v aH H',bh Hf H aH H'->Rep K aH v d->Q v H'
 | .own w=>∀ p aH H',bh Hf H aH H'->H p=none->aH p=none->gZ K aH H' p w->Q (.ref p) H'
 | .exc c fs=>∀ od aH H',bh Hf H aH H'->ExcAt K aH od fs->E c od H'
noncomputable def D3 (K:W.Frag)(n:Nat)(R:List Dt->Res->Prop):Sp:=fun vs H Q E=>∃ Hf ds r,aE Hf H/\bD K Hf vs ds/\ds.length=n/\R ds r/\Tq K Hf H Q E r
noncomputable def CG (CX:rT):Prop:=∀ outer H s e s',CX outer H s E0 e s'->False
theorem aA:CG Zc:=fun _ _ _ _ _ h=>h
theorem CG.passes {CX:rT}(n:CG CX):Passes CX X E0:=fun _ _ _ _ _ _ _ h=>(n _ _ _ _ _ h).elim
noncomputable def slots (N:List Str)(ds:List Dt):List Slot:=ds.map Slot.val ++ List.replicate (N.length - ds.length) .aL
theorem xU {K:W.Frag}{N:List Str}{Hf H:Hp}{vs:List V}{ds:List Dt}(s:aE Hf H)(r:bD K Hf vs ds):d7 K ⟨Hf,H⟩ (start N vs) Hf H (slots N ds):=by
 have hl:=r.length
 have yu:∀ (i:Nat) o,(slots N ds)[i]?≠some (.own o):=fun i o h=>by
   unfold slots at h
   by_cases hi:i < ds.length
   . rw[List.getElem?_append_left (by simpa using hi),List.getElem?_map] at h
     cases e:ds[i]? with
     | none=>rw[e] at h;cases h
     | some a=>rw[e] at h;cases h
   . rw[List.getElem?_append_right (by simpa using hi),List.getElem?_replicate] at h
     split at h <;> cases h
 refine⟨.refl s,?_,fun i d h=>?_,fun i o h=>absurd h (yu i o),fun i j o o' a h=>absurd h (yu i o)⟩
 . unfold L2.start slots
   simp[hl]
 . unfold slots at h
   by_cases hi:i < ds.length
   . rw[List.getElem?_append_left (by simpa using hi),List.getElem?_map] at h
     cases e:ds[i]? with
     | none=>rw[e] at h;cases h
     | some a=>
       rw[e] at h;cases h
       obtain⟨v,h1,h2⟩:=r.get e
       refine⟨v,?_,h2⟩
       unfold L2.start
       rw[List.getElem?_append_left (by simp;omega),List.getElem?_map,h1];rfl
   . rw[List.getElem?_append_right (by simpa using hi),List.getElem?_replicate] at h
     split at h <;> cases h
inductive Comes:Out->Res->Prop
 | rt (d:Dt):Comes (.rt d) (.ret d)
 | ro (d:Own):Comes (.ro d) (.own d)
 | nx (dl:List Slot):Comes (.nx dl) (.ret .c9)
 | kn {dl:List Slot} {d:Dt} (h:∀ K G st Hf H,d7 K G st Hf H dl->Rep K Hf .c9 d):Comes (.nx dl) (.ret d)
 | ex (c:Value) (fs:List (Str×Dt)):Comes (.ex c fs) (.exc c fs)
theorem Comes.ends {K:W.Frag}{Hf H:Hp}{Q:VK}{o:Out}{r:Res}(h:Comes o r)(k:Tq K Hf H Q E r):wR K ⟨Hf,H⟩ E { nx:=fun _ H'=>Q .c9 H',rt:=Q} Hf o:=by
 cases h with
 | rt d=>exact k
 | ro d=>exact k
 | nx dl=>exact fun st aH H' s' S=>k _ aH H' S.gr .c9
 | kn h=>exact fun st aH H' s' S=>k _ aH H' S.gr (h _ _ _ _ _ S)
 | ex c fs=>exact k
theorem i6 {P:Program}{w:World}{K:W.Frag}{mg:Str->Option Value}{base:Heap}{CX:rT}{x qual:Str}{st:Stmt}{f:Addr}{fd:FuncData}{N ps:List Str}{k n:Nat}{R:List Dt->Res->Prop}(F:RX K x qual st f fd)(S:aq N ps (af st))(hn:ps.length=n)(qK:∀ (bf:Value) (A:Around) (outer:List Env) (s:Shared) (H:Hp) (E:XK) (G:Gr) (ds:List Dt) (r:Res),fj k (A.deeper (envOfC qual (af st) s.heap.objs.size f bf))->ds.length=n->R ds r->∃ o,Comes o r/\oh (AG CX P w K mg base N qual (af st) f bf A outer s H E) G E (slots N ds) (aB st) o):ke P w K mg base CX (k+1) f fd ps (D3 K n R):=by
 obtain⟨oc,od,kV,doc,pm,an,bf,ct,xM,rfl,lk,my⟩:=F.ex
 refine Hs lk my S (fun vs H Q E ⟨Hf,ds,r,s,rp,hl,_⟩=>by rw[rp.length,hl,hn]) fun A outer s H vs Q E hr ⟨Hf,ds,r,sm,rp,hl,hR,hk⟩=>?_
 obtain⟨o,hc,hb⟩:=qK bf A outer s H E ⟨Hf,H⟩ ds r hr hl hR
 exact⟨_,hb,Hf,xU sm rp,hc.ends hk⟩
section
variable {CX:rT}{k n:Nat}{f C:Addr}{fd:FuncData}{ps:List Str}{R:List Dt->Res->Prop}{m:Str}{p apos:Pos}{ob:Expr}{dvs:List Dt}{vds:List V}{GU:List Value}{fs:List (Str×Dt)}
theorem LP (F:ke X.prog X.w X.K X.mg X.base CX k f fd ps (D3 X.K n R))(nx:CG CX)(hr:fj k X.A)(hm:X.mg x=some (.ref f))(hk:W.keepIn X.K (.ref f)=true)(hb:Binds X.K fd ps GU)(hd:Vals vds GU)(FR:∀ H,bD X.K H vds dvs)(ha:EA X G dl (e::es) ds)(hl:(ds ++ dvs).length=n)(h:R (ds ++ dvs) (.ret d))(hg:Gl X x:=by rfl)(mR:(x == ("__debug__":Str))=false:=by decide)(he:starEach (e::es) X.env=(false,eval e X.env)::starEach es X.env:=by rfl)(pW:(backTo pos (starEach es X.env)).any (·.1)=false:=by rfl):EE X G dl (.Call (.Name x p) (e::es) [] pos) d:=
 iW (DP (E:=E0) F hr hg hm hk hb hd nx.passes ha mR he pW) fun st H Q ⟨Hf,S,k⟩=>⟨Hf,S,fun vs aw H1 g1 r1=>⟨aw,ds ++ dvs,.ret d,g1.sub,r1.append (FR _),hl,h,fun v bZ H2 g2 r2=>k v bZ H2 (g1.trans g2) r2⟩⟩
theorem D4 {pl:Sem Bool}(he:EE X G dl ob (.obj C fs))(c:ue X.K C)(hm:Meth X.K C m f)(F:ke X.prog X.w X.K X.mg X.base CX k f fd ps (D3 X.K n R))(nx:CG CX)(hr:fj k X.A)(hb:Binds X.K fd ps GU)(hd:Vals vds GU)(FR:∀ H,bD X.K H vds dvs)
   (ha:EA X G dl (e::es) ds) (hl:(.obj C fs::(ds ++ dvs)).length=n) (h:R (.obj C fs::(ds ++ dvs)) (.ret d)) (uh:fs.lookup m=none)
   (qm:starEach (e::es) X.env=(false,eval e X.env)::starEach es X.env:=by rfl) (pW:(backTo pos (starEach es X.env)).any (·.1)=false:=by rfl)
   (ht:eval (.Call (.Attribute ob m apos) (e::es) [] pos) X.env=(do
     let ov <- eval ob X.env
     standAt apos.atName
     let (f,first) <- holding [ov] (getMethod ov m pl)
     callWith pos f first (backTo pos (starEach (e::es) X.env)) (backToKw pos (keywordEach [] X.env))):=by rfl):EE X G dl (.Call (.Attribute ob m apos) (e::es) [] pos) d:=
 iW (DQ (pl:=pl) (E:=E0) he c hm F hr hb hd nx.passes ha qm pW ht) fun st H Q ⟨Hf,S,k⟩=>⟨Hf,S,fun v aw H1 g1 r1=>by
   cases r1 with
   | @obj a _ dx fv _ q r=>
     exact⟨a,dx,fv,rfl,jR g1.sub q,r.none_of uh,aw,S.grow g1,fun vs bZ H2 g2 r2=>⟨bZ,_,.ret d,g2.sub,.cons (.obj (jR g2.bw q) (r.mono g2.bw)) (r2.append (FR _)),hl,h,fun v ko H3 g3 r3=>k v ko H3 ((g1.trans g2).trans g3) r3⟩⟩⟩
theorem AZ {pl:Sem Bool}(he:EE X G dl ob (.obj C fs))(c:ue X.K C)(hm:Meth X.K C m f)(F:ke X.prog X.w X.K X.mg X.base CX k f fd ps (D3 X.K n R))(nx:CG CX)(hr:fj k X.A)(hb:Binds X.K fd ps GU)(hd:Vals vds GU)(FR:∀ H,bD X.K H vds dvs)
   (hl:(Dt.obj C fs::dvs).length=n) (h:R (.obj C fs::dvs) (.ret d)) (uh:fs.lookup m=none)
   (ht:eval (.Call (.Attribute ob m apos) [] [] pos) X.env=(do
     let ov <- eval ob X.env
     standAt apos.atName
     let (f,first) <- holding [ov] (getMethod ov m pl)
     callWith pos f first (backTo pos (starEach [] X.env)) (backToKw pos (keywordEach [] X.env))):=by rfl):EE X G dl (.Call (.Attribute ob m apos) [] [] pos) d:=
 iW (Hq (pl:=pl) (E:=E0) he c hm F hr hb hd nx.passes ht) fun st H Q ⟨Hf,S,k⟩=>⟨Hf,S,fun v aw H1 g1 r1=>by
   cases r1 with
   | @obj a _ dx fv _ q r=>
     exact⟨a,dx,fv,rfl,jR g1.sub q,r.none_of uh,aw,_,.ret d,g1.sub,.cons (.obj q r) (FR _),hl,h,fun v ko H3 g3 r3=>k v ko H3 (g1.trans g3) r3⟩⟩
end
end
section
variable {X:Cx}{G:Gr}{dl:List Slot}{a b c e:Expr}{i j:Int}{d d1 d2:Dt}{ds:List Dt}{pos p:Pos}{o:Out}{x y f:Str}{u v:Bool}{s:Stmt}{C:Addr}{fs:List (Str×Dt)}
theorem jS {w:V}{z:Value}(hm:X.mg x=some z)(r:RelV w z)(hr:∀ H,Rep X.K H w d)(hg:Gl X x:=by rfl)(hd:(x == ("__debug__":Str))=false:=by decide):EE X G dl (.Name x pos) d:=
 iW (Lm hg hm r hd) fun st H Q ⟨Hf,S,k⟩=>k _ Hf H (.refl S.sub) (hr _)
theorem boot_int:bootBuiltins "int"=some (.type "int"):=by decide +kernel
theorem boot_list:bootBuiltins "list"=some (.type "list"):=by decide +kernel
theorem boot_dict:bootBuiltins "dict"=some (.type "dict"):=by decide +kernel
structure PJ (K:W.Frag)(C:Addr):Prop where
 makes:W.makesIn K C=true
 init:W.findIn K (.ref C) "__init__"=some (some (.builtin "object.__init__"))
 kp:W.keepIn K (.ref C)=true
theorem FT {pins:List (Addr×Obj)}{st:L2.St}{H:Hp}{s:Shared}{Q:VK}(M:PJ X.K C)(I:L2.Inv X pins st H s)(h:∀ x dx,H x=none->H dx=none->dx≠x->Q (.ref x) (upd (upd H dx (.own x)) x (.ins C dx []))):wpAny (model X.prog X.w) X.A (call (.ref C) []) (EP X pins st Q) X.xe s:=by
 have hq:=h (s.heap.objs.size+1) s.heap.objs.size (I.bH.fresh (Nat.le_succ _)) (I.bH.fresh (Nat.le_refl _)) (Nat.ne_of_lt (Nat.lt_succ_self _))
 have I2:=L2.Inv.made (C:=C) I
 refine wpAny_call (FA (s:=s) I.Av M.makes M.init (fun self=>W.Looks.of_pure (W.oi_bind self)) ?_)
 obtain⟨hh,g,d,t,os⟩:=s
 have Y:=W.makes_of (M:=model X.prog X.w) I.Av M.makes
 have t1:W.Looks (model X.prog X.w) ((hh.push W.emptyDict).push (W.instObj C hh.objs.size)) (typeOf (.ref (hh.objs.size+1))) (.ref C):=by
   have e2:=Heap.get?_push_size (hh.push W.emptyDict) (o:=W.instObj C hh.objs.size) rfl
   rw[Heap.size_push] at e2
   exact(W.Looks.ld e2).andThen .now
 have t2:W.Looks (model X.prog X.w) ((hh.push W.emptyDict).push (W.instObj C hh.objs.size)) (isInstance (.ref (hh.objs.size+1)) (.type "object")) true:=t1.andThen (Y.top.keeps fun b o e=>Heap.get?_push_of_some _ (Heap.get?_push_of_some _ e))
 refine codeAny_call_builtin W.oi_plain W.entry_oi (@W.check_slot (model X.prog X.w) _ _ _ "object.__init__" "object" "__init__" (.ref (hh.objs.size+1)) [] [] _ W.oi_kind W.oi_split t2 (W.oi_args (.ref (hh.objs.size+1))) ?_)
 rw[W.oi_run]
 exact wpAny_pure (And.intro rfl ⟨V.ref (hh.objs.size+1),_,I2,rfl,hq⟩)
theorem aD (he:EE X G dl e (.obj C fs))(c:ue X.K C)(n:bM X.K C f)(h:fs.lookup f=some d)(hb:attributeBase e f X.env (eval e X.env)=eval e X.env:=by rfl):EE X G dl (.Attribute e f pos) d:=
 iW (uZ he hb) fun st H Q ⟨Hf,S,k⟩=>⟨Hf,S,fun v aw H1 g1 r1=>by
   cases r1 with
   | @obj a _ dx fv _ q r=>
     obtain⟨y,h1,h2⟩:=r.lookup h
     exact⟨a,C,dx,fv,y,rfl,jR g1.sub q,c,n,h1,k y aw H1 g1 h2⟩⟩
theorem uk (hm:X.mg "len"=none)(ha:EE X G dl a (.lst ds))(hg:Gl X "len":=by rfl)(he:starEach [a] X.env=[(false,eval a X.env)]:=by rfl):EE X G dl (.Call (.Name "len" p) [a] [] pos) (.int ds.length):=
 iW (i8 qO hg hm PySem.boot_len (ae ha ai he) (he:=he)) fun st H Q ⟨Hf,S,k⟩=>⟨Hf,S,fun vs aw H1 g1 r1=>by
   cases r1 with
   | cons r t=>cases t;cases r with
     | @lst q vs _ z w=>exact⟨q,vs,rfl,.inl (.of (g1.sub _ _ z)),by rw[w.length];exact k _ aw H1 g1 (.int _)⟩⟩
theorem yN {ns:List Int}(hm:X.mg "len"=none)(ha:EE X G dl a (.ow ns))(hg:Gl X "len":=by rfl)(he:starEach [a] X.env=[(false,eval a X.env)]:=by rfl):EE X G dl (.Call (.Name "len" p) [a] [] pos) (.int ns.length):=
 iW (i8 qO hg hm PySem.boot_len (ae ha ai he) (he:=he)) fun st H Q ⟨Hf,S,k⟩=>⟨Hf,S,fun vs aw H1 g1 r1=>by
   cases r1 with
   | cons r t=>cases t;cases r with
     | @ow q _ z=>exact⟨q,_,rfl,.inl (g1.sub.seq z),by rw[List.length_map];exact k _ aw H1 g1 (.int _)⟩⟩
theorem yO (hm:X.mg "len"=none)(ha:EE X G dl a (.str x))(hl:x.length<=sizeLine)(hg:Gl X "len":=by rfl)(he:starEach [a] X.env=[(false,eval a X.env)]:=by rfl):EE X G dl (.Call (.Name "len" p) [a] [] pos) (.int x.length):=
 iW (i8 yD hg hm PySem.boot_len (ae ha ai he) (he:=he)) fun st H Q ⟨Hf,S,k⟩=>⟨Hf,S,fun vs aw H1 g1 r1=>by
   cases r1 with
   | cons r t=>cases t;cases r;exact⟨x,rfl,hl,k _ aw H1 g1 (.int _)⟩⟩
structure TyC (K:W.Frag)(C:Addr):Prop where
 cl:ue K C
 ha:W.findIn K (.ref C) "__class__"=some (some (.builtin "object.__class__"))
 hn:W.specialIn K (.builtin "object.__class__") "__get__"=some (some (.builtin "getset_descriptor.__get__"))
 Y7:W.takesIn K (.builtin "object.__class__")=some true
 hm:W.mroIn K C (.type "object")=some true
mutual
noncomputable def pd:Dt->PyData
 | .c9=>.none
 | .bl b=>.bool b
 | .int i=>.int i
 | .str x=>.str x
 | .tup ds=>.tuple (HL ds)
 | .lst ds=>.list (HL ds)
 | .ow _=>.none
 | .dw _=>.none
 | .obj _ _=>.none
 | .ty _=>.none
 | .cls _=>.none
 | .xo _=>.none
 | .mV _=>.none
 | .GR _ _=>.none
 | .eG _=>.none
 | .memo _ _ _ _=>.none
 | .gc _ _ _ _=>.none
 | .xR _ _ _=>.none
 | .yI _ _ _ _ _=>.none
 | .i9 _=>.none
 | .mW _=>.none
noncomputable def HL:List Dt->List PyData
 | []=>[]
 | d::r=>pd d::HL r
end
mutual
noncomputable def plain:Dt->Bool
 | .tup ds=>oF ds
 | .lst ds=>oF ds
 | .ow _=>false
 | .dw _=>false
 | .obj _ _=>false
 | .ty _=>false
 | .cls _=>false
 | .xo _=>false
 | .mV _=>false
 | .GR _ _=>false
 | .eG _=>false
 | .memo _ _ _ _=>false
 | .gc _ _ _ _=>false
 | .xR _ _ _=>false
 | .yI _ _ _ _ _=>false
 | .i9 _=>false
 | .mW _=>false
 | .c9=>true
 | .bl _=>true
 | .int _=>true
 | .str _=>true
noncomputable def oF:List Dt->Bool
 | []=>true
 | d::r=>plain d && oF r
end
section
variable {pins:List (Addr×Obj)}{st:L2.St}{Hf H:Hp}{s:Shared}
mutual
theorem vh (I:L2.Inv X pins st H s)(sm:aE Hf H):∀ {w:V} {d:Dt} {z:Value},Rep X.K Hf w d->plain d=true->RelV w z->∃ as,Reads s.heap z (pd d) as
 | _,_,z,.c9,_,r=>by cases (show z=Value.none from r);exact⟨_,.none⟩
 | _,_,z,.bl b,_,r=>by cases (show z=Value.bool b from r);exact⟨_,.bool b⟩
 | _,_,z,.int i,_,r=>by obtain⟨t,q⟩:=(show ∃ t,z=Value.int i t from r);cases q;exact⟨_,.int i t⟩
 | _,_,z,.str x,_,r=>by obtain⟨t,q⟩:=(show ∃ t,z=Value.str x t from r);cases q;exact⟨_,.str x t⟩
 | _,_,z,@Rep.tup _ _ a vs ds q rr,h,r=>by
   cases (show z=Value.ref a from r)
   obtain⟨aG,rv,⟨o,h1,h2,n,h3⟩,_⟩:=I.tuple (gk sm q)
   obtain⟨as,ra⟩:=r8 I sm rr (by rw[plain] at h;exact h) rv
   refine⟨as,?_⟩
   rw[pd]
   exact .tuple h1 h2 h3 (by simpa using ra)
 | _,_,z,@Rep.lst _ _ a vs ds q rr,h,r=>by
   cases (show z=Value.ref a from r)
   obtain⟨aG,rv,⟨o,n,h1,h2,_,h3⟩,_⟩:=I.list (.of (sm _ _ q))
   obtain⟨as,ra⟩:=r8 I sm rr (by rw[plain] at h;exact h) rv
   refine⟨a::as,?_⟩
   rw[pd]
   exact .list h1 h2 h3 (by simpa using ra)
 | _,_,_,.dw _ _,h,_=>by rw[plain] at h;cases h
 | _,_,_,.ow _,h,_=>by rw[plain] at h;cases h
 | _,_,_,.obj _ _,h,_=>by rw[plain] at h;cases h
 | _,_,_,.ty _,h,_=>by rw[plain] at h;cases h
 | _,_,_,.cls _,h,_=>by rw[plain] at h;cases h
 | _,_,_,.xo _ _,h,_=>by rw[plain] at h;cases h
 | _,_,_,.mV _ _,h,_=>by rw[plain] at h;cases h
 | _,_,_,.GR _ _ _ _,h,_=>by rw[plain] at h;cases h
 | _,_,_,.eG _ _,h,_=>by rw[plain] at h;cases h
 | _,_,_,.memo _ _ _ _,h,_=>by rw[plain] at h;cases h
 | _,_,_,.gc _ _ _ _,h,_=>by rw[plain] at h;cases h
 | _,_,_,.xR _,h,_=>by rw[plain] at h;cases h
 | _,_,_,.yI _ _ _,h,_=>by rw[plain] at h;cases h
 | _,_,_,.i9 _,h,_=>by rw[plain] at h;cases h
 | _,_,_,.mW _,h,_=>by rw[plain] at h;cases h
theorem r8 (I:L2.Inv X pins st H s)(sm:aE Hf H):∀ {vs:List V} {ds:List Dt} {zs:List Value},bD X.K Hf vs ds->oF ds=true->Vals vs zs->∃ as,ReadsAll s.heap zs (HL ds) as
 | _,_,_,.nil,_,.nil=>⟨[],by rw[HL];exact .nil⟩
 | _,_,_,.cons r t,h,.cons q w=>by
   rw[oF,Bool.and_eq_true] at h
   obtain⟨as,h1⟩:=vh I sm r h.1 q
   obtain⟨bs,h2⟩:=r8 I sm t h.2 w
   exact⟨as ++ bs,by rw[HL];exact .cons h1 h2⟩
end
end
noncomputable def LQ (d:Dt):Prop:=plain d=true/\SeqAt.shaped (pd d)=true
noncomputable def Ts (K:PySem.W.Frag)(d1 d2:Dt)(g:Bool->Bool):R2:=fun x y H Q=>∃ Hf,aE Hf H/\Rep K Hf x d1/\Rep K Hf y d2/\LQ d1/\LQ d2/\Q (.bl (g (PyData.eqv (pd d1) (pd d2)))) H
theorem PK (hu:X.A.units+64 < cLine):pV X (compareOp .NotEq) (Ts X.K d1 d2 (!·)):=by
 intro pins s st H x y v w Q I rx ry ⟨Hf,sm,r1,r2,o1,o2,q⟩
 obtain⟨as,h1⟩:=vh I sm r1 o1.1 rx
 obtain⟨bs,h2⟩:=vh I sm r2 o2.1 ry
 exact ne_dataH h1 h2 o1.2 o2.2 hu ⟨.bl _,H,I,rfl,q⟩
theorem PL {K:W.Frag}{g:Bool->Bool}(o1:LQ d1)(o2:LQ d2):Cz K (Ts K d1 d2 g) d1 d2 (.bl (g (PyData.eqv (pd d1) (pd d2)))):=fun v w Hf H Q s r1 r2 k=>⟨Hf,s,r1,r2,o1,o2,k _ Hf H (.refl s) (.bl _)⟩
theorem Tt (hr:X.A.units+64 < cLine)(ha:EE X G dl a d1)(hb:EE X G dl b d2)(o1:LQ d1)(o2:LQ d2)(hu:(!PyData.eqv (pd d1) (pd d2))=u):EE X G dl (.Compare a [.NotEq] [b] pos) (.bl u):=by
 subst hu;exact rZ (PK hr) (PL (g:=(!·)) o1 o2) (kr _) ha hb
theorem A0 (ha:EE X G dl a (.int i))(hb:EE X G dl b (.int j)):EB X G dl (.Compare a [.Lt] [b] pos) (decide (i < j)):=mh SH (qQ (g':=fun i j=>.bl (decide (i < j))) fun _ _ _ _=>.bl _) (kr _) ha hb
theorem tE (ha:EE X G dl a (.int i))(hb:EE X G dl b (.int j)):EB X G dl (.Compare a [.LtE] [b] pos) (decide (i<=j)):=mh Hl (qQ (g':=fun i j=>.bl (decide (i<=j))) fun _ _ _ _=>.bl _) (kr _) ha hb
theorem D5 (ha:EE X G dl a (.int i))(hb:EE X G dl b (.int j)):EB X G dl (.Compare a [.Gt] [b] pos) (decide (j < i)):=mh NS (qQ (g':=fun i j=>.bl (decide (j < i))) fun _ _ _ _=>.bl _) (kr _) ha hb
theorem HM (ha:EE X G dl a (.int i))(hb:EE X G dl b (.int j)):EB X G dl (.Compare a [.GtE] [b] pos) (decide (j<=i)):=mh SI (qQ (g':=fun i j=>.bl (decide (j<=i))) fun _ _ _ _=>.bl _) (kr _) ha hb
theorem vi {K:W.Frag}{w1 w2:V}{g:Bool->Bool}(h1:∀ H w,Rep K H w d1->w=w1)(h2:∀ H w,Rep K H w d2->w=w2)(hs:Lu w1 w2=true):Cz K (fun x y H Q=>Lu x y=true/\Q (.bl (g (decide (x=y)))) H) d1 d2 (.bl (g (decide (w1=w2)))):=fun v w Hf H Q s r1 r2 k=>by
 cases h1 _ _ r1;cases h2 _ _ r2;exact⟨hs,k _ Hf H (.refl s) (.bl _)⟩
theorem o6 (i j:Int):decide (V.int i=V.int j)=decide (i=j):=by simp
theorem qJ (i j:Str):decide (V.str i=V.str j)=decide (i=j):=by simp
theorem vj (ha:EE X G dl a (.int i))(hb:EE X G dl b (.int j)):EE X G dl (.Compare a [.Eq] [b] pos) (.bl (decide (i=j))):=by
 rw[<- o6];exact rZ DO (vi (g:=id) (fun _ _ r=>by cases r;rfl) (fun _ _ r=>by cases r;rfl) rfl) (kr _) ha hb
theorem sd (ha:EE X G dl a (.int i))(hb:EE X G dl b (.int j)):EB X G dl (.Compare a [.Eq] [b] pos) (decide (i=j)):=by
 rw[<- o6];exact mh DO (vi (g:=id) (fun _ _ r=>by cases r;rfl) (fun _ _ r=>by cases r;rfl) rfl) (kr _) ha hb
theorem HN (ha:EE X G dl a (.int i))(hb:EE X G dl b (.int j)):EB X G dl (.Compare a [.NotEq] [b] pos) (!decide (i=j)):=by
 rw[<- o6];exact mh SG (vi (g:=(!·)) (fun _ _ r=>by cases r;rfl) (fun _ _ r=>by cases r;rfl) rfl) (kr _) ha hb
theorem yP (ha:EE X G dl a (.str x))(hb:EE X G dl b (.str y)):EE X G dl (.Compare a [.Eq] [b] pos) (.bl (decide (x=y))):=by
 rw[<- qJ];exact rZ DO (vi (g:=id) (fun _ _ r=>by cases r;rfl) (fun _ _ r=>by cases r;rfl) rfl) (kr _) ha hb
theorem mY (ha:EE X G dl a (.str x))(hb:EE X G dl b (.str y)):EB X G dl (.Compare a [.Eq] [b] pos) (decide (x=y)):=by
 rw[<- qJ];exact mh DO (vi (g:=id) (fun _ _ r=>by cases r;rfl) (fun _ _ r=>by cases r;rfl) rfl) (kr _) ha hb
end
structure GF (P:Program)(w:World)(K:W.Frag)(mg:Str->Option Value)(base:Heap)(CX:rT)(k:Nat)(x:Str)(n:Nat)(R:List Dt->Res->Prop):Prop where
 ex:∃ f fd ps,ke P w K mg base CX k f fd ps (D3 K n R)/\mg x=some (.ref f)/\W.keepIn K (.ref f)=true/\Binds K fd ps []
structure MF (P:Program)(w:World)(K:W.Frag)(mg:Str->Option Value)(base:Heap)(CX:rT)(k:Nat)(C:Addr)(m:Str)(n:Nat)(R:List Dt->Res->Prop):Prop where
 cl:ue K C
 ex:∃ f fd ps,ke P w K mg base CX k f fd ps (D3 K n R)/\Meth K C m f/\Binds K fd ps []
section
variable {X:Cx}{G:Gr}{dl:List Slot}{e:Expr}{es:List Expr}{d:Dt}{ds:List Dt}{pos p apos:Pos}{x m:Str}{C:Addr}{fs:List (Str×Dt)}{CX:rT}{k k' n:Nat}{R:List Dt->Res->Prop}{ob:Expr}
theorem b0 (F:GF X.prog X.w X.K X.mg X.base CX k x n R)(nx:CG CX)(hr:fj k' X.A)(ha:EA X G dl (e::es) ds)(h:R ds (.ret d))(A1:k<=k':=by decide)(hl:ds.length=n:=by rfl)(hg:Gl X x:=by rfl)(mR:(x == ("__debug__":Str))=false:=by decide)(he:starEach (e::es) X.env=(false,eval e X.env)::starEach es X.env:=by rfl)(pW:(backTo pos (starEach es X.env)).any (·.1)=false:=by rfl):EE X G dl (.Call (.Name x p) (e::es) [] pos) d:=by
 obtain⟨f,fd,ps,F,hm,hk,hb⟩:=F.ex
 refine LP (dvs:=[]) (vds:=[]) F nx (hr.mono A1) hm hk hb .nil (fun _=>.nil) ha (by rw[List.append_nil];exact hl) (by rw[List.append_nil];exact h) hg mR he pW
theorem aQ {pl:Sem Bool}(he:EE X G dl ob (.obj C fs))(F:MF X.prog X.w X.K X.mg X.base CX k C m n R)(nx:CG CX)(hr:fj k' X.A)(ha:EA X G dl (e::es) ds)(h:R (.obj C fs::ds) (.ret d))(A1:k<=k':=by decide)(hl:(Dt.obj C fs::ds).length=n:=by rfl)(uh:fs.lookup m=none:=by rfl)
   (qm:starEach (e::es) X.env=(false,eval e X.env)::starEach es X.env:=by rfl) (pW:(backTo pos (starEach es X.env)).any (·.1)=false:=by rfl)
   (ht:eval (.Call (.Attribute ob m apos) (e::es) [] pos) X.env=(do
     let ov <- eval ob X.env
     standAt apos.atName
     let (f,first) <- holding [ov] (getMethod ov m pl)
     callWith pos f first (backTo pos (starEach (e::es) X.env)) (backToKw pos (keywordEach [] X.env))):=by rfl):EE X G dl (.Call (.Attribute ob m apos) (e::es) [] pos) d:=by
 obtain⟨f,fd,ps,Fo,hm,hb⟩:=F.ex
 refine D4 (dvs:=[]) (vds:=[]) (pl:=pl) he F.cl hm Fo nx (hr.mono A1) hb .nil (fun _=>.nil) ha (by rw[List.append_nil];exact hl) (by rw[List.append_nil];exact h) uh qm pW ht
theorem cj {pl:Sem Bool}(he:EE X G dl ob (.obj C fs))(F:MF X.prog X.w X.K X.mg X.base CX k C m n R)(nx:CG CX)(hr:fj k' X.A)(h:R [.obj C fs] (.ret d))(A1:k<=k':=by decide)(hl:[Dt.obj C fs].length=n:=by rfl)(uh:fs.lookup m=none:=by rfl)
   (ht:eval (.Call (.Attribute ob m apos) [] [] pos) X.env=(do
     let ov <- eval ob X.env
     standAt apos.atName
     let (f,first) <- holding [ov] (getMethod ov m pl)
     callWith pos f first (backTo pos (starEach [] X.env)) (backToKw pos (keywordEach [] X.env))):=by rfl):EE X G dl (.Call (.Attribute ob m apos) [] [] pos) d:=by
 obtain⟨f,fd,ps,Fo,hm,hb⟩:=F.ex
 refine AZ (dvs:=[]) (vds:=[]) (pl:=pl) he F.cl hm Fo nx (hr.mono A1) hb .nil (fun _=>.nil) hl h uh ht
end
noncomputable def Zf:List Value:=[.type "ValueError",.type "Exception",.type "BaseException",.type "object"]
structure ExC (K:W.Frag)(C:Addr):Prop where
 ex:W.excIn K C Zf "ValueError.__new__"=true
noncomputable def wU:Value->Shared->Prop:=fun _ _=>False
theorem LR {P:Program}{w:World}{A:Around}{R:Result->Shared->Prop}{s:Shared}{elt tg iter:Expr}{sc:Scope}{pos:Pos}{it acc:Value}{env:Env}(J:Nat->Shared->Prop)
   (turn:∀ n s,J n s->wpAny (model P w) A (pyNext it) (fun r s1=>match r with
     | none=>R (.ok .next) s1
     | some v=>wpAny (model P w) A (letOwnedTupleGo tg it v) (fun _ s2=>wpAny (model P w) A (assign tg env v) (fun _ s3=>wpAny (model P w) A (eval elt env) (fun x s4=>
         wpAny (model P w) A (call (.builtin "list.append") [acc,x]) (fun _ s5=>∃ m,m < n/\J m s5) wU s4) wU s3) wU s2) wU s1) wU s)
   (n:Nat) (h:J n s):codeAny (model P w) A (.compLoop (.ListComp elt [⟨tg,iter,[],0⟩] sc pos) 0 it acc env) R s:=by
 have off:∀ {B:Value->Shared->Prop} (x:Value) (s':Shared),wU x s'->B x s':=fun _ _ z=>z.elim
 refine codeAny_loop rfl J (fun n s hJ=>?_) n h
 show wpAny _ A ((compTurn (.ListComp elt [⟨tg,iter,[],0⟩] sc pos) 0 it acc env).onRaise (fun x=>(do noteFrame x env;theTreesLotGoes x))) _ _ s
 refine wpAny_noted ?_
 rw[compTurn_list1]
 refine wpAny_bind (wpAny_standAt (wpAny_bind (wpAny_mono (turn n s hJ) (fun r s1 h1=>?_) off)))
 cases r with
 | none=>exact wpAny_pure h1
 | some v=>
   refine wpAny_bind (wpAny_mono h1 (fun _ s2 h2=>wpAny_bind (wpAny_mono h2 (fun _ s3 h3=>wpAny_bind (wpAny_bind ?_)) off)) off)
   exact wpAny_mono h3 (fun x s4 h4=>wpAny_bind (wpAny_mono h4 (fun _ s5 h5=>wpAny_pure (wpAny_pure ⟨rfl,h5⟩)) off)) off
noncomputable def yQ (cells:List (Str×Addr)):List (Str×NameKind)->List (Str×Addr)->List (Str×Addr)
 | [],cs=>cs
 | (n,k)::r,cs=>if k == .free then yQ cells r ((n,(cells.lookup n).getD 0)::cs) else yQ cells r cs
noncomputable def lQ (sc:Scope)(env:Env):List (Str×Addr):=yQ env.cells sc.names []
theorem yR {env:Env}:∀ (l:List (Str×NameKind)) (cs:List (Str×Addr)),(∀ y∈l,y.2=.free->∃ c,env.cells.lookup y.1=some c) ->
   (forIn l cs fun(x:Str×NameKind) r=>(if x.2 == .free then (do let c <- cellOf env x.1;pure (ForInStep.yield ((x.1,c)::r))) else pure (ForInStep.yield r):Sem _))=pure (yQ env.cells l cs)
 | [],cs,_=>rfl
 | (n,k)::l,cs,h=>by
   have hr:∀ y∈l,y.2=.free->∃ c,env.cells.lookup y.1=some c:=fun y hy=>h y (List.mem_cons_of_mem _ hy)
   rw[List.forIn_cons,yQ]
   by_cases hk:(k == NameKind.free)=true
   . obtain⟨c,hc⟩:=h (n,k) List.mem_cons_self (by simpa using hk)
     have hc:env.cells.lookup n=some c:=hc
     simp only[hk,if_true,cellOf,hc,pure_bind,Option.getD_some]
     exact yR l _ hr
   . simp only[hk,if_false,pure_bind]
     exact yR l _ hr
theorem yS {sc:Scope}{env:Env}(h:∀ y∈sc.names,y.2=.free->∃ c,env.cells.lookup y.1=some c):closureFor sc env=pure (lQ sc env):=by
 unfold closureFor lQ
 have:=yR (env:=env) sc.names [] h
 simp only[bind_pure]
 refine Eq.trans ?_ this
 congr 1
theorem qT {cells:List (Str×Addr)}{y:Str}{c:Addr}:∀ (l:List (Str×NameKind)) (cs:List (Str×Addr)),(yQ cells l cs).lookup y=some c->((y,NameKind.free)∈l/\(cells.lookup y).getD 0=c)\/cs.lookup y=some c
 | [],cs,h=>.inr h
 | (n,k)::l,cs,h=>by
   rw[yQ] at h
   by_cases hk:(k == NameKind.free)=true
   . rw[if_pos hk] at h
     have PM:k=.free:=by simpa using hk
     subst PM
     rcases qT l _ h with⟨h1,h2⟩ | h1
     . exact .inl ⟨List.mem_cons_of_mem _ h1,h2⟩
     . rw[List.lookup_cons] at h1
       cases q:(y == n) with
       | true=>
         rw[q] at h1
         have e:y=n:=by simpa using q
         subst e
         exact .inl ⟨List.mem_cons_self,Option.some.inj h1⟩
       | false=>rw[q] at h1;exact .inr h1
   . rw[if_neg hk] at h
     rcases qT l _ h with⟨h1,h2⟩ | h1
     . exact .inl ⟨List.mem_cons_of_mem _ h1,h2⟩
     . exact .inr h1
theorem kh {cells:List (Str×Addr)}{y:Str}:∀ (l:List (Str×NameKind)) (cs:List (Str×Addr)),((y,NameKind.free)∈l\/∃ c,cs.lookup y=some c)->∃ c,(yQ cells l cs).lookup y=some c
 | [],cs,h=>by
   rcases h with h | h
   . cases h
   . exact h
 | (n,k)::l,cs,h=>by
   rw[yQ]
   by_cases hk:(k == NameKind.free)=true
   . rw[if_pos hk]
     refine kh l _ ?_
     rcases h with h | ⟨c,h⟩
     . rcases List.mem_cons.mp h with h | h
       . cases h;exact .inr ⟨_,by rw[List.lookup_cons,show(y == y)=true by simp]⟩
       . exact .inl h
     . refine .inr ?_
       rw[List.lookup_cons]
       cases q:(y == n) with
       | true=>exact⟨_,rfl⟩
       | false=>exact⟨c,h⟩
   . rw[if_neg hk]
     refine kh l _ ?_
     rcases h with h | h
     . rcases List.mem_cons.mp h with h | h
       . cases h;exact absurd rfl hk
       . exact .inl h
     . exact .inr h
theorem gm {env:Env}{y:Str}{k:NameKind}:∀ {names:List (Str×NameKind)},(names.map fun(n,k)=>if (k == NameKind.free && env.scope.kind == .function && env.kindOf n == some .cell) then (n,NameKind.cell) else (n,k)).lookup y=some k->∃ k',(y,k')∈names/\(k=k'\/k'=.free)
 | [],h=>by simp at h
 | (n,kk)::r,h=>by
   rw[List.map_cons,List.lookup_cons] at h
   by_cases hc:(kk == NameKind.free && env.scope.kind == .function && env.kindOf n == some .cell)=true
   . simp only[hc,if_true] at h
     cases q:(y == n) with
     | true=>
       have e:y=n:=by simpa using q
       subst e
       have:kk=.free:=by
         have:=hc;simp at this;exact this.1.1
       exact⟨kk,List.mem_cons_self,.inr this⟩
     | false=>
       rw[q] at h
       obtain⟨k',h1,h2⟩:=gm h
       exact⟨k',List.mem_cons_of_mem _ h1,h2⟩
   . simp only[hc,Bool.false_eq_true,if_false] at h
     cases q:(y == n) with
     | true=>
       have e:y=n:=by simpa using q
       subst e
       rw[q] at h
       exact⟨kk,List.mem_cons_self,.inl (Option.some.inj h).symm⟩
     | false=>
       rw[q] at h
       obtain⟨k',h1,h2⟩:=gm h
       exact⟨k',List.mem_cons_of_mem _ h1,h2⟩
theorem mZ {env:Env}{y:Str}:∀ {names:List (Str×NameKind)},names.lookup y=some .free->(names.map fun(n,k)=>if (k == NameKind.free && env.scope.kind == .function && env.kindOf n == some .cell) then (n,NameKind.cell) else (n,k)).lookup y=some .cell \/
   (names.map fun(n,k)=>if (k == NameKind.free && env.scope.kind == .function && env.kindOf n == some .cell) then (n,NameKind.cell) else (n,k)).lookup y=some .free
 | [],h=>by simp at h
 | (n,kk)::r,h=>by
   rw[List.map_cons,List.lookup_cons]
   rw[List.lookup_cons] at h
   cases q:(y == n) with
   | true=>
     rw[q] at h
     have:kk=.free:=Option.some.inj h
     subst this
     by_cases hc:(NameKind.free == NameKind.free && env.scope.kind == .function && env.kindOf n == some .cell)=true
     . left;simp only[hc,if_true];simp[q]
     . right;simp only[hc,Bool.false_eq_true,if_false];simp[q]
   | false=>
     rw[q] at h
     have ih:=mZ (env:=env) h
     by_cases hc:(kk == NameKind.free && env.scope.kind == .function && env.kindOf n == some .cell)=true
     . simp only[hc,if_true,q];exact ih
     . simp only[hc,Bool.false_eq_true,if_false,q];exact ih
structure il (X:Cx)(N:List Str)(ix:List Nat)(x:Str)(sc:Scope):Prop where
 nd:N.Nodup
 nm:N=x::ix.map (fun j=>X.N.getD j "")
 kind:sc.kind=.function
 vk:∀ y∈sc.names,y.2≠.cell
 names:∀ y∈sc.names,y.2=.local->sc.names.lookup y.1=some .local
 hx:sc.names.lookup x=some .local
 fr:∀ y∈sc.names,y.2=.free->X.env.kindOf y.1=some .cell\/X.env.kindOf y.1=some .free
 Tu:∀ j∈ix,∃ y,X.N[j]?=some y/\sc.names.lookup y=some .free
noncomputable def aZ (X:Cx)(N:List Str)(sc:Scope)(C:Addr)(fp:List Addr)(s:Shared)(H:Hp):Cx:=
 { X with N:=N,s₀:=s,H₀:=H,env:=compEnvC sc (lQ sc X.env) C X.env,outer:=X.stack,stack:=X.stack,ex:=fp,fn:=fun _=>false,pn:=[],xe:=wU}
noncomputable def frees (ix:List Nat)(st:L2.St):L2.St:=ix.map fun j=>(st[j]?).join
section
variable {X:Cx}{N:List Str}{ix:List Nat}{x:Str}{sc:Scope}{pins:List (Addr×Obj)}{st:L2.St}{H H':Hp}{s s':Shared}{C D:Addr}{fp:List Addr}{h1:Heap}
theorem HP (B:il X N ix x sc)(ok:X.Ok):closureFor sc X.env=pure (lQ sc X.env):=yS fun y hy hk=>ok.has y.1 (B.fr y hy hk)
theorem vm (B:il X N ix x sc)(ok:X.Ok){y:Str}{c:Addr}(h:(lQ sc X.env).lookup y=some c):X.env.cells.lookup y=some c/\(y,NameKind.free)∈sc.names:=by
 rcases qT _ _ h with⟨h1,h2⟩ | h1
 . obtain⟨c',h3⟩:=ok.has y (B.fr _ h1 rfl)
   rw[h3] at h2
   cases h2
   exact⟨h3,h1⟩
 . cases h1
theorem yT (B:il X N ix x sc)(I:L2.Inv X pins st H s)(hC:s.heap.objs.size<=C)(hf:∀ b∈fp,lD X pins H b)(dy:∀ b∈fp,b < s.heap.objs.size):(aZ X N sc C fp s H).Ok where
 mod:=I.ok.mod
 kind:=B.kind
 glob:=I.ok.glob
 blt:=I.ok.blt
 above:=hC
 inj:=fun y z c h1 h2=>I.ok.inj y z c (vm B I.ok h1).1 (vm B I.ok h2).1
 has:=fun y hy=>by
   have hy:(relabel sc X.env).names.lookup y=some .cell\/(relabel sc X.env).names.lookup y=some .free:=hy
   have:(y,NameKind.free)∈sc.names:=by
     rcases hy with hy | hy
     . obtain⟨k',h1,h2⟩:=gm hy
       rcases h2 with h2 | h2
       . subst h2;exact absurd rfl (B.vk _ h1)
       . subst h2;exact h1
     . obtain⟨k',h1,h2⟩:=gm hy
       rcases h2 with h2 | h2 <;> subst h2 <;> exact h1
   exact kh _ _ (.inl this)
 RS:=fun y c h=>by cases h
 hd:=I.ok.hd
 frames:=I.ok.frames
 Sh:=.inl rfl
 Ll:=fun b hb=>⟨Nat.ne_of_lt (Nat.lt_of_lt_of_le (dy b hb) hC),fun y c h=>(hf b hb).2.2.2.2.1 y c (vm B I.ok h).1⟩
 bs:=I.bs
 DK:=Nat.le_trans I.ok.DK I.sz
 As:=fun b o e hb=>by
   rcases (hf b hb).2.2.2.1 with z | z
   . exact I.ok.As b o e z
   . exact absurd (Nat.lt_of_lt_of_le (Heap.lt_size e) (Nat.le_trans I.ok.DK z)) (Nat.lt_irrefl _)
 Au:=fun b hb z=>by
   rcases List.mem_cons.mp (I.uV b z) with z | z
   . exact(hf b hb).2.1 z
   . exact(hf b hb).2.2.1 z
 rL:=I.stack
 NM:=I.uc
theorem FU (B:il X N ix x sc)(I:L2.Inv X pins st H s)(hf:∀ b∈fp,lD X pins H b)(dy:∀ b∈fp,b < s.heap.objs.size)(hC:C=s.heap.objs.size+1)(k:∀ b o,s.heap.get? b=some o->h1.get? b=some o)(hn:h1.Ns C fun _=>none)(hD:h1.get? s.heap.objs.size=some { cls:=.type "list",data:=.seq ([]:List Value).toArray 0}){t':Nat}:L2.Inv (aZ X N sc C fp s H) [] (none::frees ix st) (upd H s.heap.objs.size (.lst [])) { s with heap:=h1,toks:=t'}:=by
 have N1:s.heap.objs.size<=C:=by rw[hC];exact Nat.le_succ _
 have fr:∀ a,s.heap.objs.size<=a->H a=none:=fun a ha=>I.bH.fresh ha
 have ok:=yT B I N1 hf dy
 have Cf:∀ y c,(lQ sc X.env).lookup y=some c->H c=none/\c < s.heap.objs.size/\∃ v,s.heap.IsCell c v:=fun y c h=>by
   have h:=(vm B I.ok h).1
   obtain⟨v,q⟩:=I.cell y c h
   exact⟨I.p9 y c h,q.lt,v,q⟩
 refine⟨ok,rfl,I.bare,Un.laid k (Nat.le_refl _) (fr _ (Nat.le_refl _)),⟨_,hn,fun i y v e1 e2 e3=>?_⟩,fun y c h=>?_,?_,fun y c h=>?_,fun p hp=>absurd (show p∈([]:List (Addr×Obj)) from hp) (by simp),?_,?_⟩
 . have e1:N[i]?=some y:=e1
   cases i with
   | zero=>cases e2
   | succ i=>
     rw[B.nm,List.getElem?_cons_succ,List.getElem?_map] at e1
     rw[List.getElem?_cons_succ] at e2
     unfold frees at e2
     rw[List.getElem?_map] at e2
     cases q:ix[i]? with
     | none=>rw[q] at e1;cases e1
     | some j=>
       rw[q] at e1 e2
       obtain⟨y',K7,FV⟩:=B.Tu j (List.mem_of_getElem? q)
       have LU:=PySem.mem_of_lookup FV
       have ey:y=y':=by
         have e1:X.N.getD j ""=y:=Option.some.inj e1
         rw[List.getD_eq_getElem?_getD,K7] at e1
         exact e1.symm
       subst ey
       have e2:(st[j]?).join=some v:=Option.some.inj e2
       have Tv:st[j]?=some (some v):=by
         cases q2:st[j]? with
         | none=>rw[q2] at e2;cases e2
         | some z=>rw[q2] at e2;rw[show z=some v from e2]
       have kd:=B.fr _ LU rfl
       have Tw:uU X.env.scope y:=by
         rcases kd with z | z
         . exact .inr (.inl z)
         . exact .inr (.inr z)
       obtain⟨m,_,hl⟩:=I.loc
       obtain⟨u,r,l⟩:=hl j y v K7 Tv Tw
       refine⟨u,r,.inr ?_⟩
       rcases l with⟨z,_⟩ | ⟨_,c,hc,ic⟩
       . rcases kd with z' | z' <;> rw[z] at z' <;> cases z'
       . obtain⟨c',xG⟩:=kh (cells:=X.env.cells) sc.names [] (.inl LU)
         have:=(vm B I.ok xG).1
         rw[hc] at this;cases this
         obtain⟨oc,DM,hd⟩:=ic
         refine⟨?_,c,xG,oc,k _ _ DM,hd⟩
         rcases e3 with e3 | e3 | e3
         . have e3:(relabel sc X.env).names.lookup y=some .local:=e3
           rcases mZ (env:=X.env) FV with z | z
           . exact absurd (e3.symm.trans z) (by decide)
           . exact absurd (e3.symm.trans z) (by decide)
         . exact .inl e3
         . exact .inr e3
 . obtain⟨_,_,v,oc,DM,hd⟩:=Cf y c h
   exact⟨v,oc,k _ _ DM,hd⟩
 . show upd H s.heap.objs.size (.lst []) C=none
   rw[ag (by rw[hC];exact Nat.succ_ne_self _)]
   exact fr _ N1
 . show upd H s.heap.objs.size (.lst []) c=none
   obtain⟨q1,q2,_⟩:=Cf y c h
   rw[ag (Nat.ne_of_lt q2)]
   exact q1
 . exact I.bH.laid k (Nat.le_refl _) ⟨Nat.zero_le _,[],0,.nil,hD⟩
 . show(none::frees ix st).length=N.length
   rw[B.nm]
   unfold frees
   simp
noncomputable def PN (te:TE)(fs:L2.St)(J:It)(D:Addr)(Q:List V->Hp->Prop)(H:Hp):Prop:=
 ∃ W:Nat->Nat->List V->Hp->Prop,(∃ m,W 0 m [] (upd H D (.lst [])))/\∀ i m ys H1,W i m ys H1 ->
   (J.stop i H1/\Q ys H1)\/(J.go i H1/\ys.length < sizeLine/\∀ v H2,J.K4 i H1 v H2->te (some v::fs) H2 fun y H3=>H3 D=some (.lst ys)/\∃ m',m' < m/\W (i+1) m' (ys ++ [y]) (upd H3 D (.lst (ys ++ [y]))))
theorem D6 {elt iter:Expr}{px pos:Pos}{te:TE}{J:It}{it:Addr}{tn:Nat->Heap->Prop}{Q:Addr->List V->Hp->Prop}{RR:Value->Addr->Result->Shared->Prop}{E:Value->Shared->Prop}(hc:X.calm=true)(B:il X N ix x sc)(ky:∀ C fp s H,PE (aZ X N sc C fp s H) elt te)(I:L2.Inv X pins st H s)(T:Turn X.prog X.w X.K (.Name x px) J fp it tn)(h0:tn 0 s.heap)(hf:∀ b∈fp,lD X pins H b)(hq:∀ D,H D=none->PN te (frees ix st) J D (Q D) H)(Tx:∀ D C ys H' s',L2.Inv X pins st H' s'->(∃ m,s'.heap.Ns C m)->lD X pins H' C->Q D ys H'->RR (.ref D) C (.ok .next) s'):wpAny (model X.prog X.w) X.A (newList []) (fun acc s3=>wpAny (model X.prog X.w) X.A (newFunctionEnv sc X.env.globals (lQ sc X.env) [] X.env.qual none .none (some X.env)) (fun A2 s4=>codeAny (model X.prog X.w) X.A (.compStart (.ListComp elt [⟨.Name x px,iter,[],0⟩] sc pos) 0 (.ref it) acc { A2 with scope:=relabel sc X.env}) (RR acc A2.locals) s4) E s3) E s:=by
 have dy:∀ b∈fp,b < s.heap.objs.size:=fun b hb=>by
   obtain⟨o,e,_⟩:=T.obj _ _ h0 b hb
   exact Heap.lt_size e
 refine wpAny_newObj_type (wpAny_newFunctionEnv B.vk (fun y hy=>absurd hy (by simp)) (fun h1 GQ FW=>?_) B.kind)
 dsimp only at GQ FW ⊢
 generalize hG:s.heap.push { cls:=.type "list",dict:=none,data:=.seq ([]:List Value).toArray}=g at GQ FW ⊢
 have hC:g.objs.size=s.heap.objs.size+1:=by rw[<- hG,Heap.size_push]
 have VF:s.heap.objs.size≠g.objs.size:=by rw[hC];exact Nat.ne_of_lt (Nat.lt_succ_self _)
 have old:∀ b o,s.heap.get? b=some o->h1.get? b=some o:=fun b o e=>
   FW.extBut b o (by rw[hC];exact Nat.ne_of_lt (Nat.lt_succ_of_lt (Heap.lt_size e))) (Heap.get?_push_of_some _ (hG ▸ Heap.get?_push_of_some _ e))
 have HQ:h1.get? s.heap.objs.size=some { cls:=.type "list",data:=.seq ([]:List Value).toArray 0}:=FW.extBut _ _ VF (Heap.get?_push_of_some _ (hG ▸ Heap.get?_push_size _ rfl))
 have hD:H s.heap.objs.size=none:=I.bH.fresh (Nat.le_refl _)
 obtain⟨W,⟨m0,w0⟩,turn⟩:=hq _ hD
 have I0:=FU (t':=s.toks+([]:List (Str×Value)).length) B I hf dy hC old (by simpa using GQ) HQ
 have N2:tn 0 h1:=T.keep _ _ _ h0 fun b _ o e=>old b o e
 have oG:s.heap.objs.size<=g.objs.size:=by rw[hC];exact Nat.le_succ _
 have qo:∀ {H':Hp},(∀ b∈fp,H' b=none)->∀ b∈fp,lD (aZ X N sc g.objs.size fp s H) [] H' b:=fun {H'} hn b hb=>
   ⟨hn b hb,((yT B I oG hf dy).Ll b hb).1,(yT B I oG hf dy).Au b hb,.inl hb,((yT B I oG hf dy).Ll b hb).2,fun p hp=>absurd (show p∈([]:List (Addr×Obj)) from hp) (by simp)⟩
 have hN:(aZ X N sc g.objs.size fp s H).N[0]?=some x:=by
   show N[0]?=some x
   rw[B.nm];rfl
 have K8:(aZ X N sc g.objs.size fp s H).env.scope.names.lookup x=some .local:=lookup_relabel_local B.hx
 have loop:∀ s3:Shared,s3={ s with heap:=h1,toks:=s.toks+([]:List (Str×Value)).length} ->
     codeAny (model X.prog X.w) X.A (.compLoop (.ListComp elt [⟨.Name x px,iter,[],0⟩] sc pos) 0 (.ref it) (.ref s.heap.objs.size) (compEnvC sc (lQ sc X.env) g.objs.size X.env)) (RR (.ref s.heap.objs.size) g.objs.size) s3:=by
   rintro s3 rfl
   refine LR (fun n s'=>∃ i ys σ H',L2.Inv (aZ X N sc g.objs.size fp s H) [] (σ::frees ix st) H' s'/\tn i s'.heap/\(∀ b∈fp,H' b=none)/\W i n ys H') ?_ m0
     ⟨0,[],none,_,I0,N2,fun b hb=>?_,w0⟩
   . rintro n s5 ⟨i,ys,σ,H5,I5,GP,K5,w5⟩
     rcases turn i n ys H5 w5 with⟨stop,qn⟩ | ⟨go,hz,step⟩
     . refine b7 (T.done (aZ X N sc g.objs.size fp s H) rfl rfl rfl hc i [] s5 _ H5 wU I5 (qo K5) GP stop) fun r s6 ⟨hr,I6⟩=>?_
       subst hr
       refine Tx _ _ ys H5 s6 ?_ ?_ (I.uW oG I6.free) qn
       . exact I.Hd I6.os I6.base I6.bH I6.bare fun b hb=>⟨(hf b hb).2.2.2.1,(hf b hb).2.1,(hf b hb).2.2.2.2.1,(hf b hb).2.2.2.2.2⟩
       . obtain⟨m,hm,_⟩:=I6.loc
         exact⟨m,hm⟩
     . refine b7 (T.item (aZ X N sc g.objs.size fp s H) rfl rfl rfl hc i [] s5 _ H5 wU I5 (qo K5) GP go) fun r s6 ⟨u,hr,h6⟩=>?_
       subst hr
       refine b7 h6 fun _ s7 ⟨v,H7,I7,r7,y7,HR,Tz⟩=>?_
       have TB:=I7.pinned (qo Tz) (T.obj _ _ HR)
       refine b7 (bI (X:=aZ X N sc g.objs.size fp s H) (pos:=px) B.nd hN (.inl K8) (.inr K8) _ s7 _ H7 v u (fun σ' H'=>σ'=some v::frees ix st/\H'=H7) TB r7 ⟨rfl,rfl⟩) fun _ s8 h8=>?_
       obtain⟨σ8,H8,I8,rfl,rfl⟩:=h8
       refine b7 (ky g.objs.size fp s H _ s8 _ H8 _ I8 (step v H8 y7)) fun z s9 ⟨y,H9,I9,r9,TC,m',hm,w9⟩=>?_
       refine b7 (o8 _ s9 _ H9 (.ref s.heap.objs.size) [y] (.ref s.heap.objs.size) [z] (fun _ H'=>H'=upd H9 s.heap.objs.size (.lst (ys ++ [y]))) I9 rfl (.cons r9 .nil) ⟨_,ys,y,rfl,rfl,TC,hz,rfl⟩) fun _ Zg TF=>?_
       obtain⟨_,Zh,HS,_,rfl⟩:=TF
       refine⟨m',hm,i+1,ys ++ [y],some v,_,HS.ka (pins:=[]),T.keep _ _ _ HR fun b hb o e=>(HS.pin (b,o) (List.mem_append_right _ (List.mem_append_right _ (gj hb e)))).1,fun b hb=>?_,w9⟩
       obtain⟨o,e,d⟩:=T.obj _ _ HR b hb
       exact(HS.pin (b,o) (List.mem_append_right _ (List.mem_append_right _ (gj hb e)))).2.1
   . rw[ag (Nat.ne_of_lt (dy b hb))]
     exact(hf b hb).1
 exact codeAny_compStart_list (loop _ rfl) (T.self _ 0 _ _ _ N2 (loop _ rfl))
end
noncomputable def VG (K:PySem.W.Frag)(G:Gr)(dl:List Slot)(o:Own):TE:=fun st H Q=>∃ Hf,d7 K G st Hf H dl/\∀ p aH H',bh Hf H aH H'->H p=none->aH p=none->gZ K aH H' p o->Q (.ref p) H'
noncomputable abbrev EO (X:Cx)(G:Gr)(dl:List Slot)(e:Expr)(o:Own):Prop:=PE X e (VG X.K G dl o)
noncomputable def RZ:Own->Dt
 | .lst ds=>.lst ds
 | .dw k=>.dw k
 | .obj C fs=>.obj C fs
 | .AW _ C fs=>.obj C fs
 | .rY C fs gs nm n=>.yI C fs gs nm n
 | .yK _ C fs gs nm n=>.yI C fs gs nm n
 | .mW k=>.mW k
section
variable {K:W.Frag}{G:Gr}{st:L2.St}{Hf H aH H':Hp}{dl:List Slot}{p:Addr}{w:Own}{u:HO}
theorem HU (g:bh Hf H aH H')(n:H p=none)(n':aH p=none)(e:H' p=some u):bh Hf H (upd aH p u) H':=
 ⟨g.big,g.bw.trans (bE n'),fun b o h=>by
   by_cases hb:b=p
   . subst hb;rw[ak] at h;cases h;exact e
   . rw[ag hb] at h;exact g.sub _ _ h,fun a o h=>by
   by_cases hb:a=p
   . subst hb;exact .inr (.inl n)
   . rw[ag hb] at h;exact g.new a o h⟩
theorem D7 (r:gZ K Hf H p w)(n:Hf p=none):∃ u,H p=some u/\Rep K (upd Hf p u) (.ref p) (RZ w):=by
 cases w with
 | lst ds=>obtain⟨vs,h,r⟩:=r;exact⟨_,h,.lst ak (r.mono (bE n))⟩
 | dw ds=>obtain⟨vs,h,r⟩:=r;exact⟨_,h,.dw ak (r.mono (bE n))⟩
 | obj C ds=>obtain⟨dx,fs,h,r⟩:=r;exact⟨_,h,.obj (.of ak) (r.mono (bE n))⟩
 | AW x C ds=>obtain⟨_,dx,fs,h,r⟩:=r;exact⟨_,h,.obj (.of ak) (r.mono (bE n))⟩
 | rY C ds gs nm k=>obtain⟨dx,fs,b,ls,q,h,r⟩:=r;exact⟨_,h,.yI q (.of ak) (r.mono (bE n))⟩
 | yK x C ds gs nm k=>obtain⟨_,dx,fs,b,ls,q,h,r⟩:=r;exact⟨_,h,.yI q (.of ak) (r.mono (bE n))⟩
 | mW ks=>exact⟨_,r,.mW ak⟩
theorem d7.PQ (S:d7 K G st Hf H dl)(g:bh Hf H aH H'){i:Nat}(n:H p=none)(n':aH p=none)(r:gZ K aH H' p w):d7 K G (st.set i (some (.ref p))) aH H' (dl.set i (.own w)):=by
 have ln:=S.len
 have S':=S.grow g
 have pn:∀ (j:Nat) (o':Own) (a:Addr),dl[j]?=some (Slot.own o')->st[j]?=some (some (V.ref a))->a≠p:=fun j o' a h1 h2=>by
   obtain⟨b,q1,_,_,q4⟩:=S.own j o' h1
   rw[h2] at q1;cases q1
   obtain⟨u,hu⟩:=q4.some
   exact av hu n
 refine⟨S'.gr,by simp[S.len],fun j x h=>?_,fun j o' h=>?_,fun j k o1 o2 a h1 h2 h3 h4=>?_⟩
 . by_cases e:i=j
   . subst e
     by_cases hl:i < dl.length
     . rw[List.getElem?_set_self hl] at h;cases h
     . rw[List.getElem?_eq_none (by simp;omega)] at h;cases h
   . rw[List.getElem?_set_ne e] at h ⊢;exact S'.val j x h
 . by_cases e:i=j
   . subst e
     by_cases hl:i < dl.length
     . rw[List.getElem?_set_self hl] at h;cases h
       exact⟨p,List.getElem?_set_self (by omega),n',S.gr.big.free n,r⟩
     . rw[List.getElem?_eq_none (by simp;omega)] at h;cases h
   . rw[List.getElem?_set_ne e] at h ⊢
     exact S'.own j o' h
 . by_cases ej:i=j
   . by_cases ek:i=k
     . omega
     . subst ej
       rw[List.getElem?_set_ne ek] at h2 h4
       by_cases hl:i < st.length
       . rw[List.getElem?_set_self hl] at h3;cases h3
         exact absurd rfl (pn k o2 _ h2 h4)
       . rw[List.getElem?_eq_none (by simp;omega)] at h3;cases h3
   . rw[List.getElem?_set_ne ej] at h1 h3
     by_cases ek:i=k
     . subst ek
       by_cases hl:i < st.length
       . rw[List.getElem?_set_self hl] at h4;cases h4
         exact absurd rfl (pn j o1 _ h1 h3)
       . rw[List.getElem?_eq_none (by simp;omega)] at h4;cases h4
     . rw[List.getElem?_set_ne ek] at h2 h4
       exact S.FO j k o1 o2 a h1 h2 h3 h4
theorem d7.bw (S:d7 K G st Hf H dl){i:Nat}(hd:dl[i]?=some (.own w)):∃ aH,aE Hf aH/\d7 K G st aH H (dl.set i (.val (RZ w))):=by
 have ln:=S.len
 obtain⟨p,h1,h2,h3,h4⟩:=S.own i w hd
 obtain⟨u,hu,rp⟩:=D7 h4 h2
 have hl:i < dl.length:=(List.getElem?_eq_some_iff.mp hd).1
 have sm:aE Hf (upd Hf p u):=bE h2
 refine⟨upd Hf p u,sm,⟨S.gr.big,S.gr.bw.trans sm,fun b o h=>?_,fun a o h=>?_⟩,by simp[S.len],fun j x h=>?_,fun j o' h=>?_,fun j k o1 o2 a q1 q2 q3 q4=>?_⟩
 . by_cases hb:b=p
   . subst hb;rw[ak] at h;cases h;exact hu
   . rw[ag hb] at h;exact S.gr.sub _ _ h
 . by_cases hb:a=p
   . subst hb;exact .inr (.inl h3)
   . rw[ag hb] at h;exact S.gr.new a o h
 . by_cases e:i=j
   . subst e
     rw[List.getElem?_set_self hl] at h;cases h
     exact⟨_,h1,rp⟩
   . rw[List.getElem?_set_ne e] at h
     obtain⟨v,z1,z2⟩:=S.val j x h
     exact⟨v,z1,z2.mono sm⟩
 . by_cases e:i=j
   . subst e;rw[List.getElem?_set_self hl] at h;cases h
   . rw[List.getElem?_set_ne e] at h
     obtain⟨a,z1,z2,z3,z4⟩:=S.own j o' h
     have ne:a≠p:=fun q=>by subst q;exact e (S.FO i j _ _ _ hd h h1 z1)
     exact⟨a,z1,by rw[ag ne];exact z2,z3,z4.grow rfl sm⟩
 . have tr:∀ (j:Nat) o',(dl.set i (.val (RZ w)))[j]?=some (.own o')->dl[j]?=some (.own o'):=fun j o' h=>by
     by_cases e:i=j
     . subst e;rw[List.getElem?_set_self hl] at h;cases h
     . rw[List.getElem?_set_ne e] at h;exact h
   exact S.FO j k _ _ a (tr _ _ q1) (tr _ _ q2) q3 q4
end
section
variable {X:Cx}{G:Gr}{E:XK}{dl:List Slot}{a b e:Expr}{i:Int}{d:Dt}{ds:List Dt}{pos p:Pos}{o:Out}{x:Str}{u v:Bool}{sts:List Stmt}{C:Addr}{w:Own}{fs:List (Str×Dt)}
theorem LV (h:EO X G dl e w):EE X G dl e (RZ w):=iW h fun st H Q ⟨Hf,S,k⟩=>⟨Hf,S,fun p aH H' g n n' r=>by
 obtain⟨u,hu,rp⟩:=D7 r n'
 exact k _ _ H' (HU g n n' hu) rp⟩
theorem oH (h:EO X G dl e (.lst ds)):EE X G dl e (.lst ds):=LV h
theorem N3 (h:EO X G dl e (.obj C fs)):EE X G dl e (.obj C fs):=LV h
theorem D8 {w':Own}(h:EO X G dl e w)(q:w=w'):EO X G dl e w':=by subst q;exact h
theorem kN (n:Nat){x:Str}{pos':Pos}(hN:X.N.Nodup)(he:EO X G dl e w)(hi:X.N[n]?=some x:=by rfl)(hx:Loc X.env.scope x:=by first | exact Or.inl rfl | exact Or.inr rfl)(hs:swapsWith e (some (.Name x pos')) pos.line X.env=pure false:=by rfl)(hf:X.fn x=true\/X.env.scope.names.lookup x=some .local:=by first | exact .inl rfl | exact .inr rfl | assumption):ES X G E dl (.Assign [.Name x pos'] e pos) (.nx (dl.set n (.own w))):=
 uf (Ck hN hi hx he hs hf) fun D st H ⟨Hf,S,k⟩=>⟨Hf,S,fun p aw H1 g1 n1 n2 r1=>k _ aw H1 g1.bw (S.PQ g1 n1 n2 r1)⟩
theorem l2 (h:EO X G dl e w):ES X G E dl (.Return (some e) pos) (.ro w):=uf (Cj h) fun D st H ⟨Hf,S,k⟩=>⟨Hf,S,fun p aw H1 g1 n1 n2 r1=>k p aw H1 (S.gr.trans g1) (S.gr.big.free n1) n2 r1⟩
theorem D9 (n:Nat)(hd:dl[n]?=some (.own w):=by rfl)(hN:X.N[n]?=some x:=by rfl)(hv:uU X.env.scope x:=by first | exact Or.inl rfl | exact Or.inr (Or.inl rfl) | exact Or.inr (Or.inr rfl))(hb:(x == ("__debug__":Str))=false:=by decide)(my:(x == ("__classdict__":Str))=false:=by decide):ES X G E dl (.Return (some (.Name x p)) pos) (.ro w):=
 uf (Cj (jF hN hv hb my)) fun D st H ⟨Hf,S,k⟩=>by
   obtain⟨q,h1,h2,h3,h4⟩:=S.own n w hd
   exact⟨_,h1,k q Hf H S.gr h3 h2 h4⟩
theorem vn (i:Nat)(h:oh X G E (dl.set i (.val (RZ w))) sts o)(hd:dl[i]?=some (.own w):=by rfl):oh X G E dl sts o:=AX h fun D st H ⟨Hf,S,k⟩=>by
 obtain⟨aH,sm,S'⟩:=S.bw hd
 exact⟨aH,S',k.mono sm⟩
noncomputable def tOv (K:W.Frag)(G:Gr)(dl:List Slot)(n:Nat)(w:Own):TE:=fun st H Q=>∃ Hf a,d7 K G st Hf H dl/\st[n]?=some (some (.ref a))/\Hf a=none/\gZ K Hf H a w/\Q (.ref a) H
theorem vo (n:Nat)(hd:dl[n]?=some (.own w))(hN:X.N[n]?=some x)(hv:uU X.env.scope x)(hb:(x == ("__debug__":Str))=false)(my:(x == ("__classdict__":Str))=false):PE X (.Name x p) (tOv X.K G dl n w):=
 iW (jF hN hv hb my) fun st H Q ⟨Hf,a,S,h1,_,_,q⟩=>⟨_,h1,q⟩
theorem se (n:Nat)(hb:EE X G dl b (.int i))(h:o7 ds i=some d)(hd:dl[n]?=some (.own (.lst ds)):=by rfl)(hN:X.N[n]?=some x:=by rfl)(hv:uU X.env.scope x:=by first | exact Or.inl rfl | exact Or.inr (Or.inl rfl) | exact Or.inr (Or.inr rfl))(mR:(x == ("__debug__":Str))=false:=by decide)(my:(x == ("__classdict__":Str))=false:=by decide)(hs:kM b:=by intro _ _;rfl):EE X G dl (.Subscript (.Name x p) b pos) d:=
 iW (u7 yB (vo (p:=p) n hd hN hv mR my) hb hs) fun st H Q ⟨Hf,S,k⟩=>by
   obtain⟨q,h1,h2,h3,h4⟩:=S.own n _ hd
   refine⟨Hf,q,S,h1,h2,h4,Hf,S,fun z aw H1 g1 r1=>?_⟩
   cases r1
   obtain⟨vs,hq,rp⟩:=h4
   obtain⟨v,hv1,hv2⟩:=rp.o7 h
   exact⟨q,vs,i,v,rfl,rfl,.of (g1.big _ _ hq),hv1,k v aw H1 g1 (hv2.mono g1.bw)⟩
theorem mD (n:Nat){m:Nat}{ps pn:Pos}(he:EE X G dl e d)(hb:EE X G dl b (.int i))(h:Cu ds.length i=some m)(hd:dl[n]?=some (.own (.lst ds)):=by rfl)(hN:X.N[n]?=some x:=by rfl)
   (hv:uU X.env.scope x:=by first | exact Or.inl rfl | exact Or.inr (Or.inl rfl) | exact Or.inr (Or.inr rfl)) (mR:(x == ("__debug__":Str))=false:=by decide) (my:(x == ("__classdict__":Str))=false:=by decide)
   (ha:∀ v,assign (.Subscript (.Name x pn) b ps) X.env v=(do
     let ov <- holding [v] (eval (.Name x pn) X.env)
     let iv <- holding [v,ov] (eval b X.env)
     standAt ps
     holding [v,ov,iv] (setItem ov iv v)
     release [v,ov,iv] []):=by intro _;rfl)
   (hs:swapsWithSole [.Subscript (.Name x pn) b ps] e pos.line X.env=pure false:=by rfl) (hw:swappedStores [.Subscript (.Name x pn) b ps] e X.env=pure none:=by rfl)
   (h1:(assignEach [.Subscript (.Name x pn) b ps] X.env).map (·.2)=[assign (.Subscript (.Name x pn) b ps) X.env]:=by rfl) :
   ES X G E dl (.Assign [.Subscript (.Name x pn) b ps] e pos) (.nx (dl.set n (.own (.lst (ds.set m d))))):=
 uf (Hh he (O0 (vo (p:=pn) n hd hN hv mR my) hb set_list ha) hs hw h1) fun D st H ⟨Hf,S,k⟩=>⟨Hf,S,fun v aw H1 g1 r1=>by
   have S1:=S.grow g1
   obtain⟨q,z1,z2,z3,z4⟩:=S1.own n _ hd
   refine⟨aw,q,S1,z1,z2,z4,aw,S1,fun iv bZ H2 g2 r2=>?_⟩
   cases r2
   have S2:=S1.grow g2
   obtain⟨q',y1,y2,y3,vs,hq,rp⟩:=S2.own n _ hd
   rw[z1] at y1;cases y1
   refine⟨q,vs,i,m,rfl,rfl,hq,by rw[rp.length];exact h,?_⟩
   exact k st bZ _ (g1.bw.trans g2.bw) (S2.FP hd z1 ⟨_,ak,rp.set (r1.mono g2.bw) m⟩)⟩
end
section
variable {X:Cx}{G:Gr}{E:XK}{dl:List Slot}{a b e:Expr}{es:List Expr}{i j:Int}{d d1 d2:Dt}{ds:List Dt}{pos p apos bY:Pos}{x y:Str}{u v:Bool}{s:Stmt}{w:Own}
theorem sh (h:EA X G dl es ds)(hl:ds.length<=sizeLine:=by decide):EO X G dl (.List es pos) (.lst ds):=
 iW (u6 h) fun st H Q ⟨Hf,S,k⟩=>⟨Hf,S,fun vs aw H1 g1 r1=>⟨by rw[r1.length];exact hl,fun p hp=>k p aw _ (g1.trans (.fU g1.sub hp)) (g1.big.free hp) (g1.sub.free hp) ⟨vs,ak,r1⟩⟩⟩
theorem TH {op:Operator}{r:R2}(ho:pV X (binaryOp op) r)(ha:EE X G dl a d1)(hb:EE X G dl b d2)(h:∀ v z Hf H Q,aE Hf H->Rep X.K Hf v d1->Rep X.K Hf z d2->(∀ p vs,H p=none->bD X.K Hf vs ds->Q (.ref p) (upd H p (.lst vs)))->r v z H Q):EO X G dl (.BinOp a op b pos) (.lst ds):=
 iW (NR ho ha hb) fun st H Q ⟨Hf,S,k⟩=>⟨Hf,S,fun v aw H1 g1 r1=>⟨aw,S.grow g1,fun z bZ H2 g2 r2=>h v z bZ H2 Q g2.sub (r1.mono g2.bw) r2 fun p vs hp rv=>
   k p bZ _ ((g1.trans g2).trans (.fU g2.sub hp)) ((g1.trans g2).big.free hp) (g2.sub.free hp) ⟨vs,ak,rv⟩⟩⟩
theorem A3 {K:W.Frag}{H:Hp}{vs:List V}{ds:List Dt}(r:bD K H vs ds):∀ n:Nat,bD K H (List.replicate n vs).flatten (List.replicate n ds).flatten
 | 0=>.nil
 | n+1=>by
   rw[List.replicate_succ,List.replicate_succ,List.flatten_cons,List.flatten_cons]
   exact r.append (A3 r n)
theorem HV (ha:EE X G dl a (.lst ds))(hb:EE X G dl b (.int i))(h1:-(2 ^ 63)<=i)(h2:i < 2 ^ 63)(hl:ds.length * i.toNat<=sizeLine):EO X G dl (.BinOp a .Mult b pos) (.lst (List.replicate i.toNat ds).flatten):=
 TH Pq ha hb fun v z Hf H Q s r1 r2 k=>by
   cases r1 with
   | lst q1 r1=>cases r2;exact⟨_,i,_,rfl,rfl,s _ _ q1,h1,h2,by rw[r1.length];exact hl,fun p hp=>k p _ hp (A3 r1 _)⟩
theorem Ea (hm:X.mg "list"=none)(ha:EE X G dl a (.lst ds))(hg:Gl X "list":=by rfl)(he:starEach [a] X.env=[(false,eval a X.env)]:=by rfl):EO X G dl (.Call (.Name "list" p) [a] [] pos) (.lst ds):=
 iW (mB yE hg hm boot_list (ae ha ai he) (he:=he)) fun st H Q ⟨Hf,S,k⟩=>⟨Hf,S,fun vs aw H1 g1 r1=>by
   cases r1 with
   | cons r t=>cases t;cases r with
     | @lst q vs _ z r=>exact⟨q,vs,rfl,.inl (.of (g1.sub _ _ z)),fun l hl=>k l aw _ (g1.trans (.fU g1.sub hl)) (g1.big.free hl) (g1.sub.free hl) ⟨vs,ak,r⟩⟩⟩
theorem FX:bootBuiltins "max"=some (.builtin "max"):=by decide +kernel
theorem FY:bootBuiltins "min"=some (.builtin "min"):=by decide +kernel
theorem PR (hm:X.mg "max"=none)(hc:X.calm=true)(ha:EA X G dl [a,b] [.int i,.int j])(hg:Gl X "max":=by rfl)(he:starEach [a,b] X.env=(false,eval a X.env)::starEach [b] X.env:=by rfl)(pW:(backTo pos (starEach [b] X.env)).any (·.1)=false:=by rfl) :
   EE X G dl (.Call (.Name "max" p) [a,b] [] pos) (.int (if j > i then j else i)):=
 iW (i8 (Fv hc) hg hm FX ha (by decide) (by decide) he pW) fun st H Q ⟨Hf,S,k⟩=>⟨Hf,S,fun vs aw H1 g1 r1=>by
   cases r1 with
   | cons r1 t1=>cases t1 with
     | cons r2 t2=>cases t2;cases r1;cases r2;exact⟨i,j,rfl,k _ aw H1 g1 (.int _)⟩⟩
theorem HW (hm:X.mg "min"=none)(hc:X.calm=true)(ha:EA X G dl [a,b] [.int i,.int j])(hg:Gl X "min":=by rfl)(he:starEach [a,b] X.env=(false,eval a X.env)::starEach [b] X.env:=by rfl)(pW:(backTo pos (starEach [b] X.env)).any (·.1)=false:=by rfl) :
   EE X G dl (.Call (.Name "min" p) [a,b] [] pos) (.int (if j < i then j else i)):=
 iW (i8 (Fw hc) hg hm FY ha (by decide) (by decide) he pW) fun st H Q ⟨Hf,S,k⟩=>⟨Hf,S,fun vs aw H1 g1 r1=>by
   cases r1 with
   | cons r1 t1=>cases t1 with
     | cons r2 t2=>cases t2;cases r1;cases r2;exact⟨i,j,rfl,k _ aw H1 g1 (.int _)⟩⟩
theorem HX:pV X (compareOp .IsNot) (fun x y H Q=>∃ i j,x=.bl i/\y=.bl j/\Q (.bl (i != j)) H):=by
 intro pins s st H x y v w Q I rx ry ⟨i,j,e1,e2,q⟩
 subst e1 e2
 cases (show v=Value.bool i from rx)
 cases (show w=Value.bool j from ry)
 exact isnot_bool ⟨.bl _,H,I,rfl,q⟩
theorem W0 {K:W.Frag}{g:Bool->Bool->Bool}:Cz K (fun x y H Q=>∃ i j,x=.bl i/\y=.bl j/\Q (.bl (g i j)) H) (.bl u) (.bl v) (.bl (g u v)):=fun x y Hf H Q s r1 r2 k=>by
 cases r1;cases r2;exact⟨u,v,rfl,rfl,k _ Hf H (.refl s) (.bl _)⟩
theorem A4 (ha:EE X G dl a (.bl u))(hb:EE X G dl b (.bl v)):EB X G dl (.Compare a [.IsNot] [b] pos) (u != v):=mh HX (W0 (g:=fun i j=>i != j)) (kr _) ha hb
theorem si (n:Nat){pn:Pos}(he:EE X G dl e d)(hl:ds.length < sizeLine)(hd:dl[n]?=some (.own (.lst ds)):=by rfl)(hN:X.N[n]?=some x:=by rfl)(hv:uU X.env.scope x:=by first | exact Or.inl rfl | exact Or.inr (Or.inl rfl) | exact Or.inr (Or.inr rfl))
   (mR:(x == ("__debug__":Str))=false:=by decide) (my:(x == ("__classdict__":Str))=false:=by decide)
   (kf:attributeBase (.Name x pn) "append" X.env (eval (.Name x pn) X.env)=eval (.Name x pn) X.env:=by rfl)
   (va:((backTo bY (starEach [e] X.env)).all (fun x=>!x.1) && (backToKw bY (keywordEach [] X.env)).all (fun x=>x.1.isSome) && decide ([e].length+([]:List Keyword).length+(if ([]:List Keyword).isEmpty then 0 else 1) < 30))=true:=by rfl)
   (kg:(apos.endLine == bY.line)=true:=by rfl) (qm:starEach [e] X.env=(false,eval e X.env)::starEach [] X.env:=by rfl) (hs:swapsWith (.Call (.Attribute (.Name x pn) "append" apos) [e] [] bY) none pos.line X.env=pure false:=by rfl) :
   ES X G E dl (.Expr (.Call (.Attribute (.Name x pn) "append" apos) [e] [] bY) pos) (.nx (dl.set n (.own (.lst (ds ++ [d]))))):=
 uf (lX (u9 PySem.F.plainAttrs_list PySem.F.slot_list_append PySem.F.type_list_append o8 (vo (p:=pn) n hd hN hv mR my) (ae he ai qm) kf va kg qm rfl) hs) fun D st H ⟨Hf,S,k⟩=>by
   obtain⟨q,z1,z2,z3,vs,hq,rp⟩:=S.own n _ hd
   refine⟨Hf,q,S,z1,z2,⟨vs,hq,rp⟩,.inl ⟨rfl,vs,.of hq⟩,Hf,S,fun us aw H1 g1 r1=>?_⟩
   cases r1 with
   | cons r1 t1=>
     cases t1
     refine⟨q,vs,_,rfl,rfl,g1.big _ _ hq,by rw[rp.length];exact hl,?_⟩
     exact k st aw _ g1.bw ((S.grow g1).FP hd z1 ⟨_,ak,(rp.mono g1.bw).append (.cons r1 .nil)⟩)
theorem pq {K:W.Frag}{H:Hp}:∀ {vs:List V} {xs:List Str},bD K H vs (xs.map Dt.str)->vs=xs.map V.str
 | _,[],.nil=>rfl
 | _,x::xs,.cons r t=>by cases r;rw[pq t];rfl
end
noncomputable def A5:Option Slot->Slot
 | some (.val d)=>.val d
 | _=>.aL
theorem xV {o:Option Slot}{w:Own}(h:A5 o=.own w):False:=by
 unfold A5 at h
 split at h <;> cases h
theorem xW {o:Option Slot}{d:Dt}(h:A5 o=.val d):o=some (.val d):=by
 unfold A5 at h
 split at h
 . cases h;rfl
 . cases h
noncomputable def jD (dl:List Slot)(ix:List Nat):List Slot:=ix.map fun j=>A5 dl[j]?
section
variable {K:W.Frag}{G:Gr}{st:L2.St}{Hf H aw H1:Hp}{dl:List Slot}{ix:List Nat}
theorem LW (S:d7 K G st Hf H dl)(s1:aE Hf aw)(sb:aE aw H1){v:V}{d:Dt}(r:Rep K aw v d):d7 K ⟨aw,H1⟩ (some v::frees ix st) aw H1 (.val d::jD dl ix):=by
 have no:∀ (i:Nat) o,(Slot.val d::jD dl ix)[i]?≠some (.own o):=fun i o h=>by
   cases i with
   | zero=>cases h
   | succ i=>
     rw[List.getElem?_cons_succ] at h
     unfold jD at h
     rw[List.getElem?_map] at h
     cases q:ix[i]? with
     | none=>rw[q] at h;cases h
     | some j=>
       rw[q] at h
       exact xV (Option.some.inj h)
 refine⟨.refl sb,by simp[frees,jD],fun i x h=>?_,fun i o h=>absurd h (no i o),fun i j o o' a h=>absurd h (no i o)⟩
 cases i with
 | zero=>cases h;exact⟨v,rfl,r⟩
 | succ i=>
   rw[List.getElem?_cons_succ] at h ⊢
   unfold jD at h
   unfold frees
   rw[List.getElem?_map] at h ⊢
   cases q:ix[i]? with
   | none=>rw[q] at h;cases h
   | some j=>
     rw[q] at h
     have hd:=xW (Option.some.inj h)
     obtain⟨v',z1,z2⟩:=S.val j x hd
     exact⟨v',by rw[Option.map_some,z1];rfl,z2.mono s1⟩
end
section
variable {X:Cx}{G:Gr}{E:XK}{dl:List Slot}{a b elt iter:Expr}{i j:Int}{ys:List Dt}{zs:Nat->Dt}{pos p px py wV:Pos}{o:Out}{x y:Str}{N:List Str}{ix:List Nat}{sc:Scope}{n:Nat}
noncomputable def HY (X:Cx)(N:List Str)(sc:Scope)(dl:List Slot)(ix:List Nat)(elt:Expr)(n:Nat)(zs:Nat->Dt)(ys:List Dt):Prop:=
 ∀ k,k < n->∀ C fp s H G',EE (aZ X N sc C fp s H) G' (.val (zs k)::jD dl ix) elt (ys.getD k .c9)
noncomputable def PU (K:W.Frag)(dl:List Slot)(ix:List Nat)(n:Nat)(zs:Nat->Dt)(ys:List Dt):TE:=fun st H Q=>∃ k G',k < n/\tD K G' (.val (zs k)::jD dl ix) (ys.getD k .c9) st H Q
theorem HZ (h:HY X N sc dl ix elt n zs ys):∀ C fp s H,PE (aZ X N sc C fp s H) elt (PU X.K dl ix n zs ys):=fun C fp s H pins s' st H' Q I ⟨k,G',hk,q⟩=>h k hk C fp s H G' pins s' st H' Q I q
theorem Ia {st:L2.St}{Hf H:Hp}{J:It}{Q:VK}(S:d7 X.K G st Hf H dl)(R0:ys.length=n)(hn:n<=sizeLine)(go:∀ aw H1,bh Hf H aw H1->∀ i,(i < n->J.go i H1/\∀ v H2,J.K4 i H1 v H2->H2=H1/\Rep X.K aw v (zs i))/\(i=n->J.stop i H1))(k:∀ p aH H',bh Hf H aH H'->H p=none->aH p=none->gZ X.K aH H' p (.lst ys)->Q (.ref p) H'):∀ D,H D=none->PN (PU X.K dl ix n zs ys) (frees ix st) J D (fun _ H'=>Q (.ref D) H') H:=by
 intro D hD
 refine⟨fun i m vs H1=>m=n - i/\i<=n/\∃ aw,bh Hf H aw H1/\aw D=none/\H1 D=some (.lst vs)/\bD X.K aw vs (ys.take i),⟨n,rfl,Nat.zero_le _,Hf,.fU S.sub hD,S.sub.free hD,ak,.nil⟩,?_⟩
 rintro i m vs H1 ⟨rfl,hi,aw,g1,TJ,R1,rp⟩
 have hlen:=rp.length
 rw[List.length_take] at hlen
 by_cases dy:i < n
 . obtain⟨TK,hy⟩:=(go aw H1 g1 i).1 dy
   refine .inr ⟨TK,by omega,fun v H2 y=>?_⟩
   obtain⟨e,rv⟩:=hy v H2 y
   subst e
   refine⟨i,⟨aw,H2⟩,dy,aw,LW S g1.bw g1.sub rv,fun z bZ H3 g2 r2=>?_⟩
   have hD3:H3 D=some (.lst vs):=g2.big _ _ R1
   have Zi:bZ D=none:=by
     cases q:bZ D with
     | none=>rfl
     | some u=>
       obtain⟨o,z⟩:=g2.yJ R1 (fun z=>z) q
       rw[TJ] at z;cases z
   have g:=g1.trans g2
   refine⟨hD3,n - (i+1),by omega,rfl,dy,bZ,⟨fun a o h=>?_,g.bw,fun a o h=>?_,g.new⟩,Zi,ak,?_⟩
   . rw[ag (av h hD)];exact g.big _ _ h
   . rw[ag (av h Zi)];exact g2.sub _ _ h
   . have:ys.take (i+1)=ys.take i ++ [ys.getD i .c9]:=by
       rw[List.take_add_one,List.getD_eq_getElem?_getD,List.getElem?_eq_getElem (by omega)];rfl
     rw[this]
     exact(rp.mono g2.bw).append (.cons r2 .nil)
 . have e:i=n:=by omega
   subst e
   refine .inl ⟨(go aw H1 g1 i).2 rfl,k D aw H1 g1 hD TJ ⟨vs,R1,?_⟩⟩
   rw[List.take_of_length_le (by omega)] at rp
   exact rp
noncomputable def W2 (wi:TI)(ix:List Nat)(te:TE):TE:=fun st H Q=>wi st H fun J H1=>∀ D,H1 D=none->PN te (frees ix st) J D (fun _ H'=>Q (.ref D) H') H1
theorem TL {wi:TI}{te:TE}(hc:X.calm=true)(B:il X N ix x sc)(hi:PI X (.Name x px) iter wi)(ky:∀ C fp s H,PE (aZ X N sc C fp s H) elt te)(hs:∀ z,foldedSetIterable iter X.env z=pure z):PE X (.ListComp elt [⟨.Name x px,iter,[],0⟩] sc pos) (W2 wi ix te):=by
 intro pins s st H Q I h
 rw[eval_ListComp]
 refine wpAny_comprehension_free (use:=none) rfl hs (HP B I.ok) B.kind B.names (b7 (hi pins s st H _ I h) fun v s1 h1=>b7 h1 fun O2 s2 h2=>?_)
 obtain⟨it,fp,tn,J,H2,e,I2,T,GO,f2,hq⟩:=h2
 subst e
 refine D6 (RR:=fun acc C=>compPost (model X.prog X.w) X.A X.xe none (EP X pins st Q) acc C) hc B ky I2 T GO f2 hq ?_
 intro D C ws H' s' I' ⟨m,hn⟩ pX q
 exact⟨m,hn,fun h' LX=>⟨.ref D,H',I'.turned (t':=s'.toks) (it:=C) (fun b o hb e=>(LX.2 b hb).trans e) pX.1 pX.2.1 pX.2.2.2.1 pX.2.2.2.2.1 pX.2.2.2.2.2,rfl,q⟩⟩
theorem TM {wi:TI}{te:TE}{nN:Nat}(hc:X.calm=true)(B:il X N ix x sc)(hi:PI X (.Name x px) iter wi)(ky:∀ C fp s H,PE (aZ X N sc C fp s H) elt te)(hs:∀ z,foldedSetIterable iter X.env z=pure z)(PV:swapsWith (.ListComp elt [⟨.Name x px,iter,[],0⟩] sc pos) (some (.Name y py)) wV.line X.env=pure true)(hN:X.N.Nodup)(hy:X.N[nN]?=some y)(hl:Loc X.env.scope y)(hf:X.fn y=true\/X.env.scope.names.lookup y=some .local):PS X (.Assign [.Name y py] (.ListComp elt [⟨.Name x px,iter,[],0⟩] sc pos) wV) (fun D st H=>W2 wi ix te st H fun v H'=>D.nx (st.set nN (some v)) H'):=by
 intro pins s st H D0 I h
 rw[exec_Assign_Name_used _ _ _ _ PV]
 refine wpAny_bind (wpAny_standAt (wpAny_bind ?_))
 show wpAny _ X.A (do let _ <- comprehension (.ListComp elt [⟨.Name x px,iter,[],0⟩] sc pos) sc X.env _ (newList []) false (eval iter X.env) (some (assign (.Name y py) X.env))) _ _ s
 refine wpAny_bind (wpAny_mono (wpAny_comprehension_free (use:=some (assign (.Name y py) X.env)) (Q:=fun _ s'=>SP X pins D0 .next s') rfl hs (HP B I.ok) B.kind B.names (b7 (hi pins s st H _ I h) fun v s1 h1=>b7 h1 fun O2 s2 h2=>?_)) (fun _ s' hq=>wpAny_pure (wpAny_pure hq)) fun _ _ z=>z)
 obtain⟨it,fp,tn,J,H2,e,I2,T,GO,f2,hq⟩:=h2
 subst e
 refine D6 (RR:=fun acc C=>compPost (model X.prog X.w) X.A X.xe (some (assign (.Name y py) X.env)) (fun _ s'=>SP X pins D0 .next s') acc C) hc B ky I2 T GO f2 hq ?_
 intro D C ws H' s' I' ⟨m,hn⟩ pX q
 refine wpAny_assign_Name (rM I' hN hy hl (v:=.ref D) rfl (fun Ph W3 ⟨ad,FW,ha⟩=>?_) hf)
 have ne:C≠ad:=by
   rcases ha with z | z
   . rw[z];exact pX.2.1
   . exact Ne.symm (pX.2.2.2.2.1 _ _ z)
 exact⟨m,hn.sameBut FW ne,fun h' LX=>⟨_,H',W3.turned (t':=Ph.toks) (it:=C) (fun b o hb e=>(LX.2 b hb).trans e) pX.1 pX.2.1 pX.2.2.2.1 pX.2.2.2.2.1 pX.2.2.2.2.2,q⟩⟩
noncomputable def Ib (X:Cx)(G:Gr)(dl:List Slot)(n:Nat)(zs:Nat->Dt)(wi:TI):Prop:=∀ st H (R:It->Hp->Prop),(∃ Hf,d7 X.K G st Hf H dl/\∀ J Ic H0,bh Hf H Ic H0 ->
 (∀ aw H1,bh Ic H0 aw H1->∀ i,(i < n->J.go i H1/\∀ v H2,J.K4 i H1 v H2->H2=H1/\Rep X.K aw v (zs i))/\(i=n->J.stop i H1))->R J H0)->wi st H R
theorem vp (hn:-(2 ^ 62)<=j/\j < 2 ^ 62):Ib X G dl j.toNat (fun k=>.int k) (NQ (Tn X.K G dl [.int j])):=fun st H R ⟨Hf,S,k⟩=>⟨Hf,S,fun vs aw H1 g1 r1=>by
 cases r1 with
 | cons r t=>
   cases t;cases r
   refine⟨j,rfl,hn.1,hn.2,k _ aw H1 g1 fun bZ H2 g2 i=>⟨fun hi=>⟨hi,fun v H3 hy=>?_⟩,fun hi=>by rw[hi];exact Nat.le_refl _⟩⟩
   obtain⟨e1,e2⟩:=hy
   subst e2
   rw[Int.zero_add]
   exact⟨e1,.int _⟩⟩
theorem A6 {wi:TI}(hs:Ib X G dl n zs wi)(R0:ys.length=n)(hn:n<=sizeLine):∀ st H Q,VG X.K G dl (.lst ys) st H Q->W2 wi ix (PU X.K dl ix n zs ys) st H Q:=fun st H Q ⟨Hf,S,k⟩=>
 hs st H _ ⟨Hf,S,fun J Ic H0 g0 src=>Ia (S.grow g0) R0 hn src fun p aH H' g n1 n2 r=>k p aH H' (g0.trans g) (g0.big.free n1) n2 r⟩
theorem TN {wi:TI}(hc:X.calm=true)(B:il X N ix x sc)(hi:PI X (.Name x px) iter wi)(vq:Ib X G dl n zs wi)(ky:HY X N sc dl ix elt n zs ys)(R0:ys.length=n)(hn:n<=sizeLine)(hs:∀ z,foldedSetIterable iter X.env z=pure z:=by intro _;rfl):EO X G dl (.ListComp elt [⟨.Name x px,iter,[],0⟩] sc pos) (.lst ys):=iW (TL hc B hi (HZ ky) hs) (A6 vq R0 hn)
theorem N4 (nN:Nat){wi:TI}(hc:X.calm=true)(hN:X.N.Nodup)(B:il X N ix x sc)(hi:PI X (.Name x px) iter wi)(vq:Ib X G dl n zs wi)(ky:HY X N sc dl ix elt n zs ys)(R0:ys.length=n)(hn:n<=sizeLine)(hs:∀ z,foldedSetIterable iter X.env z=pure z:=by intro _;rfl)(PV:swapsWith (.ListComp elt [⟨.Name x px,iter,[],0⟩] sc pos) (some (.Name y py)) wV.line X.env=pure true:=by rfl)(hy:X.N[nN]?=some y:=by rfl)(hl:Loc X.env.scope y:=by first | exact Or.inl rfl | exact Or.inr rfl)(hf:X.fn y=true\/X.env.scope.names.lookup y=some .local:=by first | exact .inl rfl | exact .inr rfl | assumption):ES X G E dl (.Assign [.Name y py] (.ListComp elt [⟨.Name x px,iter,[],0⟩] sc pos) wV) (.nx (dl.set nN (.own (.lst ys)))):=
 uf (TM hc B hi (HZ ky) hs PV hN hy hl hf) fun D st H ⟨Hf,S,k⟩=>A6 vq R0 hn st H _ ⟨Hf,S,fun p aH H' g n1 n2 r=>k _ aH H' g.bw (S.PQ g n1 n2 r)⟩
end
theorem CH {α:Type}{us:List α}{d:α}(h:(us ++ [d]).length=2):∃ a,us=[a]:=by
 match us,h with
 | [a],_=>exact⟨a,rfl⟩
 | [],h=>simp at h
 | _::_::r,h=>simp at h
theorem yU {α:Type}{us:List α}(h:(us ++ []).length=2):∃ a b,us=[a,b]:=by
 rw[List.append_nil] at h
 match us,h with
 | [a,b],_=>exact⟨a,b,rfl⟩
structure A7 (K:W.Frag)(x qual:Str)(st:Stmt)(f:Addr)(fd:FuncData):Prop where
 ex:∃ (oc:Value) (od:Option Addr) (dV kV doc pm:Value) (an:Option Addr) (bf ct:Value) (xM:Array (Option Value)),
   fd=W.fnOf x qual (b8 st) (aB st) (af st) dV kV doc pm an bf ct/\K.lookup f=some ⟨oc,od,.func fd,xM⟩/\W.codeIn K bf qual=true
theorem qU {K:W.Frag}{x qual:Str}{st:Stmt}{f:Addr}{oc:Value}{od an:Option Addr}{xM:Array (Option Value)}{dV kV doc pm bf ct:Value}(l:K.lookup f=some ⟨oc,od,.func (W.fnOf x qual (b8 st) (aB st) (af st) dV kV doc pm an bf ct),xM⟩)(c:W.codeIn K bf qual=true):A7 K x qual st f (W.fnOf x qual (b8 st) (aB st) (af st) dV kV doc pm an bf ct):=⟨⟨oc,od,dV,kV,doc,pm,an,bf,ct,xM,rfl,l,c⟩⟩
section
variable {P:Program}{w:World}{K:W.Frag}{mg:Str->Option Value}{base:Heap}{CX:rT}{x qual:Str}{st:Stmt}{f:Addr}{fd:FuncData}{N ps:List Str}{k n:Nat}
theorem VH {R:List Dt->Res->Prop}(F:A7 K x qual st f fd)(S:aq N ps (af st))(hn:ps.length=n)(qK:∀ (bf:Value) (A:Around) (outer:List Env) (s:Shared) (H:Hp) (E:XK) (G:Gr) (ds:List Dt) (r:Res),fj k (A.deeper (envOfC qual (af st) s.heap.objs.size f bf))->ds.length=n->R ds r->∃ o,Comes o r/\oh (AG CX P w K mg base N qual (af st) f bf A outer s H E) G E (slots N ds) (aB st) o):ke P w K mg base CX (k+1) f fd ps (D3 K n R):=by
 obtain⟨oc,od,dV,kV,doc,pm,an,bf,ct,xM,rfl,lk,my⟩:=F.ex
 refine Hs lk my S (fun vs H Q E ⟨Hf,ds,r,s,rp,hl,_⟩=>by rw[rp.length,hl,hn]) fun A outer s H vs Q E hr ⟨Hf,ds,r,sm,rp,hl,hR,hk⟩=>?_
 obtain⟨o,hc,hb⟩:=qK bf A outer s H E ⟨Hf,H⟩ ds r hr hl hR
 exact⟨_,hb,Hf,xU sm rp,hc.ends hk⟩
noncomputable def W4 (K:W.Frag)(C:Addr)(Hf H:Hp)(x:Addr)(Q:VK)(E:XK):Res->Prop
 | .own w=>((∃ fs,w=.obj C fs)\/∃ fs gs nm n,w=.rY C fs gs nm n)/\∀ aH H',bh Hf H aH H'->aH x=none->gZ K aH H' x w->Q .c9 H'
 | .exc c fs=>∀ od aH H',bh Hf H aH H'->ExcAt K aH od fs->E c od H'
 | .ret _=>False
noncomputable def Zj (K:W.Frag)(C:Addr)(n:Nat)(R:List Dt->Res->Prop):Sp:=fun vs H Q E=>∃ Hf H1 x dx args ds r,vs=.ref x::args/\H=upd H1 x (.ins C dx [])/\H1 x=none/\aE Hf H1/\bD K Hf args ds/\ds.length+1=n/\R ds r/\W4 K C Hf H1 x Q E r
inductive yV (C x:Addr):Out->Res->Prop
 | nx {dl:List Slot} {fs:List (Str×Dt)} (h:dl[0]?=some (.own (.AW x C fs))):yV C x (.nx dl) (.own (.obj C fs))
 | ex (c:Value) (fs:List (Str×Dt)):yV C x (.ex c fs) (.exc c fs)
 | W5 {dl:List Slot} {fs:List (Str×Dt)} {gs:List (Nat->List (Key×FD))} {nm:List Str} {n:Nat} (h:dl[0]?=some (.own (.yK x C fs gs nm n))):yV C x (.nx dl) (.own (.rY C fs gs nm n))
noncomputable def sj (N:List Str)(x C:Addr)(ds:List Dt):List Slot:=.own (.AW x C [])::(ds.map Slot.val ++ List.replicate (N.length - (ds.length+1)) .aL)
theorem CI {Hf H:Hp}{vs:List V}{ds:List Dt}{x dx C:Addr}(s:aE Hf H)(n:H x=none)(r:bD K Hf vs ds):d7 K ⟨Hf,H⟩ (start N (.ref x::vs)) Hf (upd H x (.ins C dx [])) (sj N x C ds):=by
 have hl:=r.length
 have es:start N (V.ref x::vs)=some (.ref x)::(vs.map some ++ List.replicate (N.length - (vs.length+1)) none):=by
   unfold L2.start
   simp
 have yu:∀ (i:Nat) o,(sj N x C ds)[i+1]?≠some (.own o):=fun i o h=>by
   unfold sj at h
   rw[List.getElem?_cons_succ] at h
   by_cases hi:i < ds.length
   . rw[List.getElem?_append_left (by simpa using hi),List.getElem?_map] at h
     cases e:ds[i]? with
     | none=>rw[e] at h;cases h
     | some a=>rw[e] at h;cases h
   . rw[List.getElem?_append_right (by simpa using hi),List.getElem?_replicate] at h
     split at h <;> cases h
 rw[es]
 refine⟨.fU s n,?_,fun i d h=>?_,fun i o h=>?_,fun i j o o' a h h' _ _=>?_⟩
 . unfold sj
   simp[hl]
 . cases i with
   | zero=>cases h
   | succ i=>
     unfold sj at h
     rw[List.getElem?_cons_succ] at h ⊢
     by_cases hi:i < ds.length
     . rw[List.getElem?_append_left (by simpa using hi),List.getElem?_map] at h
       cases e:ds[i]? with
       | none=>rw[e] at h;cases h
       | some a=>
         rw[e] at h;cases h
         obtain⟨v,h1,h2⟩:=r.get e
         refine⟨v,?_,h2⟩
         rw[List.getElem?_append_left (by simp;omega),List.getElem?_map,h1];rfl
     . rw[List.getElem?_append_right (by simpa using hi),List.getElem?_replicate] at h
       split at h <;> cases h
 . cases i with
   | zero=>
     cases h
     exact⟨x,rfl,s.free n,n,rfl,dx,[],ak,.nil⟩
   | succ i=>exact absurd h (yu i o)
 . cases i with
   | zero=>cases j with
     | zero=>rfl
     | succ j=>exact absurd h' (yu j _)
   | succ i=>exact absurd h (yu i _)
theorem VI {C:Addr}{R:List Dt->Res->Prop}(F:A7 K x qual st f fd)(S:aq N ps (af st))(hn:ps.length=n)(qK:∀ (bf:Value) (A:Around) (outer:List Env) (s:Shared) (H:Hp) (E:XK) (G:Gr) (z:Addr) (ds:List Dt) (r:Res),fj k (A.deeper (envOfC qual (af st) s.heap.objs.size f bf))->ds.length+1=n->R ds r->∃ o,yV C z o r/\oh (AG CX P w K mg base N qual (af st) f bf A outer s H E) G E (sj N z C ds) (aB st) o):ke P w K mg base CX (k+1) f fd ps (Zj K C n R):=by
 obtain⟨oc,od,dV,kV,doc,pm,an,bf,ct,xM,rfl,lk,my⟩:=F.ex
 refine Hs lk my S (fun vs H Q E ⟨Hf,H1,z,dx,args,ds,r,e,_,_,_,rp,hl,_⟩=>by rw[e,List.length_cons,rp.length,hl,hn]) fun A outer s H vs Q E hr ⟨Hf,H1,z,dx,args,ds,r,e1,e2,hz,sm,rp,hl,hR,hk⟩=>?_
 subst e1 e2
 obtain⟨o,hc,hb⟩:=qK bf A outer s _ E ⟨Hf,H1⟩ z ds r hr hl hR
 refine⟨_,hb,Hf,CI sm hz rp,?_⟩
 cases hc with
 | nx h=>
   obtain⟨_,kk⟩:=hk
   intro jC aH H' s' S'
   obtain⟨a,_,q2,_,q4⟩:=S'.own 0 _ h
   obtain⟨rfl,dx',fs',q5,q6⟩:=q4
   exact kk aH H' S'.gr q2 ⟨dx',fs',q5,q6⟩
 | W5 h=>
   obtain⟨_,kk⟩:=hk
   intro jC aH H' s' S'
   obtain⟨a,_,q2,_,q4⟩:=S'.own 0 _ h
   obtain⟨rfl,q5⟩:=q4
   exact kk aH H' S'.gr q2 q5
 | ex c fs=>exact hk
end
noncomputable def putD (f:Str)(v:Dt):List (Str×Dt)->List (Str×Dt)
 | []=>[(f,v)]
 | (g,x)::r=>if g=f then (g,v)::r else (g,x)::putD f v r
theorem bg.put {K:W.Frag}{H:Hp}{f:Str}{v:V}{d:Dt}(q:Rep K H v d):∀ {vs:List (Str×V)} {ds:List (Str×Dt)},bg K H vs ds->bg K H (fL f v vs) (putD f d ds)
 | _,_,.nil=>.cons q .nil
 | (k,x)::vs,(_,y)::ds,.cons h r=>by
   unfold fL putD
   by_cases e:k=f
   . rw[if_pos e,if_pos e];exact .cons q r
   . rw[if_neg e,if_neg e];exact .cons h (bg.put q r)
section
variable {X:Cx}{G:Gr}{E:XK}{dl:List Slot}{e c:Expr}{es:List Expr}{d:Dt}{ds:List Dt}{pos p apos:Pos}{x m:Str}{C z:Addr}{fs:List (Str×Dt)}{CX:rT}{k k' n:Nat}{R:List Dt->Res->Prop}{ob:Expr}{wo:Own}{dvs:List Dt}{body:List Stmt}
theorem kz {fn:Str}{pn:Pos}(he:EE X G dl e d)(cl:ue X.K C)(na:bM X.K C fn)(hd:dl[0]?=some (.own (.AW z C fs)):=by rfl)(hl:Nat.ble fs.length 999=true:=by rfl)(hN:X.N[0]?=some x:=by rfl)(hv:uU X.env.scope x:=by first | exact Or.inl rfl | exact Or.inr (Or.inl rfl) | exact Or.inr (Or.inr rfl))(mR:(x == ("__debug__":Str))=false:=by decide)(my:(x == ("__classdict__":Str))=false:=by decide)(hs:swapsWith e (some (.Attribute (.Name x pn) fn apos)) pos.line X.env=pure false:=by rfl):ES X G E dl (.Assign [.Attribute (.Name x pn) fn apos] e pos) (.nx (dl.set 0 (.own (.AW z C (putD fn d fs))))):=
 uf (u0 (vo (p:=pn) 0 hd hN hv mR my) he hs) fun D st H ⟨Hf,S,k⟩=>⟨Hf,S,fun v aw H1 g1 r1=>by
   have S1:=S.grow g1
   obtain⟨a,q1,q2,q3,q4⟩:=S1.own 0 _ hd
   obtain⟨e1,dx,fv,q5,q6⟩:=id q4
   refine⟨aw,a,S1,q1,q2,q4,a,C,dx,fv,rfl,q5,cl,na,by rw[q6.length];exact Nat.lt_succ_of_le (Nat.le_of_ble_eq_true hl),?_⟩
   exact k st aw _ g1.bw (S1.FP hd q1 ⟨e1,dx,_,ak,q6.put r1⟩)⟩
structure R3 (P:Program)(w:World)(K:W.Frag)(mg:Str->Option Value)(base:Heap)(CX:rT)(k:Nat)(x:Str)(C:Addr)(n:Nat)(R:List Dt->Res->Prop):Prop where
 ex:∃ f fd ps,ke P w K mg base CX k f fd ps (Zj K C n R)/\L2.Mk K C f/\mg x=some (.ref C)/\Binds K fd ps []
theorem qV (F:R3 X.prog X.w X.K X.mg X.base CX k x C n R)(nx:CG CX)(hr:fj k' X.A)(ha:EA X G dl (e::es) ds)(h:R ds (.own (.obj C fs)))(A1:k+1<=k':=by decide)(hl:ds.length+1=n:=by rfl)(hg:Gl X x:=by rfl)(mR:(x == ("__debug__":Str))=false:=by decide)(he:starEach (e::es) X.env=(false,eval e X.env)::starEach es X.env:=by rfl)(pW:(backTo pos (starEach es X.env)).any (·.1)=false:=by rfl):EO X G dl (.Call (.Name x p) (e::es) [] pos) (.obj C fs):=by
 obtain⟨f,fd,ps,Fo,M,hm,hb⟩:=F.ex
 refine iW (DR (E:=E0) M Fo (hr.mono A1) hg hm hb .nil nx.passes ha mR he pW) fun st H Q ⟨Hf,S,kk⟩=>⟨Hf,S,fun vs aw H1 g1 r1 y dx hy TQ ne=>?_⟩
 have S9:(upd H1 dx (.own y)) y=none:=by rw[ag (Ne.symm ne)];exact hy
 have g2:bh aw H1 aw (upd H1 dx (.own y)):=.fU g1.sub TQ
 refine⟨aw,upd H1 dx (.own y),y,dx,vs ++ [],ds,.own (.obj C fs),rfl,rfl,S9,g2.sub,by rw[List.append_nil];exact r1,hl,h,.inl ⟨fs,rfl⟩,fun aH H' g n1 r=>⟨rfl,?_⟩⟩
 exact kk y aH H' ((g1.trans g2).trans g) (g1.big.free hy) n1 r
theorem A8 {gs:List (Nat->List (Key×FD))}{nm:List Str}{j:Nat}(F:R3 X.prog X.w X.K X.mg X.base CX k x C n R)(nx:CG CX)(hr:fj k' X.A)(ha:EA X G dl (e::es) ds)(h:R ds (.own (.rY C fs gs nm j)))(A1:k+1<=k':=by decide)(hl:ds.length+1=n:=by rfl)(hg:Gl X x:=by rfl)(mR:(x == ("__debug__":Str))=false:=by decide)(he:starEach (e::es) X.env=(false,eval e X.env)::starEach es X.env:=by rfl)(pW:(backTo pos (starEach es X.env)).any (·.1)=false:=by rfl):EO X G dl (.Call (.Name x p) (e::es) [] pos) (.rY C fs gs nm j):=by
 obtain⟨f,fd,ps,Fo,M,hm,hb⟩:=F.ex
 refine iW (DR (E:=E0) M Fo (hr.mono A1) hg hm hb .nil nx.passes ha mR he pW) fun st H Q ⟨Hf,S,kk⟩=>⟨Hf,S,fun vs aw H1 g1 r1 y dx hy TQ ne=>?_⟩
 have S9:(upd H1 dx (.own y)) y=none:=by rw[ag (Ne.symm ne)];exact hy
 have g2:bh aw H1 aw (upd H1 dx (.own y)):=.fU g1.sub TQ
 refine⟨aw,upd H1 dx (.own y),y,dx,vs ++ [],ds,.own (.rY C fs gs nm j),rfl,rfl,S9,g2.sub,by rw[List.append_nil];exact r1,hl,h,.inr ⟨fs,gs,nm,j,rfl⟩,fun aH H' g n1 r=>⟨rfl,?_⟩⟩
 exact kk y aH H' ((g1.trans g2).trans g) (g1.big.free hy) n1 r
theorem xX (F:GF X.prog X.w X.K X.mg X.base CX k x n R)(nx:CG CX)(hr:fj k' X.A)(ha:EA X G dl (e::es) ds)(h:R ds (.own wo))(A1:k<=k':=by decide)(hl:ds.length=n:=by rfl)(hg:Gl X x:=by rfl)(mR:(x == ("__debug__":Str))=false:=by decide)(he:starEach (e::es) X.env=(false,eval e X.env)::starEach es X.env:=by rfl)(pW:(backTo pos (starEach es X.env)).any (·.1)=false:=by rfl):EO X G dl (.Call (.Name x p) (e::es) [] pos) wo:=by
 obtain⟨f,fd,ps,F,hm,hk,hb⟩:=F.ex
 exact iW (DP (E:=E0) F (hr.mono A1) hg hm hk hb .nil nx.passes ha mR he pW) fun st H Q ⟨Hf,S,k⟩=>⟨Hf,S,fun vs aw H1 g1 r1=>⟨aw,ds,.own wo,g1.sub,by rw[List.append_nil];exact r1,hl,h,fun p bZ H2 g2 n1 n2 r2=>k p bZ H2 (g1.trans g2) (g1.big.free n1) n2 r2⟩⟩
structure LY (P:Program)(w:World)(K:W.Frag)(mg:Str->Option Value)(base:Heap)(CX:rT)(k:Nat)(C:Addr)(m:Str)(n:Nat)(dvs:List Dt)(R:List Dt->Res->Prop):Prop where
 cl:ue K C
 ex:∃ f fd ps GU vds,ke P w K mg base CX k f fd ps (D3 K n R)/\Meth K C m f/\Binds K fd ps GU/\Vals vds GU/\∀ H,bD K H vds dvs
theorem Ie {P:Program}{w:World}{K:W.Frag}{mg:Str->Option Value}{base:Heap}(F:MF P w K mg base CX k C m n R):LY P w K mg base CX k C m n [] R:=by
 obtain⟨f,fd,ps,Fo,hm,hb⟩:=F.ex
 exact⟨F.cl,f,fd,ps,[],[],Fo,hm,hb,.nil,fun _=>.nil⟩
theorem vt {pl:Sem Bool}(he:EE X G dl ob (.obj C fs))(F:LY X.prog X.w X.K X.mg X.base CX k C m n dvs R)(nx:CG CX)(hr:fj k' X.A)(ha:EA X G dl (e::es) ds)(h:R (.obj C fs::(ds ++ dvs)) (.own wo))(A1:k<=k':=by decide)(hl:(Dt.obj C fs::(ds ++ dvs)).length=n:=by rfl)(uh:fs.lookup m=none:=by rfl)
   (qm:starEach (e::es) X.env=(false,eval e X.env)::starEach es X.env:=by rfl) (pW:(backTo pos (starEach es X.env)).any (·.1)=false:=by rfl)
   (ht:eval (.Call (.Attribute ob m apos) (e::es) [] pos) X.env=(do
     let ov <- eval ob X.env
     standAt apos.atName
     let (f,first) <- holding [ov] (getMethod ov m pl)
     callWith pos f first (backTo pos (starEach (e::es) X.env)) (backToKw pos (keywordEach [] X.env))):=by rfl):EO X G dl (.Call (.Attribute ob m apos) (e::es) [] pos) wo:=by
 obtain⟨f,fd,ps,GU,vds,Fo,hm,hb,hd,FR⟩:=F.ex
 exact iW (DQ (pl:=pl) (E:=E0) he F.cl hm Fo (hr.mono A1) hb hd nx.passes ha qm pW ht) fun st H Q ⟨Hf,S,k⟩=>⟨Hf,S,fun v aw H1 g1 r1=>by
   cases r1 with
   | @obj a _ dx fv _ q r=>
     exact⟨a,dx,fv,rfl,jR g1.sub q,r.none_of uh,aw,S.grow g1,fun vs bZ H2 g2 r2=>⟨bZ,_,.own wo,g2.sub,.cons (.obj (jR g2.bw q) (r.mono g2.bw)) (r2.append (FR _)),hl,h,fun p ko H3 g3 n1 n2 r3=>k p ko H3 ((g1.trans g2).trans g3) ((g1.trans g2).big.free n1) n2 r3⟩⟩⟩
theorem Ig {pl:Sem Bool}(he:EE X G dl ob (.obj C fs))(F:LY X.prog X.w X.K X.mg X.base CX k C m n dvs R)(nx:CG CX)(hr:fj k' X.A)(ha:EA X G dl (e::es) ds)(h:R (.obj C fs::(ds ++ dvs)) (.ret d))(A1:k<=k':=by decide)(hl:(Dt.obj C fs::(ds ++ dvs)).length=n:=by rfl)(uh:fs.lookup m=none:=by rfl)
   (qm:starEach (e::es) X.env=(false,eval e X.env)::starEach es X.env:=by rfl) (pW:(backTo pos (starEach es X.env)).any (·.1)=false:=by rfl)
   (ht:eval (.Call (.Attribute ob m apos) (e::es) [] pos) X.env=(do
     let ov <- eval ob X.env
     standAt apos.atName
     let (f,first) <- holding [ov] (getMethod ov m pl)
     callWith pos f first (backTo pos (starEach (e::es) X.env)) (backToKw pos (keywordEach [] X.env))):=by rfl):EE X G dl (.Call (.Attribute ob m apos) (e::es) [] pos) d:=by
 obtain⟨f,fd,ps,GU,vds,Fo,hm,hb,hd,FR⟩:=F.ex
 exact D4 (pl:=pl) he F.cl hm Fo nx (hr.mono A1) hb hd FR ha hl h uh qm pW ht
theorem LZ {pl:Sem Bool}(he:EE X G dl ob (.obj C fs))(F:LY X.prog X.w X.K X.mg X.base CX k C m n dvs R)(nx:CG CX)(hr:fj k' X.A)(h:R (.obj C fs::dvs) (.ret d))(A1:k<=k':=by decide)(hl:(Dt.obj C fs::dvs).length=n:=by rfl)(uh:fs.lookup m=none:=by rfl)
   (ht:eval (.Call (.Attribute ob m apos) [] [] pos) X.env=(do
     let ov <- eval ob X.env
     standAt apos.atName
     let (f,first) <- holding [ov] (getMethod ov m pl)
     callWith pos f first (backTo pos (starEach [] X.env)) (backToKw pos (keywordEach [] X.env))):=by rfl):EE X G dl (.Call (.Attribute ob m apos) [] [] pos) d:=by
 obtain⟨f,fd,ps,GU,vds,Fo,hm,hb,hd,FR⟩:=F.ex
 exact AZ (pl:=pl) he F.cl hm Fo nx (hr.mono A1) hb hd FR hl h uh ht
noncomputable def TR (X:Cx)(G:Gr)(c:Expr):TT:=fun st H Q=>∃ dl b,EB X G dl c b/\To X.K G dl b st H Q
theorem L0:PT X c (TR X G c):=fun pins s st H Q I ⟨dl,b,h,q⟩=>h pins s st H Q I q
theorem Ih (S:Nat->List Slot)(n:Nat)(hp:PassesOwn (model X.prog X.w) X.A X.env X.xe)(h0:Le (S 0) dl)(hc:∀ k,k < n->EB X G (S k) c true)(hn:EB X G (S n) c false)(hb:∀ k,k < n->Goes X G E body (S k) (S (k+1))):ES X G E dl (.While c body [] pos) (.nx (S n)):=by
 refine uf (AA hp (L0 (G:=G)) (qR (G:=G) (E:=E))) fun D st H ⟨Hf,S0,k⟩=>?_
 refine⟨fun m st H=>∃ i,m=n - i/\i<=n/\∃ aw,aE Hf aw/\d7 X.K G st aw H (S i),⟨n,0,rfl,Nat.zero_le _,Hf,aE.refl _,S0.weak h0⟩,?_⟩
 rintro m VJ H1 ⟨i,rfl,hi,aw,s1,S1⟩
 by_cases dy:i < n
 . refine⟨S i,true,hc i dy,aw,S1,fun bZ H2 g2=>AV ⟨fun jC H'=>∃ ko,aE Hf ko/\d7 X.K G jC ko H' (S (i+1)),fun jC H' h'=>⟨n - (i+1),by omega,i+1,rfl,dy,h'⟩,?_⟩⟩
   exact pk (hb i dy) (S1.grow g2) (fun Vx ko H3 s3 S3=>⟨ko,(s1.trans g2.bw).trans s3,S3⟩) (fun Vx ko H3 s3 S3=>⟨ko,(s1.trans g2.bw).trans s3,S3⟩)
 . have e:i=n:=by omega
   subst e
   exact⟨S i,false,hn,aw,S1,fun bZ H2 g2=>AU (k _ bZ H2 (s1.trans g2.bw) (S1.grow g2))⟩
end
noncomputable def vv (sc A9:Scope)(XN N:List Str)(ix:List Nat)(x:Str):Bool:=
 decide N.Nodup && (decide (N=x::ix.map (fun j=>XN.getD j "")) && (decide (sc.kind=.function) && (sc.names.all (fun y=>decide (y.2≠.cell)) && (sc.names.all (fun y=>decide (y.2=.local->sc.names.lookup y.1=some .local)) && (decide (sc.names.lookup x=some .local) &&
   (sc.names.all (fun y=>decide (y.2=.free->A9.names.lookup y.1=some .cell\/A9.names.lookup y.1=some .free)) && ix.all (fun j=>decide (sc.names.lookup (XN.getD j "")=some .free) && decide (j < XN.length))))))))
theorem CJ {X:Cx}{sc A9:Scope}{XN N:List Str}{ix:List Nat}{x:Str}(h:vv sc A9 XN N ix x=true)(e1:X.env.scope=A9:=by rfl)(e2:X.N=XN:=by rfl):il X N ix x sc:=by
 subst e1 e2
 unfold vv at h
 simp only[Bool.and_eq_true,List.all_eq_true,decide_eq_true_eq] at h
 obtain⟨h1,h2,h3,h4,h5,h6,h7,h8⟩:=h
 refine⟨h1,h2,h3,h4,h5,h6,h7,fun j hj=>?_⟩
 obtain⟨q1,q2⟩:=h8 j hj
 refine⟨X.N.getD j "",?_,q1⟩
 rw[List.getD_eq_getElem?_getD,List.getElem?_eq_getElem q2];rfl
noncomputable def Zk:Expr->Scope
 | .ListComp _ _ sc _=>sc
 | .Call _ (.ListComp _ _ sc _::_) _ _=>sc
 | _=>{ kind:=.function,names:=[],isGenerator:=false,isCoroutine:=false}
noncomputable def PX:Stmt->Scope
 | .Assign _ e _=>Zk e
 | .Return (some e) _=>Zk e
 | _=>{ kind:=.function,names:=[],isGenerator:=false,isCoroutine:=false}
theorem vw (k:Str):∀ xs:List Str,SY (.str k) (xs.map V.str)=decide (k∈xs)
 | []=>by simp[SY]
 | x::xs=>by
   have ih:=vw k xs
   unfold SY at ih ⊢
   rw[List.map_cons,List.any_cons,ih]
   by_cases e:x=k
   . subst e;simp[K6]
   . have:¬ (k=x):=fun z=>e z.symm
     simp[K6,e,this]
theorem xY (xs:List Str):(xs.map V.str).all qL=true:=by
 induction xs with
 | nil=>rfl
 | cons x xs ih=>rw[List.map_cons,List.all_cons,ih];rfl
section
variable {X:Cx}{G:Gr}{dl:List Slot}{a b:Expr}{pos:Pos}{k:Str}{xs:List Str}
theorem N5 {neg:Bool}:Cz X.K (VA X.K neg) (.str k) (.tup (xs.map .str)) (.bl (if neg then !decide (k∈xs) else decide (k∈xs))):=fun v w Hf H Q s r1 r2 kk=>by
 cases r1
 cases r2 with
 | @tup q vs _ hq rp=>
   have ev:=pq rp
   subst ev
   refine⟨q,_,rfl,.inr (gk s hq),rfl,xY xs,?_⟩
   rw[vw]
   exact kk _ Hf H (.refl s) (.bl _)
theorem CK (ha:EE X G dl a (.str k))(hb:EE X G dl b (.tup (xs.map .str)))(hm:behindInMarks .In b=false:=by rfl):EB X G dl (.Compare a [.In] [b] pos) (decide (k∈xs)):=mh xN (N5 (neg:=false)) hm ha hb
theorem yW (ha:EE X G dl a (.str k))(hb:EE X G dl b (.tup (xs.map .str)))(hm:behindInMarks .NotIn b=false:=by rfl):EB X G dl (.Compare a [.NotIn] [b] pos) (!decide (k∈xs)):=mh qN (N5 (neg:=true)) hm ha hb
end
theorem Ba {P:Program}{w:World}{A:Around}{R:Result->Shared->Prop}{s:Shared}{elt tg iter:Expr}{ifs:List Expr}{sc:Scope}{pos:Pos}{it acc:Value}{env:Env}(J:Nat->Shared->Prop)
   (turn:∀ n s,J n s->wpAny (model P w) A (pyNext it) (fun r s1=>match r with
     | none=>R (.ok .next) s1
     | some v=>wpAny (model P w) A (letOwnedTupleGo tg it v) (fun _ s2=>wpAny (model P w) A (assign tg env v) (fun _ s3=>
         wpAny (model P w) A (forIn ifs true fun c r=>if r=true then do let ok <- isTrue c env (eval c env);pure (ForInStep.yield ok) else pure (ForInStep.yield r)) (fun ok W6=>
         if ok=true then wpAny (model P w) A (eval elt env) (fun x s4=>wpAny (model P w) A (call (.builtin "list.append") [acc,x]) (fun _ s5=>∃ m,m < n/\J m s5) wU s4) wU W6
         else ∃ m,m < n/\J m W6) wU s3) wU s2) wU s1) wU s)
   (n:Nat) (h:J n s):codeAny (model P w) A (.compLoop (.ListComp elt [⟨tg,iter,ifs,0⟩] sc pos) 0 it acc env) R s:=by
 have off:∀ {B:Value->Shared->Prop} (x:Value) (s':Shared),wU x s'->B x s':=fun _ _ z=>z.elim
 refine codeAny_loop rfl J (fun n s hJ=>?_) n h
 show wpAny _ A ((compTurn (.ListComp elt [⟨tg,iter,ifs,0⟩] sc pos) 0 it acc env).onRaise (fun x=>(do noteFrame x env;theTreesLotGoes x))) _ _ s
 refine wpAny_noted ?_
 rw[compTurn_list]
 refine wpAny_bind (wpAny_standAt (wpAny_bind (wpAny_mono (turn n s hJ) (fun r s1 h1=>?_) off)))
 cases r with
 | none=>exact wpAny_pure h1
 | some v=>
   refine wpAny_bind (wpAny_mono h1 (fun _ s2 h2=>wpAny_bind (wpAny_mono h2 (fun _ s3 h3=>wpAny_bind (wpAny_mono h3 (fun ok W6 Zl=>?_) off)) off)) off)
   cases ok with
   | false=>exact wpAny_pure ⟨rfl,Zl⟩
   | true=>exact wpAny_bind (wpAny_bind (wpAny_mono Zl (fun x s4 h4=>wpAny_bind (wpAny_mono h4 (fun _ s5 h5=>wpAny_pure (wpAny_pure ⟨rfl,h5⟩)) off)) off))
structure tN (X:Cx)(N tn:List Str)(ix:List Nat)(sc:Scope):Prop where
 nd:N.Nodup
 nm:N=tn ++ ix.map (fun j=>X.N.getD j "")
 kind:sc.kind=.function
 vk:∀ y∈sc.names,y.2≠.cell
 names:∀ y∈sc.names,y.2=.local->sc.names.lookup y.1=some .local
 hx:∀ x∈tn,sc.names.lookup x=some .local
 fr:∀ y∈sc.names,y.2=.free->X.env.kindOf y.1=some .cell\/X.env.kindOf y.1=some .free
 Tu:∀ j∈ix,∃ y,X.N[j]?=some y/\sc.names.lookup y=some .free
section
variable {X:Cx}{N tn:List Str}{ix:List Nat}{sc:Scope}{pins:List (Addr×Obj)}{st:L2.St}{H H':Hp}{s s':Shared}{C D:Addr}{fp:List Addr}{h1:Heap}
theorem Eb (B:tN X N tn ix sc)(ok:X.Ok):closureFor sc X.env=pure (lQ sc X.env):=yS fun y hy hk=>ok.has y.1 (B.fr y hy hk)
theorem qW (B:tN X N tn ix sc)(ok:X.Ok){y:Str}{c:Addr}(h:(lQ sc X.env).lookup y=some c):X.env.cells.lookup y=some c/\(y,NameKind.free)∈sc.names:=by
 rcases qT _ _ h with⟨h1,h2⟩ | h1
 . obtain⟨c',h3⟩:=ok.has y (B.fr _ h1 rfl)
   rw[h3] at h2
   cases h2
   exact⟨h3,h1⟩
 . cases h1
theorem um (B:tN X N tn ix sc)(I:L2.Inv X pins st H s)(hC:s.heap.objs.size<=C)(hf:∀ b∈fp,lD X pins H b)(dy:∀ b∈fp,b < s.heap.objs.size):(aZ X N sc C fp s H).Ok where
 mod:=I.ok.mod
 kind:=B.kind
 glob:=I.ok.glob
 blt:=I.ok.blt
 above:=hC
 inj:=fun y z c h1 h2=>I.ok.inj y z c (qW B I.ok h1).1 (qW B I.ok h2).1
 has:=fun y hy=>by
   have hy:(relabel sc X.env).names.lookup y=some .cell\/(relabel sc X.env).names.lookup y=some .free:=hy
   have:(y,NameKind.free)∈sc.names:=by
     rcases hy with hy | hy
     . obtain⟨k',h1,h2⟩:=gm hy
       rcases h2 with h2 | h2
       . subst h2;exact absurd rfl (B.vk _ h1)
       . subst h2;exact h1
     . obtain⟨k',h1,h2⟩:=gm hy
       rcases h2 with h2 | h2 <;> subst h2 <;> exact h1
   exact kh _ _ (.inl this)
 RS:=fun y c h=>by cases h
 hd:=I.ok.hd
 frames:=I.ok.frames
 Sh:=.inl rfl
 Ll:=fun b hb=>⟨Nat.ne_of_lt (Nat.lt_of_lt_of_le (dy b hb) hC),fun y c h=>(hf b hb).2.2.2.2.1 y c (qW B I.ok h).1⟩
 bs:=I.bs
 DK:=Nat.le_trans I.ok.DK I.sz
 As:=fun b o e hb=>by
   rcases (hf b hb).2.2.2.1 with z | z
   . exact I.ok.As b o e z
   . exact absurd (Nat.lt_of_lt_of_le (Heap.lt_size e) (Nat.le_trans I.ok.DK z)) (Nat.lt_irrefl _)
 Au:=fun b hb z=>by
   rcases List.mem_cons.mp (I.uV b z) with z | z
   . exact(hf b hb).2.1 z
   . exact(hf b hb).2.2.1 z
 rL:=I.stack
 NM:=I.uc
theorem CL (B:tN X N tn ix sc)(I:L2.Inv X pins st H s)(hf:∀ b∈fp,lD X pins H b)(dy:∀ b∈fp,b < s.heap.objs.size)(hC:C=s.heap.objs.size+1)(k:∀ b o,s.heap.get? b=some o->h1.get? b=some o)(hn:h1.Ns C fun _=>none)(hD:h1.get? s.heap.objs.size=some { cls:=.type "list",data:=.seq ([]:List Value).toArray 0}){t':Nat}:L2.Inv (aZ X N sc C fp s H) [] (List.replicate tn.length none ++ frees ix st) (upd H s.heap.objs.size (.lst [])) { s with heap:=h1,toks:=t'}:=by
 have N1:s.heap.objs.size<=C:=by rw[hC];exact Nat.le_succ _
 have fr:∀ a,s.heap.objs.size<=a->H a=none:=fun a ha=>I.bH.fresh ha
 have ok:=um B I N1 hf dy
 have Cf:∀ y c,(lQ sc X.env).lookup y=some c->H c=none/\c < s.heap.objs.size/\∃ v,s.heap.IsCell c v:=fun y c h=>by
   have h:=(qW B I.ok h).1
   obtain⟨v,q⟩:=I.cell y c h
   exact⟨I.p9 y c h,q.lt,v,q⟩
 refine⟨ok,rfl,I.bare,Un.laid k (Nat.le_refl _) (fr _ (Nat.le_refl _)),⟨_,hn,fun i y v e1 e2 e3=>?_⟩,fun y c h=>?_,?_,fun y c h=>?_,fun p hp=>absurd (show p∈([]:List (Addr×Obj)) from hp) (by simp),?_,?_⟩
 . have e1:N[i]?=some y:=e1
   by_cases hi:i < tn.length
   . rw[List.getElem?_append_left (by simpa using hi),List.getElem?_replicate,if_pos hi] at e2
     cases e2
   . have hi:tn.length<=i:=Nat.le_of_not_lt hi
     rw[B.nm,List.getElem?_append_right hi,List.getElem?_map] at e1
     rw[List.getElem?_append_right (by simpa using hi),List.length_replicate] at e2
     unfold frees at e2
     rw[List.getElem?_map] at e2
     cases q:ix[i - tn.length]? with
     | none=>rw[q] at e1;cases e1
     | some j=>
       rw[q] at e1 e2
       obtain⟨y',K7,FV⟩:=B.Tu j (List.mem_of_getElem? q)
       have LU:=PySem.mem_of_lookup FV
       have ey:y=y':=by
         have e1:X.N.getD j ""=y:=Option.some.inj e1
         rw[List.getD_eq_getElem?_getD,K7] at e1
         exact e1.symm
       subst ey
       have e2:(st[j]?).join=some v:=Option.some.inj e2
       have Tv:st[j]?=some (some v):=by
         cases q2:st[j]? with
         | none=>rw[q2] at e2;cases e2
         | some z=>rw[q2] at e2;rw[show z=some v from e2]
       have kd:=B.fr _ LU rfl
       have Tw:uU X.env.scope y:=by
         rcases kd with z | z
         . exact .inr (.inl z)
         . exact .inr (.inr z)
       obtain⟨m,_,hl⟩:=I.loc
       obtain⟨u,r,l⟩:=hl j y v K7 Tv Tw
       refine⟨u,r,.inr ?_⟩
       rcases l with⟨z,_⟩ | ⟨_,c,hc,ic⟩
       . rcases kd with z' | z' <;> rw[z] at z' <;> cases z'
       . obtain⟨c',xG⟩:=kh (cells:=X.env.cells) sc.names [] (.inl LU)
         have:=(qW B I.ok xG).1
         rw[hc] at this;cases this
         obtain⟨oc,DM,hd⟩:=ic
         refine⟨?_,c,xG,oc,k _ _ DM,hd⟩
         rcases e3 with e3 | e3 | e3
         . have e3:(relabel sc X.env).names.lookup y=some .local:=e3
           rcases mZ (env:=X.env) FV with z | z
           . exact absurd (e3.symm.trans z) (by decide)
           . exact absurd (e3.symm.trans z) (by decide)
         . exact .inl e3
         . exact .inr e3
 . obtain⟨_,_,v,oc,DM,hd⟩:=Cf y c h
   exact⟨v,oc,k _ _ DM,hd⟩
 . show upd H s.heap.objs.size (.lst []) C=none
   rw[ag (by rw[hC];exact Nat.succ_ne_self _)]
   exact fr _ N1
 . show upd H s.heap.objs.size (.lst []) c=none
   obtain⟨q1,q2,_⟩:=Cf y c h
   rw[ag (Nat.ne_of_lt q2)]
   exact q1
 . exact I.bH.laid k (Nat.le_refl _) ⟨Nat.zero_le _,[],0,.nil,hD⟩
 . show(List.replicate tn.length none ++ frees ix st).length=N.length
   rw[B.nm]
   unfold frees
   simp
noncomputable def N6 (X:Cx)(ifs:List Expr)(tt:TT):Prop:=∀ (pins:List (Addr×Obj)) (s:Shared) (st:L2.St) (H:Hp) (Q:Bool->Hp->Prop),L2.Inv X pins st H s->tt st H Q ->
 wpAny (model X.prog X.w) X.A (forIn ifs true fun c r=>if r=true then do let ok <- isTrue c X.env (eval c X.env);pure (ForInStep.yield ok) else pure (ForInStep.yield r)) (fun b s'=>∃ H',L2.Inv X pins st H' s'/\Q b H') X.xe s
theorem Ec {c:Expr}{tt:TT}(h:PT X c tt):N6 X [c] tt:=fun pins s st H Q I q=>wpAny_tests_one (b7 (h pins s st H _ I q) fun b s' z=>z)
noncomputable def Ed (nt:Nat)(g:TG)(tt:TT)(te:TE)(fs:L2.St)(J:It)(D:Addr)(Q:List V->Hp->Prop)(H:Hp):Prop:=
 ∃ W:Nat->Nat->List V->Hp->Prop,(∃ m,W 0 m [] (upd H D (.lst [])))/\∀ i m ys H1,W i m ys H1 ->
   (J.stop i H1/\Q ys H1)\/(J.go i H1/\ys.length < sizeLine/\∀ σ:L2.St,σ.length=nt->∀ v H2,J.K4 i H1 v H2->g v (σ ++ fs) H2 fun σ2 H3=>∃ σ':L2.St,σ2=σ' ++ fs/\σ'.length=nt /\
     tt σ2 H3 fun b H4=>if b=true then te σ2 H4 fun y H5=>H5 D=some (.lst ys)/\∃ m',m' < m/\W (i+1) m' (ys ++ [y]) (upd H5 D (.lst (ys ++ [y]))) else ∃ m',m' < m/\W (i+1) m' ys H4)
theorem Bb {elt iter tg:Expr}{ifs:List Expr}{pos:Pos}{g:TG}{tt:TT}{te:TE}{J:It}{it:Addr}{tj:Nat->Heap->Prop}{Q:Addr->List V->Hp->Prop}{RR:Value->Addr->Result->Shared->Prop}{E:Value->Shared->Prop}(hc:X.calm=true)(B:tN X N tn ix sc)(hg:∀ C fp s H,PG (aZ X N sc C fp s H) tg g)(ht:∀ C fp s H,N6 (aZ X N sc C fp s H) ifs tt)(ky:∀ C fp s H,PE (aZ X N sc C fp s H) elt te)(I:L2.Inv X pins st H s)(T:Turn X.prog X.w X.K tg J fp it tj)(h0:tj 0 s.heap)(hf:∀ b∈fp,lD X pins H b)(hq:∀ D,H D=none->Ed tn.length g tt te (frees ix st) J D (Q D) H)(Tx:∀ D C ys H' s',L2.Inv X pins st H' s'->(∃ m,s'.heap.Ns C m)->lD X pins H' C->Q D ys H'->RR (.ref D) C (.ok .next) s'):wpAny (model X.prog X.w) X.A (newList []) (fun acc s3=>wpAny (model X.prog X.w) X.A (newFunctionEnv sc X.env.globals (lQ sc X.env) [] X.env.qual none .none (some X.env)) (fun A2 s4=>codeAny (model X.prog X.w) X.A (.compStart (.ListComp elt [⟨tg,iter,ifs,0⟩] sc pos) 0 (.ref it) acc { A2 with scope:=relabel sc X.env}) (RR acc A2.locals) s4) E s3) E s:=by
 have dy:∀ b∈fp,b < s.heap.objs.size:=fun b hb=>by
   obtain⟨o,e,_⟩:=T.obj _ _ h0 b hb
   exact Heap.lt_size e
 refine wpAny_newObj_type (wpAny_newFunctionEnv B.vk (fun y hy=>absurd hy (by simp)) (fun h1 GQ FW=>?_) B.kind)
 dsimp only at GQ FW ⊢
 generalize hG:s.heap.push { cls:=.type "list",dict:=none,data:=.seq ([]:List Value).toArray}=g' at GQ FW ⊢
 have hC:g'.objs.size=s.heap.objs.size+1:=by rw[<- hG,Heap.size_push]
 have VF:s.heap.objs.size≠g'.objs.size:=by rw[hC];exact Nat.ne_of_lt (Nat.lt_succ_self _)
 have old:∀ b o,s.heap.get? b=some o->h1.get? b=some o:=fun b o e=>
   FW.extBut b o (by rw[hC];exact Nat.ne_of_lt (Nat.lt_succ_of_lt (Heap.lt_size e))) (Heap.get?_push_of_some _ (hG ▸ Heap.get?_push_of_some _ e))
 have HQ:h1.get? s.heap.objs.size=some { cls:=.type "list",data:=.seq ([]:List Value).toArray 0}:=FW.extBut _ _ VF (Heap.get?_push_of_some _ (hG ▸ Heap.get?_push_size _ rfl))
 have hD:H s.heap.objs.size=none:=I.bH.fresh (Nat.le_refl _)
 obtain⟨W,⟨m0,w0⟩,turn⟩:=hq _ hD
 have I0:=CL (t':=s.toks+([]:List (Str×Value)).length) B I hf dy hC old (by simpa using GQ) HQ
 have N2:tj 0 h1:=T.keep _ _ _ h0 fun b _ o e=>old b o e
 have oG:s.heap.objs.size<=g'.objs.size:=by rw[hC];exact Nat.le_succ _
 have qo:∀ {H':Hp},(∀ b∈fp,H' b=none)->∀ b∈fp,lD (aZ X N sc g'.objs.size fp s H) [] H' b:=fun {H'} hn b hb=>
   ⟨hn b hb,((um B I oG hf dy).Ll b hb).1,(um B I oG hf dy).Au b hb,.inl hb,((um B I oG hf dy).Ll b hb).2,fun p hp=>absurd (show p∈([]:List (Addr×Obj)) from hp) (by simp)⟩
 have loop:∀ s3:Shared,s3={ s with heap:=h1,toks:=s.toks+([]:List (Str×Value)).length} ->
     codeAny (model X.prog X.w) X.A (.compLoop (.ListComp elt [⟨tg,iter,ifs,0⟩] sc pos) 0 (.ref it) (.ref s.heap.objs.size) (compEnvC sc (lQ sc X.env) g'.objs.size X.env)) (RR (.ref s.heap.objs.size) g'.objs.size) s3:=by
   rintro s3 rfl
   refine Ba (fun n s'=>∃ i ys σ H',σ.length=tn.length/\L2.Inv (aZ X N sc g'.objs.size fp s H) [] (σ ++ frees ix st) H' s'/\tj i s'.heap/\(∀ b∈fp,H' b=none)/\W i n ys H') ?_ m0
     ⟨0,[],List.replicate tn.length none,_,by simp,I0,N2,fun b hb=>?_,w0⟩
   . rintro n s5 ⟨i,ys,σ,H5,hσ,I5,GP,K5,w5⟩
     rcases turn i n ys H5 w5 with⟨stop,qn⟩ | ⟨go,hz,step⟩
     . refine b7 (T.done (aZ X N sc g'.objs.size fp s H) rfl rfl rfl hc i [] s5 _ H5 wU I5 (qo K5) GP stop) fun r s6 ⟨hr,I6⟩=>?_
       subst hr
       refine Tx _ _ ys H5 s6 ?_ ?_ (I.uW oG I6.free) qn
       . exact I.Hd I6.os I6.base I6.bH I6.bare fun b hb=>⟨(hf b hb).2.2.2.1,(hf b hb).2.1,(hf b hb).2.2.2.2.1,(hf b hb).2.2.2.2.2⟩
       . obtain⟨m,hm,_⟩:=I6.loc
         exact⟨m,hm⟩
     . refine b7 (T.item (aZ X N sc g'.objs.size fp s H) rfl rfl rfl hc i [] s5 _ H5 wU I5 (qo K5) GP go) fun r s6 ⟨u,hr,h6⟩=>?_
       subst hr
       refine b7 h6 fun _ s7 ⟨v,H7,I7,r7,y7,HR,Tz⟩=>?_
       have TB:=I7.pinned (qo Tz) (T.obj _ _ HR)
       refine b7 (hg g'.objs.size fp s H _ s7 _ H7 v u _ TB r7 (step σ hσ v H7 y7)) fun _ s8 h8=>?_
       obtain⟨σ8,H8,I8,σ',e8,TU,h8⟩:=h8
       subst e8
       have pinned:∀ {σ9:L2.St} {H9:Hp} {s9:Shared},L2.Inv (aZ X N sc g'.objs.size fp s H) ([] ++ rR fp s7.heap) σ9 H9 s9->tj (i+1) s9.heap/\∀ b∈fp,H9 b=none:=fun {σ9 H9 s9} I9=>by
         refine⟨T.keep _ _ _ HR fun b hb o e=>(I9.pin (b,o) (List.mem_append_right _ (List.mem_append_right _ (gj hb e)))).1,fun b hb=>?_⟩
         obtain⟨o,e,d⟩:=T.obj _ _ HR b hb
         exact(I9.pin (b,o) (List.mem_append_right _ (List.mem_append_right _ (gj hb e)))).2.1
       refine b7 (ht g'.objs.size fp s H _ s8 _ H8 _ I8 h8) fun ok W7 L1=>?_
       obtain⟨W8,L3,L1⟩:=L1
       cases ok with
       | false=>
         obtain⟨m',hm,w8⟩:=L1
         exact⟨m',hm,i+1,ys,σ',_,TU,L3.ka (pins:=[]),(pinned L3).1,(pinned L3).2,w8⟩
       | true=>
         refine b7 (ky g'.objs.size fp s H _ W7 _ W8 _ L3 L1) fun z s9 ⟨y,H9,I9,r9,TC,m',hm,w9⟩=>?_
         refine b7 (o8 _ s9 _ H9 (.ref s.heap.objs.size) [y] (.ref s.heap.objs.size) [z] (fun _ H'=>H'=upd H9 s.heap.objs.size (.lst (ys ++ [y]))) I9 rfl (.cons r9 .nil) ⟨_,ys,y,rfl,rfl,TC,hz,rfl⟩) fun _ Zg TF=>?_
         obtain⟨_,Zh,HS,_,rfl⟩:=TF
         exact⟨m',hm,i+1,ys ++ [y],σ',_,TU,HS.ka (pins:=[]),(pinned HS).1,(pinned HS).2,w9⟩
   . rw[ag (Nat.ne_of_lt (dy b hb))]
     exact(hf b hb).1
 exact codeAny_compStart_list (loop _ rfl) (T.self _ 0 _ _ _ N2 (loop _ rfl))
end
section
variable {K:W.Frag}{G:Gr}{st:L2.St}{Hf H aw H1:Hp}{dl:List Slot}{ix:List Nat}
structure TV (K:W.Frag)(Hf:Hp)(σ:L2.St)(sl:List Slot):Prop where
 len:σ.length=sl.length
 val:∀ (i:Nat) d,sl[i]?=some (.val d)->∃ v,σ[i]?=some (some v)/\Rep K Hf v d
 no:∀ (i:Nat) o,sl[i]?≠some (.own o)
theorem TV.mono {σ:L2.St}{sl:List Slot}(h:TV K Hf σ sl)(s:aE Hf aw):TV K aw σ sl:=⟨h.len,fun i d e=>let ⟨v,h1,h2⟩:=h.val i d e;⟨v,h1,h2.mono s⟩,h.no⟩
theorem Bc {σ:L2.St}{sl:List Slot}(S:d7 K G st Hf H dl)(s1:aE Hf aw)(sb:aE aw H1)(r:TV K aw σ sl):d7 K ⟨aw,H1⟩ (σ ++ frees ix st) aw H1 (sl ++ jD dl ix):=by
 have no:∀ (i:Nat) o,(sl ++ jD dl ix)[i]?≠some (.own o):=fun i o h=>by
   by_cases hi:i < sl.length
   . rw[List.getElem?_append_left hi] at h
     exact r.no i o h
   . rw[List.getElem?_append_right (Nat.le_of_not_lt hi)] at h
     unfold jD at h
     rw[List.getElem?_map] at h
     cases q:ix[i - sl.length]? with
     | none=>rw[q] at h;cases h
     | some j=>
       rw[q] at h
       exact xV (Option.some.inj h)
 refine⟨.refl sb,by simp[frees,jD,r.len],fun i x h=>?_,fun i o h=>absurd h (no i o),fun i j o o' a h=>absurd h (no i o)⟩
 by_cases hi:i < sl.length
 . rw[List.getElem?_append_left hi] at h
   rw[List.getElem?_append_left (by rw[r.len];exact hi)]
   exact r.val i x h
 . have hi:=Nat.le_of_not_lt hi
   rw[List.getElem?_append_right hi] at h
   rw[List.getElem?_append_right (by rw[r.len];exact hi),r.len]
   unfold jD at h
   unfold frees
   rw[List.getElem?_map] at h ⊢
   cases q:ix[i - sl.length]? with
   | none=>rw[q] at h;cases h
   | some j=>
     rw[q] at h
     have hd:=xW (Option.some.inj h)
     obtain⟨v',z1,z2⟩:=S.val j x hd
     exact⟨v',by rw[Option.map_some,z1];rfl,z2.mono s1⟩
noncomputable def PY (K:W.Frag)(nt:Nat)(g:TG)(z:Dt)(sl:List Slot):Prop:=∀ (σ fs:L2.St) (Hf H:Hp) (v:V) (Q:L2.St->Hp->Prop),σ.length=nt->aE Hf H->Rep K Hf v z ->
 (∀ σ':L2.St,σ'.length=nt->TV K Hf σ' sl->Q (σ' ++ fs) H)->g v (σ ++ fs) H Q
theorem bQ {z:Dt}:PY K 1 (mz 0) z [.val z]:=fun σ fs Hf H v Q hl s r k=>by
 cases σ with
 | nil=>cases hl
 | cons a σ=>
   have:σ=[]:=List.eq_nil_of_length_eq_zero (by simpa using hl)
   subst this
   refine k [some v] rfl ⟨rfl,fun i d h=>?_,fun i o h=>?_⟩
   . cases i with
     | zero=>cases h;exact⟨v,rfl,r⟩
     | succ i=>cases h
   . cases i with
     | zero=>cases h
     | succ i=>cases h
noncomputable abbrev N7 (K:W.Frag):TG:=Lp K 2 (tm (mz 0) (tm (mz 1) Lo))
theorem Ee {a b:Dt}:PY K 2 (N7 K) (.tup [a,b]) [.val a,.val b]:=fun σ fs Hf H v Q hl s r k=>by
 cases σ with
 | nil=>cases hl
 | cons x σ=>cases σ with
   | nil=>cases hl
   | cons y σ=>
     have:σ=[]:=List.eq_nil_of_length_eq_zero (by simpa using hl)
     subst this
     cases r with
     | @tup q vs _ hq rp=>
       cases rp with
       | cons r1 t1=>cases t1 with
         | cons r2 t2=>
           cases t2
           refine⟨q,_,rfl,gk s hq,rfl,_,_,rfl,_,_,rfl,rfl,k [some _,some _] rfl ⟨rfl,fun i d h=>?_,fun i o h=>?_⟩⟩
           . cases i with
             | zero=>cases h;exact⟨_,rfl,r1⟩
             | succ i=>cases i with
               | zero=>cases h;exact⟨_,rfl,r2⟩
               | succ i=>cases h
           . cases i with
             | zero=>cases h
             | succ i=>cases i with
               | zero=>cases h
               | succ i=>cases h
end
section
variable {X:Cx}{G:Gr}{E:XK}{dl:List Slot}{a b c elt iter tg:Expr}{ifs:List Expr}{i:Int}{pos p px py wV:Pos}{o:Out}{x y:Str}{N tn:List Str}{ix:List Nat}{sc:Scope}{n:Nat}
noncomputable def sk (X:Cx)(G:Gr)(dl:List Slot)(zs:List Dt)(wi:TI):Prop:=∀ st H (R:It->Hp->Prop),(∃ Hf,d7 X.K G st Hf H dl/\∀ J Ic H0,bh Hf H Ic H0 ->
 (∀ aw H1,aE Ic aw->aE aw H1->∀ i,(∀ z,zs[i]?=some z->J.go i H1/\∀ v H2,J.K4 i H1 v H2->∃ bZ,bh aw H1 bZ H2/\Rep X.K bZ v z)/\(i=zs.length->J.stop i H1))->R J H0)->wi st H R
theorem eJ {xs:List Dt}:sk X G dl xs (Hi X.K (tD X.K G dl (.lst xs))):=fun st H R ⟨Hf,S,k⟩=>⟨Hf,S,fun v aw H1 g1 r1=>by
 cases r1 with
 | @lst q vs _ hq rp=>
   have hl:=rp.length
   refine⟨q,rfl,⟨vs,.of (g1.sub _ _ hq)⟩,k _ aw H1 g1 fun bZ H2 s1 s2 i=>⟨fun z hz=>?_,fun hi=>⟨vs,.of (s2 _ _ (s1 _ _ hq)),by omega⟩⟩⟩
   obtain⟨u,z1,z2⟩:=rp.get hz
   have hs:oe X.K H2 q vs:=.of (s2 _ _ (s1 _ _ hq))
   refine⟨⟨vs,u,hs,z1⟩,fun v H3 hy=>?_⟩
   obtain⟨e1,e2⟩:=hy
   have e2:=e2 vs hs
   rw[z1] at e2;cases e2
   subst e1
   exact⟨bZ,.refl s2,z2.mono s1⟩⟩
variable {α:Type}{as:List α}{z f:α->Dt}{sl:α->List Slot}{keep:α->Bool}{g:TG}{wi:TI}
noncomputable def L4 (K:W.Frag)(dl:List Slot)(ix:List Nat)(as:List α)(sl:α->List Slot)(keep:α->Bool):TT:=fun st H Q=>∃ a G',a∈as/\To K G' (sl a ++ jD dl ix) (keep a) st H Q
noncomputable def L5 (K:W.Frag)(dl:List Slot)(ix:List Nat)(as:List α)(sl:α->List Slot)(keep:α->Bool)(f:α->Dt):TE:=fun st H Q=>∃ a G',a∈as/\keep a=true/\tD K G' (sl a ++ jD dl ix) (f a) st H Q
inductive Bd (X:Cx)(N:List Str)(sc:Scope)(dl:List Slot)(ix:List Nat)(as:List α)(sl:α->List Slot)(keep:α->Bool):List Expr->Prop
 | nil:(∀ a∈as,keep a=true)->Bd X N sc dl ix as sl keep []
 | one {c:Expr}:(∀ a∈as,∀ C fp s H G',EB (aZ X N sc C fp s H) G' (sl a ++ jD dl ix) c (keep a))->Bd X N sc dl ix as sl keep [c]
theorem Ii (h:Bd X N sc dl ix as sl keep ifs):∀ C fp s H,N6 (aZ X N sc C fp s H) ifs (L4 X.K dl ix as sl keep):=fun C fp s H=>by
 cases h with
 | nil h=>exact fun pins s' st H' Q I ⟨a,G',ha,Hf,S,k⟩=>wpAny_tests_nil ⟨H',I,by have:=k Hf H' (.refl S.sub);rw[h a ha] at this;exact this⟩
 | one h=>exact Ec fun pins s' st H' Q I ⟨a,G',ha,q⟩=>h a ha C fp s H G' pins s' st H' Q I q
noncomputable def PZ (X:Cx)(N:List Str)(sc:Scope)(dl:List Slot)(ix:List Nat)(as:List α)(sl:α->List Slot)(keep:α->Bool)(f:α->Dt)(elt:Expr):Prop:=∀ a∈as,keep a=true->∀ C fp s H G',EE (aZ X N sc C fp s H) G' (sl a ++ jD dl ix) elt (f a)
theorem Ij (h:PZ X N sc dl ix as sl keep f elt):∀ C fp s H,PE (aZ X N sc C fp s H) elt (L5 X.K dl ix as sl keep f):=fun C fp s H pins s' st H' Q I ⟨a,G',ha,hk,q⟩=>h a ha hk C fp s H G' pins s' st H' Q I q
theorem FZ {nt:Nat}{st:L2.St}{Hf H:Hp}{J:It}{Q:VK}(S:d7 X.K G st Hf H dl)(hn:as.length<=sizeLine)(Il:∀ a∈as,PY X.K nt g (z a) (sl a))(go:∀ aw H1,bh Hf H aw H1->∀ i,(∀ y,(as.map z)[i]?=some y->J.go i H1/\∀ v H2,J.K4 i H1 v H2->∃ bZ,bh aw H1 bZ H2/\Rep X.K bZ v y)/\(i=(as.map z).length->J.stop i H1))(k:∀ p aH H',bh Hf H aH H'->H p=none->aH p=none->gZ X.K aH H' p (.lst ((as.filter keep).map f))->Q (.ref p) H'):∀ D,H D=none->Ed nt g (L4 X.K dl ix as sl keep) (L5 X.K dl ix as sl keep f) (frees ix st) J D (fun _ H'=>Q (.ref D) H') H:=by
 intro D hD
 refine⟨fun i m vs H1=>m=as.length - i/\i<=as.length/\∃ aw,bh Hf H aw H1/\aw D=none/\H1 D=some (.lst vs)/\bD X.K aw vs (((as.take i).filter keep).map f),⟨as.length,rfl,Nat.zero_le _,Hf,.fU S.sub hD,S.sub.free hD,ak,.nil⟩,?_⟩
 rintro i m vs H1 ⟨rfl,hi,aw,g1,TJ,R1,rp⟩
 have hlen:=rp.length
 rw[List.length_map] at hlen
 have VL:((as.take i).filter keep).length<=i:=Nat.le_trans (List.length_filter_le _ _) (by rw[List.length_take];omega)
 have CM:∀ {W9 Ha VM Hb:Hp},bh W9 Ha VM Hb->W9 D=none->Ha D=some (.lst vs)->VM D=none/\Hb D=some (.lst vs):=fun {W9 Ha VM Hb} gg e1 e2=>by
   refine⟨?_,gg.big _ _ e2⟩
   cases q:VM D with
   | none=>rfl
   | some u=>
     obtain⟨o,z⟩:=gg.yJ e2 (fun z=>z) q
     rw[e1] at z;cases z
 by_cases dy:i < as.length
 . have P0:as[i]∈as:=List.getElem_mem dy
   have et:as.take (i+1)=as.take i ++ [as[i]]:=by rw[List.take_add_one,List.getElem?_eq_getElem dy];rfl
   obtain⟨TK,hy⟩:=(go aw H1 g1 i).1 (z as[i]) (by rw[List.getElem?_map,List.getElem?_eq_getElem dy];rfl)
   refine .inr ⟨TK,by omega,fun σ hσ v H2 y=>?_⟩
   obtain⟨bZ,g2,rv⟩:=hy v H2 y
   obtain⟨d2,d2'⟩:=CM g2 TJ R1
   refine Il as[i] P0 σ _ bZ H2 v _ hσ g2.sub rv fun σ' hl' tv=>⟨σ',rfl,hl',as[i],⟨bZ,H2⟩,P0,bZ,Bc S (g1.bw.trans g2.bw) g2.sub tv,fun ko H3 g3=>?_⟩
   obtain⟨d3,Zm⟩:=CM g3 d2 d2'
   cases hk:keep as[i] with
   | false=>
     refine⟨as.length - (i+1),by omega,rfl,dy,ko,(g1.trans g2).trans g3,d3,Zm,?_⟩
     rw[et,List.filter_append,List.filter_cons_of_neg (by simp[hk]),List.filter_nil,List.append_nil]
     exact rp.mono (g2.bw.trans g3.bw)
   | true=>
     refine⟨as[i],⟨ko,H3⟩,P0,hk,ko,Bc S ((g1.bw.trans g2.bw).trans g3.bw) g3.sub (tv.mono g3.bw),fun y K9 H4 g4 r4=>?_⟩
     obtain⟨d4,d4'⟩:=CM g4 d3 Zm
     have gg:=((g1.trans g2).trans g3).trans g4
     refine⟨d4',as.length - (i+1),by omega,rfl,dy,K9,⟨fun a o h=>?_,gg.bw,fun a o h=>?_,gg.new⟩,d4,ak,?_⟩
     . rw[ag (av h hD)];exact gg.big _ _ h
     . rw[ag (av h d4)];exact g4.sub _ _ h
     . rw[et,List.filter_append,List.filter_cons_of_pos (by simpa using hk),List.filter_nil,List.map_append]
       exact(rp.mono ((g2.bw.trans g3.bw).trans g4.bw)).append (.cons r4 .nil)
 . have e:i=as.length:=by omega
   subst e
   refine .inl ⟨(go aw H1 g1 _).2 (by simp),k D aw H1 g1 hD TJ ⟨vs,R1,?_⟩⟩
   rw[List.take_length] at rp
   exact rp
noncomputable def L6 (wi:TI)(nt:Nat)(ix:List Nat)(g:TG)(tt:TT)(te:TE):TE:=fun st H Q=>wi st H fun J H1=>∀ D,H1 D=none->Ed nt g tt te (frees ix st) J D (fun _ H'=>Q (.ref D) H') H1
theorem P1 {tt:TT}{te:TE}(hc:X.calm=true)(B:tN X N tn ix sc)(hi:PI X tg iter wi)(hg:∀ C fp s H,PG (aZ X N sc C fp s H) tg g)(ht:∀ C fp s H,N6 (aZ X N sc C fp s H) ifs tt)(ky:∀ C fp s H,PE (aZ X N sc C fp s H) elt te)(hs:∀ z,foldedSetIterable iter X.env z=pure z):PE X (.ListComp elt [⟨tg,iter,ifs,0⟩] sc pos) (L6 wi tn.length ix g tt te):=by
 intro pins s st H Q I h
 rw[eval_ListComp]
 refine wpAny_comprehension_free (use:=none) rfl hs (Eb B I.ok) B.kind B.names (b7 (hi pins s st H _ I h) fun v s1 h1=>b7 h1 fun O2 s2 h2=>?_)
 obtain⟨it,fp,tj,J,H2,e,I2,T,GO,f2,hq⟩:=h2
 subst e
 refine Bb (RR:=fun acc C=>compPost (model X.prog X.w) X.A X.xe none (EP X pins st Q) acc C) hc B hg ht ky I2 T GO f2 hq ?_
 intro D C ws H' s' I' ⟨m,hn⟩ pX q
 exact⟨m,hn,fun h' LX=>⟨.ref D,H',I'.turned (t':=s'.toks) (it:=C) (fun b o hb e=>(LX.2 b hb).trans e) pX.1 pX.2.1 pX.2.2.2.1 pX.2.2.2.2.1 pX.2.2.2.2.2,rfl,q⟩⟩
theorem P2 {tt:TT}{te:TE}{nN:Nat}(hc:X.calm=true)(B:tN X N tn ix sc)(hi:PI X tg iter wi)(hg:∀ C fp s H,PG (aZ X N sc C fp s H) tg g)(ht:∀ C fp s H,N6 (aZ X N sc C fp s H) ifs tt)(ky:∀ C fp s H,PE (aZ X N sc C fp s H) elt te)(hs:∀ z,foldedSetIterable iter X.env z=pure z)(PV:swapsWith (.ListComp elt [⟨tg,iter,ifs,0⟩] sc pos) (some (.Name y py)) wV.line X.env=pure true)(hN:X.N.Nodup)(hy:X.N[nN]?=some y)(hl:Loc X.env.scope y)(hf:X.fn y=true\/X.env.scope.names.lookup y=some .local):PS X (.Assign [.Name y py] (.ListComp elt [⟨tg,iter,ifs,0⟩] sc pos) wV) (fun D st H=>L6 wi tn.length ix g tt te st H fun v H'=>D.nx (st.set nN (some v)) H'):=by
 intro pins s st H D0 I h
 rw[exec_Assign_Name_used _ _ _ _ PV]
 refine wpAny_bind (wpAny_standAt (wpAny_bind ?_))
 show wpAny _ X.A (do let _ <- comprehension (.ListComp elt [⟨tg,iter,ifs,0⟩] sc pos) sc X.env _ (newList []) false (eval iter X.env) (some (assign (.Name y py) X.env))) _ _ s
 refine wpAny_bind (wpAny_mono (wpAny_comprehension_free (use:=some (assign (.Name y py) X.env)) (Q:=fun _ s'=>SP X pins D0 .next s') rfl hs (Eb B I.ok) B.kind B.names (b7 (hi pins s st H _ I h) fun v s1 h1=>b7 h1 fun O2 s2 h2=>?_)) (fun _ s' hq=>wpAny_pure (wpAny_pure hq)) fun _ _ z=>z)
 obtain⟨it,fp,tj,J,H2,e,I2,T,GO,f2,hq⟩:=h2
 subst e
 refine Bb (RR:=fun acc C=>compPost (model X.prog X.w) X.A X.xe (some (assign (.Name y py) X.env)) (fun _ s'=>SP X pins D0 .next s') acc C) hc B hg ht ky I2 T GO f2 hq ?_
 intro D C ws H' s' I' ⟨m,hn⟩ pX q
 refine wpAny_assign_Name (rM I' hN hy hl (v:=.ref D) rfl (fun Ph W3 ⟨ad,FW,ha⟩=>?_) hf)
 have ne:C≠ad:=by
   rcases ha with z | z
   . rw[z];exact pX.2.1
   . exact Ne.symm (pX.2.2.2.2.1 _ _ z)
 exact⟨m,hn.sameBut FW ne,fun h' LX=>⟨_,H',W3.turned (t':=Ph.toks) (it:=C) (fun b o hb e=>(LX.2 b hb).trans e) pX.1 pX.2.1 pX.2.2.2.1 pX.2.2.2.2.1 pX.2.2.2.2.2,q⟩⟩
theorem sq (hs:sk X G dl (as.map z) wi)(Il:∀ a∈as,PY X.K n g (z a) (sl a))(hn:as.length<=sizeLine):∀ st H Q,VG X.K G dl (.lst ((as.filter keep).map f)) st H Q->L6 wi n ix g (L4 X.K dl ix as sl keep) (L5 X.K dl ix as sl keep f) st H Q:=fun st H Q ⟨Hf,S,k⟩=>
 hs st H _ ⟨Hf,S,fun J Ic H0 g0 src=>FZ (S.grow g0) hn Il (fun aw H1 g1 i=>src aw H1 g1.bw g1.sub i) fun p aH H' g n1 n2 r=>k p aH H' (g0.trans g) (g0.big.free n1) n2 r⟩
theorem eO (as:List α)(z f:α->Dt)(sl:α->List Slot)(keep:α->Bool)(hc:X.calm=true)(B:tN X N tn ix sc)(hi:PI X tg iter wi)(hg:∀ C fp s H,PG (aZ X N sc C fp s H) tg g)(vq:sk X G dl (as.map z) wi)(Il:∀ a∈as,PY X.K tn.length g (z a) (sl a))(Im:Bd X N sc dl ix as sl keep ifs)(ky:PZ X N sc dl ix as sl keep f elt)(hn:as.length<=sizeLine)(hs:∀ z,foldedSetIterable iter X.env z=pure z:=by intro _;rfl):EO X G dl (.ListComp elt [⟨tg,iter,ifs,0⟩] sc pos) (.lst ((as.filter keep).map f)):=iW (P1 hc B hi hg (Ii Im) (Ij ky) hs) (sq vq Il hn)
theorem CN (nN:Nat)(as:List α)(z f:α->Dt)(sl:α->List Slot)(keep:α->Bool)(hc:X.calm=true)(hN:X.N.Nodup)(B:tN X N tn ix sc)(hi:PI X tg iter wi)(hg:∀ C fp s H,PG (aZ X N sc C fp s H) tg g)(vq:sk X G dl (as.map z) wi)(Il:∀ a∈as,PY X.K tn.length g (z a) (sl a))(Im:Bd X N sc dl ix as sl keep ifs)(ky:PZ X N sc dl ix as sl keep f elt)(hn:as.length<=sizeLine)(hs:∀ z,foldedSetIterable iter X.env z=pure z:=by intro _;rfl)(PV:swapsWith (.ListComp elt [⟨tg,iter,ifs,0⟩] sc pos) (some (.Name y py)) wV.line X.env=pure true:=by rfl)(hy:X.N[nN]?=some y:=by rfl)(hl:Loc X.env.scope y:=by first | exact Or.inl rfl | exact Or.inr rfl)(hf:X.fn y=true\/X.env.scope.names.lookup y=some .local:=by first | exact .inl rfl | exact .inr rfl | assumption):ES X G E dl (.Assign [.Name y py] (.ListComp elt [⟨tg,iter,ifs,0⟩] sc pos) wV) (.nx (dl.set nN (.own (.lst ((as.filter keep).map f))))):=
 uf (P2 hc B hi hg (Ii Im) (Ij ky) hs PV hN hy hl hf) fun D st H ⟨Hf,S,k⟩=>sq vq Il hn st H _ ⟨Hf,S,fun p aH H' g n1 n2 r=>k _ aH H' g.bw (S.PQ g n1 n2 r)⟩
noncomputable def VN (K:W.Frag)(g:TG)(z:Dt)(up:List Slot->List Slot):Prop:=∀ (G:Gr) (st:L2.St) (Hf H:Hp) (v:V) (dl:List Slot) (Q:L2.St->Hp->Prop),d7 K G st Hf H dl->Rep K Hf v z->(∀ jC,d7 K G jC Hf H (up dl)->Q jC H)->g v st H Q
theorem uo {K:W.Frag}{n:Nat}{z:Dt}:VN K (mz n) z (fun dl=>dl.set n (.val z)):=fun G st Hf H v dl Q S r k=>k _ (S.set r)
theorem yX {K:W.Frag}{n m:Nat}{z1 z2:Dt}:VN K (Lp K 2 (tm (mz n) (tm (mz m) Lo))) (.tup [z1,z2]) (fun dl=>(dl.set n (.val z1)).set m (.val z2)):=fun G st Hf H v dl Q S r k=>by
 cases r with
 | @tup q vs _ hq rp=>
   cases rp with
   | cons r1 t1=>cases t1 with
     | cons r2 t2=>
       cases t2
       exact⟨q,_,rfl,gk S.sub hq,rfl,_,_,rfl,_,_,rfl,rfl,k _ ((S.set r1).set r2)⟩
theorem l3 {body:List Stmt}{m:Nat}(as:List α)(z:α->Dt)(up:α->List Slot->List Slot)(S:Nat->List Slot)(qS:X.calm=true)(hp:PassesOwn (model X.prog X.w) X.A X.env X.xe)(hI:PI X tg iter wi)(vq:sk X G dl (as.map z) wi)(hg:PG X tg g)(Il:∀ a∈as,VN X.K g (z a) (up a))(h0:Le (S 0) dl)(VE:m<=as.length)(hb:∀ (k:Nat) (a:α),k < m->as[k]?=some a->Goes X G E body (up a (S k)) (S (k+1)))(he:qb X G E body S (fun k=>(as[k]?).elim (S k) fun a=>up a (S k)) as.length m o)(hs:∀ z,foldedSetIterable iter X.env z=pure z:=by intro _;rfl):ES X G E dl (.For tg iter body [] pos) o:=by
 refine uf (yx hp qS hI hg (qR (G:=G) (E:=E)) hs) fun D st H ⟨Hf,S0,k⟩=>vq st H _ ⟨Hf,S0,fun J Ic H0 g0 src=>?_⟩
 refine⟨fun i q st H=>q=as.length - i/\i<=m/\∃ aw,aE Ic aw/\d7 X.K G st aw H (S i),⟨as.length,rfl,Nat.zero_le _,Ic,aE.refl _,(S0.grow g0).weak h0⟩,?_⟩
 rintro i q VJ H1 ⟨rfl,him,aw,s1,S1⟩
 have sr:=src aw H1 s1 S1.sub i
 by_cases dy:i < as.length
 . have hz:as[i]?=some as[i]:=List.getElem?_eq_getElem dy
   obtain⟨TK,hy⟩:=sr.1 (z as[i]) (by rw[List.getElem?_map,hz];rfl)
   refine .inr ⟨TK,fun jC H'=>i < m/\∃ bZ,aE Ic bZ/\d7 X.K G jC bZ H' (S (i+1)),fun jC H' ⟨h1,h2⟩=>⟨as.length - (i+1),by omega,rfl,by omega,h2⟩,fun x H' y=>?_⟩
   obtain⟨bZ,g2,rv⟩:=hy x H' y
   refine Il as[i] (List.getElem_mem dy) G VJ bZ H' x (S i) _ (S1.grow g2) rv fun GO S2=>?_
   by_cases P4:i < m
   . exact pk (hb i as[i] P4 hz) S2 (fun st ko H s3 S'=>⟨P4,ko,(s1.trans g2.bw).trans s3,S'⟩) (fun st ko H s3 S'=>⟨P4,ko,(s1.trans g2.bw).trans s3,S'⟩)
   . have e:i=m:=by omega
     subst e
     refine r6 he dy ?_ (k.mono ((g0.bw.trans s1).trans g2.bw)) rfl rfl
     show d7 _ _ _ _ _ ((as[i]?).elim (S i) fun a=>up a (S i))
     rw[hz];exact S2
 . have e:i=as.length:=by omega
   subst e
   have e2:m=as.length:=by omega
   subst e2
   refine .inl ⟨sr.2 (by simp),?_⟩
   cases he with
   | all _=>exact k VJ aw H1 (g0.bw.trans s1) S1
   | rt h _=>omega
   | ro h _=>omega
   | bk h _=>omega
   | ex h _=>omega
theorem bF (B:tN X N tn ix sc)(h:tn=[x]):∀ C fp s H,PG (aZ X N sc C fp s H) (.Name x px) (mz 0):=fun C fp s H=>by
 have hN:(aZ X N sc C fp s H).N[0]?=some x:=by
   show N[0]?=some x
   rw[B.nm,h];rfl
 have K8:(aZ X N sc C fp s H).env.scope.names.lookup x=some .local:=lookup_relabel_local (B.hx x (by rw[h];simp))
 exact bI (X:=aZ X N sc C fp s H) B.nd hN (.inl K8) (.inr K8)
theorem Be {k:Nat}(hc:X.calm=true)(B:tN X N tn ix sc)(h:tn=[x,y]):∀ C fp s H,PG (aZ X N sc C fp s H) (.Tuple [.Name x px,.Name y py] k p) (N7 X.K):=fun C fp s H=>by
 have h0:(aZ X N sc C fp s H).N[0]?=some x:=by
   show N[0]?=some x
   rw[B.nm,h];rfl
 have h1:(aZ X N sc C fp s H).N[1]?=some y:=by
   show N[1]?=some y
   rw[B.nm,h];rfl
 have K8:(aZ X N sc C fp s H).env.scope.names.lookup x=some .local:=lookup_relabel_local (B.hx x (by rw[h];simp))
 have FV:(aZ X N sc C fp s H).env.scope.names.lookup y=some .local:=lookup_relabel_local (B.hx y (by rw[h];simp))
 exact rP (X:=aZ X N sc C fp s H) hc (dg (bI B.nd h0 (.inl K8) (.inr K8)) (dg (bI B.nd h1 (.inl FV) (.inr FV)) o5 rfl) rfl) rfl rfl
end
noncomputable def gq (sc A9:Scope)(XN N tn:List Str)(ix:List Nat):Bool:=
 decide N.Nodup && (decide (N=tn ++ ix.map (fun j=>XN.getD j "")) && (decide (sc.kind=.function) && (sc.names.all (fun y=>decide (y.2≠.cell)) && (sc.names.all (fun y=>decide (y.2=.local->sc.names.lookup y.1=some .local)) && (tn.all (fun x=>decide (sc.names.lookup x=some .local)) &&
   (sc.names.all (fun y=>decide (y.2=.free->A9.names.lookup y.1=some .cell\/A9.names.lookup y.1=some .free)) && ix.all (fun j=>decide (sc.names.lookup (XN.getD j "")=some .free) && decide (j < XN.length))))))))
theorem a0 {X:Cx}{sc A9:Scope}{XN N tn:List Str}{ix:List Nat}(h:gq sc A9 XN N tn ix=true)(e1:X.env.scope=A9:=by rfl)(e2:X.N=XN:=by rfl):tN X N tn ix sc:=by
 subst e1 e2
 unfold gq at h
 simp only[Bool.and_eq_true,List.all_eq_true,decide_eq_true_eq] at h
 obtain⟨h1,h2,h3,h4,h5,h6,h7,h8⟩:=h
 refine⟨h1,h2,h3,h4,h5,h6,h7,fun j hj=>?_⟩
 obtain⟨q1,q2⟩:=h8 j hj
 refine⟨X.N.getD j "",?_,q1⟩
 rw[List.getD_eq_getElem?_getD,List.getElem?_eq_getElem q2];rfl
section
variable {X:Cx}{G:Gr}{dl:List Slot}{a e:Expr}{w:Own}{u:Bool}
theorem TX {Hf H aw aH H':Hp}(s:aE Hf H)(g:bh aw H aH H'):bh Hf H Hf H':=⟨g.big,aE.refl _,s.trans g.big,fun a o h=>.inl ⟨o,h⟩⟩
theorem L7 (n:Nat)(h:EB X G (dl.set n (.val (RZ w))) e u)(hd:dl[n]?=some (.own w):=by rfl):EB X G dl e u:=RY h fun st H Q ⟨Hf,S,k⟩=>by
 obtain⟨aw,_,S1⟩:=S.bw hd
 exact⟨aw,S1,fun aH H' g=>k Hf H' (TX S.sub g)⟩
end
section
variable {X:Cx}{pins:List (Addr×Obj)}{σ:List (Option V)}{H:Hp}{s:Shared}{h':Heap}
theorem Bf {ch:List Addr}{a:Addr}{o:HO}{t':Nat}(I:L2.Inv X pins σ H s)(Aj:∀ b∈ch,lD X pins H b)(k:∀ b u,b ∉ ch->s.heap.get? b=some u->h'.get? b=some u)(hp:s.heap.objs.size<=a)(new:aP X.prog X.w (upd H a o) h' a o):L2.Inv X pins σ (upd H a o) { s with heap:=h',toks:=t'}:=by
 have hn:=I.bH.fresh hp
 have Sl:∀ b u,H b=some u->b ∉ ch:=fun b u e z=>by rw[(Aj b z).1] at e;cases e
 have nea:∀ b o,s.heap.get? b=some o->b≠a:=fun b o e=>Nat.ne_of_lt (Nat.lt_of_lt_of_le (Heap.lt_size e) hp)
 refine I.step (g':=s.gens) (d':=s.drawn) (ch:=ch) (fun b hb=>⟨(Aj b hb).2.2.2.1,(Aj b hb).2.1,(Aj b hb).2.2.2.2.1,(Aj b hb).2.2.2.2.2⟩) (fun b o _ _ hc e _=>k b o hc e) (fun b o _ _ hc e _=>⟨o.slots,k b o hc e⟩) (fun b o _ e n=>by rw[ag (nea b o e)];exact n)
   (fun b o hc e=>⟨o,k b o hc e⟩) (fun b xs e=>by rw[ag (av e hn)];exact e) (fun b o u e=>by rw[ag (av e hn)];exact e) (fun b ps e=>⟨#[],by rw[ag (av e hn),e];simp⟩) (fun m hm=>?_) (fun b u e=>?_) I.bare
 . obtain⟨o,es,ep,ho,r⟩:=hm
   exact⟨o,es,ep,k _ o (fun z=>(Aj _ z).2.1 rfl) ho,r⟩
 . by_cases hb:b=a
   . subst hb;rw[ak] at e;cases e;exact new
   . rw[ag hb] at e
     refine(I.bH b u e).yt (fun c v hc q=>k c v ?_ q) (fun c q=>by rw[ag (av q hn)];exact q) (fun c xs q=>by rw[ag (av q hn)];exact q) (.of fun c u q=>by rw[ag (av q hn)];exact q)
     rcases hc with z | z | z
     . rw[z];exact Sl b u e
     . exact Sl c _ z
     . exact fun z'=>by rw[(Aj c z').1] at z;exact z
end
noncomputable def Zn (K:PySem.W.Frag)(a:Addr):It:=
 ⟨fun i H=>∃ xs x,oe K H a xs/\xs[i]?=some x,fun i H v H'=>∃ p x,v=.ref p/\H p=none/\H'=upd H p (.tup [.int i,x])/\∀ xs,oe K H a xs->xs[i]?=some x,fun i H=>∃ xs,oe K H a xs/\xs.length<=i⟩
theorem F0 {P:Program}{w:World}{K:W.Frag}{elts:List Expr}{kt:Nat}{yz:Pos}(a e it:Addr)(R4:e≠it):Turn P w K (.Tuple elts kt yz) (Zn K a) [e,it] e (fun i h=>(∃ old,IsEnum h e it i old)/\h.IsListIter it a i) where
 mem:=by simp
 obj:=fun i h st b hb=>by
   obtain⟨⟨old,he⟩,o,e2,c,d⟩:=st
   rcases List.mem_cons.mp hb with rfl | hb
   . exact⟨_,he,fun v z=>by cases z⟩
   . have:b=it:=by simpa using hb
     subst this
     exact⟨o,e2,fun v z=>by rw[d] at z;cases z⟩
 keep:=fun i h h' st k=>by
   obtain⟨⟨old,he⟩,hit⟩:=st
   exact⟨⟨old,k e (by simp) _ he⟩,hit.at fun o x=>k it (by simp) o x⟩
 item:=by
   intro X hP hw hK hc i pins s σ H E I hf st hg
   subst hP hw hK
   obtain⟨xs,x,hq,hx⟩:=hg
   obtain⟨aG,rv,p,hz⟩:=I.list hq
   obtain⟨u,hu,ru⟩:=rv.get hx
   obtain⟨⟨old,he⟩,hit⟩:=st
   have TY:e < s.heap.objs.size:=Heap.lt_size he
   have VO:it < s.heap.objs.size:=by obtain⟨_,z,_⟩:=hit;exact Heap.lt_size z
   refine wpAny_pyNext_enum_item he hit p.isList (x:=u) (by simpa using hu) R4 fun h1 ho P5 hT hsz hk=>?_
   refine⟨_,rfl,wpAny_letOwnedTupleGo_enum ho fun h2 TZ AE=>?_⟩
   have Xa:h2.get? s.heap.objs.size=some { cls:=.type "tuple",data:=.seq #[.int i s.toks,u]}:=(AE.2 _ (Nat.ne_of_gt TY)).trans hT
   have k2:∀ b o,b ∉ [e,it]->s.heap.get? b=some o->h2.get? b=some o:=fun b o hb q=>(AE.2 b fun z=>hb (by simp[z])).trans (hk b o (fun z=>hb (by simp[z])) (fun z=>hb (by simp[z])) q)
   have hp:H s.heap.objs.size=none:=I.bH.fresh (Nat.le_refl _)
   have I2:L2.Inv X pins σ (upd H s.heap.objs.size (.tup [.int i,x])) { s with heap:=h2,toks:=s.toks+1}:=Bf I hf k2 (Nat.le_refl _) ⟨Nat.le_of_ble_eq_true rfl,[.int i s.toks,u],.cons ⟨_,rfl⟩ (.cons ru .nil),_,Xa,rfl,_,rfl⟩
   refine⟨.ref s.heap.objs.size,_,I2,rfl,⟨_,x,rfl,hp,rfl,fun ys hy=>by rw[I.Az hy hq];exact hx⟩,⟨⟨u,by simpa using TZ⟩,P5.at fun o z=>(AE.2 it (Ne.symm R4)).trans z⟩,fun b hb=>?_⟩
   have:b≠s.heap.objs.size:=by
     rcases List.mem_cons.mp hb with rfl | hb
     . exact Nat.ne_of_lt TY
     . have:b=it:=by simpa using hb
       subst this
       exact Nat.ne_of_lt VO
   rw[ag this]
   exact(hf b hb).1
 done:=by
   intro X hP hw hK hc i pins s σ H E I hf st hg
   subst hP hw hK
   obtain⟨xs,hq,hx⟩:=hg
   obtain⟨aG,rv,p,hz⟩:=I.list hq
   obtain⟨⟨old,he⟩,hit⟩:=st
   obtain⟨f0,f1,f2,f3,f4,f5⟩:=hf it (by simp)
   have hl:=rv.length
   exact wpAny_pyNext_enum_end (I.ok.hd hc) he hit p.isList (by simp;omega) fun h' eb=>⟨rfl,I.turned (t':=s.toks) (fun b o hb q=>eb b o hb q) f0 f1 f3 f4 f5⟩
 self:=fun _ i s Q E st h=>by
   obtain⟨⟨old,he⟩,_⟩:=st
   exact wpAny_pyIter_enum he h
theorem boot_enumerate:bootBuiltins "enumerate"=some (.type "enumerate"):=by decide +kernel
section
variable {X:Cx}{G:Gr}{dl:List Slot}{a:Expr}{xs:List Dt}{p pos:Pos}
noncomputable def N8 (K:W.Frag)(ta:TA):TI:=fun σ H R=>ta σ H fun vs H1=>∃ a,vs=[.ref a]/\(∃ xs,oe K H1 a xs)/\R (Zn K a) H1
theorem Ef {elts:List Expr}{kt:Nat}{yz:Pos}{ta:TA}(hg:Gl X "enumerate")(hm:X.mg "enumerate"=none)(ha:PA X [a] ta)(hs:starEach [a] X.env=[(false,eval a X.env)]:=by rfl):PI X (.Tuple elts kt yz) (.Call (.Name "enumerate" p) [a] [] pos) (N8 X.K ta):=by
 intro pins s σ H R I h
 refine Call_ (rN I hg hm boot_enumerate (PyProof.Rows.callWith_type1 (b7 (ha pos pins s σ H _ I h) fun us s1 ⟨vs,H1,I1,r1,q1⟩=>?_) hs rfl))
 obtain⟨l,e,⟨xs,hq⟩,q⟩:=q1
 subst e
 cases r1 with
 | cons r rr=>
   cases rr
   cases r
   obtain⟨aG,rv,pl,hz⟩:=I1.list hq
   refine call_enumerate_list pl.isList fun h' he hit hsz k=>wpAny_pyIter_enum he ?_
   have I2:L2.Inv X pins σ H1 { s1 with heap:=h'}:=I1.kept (t':=s1.toks) k
   refine⟨s1.heap.objs.size+1,[s1.heap.objs.size+1,s1.heap.objs.size],_,_,H1,rfl,I2,F0 l _ s1.heap.objs.size (Nat.succ_ne_self _),⟨⟨_,he⟩,hit⟩,fun b hb=>?_,q⟩
   have PH:s1.heap.objs.size<=b:=by
     rcases List.mem_cons.mp hb with rfl | hb
     . exact Nat.le_succ _
     . have:b=s1.heap.objs.size:=by simpa using hb
       rw[this];exact Nat.le_refl _
   exact I1.uW PH (I1.bH.fresh PH)
noncomputable def tF (xs:List Dt):List Dt:=(List.range xs.length).map fun(k:Nat)=>.tup [.int k,xs.getD k .c9]
theorem xZ:sk X G dl (tF xs) (N8 X.K (Tn X.K G dl [.lst xs])):=fun st H R ⟨Hf,S,k⟩=>⟨Hf,S,fun vs aw H1 g1 r1=>by
 cases r1 with
 | cons r t=>
   cases t
   cases r with
   | @lst q vs _ hq rp=>
     have hl:=rp.length
     refine⟨q,rfl,⟨vs,.of (g1.sub _ _ hq)⟩,k _ aw H1 g1 fun bZ H2 s1 s2 i=>⟨fun z hz=>?_,fun hi=>⟨vs,.of (s2 _ _ (s1 _ _ hq)),by unfold tF at hi;rw[List.length_map,List.length_range] at hi;omega⟩⟩⟩
     have hi:i < xs.length:=by
       have:=(List.getElem?_eq_some_iff.mp hz).1
       unfold tF at this
       simpa using this
     unfold tF at hz
     rw[List.getElem?_map,List.getElem?_range hi] at hz
     cases hz
     have hx:xs[i]?=some (xs.getD i .c9):=by rw[List.getD_eq_getElem?_getD,List.getElem?_eq_getElem hi];rfl
     obtain⟨u,z1,z2⟩:=rp.get hx
     have hs:oe X.K H2 q vs:=.of (s2 _ _ (s1 _ _ hq))
     refine⟨⟨vs,u,hs,z1⟩,fun v H3 hy=>?_⟩
     obtain⟨pt,x,rfl,hn,rfl,e2⟩:=hy
     have e2:=e2 vs hs
     rw[z1] at e2;cases e2
     have g3:bh bZ H2 (upd bZ pt (.tup [.int i,u])) (upd H2 pt (.tup [.int i,u])):=.alloc s2 hn
     exact⟨_,g3,.tup (.inl ak) (.cons (.int _) (.cons ((z2.mono s1).mono g3.bw) .nil))⟩⟩
end
section
noncomputable def noOwn:List Slot->Bool
 | []=>true
 | .own _::_=>false
 | _::r=>noOwn r
theorem aV:∀ {dl:List Slot},noOwn dl=true->∀ (j:Nat) o,dl[j]?≠some (.own o)
 | [],_,j,o,h=>by simp at h
 | .val d::r,q,0,o,h=>by simp at h
 | .aL::r,q,0,o,h=>by simp at h
 | .val d::r,q,j+1,o,h=>aV (dl:=r) q j o (by simpa using h)
 | .aL::r,q,j+1,o,h=>aV (dl:=r) q j o (by simpa using h)
end
section
variable {X:Cx}{G:Gr}{dl:List Slot}{e:Expr}{x:Str}{i j:Int}{pos p2:Pos}{lo hi:Option Expr}{l u:Option Int}
theorem P6:WH X (fun x lo hi H Q=>∃ z:Str,x=.str z/\z.length<=sizeLine/\Q (.str (Txt.slice z lo hi)) H):=by
 intro pins s σ H x v vl vu lo hi sl Q I rx hs pl pu h
 obtain⟨z,rfl,hz,q⟩:=h
 obtain⟨t,rfl⟩:=(show ∃ t,v=Value.str z t from rx)
 obtain⟨o,h1,h2,h3⟩:=hs
 refine⟨"str",_,F.slot_str_getitem.lookup,typeIs_str _ _ _,?_⟩
 cases pl with
 | none=>
   cases pu with
   | none=>exact wpAny_getItem_str_slice (l:=none) (u:=none) (st:=none) ⟨o,h1,h2,h3⟩ rfl (post_val_or_str ⟨Nat.le_trans (Txt.slice_le z _ _) hz,fun t' k=>⟨.str (Txt.slice z _ _),H,I.tok _,⟨t',rfl⟩,q⟩⟩)
   | int j uj=>exact wpAny_getItem_str_slice (l:=none) (u:=some (j,uj)) (st:=none) ⟨o,h1,h2,h3⟩ rfl (post_val_or_str ⟨Nat.le_trans (Txt.slice_le z _ _) hz,fun t' k=>⟨.str (Txt.slice z _ _),H,I.tok _,⟨t',rfl⟩,q⟩⟩)
 | int i ui=>
   cases pu with
   | none=>exact wpAny_getItem_str_slice (l:=some (i,ui)) (u:=none) (st:=none) ⟨o,h1,h2,h3⟩ rfl (post_val_or_str ⟨Nat.le_trans (Txt.slice_le z _ _) hz,fun t' k=>⟨.str (Txt.slice z _ _),H,I.tok _,⟨t',rfl⟩,q⟩⟩)
   | int j uj=>exact wpAny_getItem_str_slice (l:=some (i,ui)) (u:=some (j,uj)) (st:=none) ⟨o,h1,h2,h3⟩ rfl (post_val_or_str ⟨Nat.le_trans (Txt.slice_le z _ _) hz,fun t' k=>⟨.str (Txt.slice z _ _),H,I.tok _,⟨t',rfl⟩,q⟩⟩)
noncomputable def Xb (K:W.Frag)(G:Gr)(dl:List Slot)(o:Option Int):TO:=fun st H Q=>∃ Hf,d7 K G st Hf H dl/\∀ aH H',bh Hf H aH H'->Q o H'
noncomputable abbrev VP (X:Cx)(G:Gr)(dl:List Slot)(e:Option Expr)(o:Option Int):Prop:=PO X e (Xb X.K G dl o)
theorem Zo {e:Option Expr}{t t':TO}(h:PO X e t)(i:∀ st H Q,t' st H Q->t st H Q):PO X e t':=fun pins s st H Q I q=>h pins s st H Q I (i st H Q q)
theorem Io:VP X G dl none none:=Zo DS fun st H Q ⟨Hf,S,k⟩=>k Hf H (.refl S.sub)
theorem Eg (h:EE X G dl e (.int i)):VP X G dl (some e) (some i):=Zo (DT h) fun st H Q ⟨Hf,S,k⟩=>⟨Hf,S,fun v aw H1 g1 r1=>by cases r1;exact⟨i,rfl,k aw H1 g1⟩⟩
theorem Ip (he:EE X G dl e (.str x))(hl:VP X G dl lo l)(hu:VP X G dl hi u)(hx:x.length<=sizeLine):EE X G dl (.Subscript e (.Slice lo hi none p2) pos) (.str (Txt.slice x l u)):=
 iW (AJ P6 he hl hu) fun st H Q ⟨Hf,S,k⟩=>⟨Hf,S,fun v aw H1 g1 r1=>⟨aw,S.grow g1,fun bZ H2 g2=>⟨bZ,(S.grow g1).grow g2,fun ko H3 g3=>by
   cases r1
   exact⟨x,rfl,hx,k _ ko H3 ((g1.trans g2).trans g3) (.str _)⟩⟩⟩⟩
end
noncomputable def Zp (x:Str):It:=⟨fun i H=>∃ c,x.cps[i]?=some c,fun i H v H'=>H'=H/\∃ c,x.cps[i]?=some c/\v=.str ⟨#[c]⟩,fun i H=>x.cps[i]?=none⟩
theorem Iq {P:Program}{w:World}{K:W.Frag}{tg:Expr}(x:Str)(t:Tok)(it:Addr):Turn P w K tg (Zp x) [it] it (fun i h=>h.IsStrIter it "str_ascii_iterator" x t i) where
 mem:=by simp
 obj:=fun i h st b hb=>by
   have e:b=it:=by simpa using hb
   subst e
   obtain⟨o,e,c,d⟩:=st
   exact⟨o,e,fun v z=>by rw[d] at z;cases z⟩
 keep:=fun i h h' st k=>let ⟨o,e,c,d⟩:=st;⟨o,k it (by simp) o e,c,d⟩
 item:=by
   intro X hP hw hK hc i pins s σ H E I hf st hg
   subst hP hw hK
   obtain⟨c,hx⟩:=hg
   obtain⟨f0,f1,f2,f3,f4,f5⟩:=hf it (by simp)
   refine wpAny_pyNext_ascii_item st hx fun h' jC sb=>?_
   have I1:L2.Inv X pins σ H { s with heap:=h',toks:=s.toks+1}:=I.turned (t':=s.toks+1) (fun b o hb e=>(sb.2 b hb).trans e) f0 f1 f3 f4 f5
   obtain⟨o,e,cc,d⟩:=id jC
   exact⟨_,rfl,AB (s:={ s with heap:=h',toks:=s.toks+1}) e cc d (by decide) ⟨.str ⟨#[c]⟩,H,I1,⟨_,rfl⟩,⟨rfl,c,hx,rfl⟩,jC,fun b hb=>(hf b hb).1⟩⟩
 done:=by
   intro X hP hw hK hc i pins s σ H E I hf st hg
   subst hP hw hK
   obtain⟨f0,f1,f2,f3,f4,f5⟩:=hf it (by simp)
   exact wpAny_pyNext_ascii_end (I.ok.hd hc) st hg fun h' eb=>⟨rfl,I.turned (t':=s.toks) (fun b o hb e=>eb b o hb e) f0 f1 f3 f4 f5⟩
 self:=fun _ _ _ _ _ st h=>wpAny_pyIter_striter_ascii st h
noncomputable def jG (x:Str):Bool:=x.cps.all (· < 128)
noncomputable def signs (x:Str):List Dt:=x.cps.toList.map fun c=>.str ⟨#[c]⟩
section
variable {X:Cx}{G:Gr}{dl:List Slot}{a b c e:Expr}{x y z:Str}{pos:Pos}{i j k:Int}{u v:Bool}
noncomputable def T1 (ta:TE):TI:=fun σ H R=>ta σ H fun v H1=>∃ x,v=.str x/\jG x=true/\R (Zp x) H1
theorem gu {tg:Expr}{ta:TE}(ha:PE X a ta):PI X tg a (T1 ta):=by
 intro pins s σ H R I h
 refine b7 (ha pins s σ H _ I h) fun v s1 ⟨w,H1,I1,r1,q1⟩=>?_
 obtain⟨x,e,hx,q⟩:=q1
 subst e
 obtain⟨t,rfl⟩:=(show ∃ t,v=Value.str x t from r1)
 refine wpAny_pyIter_ascii hx ?_
 refine⟨s1.heap.objs.size,[s1.heap.objs.size],_,_,H1,rfl,I1.kept (t':=s1.toks) fun b o e=>Heap.get?_push_of_some _ e,Iq x t _,⟨_,Heap.get?_push_size _ rfl,rfl,rfl⟩,fun b hb=>?_,q⟩
 have e:b=s1.heap.objs.size:=by simpa using hb
 subst e
 exact I1.uW (Nat.le_refl _) (I1.bH.fresh (Nat.le_refl _))
theorem signs_get (x:Str)(i:Nat):(signs x)[i]?=(x.cps[i]?).map fun c=>.str ⟨#[c]⟩:=by
 unfold signs
 rw[List.getElem?_map,Array.getElem?_toList]
theorem pv (x:Str):(signs x).length=x.length:=by
 unfold signs
 rw[List.length_map,Array.length_toList];rfl
theorem cF (hx:jG x=true):sk X G dl (signs x) (T1 (tD X.K G dl (.str x))):=fun st H R ⟨Hf,S,k⟩=>⟨Hf,S,fun v aw H1 g1 r1=>by
 cases r1
 refine⟨x,rfl,hx,k _ aw H1 g1 fun bZ H2 s1 s2 i=>⟨fun z hz=>?_,fun hi=>?_⟩⟩
 . rw[signs_get] at hz
   cases q:x.cps[i]? with
   | none=>rw[q] at hz;cases hz
   | some c=>
     rw[q] at hz
     cases hz
     refine⟨⟨c,q⟩,fun v H3 ⟨e1,c',e2,e3⟩=>?_⟩
     rw[q] at e2;cases e2
     subst e1 e3
     exact⟨bZ,.refl s2,.str _⟩
 . show x.cps[i]?=none
   rw[hi,pv]
   exact Array.getElem?_size_le (Nat.le_refl _)⟩
theorem x3:pV X (compareOp .LtE) (fun x y H Q=>∃ i j,x=.str i/\y=.str j/\Q (.bl (!decide (j.cps.toList < i.cps.toList))) H):=by
 intro pins s σ H x y v u Q I rx ry h
 obtain⟨i,j,rfl,rfl,q⟩:=h
 obtain⟨t,rfl⟩:=rx
 obtain⟨t',rfl⟩:=ry
 exact P.le_str (bL I q rfl)
noncomputable def P7 (x y:Str):Bool:=!decide (y.cps.toList < x.cps.toList)
theorem Ir {K:W.Frag}:Cz K (fun x y H Q=>∃ i j,x=.str i/\y=.str j/\Q (.bl (!decide (j.cps.toList < i.cps.toList))) H) (.str x) (.str y) (.bl (P7 x y)):=fun v w Hf H Q s r1 r2 k=>by
 cases r1;cases r2;exact⟨x,y,rfl,rfl,k _ Hf H (.refl s) (.bl _)⟩
variable {d1 d2 d3:Dt}
theorem Bg {op Pb:CmpOp}{r r':R2}(ho:pV X (compareOp op) r)(G7:pV X (compareOp Pb) r')(h1:Cz X.K r d1 d2 (.bl u))(h2:Cz X.K r' d2 d3 (.bl v))(ha:EE X G dl a d1)(hb:EE X G dl b d2)(hc:EE X G dl c d3)(hm:lastMarks [op,Pb] [b,c]=false:=by with_unfolding_all rfl):EE X G dl (.Compare a [op,Pb] [b,c] pos) (.bl (u && v)):=
 iW (Hm ho G7 ha hb hc hm) fun st H Q ⟨Hf,S,k⟩=>⟨Hf,S,fun x aw H1 g1 r1=>⟨aw,S.grow g1,fun y bZ H2 g2 r2=>h1 x y bZ H2 _ g2.sub (r1.mono g2.bw) r2 fun z ko H3 g3 r3=>by
   cases r3
   refine⟨u,rfl,?_⟩
   cases u with
   | false=>exact AU (k _ ko H3 ((g1.trans g2).trans g3) (.bl _))
   | true=>exact AV ⟨ko,((S.grow g1).grow g2).grow g3,fun w K9 H4 g4 r4=>h2 y w K9 H4 Q g4.sub (r2.mono (g3.bw.trans g4.bw)) r4 fun q wO H5 g5 r5=>k q wO H5 ((((g1.trans g2).trans g3).trans g4).trans g5) r5⟩⟩⟩
theorem Iu (ha:EE X G dl a (.str x))(hb:EE X G dl b (.str y))(hc:EE X G dl c (.str z))(hm:lastMarks [.LtE,.LtE] [b,c]=false:=by with_unfolding_all rfl):EE X G dl (.Compare a [.LtE,.LtE] [b,c] pos) (.bl (P7 x y && P7 y z)):=Bg x3 x3 Ir Ir ha hb hc hm
theorem Iv (ha:EE X G dl a (.int i))(hb:EE X G dl b (.int j))(hc:EE X G dl c (.int k))(hm:lastMarks [.LtE,.LtE] [b,c]=false:=by with_unfolding_all rfl):EE X G dl (.Compare a [.LtE,.LtE] [b,c] pos) (.bl (decide (i<=j) && decide (j<=k))):=
 Bg Hl Hl (qQ (g':=fun i j=>.bl (decide (i<=j))) fun _ _ _ _=>.bl _) (qQ (g':=fun i j=>.bl (decide (i<=j))) fun _ _ _ _=>.bl _) ha hb hc hm
end
section
variable {X:Cx}{G:Gr}{dl:List Slot}{a b e:Expr}{pos p apos bY:Pos}{k x:Str}{xs:List Str}{bs:List Bool}{ns:List Int}{hi:Option Expr}{l u:Option Int}
theorem Iw {neg:Bool}:Cz X.K (VA X.K neg) (.str k) (.lst (xs.map .str)) (.bl (if neg then !decide (k∈xs) else decide (k∈xs))):=fun v w Hf H Q s r1 r2 kk=>by
 cases r1
 cases r2 with
 | @lst q vs _ hq rp=>
   have ev:=pq rp
   subst ev
   refine⟨q,_,rfl,.inl (.of (s _ _ hq)),rfl,xY xs,?_⟩
   rw[vw]
   exact kk _ Hf H (.refl s) (.bl _)
theorem P8 (ha:EE X G dl a (.str k))(hb:EE X G dl b (.lst (xs.map .str)))(hm:behindInMarks .In b=false:=by rfl):EE X G dl (.Compare a [.In] [b] pos) (.bl (decide (k∈xs))):=rZ xN (Iw (neg:=false)) hm ha hb
theorem L8 (ha:EE X G dl a (.str k))(hb:EE X G dl b (.lst (xs.map .str)))(hm:behindInMarks .NotIn b=false:=by rfl):EE X G dl (.Compare a [.NotIn] [b] pos) (.bl (!decide (k∈xs))):=rZ qN (Iw (neg:=true)) hm ha hb
theorem range_all (bs:List Bool):(List.range bs.length).all (fun i=>bs.getD i true)=bs.all id:=by
 induction bs with
 | nil=>rfl
 | cons b r ih=>
   rw[List.length_cons,List.range_succ_eq_map,List.all_cons,List.all_map,List.all_cons]
   show(b && (List.range r.length).all (fun i=>r.getD i true))=(b && r.all id)
   rw[ih]
theorem F1 (hc:X.calm=true):lE X (.builtin "all") (fun xs H Q=>∃ (p:Addr) (bs:List Bool),xs=[.ref p]/\oe X.K H p (bs.map V.bl)/\Q (.bl (bs.all id)) H):=by
 intro pins s σ H xs us Q I r h
 obtain⟨p,bs,rfl,hq,q⟩:=h
 obtain⟨u,rfl,rx⟩:=vals1 r
 cases rx
 obtain⟨aG,rv,pl,hz⟩:=I.list hq
 have hlen:=rv.length
 rw[List.length_map] at hlen
 obtain⟨o,n,ho,_⟩:=id pl
 have hp:p < s.heap.objs.size:=Heap.lt_size ho
 refine call_all_walk (wpAny_pyIter_list pl.isList ?_)
 refine⟨s.heap.objs.size,_,_,_,_,_,fun i=>bs.getD i true,rfl,Walks.list (A:=X.A.in1) (I.ok.hd hc) s.heap.objs.size p (Nat.ne_of_lt hp) aG.toArray,⟨⟨_,Heap.get?_push_size _ rfl,rfl,rfl⟩,?_⟩,fun i v s' Q' E' hv hQ=>?_,fun h' tk hk=>?_⟩
 . exact pl.isList.at fun o e=>Heap.get?_push_of_some _ e
 . have hv:aG[i]?=some v:=by simpa using hv
   have hi:i < aG.length:=(List.getElem?_eq_some_iff.mp hv).1
   have T2:i < bs.length:=by omega
   obtain⟨u',h1,h2⟩:=rv.get (i:=i) (x:=V.bl bs[i]) (by rw[List.getElem?_map,List.getElem?_eq_getElem T2];rfl)
   rw[hv] at h1;cases h1
   cases h2
   have e:bs.getD i true=bs[i]:=by rw[List.getD_eq_getElem?_getD,List.getElem?_eq_getElem T2];rfl
   have hQ:Q' (bs.getD i true) s':=hQ
   rw[e] at hQ
   exact wpAny_truthy_bool hQ
 . have ea:(List.range aG.toArray.size).all (fun i=>bs.getD i true)=bs.all id:=by rw[List.size_toArray,<- hlen];exact range_all bs
   rw[ea]
   refine⟨.bl _,H,I.kept (t':=tk) fun b o e=>hk b o (fun hm=>?_) (Heap.get?_push_of_some _ e),rfl,q⟩
   have:b=s.heap.objs.size:=by simpa using hm
   subst this
   exact Nat.lt_irrefl _ (Heap.lt_size e)
theorem boot_all:bootBuiltins "all"=some (.builtin "all"):=by decide +kernel
theorem Bh {K:W.Frag}{H:Hp}:∀ {bs:List Bool} {vs:List V},bD K H vs (bs.map Dt.bl)->vs=bs.map V.bl
 | [],_,.nil=>rfl
 | b::r,_,.cons h t=>by cases h;rw[Bh t];rfl
theorem yY (hm:X.mg "all"=none)(hc:X.calm=true)(ha:EE X G dl a (.lst (bs.map .bl)))(hg:Gl X "all":=by rfl)(he:starEach [a] X.env=[(false,eval a X.env)]:=by rfl):EE X G dl (.Call (.Name "all" p) [a] [] pos) (.bl (bs.all id)):=
 iW (i8 (F1 hc) hg hm boot_all (ae ha ai he) (by decide) (by decide) he rfl) fun st H Q ⟨Hf,S,k⟩=>⟨Hf,S,fun vs aw H1 g1 r1=>by
   cases r1 with
   | cons r t=>cases t;cases r with
     | @lst q vs _ z r=>
       have ev:=Bh r
       subst ev
       exact⟨q,bs,rfl,.of (g1.sub _ _ z),k _ aw H1 g1 (.bl _)⟩⟩
theorem su (ns:List Int):∀ k,k<=ns.length->preSum (fun i=>ns.getD i 0) k=(ns.take k).sum
 | 0,_=>by simp[preSum]
 | k+1,h=>by
   have hk:k < ns.length:=h
   rw[preSum,su ns k (Nat.le_of_lt hk),List.take_add_one,List.getElem?_eq_getElem hk,List.sum_append,List.getD_eq_getElem?_getD,List.getElem?_eq_getElem hk]
   simp
theorem F2 (hc:X.calm=true):lE X (.builtin "sum") (fun xs H Q=>∃ (p:Addr) (ns:List Int),xs=[.ref p]/\oe X.K H p (ns.map V.int)/\Q (.int ns.sum) H):=by
 intro pins s σ H xs us Q I r h
 obtain⟨p,ns,rfl,hq,q⟩:=h
 obtain⟨u,rfl,rx⟩:=vals1 r
 cases rx
 obtain⟨aG,rv,pl,hz⟩:=I.list hq
 have hlen:=rv.length
 rw[List.length_map] at hlen
 obtain⟨o,n,ho,_⟩:=id pl
 have hp:p < s.heap.objs.size:=Heap.lt_size ho
 refine call_sum_walkAnyS (wpAny_pyIter_list pl.isList ?_)
 refine⟨s.heap.objs.size,_,_,_,_,_,_,fun i=>ns.getD i 0,rfl,(Walks.list (A:=X.A.in1) (I.ok.hd hc) s.heap.objs.size p (Nat.ne_of_lt hp) aG.toArray).toS,⟨⟨_,Heap.get?_push_size _ rfl,rfl,rfl⟩,?_⟩,fun b hb=>?_,fun i v hv=>?_,fun s' t' hm=>?_⟩
 . exact pl.isList.at fun o e=>Heap.get?_push_of_some _ e
 . have hsz:(s.heap.push { cls:=.type "list_iterator",data:=.fields #[.ref p,.int 0 0]}).objs.size=s.heap.objs.size+1:=Heap.size_push ..
   show b < (s.heap.push { cls:=.type "list_iterator",data:=.fields #[.ref p,.int 0 0]}).objs.size
   rw[hsz]
   rcases List.mem_cons.mp hb with e | hb
   . rw[e];exact Nat.lt_succ_self _
   . have:b=p:=by simpa using hb
     rw[this];exact Nat.lt_succ_of_lt hp
 . have hv:aG[i]?=some v:=by simpa using hv
   have hi:i < aG.length:=(List.getElem?_eq_some_iff.mp hv).1
   have T2:i < ns.length:=by omega
   obtain⟨u',h1,h2⟩:=rv.get (i:=i) (x:=V.int ns[i]) (by rw[List.getElem?_map,List.getElem?_eq_getElem T2];rfl)
   rw[hv] at h1;cases h1
   obtain⟨t,rfl⟩:=h2
   refine⟨t,?_⟩
   show _=Value.int (ns.getD i 0) t
   rw[List.getD_eq_getElem?_getD,List.getElem?_eq_getElem T2];rfl
 . have ea:preSum (fun i=>ns.getD i 0) aG.toArray.size=ns.sum:=by
     rw[List.size_toArray,<- hlen,su ns _ (Nat.le_refl _),List.take_length]
   rw[ea]
   refine⟨.int _,H,?_,⟨t',rfl⟩,q⟩
   obtain⟨h',g',d',tk,WE⟩:=s'
   have e1:g'=s.gens:=hm.gens
   have e2:d'=s.drawn:=hm.drawn
   have e3:WE=s.os:=hm.os
   subst e1 e2 e3
   refine I.kept (t':=tk) fun b o e=>hm.heap b o (fun z=>?_) (Heap.get?_push_of_some _ e)
   have:b=s.heap.objs.size:=by simpa using z
   subst this
   exact Nat.lt_irrefl _ (Heap.lt_size e)
theorem boot_sum:bootBuiltins "sum"=some (.builtin "sum"):=by decide +kernel
theorem vx {K:W.Frag}{H:Hp}:∀ {ns:List Int} {vs:List V},bD K H vs (ns.map Dt.int)->vs=ns.map V.int
 | [],_,.nil=>rfl
 | b::r,_,.cons h t=>by cases h;rw[vx t];rfl
theorem sv (hm:X.mg "sum"=none)(hc:X.calm=true)(ha:EE X G dl a (.lst (ns.map .int)))(hg:Gl X "sum":=by rfl)(he:starEach [a] X.env=[(false,eval a X.env)]:=by rfl):EE X G dl (.Call (.Name "sum" p) [a] [] pos) (.int ns.sum):=
 iW (i8 (F2 hc) hg hm boot_sum (ae ha ai he) (by decide) (by decide) he rfl) fun st H Q ⟨Hf,S,k⟩=>⟨Hf,S,fun vs aw H1 g1 r1=>by
   cases r1 with
   | cons r t=>cases t;cases r with
     | @lst q vs _ z r=>
       have ev:=vx r
       subst ev
       exact⟨q,ns,rfl,.of (g1.sub _ _ z),k _ aw H1 g1 (.int _)⟩⟩
theorem x4:∀ {xs:List Str} {us:List Value},Vals (xs.map V.str) us->∃ l:List (Str×Tok),us=strValues l/\l.map (·.1)=xs
 | [],_,.nil=>⟨[],rfl,rfl⟩
 | x::r,_,.cons h t=>by
   obtain⟨tk,rfl⟩:=h
   obtain⟨l,rfl,e⟩:=x4 t
   exact⟨(x,tk)::l,rfl,by rw[List.map_cons,e]⟩
theorem L9:RW X "str.join" (fun x xs H Q=>∃ (z:Str) (p:Addr) (ys:List Str),x=.str z/\xs=[.ref p]/\oe X.K H p (ys.map V.str)/\JoinOk z ys=true/\Q (.str (Txt.join z ys)) H):=by
 intro pins s σ H x xs v us Q I rx rv ⟨z,p,ys,e1,e2,hq,bH,q⟩
 subst e1 e2
 obtain⟨t,rfl⟩:=(show ∃ t,v=Value.str z t from rx)
 obtain⟨u,rfl,ru⟩:=vals1 rv
 cases ru
 obtain⟨aG,r,pl,hz⟩:=I.list hq
 obtain⟨l,rfl,el⟩:=x4 r
 exact SC.join pl.isList el bH fun t' k=>⟨.str (Txt.join z ys),H,I.tok _,⟨t',rfl⟩,q⟩
theorem Ma (ha:EE X G dl a (.str x))(he:EE X G dl e (.lst (xs.map .str)))(bH:JoinOk x xs=true)(kf:attributeBase a "join" X.env (eval a X.env)=eval a X.env:=by rfl)
   (va:((backTo bY (starEach [e] X.env)).all (fun x=>!x.1) && (backToKw bY (keywordEach [] X.env)).all (fun x=>x.1.isSome) && decide ([e].length+([]:List Keyword).length+(if ([]:List Keyword).isEmpty then 0 else 1) < 30))=true:=by rfl)
   (kg:(apos.endLine == bY.line)=true:=by rfl) (qm:starEach [e] X.env=(false,eval e X.env)::starEach [] X.env:=by rfl):EE X G dl (.Call (.Attribute a "join" apos) [e] [] bY) (.str (Txt.join x xs)):=
 iW (u9 PySem.F.plainAttrs_str PySem.F.slot_str_join PySem.F.type_str_join L9 ha (ae he ai qm) kf va kg qm rfl) fun st H Q ⟨Hf,S,k⟩=>⟨Hf,S,fun v aw H1 g1 r1=>by
   cases r1
   refine⟨rfl,aw,S.grow g1,fun us bZ H2 g2 r2=>?_⟩
   cases r2 with
   | cons r2 t2=>cases t2;cases r2 with
     | @lst q vs _ hq rp=>
       have ev:=pq rp
       subst ev
       exact⟨x,q,xs,rfl,rfl,.of (g2.sub _ _ hq),bH,k _ bZ H2 (g1.trans g2) (.str _)⟩⟩
end
noncomputable def lG (kds:List (Key×Dt))(k:Key):Option Dt:=(kds.find? fun kv=>decide (kv.1=k)).map (·.2)
theorem qX {p:Key×Dt}{r:List (Key×Dt)}{k:Key}(e:p.1=k):lG (p::r) k=some p.2:=by simp[lG,List.find?_cons,e]
theorem oJ {p:Key×Dt}{r:List (Key×Dt)}{k:Key}(e:¬ p.1=k):lG (p::r) k=lG r k:=by simp[lG,List.find?_cons,e]
theorem cW.val {K:W.Frag}{H:Hp}{k:Key}:∀ {kvs:List (Key×V)} {kds:List (Key×Dt)} {d:Dt},cW K H kvs kds->lG kds k=some d->∃ v,og kvs k=some v/\Rep K H v d
 | _,_,_,.nil,e=>by cases e
 | (k1,v1)::r,(_,d1)::s,d,.cons h t,e=>by
   by_cases q:k1=k
   . rw[qX (p:=(k1,d1)) q] at e;cases e
     exact⟨v1,oE (p:=(k1,v1)) q,h⟩
   . rw[oJ (p:=(k1,d1)) q] at e
     obtain⟨v,z1,z2⟩:=cW.val t e
     exact⟨v,by rw[mC (p:=(k1,v1)) q];exact z1,z2⟩
theorem cW.x5 {K:W.Frag}{H:Hp}{k:Key}:∀ {kvs:List (Key×V)} {kds:List (Key×Dt)},cW K H kvs kds->(og kvs k).isSome=(lG kds k).isSome
 | _,_,.nil=>rfl
 | (k1,v1)::r,(_,d1)::s,.cons h t=>by
   by_cases q:k1=k
   . rw[oE (p:=(k1,v1)) q,qX (p:=(k1,d1)) q];rfl
   . rw[mC (p:=(k1,v1)) q,oJ (p:=(k1,d1)) q]
     exact cW.x5 t
theorem cW.snoc {K:W.Frag}{H:Hp}{k:Key}{v:V}{d:Dt}(q:Rep K H v d):∀ {kvs:List (Key×V)} {kds:List (Key×Dt)},cW K H kvs kds->cW K H (kvs ++ [(k,v)]) (kds ++ [(k,d)])
 | _,_,.nil=>.cons q .nil
 | _,_,.cons h t=>.cons h (cW.snoc q t)
theorem Eh {kvs:List (Key×V)}{k:Key}{v:V}(h:(og kvs k).isSome=false):putK kvs k v=kvs ++ [(k,v)]:=by
 unfold putK
 rw[qP,h]
 exact if_neg (by simp)
section
variable {X:Cx}{G:Gr}{E:XK}{dl:List Slot}{a b e i o:Expr}{d:Dt}{pos p:Pos}{k x:Str}{kds:List (Key×Dt)}
theorem yZ (hu:X.A.units+1 < cLine)(ho:EE X G dl o (.dw kds))(hi:EE X G dl i (.str k))(h:lG kds (.inr k)=some d)(hs:HA i):EE X G dl (.Subscript o i pos) d:=
 iW (yH hu ho hi hs) fun st H Q ⟨Hf,S,kk⟩=>⟨Hf,S,fun v aw H1 g1 r1=>⟨aw,S.grow g1,fun w bZ H2 g2 r2=>by
   cases r2
   cases r1 with
   | @dw q kvs _ hq rp=>
     obtain⟨y,z1,z2⟩:=rp.val h
     have e:=rW.k (H:=H2) (k:=.inr k) (g2.big _ _ (g1.sub _ _ hq))
     rw[z1] at e
     exact⟨q,y,rfl,e,kk y bZ H2 (g1.trans g2) (z2.mono g2.bw)⟩⟩⟩
theorem Xc {neg:Bool}:∀ st H Q,tD X.K G dl (.bl (if neg then !(lG kds (.inr k)).isSome else (lG kds (.inr k)).isSome)) st H Q->(if neg then DW (tD X.K G dl (.str k)) (tD X.K G dl (.dw kds)) else WT (tD X.K G dl (.str k)) (tD X.K G dl (.dw kds))) st H Q:=fun st H Q ⟨Hf,S,kk⟩=>by
 cases neg with
 | false=>exact⟨Hf,S,fun v aw H1 g1 r1=>⟨aw,S.grow g1,fun w bZ H2 g2 r2=>by
     cases r1
     cases r2 with
     | @dw q kvs _ hq rp=>exact⟨q,_,rfl,rW.k (k:=.inr k) (g2.sub _ _ hq),by rw[rp.x5];exact kk _ bZ H2 (g1.trans g2) (.bl _)⟩⟩⟩
 | true=>exact⟨Hf,S,fun v aw H1 g1 r1=>⟨aw,S.grow g1,fun w bZ H2 g2 r2=>by
     cases r1
     cases r2 with
     | @dw q kvs _ hq rp=>exact⟨q,_,rfl,rW.k (k:=.inr k) (g2.sub _ _ hq),by rw[rp.x5];exact kk _ bZ H2 (g1.trans g2) (.bl _)⟩⟩⟩
theorem Ei (hu:X.A.units+1 < cLine)(hi:EE X G dl i (.str k))(ho:EE X G dl o (.dw kds))(hm:behindInMarks .NotIn o=false:=by rfl):EB X G dl (.Compare i [.NotIn] [o] pos) (!(lG kds (.inr k)).isSome):=
 RY (He (xQ hu hi ho) hm) fun st H Q ⟨Hf,S,kk⟩=>Xc (neg:=true) st H _ ⟨Hf,S,fun v aH H' g r=>by cases r;exact⟨_,rfl,kk aH H' g⟩⟩
theorem Bi:bootBuiltins "tuple"=some (.type "tuple"):=by decide +kernel
theorem Mb {ds:List Dt}(hm:X.mg "tuple"=none)(ha:EE X G dl a (.tup ds))(hg:Gl X "tuple":=by rfl)(he:starEach [a] X.env=[(false,eval a X.env)]:=by rfl):EE X G dl (.Call (.Name "tuple" p) [a] [] pos) (.tup ds):=
 iW (mB AL hg hm Bi (ae ha ai he) (he:=he)) fun st H Q ⟨Hf,S,k⟩=>⟨Hf,S,fun vs aw H1 g1 r1=>by
   cases r1 with
   | cons r t=>cases t;cases r with
     | @tup q vs _ z r=>exact⟨q,vs,rfl,gk g1.sub z,k _ aw H1 g1 (.tup z r)⟩⟩
theorem zb:EO X G dl (.Dict [] [] pos) (.dw []):=iW AR fun st H Q ⟨Hf,S,k⟩=>fun p hp=>k p Hf _ (.fU S.sub hp) hp (S.sub.free hp) ⟨[],ak,.nil⟩
noncomputable def tG (kds:List (Key×Dt))(k:Key)(v:Dt):List (Key×Dt):=
 if (lG kds k).isSome=true then kds.map (fun kv=>if kv.1=k then (kv.1,v) else kv) else kds ++ [(k,v)]
theorem cW.map_put {K:W.Frag}{H:Hp}{k:Key}{v:V}{d:Dt}(q:Rep K H v d):∀ {kvs:List (Key×V)} {kds:List (Key×Dt)},cW K H kvs kds ->
   cW K H (kvs.map fun kv=>if kv.1=k then (kv.1,v) else kv) (kds.map fun kv=>if kv.1=k then (kv.1,d) else kv)
 | _,_,.nil=>.nil
 | (k1,v1)::r,(_,d1)::s,.cons h t=>by
   rw[List.map_cons,List.map_cons]
   by_cases e:k1=k
   . rw[if_pos e,if_pos e];exact .cons q (cW.map_put q t)
   . rw[if_neg e,if_neg e];exact .cons h (cW.map_put q t)
theorem cW.put {K:W.Frag}{H:Hp}{k:Key}{v:V}{d:Dt}{kvs:List (Key×V)}{kds:List (Key×Dt)}(q:Rep K H v d)(r:cW K H kvs kds):cW K H (putK kvs k v) (tG kds k d):=by
 unfold putK tG
 rw[qP,r.x5]
 by_cases h:(lG kds k).isSome=true
 . rw[if_pos h,if_pos h];exact cW.map_put q r
 . rw[if_neg h,if_neg h];exact cW.snoc q r
theorem zc (n:Nat){ps pn:Pos}(hu:X.A.units+1 < cLine)(he:EE X G dl e d)(hb:EE X G dl b (.str k))(hl:kds.length < sizeLine)(hd:dl[n]?=some (.own (.dw kds)):=by rfl)(hN:X.N[n]?=some x:=by rfl)(hv:uU X.env.scope x:=by first | exact Or.inl rfl | exact Or.inr (Or.inl rfl) | exact Or.inr (Or.inr rfl))(mR:(x == ("__debug__":Str))=false:=by decide)(my:(x == ("__classdict__":Str))=false:=by decide)(hs:swapsWith e (some (.Subscript (.Name x pn) b ps)) pos.line X.env=pure false:=by rfl):ES X G E dl (.Assign [.Subscript (.Name x pn) b ps] e pos) (.nx (dl.set n (.own (.dw (tG kds (.inr k) d))))):=
 uf (DX hu (vo (p:=pn) n hd hN hv mR my) hb he hs) fun D st H ⟨Hf,S,kk⟩=>⟨Hf,S,fun v aw H1 g1 r1=>by
   have S1:=S.grow g1
   obtain⟨q,z1,z2,z3,z4⟩:=S1.own n _ hd
   refine⟨aw,q,S1,z1,z2,z4,aw,S1,fun iv bZ H2 g2 r2=>?_⟩
   cases r2
   have S2:=S1.grow g2
   obtain⟨q',y1,y2,y3,kvs,y4,y5⟩:=S2.own n _ hd
   rw[z1] at y1;cases y1
   have hll:kvs.length < sizeLine:=by rw[y5.length];exact hl
   exact⟨q,_,rfl,FI.k (k:=.inr k) y4 hll,kk st bZ _ (g1.bw.trans g2.bw) (S2.FP hd z1 ⟨_,ak,y5.put (r1.mono g2.bw)⟩)⟩⟩
noncomputable def qc (rows:List (Str×List Dt)):List (Key×Dt):=rows.map fun r=>(.inr r.1,.tup (.str r.1::r.2))
noncomputable def vy (r:Str×List Dt):Dt:=.tup (.str r.1::r.2)
theorem sx {k:Key}:∀ {kds:List (Key×Dt)},(∀ kv∈kds,kv.1≠k)->lG kds k=none
 | [],_=>rfl
 | kv::r,h=>by
   rw[oJ (h kv (List.mem_cons_self ..))]
   exact sx fun z hz=>h z (List.mem_cons_of_mem _ hz)
theorem Iy {rows:List (Str×List Dt)}(nd:(rows.map (·.1)).Nodup){j:Nat}(hj:j < rows.length):lG (qc (rows.take j)) (.inr rows[j].1)=none:=by
 refine sx fun kv Xd=>?_
 obtain⟨r,hr,rfl⟩:=List.mem_map.mp Xd
 intro z
 have z:r.1=rows[j].1:=Sum.inr.inj z
 obtain⟨i,hi,e⟩:=List.mem_iff_getElem.mp hr
 have Px:i < j:=by
   rw[List.length_take] at hi;omega
 rw[List.getElem_take] at e
 have hij:i < rows.length:=by omega
 have h:=List.pairwise_iff_getElem.mp nd i j (by rw[List.length_map];exact hij) (by rw[List.length_map];exact hj) Px
 rw[List.getElem_map,List.getElem_map] at h
 exact h (by rw[e];exact z)
theorem CO (rows:List (Str×List Dt)){j:Nat}(hj:j < rows.length):qc (rows.take (j+1))=qc (rows.take j) ++ [(.inr rows[j].1,vy rows[j])]:=by
 unfold qc
 rw[List.take_add_one,List.getElem?_eq_getElem hj,List.map_append];rfl
theorem bh.lH {Hf H aH H':Hp}{a:Addr}{u:HO}(g:bh Hf H aH H')(n:Hf a=none)(h:H a=some u)(nk:¬ Kept u:=by exact fun z=>z):aH a=none:=by
 cases q:aH a with
 | none=>rfl
 | some o=>
   obtain⟨o',z⟩:=g.yJ h nk q
   rw[n] at z;cases z
theorem pz {K:W.Frag}{st:L2.St}{Hf H:Hp}{dlu:List Slot}{p:Addr}{o:HO}(S:d7 K G st Hf H dlu)(uh:noOwn dlu=true)(fp:Hf p=none)(gp:G.H p=none):d7 K G st Hf (upd H p o) dlu:=
 ⟨⟨fun b u e=>by rw[ag (av e gp)];exact S.gr.big _ _ e,S.gr.bw,fun b u e=>by rw[ag (av e fp)];exact S.sub _ _ e,S.gr.new⟩,S.len,S.val,fun j o h=>absurd h (aV uh j o),fun j _ o _ _ h=>absurd h (aV uh j o)⟩
theorem Iz (nR nN:Nat){C z:Addr}{fs:List (Str×Dt)}{rows:List (Str×List Dt)}{f self rw_ rn:Str}{px pr pa pn p1 p3 p4 p5 p6 pi:Pos}{ie ve:Expr}{dlu:List Slot}(hu:X.A.units+1 < cLine)(hN:X.N.Nodup)(qS:X.calm=true)(hp:PassesOwn (model X.prog X.w) X.A X.env X.xe)(cl:ue X.K C)(na:bM X.K C f)(hd:dl[0]?=some (.own (.AW z C fs)))(edl:dl.set 0 .aL=dlu)(uh:noOwn dlu=true)(hr:dlu[nR]?=some (.val (.lst (rows.map vy))))(Xe:nN≠0)(hnR:nN≠nR)(hun:dlu[nN]?=some .aL)(nd:(rows.map (·.1)).Nodup)(hlen:rows.length < sizeLine)(hi:∀ r:Str×List Dt,EE X G (dlu.set nN (.val (vy r))) ie (.str r.1))(hv:∀ r:Str×List Dt,EE X G (dlu.set nN (.val (vy r))) ve (vy r))(hl:Nat.ble fs.length 999=true:=by rfl)(R5:X.N[0]?=some self:=by rfl)(hNr:X.N[nR]?=some rn:=by rfl)(Xf:X.N[nN]?=some rw_:=by rfl)(hvs:uU X.env.scope self:=by first | exact Or.inl rfl | exact Or.inr (Or.inl rfl) | exact Or.inr (Or.inr rfl))(hvr:uU X.env.scope rn:=by first | exact Or.inl rfl | exact Or.inr (Or.inl rfl) | exact Or.inr (Or.inr rfl))(mR:(self == ("__debug__":Str))=false:=by decide)(my:(self == ("__classdict__":Str))=false:=by decide)(Xg:(rn == ("__debug__":Str))=false:=by decide)(Xh:(rn == ("__classdict__":Str))=false:=by decide)(hx:Loc X.env.scope rw_:=by first | exact Or.inl rfl | exact Or.inr rfl)(hf:X.fn rw_=true\/X.env.scope.names.lookup rw_=some .local:=by first | exact .inl rfl | exact .inr rfl | assumption)(GS:swapsWith (.Dict [] [] p1) (some (.Attribute (.Name self pn) f pa)) pos.line X.env=pure false:=by rfl)(AE:swapsWith ve (some (.Subscript (.Attribute (.Name self p3) f p4) ie p5)) p6.line X.env=pure false:=by rfl)(hb:attributeBase (.Name self p3) f X.env (eval (.Name self p3) X.env)=eval (.Name self p3) X.env:=by rfl)(hfs:∀ z,foldedSetIterable (.Name rn pr) X.env z=pure z:=by intro _;rfl):oh X G E dl [.Assign [.Attribute (.Name self pn) f pa] (.Dict [] [] p1) pos,.For (.Name rw_ px) (.Name rn pr) [.Assign [.Subscript (.Attribute (.Name self p3) f p4) ie p5] ve p6] [] pi] (.nx (dlu.set 0 (.own (.AW z C (putD f (.dw (qc rows)) fs))))):=by
 have N9:∀ {p:Pos},PE X (.Name self p) fun st H Q=>∃ v,st[0]?=some (some v)/\Q v H:=fun {p}=>jF R5 hvs mR my
 have qK:=mT (DX (pos:=p6) (pos':=p5) hu (uZ (pos:=p4) (N9 (p:=p3)) hb) (fun pins s st H Q I (q:∃ r,tD X.K G (dlu.set nN (.val (vy r))) (.str r.1) st H Q)=>let ⟨r,q⟩:=q;hi r pins s st H Q I q) (fun pins s st H Q I (q:∃ r,tD X.K G (dlu.set nN (.val (vy r))) (vy r) st H Q)=>let ⟨r,q⟩:=q;hv r pins s st H Q I q) AE)
 refine AX (oy (u0 (pos:=pos) (pos':=pa) (N9 (p:=pn)) AR GS) (mT (yx hp qS (gb (jF (pos:=pr) hNr hvr Xg Xh)) (bI hN Xf hx hf) qK hfs))) fun D st H ⟨Hf,S,k⟩=>?_
 obtain⟨a,sa,fa,ga,ea,dx,fv,ha,rf⟩:=S.own 0 _ hd
 intro p Ak
 have VQ:a≠p:=av ha Ak
 have fp:Hf p=none:=S.sub.free Ak
 have gp:G.H p=none:=S.gr.big.free Ak
 have P9:(upd H p (.dK [])) a=some (.ins C dx fv):=by rw[ag VQ];exact ha
 refine⟨.ref a,sa,a,C,dx,fv,rfl,P9,cl,na,by rw[rf.length];exact Nat.lt_succ_of_le (Nat.le_of_ble_eq_true hl),?_⟩
 have S0:d7 X.K G st Hf H dlu:=by
   subst edl
   refine⟨S.gr,by simp[S.len],fun j d h=>?_,fun j o h=>absurd h (aV uh j o),fun j _ o _ _ h=>absurd h (aV uh j o)⟩
   by_cases e:0=j
   . subst e
     by_cases R6:0 < dl.length
     . rw[List.getElem?_set_self R6] at h;cases h
     . exact absurd (List.getElem?_eq_some_iff.mp hd).1 R6
   . rw[List.getElem?_set_ne e] at h;exact S.val j d h
 have Su:d7 X.K G st Hf (upd (upd H p (.dK [])) a (.ins C dx (fL f (.ref p) fv))) dlu:=pz (pz S0 uh fp gp) uh fa ga
 obtain⟨lv,La,S6⟩:=Su.val nR _ hr
 cases S6 with
 | @lst la vs _ hq rp=>
   have hvl:vs.length=rows.length:=by rw[rp.length,List.length_map]
   refine⟨.ref la,La,la,rfl,⟨vs,.of (Su.sub _ _ hq)⟩,AD (xs:=vs) (fun j jC H'=>∃ aH kvs,d7 X.K G jC aH H' dlu/\aE Hf aH/\jC[0]?=some (some (.ref a))/\aH a=none/\aH p=none/\H' a=some (.ins C dx (fL f (.ref p) fv))/\H' p=some (.dK kvs)/\cW X.K aH kvs (qc (rows.take j)))
     ⟨Hf,[],Su,aE.refl _,sa,fa,fp,ak,by rw[ag (Ne.symm VQ)];exact ak,by rw[List.take_zero];exact .nil⟩ ?_ ?_ ?_⟩
   . rintro j jC H' _ ⟨aH,kvs,S',sm,_⟩
     exact .of (S'.sub _ _ (sm _ _ hq))
   . rintro j v jC H' Vz ⟨aH,kvs,S',sm,s0,Xi,Xj,Oa,VR,rk⟩
     obtain⟨dz,hz,rz⟩:=rp.get' Vz
     have hj:j < rows.length:=by
       have:=(List.getElem?_eq_some_iff.mp Vz).1
       omega
     rw[List.getElem?_map,List.getElem?_eq_getElem hj] at hz
     cases hz
     have Sp:d7 X.K G (jC.set nN (some v)) aH H' (dlu.set nN (.val (vy rows[j]))):=S'.set (rz.mono sm)
     have Zq:(jC.set nN (some v))[0]?=some (some (.ref a)):=by rw[List.getElem?_set_ne Xe];exact s0
     refine⟨rows[j],aH,Sp,fun w aw H1 g1 r1=>⟨.ref a,Zq,a,C,dx,_,.ref p,rfl,.of (g1.big _ _ Oa),cl,na,by rw[oA,if_pos rfl],rows[j],aw,Sp.grow g1,fun y bZ H2 g2 r2=>?_⟩⟩
     cases r2
     have g:=g1.trans g2
     have yG:H2 p=some (.dK kvs):=g.big _ _ VR
     have T3:H2 a=some (.ins C dx (fL f (.ref p) fv)):=g.big _ _ Oa
     have VS:bZ p=none:=g.lH Xj VR
     have fa2:bZ a=none:=g.lH Xi Oa
     have T4:=rk.mono g.bw
     have Qa:kvs.length < sizeLine:=by
       rw[rk.length]
       unfold qc
       rw[List.length_map,List.length_take];omega
     have FH:(og kvs (.inr rows[j].1)).isSome=false:=by rw[rk.x5,Iy nd hj];rfl
     have Sw:d7 X.K G (jC.set nN (some v)) bZ H2 dlu:=(Sp.grow g).weak ⟨by simp,fun i s e n=>by
       by_cases hi:nN=i
       . subst hi;rw[hun] at e;cases e;exact absurd rfl n
       . rw[List.getElem?_set_ne hi];exact e⟩
     refine⟨p,_,rfl,FI.k (k:=.inr rows[j].1) yG Qa,bZ,_,pz Sw uh VS gp,sm.trans g.bw,Zq,fa2,VS,by rw[ag VQ];exact T3,ak,?_⟩
     rw[Eh FH,CO rows hj]
     exact T4.snoc (r1.mono g2.bw)
   . rintro jC H' ⟨aH,kvs,S',sm,s0,Xi,Xj,Oa,VR,rk⟩
     rw[hvl,List.take_length] at rk
     have T5:aE aH (upd aH p (.dK kvs)):=bE Xj
     have l0:0 < dlu.length:=by
       rw[<- S'.len]
       exact(List.getElem?_eq_some_iff.mp s0).1
     refine k jC (upd aH p (.dK kvs)) H' (sm.trans T5) ⟨⟨S'.gr.big,S'.gr.bw.trans T5,fun b u e=>?_,fun b u e=>?_⟩,by simp[S'.len],fun j d h=>?_,fun j o h=>?_,fun i j o o' q h1 h2 h3 h4=>?_⟩
     . by_cases hb:b=p
       . subst hb;rw[ak] at e;cases e;exact VR
       . rw[ag hb] at e;exact S'.sub _ _ e
     . by_cases hb:b=p
       . subst hb;exact .inr (.inl gp)
       . rw[ag hb] at e;exact S'.gr.new b u e
     . by_cases e:0=j
       . subst e;rw[List.getElem?_set_self l0] at h;cases h
       . rw[List.getElem?_set_ne e] at h
         obtain⟨v,z1,z2⟩:=S'.val j d h
         exact⟨v,z1,z2.mono T5⟩
     . by_cases e:0=j
       . subst e
         rw[List.getElem?_set_self l0] at h;cases h
         exact⟨a,s0,by rw[ag VQ];exact Xi,ga,ea,dx,_,Oa,(rf.mono (sm.trans T5)).put (.dw ak (rk.mono T5))⟩
       . rw[List.getElem?_set_ne e] at h;exact absurd h (aV uh j o)
     . have z:∀ (i:Nat) o,(dlu.set 0 (.own (.AW z C (putD f (.dw (qc rows)) fs))))[i]?=some (.own o)->0=i:=fun i o h=>by
         by_cases e:0=i
         . exact e
         . rw[List.getElem?_set_ne e] at h;exact absurd h (aV uh i o)
       rw[<- z i o h1,<- z j o' h2]
end
theorem Ej:∀ {xs:List V} {us:List Value},xs.length=us.length->(∀ (j:Nat) x u,xs[j]?=some x->us[j]?=some u->RelV x u)->Vals xs us
 | [],[],_,_=>.nil
 | [],_::_,h,_=>by cases h
 | _::_,[],h,_=>by cases h
 | x::xs,u::us,h,f=>.cons (f 0 x u rfl rfl) (Ej (Nat.succ.inj h) fun j a b h1 h2=>f (j+1) a b (by simpa using h1) (by simpa using h2))
theorem CP:∀ {kvs:List (Key×V)} {vs:List (Key×Value)},KV kvs vs->∀ {j:Nat} {q:Key×Value},vs[j]?=some q->∃ p,kvs[j]?=some p/\p.1=q.1/\RelV p.2 q.2
 | _,_,.nil,j,q,h=>by simp at h
 | _,_,.cons r t,0,q,h=>by simp at h;subst h;exact⟨_,rfl,r⟩
 | _,_,.cons r t,j+1,q,h=>by
   obtain⟨p,h1,h2⟩:=CP t (j:=j) (q:=q) (by simpa using h)
   exact⟨p,by simpa using h1,h2⟩
theorem sy:∀ {kvs:List (Key×V)} {vs:List (Key×Value)},KV kvs vs->kvs.length=vs.length
 | _,_,.nil=>rfl
 | _,_,.cons r t=>congrArg (·+1) (sy t)
section
variable {X:Cx}{G:Gr}{dl:List Slot}{a o:Expr}{kds:List (Key×Dt)}{pos p:Pos}
theorem CQ (hc:X.calm=true):lE X (.type "list") (fun xs H Q=>∃ (d:Addr) (kvs:List (Key×V)),xs=[.ref d]/\H d=some (.dK kvs)/\∀ l,H l=none->Q (.ref l) (upd H l (.lst (kvs.map fun kv=>kV kv.1)))):=by
 intro pins s σ H xs us Q I r h
 obtain⟨d,kvs,rfl,hq,q⟩:=h
 obtain⟨u,rfl,rx⟩:=vals1 r
 cases rx
 obtain⟨hz,lo,vs,kv,o,es,ep,ho,hr⟩:=I.bH d _ hq
 have hl:=sy kv
 refine W.kdl_call (W.kdl_dict (knd:=cv X.prog X.w) (kvs:=vs) (ep:=ep) lo) (I.ok.hd hc) ⟨o,es,ho,hr⟩ (by omega) fun h' tk T6 c' kp e it=>?_
 refine⟨.ref s.heap.objs.size,_,I.laid (t':=tk) kp (Nat.le_refl _) (show aP X.prog X.w _ h' _ (.lst _) from⟨by rw[List.length_map];exact hz,T6.toList,c',Ej ?_ fun j x u h1 h2=>?_,e⟩),rfl,q _ (I.bH.fresh (Nat.le_refl _))⟩
 . have e1:T6.toList.length=vs.length:=by rw[Array.length_toList];exact it.1
   rw[List.length_map,e1,hl]
 . rw[Array.getElem?_toList] at h2
   obtain⟨k,y,z1,z2⟩:=it.2 j u h2
   obtain⟨p,z3,z4,_⟩:=CP kv z1
   rw[List.getElem?_map,z3] at h1
   cases h1
   have z4:p.1=k:=z4
   show RelV (kV p.1) u
   rw[z4]
   rcases cE z2 with⟨i,t,rfl,rfl⟩ | ⟨i,t,rfl,rfl⟩
   . exact⟨t,rfl⟩
   . exact⟨t,rfl⟩
noncomputable def kD:Key->Dt
 | .inl i=>.int i
 | .inr x=>.str x
theorem sA {K:W.Frag}{H:Hp}:∀ {kvs:List (Key×V)} {kds:List (Key×Dt)},cW K H kvs kds->bD K H (kvs.map fun kv=>kV kv.1) (kds.map fun kd=>kD kd.1)
 | _,_,.nil=>.nil
 | (.inl i,_)::_,_,.cons _ t=>.cons (.int i) (sA t)
 | (.inr i,_)::_,_,.cons _ t=>.cons (.str i) (sA t)
theorem IA (hm:X.mg "list"=none)(hc:X.calm=true)(ha:EE X G dl a (.dw kds))(hg:Gl X "list":=by rfl)(he:starEach [a] X.env=[(false,eval a X.env)]:=by rfl):EO X G dl (.Call (.Name "list" p) [a] [] pos) (.lst (kds.map fun kd=>kD kd.1)):=
 iW (mB (CQ hc) hg hm boot_list (ae ha ai he) (he:=he)) fun st H Q ⟨Hf,S,k⟩=>⟨Hf,S,fun vs aw H1 g1 r1=>by
   cases r1 with
   | cons r t=>cases t;cases r with
     | @dw q kvs _ z r=>exact⟨q,kvs,rfl,g1.sub _ _ z,fun l hl=>k l aw _ (g1.trans (.fU g1.sub hl)) (g1.big.free hl) (g1.sub.free hl) ⟨_,ak,sA r⟩⟩⟩
end
section
variable {K:W.Frag}
theorem Qb {n m l:Nat}{z1 z2 z3:Dt}:VN K (Lp K 3 (tm (mz n) (tm (mz m) (tm (mz l) Lo)))) (.tup [z1,z2,z3]) (fun dl=>((dl.set n (.val z1)).set m (.val z2)).set l (.val z3)):=fun G st Hf H v dl Q S r k=>by
 cases r with
 | @tup q vs _ hq rp=>
   cases rp with
   | cons r1 t1=>cases t1 with
     | cons r2 t2=>cases t2 with
       | cons r3 t3=>
         cases t3
         exact⟨q,_,rfl,gk S.sub hq,rfl,_,_,rfl,_,_,rfl,_,_,rfl,rfl,k _ (((S.set r1).set r2).set r3)⟩
end
section
variable {X:Cx}{G:Gr}{dl:List Slot}{a:Expr}{pos p:Pos}{u:Bool}
theorem pA (hm:X.mg "int"=none)(ha:EE X G dl a (.bl u))(hg:Gl X "int":=by rfl)(he:starEach [a] X.env=[(false,eval a X.env)]:=by rfl):EE X G dl (.Call (.Name "int" p) [a] [] pos) (.int (if u then 1 else 0)):=
 iW (mB Fx hg hm boot_int (ae ha ai he) (he:=he)) fun st H Q ⟨Hf,S,k⟩=>⟨Hf,S,fun vs aw H1 g1 r1=>by
   cases r1 with
   | cons r t=>cases t;cases r;exact .inr ⟨u,rfl,k _ aw H1 g1 (.int _)⟩⟩
end
noncomputable def T7 (x:Str):It:=
 ⟨fun i H=>∃ c,x.cps[i]?=some c,fun i H v H'=>∃ p c,v=.ref p/\H p=none/\H'=upd H p (.tup [.int i,.str ⟨#[c]⟩])/\x.cps[i]?=some c,fun i H=>i=x.cps.size⟩
theorem CS {P:Program}{w:World}{K:W.Frag}{elts:List Expr}{kt:Nat}{yz:Pos}(x:Str)(t:Tok)(e it:Addr)(R4:e≠it):Turn P w K (.Tuple elts kt yz) (T7 x) [e,it] e (fun i h=>(∃ old,IsEnum h e it i old)/\h.IsStrIter it "str_ascii_iterator" x t i) where
 mem:=by simp
 obj:=fun i h st b hb=>by
   obtain⟨⟨old,he⟩,o,e2,c,d⟩:=st
   rcases List.mem_cons.mp hb with rfl | hb
   . exact⟨_,he,fun v z=>by cases z⟩
   . have:b=it:=by simpa using hb
     subst this
     exact⟨o,e2,fun v z=>by rw[d] at z;cases z⟩
 keep:=fun i h h' st k=>by
   obtain⟨⟨old,he⟩,o,e2,r⟩:=st
   exact⟨⟨old,k e (by simp) _ he⟩,o,k it (by simp) o e2,r⟩
 item:=by
   intro X hP hw hK hc i pins s σ H E I hf st hg
   subst hP hw hK
   obtain⟨c,hx⟩:=hg
   obtain⟨⟨old,he⟩,hit⟩:=st
   have TY:e < s.heap.objs.size:=Heap.lt_size he
   have VO:it < s.heap.objs.size:=by obtain⟨_,z,_⟩:=hit;exact Heap.lt_size z
   have dy:i < x.cps.size:=(Array.getElem?_eq_some_iff.mp hx).1
   refine wpAny_pyNext_enum_itemD (Draws.strAscii (A:=X.A.in1) (I.ok.hd hc) it x t) he hit dy R4 (by simpa using R4) fun u h1 tk hP ho P5 hT hsz hk=>?_
   obtain⟨c',u',xG,rfl⟩:=hP
   rw[hx] at xG;cases xG
   refine⟨_,rfl,wpAny_letOwnedTupleGo_enum ho fun h2 TZ AE=>?_⟩
   have Xa:h2.get? s.heap.objs.size=some { cls:=.type "tuple",data:=.seq #[.int i tk,.str ⟨#[c]⟩ u']}:=(AE.2 _ (Nat.ne_of_gt TY)).trans hT
   have k2:∀ b o,b ∉ [e,it]->s.heap.get? b=some o->h2.get? b=some o:=fun b o hb q=>(AE.2 b fun z=>hb (by simp[z])).trans (hk b o (fun z=>hb (by simp[z])) (fun z=>hb (by simp[z])) q)
   have hp:H s.heap.objs.size=none:=I.bH.fresh (Nat.le_refl _)
   have I2:L2.Inv X pins σ (upd H s.heap.objs.size (.tup [.int i,.str ⟨#[c]⟩])) { s with heap:=h2,toks:=tk+1}:=Bf I hf k2 (Nat.le_refl _) ⟨Nat.le_of_ble_eq_true rfl,[.int i tk,.str ⟨#[c]⟩ u'],.cons ⟨_,rfl⟩ (.cons ⟨_,rfl⟩ .nil),_,Xa,rfl,_,rfl⟩
   refine⟨.ref s.heap.objs.size,_,I2,rfl,⟨_,c,rfl,hp,rfl,hx⟩,⟨⟨_,by simpa using TZ⟩,let ⟨o,z1,z2⟩:=P5;⟨o,(AE.2 it (Ne.symm R4)).trans z1,z2⟩⟩,fun b hb=>?_⟩
   have:b≠s.heap.objs.size:=by
     rcases List.mem_cons.mp hb with rfl | hb
     . exact Nat.ne_of_lt TY
     . have:b=it:=by simpa using hb
       subst this
       exact Nat.ne_of_lt VO
   rw[ag this]
   exact(hf b hb).1
 done:=by
   intro X hP hw hK hc i pins s σ H E I hf st hg
   subst hP hw hK
   have hg:i=x.cps.size:=hg
   subst hg
   obtain⟨⟨old,he⟩,hit⟩:=st
   obtain⟨f0,f1,f2,f3,f4,f5⟩:=hf it (by simp)
   exact wpAny_pyNext_enum_endD (Draws.strAscii (A:=X.A.in1) (I.ok.hd hc) it x t) he hit fun h' eb=>⟨rfl,I.turned (t':=s.toks) (fun b o hb q=>eb b o hb q) f0 f1 f3 f4 f5⟩
 self:=fun _ i s Q E st h=>by
   obtain⟨⟨old,he⟩,_⟩:=st
   exact wpAny_pyIter_enum he h
section
variable {X:Cx}{G:Gr}{dl:List Slot}{a:Expr}{x:Str}{p pos:Pos}
noncomputable def IB (ta:TA):TI:=fun σ H R=>ta σ H fun vs H1=>∃ x,vs=[.str x]/\jG x=true/\R (T7 x) H1
theorem IC {elts:List Expr}{kt:Nat}{yz:Pos}{ta:TA}(hg:Gl X "enumerate")(hm:X.mg "enumerate"=none)(ha:PA X [a] ta)(hs:starEach [a] X.env=[(false,eval a X.env)]:=by rfl):PI X (.Tuple elts kt yz) (.Call (.Name "enumerate" p) [a] [] pos) (IB ta):=by
 intro pins s σ H R I h
 refine Call_ (rN I hg hm boot_enumerate (PyProof.Rows.callWith_type1 (b7 (ha pos pins s σ H _ I h) fun us s1 ⟨vs,H1,I1,r1,q1⟩=>?_) hs rfl))
 obtain⟨x,e,Qc,q⟩:=q1
 subst e
 cases r1 with
 | cons r rr=>
   cases rr
   obtain⟨t,rfl⟩:=r
   refine call_enumerate_str fun h' he hit hsz k=>wpAny_pyIter_enum he ?_
   have S5:strIterType x="str_ascii_iterator":=by unfold strIterType;rw[show x.cps.all (· < 128)=true from Qc];rfl
   rw[S5] at hit
   have I2:L2.Inv X pins σ H1 { s1 with heap:=h'}:=I1.kept (t':=s1.toks) k
   refine⟨s1.heap.objs.size+1,[s1.heap.objs.size+1,s1.heap.objs.size],_,_,H1,rfl,I2,CS x t _ s1.heap.objs.size (Nat.succ_ne_self _),⟨⟨_,he⟩,hit⟩,fun b hb=>?_,q⟩
   have PH:s1.heap.objs.size<=b:=by
     rcases List.mem_cons.mp hb with rfl | hb
     . exact Nat.le_succ _
     . have:b=s1.heap.objs.size:=by simpa using hb
       rw[this];exact Nat.le_refl _
   exact I1.uW PH (I1.bH.fresh PH)
theorem CT (hx:jG x=true):sk X G dl (tF (Sg.signs x)) (IB (Tn X.K G dl [.str x])):=fun st H R ⟨Hf,S,k⟩=>⟨Hf,S,fun vs aw H1 g1 r1=>by
 cases r1 with
 | cons r t=>
   cases t
   cases r
   refine⟨x,rfl,hx,k _ aw H1 g1 fun bZ H2 s1 s2 i=>⟨fun z hz=>?_,fun hi=>?_⟩⟩
   . have hi:i < (Sg.signs x).length:=by
       have:=(List.getElem?_eq_some_iff.mp hz).1
       unfold tF at this
       simpa using this
     unfold tF at hz
     rw[List.getElem?_map,List.getElem?_range hi] at hz
     cases hz
     have GV:(Sg.signs x)[i]?=some ((Sg.signs x).getD i .c9):=by rw[List.getD_eq_getElem?_getD,List.getElem?_eq_getElem hi];rfl
     rw[signs_get] at GV
     cases q:x.cps[i]? with
     | none=>rw[q] at GV;cases GV
     | some c=>
       rw[q] at GV
       have GV:Dt.str ⟨#[c]⟩=(Sg.signs x).getD i .c9:=Option.some.inj GV
       refine⟨⟨c,q⟩,fun v H3 ⟨p,c',e1,e2,e3,e4⟩=>?_⟩
       rw[q] at e4;cases e4
       subst e1 e3
       show ∃ ko,bh bZ H2 ko _/\Rep X.K ko (V.ref p) (Dt.tup [Dt.int i,(Sg.signs x).getD i Dt.c9])
       rw[<- GV]
       exact⟨upd bZ p (.tup [.int i,.str ⟨#[c]⟩]),.alloc s2 e2,.tup (.of ak) (.cons (.int _) (.cons (.str _) .nil))⟩
   . show i=x.cps.size
     unfold tF at hi
     rw[List.length_map,List.length_range,pv] at hi
     exact hi⟩
end
theorem Qd {us:List Value}{d:Value}(h:(us ++ [d]).length=3):∃ a b,us=[a,b]:=by
 rw[List.length_append] at h
 have h:us.length=2:=Nat.succ.inj h
 match us,h with
 | [a,b],_=>exact⟨a,b,rfl⟩
end Sg
namespace Sg
open PySem PySem.Spec PyProof.Rows L2
open Sem (wp)
structure Xk (z tI tO j1 j2:Addr)(f1 f2:List Addr):Prop where
 tz:tI≠z
 oz:tO≠z
 az:j1≠z
 bz:j2≠z
 to:tI≠tO
 ta:tI≠j1
 tb:tI≠j2
 oa:tO≠j1
 ob:tO≠j2
 ab:j1≠j2
 z1:z ∉ f1
 o1:tO ∉ f1
 b1:j2 ∉ f1
 z2:z ∉ f2
 o2:tO ∉ f2
 a2:j1 ∉ f2
inductive ZS where
 | txt (x:Str) (t:Tok)
 | lst (l:Addr)
noncomputable def ZS.val:ZS->Value
 | .txt x t=>.str x t
 | .lst l=>.ref l
noncomputable def ZS.obj:ZS->Obj
 | .txt x t=>{ cls:=.type (strIterType x),data:=.fields #[.str x t,.int 0 0]}
 | .lst l=>{ cls:=.type "list_iterator",data:=.fields #[.ref l,.int 0 0]}
noncomputable def ZS.ok (h:Heap):ZS->Prop
 | .txt x _=>jG x=true
 | .lst l=>∃ xs,h.IsList l xs
noncomputable def ZS.at (it:Addr)(i:Nat)(h:Heap):ZS->Prop
 | .txt x t=>h.IsStrIter it "str_ascii_iterator" x t i
 | .lst l=>h.IsListIter it l i
noncomputable def ZS.v:ZS->V
 | .txt x _=>.str x
 | .lst l=>.ref l
section
inductive ZD:Dt->List Dt->Prop
 | lst (xs:List Dt):ZD (.lst xs) xs
 | str (x:Str):jG x=true->ZD (.str x) (Sg.signs x)
end
noncomputable def Zr (d:Addr)(ob:Obj)(kvs:List (Key×V)):It:=
 ⟨fun i H=>H d=some (.bw ob (.dK kvs))/\i < kvs.length,fun i H v H'=>H'=H/\∃ kv,kvs[i]?=some kv/\v=kV kv.1,fun i H=>H d=some (.bw ob (.dK kvs))/\i=kvs.length⟩
theorem Ek {X:Cx}{pins:List (Addr×Obj)}{σ:List (Option V)}{H:Hp}{s:Shared}{d:Addr}{ob:Obj}{kvs:List (Key×V)}{es:Array DictEntry}{ep:Nat}(I:L2.Inv X pins σ H s)(hq:H d=some (.bw ob (.dK kvs)))(he:ob.data=.dict es ep):(d == sysModules)=false/\∃ vs,KV kvs vs/\s.heap.DictAt (cv X.prog X.w) d vs ep:=by
 obtain⟨e,hz,lo,vs,kv,o,G8,Sk,ho,hr⟩:=(show aP X.prog X.w H s.heap d (.bw ob (.dK kvs)) from I.bH d _ hq)
 rw[e] at ho;cases ho
 obtain⟨hc,CU,hr⟩:=hr
 have CU:ob.data=.dict G8 Sk:=CU
 rw[he] at CU;cases CU
 exact⟨lo,vs,kv,ob,es,e,hc,he,hr⟩
theorem F3 {P:Program}{w:World}{K:W.Frag}{tg:Expr}(d it:Addr)(ob:Obj)(kvs:List (Key×V)){es:Array DictEntry}{ep:Nat}(he:ob.data=.dict es ep):Turn P w K tg (Zr d ob kvs) [it] it (fun i h=>h.IsKeyIter it d i kvs.length ep) where
 mem:=by simp
 obj:=fun i h st b hb=>by
   have e:b=it:=by simpa using hb
   subst e
   obtain⟨o,e,c,d⟩:=st
   exact⟨o,e,fun v z=>by rw[d] at z;cases z⟩
 keep:=fun i h h' st k=>let ⟨o,e,c,d⟩:=st;⟨o,k it (by simp) o e,c,d⟩
 item:=by
   intro X hP hw hK hc i pins s σ H E I hf st hg
   subst hP hw hK
   obtain⟨hq,hi⟩:=hg
   obtain⟨lo,vs,kv,D⟩:=Ek I hq he
   have hl:=sy kv
   have Px:i < vs.length:=by omega
   obtain⟨f0,f1,f2,f3,f4,f5⟩:=hf it (by simp)
   have jC:s.heap.IsKeyIter it d i vs.length ep:=by rw[<- hl];exact st
   refine wpAny_pyNext_dict_item (k:=vs[i].1) (v:=vs[i].2) jC D (List.getElem?_eq_getElem Px) fun key h' hk Xl sb=>?_
   have I1:L2.Inv X pins σ H { s with heap:=h'}:=I.turned (t':=s.toks) (fun b o hb e=>(sb.2 b hb).trans e) f0 f1 f3 f4 f5
   rw[<- hl] at Xl
   obtain⟨o,e,c,dd⟩:=id Xl
   obtain⟨p,hp,T8,_⟩:=CP kv (List.getElem?_eq_getElem Px)
   refine⟨key,rfl,AB (s:={ s with heap:=h'}) e c dd (by decide) ⟨kV p.1,H,I1,?_,⟨rfl,p,hp,rfl⟩,Xl,fun b hb=>(hf b hb).1⟩⟩
   rw[T8]
   rcases cE hk with⟨j,t,e1,rfl⟩ | ⟨j,t,e1,rfl⟩
   . rw[e1];exact⟨t,rfl⟩
   . rw[e1];exact⟨t,rfl⟩
 done:=by
   intro X hP hw hK hc i pins s σ H E I hf st hg
   subst hP hw hK
   obtain⟨hq,hi⟩:=hg
   obtain⟨lo,vs,kv,D⟩:=Ek I hq he
   have hl:=sy kv
   obtain⟨f0,f1,f2,f3,f4,f5⟩:=hf it (by simp)
   have jC:s.heap.IsKeyIter it d i vs.length ep:=by rw[<- hl];exact st
   exact wpAny_pyNext_dict_end (I.ok.hd hc) jC D (List.getElem?_eq_none (by omega)) fun h' eb=>⟨rfl,I.turned (t':=s.toks) (fun b o hb e=>eb b o hb e) f0 f1 f3 f4 f5⟩
 self:=fun A i s Q E st h=>by
   have hT:s.TypeIs (.ref it) "dict_keyiterator":=st.typeIs
   refine wpAny_pyIter_slot hT F.slot_dict_keyiterator_iter (wpAny_call_entry F.slot_dict_keyiterator_iter hT F.entry_dict_keyiterator_iter ?_ (F.args_dict_keyiterator_iter_1 _))
   show wpAny _ _ (ret (.ref it)) _ _ s
   exact wpAny_pure ⟨_,rfl,"dict_keyiterator",_,hT,F.slot_dict_keyiterator_next.lookup,h⟩
section
variable {X:Cx}{G:Gr}{dl:List Slot}{a b e i o:Expr}{d:Dt}{pos:Pos}{k x:Str}{kds:List (Key×Dt)}
noncomputable def ID (ta:TE):TI:=fun σ H R=>ta σ H fun v H1=>∃ d ob kvs,v=.ref d/\H1 d=some (.bw ob (.dK kvs))/\R (Zr d ob kvs) H1
theorem IE {tg:Expr}{ta:TE}(ha:PE X a ta):PI X tg a (ID ta):=by
 intro pins s σ H R I h
 refine b7 (ha pins s σ H _ I h) fun v s1 ⟨w,H1,I1,r1,q1⟩=>?_
 obtain⟨d,ob,kvs,rfl,hq,q⟩:=q1
 cases r1
 obtain⟨e,hz,lo,vs,kv,o,es,ep,ho,hr⟩:=(show aP X.prog X.w H1 s1.heap d (.bw ob (.dK kvs)) from I1.bH d _ hq)
 rw[e] at ho;cases ho
 have he:ob.data=.dict es ep:=hr.2.1
 have hl:=sy kv
 refine wpAny_pyIter_dict (knd:=cv X.prog X.w) (kvs:=vs) (ep:=ep) lo ⟨ob,es,e,hr⟩ ?_
 refine⟨s1.heap.objs.size,[s1.heap.objs.size],_,_,H1,rfl,I1.kept (t':=s1.toks) fun b o e=>Heap.get?_push_of_some _ e,F3 d _ ob kvs he,?_,fun b hb=>?_,q⟩
 . exact⟨_,Heap.get?_push_size _ rfl,rfl,by rw[hl];rfl⟩
 . have eb:b=s1.heap.objs.size:=by simpa using hb
   rw[eb]
   exact I1.uW (Nat.le_refl _) (I1.bH.fresh (Nat.le_refl _))
theorem Bj {K:W.Frag}{H:Hp}:∀ {kvs:List (Key×V)} {kds:List (Key×Dt)} {i:Nat} {kd:Key×Dt},cW K H kvs kds->kds[i]?=some kd->∃ kv,kvs[i]?=some kv/\kv.1=kd.1
 | _,_,_,_,.nil,h=>by simp at h
 | _,_,0,_,.cons _ _,h=>by simp at h;subst h;exact⟨_,rfl,rfl⟩
 | _,_,i+1,_,.cons _ t,h=>by
   obtain⟨kv,h1,h2⟩:=Bj (i:=i) t (by simpa using h)
   exact⟨kv,by simpa using h1,h2⟩
theorem Qe {K:W.Frag}{H:Hp}:∀ (k:Key),Rep K H (kV k) (kD k)
 | .inl i=>.int i
 | .inr x=>.str x
theorem CV:sk X G dl (kds.map fun kd=>kD kd.1) (ID (tD X.K G dl (.mV kds))):=fun st H R ⟨Hf,S,k⟩=>⟨Hf,S,fun v aw H1 g1 r1=>by
 cases r1 with
 | @mV q ob kvs _ hq rp=>
   have hl:=rp.length
   refine⟨q,ob,kvs,rfl,g1.sub _ _ hq,k _ aw H1 g1 fun bZ H2 s1 s2 i=>⟨fun z hz=>?_,fun hi=>⟨s2 _ _ (s1 _ _ hq),by rw[List.length_map] at hi;omega⟩⟩⟩
   have hi:i < kds.length:=by
     have:=(List.getElem?_eq_some_iff.mp hz).1
     simpa using this
   rw[List.getElem?_map,List.getElem?_eq_getElem hi] at hz
   cases hz
   obtain⟨kv,h1,h2⟩:=Bj rp (List.getElem?_eq_getElem hi)
   refine⟨⟨s2 _ _ (s1 _ _ hq),by omega⟩,fun v H3 ⟨e1,Zs,e2,e3⟩=>?_⟩
   subst e1 e3
   rw[h1] at e2;cases e2
   refine⟨bZ,.refl s2,?_⟩
   rw[h2]
   exact Qe _⟩
theorem IF (hu:X.A.units+1 < cLine)(ho:EE X G dl o (.mV kds))(hi:EE X G dl i (.str k))(h:lG kds (.inr k)=some d)(hs:HA i):EE X G dl (.Subscript o i pos) d:=
 iW (yH hu ho hi hs) fun st H Q ⟨Hf,S,kk⟩=>⟨Hf,S,fun v aw H1 g1 r1=>⟨aw,S.grow g1,fun w bZ H2 g2 r2=>by
   cases r2
   cases r1 with
   | @mV q ob kvs _ hq rp=>
     obtain⟨y,z1,z2⟩:=rp.val h
     have e:rW H2 q (kV (.inr k)) (og kvs (.inr k)):=.inl ⟨kvs,.inr k,.inr (.inl ⟨ob,g2.big _ _ (g1.sub _ _ hq)⟩),rfl,rfl⟩
     rw[z1] at e
     exact⟨q,y,rfl,e,kk y bZ H2 (g1.trans g2) (z2.mono g2.bw)⟩⟩⟩
end
noncomputable def exO (C t:Addr)(od:Option Addr):Obj:={ cls:=.ref C,dict:=od,data:=.fields #[.ref t,.none,.none,.none,.bool false,.none]}
noncomputable def ExB (h:Heap)(e C:Addr)(od:Option Addr):Prop:=∃ t:Addr,h.get? e=some (exO C t od)
section
variable {C:Addr}
structure StX (K:W.Frag)(C:Addr)(f:Str):Prop where
 sa:W.findIn K (.ref C) "__setattr__"=some (some (.builtin "object.__setattr__"))
 na:W.findIn K (.ref C) f=some none
 ob:W.mroIn K C (.type "object")=some true
 mr:∃ G,(W.clsIn K C).map (·.mro)=some [.ref C,.ref G,.type "ValueError",.type "Exception",.type "BaseException",.type "object"]
 hd:(W.clsIn K C).map (·.hasDict)=some true
end
noncomputable def Qf (K:PySem.W.Frag)(C:Addr)(Zt:List Value)(nw:String)(fI:Addr):Bool:=match K.lookup C with
 | some ⟨.type "type",_,.cls cd,sl⟩=>(match cd.mro,sl.toList with
   | .ref D::tl,[_,_,_,_,some (.builtin n),_]=>D == C && (n == nw && (!cd.hasDel && (PySem.W.tailIn K Zt tl && (PySem.W.nsOkIn K cd.ns && (PySem.W.nsIn K cd.ns "__init__" == some (some (.ref fI)))))))
   | _,_=>false)
 | _=>false
structure XcI (K:W.Frag)(C fI:Addr):Prop where
 ex:Qf K C Zf "ValueError.__new__" fI=true
 fn:W.typeIn K (.ref fI)=some (.type "function")
 kp:W.keepIn K (.ref C)=true
structure XcB (K:W.Frag)(G:Addr):Prop where
 sp:W.specialIn K (.ref G) "__getattribute__"=some (some (.builtin "type.__getattribute__"))
 rd:W.readsIn K G (.type "type")=true
 fc:W.findCls K (.ref G) (.type "type") "__init__"=some (.val (.builtin "ValueError.__init__"))
noncomputable abbrev xT (z C:Addr)(od:Option Addr):HO:=.ext fun h=>ExB h z C od
noncomputable def spX (K:W.Frag)(C:Addr)(f:Str)(ok:Dt->Prop):Sp:=fun vs H Q E=>∃ Hf H1 z v d,vs=[.ref z,v]/\H=upd H1 z (xT z C none)/\H1 z=none/\aE Hf H1/\Rep K Hf v d/\ok d /\
 ∀ bZ H2 dx,bh Hf H bZ H2->H2 dx=none->dx≠z->Q .c9 (upd (upd H2 dx (.xd [(f,v)])) z (xT z C (some dx)))
structure XF (P:Program)(w:World)(K:W.Frag)(mg:Str->Option Value)(base:Heap)(CX:rT)(k:Nat)(x:Str)(C:Addr)(f:Str)(ok:Dt->Prop):Prop where
 ex:∃ fI fd ps,ke P w K mg base CX k fI fd ps (spX K C f ok)/\XcI K C fI/\mg x=some (.ref C)/\Binds K fd ps []
section
variable {X:Cx}{G:Gr}{E:XK}{dl:List Slot}{e:Expr}{p pos apos bY:Pos}{x:Str}{ds Lb:List Dt}
theorem F4 (n:Nat){pn:Pos}(he:EE X G dl e (.lst Lb))(hl:ds.length+Lb.length<=sizeLine)(hd:dl[n]?=some (.own (.lst ds)):=by rfl)(hN:X.N[n]?=some x:=by rfl)(hv:uU X.env.scope x:=by first | exact Or.inl rfl | exact Or.inr (Or.inl rfl) | exact Or.inr (Or.inr rfl))
   (mR:(x == ("__debug__":Str))=false:=by decide) (my:(x == ("__classdict__":Str))=false:=by decide)
   (kf:attributeBase (.Name x pn) "extend" X.env (eval (.Name x pn) X.env)=eval (.Name x pn) X.env:=by rfl)
   (va:((backTo bY (starEach [e] X.env)).all (fun x=>!x.1) && (backToKw bY (keywordEach [] X.env)).all (fun x=>x.1.isSome) && decide ([e].length+([]:List Keyword).length+(if ([]:List Keyword).isEmpty then 0 else 1) < 30))=true:=by rfl)
   (kg:(apos.endLine == bY.line)=true:=by rfl) (qm:starEach [e] X.env=(false,eval e X.env)::starEach [] X.env:=by rfl) (hs:swapsWith (.Call (.Attribute (.Name x pn) "extend" apos) [e] [] bY) none pos.line X.env=pure false:=by rfl) :
   ES X G E dl (.Expr (.Call (.Attribute (.Name x pn) "extend" apos) [e] [] bY) pos) (.nx (dl.set n (.own (.lst (ds ++ Lb))))):=
 uf (lX (u9 PySem.F.plainAttrs_list PySem.F.slot_list_extend PySem.F.type_list_extend FG (vo (p:=pn) n hd hN hv mR my) (ae he ai qm) kf va kg qm rfl) hs) fun D st H ⟨Hf,S,k⟩=>by
   obtain⟨q,z1,z2,z3,vs,hq,rp⟩:=S.own n _ hd
   refine⟨Hf,q,S,z1,z2,⟨vs,hq,rp⟩,.inl ⟨rfl,vs,.of hq⟩,Hf,S,fun us aw H1 g1 r1=>?_⟩
   cases r1 with
   | cons r1 t1=>
     cases t1
     cases r1 with
     | @lst b zs _ hb rz=>
       refine⟨q,b,vs,zs,rfl,rfl,g1.big _ _ hq,g1.sub _ _ hb,by rw[rp.length,rz.length];exact hl,?_⟩
       exact k st aw _ g1.bw ((S.grow g1).FP hd z1 ⟨_,ak,(rp.mono g1.bw).append rz⟩)
end
mutual
noncomputable def Xn:Dt->Bool
 | .lst _=>false
 | .ow _=>false
 | .tup ds=>T9 ds
 | .dw kds=>Ua kds
 | .obj _ fs=>Ub fs
 | .mV _=>false
 | .xo _=>false
 | .GR _ _=>false
 | .eG _=>false
 | .memo _ _ _ _=>false
 | .gc _ _ _ _=>false
 | .xR _ _ _=>false
 | .yI _ _ _ _ _=>false
 | .mW _=>false
 | _=>true
noncomputable def T9:List Dt->Bool
 | []=>true
 | d::r=>Xn d && T9 r
noncomputable def Ua:List (Key×Dt)->Bool
 | []=>true
 | (_,d)::r=>Xn d && Ua r
noncomputable def Ub:List (Str×Dt)->Bool
 | []=>true
 | (_,d)::r=>Xn d && Ub r
end
structure Uc (k:Nat)(A:Around):Prop where
 dp:A.depth+3 * k+5 < recursionLimit
 un:A.units+16 * k+200 < cLine
structure Ud (P:Program)(w:World)(K:W.Frag)(mg:Str->Option Value)(base:Heap)(CX:rT)(k:Nat)(f:Addr)(fd:FuncData)(ps:List Str)(sp:Sp):Prop where
 len:∀ vs H Q E,sp vs H Q E->vs.length=ps.length
 run:∀ (A:Around) (outer:List Env) (s:Shared) (H:Hp) (args:Args) (us:List Value) (vs:List V) (Q:VK) (E:XK),Uc k A->AF P w K mg base A outer s H->BindsTo s fd args (ps.zip us)->Vals vs us->sp vs H Q E ->
   codeAny (model P w) A (.call (.ref f) args) (CR CX outer P w H s Q E) s
structure GFH (P:Program)(w:World)(K:W.Frag)(mg:Str->Option Value)(base:Heap)(CX:rT)(k:Nat)(x:Str)(n:Nat)(R:List Dt->Res->Prop):Prop where
 ex:∃ f fd ps,Ud P w K mg base CX k f fd ps (D3 K n R)/\mg x=some (.ref f)/\W.keepIn K (.ref f)=true/\Binds K fd ps []
theorem vz:typeLookup (.type "list") "keys"=pure none:=am_miss_of_fast (by decide +kernel)
theorem F5 {prog:Program}{w:World}{A:Around}{E:Value->Shared->Prop}{s:Shared}{a:Addr}{o:Obj}{xs:Array Value}{k:Nat}{Q:Option Value->Shared->Prop}(hx:s.heap.get? a=some o)(hc:o.cls=.type "list")(CU:o.data=.seq xs k)(hd:o.dict=none)(hA:A.handled=none)(h:∀ h' tk,(∀ b u,s.heap.get? b=some u->h'.get? b=some u)->Q none { s with heap:=h',toks:=tk}):wpAny (model prog w) A (getAttr? (.ref a) "keys") Q E s:=by
 obtain⟨c,dct,dat,sl⟩:=o
 simp only at hc CU hd
 subst hc CU hd
 obtain⟨hp,g,d,tk,os⟩:=s
 have hT:∀ Zu,(⟨hp,g,d,Zu,os⟩:Shared).TypeIs (.ref a) "list":=fun _=>⟨_,hx,rfl⟩
 have f1:=sub_AttributeError
 have f3:=F.slot_list_getattribute.lookup
 have f4:=F.slot_list_getattribute.bind (.ref a)
 have f5:=am_list_getattr_none
 unfold getAttr? getAttrBy? getAttrBy
 repeat (any_goals (first | assumption | exact hT _ | ((with_reducible show wpAny _ _ (call (Value.builtin "list.__getattribute__") _ _) _ _ _);refine call_meets F.slot_list_getattribute (hT _) am_entry_list_getattribute (F.args_list_getattribute_2 _ _) (meets_getattribute_miss_list a xs k sl "keys" _ vz (by decide +kernel)) ⟨hx,hA,fun h' Zu e GV=>?_⟩) | wp_step))
 obtain⟨t',u',he⟩:=GV.there
 show wpAny _ _ (getattributeRaised _ _ _ _ _ _ _) _ _ _
 unfold getattributeRaised
 repeat (any_goals (first | assumption | wp_step))
 exact h _ _ GV.keeps
theorem jT:plainId "dict.update.loop"=true:=by decide +kernel
theorem qd:entryFor table "dict.update.loop"=some Builtin.«dict.update.loop»:=entryFor_of_fast (by kernel_rfl)
inductive GW (K:W.Frag)(H:Hp):List V->List (Key×V)->Prop
 | nil:GW K H [] []
 | cons {t:Addr} {k:Key} {v:V} {xs:List V} {kvs:List (Key×V)}:Cg K H t [kV k,v]->GW K H xs kvs->GW K H (.ref t::xs) ((k,v)::kvs)
theorem GW.length {K:W.Frag}{H:Hp}:∀ {xs:List V} {kvs:List (Key×V)},GW K H xs kvs->xs.length=kvs.length
 | _,_,.nil=>rfl
 | _,_,.cons _ r=>congrArg (·+1) (GW.length r)
theorem GW.get {K:W.Frag}{H:Hp}:∀ {xs:List V} {kvs:List (Key×V)} {i:Nat} {kv:Key×V},GW K H xs kvs->kvs[i]?=some kv->∃ t,xs[i]?=some (.ref t)/\Cg K H t [kV kv.1,kv.2]
 | _,_,_,_,.nil,e=>by simp at e
 | _,_,0,_,.cons h _,e=>by simp at e;subst e;exact⟨_,rfl,h⟩
 | _,_,i+1,_,.cons _ r,e=>by
   obtain⟨t,h1,h2⟩:=GW.get (i:=i) r (by simpa using e)
   exact⟨t,by simpa using h1,h2⟩
theorem Bk {kvs:List (Key×V)}{k:Key}(h:k ∉ kvs.map (·.1)):(og kvs k).isSome=false:=by
 induction kvs with
 | nil=>rfl
 | cons p r ih=>
   have h1:¬ p.1=k:=fun e=>h (by simp[e])
   rw[mC h1]
   exact ih fun z=>h (by simp at z ⊢;exact .inr z)
section
variable {X:Cx}{pins:List (Addr×Obj)}{σ:L2.St}{H:Hp}{A:Around}{R:Result->Shared->Prop}{L d it:Addr}{xs:List V}{kvs:List (Key×V)}
theorem IG (hA:A.handled=none)(hL:oe X.K H L xs)(hp:GW X.K H xs kvs)(nd:(kvs.map (·.1)).Nodup)(hd:H d=none)(hf:lD X pins H it)(Xo:d≠it)(hz:kvs.length<=sizeLine)(hR:∀ s',L2.Inv X pins σ (upd H d (.dK kvs)) s'->R (.ok (.ret .none)) s'):∀ (k i:Nat) (s:Shared) (tk:Tok),kvs.length - i=k->i<=kvs.length->L2.Inv X pins σ (upd H d (.dK (kvs.take i))) s->s.heap.IsListIter it L i->codeAny (model X.prog X.w) A (.builtin "dict.update.loop" ⟨[.ref d,.ref it,.int i tk,.none],[]⟩) R s:=by
 have hlen:=hp.length
 have sm:∀ o,aE H (upd H d o):=fun o=>bE hd
 obtain⟨f0,f1,f2,f3,f4,f5⟩:=hf
 intro k
 induction k with
 | zero=>
   intro i s tk hk hi I st
   have Qg:i=kvs.length:=by omega
   subst Qg
   obtain⟨aG,rv,p,VT⟩:=I.list ((sm _).seq hL)
   have hl:=rv.length
   refine codeAny_builtin qd ?_
   rw[Around.under_plainId jT _]
   show wpAny _ A.in1 (pyNext (.ref it) >>= _) _ _ s
   refine wpAny_bind (wpAny_pyNext_list_end (show A.in1.handled=none from hA) st p.isList (by simp;omega) fun h' eb=>?_)
   have I1:L2.Inv X pins σ (upd H d (.dK (kvs.take kvs.length))) { s with heap:=h'}:=I.turned (t':=s.toks) (fun b o hb e=>eb b o hb e) (by rw[ag (Ne.symm Xo)];exact f0) f1 f3 f4 f5
   rw[List.take_length] at I1
   show wpAny _ A.in1 (Builtin.Dict.addKeywords d [] >>= _) _ _ _
   exact wpAny_bind (wpAny_pure (wpAny_pure (hR _ I1)))
 | succ k ih=>
   intro i s tk hk hi I st
   have dy:i < kvs.length:=by omega
   obtain⟨t,ht1,ht2⟩:=hp.get (List.getElem?_eq_getElem dy)
   obtain⟨aG,rv,p,VT⟩:=I.list ((sm _).seq hL)
   obtain⟨u,hu,ru⟩:=rv.get ht1
   cases (show u=Value.ref t from ru)
   refine codeAny_builtin qd ?_
   rw[Around.under_plainId jT _]
   show wpAny _ A.in1 (pyNext (.ref it) >>= _) _ _ s
   refine wpAny_bind (wpAny_pyNext_list_item st p.isList (x:=.ref t) (by simpa using hu) fun h' jC sb=>?_)
   have I1:L2.Inv X pins σ (upd H d (.dK (kvs.take i))) { s with heap:=h'}:=I.turned (t':=s.toks) (fun b o hb e=>(sb.2 b hb).trans e) (by rw[ag (Ne.symm Xo)];exact f0) f1 f3 f4 f5
   obtain⟨pit,rp,pt,hzt⟩:=I1.tuple (gk (sm _) ht2)
   cases rp with
   | cons rk rp=>cases rp with
     | cons rv' rp=>
       cases rp
       rename_i ku vu
       obtain⟨ot,eo,VU,nn,hdt⟩:=pt
       refine wpAny_bind (wpAny_holding (wpAny_bind (wpAny_tryCatch ?_)))
       unfold Builtin.Dict.pairItems
       refine wpAny_bind (wpAny_typeOf (T:="tuple") ⟨_,eo,VU⟩ ?_)
       simp only[show((Value.type "tuple" == Value.type "list") || (Value.type "tuple" == Value.type "tuple"))=true by decide,if_true]
       refine wpAny_bind (wpAny_seqItems eo hdt (wpAny_pure ?_))
       show wpAny _ A.in1 (holding [ku,vu] (dictSet d ku vu)) _ _ _
       refine wpAny_holding ?_
       have ed:(upd H d (HO.dK (kvs.take i))) d=some (.dK (kvs.take i)):=ak
       obtain⟨z,hdm,vs,rel,dd⟩:=NW I1.bH ed
       have hzv:vs.length<=sizeLine:=by rw[<- rel.length];exact z
       have Ue:putK (kvs.take i) kvs[i].1 kvs[i].2=kvs.take (i+1):=by
         rw[Eh (Bk ?_),List.take_succ,List.getElem?_eq_getElem dy];rfl
         rw[List.map_take]
         intro hm
         obtain⟨j,hj,e⟩:=List.mem_iff_getElem.mp hm
         rw[List.length_take,List.length_map] at hj
         rw[List.getElem_take,List.getElem_map] at e
         have:=List.pairwise_iff_getElem.mp nd j i (by rw[List.length_map];omega) (by rw[List.length_map];omega) (by omega)
         rw[List.getElem_map,List.getElem_map] at this
         exact this e
       refine wpAny_dictSet_pairs (hsz:=hzv) (AN rk) dd fun h2 Pt hs=>?_
       have he:∃ q,h2.get? d=some q:=let ⟨q,_,_,hq,_⟩:=Pt;⟨q,hq⟩
       have I2:L2.Inv X pins σ (upd (upd H d (.dK (kvs.take i))) d (.dK (putK (kvs.take i) kvs[i].1 kvs[i].2))) { s with heap:=h2,toks:=s.toks+1}:=lZ (s:={ s with heap:=h'}) (t':=s.toks+1) I1 (by rw[ed];exact True.intro) hs he (Hz (by rw[Ue,List.length_take];omega) hdm (rel.put _ rv') Pt)
       rw[ub,Ue] at I2
       exact wpAny_pure ⟨plainId_quiet jT _,ih (i+1) _ _ (by omega) (by omega) I2 (jC.at fun o e=>(hs.2 it (Ne.symm Xo)).trans e)⟩
theorem zd (hc:X.calm=true):lE X (.type "dict") (fun xs H Q=>∃ L ys kvs,xs=[.ref L]/\H L=some (.lst ys)/\GW X.K H ys kvs/\(kvs.map (·.1)).Nodup/\kvs.length<=sizeLine/\∀ l,H l=none->Q (.ref l) (upd H l (.dK kvs))):=by
 intro pins s σ H xs us Q I r h
 obtain⟨L,ys,kvs,rfl,hL,hp,nd,hz,q⟩:=h
 obtain⟨u,rfl,rx⟩:=vals1 r
 cases rx
 refine callType_codes (Q₁:=fun obj s₁=>obj=.ref s.heap.objs.size/\s₁={ s with heap:=s.heap.push { cls:=.type "dict",data:=.dict #[]}}) F.kt_called_dict (F.kt_typeCall_dict_1 _) F.entry_dict_init (kt_code_dict_new _ ⟨rfl,rfl⟩) ?_
 rintro obj s₁ ⟨rfl,rfl⟩
 have FH:(s.heap.push { cls:=.type "dict",data:=.dict #[]}).DictOf (cv X.prog X.w) s.heap.objs.size []:=Heap.DictOf.new s.heap
 have hn:=I.bH.fresh (Nat.le_refl _)
 have I1:L2.Inv X pins σ (upd H s.heap.objs.size (.dK [])) { s with heap:=s.heap.push { cls:=.type "dict",data:=.dict #[]}}:=I.laid (a:=s.heap.objs.size) (o:=.dK []) (t':=s.toks) (fun _ _ q=>Heap.get?_push_of_some _ q) (Nat.le_refl _) (AQ s.heap I.big)
 refine⟨FH.typeIs,F.args_dict_init_2 _ _,?_⟩
 unfold Builtin.«dict.__init__»
 refine wpAny_bind ?_
 unfold Builtin.Dict.selfAndRest
 refine wpAny_bind (wpAny_notOrdered_dict FH.typeIs ?_)
 show wpAny _ _ (pure (s.heap.objs.size,[Value.ref L])) _ _ _
 refine wpAny_pure ?_
 show wpAny _ _ (Builtin.Dict.updateFrom "dict.__init__" s.heap.objs.size (.ref L) [] .none) _ _ _
 unfold Builtin.Dict.updateFrom
 have hdL:s.heap.objs.size≠L:=fun e=>by rw[<- e,hn] at hL;cases hL
 have hL1:(upd H s.heap.objs.size (HO.dK [])) L=some (.lst ys):=by rw[ag (Ne.symm hdL)];exact hL
 obtain⟨VT,aG,n,rv,eL⟩:=(show aP X.prog X.w _ _ L (.lst ys) from I1.bH L _ hL1)
 have hA:X.A.handled=none:=I.ok.hd hc
 refine wpAny_bind (wpAny_typeOf (T:="list") ⟨_,eL,rfl⟩ ?_)
 rw[if_pos (by decide)]
 refine wpAny_bind (F5 eL rfl rfl rfl (by exact hA) fun h1 Ug Zv=>?_)
 rw[if_pos (by rfl)]
 have I2:L2.Inv X pins σ (upd H s.heap.objs.size (.dK [])) { s with heap:=h1,toks:=Ug}:=I1.kept (t':=Ug) Zv
 have eL2:h1.get? L=some { cls:=.type "list",data:=.seq aG.toArray n}:=Zv _ _ eL
 refine wpAny_bind (wpAny_rule (wpAny_bind (wpAny_pyIter_list (s:={ s with heap:=h1,toks:=Ug}) (items:=aG.toArray) ⟨_,eL2,rfl,n,rfl⟩ ?_)))
 have I3:L2.Inv X pins σ (upd H s.heap.objs.size (.dK [])) { s with heap:=h1.push { cls:=.type "list_iterator",data:=.fields #[.ref L,.int 0 0]},toks:=Ug}:=I2.kept (t':=Ug) fun b o e=>Heap.get?_push_of_some _ e
 have hsz:s.heap.objs.size < h1.objs.size:=I2.bH.lt ak
 have hlo:s.heap.objs.size<=h1.objs.size:=Nat.le_of_lt hsz
 have Xp:H h1.objs.size=none:=by
   have:=I2.bH.fresh (Nat.le_refl h1.objs.size)
   rw[ag (Nat.ne_of_gt hsz)] at this
   exact this
 refine wpAny_pure ⟨plainId_quiet jT _,IG (kvs:=kvs) (by exact hA) (.of hL) hp nd hn (I2.uW (b:=h1.objs.size) (Nat.le_refl _) Xp) (Nat.ne_of_lt hsz) hz (fun s' I'=>⟨rfl,.ref _,_,I',rfl,q _ hn⟩) kvs.length 0 _ _ (by omega) (by omega) I3 ⟨_,Heap.get?_push_size _ rfl,rfl,rfl⟩⟩
end
section
variable {X:Cx}{G:Gr}{dl:List Slot}{a:Expr}{pos p:Pos}{kds:List (Key×Dt)}
noncomputable def IH (kd:Key×Dt):Dt:=.tup [kD kd.1,kd.2]
theorem II {K:W.Frag}{Hf H:Hp}(sm:aE Hf H):∀ {ys:List V} {kds:List (Key×Dt)},bD K Hf ys (kds.map IH)->∃ kvs,GW K H ys kvs/\cW K Hf kvs kds
 | _,[],.nil=>⟨[],.nil,.nil⟩
 | _,(k,d)::kds,.cons r t=>by
   obtain⟨kvs,h1,h2⟩:=II sm t
   cases r with
   | @tup a vs _ hs rp=>
     cases rp with
     | @cons v1 _ _ _ r1 r2=>cases r2 with
       | @cons v2 _ _ _ r2 r3=>
         cases r3
         have e1:v1=kV k:=by
           cases k with
           | inl i=>cases r1;rfl
           | inr x=>cases r1;rfl
         subst e1
         exact⟨(k,v2)::kvs,.cons (gk sm hs) h1,.cons r2 h2⟩
theorem cW.keys {K:W.Frag}{H:Hp}:∀ {v:List (Key×V)} {d:List (Key×Dt)},cW K H v d->v.map (·.1)=d.map (·.1)
 | _,_,.nil=>rfl
 | _,_,.cons _ r=>by rw[List.map_cons,List.map_cons,cW.keys r]
theorem lI (hm:X.mg "dict"=none)(hc:X.calm=true)(ha:EE X G dl a (.lst (kds.map IH)))(nd:(kds.map (·.1)).Nodup)(hz:kds.length<=sizeLine)(hg:Gl X "dict":=by rfl)(he:starEach [a] X.env=[(false,eval a X.env)]:=by rfl):EO X G dl (.Call (.Name "dict" p) [a] [] pos) (.dw kds):=
 iW (mB (zd hc) hg hm boot_dict (ae ha ai he) (he:=he)) fun st H Q ⟨Hf,S,k⟩=>⟨Hf,S,fun vs aw H1 g1 r1=>by
   cases r1 with
   | cons r t=>cases t;cases r with
     | @lst q vs _ z r=>
       obtain⟨kvs,h1,h2⟩:=II g1.sub r
       exact⟨q,vs,kvs,rfl,g1.sub _ _ z,h1,by rw[h2.keys];exact nd,by rw[h2.length];exact hz,fun l hl=>k l aw _ (g1.trans (.fU g1.sub hl)) (g1.big.free hl) (g1.sub.free hl) ⟨kvs,ak,h2⟩⟩⟩
theorem F6:RW X "str.count" (fun x vs H Q=>∃ z y:Str,x=.str z/\vs=[.str y]/\Q (.int (Txt.count z y)) H):=by
 intro pins s σ H x vs v us Q I rx rv ⟨z,y,e1,e2,q⟩
 subst e1 e2
 obtain⟨t,rfl⟩:=(show ∃ t,v=Value.str z t from rx)
 obtain⟨u,rfl,ru⟩:=vals1 rv
 obtain⟨t',rfl⟩:=(show ∃ t,u=Value.str y t from ru)
 exact PySem.SC.count ⟨.int (Txt.count z y),H,I.tok _,⟨_,rfl⟩,q⟩
end
section
inductive IJ:List (Key×Value)->List (Key×Value)->Prop
 | nil:IJ [] []
 | cons {k:Key} {i:Int} {t u:Tok} {xs ys:List (Key×Value)}:IJ xs ys->IJ ((k,.int i t)::xs) ((k,.int i u)::ys)
end
theorem vA {H:Hp}{q:Addr}{o:HO}(h:H q=some o):upd H q o=H:=by
 funext b
 by_cases e:b=q
 . subst e;rw[ak,h]
 . rw[ag e]
section
variable {X:Cx}{G:Gr}{dl:List Slot}{a b:Expr}{x:Str}{apos bY:Pos}{kds:List (Key×Dt)}
noncomputable def dI (kds:List (Key×Int)):List (Key×Dt):=kds.map fun kd=>(kd.1,Dt.int kd.2)
theorem Mc {K:W.Frag}{H:Hp}:∀ {kds:List (Key×Int)} {kvs:List (Key×V)},cW K H kvs (dI kds)->kvs=kds.map fun kd=>(kd.1,V.int kd.2)
 | [],_,.nil=>rfl
 | (k,i)::kds,_,.cons r t=>by
   cases r
   rw[Mc (kds:=kds) t];rfl
theorem F7 {z w:Str}(ha:EE X G dl a (.str z))(hb:EE X G dl b (.str w))(kf:attributeBase a "count" X.env (eval a X.env)=eval a X.env:=by rfl)
   (va:((backTo bY (starEach [b] X.env)).all (fun x=>!x.1) && (backToKw bY (keywordEach [] X.env)).all (fun x=>x.1.isSome) && decide ([b].length+([]:List Keyword).length+(if ([]:List Keyword).isEmpty then 0 else 1) < 30))=true:=by rfl)
   (kg:(apos.endLine == bY.line)=true:=by rfl) (qm:starEach [b] X.env=(false,eval b X.env)::starEach [] X.env:=by rfl):EE X G dl (.Call (.Attribute a "count" apos) [b] [] bY) (.int (Txt.count z w)):=
 iW (u9 PySem.F.plainAttrs_str PySem.F.slot_str_count PySem.F.type_str_count F6 ha (ae hb ai qm) kf va kg qm rfl) fun st H Q ⟨Hf,S,k⟩=>⟨Hf,S,fun v aw H1 g1 r1=>by
   cases r1
   exact⟨rfl,aw,S.grow g1,fun vs bZ H2 g2 r2=>by
     cases r2 with
     | cons r t=>cases t;cases r;exact⟨z,w,rfl,rfl,k _ bZ H2 (g1.trans g2) (.int _)⟩⟩⟩
end
structure ze (X:Cx)(N:List Str)(xt:Str)(ix:List Nat)(sc:Scope):Prop where
 nd:N.Nodup
 nm:N=xt::ix.map (fun j=>X.N.getD j "")
 kind:sc.kind=.function
 one:sc.names.filter (fun y=>y.2 == .cell)=[(xt,.cell)]
 names:∀ y∈sc.names,y.2=.local->sc.names.lookup y.1=some .local
 hx:sc.names.lookup xt=some .cell
 OR:∀ y∈sc.names,y.2=.free->y.1≠xt
 fr:∀ y∈sc.names,y.2=.free->X.env.kindOf y.1=some .cell\/X.env.kindOf y.1=some .free
 Tu:∀ j∈ix,∃ y,X.N[j]?=some y/\sc.names.lookup y=some .free
noncomputable def lR (X:Cx)(N:List Str)(sc:Scope)(xt:Str)(c C:Addr)(fp:List Addr)(s:Shared)(H:Hp):Cx:=
 { X with N:=N,s₀:=s,H₀:=H,env:=compEnvC sc ((xt,c)::lQ sc X.env) C X.env,outer:=X.stack,stack:=X.stack,ex:=fp,fn:=fun y=>y == xt,pn:=[],xe:=wU}
theorem El:∀ {names:List (Str×NameKind)} {acc:List (Str×Addr)} {n:Nat} {h:Heap},names.filter (fun y=>y.2 == .cell)=[]->cellsFrom n names acc=acc/\pushCells h names=h
 | [],_,_,_,_=>⟨rfl,rfl⟩
 | (y,k)::r,acc,n,h,e=>by
   by_cases hk:(k == NameKind.cell)=true
   . rw[List.filter_cons_of_pos (by exact hk)] at e;cases e
   . rw[List.filter_cons_of_neg (by exact hk)] at e
     unfold cellsFrom pushCells
     rw[if_neg hk,if_neg hk]
     exact El e
theorem Bl {x:Str}:∀ {names:List (Str×NameKind)} {acc:List (Str×Addr)} {n:Nat} {h:Heap},names.filter (fun y=>y.2 == .cell)=[(x,.cell)]->cellsFrom n names acc=(x,n)::acc/\pushCells h names=h.push { cls:=.type "cell",data:=.cell none}
 | [],_,_,_,e=>by cases e
 | (y,k)::r,acc,n,h,e=>by
   by_cases hk:(k == NameKind.cell)=true
   . rw[List.filter_cons_of_pos (by exact hk)] at e
     injection e with e1 e2
     cases e1
     unfold cellsFrom pushCells
     rw[if_pos hk,if_pos hk]
     exact El e2
   . rw[List.filter_cons_of_neg (by exact hk)] at e
     unfold cellsFrom pushCells
     rw[if_neg hk,if_neg hk]
     exact Bl e
theorem Md {M:Model}{A:Around}{E:Value->Shared->Prop}{s:Shared}{sc:Scope}{globals:Addr}{cl:List (Str×Addr)}{qual:Str}{around:Env}{x:Str}{Q:Env->Shared->Prop}(h1:sc.names.filter (fun y=>y.2 == .cell)=[(x,.cell)])(hQ:Q { scope:=sc,locals:=s.heap.objs.size,globals:=globals,cells:=(x,s.heap.objs.size+1)::cl,qual:=qual,func:=none,code:=around.code,frame:=around.frame,builtins:=around.builtins} { s with heap:=(s.heap.push { cls:=.type "dict",data:=.dict #[]}).push { cls:=.type "cell",data:=.cell none}}):wpAny M A (newFunctionEnv sc globals cl [] qual none .none (some around)) Q E s:=by
 simp only[newFunctionEnv,Option.isSome_some,if_true]
 refine wpAny_bind (wpAny_alloc ?_)
 refine wpAny_bind (wpAny_layCells _ (fun name kind cells=>by cases hkc:kind == NameKind.cell <;> simp[hkc]) _ _ _ _ ?_)
 obtain⟨e1,e2⟩:=Bl (acc:=cl) (n:=(s.heap.push { cls:=.type "dict",data:=.dict #[]}).objs.size) (h:=s.heap.push { cls:=.type "dict",data:=.dict #[]}) h1
 show wpAny M A (forIn [] PUnit.unit _ >>= _) Q E _
 rw[List.forIn_nil]
 refine wpAny_bind (wpAny_pure (wpAny_pure ?_))
 dsimp only
 rw[e1,e2,Heap.size_push]
 exact hQ
section
variable {X:Cx}{N:List Str}{xt:Str}{ix:List Nat}{sc:Scope}{pins:List (Addr×Obj)}{st:L2.St}{H H':Hp}{s s':Shared}{c C D:Addr}{fp:List Addr}{h1:Heap}
theorem Me (B:ze X N xt ix sc)(ok:X.Ok):closureFor sc X.env=pure (lQ sc X.env):=yS fun y hy hk=>ok.has y.1 (B.fr y hy hk)
theorem pB (B:ze X N xt ix sc)(ok:X.Ok){y:Str}{c:Addr}(h:(lQ sc X.env).lookup y=some c):X.env.cells.lookup y=some c/\(y,NameKind.free)∈sc.names:=by
 rcases qT _ _ h with⟨h1,h2⟩ | h1
 . obtain⟨c',h3⟩:=ok.has y (B.fr _ h1 rfl)
   rw[h3] at h2
   cases h2
   exact⟨h3,h1⟩
 . cases h1
theorem jH {y xt:Str}{c d:Addr}{cl:List (Str×Addr)}(h:((xt,c)::cl).lookup y=some d):(y=xt/\d=c)\/(y≠xt/\cl.lookup y=some d):=by
 rw[List.lookup_cons] at h
 cases q:(y == xt) with
 | true=>rw[q] at h;exact .inl ⟨by simpa using q,(Option.some.inj h).symm⟩
 | false=>rw[q] at h;exact .inr ⟨by simpa using q,h⟩
theorem uq (B:ze X N xt ix sc)(I:L2.Inv X pins st H s)(hC:s.heap.objs.size<=C)(hc:s.heap.objs.size<=c)(hf:∀ b∈fp,lD X pins H b)(dy:∀ b∈fp,b < s.heap.objs.size):(lR X N sc xt c C fp s H).Ok where
 mod:=I.ok.mod
 kind:=B.kind
 glob:=I.ok.glob
 blt:=I.ok.blt
 above:=hC
 inj:=fun y z d h1 h2=>by
   have old:∀ {y:Str},(lQ sc X.env).lookup y=some c->False:=fun {y} h=>by
     obtain⟨v,q⟩:=I.cell y c (pB B I.ok h).1
     exact absurd (Nat.lt_of_lt_of_le q.lt hc) (Nat.lt_irrefl _)
   rcases jH h1 with⟨e1,e2⟩ | ⟨e1,e2⟩ <;> rcases jH h2 with⟨e3,e4⟩ | ⟨e3,e4⟩
   . rw[e1,e3]
   . rw[e2] at e4;exact(old e4).elim
   . rw[e4] at e2;exact(old e2).elim
   . exact I.ok.inj y z d (pB B I.ok e2).1 (pB B I.ok e4).1
 has:=fun y hy=>by
   have hy:(relabel sc X.env).names.lookup y=some .cell\/(relabel sc X.env).names.lookup y=some .free:=hy
   show ∃ d,((xt,c)::lQ sc X.env).lookup y=some d
   by_cases e:y=xt
   . subst e;exact⟨c,by simp[List.lookup_cons]⟩
   . have nc:(y,NameKind.cell) ∉ sc.names:=fun hm=>by
       have:(y,NameKind.cell)∈sc.names.filter (fun y=>y.2 == .cell):=List.mem_filter.mpr ⟨hm,rfl⟩
       rw[B.one] at this
       have:=List.mem_singleton.mp this
       exact e (congrArg Prod.fst this)
     have:(y,NameKind.free)∈sc.names:=by
       rcases hy with hy | hy
       . obtain⟨k',h1,h2⟩:=gm hy
         rcases h2 with h2 | h2
         . subst h2;exact absurd h1 nc
         . subst h2;exact h1
       . obtain⟨k',h1,h2⟩:=gm hy
         rcases h2 with h2 | h2 <;> subst h2 <;> exact h1
     obtain⟨d,hd⟩:=kh (cells:=X.env.cells) sc.names [] (.inl this)
     refine⟨d,?_⟩
     rw[List.lookup_cons,show(y == xt)=false by simpa using e]
     exact hd
 RS:=fun y d h1 h2=>by
   rcases jH h2 with⟨_,e⟩ | ⟨e,_⟩
   . rw[e];exact hc
   . exact absurd (by have h1:(y == xt)=true:=h1;simpa using h1) e
 hd:=I.ok.hd
 frames:=I.ok.frames
 Sh:=.inl rfl
 Ll:=fun b hb=>⟨Nat.ne_of_lt (Nat.lt_of_lt_of_le (dy b hb) hC),fun y d h=>by
   rcases jH h with⟨_,e⟩ | ⟨_,e⟩
   . rw[e];exact Nat.ne_of_gt (Nat.lt_of_lt_of_le (dy b hb) hc)
   . exact(hf b hb).2.2.2.2.1 y d (pB B I.ok e).1⟩
 bs:=I.bs
 DK:=Nat.le_trans I.ok.DK I.sz
 As:=fun b o e hb=>by
   rcases (hf b hb).2.2.2.1 with z | z
   . exact I.ok.As b o e z
   . exact absurd (Nat.lt_of_lt_of_le (Heap.lt_size e) (Nat.le_trans I.ok.DK z)) (Nat.lt_irrefl _)
 Au:=fun b hb z=>by
   rcases List.mem_cons.mp (I.uV b z) with z | z
   . exact(hf b hb).2.1 z
   . exact(hf b hb).2.2.1 z
 rL:=I.stack
 NM:=I.uc
theorem CW (B:ze X N xt ix sc)(I:L2.Inv X pins st H s)(hf:∀ b∈fp,lD X pins H b)(dy:∀ b∈fp,b < s.heap.objs.size)(hC:C=s.heap.objs.size+1)(Sm:c=s.heap.objs.size+2)(k:∀ b o,s.heap.get? b=some o->h1.get? b=some o)(hn:h1.Ns C fun _=>none)(Xq:h1.IsCell c none)(hD:h1.get? s.heap.objs.size=some { cls:=.type "list",data:=.seq ([]:List Value).toArray 0}){t':Nat}:L2.Inv (lR X N sc xt c C fp s H) [] (List.replicate 1 none ++ frees ix st) (upd H s.heap.objs.size (.lst [])) { s with heap:=h1,toks:=t'}:=by
 have N1:s.heap.objs.size<=C:=by rw[hC];exact Nat.le_succ _
 have xG:s.heap.objs.size<=c:=by rw[Sm];exact Nat.le_add_right _ _
 have fr:∀ a,s.heap.objs.size<=a->H a=none:=fun a ha=>I.bH.fresh ha
 have ok:=uq (c:=c) B I N1 xG hf dy
 have Cf:∀ y c,(lQ sc X.env).lookup y=some c->H c=none/\c < s.heap.objs.size/\∃ v,s.heap.IsCell c v:=fun y c h=>by
   have h:=(pB B I.ok h).1
   obtain⟨v,q⟩:=I.cell y c h
   exact⟨I.p9 y c h,q.lt,v,q⟩
 refine⟨ok,rfl,I.bare,Un.laid k (Nat.le_refl _) (fr _ (Nat.le_refl _)),⟨_,hn,fun i y v e1 e2 e3=>?_⟩,fun y d h=>?_,?_,fun y d h=>?_,fun p hp=>absurd (show p∈([]:List (Addr×Obj)) from hp) (by simp),?_,?_⟩
 . have e1:N[i]?=some y:=e1
   cases i with
   | zero=>cases e2
   | succ i=>
     rw[B.nm,List.getElem?_cons_succ,List.getElem?_map] at e1
     have e2:(frees ix st)[i]?=some (some v):=e2
     unfold frees at e2
     rw[List.getElem?_map] at e2
     cases q:ix[i]? with
     | none=>rw[q] at e1;cases e1
     | some j=>
       rw[q] at e1 e2
       obtain⟨y',K7,FV⟩:=B.Tu j (List.mem_of_getElem? q)
       have LU:=PySem.mem_of_lookup FV
       have ey:y=y':=by
         have e1:X.N.getD j ""=y:=Option.some.inj e1
         rw[List.getD_eq_getElem?_getD,K7] at e1
         exact e1.symm
       subst ey
       have e2:(st[j]?).join=some v:=Option.some.inj e2
       have Tv:st[j]?=some (some v):=by
         cases q2:st[j]? with
         | none=>rw[q2] at e2;cases e2
         | some z=>rw[q2] at e2;rw[show z=some v from e2]
       have kd:=B.fr _ LU rfl
       have nx:y≠xt:=B.OR _ LU rfl
       have Tw:uU X.env.scope y:=by
         rcases kd with z | z
         . exact .inr (.inl z)
         . exact .inr (.inr z)
       obtain⟨m,_,hl⟩:=I.loc
       obtain⟨u,r,l⟩:=hl j y v K7 Tv Tw
       refine⟨u,r,.inr ?_⟩
       rcases l with⟨z,_⟩ | ⟨_,d,hd,ic⟩
       . rcases kd with z' | z' <;> rw[z] at z' <;> cases z'
       . obtain⟨d',NN⟩:=kh (cells:=X.env.cells) sc.names [] (.inl LU)
         have:=(pB B I.ok NN).1
         rw[hd] at this;cases this
         obtain⟨oc,DM,FR⟩:=ic
         refine⟨?_,d,?_,oc,k _ _ DM,FR⟩
         . rcases e3 with e3 | e3 | e3
           . have e3:(relabel sc X.env).names.lookup y=some .local:=e3
             rcases mZ (env:=X.env) FV with z | z
             . exact absurd (e3.symm.trans z) (by decide)
             . exact absurd (e3.symm.trans z) (by decide)
           . exact .inl e3
           . exact .inr e3
         . show((xt,c)::lQ sc X.env).lookup y=some d
           rw[List.lookup_cons,show(y == xt)=false by simpa using nx]
           exact NN
 . rcases jH h with⟨_,e⟩ | ⟨_,e⟩
   . rw[e];exact⟨none,Xq⟩
   . obtain⟨_,_,v,oc,DM,hd⟩:=Cf y d e
     exact⟨v,oc,k _ _ DM,hd⟩
 . show upd H s.heap.objs.size (.lst []) C=none
   rw[ag (by rw[hC];exact Nat.succ_ne_self _)]
   exact fr _ N1
 . show upd H s.heap.objs.size (.lst []) d=none
   rcases jH h with⟨_,e⟩ | ⟨_,e⟩
   . rw[e,ag (by rw[Sm];exact Nat.ne_of_gt (Nat.lt_add_of_pos_right (by decide)))]
     exact fr _ xG
   . obtain⟨q1,q2,_⟩:=Cf y d e
     rw[ag (Nat.ne_of_lt q2)]
     exact q1
 . exact I.bH.laid k (Nat.le_refl _) ⟨Nat.zero_le _,[],0,.nil,hD⟩
 . show(List.replicate 1 none ++ frees ix st).length=N.length
   rw[B.nm]
   unfold frees
   simp
theorem IK {elt iter tg:Expr}{ifs:List Expr}{pos:Pos}{g:TG}{tt:TT}{te:TE}{J:It}{it:Addr}{tj:Nat->Heap->Prop}{Q:Addr->List V->Hp->Prop}{RR:Value->Addr->Result->Shared->Prop}{E:Value->Shared->Prop}(hc:X.calm=true)(B:ze X N xt ix sc)(hg:∀ c C fp s H,PG (lR X N sc xt c C fp s H) tg g)(ht:∀ c C fp s H,N6 (lR X N sc xt c C fp s H) ifs tt)(ky:∀ c C fp s H,PE (lR X N sc xt c C fp s H) elt te)(I:L2.Inv X pins st H s)(T:Turn X.prog X.w X.K tg J fp it tj)(h0:tj 0 s.heap)(hf:∀ b∈fp,lD X pins H b)(hq:∀ D,H D=none->Ed 1 g tt te (frees ix st) J D (Q D) H)(Tx:∀ D C ys H' s',L2.Inv X pins st H' s'->(∃ m,s'.heap.Ns C m)->lD X pins H' C->Q D ys H'->RR (.ref D) C (.ok .next) s'):wpAny (model X.prog X.w) X.A (newList []) (fun acc s3=>wpAny (model X.prog X.w) X.A (newFunctionEnv sc X.env.globals (lQ sc X.env) [] X.env.qual none .none (some X.env)) (fun A2 s4=>codeAny (model X.prog X.w) X.A (.compStart (.ListComp elt [⟨tg,iter,ifs,0⟩] sc pos) 0 (.ref it) acc { A2 with scope:=relabel sc X.env}) (RR acc A2.locals) s4) E s3) E s:=by
 have dy:∀ b∈fp,b < s.heap.objs.size:=fun b hb=>by
   obtain⟨o,e,_⟩:=T.obj _ _ h0 b hb
   exact Heap.lt_size e
 refine wpAny_newObj_type (Md B.one ?_)
 dsimp only
 generalize hG:s.heap.push { cls:=.type "list",dict:=none,data:=.seq ([]:List Value).toArray}=g'
 generalize VV:(g'.push { cls:=.type "dict",data:=.dict #[]}).push { cls:=.type "cell",data:=.cell none}=h1
 have hC:g'.objs.size=s.heap.objs.size+1:=by rw[<- hG,Heap.size_push]
 have VF:s.heap.objs.size≠g'.objs.size:=by rw[hC];exact Nat.ne_of_lt (Nat.lt_succ_self _)
 have old:∀ b o,s.heap.get? b=some o->h1.get? b=some o:=fun b o e=>by
   rw[<- VV,<- hG]
   exact Heap.get?_push_of_some _ (Heap.get?_push_of_some _ (Heap.get?_push_of_some _ e))
 have HQ:h1.get? s.heap.objs.size=some { cls:=.type "list",data:=.seq ([]:List Value).toArray 0}:=by
   rw[<- VV,<- hG]
   exact Heap.get?_push_of_some _ (Heap.get?_push_of_some _ (Heap.get?_push_size _ rfl))
 have GQ:h1.Ns g'.objs.size fun _=>none:=by
   rw[<- VV]
   exact(Heap.Ns.new g' (.type "dict")).keeps fun b o e=>Heap.get?_push_of_some _ e
 have Xq:h1.IsCell (g'.objs.size+1) none:=by
   rw[<- VV]
   have e:g'.objs.size+1=(g'.push { cls:=.type "dict",data:=.dict #[]}).objs.size:=by rw[Heap.size_push]
   rw[e]
   exact⟨_,Heap.get?_push_size _ rfl,rfl⟩
 have hD:H s.heap.objs.size=none:=I.bH.fresh (Nat.le_refl _)
 obtain⟨W,⟨m0,w0⟩,turn⟩:=hq _ hD
 have I0:=CW (t':=s.toks) B I hf dy hC (show g'.objs.size+1=s.heap.objs.size+2 by rw[hC]) old GQ Xq HQ
 have N2:tj 0 h1:=T.keep _ _ _ h0 fun b _ o e=>old b o e
 have oG:s.heap.objs.size<=g'.objs.size:=by rw[hC];exact Nat.le_succ _
 have qo:∀ {H':Hp},(∀ b∈fp,H' b=none)->∀ b∈fp,lD (lR X N sc xt (g'.objs.size+1) g'.objs.size fp s H) [] H' b:=fun {H'} hn b hb=>
   ⟨hn b hb,((uq B I oG (Nat.le_trans oG (Nat.le_succ _)) hf dy).Ll b hb).1,(uq B I oG (Nat.le_trans oG (Nat.le_succ _)) hf dy).Au b hb,.inl hb,((uq B I oG (Nat.le_trans oG (Nat.le_succ _)) hf dy).Ll b hb).2,fun p hp=>absurd (show p∈([]:List (Addr×Obj)) from hp) (by simp)⟩
 have loop:∀ s3:Shared,s3={ s with heap:=h1} ->
     codeAny (model X.prog X.w) X.A (.compLoop (.ListComp elt [⟨tg,iter,ifs,0⟩] sc pos) 0 (.ref it) (.ref s.heap.objs.size) (compEnvC sc ((xt,g'.objs.size+1)::lQ sc X.env) g'.objs.size X.env)) (RR (.ref s.heap.objs.size) g'.objs.size) s3:=by
   rintro s3 rfl
   refine Ba (fun n s'=>∃ i ys σ H',σ.length=1/\L2.Inv (lR X N sc xt (g'.objs.size+1) g'.objs.size fp s H) [] (σ ++ frees ix st) H' s'/\tj i s'.heap/\(∀ b∈fp,H' b=none)/\W i n ys H') ?_ m0
     ⟨0,[],List.replicate 1 none,_,by simp,I0,N2,fun b hb=>?_,w0⟩
   . rintro n s5 ⟨i,ys,σ,H5,hσ,I5,GP,K5,w5⟩
     rcases turn i n ys H5 w5 with⟨stop,qn⟩ | ⟨go,hz,step⟩
     . refine b7 (T.done (lR X N sc xt (g'.objs.size+1) g'.objs.size fp s H) rfl rfl rfl hc i [] s5 _ H5 wU I5 (qo K5) GP stop) fun r s6 ⟨hr,I6⟩=>?_
       subst hr
       refine Tx _ _ ys H5 s6 ?_ ?_ (I.uW oG I6.free) qn
       . exact I.Hd I6.os I6.base I6.bH I6.bare fun b hb=>⟨(hf b hb).2.2.2.1,(hf b hb).2.1,(hf b hb).2.2.2.2.1,(hf b hb).2.2.2.2.2⟩
       . obtain⟨m,hm,_⟩:=I6.loc
         exact⟨m,hm⟩
     . refine b7 (T.item (lR X N sc xt (g'.objs.size+1) g'.objs.size fp s H) rfl rfl rfl hc i [] s5 _ H5 wU I5 (qo K5) GP go) fun r s6 ⟨u,hr,h6⟩=>?_
       subst hr
       refine b7 h6 fun _ s7 ⟨v,H7,I7,r7,y7,HR,Tz⟩=>?_
       have TB:=I7.pinned (qo Tz) (T.obj _ _ HR)
       refine b7 (hg (g'.objs.size+1) g'.objs.size fp s H _ s7 _ H7 v u _ TB r7 (step σ hσ v H7 y7)) fun _ s8 h8=>?_
       obtain⟨σ8,H8,I8,σ',e8,TU,h8⟩:=h8
       subst e8
       have pinned:∀ {σ9:L2.St} {H9:Hp} {s9:Shared},L2.Inv (lR X N sc xt (g'.objs.size+1) g'.objs.size fp s H) ([] ++ rR fp s7.heap) σ9 H9 s9->tj (i+1) s9.heap/\∀ b∈fp,H9 b=none:=fun {σ9 H9 s9} I9=>by
         refine⟨T.keep _ _ _ HR fun b hb o e=>(I9.pin (b,o) (List.mem_append_right _ (List.mem_append_right _ (gj hb e)))).1,fun b hb=>?_⟩
         obtain⟨o,e,d⟩:=T.obj _ _ HR b hb
         exact(I9.pin (b,o) (List.mem_append_right _ (List.mem_append_right _ (gj hb e)))).2.1
       refine b7 (ht (g'.objs.size+1) g'.objs.size fp s H _ s8 _ H8 _ I8 h8) fun ok W7 L1=>?_
       obtain⟨W8,L3,L1⟩:=L1
       cases ok with
       | false=>
         obtain⟨m',hm,w8⟩:=L1
         exact⟨m',hm,i+1,ys,σ',_,TU,L3.ka (pins:=[]),(pinned L3).1,(pinned L3).2,w8⟩
       | true=>
         refine b7 (ky (g'.objs.size+1) g'.objs.size fp s H _ W7 _ W8 _ L3 L1) fun z s9 ⟨y,H9,I9,r9,TC,m',hm,w9⟩=>?_
         refine b7 (o8 _ s9 _ H9 (.ref s.heap.objs.size) [y] (.ref s.heap.objs.size) [z] (fun _ H'=>H'=upd H9 s.heap.objs.size (.lst (ys ++ [y]))) I9 rfl (.cons r9 .nil) ⟨_,ys,y,rfl,rfl,TC,hz,rfl⟩) fun _ Zg TF=>?_
         obtain⟨_,Zh,HS,_,rfl⟩:=TF
         exact⟨m',hm,i+1,ys ++ [y],σ',_,TU,HS.ka (pins:=[]),(pinned HS).1,(pinned HS).2,w9⟩
   . rw[ag (Nat.ne_of_lt (dy b hb))]
     exact(hf b hb).1
 exact codeAny_compStart_list (loop _ rfl) (T.self _ 0 _ _ _ N2 (loop _ rfl))
theorem vB {env:Env}{y:Str}:∀ {names:List (Str×NameKind)},names.lookup y=some .cell->(names.map fun(n,k)=>if (k == NameKind.free && env.scope.kind == .function && env.kindOf n == some .cell) then (n,NameKind.cell) else (n,k)).lookup y=some .cell
 | [],h=>by simp at h
 | (n,kk)::r,h=>by
   rw[List.map_cons,List.lookup_cons]
   rw[List.lookup_cons] at h
   cases q:(y == n) with
   | true=>
     rw[q] at h
     have:kk=.cell:=Option.some.inj h
     subst this
     simp[q]
   | false=>
     rw[q] at h
     have ih:=vB (env:=env) h
     by_cases hc:(kk == NameKind.free && env.scope.kind == .function && env.kindOf n == some .cell)=true
     . simp only[hc,if_true,q];exact ih
     . simp only[hc,Bool.false_eq_true,if_false,q];exact ih
end
section
variable {X:Cx}{G:Gr}{dl:List Slot}{a b elt iter tg:Expr}{ifs:List Expr}{pos px:Pos}{o:Out}{xt:Str}{N:List Str}{ix:List Nat}{sc:Scope}
variable {α:Type}{as:List α}{z f:α->Dt}{sl:α->List Slot}{keep:α->Bool}{g:TG}{wi:TI}
inductive zf (X:Cx)(N:List Str)(xt:Str)(sc:Scope)(dl:List Slot)(ix:List Nat)(as:List α)(sl:α->List Slot)(keep:α->Bool):List Expr->Prop
 | nil:(∀ a∈as,keep a=true)->zf X N xt sc dl ix as sl keep []
 | one {ce:Expr}:(∀ a∈as,∀ c C fp s H G',EB (lR X N sc xt c C fp s H) G' (sl a ++ jD dl ix) ce (keep a))->zf X N xt sc dl ix as sl keep [ce]
theorem Mf (h:zf X N xt sc dl ix as sl keep ifs):∀ c C fp s H,N6 (lR X N sc xt c C fp s H) ifs (L4 X.K dl ix as sl keep):=fun c C fp s H=>by
 cases h with
 | nil h=>exact fun pins s' st H' Q I ⟨a,G',ha,Hf,S,k⟩=>wpAny_tests_nil ⟨H',I,by have:=k Hf H' (.refl S.sub);rw[h a ha] at this;exact this⟩
 | one h=>exact Ec fun pins s' st H' Q I ⟨a,G',ha,q⟩=>h a ha c C fp s H G' pins s' st H' Q I q
noncomputable def Uh (X:Cx)(N:List Str)(xt:Str)(sc:Scope)(dl:List Slot)(ix:List Nat)(as:List α)(sl:α->List Slot)(keep:α->Bool)(f:α->Dt)(elt:Expr):Prop:=∀ a∈as,keep a=true->∀ c C fp s H G',EE (lR X N sc xt c C fp s H) G' (sl a ++ jD dl ix) elt (f a)
theorem Qh (h:Uh X N xt sc dl ix as sl keep f elt):∀ c C fp s H,PE (lR X N sc xt c C fp s H) elt (L5 X.K dl ix as sl keep f):=fun c C fp s H pins s' st H' Q I ⟨a,G',ha,hk,q⟩=>h a ha hk c C fp s H G' pins s' st H' Q I q
theorem Qi {tt:TT}{te:TE}(hc:X.calm=true)(B:ze X N xt ix sc)(hi:PI X tg iter wi)(hg:∀ c C fp s H,PG (lR X N sc xt c C fp s H) tg g)(ht:∀ c C fp s H,N6 (lR X N sc xt c C fp s H) ifs tt)(ky:∀ c C fp s H,PE (lR X N sc xt c C fp s H) elt te)(hs:∀ z,foldedSetIterable iter X.env z=pure z):PE X (.ListComp elt [⟨tg,iter,ifs,0⟩] sc pos) (L6 wi 1 ix g tt te):=by
 intro pins s st H Q I h
 rw[eval_ListComp]
 refine wpAny_comprehension_free (use:=none) rfl hs (Me B I.ok) B.kind B.names (b7 (hi pins s st H _ I h) fun v s1 h1=>b7 h1 fun O2 s2 h2=>?_)
 obtain⟨it,fp,tj,J,H2,e,I2,T,GO,f2,hq⟩:=h2
 subst e
 refine IK (RR:=fun acc C=>compPost (model X.prog X.w) X.A X.xe none (EP X pins st Q) acc C) hc B hg ht ky I2 T GO f2 hq ?_
 intro D C ws H' s' I' ⟨m,hn⟩ pX q
 exact⟨m,hn,fun h' LX=>⟨.ref D,H',I'.turned (t':=s'.toks) (it:=C) (fun b o hb e=>(LX.2 b hb).trans e) pX.1 pX.2.1 pX.2.2.2.1 pX.2.2.2.2.1 pX.2.2.2.2.2,rfl,q⟩⟩
theorem IL (as:List α)(z f:α->Dt)(sl:α->List Slot)(keep:α->Bool)(hc:X.calm=true)(B:ze X N xt ix sc)(hi:PI X tg iter wi)(hg:∀ c C fp s H,PG (lR X N sc xt c C fp s H) tg g)(vq:sk X G dl (as.map z) wi)(Il:∀ a∈as,PY X.K 1 g (z a) (sl a))(Im:zf X N xt sc dl ix as sl keep ifs)(ky:Uh X N xt sc dl ix as sl keep f elt)(hn:as.length<=sizeLine)(hs:∀ z,foldedSetIterable iter X.env z=pure z:=by intro _;rfl):EO X G dl (.ListComp elt [⟨tg,iter,ifs,0⟩] sc pos) (.lst ((as.filter keep).map f)):=iW (Qi hc B hi hg (Mf Im) (Qh ky) hs) (sq vq Il hn)
theorem Bm {px:Pos}(B:ze X N xt ix sc):∀ c C fp s H,PG (lR X N sc xt c C fp s H) (.Name xt px) (mz 0):=fun c C fp s H=>by
 have hN:(lR X N sc xt c C fp s H).N[0]?=some xt:=by
   show N[0]?=some xt
   rw[B.nm];rfl
 have K8:(lR X N sc xt c C fp s H).env.scope.names.lookup xt=some .cell:=vB B.hx
 exact bI (X:=lR X N sc xt c C fp s H) B.nd hN (.inr K8) (.inl (by show(xt == xt)=true;simp))
end
noncomputable def IM (sc A9:Scope)(XN N:List Str)(xt:Str)(ix:List Nat):Bool:=
 decide N.Nodup && (decide (N=xt::ix.map (fun j=>XN.getD j "")) && (decide (sc.kind=.function) && (decide (sc.names.filter (fun y=>y.2 == .cell)=[(xt,.cell)]) && (sc.names.all (fun y=>decide (y.2=.local->sc.names.lookup y.1=some .local)) && (decide (sc.names.lookup xt=some .cell) && (sc.names.all (fun y=>decide (y.2=.free->y.1≠xt)) &&
   (sc.names.all (fun y=>decide (y.2=.free->A9.names.lookup y.1=some .cell\/A9.names.lookup y.1=some .free)) && ix.all (fun j=>decide (sc.names.lookup (XN.getD j "")=some .free) && decide (j < XN.length)))))))))
theorem Em {X:Cx}{sc A9:Scope}{XN N:List Str}{xt:Str}{ix:List Nat}(h:IM sc A9 XN N xt ix=true)(e1:X.env.scope=A9:=by rfl)(e2:X.N=XN:=by rfl):ze X N xt ix sc:=by
 subst e1 e2
 unfold IM at h
 simp only[Bool.and_eq_true,List.all_eq_true,decide_eq_true_eq] at h
 obtain⟨h1,h2,h3,h4,h5,h6,h6',h7,h8⟩:=h
 refine⟨h1,h2,h3,h4,h5,h6,h6',h7,fun j hj=>?_⟩
 obtain⟨q1,q2⟩:=h8 j hj
 refine⟨X.N.getD j "",?_,q1⟩
 rw[List.getD_eq_getElem?_getD,List.getElem?_eq_getElem q2];rfl
noncomputable def mk:HO->Bool
 | .memo _=>true
 | .bK _ _=>true
 | _=>false
theorem Rd.ex {H:Hp}{a C dx:Addr}{fs:List (Str×V)}(h:Rd H a (.ins C dx fs)):∃ o,H a=some o/\mk o=false/\(∀ x,o≠.dK x)/\∀ H':Hp,H' a=some o->Rd H' a (.ins C dx fs):=by
 rcases h with h | ⟨o,h⟩ | ⟨tg,o,kvs,h,z⟩ | ⟨o,h⟩
 . exact⟨_,h,rfl,(fun _ z=>nomatch z),fun H' e=>.inl e⟩
 . exact⟨_,h,rfl,(fun _ z=>nomatch z),fun H' e=>.inr (.inl ⟨o,e⟩)⟩
 . cases z
 . exact⟨_,h,rfl,(fun _ z=>nomatch z),fun H' e=>.inr (.inr (.inr ⟨o,e⟩))⟩
theorem b6.Zw {H:Hp}{a:Addr}{ls:km}(h:b6 H a ls):∃ o,H a=some o/\mk o=true:=by
 rcases h with h | ⟨ns,h⟩
 . exact⟨_,h,rfl⟩
 . exact⟨_,h,rfl⟩
theorem b6.inj {H:Hp}{a:Addr}{ls ls':km}(h:b6 H a ls)(h':b6 H a ls'):ls=ls':=by
 rcases h with h | ⟨ns,h⟩ <;> rcases h' with h' | ⟨ns',h'⟩ <;> rw[h] at h' <;> cases h' <;> rfl
section
variable {K:W.Frag}{Hf H:Hp}{a:Addr}{ls:km}{u:HO}
theorem Mg (hm:b6 Hf a ls){b:Addr}{o:HO}(h:Hf b=some o)(n:mk o=false):b≠a:=fun e=>by
 obtain⟨o',h1,h2⟩:=hm.Zw
 rw[e,h1] at h;cases h
 rw[h2] at n;cases n
theorem bj (hm:b6 Hf a ls){b:Addr}{o:HO}(h:Hf b=some o)(n:mk o=false):(upd Hf a u) b=some o:=by rw[ag (Mg hm h n)];exact h
theorem qY (hm:b6 Hf a ls)(hu:mk u=true):Kp Hf (upd Hf a u):=⟨fun b o e kq=>bj hm e (by cases o <;> first | rfl | exact(show False from kq).elim),fun b e=>by
 by_cases q:b=a
 . rw[q,ak]
   cases u <;> first | trivial | cases hu
 . rw[ag q];exact e,fun b x e=>bj hm e rfl⟩
noncomputable def mE (ls:km)(u:HO):Prop:=u=.memo ls\/∃ ns,u=.bK ls ns
theorem mE.mk {ls:km}{u:HO}(h:mE ls u):mk u=true:=by rcases h with rfl | ⟨ns,rfl⟩ <;> rfl
theorem F8 (hm:b6 Hf a ls)(hu:mE ls u){b:Addr}{ls':km}(h:b6 Hf b ls'):b6 (upd Hf a u) b ls':=by
 by_cases e:b=a
 . subst e
   rw[h.inj hm]
   rcases hu with rfl | ⟨ns,rfl⟩
   . exact .inl ak
   . exact .inr ⟨ns,ak⟩
 . rcases h with h | ⟨ns,h⟩
   . exact .inl (by rw[ag e];exact h)
   . exact .inr ⟨ns,by rw[ag e];exact h⟩
theorem m5 (hm:b6 Hf a ls)(hu:mE ls u){p:Addr}{f:Nat->List (Key×FD)}{n:Nat}(h:Known Hf p f n):Known (upd Hf a u) p f n:=fun i hi=>let ⟨q,o,kvs,h1,h2⟩:=h i hi;⟨q,o,kvs,bj hm h1 rfl,h2.kp (qY hm hu.mk)⟩
theorem Qj (hm:b6 Hf a ls){b:Addr}{vs:List V}(s:Cg K Hf b vs):Cg K (upd Hf a u) b vs:=by
 rcases s with s | s
 . exact .inl (bj hm s rfl)
 . exact .inr s
theorem IP (hm:b6 Hf a ls){b C dx:Addr}{fs:List (Str×V)}(s:Rd Hf b (.ins C dx fs)):Rd (upd Hf a u) b (.ins C dx fs):=by
 rcases s with s | ⟨o,s⟩ | ⟨_,_,_,_,s⟩ | ⟨o,s⟩
 . exact .inl (bj hm s rfl)
 . exact .inr (.inl ⟨o,bj hm s rfl⟩)
 . cases s
 . exact .inr (.inr (.inr ⟨o,bj hm s rfl⟩))
theorem Qk (hm:b6 Hf a ls){b:Addr}{vs:List V}(s:oe K Hf b vs):oe K (upd Hf a u) b vs:=by
 rcases s with(s | ⟨o,s⟩ | ⟨_,_,_,_,s⟩ | ⟨o,s⟩) | s
 . exact .inl (.inl (bj hm s rfl))
 . exact .inl (.inr (.inl ⟨o,bj hm s rfl⟩))
 . cases s
 . exact .inl (.inr (.inr (.inr ⟨o,bj hm s rfl⟩)))
 . exact .inr s
mutual
noncomputable def sC (a:Addr):Dt->Bool
 | .tup ds=>IQ a ds
 | .lst ds=>IQ a ds
 | .dw kds=>zg a kds
 | .mV kds=>zg a kds
 | .eG kds=>zg a kds
 | .obj _ fs=>kO a fs
 | .GR _ fs=>kO a fs
 | .memo b _ _ _=>decide (b≠a)
 | .yI _ _ _ _ _=>false
 | _=>true
noncomputable def IQ (a:Addr):List Dt->Bool
 | []=>true
 | d::r=>sC a d && IQ a r
noncomputable def zg (a:Addr):List (Key×Dt)->Bool
 | []=>true
 | (_,d)::r=>sC a d && zg a r
noncomputable def kO (a:Addr):List (Str×Dt)->Bool
 | []=>true
 | (_,d)::r=>sC a d && kO a r
end
mutual
theorem jb (hm:b6 Hf a ls)(hu:mE ls u):∀ {v:V} {d:Dt},sC a d=true->Rep K Hf v d->Rep K (upd Hf a u) v d
 | _,_,_,.c9=>.c9
 | _,_,_,.bl b=>.bl b
 | _,_,_,.int i=>.int i
 | _,_,_,.str x=>.str x
 | _,.tup ds,h,.tup s r=>.tup (Qj hm s) (sD hm hu (by rw[sC] at h;exact h) r)
 | _,.lst ds,h,.lst s r=>.lst (bj hm s rfl) (sD hm hu (by rw[sC] at h;exact h) r)
 | _,_,_,.ow s=>.ow (Qk hm s)
 | _,.dw _,h,.dw s r=>.dw (bj hm s rfl) (pC hm hu (by rw[sC] at h;exact h) r)
 | _,.obj _ _,h,.obj s r=>.obj (IP hm s) (jI hm hu (by rw[sC] at h;exact h) r)
 | _,_,_,.ty n=>.ty n
 | _,_,_,.cls C=>.cls C
 | _,_,_,.xo s r=>.xo (bj hm s rfl) r
 | _,.mV _,h,.mV s r=>.mV (bj hm s rfl) (pC hm hu (by rw[sC] at h;exact h) r)
 | _,.GR _ _,h,.GR s q g r=>.GR (bj hm s rfl) q (bj hm g rfl) (jI hm hu (by rw[sC] at h;exact h) r)
 | _,.eG _,h,.eG s r=>.eG (bj hm s rfl) (pC hm hu (by rw[sC] at h;exact h) r)
 | _,.memo b _ _ _,h,.memo h1 h2 h3 h4=>.memo h1 (by rw[sC] at h;rw[ag (of_decide_eq_true h)];exact h2) (h3.imp id fun z=>bj hm z rfl) (m5 hm hu h4)
 | _,_,_,.gc h1 h2 h3 h4=>.gc h1 (F8 hm hu h2) (h3.imp id fun z=>bj hm z rfl) (m5 hm hu h4)
 | _,_,_,.xR h=>.xR fun j p f z=>m5 hm hu (h j p f z)
 | _,.yI _ _ _ _ _,h,.yI _ _ _=>by rw[sC] at h;cases h
 | _,_,_,.i9 s=>.i9 (s.st (qY hm hu.mk).st)
 | _,_,_,.mW s=>.mW (bj hm s rfl)
theorem sD (hm:b6 Hf a ls)(hu:mE ls u):∀ {v:List V} {d:List Dt},IQ a d=true->bD K Hf v d->bD K (upd Hf a u) v d
 | _,_,_,.nil=>.nil
 | _,d::ds,h,.cons r t=>by
   rw[IQ,Bool.and_eq_true] at h
   exact .cons (jb hm hu h.1 r) (sD hm hu h.2 t)
theorem pC (hm:b6 Hf a ls)(hu:mE ls u):∀ {v:List (Key×V)} {d:List (Key×Dt)},zg a d=true->cW K Hf v d->cW K (upd Hf a u) v d
 | _,_,_,.nil=>.nil
 | _,(k,d)::ds,h,.cons r t=>by
   rw[zg,Bool.and_eq_true] at h
   exact .cons (jb hm hu h.1 r) (pC hm hu h.2 t)
theorem jI (hm:b6 Hf a ls)(hu:mE ls u):∀ {v:List (Str×V)} {d:List (Str×Dt)},kO a d=true->bg K Hf v d->bg K (upd Hf a u) v d
 | _,_,_,.nil=>.nil
 | _,(k,d)::ds,h,.cons r t=>by
   rw[kO,Bool.and_eq_true] at h
   exact .cons (jb hm hu h.1 r) (jI hm hu h.2 t)
end
noncomputable def jJ (Hf H:Hp):Hp:=fun b=>match H b with
 | some (.kd tg o kvs)=>some (.kd tg o kvs)
 | some (.kx o u)=>some (.kx o u)
 | some (.tup xs)=>some (.tup xs)
 | _=>Hf b
theorem zh {b:Addr}{u:HO}(h:H b=some u)(k:Kept u):jJ Hf H b=some u:=by
 unfold jJ;rw[h]
 cases u <;> first | rfl | exact(show False from k).elim
theorem En {b:Addr}{tg:Option (Addr×Nat)}{o:Obj}{kvs:List (Key×V)}(h:H b=some (.kd tg o kvs)):jJ Hf H b=some (.kd tg o kvs):=by unfold jJ;rw[h]
theorem pE (b:Addr):(∃ u,H b=some u/\Kept u/\jJ Hf H b=some u)\/jJ Hf H b=Hf b:=by
 unfold jJ
 cases h:H b with
 | none=>exact .inr rfl
 | some u=>cases u <;> first | exact .inr rfl | exact .inl ⟨_,rfl,trivial,rfl⟩
theorem gH (s:aE Hf H):aE Hf (jJ Hf H):=fun b u e=>by
 rcases pE (Hf:=Hf) (H:=H) b with⟨u',h1,_,h3⟩ | h
 . rw[s _ _ e] at h1;cases h1;exact h3
 . rw[h];exact e
theorem oK (s:aE Hf H):aE (jJ Hf H) H:=fun b u e=>by
 rcases pE (Hf:=Hf) (H:=H) b with⟨u',h1,_,h3⟩ | h
 . rw[h3] at e;cases e;exact h1
 . rw[h] at e;exact s _ _ e
theorem pF (s:aE Hf H):bh Hf H (jJ Hf H) H:=⟨aE.refl _,gH s,oK s,fun b u e=>by
 rcases pE (Hf:=Hf) (H:=H) b with⟨u',h1,h2,h3⟩ | h
 . rw[h3] at e;cases e;exact .inr (.inr h2)
 . rw[h] at e;exact .inl ⟨u,e⟩⟩
end
noncomputable def VW:FD->Dt
 | .int i=>.int i
 | .dw kds=>.eG (dI kds)
 | d=>.i9 d
noncomputable def oi (fd:List (Key×FD)):List (Key×Dt):=fd.map fun kd=>(kd.1,VW kd.2)
theorem x6 {K:W.Frag}{H:Hp}:∀ (kds:List (Key×Int)),cW K H (kds.map fun kd=>(kd.1,V.int kd.2)) (dI kds)
 | []=>.nil
 | (k,i)::r=>.cons (.int i) (x6 r)
theorem IS {K:W.Frag}{H:Hp}:∀ {v:V} {d:FD},Fz H v d->Rep K H v (VW d)
 | _,_,.int i=>.int i
 | _,_,.dw e=>.eG e (x6 _)
 | _,_,.lst e=>.i9 (.lst e)
 | _,_,.tup e=>.i9 (.tup e)
 | _,_,.obj e f=>.i9 (.obj e f)
theorem ur {K:W.Frag}{H:Hp}:∀ {kvs:List (Key×V)} {fd:List (Key×FD)},rK H kvs fd->cW K H kvs (oi fd)
 | _,_,.nil=>.nil
 | _,_,.cons h t=>.cons (IS h) (ur t)
theorem Ob {K:W.Frag}{H:Hp}:∀ {v:V} {d:FD},Rep K H v (VW d)->Fz H v d
 | _,.int i,r=>by cases r;exact .int i
 | _,.lst ns,r=>by cases r with | i9 h=>exact h
 | _,.tup K ns,r=>by cases r with | i9 h=>exact h
 | _,.obj C fs,r=>by cases r with | i9 h=>exact h
 | _,.dw kds,r=>by
   cases r with
   | @eG a tg ob kvs _ h r=>
     rw[Mc r] at h
     exact .dw h
theorem qp {K:W.Frag}{H:Hp}:∀ {kvs:List (Key×V)} {fd:List (Key×FD)},cW K H kvs (oi fd)->rK H kvs fd
 | _,[],.nil=>.nil
 | _,(k,d)::fd,.cons h t=>.cons (Ob h) (qp t)
theorem Ql {H H':Hp}(k:∀ b u,H b=some u->Kept u->H' b=some u){v:V}{d:FD}(h:Fz H v d):Fz H' v d:=h.st k
theorem gI {H H':Hp}(k:∀ b u,H b=some u->Kept u->H' b=some u):∀ {kvs:List (Key×V)} {kds:List (Key×FD)},rK H kvs kds->rK H' kvs kds
 | _,_,.nil=>.nil
 | _,_,.cons h t=>.cons (Ql k h) (gI k t)
section
variable {X:Cx}{G:Gr}{dl:List Slot}{a b e i:Expr}{pos p:Pos}{ls:km}{j n:Nat}{l:Addr}{f:Nat->List (Key×FD)}{ns:List Nat}
theorem Mh:RV X (fun x y H Q=>∃ (p:Addr) (k:Nat) (q:Addr) (o:Obj) (kvs:List (Key×V)),x=.ref p/\y=.int (k:Int)/\H q=some (.kd (some (p,k)) o kvs)/\k < 10000/\Q (.ref q) H):=by
 intro value slice pins s σ H x y v u Q I rx ry h hs
 obtain⟨p,k,q,o,kvs,rfl,rfl,hq,hk,kk⟩:=h
 cases rx
 obtain⟨t,rfl⟩:=ry
 obtain⟨_,_,hm⟩:=(show aP X.prog X.w H s.heap q (.kd (some (p,k)) o kvs) from I.bH q _ hq)
 obtain⟨_,aG,c,e1,e2⟩:=hm p k rfl
 have hn:=mf
 exact item_listR (items:=aG.toArray) ⟨_,e1,rfl,c,rfl⟩ (by omega) (by omega) (by rw[Int.toNat_natCast];simpa using e2) ⟨.ref q,H,I,rfl,kk⟩ hs
theorem sE {k:Nat}(hb:EE X G dl b (.memo l ls j n))(hi:EE X G dl i (.int (k:Int)))(hf:(ls.map (·.2))[j]?=some f)(hk:k < n)(hn:n<=1000)(hs:kM i:=by intro _ _;rfl):EE X G dl (.Subscript b i pos) (.eG (oi (f k))):=
 iW (u7 Mh hb hi hs) fun st H Q ⟨Hf,S,kk⟩=>⟨Hf,S,fun v aw H1 g1 r1=>⟨aw,S.grow g1,fun w bZ H2 g2 r2=>by
   cases r2
   cases r1 with
   | @memo _ p _ _ _ f' h1 h2 h3 h4=>
     have e:f'=f:=by
       rw[List.getElem?_map,h1] at hf
       exact Option.some.inj hf
     subst e
     obtain⟨q,o,kvs,q1,q2⟩:=h4 k hk
     exact⟨p,k,q,o,kvs,rfl,rfl,g2.big _ _ (g1.sub _ _ q1),by omega,kk _ bZ H2 (g1.trans g2) (.eG (g2.bw _ _ q1) (ur (q2.kp (.of g2.bw))))⟩⟩⟩
theorem IT:RV X (fun x y H Q=>∃ (a:Addr) (ls:km) (ns:List Nat) (j:Nat) (p:Addr) (f:Nat->List (Key×FD)) (N:Nat),x=.ref p/\y=.int (-1)/\H a=some (.bK ls ns)/\ls[j]?=some (p,f)/\ns[j]?=some N/\0 < N/\∀ q o kvs,H q=some (.kd (some (p,N - 1)) o kvs)->rK H kvs (f (N - 1))->Q (.ref q) H):=by
 intro value slice pins s σ H x y v u Q I rx ry h hs
 obtain⟨a,ls,ns,j,p,f,N,rfl,rfl,ha,hj,hN,h0,kk⟩:=h
 cases rx
 obtain⟨t,rfl⟩:=ry
 obtain⟨_,_,_,_,_,h5,h6⟩:=(show aP X.prog X.w H s.heap a (.bK ls ns) from I.bH a _ ha)
 obtain⟨aG,c,e1,e2,e3⟩:=h6 j p f N hj hN
 obtain⟨q,o,kvs,q1,q2,q3⟩:=e3 (N - 1) (by omega)
 have hn:=mf
 have hN':=h5 N (List.mem_of_getElem? hN)
 have hl:Heap.IsList s.heap p aG.toArray:=⟨_,e1,rfl,c,rfl⟩
 exact subscriptTail_builtinR (x:=.ref q) hl.typeIs slot_list_getitem.lookup
     (wpAny_getItem_list_neg (Q:=fun r s'=>r=.ref q/\EP X pins σ Q r s') hl (by omega) (by rw[List.size_toArray] <;> omega) (by omega) (by rw[List.size_toArray,e2,show((-1:Int)+(N:Nat)).toNat=N - 1 by omega];simpa using q1) ⟨rfl,.ref q,H,I,rfl,kk q o kvs q2 q3⟩) hs
theorem Bo {N:Nat}(hx:G.Hf l=some (.bK ls ns))(hb:EE X G dl b (.gc l ls j n))(hi:EE X G dl i (.int (-1)))(hf:(ls.map (·.2))[j]?=some f)(hN:ns[j]?=some N)(h0:0 < N)(hs:kM i:=by intro _ _;rfl):EE X G dl (.Subscript b i pos) (.eG (oi (f (N - 1)))):=
 iW (u7 IT hb hi hs) fun st H Q ⟨Hf,S,kk⟩=>⟨Hf,S,fun v aw H1 g1 r1=>⟨aw,S.grow g1,fun w bZ H2 g2 r2=>by
   cases r2
   cases r1 with
   | @gc _ p _ _ _ f' h1 h2 h3 h4=>
     have e:f'=f:=by
       rw[List.getElem?_map,h1] at hf
       exact Option.some.inj hf
     subst e
     have g:=g1.trans g2
     refine⟨l,ls,ns,j,p,f',N,rfl,rfl,g.sub _ _ (g.bw _ _ (S.gr.bw _ _ hx)),h1,hN,h0,fun q o kvs q1 q2=>?_⟩
     have ga:=pF g2.sub
     exact kk _ _ H2 (g.trans ga) (.eG (En q1) (ur (gI (fun b u e kq=>zh e kq) q2)))⟩⟩
theorem F9:lE X (.builtin "len") (fun xs H Q=>∃ (a:Addr) (ls:km) (ns:List Nat) (j:Nat) (p:Addr) (f:Nat->List (Key×FD)) (N:Nat),xs=[.ref p]/\H a=some (.bK ls ns)/\ls[j]?=some (p,f)/\ns[j]?=some N/\Q (.int (N:Nat)) H):=by
 intro pins s σ H xs us Q I r h
 obtain⟨a,ls,ns,j,p,f,N,rfl,ha,hj,hN,q⟩:=h
 obtain⟨u,rfl,rx⟩:=vals1 r
 cases rx
 obtain⟨_,_,_,_,_,h5,h6⟩:=(show aP X.prog X.w H s.heap a (.bK ls ns) from I.bH a _ ha)
 obtain⟨aG,c,e1,e2,e3⟩:=h6 j p f N hj hN
 have hn:=mf
 have hN':=h5 N (List.mem_of_getElem? hN)
 have hl:Heap.IsList s.heap p aG.toArray:=⟨_,e1,rfl,c,rfl⟩
 exact Calls.call_len_list hl (by simp only[List.size_toArray] <;> omega) ⟨.int (N:Nat),H,I.tok _,⟨s.toks+1,by rw[List.size_toArray,e2]⟩,q⟩
theorem Eo {N:Nat}(hm:X.mg "len"=none)(hx:G.Hf l=some (.bK ls ns))(hb:EE X G dl b (.gc l ls j n))(hN:ns[j]?=some N)(hg:Gl X "len":=by rfl)(he:starEach [b] X.env=[(false,eval b X.env)]:=by rfl):EE X G dl (.Call (.Name "len" p) [b] [] pos) (.int (N:Nat)):=
 iW (i8 F9 hg hm PySem.boot_len (ae hb ai he) (he:=he)) fun st H Q ⟨Hf,S,kk⟩=>⟨Hf,S,fun vs aw H1 g1 r1=>by
   cases r1 with
   | cons r t=>cases t;cases r with
     | @gc _ p _ _ _ f' h1 h2 h3 h4=>exact⟨l,ls,ns,j,p,f',N,rfl,g1.sub _ _ (g1.bw _ _ (S.gr.bw _ _ hx)),h1,hN,kk _ aw H1 g1 (.int _)⟩⟩
theorem ip {d:Dt}{k:Str}{kds:List (Key×Dt)}(hu:X.A.units+1 < cLine)(ho:EE X G dl b (.eG kds))(hi:EE X G dl i (.str k))(h:lG kds (.inr k)=some d)(hs:HA i):EE X G dl (.Subscript b i pos) d:=
 iW (yH hu ho hi hs) fun st H Q ⟨Hf,S,kk⟩=>⟨Hf,S,fun v aw H1 g1 r1=>⟨aw,S.grow g1,fun w bZ H2 g2 r2=>by
   cases r2
   cases r1 with
   | @eG q tg ob kvs _ hq rp=>
     obtain⟨y,z1,z2⟩:=rp.val h
     have e:rW H2 q (kV (.inr k)) (og kvs (.inr k)):=.inl ⟨kvs,.inr k,.inr (.inr (.inl ⟨tg,ob,kvs,g2.big _ _ (g1.sub _ _ hq),rfl⟩)),rfl,rfl⟩
     rw[z1] at e
     exact⟨q,y,rfl,e,kk y bZ H2 (g1.trans g2) (z2.mono g2.bw)⟩⟩⟩
theorem Oc {kds:List (Key×Dt)}(h:EO X G dl e (.dw kds)):EE X G dl e (.eG kds):=by
 intro pins s st H Q I ⟨Hf,S,kk⟩
 refine b7 (h pins s st H (fun v H'=>∃ p aH,v=.ref p/\bh Hf H aH H'/\H p=none/\aH p=none/\gZ X.K aH H' p (.dw kds)) I ⟨Hf,S,fun p aH H' g n n' r=>⟨p,aH,rfl,g,n,n',r⟩⟩) fun u s1 ⟨v,H',I1,rv,q,aH,ev,g,n,n',kvs,hq,rp⟩=>?_
 subst ev
 obtain⟨hz,lo,vs,kv,ob,es,ep,ho,hr⟩:=(show aP X.prog X.w H' s1.heap q (.dK kvs) from I1.bH q _ hq)
 have I2:L2.Inv X pins st (upd H' q (.kd none ob kvs)) s1:=lZ (h':=s1.heap) (t':=s1.toks) I1 (by rw[hq];trivial) ⟨rfl,fun _ _=>rfl⟩ ⟨ob,ho⟩ ⟨ho,⟨hz,lo,vs,kv,ob,es,ep,ho,hr⟩,fun p i z=>by cases z⟩
 have sm:aE aH (upd aH q (.kd none ob kvs)):=bE n'
 refine⟨.ref q,_,I2,rv,kk _ (upd aH q (.kd none ob kvs)) _ ⟨fun b o hb=>?_,g.bw.trans sm,cH g.sub,fun b o hb=>?_⟩ (.eG ak (rp.mono sm))⟩
 . rw[ag (av hb n)];exact g.big _ _ hb
 . by_cases e:b=q
   . subst e;exact .inr (.inl n)
   . rw[ag e] at hb;exact g.new b o hb
theorem CY:RW X "dict.values" (fun x xs H Q=>∃ (d:Addr) (kvs:List (Key×V)),x=.ref d/\xs=[]/\Rd H d (.dK kvs)/\∀ l,H l=none->Q (.ref l) (upd H l (.ext fun h=>h.IsValuesView l d))):=by
 intro pins s σ H x xs v us Q I rx rv ⟨d,kvs,e1,e2,hq,q⟩
 subst e1 e2
 cases rx
 cases rv
 obtain⟨hz,lo,vs,kv,hD⟩:=xP I.bH hq
 refine call_meetsIn PySem.F.slot_dict_values hD.typeIs PySem.F.entry_dict_values (PySem.F.args_dict_values_1 _) (meets_dict_values (cv X.prog X.w) d lo) ⟨⟨vs,hD⟩,?_⟩
 refine⟨.ref s.heap.objs.size,_,I.laid (a:=s.heap.objs.size) (t':=s.toks) (o:=.ext fun h=>h.IsValuesView s.heap.objs.size d) (fun b o e=>Heap.get?_push_of_some _ e) (Nat.le_refl _) ?_,rfl,q _ (I.bH.fresh (Nat.le_refl _))⟩
 exact⟨⟨_,Heap.get?_push_size _ rfl,rfl,rfl⟩,⟨_,Heap.get?_push_size _ rfl⟩,fun h1 h2 ⟨ox,z1,z2⟩ kk=>⟨ox,kk _ z1,z2⟩⟩
theorem IU:∀ {kds:List (Key×Int)} {vs:List (Key×Value)} {i:Nat} {k:Key} {v:Value},KV (kds.map fun kd=>(kd.1,V.int kd.2)) vs->vs[i]?=some (k,v)->∃ t,v=.int ((kds.map (·.2)).getD i 0) t
 | [],_,_,_,_,.nil,e=>by simp at e
 | (k0,z)::kds,_,0,_,_,.cons r _,e=>by
   simp at e
   subst e
   obtain⟨_,t,q⟩:=r
   exact⟨t,q⟩
 | (k0,z)::kds,_,i+1,_,_,.cons _ t,e=>by
   obtain⟨t',q⟩:=IU (i:=i) t (by simpa using e)
   exact⟨t',by simpa using q⟩
theorem Ga (hc:X.calm=true):lE X (.builtin "sum") (fun xs H Q=>∃ (v d:Addr) (φ:Heap->Prop) (kds:List (Key×Int)),xs=[.ref v]/\H v=some (.ext φ)/\(∀ h,φ h->h.IsValuesView v d)/\Rd H d (.dK (kds.map fun kd=>(kd.1,V.int kd.2)))/\Q (.int (kds.map (·.2)).sum) H):=by
 intro pins s σ H xs us Q I r h
 obtain⟨v,d,φ,kds,rfl,hv,hφ,hq,q⟩:=h
 obtain⟨u,rfl,rx⟩:=vals1 r
 cases rx
 obtain⟨hz,lo,vs,kv,o,es,ep,ho,hr⟩:=xP I.bH hq
 have hvv:=hφ _ (I.bH v _ hv).1
 have hl:=sy kv
 rw[List.length_map] at hl
 have hA:X.A.handled=none:=I.ok.hd hc
 refine call_sum_walkAnyS ?_
 have Ks:=PySem.W.kdl_values (prog:=X.prog) (w:=X.w) (knd:=cv X.prog X.w) (r:=v) (d:=d) (kvs:=vs) (ep:=ep)
 have bH:s.heap.IsValuesView v d/\s.heap.DictAt (cv X.prog X.w) d vs ep:=⟨hvv,o,es,ho,hr⟩
 obtain⟨oI,St,hit,W,st⟩:=Ks.iter X.A.in1 s hA bH
 refine hit _ _ ⟨s.heap.objs.size,_,_,_,vs.length,_,_,fun i=>(kds.map (·.2)).getD i 0,rfl,W.toS,st,fun b hb=>?_,fun i w ⟨k,hk⟩=>IU kv hk,fun s' t' hm=>?_⟩
 . show b < (s.heap.push oI).objs.size
   rw[Heap.size_push]
   rcases List.mem_cons.mp hb with e | hb
   . rw[e];exact Nat.lt_succ_self _
   . rw[List.mem_singleton.mp hb];exact Nat.lt_succ_of_lt (Ks.there _ bH).2
 . have hk:∀ b o,s.heap.get? b=some o->s'.heap.get? b=some o:=fun b o e=>
     hm.heap b o (fun hI=>absurd (Heap.lt_size e) (by rw[List.mem_singleton.mp hI];exact Nat.lt_irrefl _)) (Heap.get?_push_of_some _ e)
   have es:preSum (fun i=>(kds.map (·.2)).getD i 0) vs.length=(kds.map (·.2)).sum:=by
     rw[su _ _ (by rw[List.length_map];omega),List.take_of_length_le (by rw[List.length_map];omega)]
   rw[es,Moved.eq_with hm]
   exact⟨.int _,H,I.kept (t':=s'.toks) hk,⟨t',rfl⟩,q⟩
noncomputable def intsOf (d:Dt)(kds:List (Key×Int)):Prop:=d=.eG (dI kds)\/d=.dw (dI kds)
theorem Mi {kds:List (Key×Int)}{d:Dt}{apos bY:Pos}(hm:X.mg "sum"=none)(hc:X.calm=true)(ha:EE X G dl a d)(hd:intsOf d kds)(hg:Gl X "sum":=by rfl)(kf:attributeBase a "values" X.env (eval a X.env)=eval a X.env:=by rfl)(kg:(apos.endLine == bY.line)=true:=by rfl)(he:starEach [.Call (.Attribute a "values" apos) [] [] bY] X.env=[(false,eval (.Call (.Attribute a "values" apos) [] [] bY) X.env)]:=by rfl):EE X G dl (.Call (.Name "sum" p) [.Call (.Attribute a "values" apos) [] [] bY] [] pos) (.int (kds.map (·.2)).sum):=
 iW (i8 (Ga hc) hg hm boot_sum (lY (Hw PySem.F.plainAttrs_dict PySem.F.slot_dict_values PySem.F.type_dict_values CY ha kf kg) oB he) (he:=he)) fun st H Q ⟨Hf,S,k⟩=>⟨Hf,S,fun v aw H1 g1 r1=>by
   have key:∃ q,v=.ref q/\Rd H1 q (.dK (kds.map fun kd=>(kd.1,V.int kd.2)))/\VB X.K "dict" v H1:=by
     rcases hd with rfl | rfl
     . cases r1 with
       | @eG q tg ob kvs _ hq rp=>
         rw[Mc rp] at hq
         exact⟨q,rfl,.inr (.inr (.inl ⟨tg,ob,_,g1.sub _ _ hq,rfl⟩)),.inr (.inr (.inl ⟨rfl,.inr (.inr ⟨tg,ob,_,g1.sub _ _ hq⟩)⟩))⟩
     . cases r1 with
       | @dw q kvs _ hq rp=>
         rw[Mc rp] at hq
         exact⟨q,rfl,.inl (g1.sub _ _ hq),.inr (.inr (.inl ⟨rfl,.inl ⟨_,g1.sub _ _ hq⟩⟩))⟩
   obtain⟨q,rfl,hq,ty⟩:=key
   refine⟨ty,q,_,rfl,rfl,hq,fun v hv=>⟨v,q,_,kds,rfl,ak,fun h x=>x,?_,k _ aw _ (g1.trans (.fU g1.sub hv)) (.int _)⟩⟩
   exact jR (bE hv) hq⟩
variable {pins:List (Addr×Obj)}{σ:L2.St}{H:Hp}{s:Shared}
theorem Inv.flip {u:HO}(I:L2.Inv X pins σ H s)(hm:b6 H l ls)(hu:mE ls u)(new:aP X.prog X.w (upd H l u) s.heap l u):L2.Inv X pins σ (upd H l u) s:=by
 refine I.un (h':=s.heap) (t':=s.toks) ⟨fun b o e _ _ _=>e,fun b o e _ _ _=>⟨o.slots,e⟩,fun b o e n _=>?_,fun b o e _=>⟨o,e⟩,fun b xs e=>bj hm e rfl,fun b o u e=>bj hm e rfl,fun b ps e=>⟨#[],by rw[bj hm e rfl];simp⟩⟩ fun b o e=>?_
 . rw[ag (fun z=>by obtain⟨o',h1,_⟩:=hm.Zw;rw[z,h1] at n;cases n)];exact n
 . by_cases eb:b=l
   . subst eb;rw[ak] at e;cases e;exact new
   . rw[ag eb] at e
     exact(I.bH b o e).yt (fun _ _ _ q=>q) (fun c q=>bj hm q rfl) (fun c xs q=>bj hm q rfl) (qY hm hu.mk)
theorem Inv.exact(I:L2.Inv X pins σ H s)(hm:H l=some (.memo ls)):∃ n,0 < n/\n<=10000/\L2.Inv X pins σ (upd H l (.bK ls (List.replicate ls.length n))) s:=by
 obtain⟨ho,n,hn,q⟩:=(show aP X.prog X.w H s.heap l (.memo ls) from I.bH l _ hm)
 have hl:0 < ls.length:=by
   obtain⟨⟨f,hf⟩,_⟩:=q
   exact(List.getElem?_eq_some_iff.mp hf).1
 have h5:n<=10000:=q.2.2.2.2.1 n (by rw[List.mem_replicate];exact⟨by omega,rfl⟩)
 exact⟨n,hn,h5,Inv.flip I (.inl hm) (.inr ⟨_,rfl⟩) ⟨ho,q.kp (qY (.inl hm) rfl) fun _ _ _ e=>e⟩⟩
theorem Inv.pack {n:Nat}(I:L2.Inv X pins σ H s)(hm:H l=some (.bK ls (List.replicate ls.length n)))(hn:0 < n):L2.Inv X pins σ (upd H l (.memo ls)) s:=by
 obtain⟨ho,q⟩:=(show aP X.prog X.w H s.heap l (.bK ls _) from I.bH l _ hm)
 exact Inv.flip I (.inr ⟨_,hm⟩) (.inl rfl) ⟨ho,n,hn,q.kp (qY (.inr ⟨_,hm⟩) rfl) fun _ _ _ e=>e⟩
theorem qr:RW X "list.append" (fun x vs H Q=>∃ (a:Addr) (ls:km) (ns:List Nat) (j:Nat) (p:Addr) (f:Nat->List (Key×FD)) (N:Nat) (q:Addr) (kvs:List (Key×V)),x=.ref p/\vs=[.ref q]/\H a=some (.bK ls ns)/\ls[j]?=some (p,f)/\ns[j]?=some N/\N < 9000/\H q=some (.dK kvs)/\rK H kvs (f N)/\∀ o,Q .c9 (upd (upd H a (.bK ls (ns.set j (N+1)))) q (.kd (some (p,N)) o kvs))):=by
 intro pins s σ H x vs v us Q I rx rv ⟨a,ls,ns,j,p,f,N,q,kvs,e1,e2,ha,hj,hN,hN9,hq,hfz,kk⟩
 subst e1 e2
 cases (show v=Value.ref p from rx)
 obtain⟨u,rfl,ru⟩:=vals1 rv
 cases (show u=Value.ref q from ru)
 obtain⟨⟨oa,hoa⟩,⟨f0,h1⟩,h2,h3,h4,h5,h6⟩:=(show aP X.prog X.w H s.heap a (.bK ls ns) from I.bH a _ ha)
 obtain⟨aG,c,e,hlen,hit⟩:=h6 j p f N hj hN
 obtain⟨hz,lo,vs,kv,oq,es,ep,hoq,hr⟩:=(show aP X.prog X.w H s.heap q (.dK kvs) from I.bH q _ hq)
 have GX:me (H p):=by
   rcases h3 j p f hj with z | z
   . rw[z,ha];trivial
   . rw[z];trivial
 have hpq:p≠q:=fun z=>by rw[z,hq] at GX;exact GX
 have haq:a≠q:=fun z=>by rw[z,hq] at ha;cases ha
 have Ze:=mf
 refine call_meets PySem.F.slot_list_append ⟨_,e,rfl⟩ PySem.F.entry_list_append (PySem.F.args_list_append_2 _ _) (PySem.list_append p aG.toArray c (.ref q) (by rw[List.size_toArray];exact Nat.le_trans (show aG.length<=10000 by omega) (by decide))) ⟨e,?_⟩
 have e':=PySem.IsL.update e (fun x=>x.push (Value.ref q))
 rw[show aG.toArray.push (Value.ref q)=(aG ++ [Value.ref q]).toArray by simp] at e'
 generalize hh':s.heap.update p (Obj.mapSeq fun x=>x.push (Value.ref q))=h' at e'
 have CZ:∀ b o,b≠p->s.heap.get? b=some o->h'.get? b=some o:=fun b o hb z=>by rw[<- hh'];exact(Heap.get?_update_other s.heap _ (Ne.symm hb)).trans z
 let H':Hp:=upd (upd H a (.bK ls (ns.set j (N+1)))) q (.kd (some (p,N)) oq kvs)
 have tP:∀ b o,H b=some o->b≠a->b≠q->H' b=some o:=fun b o z n1 n2=>by show(upd (upd H a _) q _) b=_;rw[ag n2,ag n1];exact z
 have nk:∀ b o,H b=some o->mk o=false->b≠a:=fun b o z n z'=>by rw[z',ha] at z;cases z;cases n
 have nq:∀ b o,H b=some o->(∀ x,o≠.dK x)->b≠q:=fun b o z n z'=>by rw[z',hq] at z;exact n _ (Option.some.inj z).symm
 have kp:Kp H H':=⟨fun b o z kq=>tP b _ z (nk b _ z (by cases o <;> first | rfl | exact(show False from kq).elim)) (nq b _ z fun x y=>by subst y;exact kq),fun b z=>by
   by_cases ba:b=a
   . rw[ba];show me ((upd (upd H a _) q _) a);rw[ag haq,ak];trivial
   . have bq:b≠q:=fun z'=>by rw[z',hq] at z;exact z
     show me ((upd (upd H a _) q _) b);rw[ag bq,ag ba];exact z,fun b x z=>tP b _ z (nk b _ z rfl) (nq b _ z fun x y=>by cases y)⟩
 have hl:∀ p' i c',me (H p')->Se s.heap p' i c'->Se h' p' i c':=fun p' i c' _ ⟨its',n',z1,z2⟩=>by
   by_cases pp:p'=p
   . subst pp
     rw[e] at z1
     have z3:its'=aG:=by
       have:=congrArg (fun o:Option Obj=>o.map (·.data)) z1
       simp at this
       exact this.1.symm
     subst z3
     exact⟨_,_,e',by rw[List.getElem?_append_left (List.getElem?_eq_some_iff.mp z2).1];exact z2⟩
   . exact⟨its',n',CZ _ _ pp z1,z2⟩
 have La:Se h' p N q:=⟨_,_,e',by rw[List.getElem?_append_right (by omega),hlen,Nat.sub_self];rfl⟩
 have fz':rK H' kvs (f N):=hfz.kp kp
 have Zx:h'.get? q=some oq:=CZ _ _ (Ne.symm hpq) hoq
 have Ui:∀ b,H b=none->H' b=none:=fun b n=>by
   have n1:b≠a:=fun z=>by rw[z,ha] at n;cases n
   have n2:b≠q:=fun z=>by rw[z,hq] at n;cases n
   show(upd (upd H a _) q _) b=none
   rw[ag n2,ag n1];exact n
 have Zy:∀ b,H b=none->b≠p:=fun b n z=>by rw[<- z,n] at GX;exact GX
 have Zz:∀ b o,s.heap.get? b=some o->∃ o',h'.get? b=some o':=fun b o z=>by
   by_cases bp:b=p
   . rw[bp];exact⟨_,e'⟩
   . exact⟨o,CZ _ _ bp z⟩
 refine⟨.c9,H',I.un (h':=h') (t':=s.toks) ⟨fun b o z n _ _=>CZ b o (Zy b n) z,fun b o z n _ _=>⟨o.slots,CZ b o (Zy b n) z⟩,fun b o _ n _=>Ui b n,fun b o z _=>Zz b o z,fun b xs z=>tP b _ z (nk b _ z rfl) (nq b _ z fun x y=>by cases y),
   fun b o u z=>tP b _ z (nk b _ z rfl) (nq b _ z fun x y=>by cases y),fun b ps z=>⟨#[],by rw[tP b _ z (nk b _ z rfl) (nq b _ z fun x y=>by cases y)];simp⟩⟩ fun b u z=>?_,rfl,kk oq⟩
 by_cases bq:b=q
 . subst bq
   have z:(upd (upd H a _) b _) b=some u:=z
   rw[ak] at z;cases z
   refine⟨Zx,⟨hz,lo,vs,kv,oq,es,ep,Zx,hr⟩,fun p' i ht=>?_⟩
   cases ht
   exact⟨kp.mem _ GX,La⟩
 . by_cases ba:b=a
   . subst ba
     have z:(upd (upd H b _) q _) b=some u:=z
     rw[ag bq,ak] at z;cases z
     refine⟨Zz _ _ hoa,⟨f0,h1⟩,by rw[List.length_set];exact h2,fun j' p' f' z=>(h3 j' p' f' z).imp id fun z=>kp.part _ _ z,h4,fun n hn=>?_,fun j' p' f' n z1 z2=>?_⟩
     . obtain⟨i,hi,ei⟩:=List.mem_iff_getElem.mp hn
       rw[List.getElem_set] at ei
       split at ei
       . omega
       . rw[<- ei];exact h5 _ (List.getElem_mem _)
     . by_cases jj:j=j'
       . subst jj
         rw[hj] at z1;cases z1
         have hjl:j < ns.length:=(List.getElem?_eq_some_iff.mp hN).1
         rw[List.getElem?_set_self hjl] at z2;cases z2
         refine⟨_,_,e',by rw[List.length_append,hlen];rfl,fun i hi=>?_⟩
         by_cases hiN:i < N
         . obtain⟨q',o',Zs,w1,w2,w3⟩:=hit i hiN
           exact⟨q',o',Zs,by rw[List.getElem?_append_left (by omega)];exact w1,kp.kd _ _ _ _ w2,w3.kp kp⟩
         . have:i=N:=by omega
           subst this
           exact⟨q,oq,kvs,by rw[List.getElem?_append_right (by omega),hlen,Nat.sub_self];rfl,ak,fz'⟩
       . rw[List.getElem?_set_ne jj] at z2
         have pp:p'≠p:=fun z=>by
           subst z
           obtain⟨i1,e1⟩:=List.getElem?_eq_some_iff.mp hj
           obtain⟨i2,e2⟩:=List.getElem?_eq_some_iff.mp z1
           have pw:=List.pairwise_iff_getElem.mp h4
           rcases Nat.lt_or_gt_of_ne jj with lt | lt
           . have:=pw j j' (by rw[List.length_map];exact i1) (by rw[List.length_map];exact i2) lt
             rw[List.getElem_map,List.getElem_map,e1,e2] at this
             exact this rfl
           . have:=pw j' j (by rw[List.length_map];exact i2) (by rw[List.length_map];exact i1) lt
             rw[List.getElem_map,List.getElem_map,e1,e2] at this
             exact this rfl
         exact(h6 j' p' f' n z1 z2).kp kp fun u z=>CZ _ _ pp z
   . have z0:H b=some u:=by
       have z:(upd (upd H a _) q _) b=some u:=z
       rw[ag bq,ag ba] at z;exact z
     by_cases bp:b=p
     . subst bp
       rcases h3 j b f hj with z1 | z1
       . exact absurd z1 ba
       . rw[z1] at z0;cases z0
         exact⟨_,e'⟩
     . refine(I.bH b u z0).NL (fun c' v' xG z'=>CZ c' v' ?_ z') (fun c' z'=>tP c' _ z' (nk c' _ z' rfl) (nq c' _ z' fun x y=>by cases y)) (fun c' xs z'=>tP c' _ z' (nk c' _ z' rfl) (nq c' _ z' fun x y=>by cases y)) kp hl
       rcases xG with rfl | z1 | z1
       . exact bp
       . exact fun z'=>by rw[z'] at z1;rw[z1] at GX;exact GX
       . intro z'
         rw[z'] at z1
         rcases h3 j p f hj with z2 | z2
         . rw[z2,ha] at z1;cases z1
         . rw[z2] at z1;cases z1;exact ba rfl
end
noncomputable def pY (fs:List (Str×Dt))(nm:List Str)(a:Addr)(ls:km)(n:Nat):List (Str×Dt):=fs ++ (List.range nm.length).map fun j=>(nm.getD j "",.gc a ls j n)
section
variable {K:W.Frag}{Hf H:Hp}
theorem bg.split:∀ {R7 Lb:List (Str×Dt)} {fv:List (Str×V)},bg K H fv (R7 ++ Lb)->∃ f1 f2,fv=f1 ++ f2/\bg K H f1 R7/\bg K H f2 Lb
 | [],_,fv,r=>⟨[],fv,rfl,.nil,r⟩
 | (k,d)::R7,Lb,_,.cons h t=>by
   obtain⟨f1,f2,e,r1,r2⟩:=bg.split t
   exact⟨(k,_)::f1,f2,by rw[e];rfl,.cons h r1,r2⟩
theorem bg.join:∀ {R7 Lb:List (Str×Dt)} {f1 f2:List (Str×V)},bg K H f1 R7->bg K H f2 Lb->bg K H (f1 ++ f2) (R7 ++ Lb)
 | _,_,_,_,.nil,r=>r
 | _,_,_,_,.cons h t,r=>.cons h (bg.join t r)
theorem pG {nm:Nat->Str}{d d':Nat->Dt}{H':Hp}(h:∀ j v,Rep K H v (d j)->Rep K H' v (d' j)):∀ {js:List Nat} {fv:List (Str×V)},bg K H fv (js.map fun j=>(nm j,d j))->bg K H' fv (js.map fun j=>(nm j,d' j))
 | [],_,.nil=>.nil
 | j::js,_,.cons r t=>.cons (h j _ r) (pG h t)
noncomputable def uu (H:Hp)(ls:km)(n:Nat):Prop:=∀ (j:Nat) (p:Addr) (f:Nat->List (Key×FD)),ls[j]?=some (p,f)->Known H p f n
variable {fs:List (Str×Dt)}{nm:List Str}{l:Addr}{ls:km}{n m:Nat}{fv:List (Str×V)}{u:HO}
theorem vC (hn:0 < nm.length)(r:bg K Hf fv (tw fs nm l ls n)):Hf l=some (.memo ls):=by
 obtain⟨f1,f2,_,_,r2⟩:=bg.split r
 cases hk:nm.length with
 | zero=>omega
 | succ k=>
   rw[hk,List.range_succ_eq_map,List.map_cons] at r2
   cases r2 with
   | cons h t=>cases h with
     | memo _ h2 _ _=>exact h2
theorem Uj (hs:kO l fs=true)(hm:Hf l=some (.memo ls))(hu:mE ls u)(r:bg K Hf fv (tw fs nm l ls n)):bg K (upd Hf l u) fv (pY fs nm l ls n):=by
 obtain⟨f1,f2,e,r1,r2⟩:=bg.split r
 subst e
 refine bg.join (jI (.inl hm) hu hs r1) (pG (fun j v q=>?_) r2)
 cases q with
 | memo h1 h2 h3 h4=>exact jb (.inl hm) hu rfl (.gc h1 (.inl h2) h3 h4)
theorem Od (hs:kO l fs=true)(hm:b6 Hf l ls)(r:bg K Hf fv (pY fs nm l ls n)):bg K (upd Hf l (.memo ls)) fv (tw fs nm l ls n):=by
 obtain⟨f1,f2,e,r1,r2⟩:=bg.split r
 subst e
 refine bg.join (jI hm (.inl rfl) hs r1) (pG (fun j v q=>?_) r2)
 cases q with
 | gc h1 h2 h3 h4=>exact .memo h1 ak (h3.imp id fun z=>bj hm z rfl) (m5 hm (.inl rfl) h4)
theorem Bp (hk:uu Hf ls m)(r:bg K Hf fv (tw fs nm l ls n)):bg K Hf fv (tw fs nm l ls m):=by
 obtain⟨f1,f2,e,r1,r2⟩:=bg.split r
 subst e
 refine bg.join r1 (pG (fun j v q=>?_) r2)
 cases q with
 | memo h1 h2 h3 h4=>exact .memo h1 h2 h3 (hk _ _ _ h1)
theorem Mj (hl:ls.length<=nm.length)(r:bg K Hf fv (tw fs nm l ls n)):uu Hf ls n:=fun j p f e=>by
 obtain⟨f1,f2,_,_,r2⟩:=bg.split r
 have hj:j < nm.length:=Nat.lt_of_lt_of_le (List.getElem?_eq_some_iff.mp e).1 hl
 have key:∀ {js:List Nat} {fv:List (Str×V)},bg K Hf fv (js.map fun j=>(nm.getD j "",Dt.memo l ls j n))->j∈js->Known Hf p f n:=by
   intro js
   induction js with
   | nil=>intro fv _ h;cases h
   | cons i js ih=>
     intro fv r h
     cases r with
     | cons q t=>
       rcases List.mem_cons.mp h with z | z
       . subst z
         cases q with
         | memo h1 h2 h3 h4=>rw[e] at h1;cases h1;exact h4
       . exact ih t z
 exact key r2 (List.mem_range.mpr hj)
theorem Qm {A B bZ H2:Hp}(hA:A l=some (.memo ls))(hB:B l=some (.memo ls))(g:bh (upd A l u) (upd B l u) bZ H2):bh A B (upd bZ l (.memo ls)) (upd H2 l (.memo ls)):=by
 refine⟨fun b o e=>?_,fun b o e=>?_,cH g.sub,fun b o e=>?_⟩
 . by_cases hb:b=l
   . subst hb;rw[hB] at e;cases e;exact ak
   . rw[ag hb];exact g.big _ _ (by rw[ag hb];exact e)
 . by_cases hb:b=l
   . subst hb;rw[hA] at e;cases e;exact ak
   . rw[ag hb];exact g.bw _ _ (by rw[ag hb];exact e)
 . by_cases hb:b=l
   . subst hb;exact .inl ⟨_,hA⟩
   . rw[ag hb] at e
     rcases g.new b o e with⟨o',z⟩ | z | z
     . rw[ag hb] at z;exact .inl ⟨o',z⟩
     . rw[ag hb] at z;exact .inr (.inl z)
     . exact .inr (.inr z)
variable {G G0:Gr}{st:L2.St}{dl:List Slot}
theorem d7.rebase (S:d7 K G0 st Hf H dl)(no:noOwn dl=true)(g:bh G.Hf G.H G0.Hf G0.H):d7 K G st Hf H dl:=⟨g.trans S.gr,S.len,S.val,fun i o h=>absurd h (aV no i o),fun i j o o' a h=>absurd h (aV no i o)⟩
noncomputable def qZ (a:Addr):List Slot->Bool
 | []=>true
 | .aL::r=>qZ a r
 | .val d::r=>sC a d && qZ a r
 | .own _::_=>false
theorem mF {l:Addr}:∀ {tl:List Slot} {i:Nat} {d:Dt},qZ l tl=true->tl[i]?=some (.val d)->sC l d=true
 | [],_,_,_,e=>by simp at e
 | .aL::r,0,_,_,e=>by simp at e
 | .aL::r,i+1,_,h,e=>mF (tl:=r) (i:=i) h (by simpa using e)
 | .val d::r,0,_,h,e=>by
   rw[qZ,Bool.and_eq_true] at h
   simp at e
   subst e
   exact h.1
 | .val d::r,i+1,_,h,e=>by
   rw[qZ,Bool.and_eq_true] at h
   exact mF (tl:=r) (i:=i) h.2 (by simpa using e)
theorem iq {l:Addr}:∀ {tl:List Slot},qZ l tl=true->noOwn tl=true
 | [],_=>rfl
 | .aL::r,h=>iq (tl:=r) h
 | .val d::r,h=>by
   rw[qZ,Bool.and_eq_true] at h
   exact iq (tl:=r) h.2
variable {C:Addr}{tl:List Slot}
noncomputable abbrev Al (C:Addr)(fs:List (Str×Dt))(nm:List Str)(l:Addr)(ls:km)(n:Nat)(tl:List Slot):List Slot:=.val (.obj C (tw fs nm l ls n))::tl
noncomputable abbrev Xr (C:Addr)(fs:List (Str×Dt))(nm:List Str)(l:Addr)(ls:km)(n:Nat)(tl:List Slot):List Slot:=.val (.obj C (pY fs nm l ls n))::tl
theorem d7.Uk {m:Nat}(S:d7 K G st Hf H (Al C fs nm l ls n tl))(kn:uu Hf ls m):d7 K G st Hf H (Al C fs nm l ls m tl):=by
 have own:∀ {i:Nat} {o:Own},(Al C fs nm l ls m tl)[i]?=some (.own o)->(Al C fs nm l ls n tl)[i]?=some (.own o):=fun {i o} h=>by
   cases i with
   | zero=>cases h
   | succ i=>exact h
 refine⟨S.gr,S.len,fun i d h=>?_,fun i o h=>S.own i o (own h),fun i j o o' a h1 h2=>S.FO i j o o' a (own h1) (own h2)⟩
 cases i with
 | zero=>
   cases h
   obtain⟨v,hv,rv⟩:=S.val 0 _ rfl
   cases rv with
   | obj q r=>exact⟨_,hv,.obj q (Bp kn r)⟩
 | succ i=>exact S.val (i+1) d h
noncomputable def Ul (G0:Gr)(l:Addr)(u:HO):Gr:=⟨upd G0.Hf l u,upd G0.H l u⟩
theorem d7.Xs (S:d7 K G st Hf H (Al C fs nm l ls n tl))(hs:kO l fs=true)(ht:qZ l tl=true)(hn:0 < nm.length)(hu:mE ls u):Hf l=some (.memo ls)/\d7 K (Ul ⟨jJ Hf H,H⟩ l u) st (upd (jJ Hf H) l u) (upd H l u) (Xr C fs nm l ls n tl):=by
 obtain⟨v,hv,rv⟩:=S.val 0 _ rfl
 have sm:=gH S.sub
 cases rv with
 | @obj a _ dx fv _ q r=>
   have hm:=vC hn r
   have Xt:jJ Hf H l=some (.memo ls):=sm _ _ hm
   refine⟨hm,⟨.refl (cH (oK S.sub)),S.len,fun i d h=>?_,fun i o h=>?_,fun i j o o' a h=>?_⟩⟩
   . cases i with
     | zero=>
       cases h
       exact⟨_,hv,.obj (IP (.inl Xt) (jR sm q)) (Uj hs Xt hu (r.mono sm))⟩
     | succ i=>
       have h:tl[i]?=some (.val d):=h
       obtain⟨w,w1,w2⟩:=S.val (i+1) d h
       exact⟨w,w1,jb (.inl Xt) hu (mF ht h) (w2.mono sm)⟩
   . cases i with
     | zero=>cases h
     | succ i=>exact absurd h (aV (iq ht) i o)
   . cases i with
     | zero=>cases h
     | succ i=>exact absurd h (aV (iq ht) i o)
end
section
variable {X:Cx}{G:Gr}{E:XK}{dl:List Slot}{c e:Expr}{body:List Stmt}{pos p:Pos}{fs:List (Str×Dt)}{nm:List Str}{l C:Addr}{ls:km}{n m age:Nat}{tl:List Slot}
noncomputable def Qn (X:Cx)(c:Expr):TT:=fun st H Q=>∃ G dl b,EB X G dl c b/\To X.K G dl b st H Q
theorem IV:PT X c (Qn X c):=fun pins s st H Q I ⟨G,dl,b,h,q⟩=>h pins s st H Q I q
noncomputable def Qo (X:Cx)(E:XK)(body:List Stmt):TS:=fun D st H=>∃ G pre o,oh X G E pre body o/\tO X.K G E pre o D st H
theorem Gb {body:List Stmt}:Ci X body (Qo X E body):=fun pins s st H D J ⟨G,pre,o,h,q⟩=>h pins s st H D J q
noncomputable def RM (K:W.Frag)(G0:Gr)(C:Addr)(fs:List (Str×Dt))(nm:List Str)(l:Addr)(ls:km)(n:Nat)(tl:List Slot)(M:Nat):L2.St->Hp->Prop:=fun st H=>H l=some (.bK ls (List.replicate ls.length M))/\∃ Hf,d7 K G0 st Hf (upd H l (.memo ls)) (Al C fs nm l ls n tl)
theorem x8 (hp:PassesOwn (model X.prog X.w) X.A X.env X.xe)(hs:kO l fs=true)(ht:qZ l tl=true)(hn:0 < nm.length)(i7:age < 9000)(hc:∀ (N:Nat) (G:Gr),G.Hf l=some (.bK ls (List.replicate ls.length N))->EB X G (Xr C fs nm l ls n tl) c (decide (N<=age)))(hb:∀ N,0 < N->N<=age->∀ G0:Gr,G0.Hf l=some (.memo ls)->G0.H l=some (.memo ls)->oh X (Ul G0 l (.bK ls (List.replicate ls.length N))) E (Xr C fs nm l ls n tl) body (.raw (RM X.K G0 C fs nm l ls n tl (N+1)))):ES X G E (Al C fs nm l ls n tl) (.While c body [] pos) (.nx (Al C fs nm l ls (age+1) tl)):=by
 intro pins s st H D I ⟨Hf,S,k⟩
 have no:noOwn (Al C fs nm l ls n tl)=true:=show noOwn tl=true from iq ht
 have hm:Hf l=some (.memo ls):=(S.Xs (u:=.memo ls) hs ht hn (.inl rfl)).1
 obtain⟨N0,h0,h1,IX⟩:=Inv.exact I (S.sub _ _ hm)
 let XX:Nat->HO:=fun N=>.bK ls (List.replicate ls.length N)
 have mu:∀ N,mE ls (XX N):=fun N=>.inr ⟨_,rfl⟩
 let W:Nat->L2.St->Hp->Prop:=fun m st H=>∃ N,m=age+1 - N/\0 < N/\H l=some (XX N)/\∃ aw,aE Hf aw/\d7 X.K G st aw (upd H l (.memo ls)) (Al C fs nm l ls n tl)
 refine b7 (AA (pos:=pos) hp (IV (X:=X) (c:=c)) (Gb (E:=E)) pins s st _ { D with nx:=fun jC H'=>∃ N,age < N/\H' l=some (XX N)/\∃ aw,aE Hf aw/\d7 X.K G jC aw (upd H' l (.memo ls)) (Al C fs nm l ls n tl)} IX ?_) fun f s7 q7=>?_
 . refine⟨W,⟨_,N0,rfl,h0,ak,Hf,aE.refl _,by rw[ub,vA (S.sub _ _ hm)];exact S⟩,?_⟩
   rintro mm VJ H1 ⟨N,rfl,hN,La,aw,s1,S1⟩
   have eH:upd (upd H1 l (.memo ls)) l (XX N)=H1:=by rw[ub,vA La]
   obtain⟨ZA,SX⟩:=S1.Xs (u:=XX N) hs ht hn (mu N)
   rw[eH] at SX
   have hA:jJ aw (upd H1 l (.memo ls)) l=some (.memo ls):=gH S1.sub _ _ ZA
   refine⟨_,_,decide (N<=age),hc N (Ul ⟨jJ aw (upd H1 l (.memo ls)),upd H1 l (.memo ls)⟩ l (XX N)) ak,_,SX,fun bZ H2 g2=>?_⟩
   have g2':bh (upd (jJ aw (upd H1 l (.memo ls))) l (XX N)) (upd (upd H1 l (.memo ls)) l (XX N)) bZ H2:=by rw[eH];exact g2
   have gp:=Qm (ls:=ls) hA ak g2'
   have gg:=(pF S1.sub).trans gp
   have S2:=S1.grow gg
   have S6:H2 l=some (XX N):=g2.big _ _ La
   by_cases hle:N<=age
   . rw[decide_eq_true hle]
     have eH2:upd (upd H2 l (.memo ls)) l (XX N)=H2:=by rw[ub,vA S6]
     obtain⟨ZC,ZE⟩:=S2.Xs (u:=XX N) hs ht hn (mu N)
     rw[eH2] at ZE
     have hA2:jJ (upd bZ l (.memo ls)) (upd H2 l (.memo ls)) l=some (.memo ls):=gH S2.sub _ _ ZC
     refine AV ⟨fun jC H'=>H' l=some (XX (N+1))/\∃ aw,aE Hf aw/\d7 X.K G jC aw (upd H' l (.memo ls)) (Al C fs nm l ls n tl),fun jC H' ⟨z1,z2⟩=>⟨age+1 - (N+1),by omega,N+1,rfl,by omega,z1,z2⟩,?_⟩
     refine⟨_,_,_,hb N hN hle ⟨jJ (upd bZ l (.memo ls)) (upd H2 l (.memo ls)),upd H2 l (.memo ls)⟩ hA2 ak,_,ZE,fun jC H' ⟨z1,aH,z2⟩=>⟨z1,aH,?_,?_⟩⟩
     . exact((s1.trans gg.bw).trans (gH S2.sub)).trans z2.gr.bw
     . exact z2.rebase no (S2.gr.trans (pF S2.sub))
   . rw[decide_eq_false hle]
     exact AU ⟨N,by omega,S6,_,s1.trans gg.bw,S2⟩
 . cases f with
   | next=>
     obtain⟨σ7,H7,I7,N,hN,Xu,ZF,s7',S7⟩:=q7
     have I8:=Inv.pack I7 Xu (by omega)
     refine⟨σ7,_,I8,?_⟩
     obtain⟨_,_,hlen,_,_,_,h6⟩:=(show aP X.prog X.w H7 s7.heap l (XX N) from I7.bH l _ Xu)
     have kn:uu (jJ ZF (upd H7 l (.memo ls))) ls (age+1):=fun j p f e i hi=>by
       have hj:j < ls.length:=(List.getElem?_eq_some_iff.mp e).1
       obtain⟨aG,cc,e1,e2,e3⟩:=h6 j p f N e (by rw[List.getElem?_replicate,if_pos hj])
       obtain⟨q,o,kvs,q1,q2,q3⟩:=e3 i (by omega)
       have key:∀ b u,H7 b=some u->Kept u->jJ ZF (upd H7 l (.memo ls)) b=some u:=fun b u z kq=>zh (by rw[ag (fun zz=>by rw[zz,Xu] at z;cases z;exact kq)];exact z) kq
       exact⟨q,o,kvs,key _ _ q2 trivial,gI key q3⟩
     have S8:=S7.grow (pF S7.sub)
     exact k σ7 _ _ (s7'.trans (gH S7.sub)) (S8.Uk kn)
   | cont=>exact q7
   | brk=>exact q7
   | ret v=>exact q7
theorem mG (he:EE X G (Al C fs nm l ls n tl) e (.xR l ls m))(hs:swapsWith e none pos.line X.env=pure false:=by rfl):ES X G E (Al C fs nm l ls n tl) (.Expr e pos) (.nx (Al C fs nm l ls m tl)):=
 uf (lX he hs) fun D st H ⟨Hf,S,k⟩=>⟨Hf,S,fun v aw H1 g1 r1=>by
   have S1:=S.grow g1
   cases r1 with
   | xR kn=>
     exact k st aw H1 g1.bw (S1.Uk kn)⟩
theorem pH (hl:ls.length<=nm.length):Comes (.nx (Al C fs nm l ls n tl)) (.ret (.xR l ls n)):=.kn fun K G st Hf H S=>by
 obtain⟨v,hv,rv⟩:=S.val 0 _ rfl
 cases rv with
 | obj q r=>exact .xR (Mj hl r)
theorem Bq (i:Nat){o:Out}{sts:List Stmt}{gs:List (Nat->List (Key×FD))}(h:∀ l ls,ls.map (·.2)=gs->oh X G E (dl.set i (.val (.obj C (tw fs nm l ls n)))) sts o)(hd:dl[i]?=some (.val (.yI C fs gs nm n)):=by rfl):oh X G E dl sts o:=by
 intro pins s st H D I ⟨Hf,S,k⟩
 obtain⟨v,hv,rv⟩:=S.val i _ hd
 cases rv with
 | @yI s' a _ dx fv _ _ _ _ ls' e q r=>
   refine h a ls' e pins s st H D I ⟨Hf,⟨S.gr,by simp[S.len],fun j d hj=>?_,fun j o' hj=>?_,fun j m o1 o2 c q1 q2 q3 q4=>?_⟩,k⟩
   . by_cases ej:i=j
     . subst ej
       have hl:i < dl.length:=(List.getElem?_eq_some_iff.mp hd).1
       rw[List.getElem?_set_self hl] at hj;cases hj
       exact⟨_,hv,.obj q r⟩
     . rw[List.getElem?_set_ne ej] at hj;exact S.val j d hj
   . have ej:i≠j:=fun z=>by
       subst z
       rw[List.getElem?_set_self (List.getElem?_eq_some_iff.mp hd).1] at hj;cases hj
     rw[List.getElem?_set_ne ej] at hj;exact S.own j o' hj
   . have ne:∀ {j:Nat} {o':Own},(dl.set i (.val (.obj C (tw fs nm a ls' n))))[j]?=some (.own o')->dl[j]?=some (.own o'):=fun {j o'} hj=>by
       have ej:i≠j:=fun z=>by
         subst z
         rw[List.getElem?_set_self (List.getElem?_eq_some_iff.mp hd).1] at hj;cases hj
       rw[List.getElem?_set_ne ej] at hj;exact hj
     exact S.FO j m o1 o2 c (ne q1) (ne q2) q3 q4
end
theorem Br {l:Addr}:∀ (a b:List (Str×Dt)),kO l (a ++ b)=(kO l a && kO l b)
 | [],b=>by rw[List.nil_append,kO];rfl
 | (k,d)::a,b=>by rw[List.cons_append,kO,kO,Br a b,Bool.and_assoc]
theorem IW (nm:Nat->Str)(l:Addr)(ls:km)(n:Nat):∀ js:List Nat,kO l (js.map fun j=>(nm j,Dt.gc l ls j n))=true
 | []=>rfl
 | j::js=>by rw[List.map_cons,kO,IW nm l ls n js];rfl
theorem x9 {fs:List (Str×Dt)}{nm:List Str}{l:Addr}{ls:km}{n:Nat}(h:kO l fs=true):kO l (pY fs nm l ls n)=true:=by
 unfold pY
 rw[Br,h,IW];rfl
section
variable {X:Cx}{G0:Gr}{E:XK}{arg:Expr}{fs:List (Str×Dt)}{l C:Addr}{ls:km}{n N:Nat}{tl:List Slot}{f g:Nat->List (Key×FD)}{n0 n1 x0 xg:Str}{p1 p2 p3 p4 p5 a1 a2 c1 c2 q1 q2:Pos}
theorem Bs (ng:Nat)(hs:kO l fs=true)(ht:qZ l tl=true)(hu:tl[ng]?=some .aL)(mx:ls.map (·.2)=[f,g])(hN:N < 9000)(cl:ue X.K C)(Qp:bM X.K C n0)(Xv:bM X.K C n1)(hA:G0.Hf l=some (.memo ls))(hB:G0.H l=some (.memo ls))
   (Xw:∀ G2,EO X G2 (.val (.obj C (pY fs [n0,n1] l ls n))::tl.set ng (.val (.eG (oi (f N))))) arg (.dw (oi (g N))))
   (R6:(pY fs [n0,n1] l ls n).lookup n0=some (.gc l ls 0 n):=by rfl) (La:(pY fs [n0,n1] l ls n).lookup n1=some (.gc l ls 1 n):=by rfl)
   (R5:X.N[0]?=some x0:=by rfl) (VX:uU X.env.scope x0:=by first | exact Or.inl rfl | exact Or.inr (Or.inl rfl) | exact Or.inr (Or.inr rfl)) (VY:(x0 == ("__debug__":Str))=false:=by decide) (Um:(x0 == ("__classdict__":Str))=false:=by decide)
   (Xx:X.N[ng+1]?=some xg:=by rfl) (Xy:uU X.env.scope xg:=by first | exact Or.inl rfl | exact Or.inr (Or.inl rfl) | exact Or.inr (Or.inr rfl)) (Xz:(xg == ("__debug__":Str))=false:=by decide) (XA:(xg == ("__classdict__":Str))=false:=by decide)
   (VZ:attributeBase (.Name x0 p1) n0 X.env (eval (.Name x0 p1) X.env)=eval (.Name x0 p1) X.env:=by rfl) (ZG:attributeBase (.Name x0 p4) n1 X.env (eval (.Name x0 p4) X.env)=eval (.Name x0 p4) X.env:=by rfl)
   (C0:attributeBase (.Attribute (.Name x0 p1) n0 p2) "append" X.env (eval (.Attribute (.Name x0 p1) n0 p2) X.env)=eval (.Attribute (.Name x0 p1) n0 p2) X.env:=by rfl)
   (Qq:attributeBase (.Attribute (.Name x0 p4) n1 p5) "append" X.env (eval (.Attribute (.Name x0 p4) n1 p5) X.env)=eval (.Attribute (.Name x0 p4) n1 p5) X.env:=by rfl)
   (IY:((backTo c1 (starEach [.Name xg p3] X.env)).all (fun x=>!x.1) && (backToKw c1 (keywordEach [] X.env)).all (fun x=>x.1.isSome) && decide ([Expr.Name xg p3].length+([]:List Keyword).length+(if ([]:List Keyword).isEmpty then 0 else 1) < 30))=true:=by rfl)
   (Uo:((backTo c2 (starEach [arg] X.env)).all (fun x=>!x.1) && (backToKw c2 (keywordEach [] X.env)).all (fun x=>x.1.isSome) && decide ([arg].length+([]:List Keyword).length+(if ([]:List Keyword).isEmpty then 0 else 1) < 30))=true:=by rfl)
   (C1:(a1.endLine == c1.line)=true:=by rfl) (Qr:(a2.endLine == c2.line)=true:=by rfl) (zi:starEach [.Name xg p3] X.env=(false,eval (.Name xg p3) X.env)::starEach [] X.env:=by rfl) (Ml:starEach [arg] X.env=(false,eval arg X.env)::starEach [] X.env:=by rfl)
   (GS:swapsWith (.Call (.Attribute (.Attribute (.Name x0 p1) n0 p2) "append" a1) [.Name xg p3] [] c1) none q1.line X.env=pure false:=by rfl) (AE:swapsWith (.Call (.Attribute (.Attribute (.Name x0 p4) n1 p5) "append" a2) [arg] [] c2) none q2.line X.env=pure false:=by rfl) :
   oh X (Ul G0 l (.bK ls (List.replicate ls.length N))) E (.val (.obj C (pY fs [n0,n1] l ls n))::tl.set ng (.own (.dw (oi (f N)))))
     [.Expr (.Call (.Attribute (.Attribute (.Name x0 p1) n0 p2) "append" a1) [.Name xg p3] [] c1) q1,.Expr (.Call (.Attribute (.Attribute (.Name x0 p4) n1 p5) "append" a2) [arg] [] c2) q2] (.raw (RM X.K G0 C fs [n0,n1] l ls n tl (N+1))):=by
 have Up:PE X arg (fun st H Q=>∃ G2,VG X.K G2 (.val (.obj C (pY fs [n0,n1] l ls n))::tl.set ng (.val (.eG (oi (f N))))) (.dw (oi (g N))) st H Q):=fun pins s st H Q I ⟨G2,q⟩=>Xw G2 pins s st H Q I q
 refine AX (oy (lX (u9 PySem.F.plainAttrs_list PySem.F.slot_list_append PySem.F.type_list_append qr (uZ (jF (pos:=p1) R5 VX VY Um) VZ) (lY (jF (pos:=p3) Xx Xy Xz XA) oB zi) C0 IY C1 zi rfl) GS)
   (mT (lX (u9 PySem.F.plainAttrs_list PySem.F.slot_list_append PySem.F.type_list_append qr (uZ (jF (pos:=p4) R5 VX VY Um) ZG) (lY Up oB Ml) Qq Uo Qr Ml rfl) AE))) fun D st H ⟨Hf,S,k⟩=>?_
 have e2:ls.length=2:=by have:=congrArg List.length mx;simpa using this
 have eR:∀ M:Nat,List.replicate ls.length M=[M,M]:=fun M=>by rw[e2];rfl
 rw[eR] at S
 have Uq:ng < tl.length:=(List.getElem?_eq_some_iff.mp hu).1
 obtain⟨v0,hv,rv⟩:=S.val 0 _ rfl
 cases rv with
 | @obj sa _ dx fv _ Qs rf=>
   obtain⟨oa,C3,V0,_,back⟩:=Rd.ex Qs
   have Qt:Hf l=some (.bK ls [N,N]):=S.gr.bw _ _ ak
   have Oe:H l=some (.bK ls [N,N]):=S.sub _ _ Qt
   have hm:b6 Hf l ls:=.inr ⟨_,Qt⟩
   obtain⟨y0,XB,XC⟩:=rf.lookup R6
   obtain⟨y1,K7,ry1⟩:=rf.lookup La
   obtain⟨qa,hq,Ur,XD,kvs,Of,rk⟩:=S.own (ng+1) (.dw (oi (f N))) (by show(tl.set ng _)[ng]?=_;rw[List.getElem?_set_self Uq])
   cases XC with
   | @gc _ p _ _ _ f0 Ak _ XE _=>cases ry1 with
     | @gc _ pp _ _ _ f1 T8 _ abJ _=>
       have XG:f0=f:=by
         have:=congrArg (fun z=>z[0]?) mx
         simp only[List.getElem?_map,Ak] at this
         exact Option.some.inj this
       have ef1:f1=g:=by
         have:=congrArg (fun z=>z[1]?) mx
         simp only[List.getElem?_map,T8] at this
         exact Option.some.inj this
       subst XG ef1
       have V1:rK H kvs (f0 N):=gI (fun b u e _=>S.sub _ _ e) (qp rk)
       have XH:qa≠l:=fun z=>by rw[z,Oe] at Of;cases Of
       have Us:sa≠l:=fun z=>by rw[z,Qt] at C3;cases C3;cases V0
       have ZH:sa≠qa:=fun z=>by rw[z,Ur] at C3;cases C3
       refine⟨_,hv,sa,C,dx,fv,_,rfl,back _ (S.sub _ _ C3),cl,Qp,XB,.inr (.inr (.inr (.inr ⟨rfl,l,ls,[N,N],0,f0,N,Oe,Ak,rfl⟩))),_,hq,l,ls,[N,N],0,p,f0,N,qa,kvs,rfl,rfl,Oe,Ak,rfl,hN,Of,V1,fun oq=>?_⟩
       let H4:Hp:=upd (upd H l (.bK ls ([N,N].set 0 (N+1)))) qa (.kd (some (p,N)) oq kvs)
       let u4:HO:=.bK ls [N+1,N]
       have V2:H4 l=some u4:=by show(upd (upd H l _) qa _) l=_;rw[ag (Ne.symm XH),ak];rfl
       have ZI:H4 qa=some (.kd (some (p,N)) oq kvs):=ak
       have V3:∀ b o,H b=some o->b≠l->b≠qa->H4 b=some o:=fun b o e n1 n2=>by show(upd (upd H l _) qa _) b=_;rw[ag n2,ag n1];exact e
       have h4n:∀ b,H4 b=none->H b=none:=fun b e=>by
         have n1:b≠l:=fun z=>by rw[z,V2] at e;cases e
         have n2:b≠qa:=fun z=>by rw[z,ZI] at e;cases e
         have e:(upd (upd H l _) qa _) b=none:=e
         rw[ag n2,ag n1] at e;exact e
       have hfq:∀ b o,Hf b=some o->b≠qa:=fun b o e z=>by rw[z,Ur] at e;cases e
       have zj:aE (upd Hf l u4) H4:=fun b o e=>by
         by_cases bl:b=l
         . rw[bl,ak] at e;cases e;rw[bl];exact V2
         . rw[ag bl] at e;exact V3 b o (S.sub _ _ e) bl (hfq b o e)
       let K9:Hp:=jJ (upd Hf l u4) H4
       have Ut:aE (upd Hf l u4) K9:=gH zj
       have V4:mE ls u4:=.inr ⟨_,rfl⟩
       have XI:∀ b u,H b=some u->Kept u->K9 b=some u:=fun b u e kq=>zh (V3 b _ e (fun z=>by rw[z,Oe] at e;cases e;exact kq) (fun z=>by rw[z,Of] at e;cases e;exact kq)) kq
       have S4:d7 X.K ⟨K9,H4⟩ st K9 H4 (.val (.obj C (pY fs [n0,n1] l ls n))::tl.set ng (.val (.eG (oi (f0 N))))):=by
         have no:∀ (i:Nat) o,(Slot.val (.obj C (pY fs [n0,n1] l ls n))::tl.set ng (.val (.eG (oi (f0 N)))))[i]?≠some (.own o):=fun i o h=>by
           cases i with
           | zero=>cases h
           | succ i=>
             have h:(tl.set ng (.val (.eG (oi (f0 N)))))[i]?=some (.own o):=h
             by_cases e:ng=i
             . subst e;rw[List.getElem?_set_self Uq] at h;cases h
             . rw[List.getElem?_set_ne e] at h;exact aV (iq ht) i o h
         refine⟨.refl (oK zj),by have:=S.len;simpa using this,fun i d h=>?_,fun i o h=>absurd h (no i o),fun i j o o' a h=>absurd h (no i o)⟩
         cases i with
         | zero=>
           cases h
           exact⟨_,hv,.obj (back _ (Ut _ _ (bj hm C3 V0))) ((jI hm V4 (x9 hs) rf).mono Ut)⟩
         | succ i=>
           have h:(tl.set ng (.val (.eG (oi (f0 N)))))[i]?=some (.val d):=h
           by_cases e:ng=i
           . subst e
             rw[List.getElem?_set_self Uq] at h;cases h
             exact⟨_,hq,.eG (En ZI) (ur (gI XI V1))⟩
           . rw[List.getElem?_set_ne e] at h
             obtain⟨w,w1,w2⟩:=S.val (i+1) d (by show(tl.set ng _)[i]?=_;rw[List.getElem?_set_ne e];exact h)
             exact⟨w,w1,(jb hm V4 (mF ht h) w2).mono Ut⟩
       refine⟨_,hv,sa,C,dx,fv,_,rfl,back _ (V3 _ _ (S.sub _ _ C3) Us ZH),cl,Xv,K7,.inr (.inr (.inr (.inr ⟨rfl,l,ls,[N+1,N],1,f1,N,V2,T8,rfl⟩))),⟨K9,H4⟩,K9,S4,fun ra wO H5 g5 n5 n5' ⟨Qu,NX,T4⟩=>?_⟩
       have ZJ:H5 l=some u4:=g5.big _ _ V2
       have nrl:ra≠l:=fun z=>by rw[z,ZJ] at NX;have NX:=Option.some.inj NX;have NX:HO.bK ls [N+1,N]=.dK Qu:=NX;cases NX
       refine⟨l,ls,[N+1,N],1,pp,f1,N,ra,Qu,rfl,rfl,ZJ,T8,rfl,hN,NX,gI (fun b u e _=>g5.sub _ _ e) (qp T4),fun or=>?_⟩
       let H6:Hp:=upd (upd H5 l (.bK ls ([N+1,N].set 1 (N+1)))) ra (.kd (some (pp,N)) or Qu)
       show D.nx st H6
       have XJ:H6 l=some (.bK ls [N+1,N+1]):=by show(upd (upd H5 l _) ra _) l=_;rw[ag (Ne.symm nrl),ak];rfl
       have Uu:∀ b o,H5 b=some o->b≠l->b≠ra->(upd H6 l (.memo ls)) b=some o:=fun b o e n1 n2=>by
         rw[ag n1]
         show(upd (upd H5 l _) ra _) b=_
         rw[ag n2,ag n1];exact e
       have XM:∀ b o,wO b=some o->b≠ra:=fun b o e z=>by rw[z,n5'] at e;cases e
       have IZ:aE (upd wO l (.memo ls)) (upd H6 l (.memo ls)):=fun b o e=>by
         by_cases bl:b=l
         . rw[bl,ak] at e ⊢;exact e
         . rw[ag bl] at e;exact Uu b o (g5.sub _ _ e) bl (XM b o e)
       have Ja:=gH IZ
       have f4:∀ b o,Hf b=some o->b≠l->wO b=some o:=fun b o e n1=>g5.bw _ _ (Ut _ _ (by rw[ag n1];exact e))
       have g6:bh G0.Hf G0.H (jJ (upd wO l (.memo ls)) (upd H6 l (.memo ls))) (upd H6 l (.memo ls)):=by
         refine⟨fun b o e=>?_,fun b o e=>?_,oK IZ,fun b o e=>?_⟩
         . by_cases bl:b=l
           . rw[bl,hB] at e;cases e;rw[bl];exact ak
           . have h3:H b=some o:=S.gr.big _ _ (by show(upd G0.H l _) b=_;rw[ag bl];exact e)
             have XO:b≠qa:=fun z=>by
               have:(upd G0.H l (.bK ls [N,N])) qa=none:=XD
               rw[<- z,ag bl,e] at this;cases this
             have h4:=V3 b o h3 bl XO
             exact Uu b o (g5.big _ _ h4) bl (fun z=>by have n5:H4 ra=none:=n5;rw[z,n5] at h4;cases h4)
         . by_cases bl:b=l
           . rw[bl,hA] at e;cases e;rw[bl];exact Ja _ _ ak
           . have h3:Hf b=some o:=S.gr.bw _ _ (by show(upd G0.Hf l _) b=_;rw[ag bl];exact e)
             exact Ja _ _ (by rw[ag bl];exact f4 b o h3 bl)
         . rcases pE (Hf:=upd wO l (.memo ls)) (H:=upd H6 l (.memo ls)) b with⟨u',z1,z2,z3⟩ | z
           . rw[z3] at e;cases e;exact .inr (.inr z2)
           . rw[z] at e
             by_cases bl:b=l
             . rw[bl];exact .inl ⟨_,hA⟩
             . rw[ag bl] at e
               rcases g5.new b o e with⟨o',w⟩ | w | w
               . have eo:o'=o:=by have:=g5.bw _ _ w;rw[e] at this;exact(Option.some.inj this).symm
                 subst eo
                 rcases pE (Hf:=upd Hf l u4) (H:=H4) b with⟨u',z1,z2,z3⟩ | z'
                 . have w:jJ (upd Hf l u4) H4 b=some o':=w
                   rw[z3] at w;cases w;exact .inr (.inr z2)
                 . have w:jJ (upd Hf l u4) H4 b=some o':=w
                   rw[z',ag bl] at w
                   rcases S.gr.new b o' w with⟨Py,y⟩ | y | y
                   . have y:(upd G0.Hf l _) b=some Py:=y
                     rw[ag bl] at y;exact .inl ⟨Py,y⟩
                   . have y:(upd G0.H l _) b=none:=y
                     rw[ag bl] at y;exact .inr (.inl y)
                   . exact .inr (.inr y)
               . have y:(upd G0.H l (.bK ls [N,N])) b=none:=S.gr.big.free (h4n b w)
                 rw[ag bl] at y;exact .inr (.inl y)
               . exact .inr (.inr w)
       have XQ:aE (upd Hf l u4) wO:=Ut.trans g5.bw
       have ZK:b6 wO l ls:=.inr ⟨_,XQ _ _ ak⟩
       have Qv:∀ {v:V} {d:Dt},sC l d=true->Rep X.K Hf v d->Rep X.K (jJ (upd wO l (.memo ls)) (upd H6 l (.memo ls))) v d:=fun {v d} hn r=>(jb ZK (.inl rfl) hn ((jb hm V4 hn r).mono XQ)).mono Ja
       refine k st H6 ⟨by rw[eR];exact XJ,_,⟨g6,by have:=S.len;simpa using this,fun i d h=>?_,fun i o h=>?_,fun i j o o' a h=>?_⟩⟩
       . cases i with
         | zero=>
           cases h
           refine⟨_,hv,.obj (back _ (Ja _ _ (by rw[ag Us];exact f4 _ _ C3 Us))) ?_⟩
           have r5:=(jI hm V4 (x9 hs) rf).mono XQ
           exact(Od hs ZK r5).mono Ja
         | succ i=>
           have h:tl[i]?=some (.val d):=h
           have e:ng≠i:=fun z=>by rw[<- z,hu] at h;cases h
           obtain⟨w,w1,w2⟩:=S.val (i+1) d (by show(tl.set ng _)[i]?=_;rw[List.getElem?_set_ne e];exact h)
           exact⟨w,w1,Qv (mF ht h) w2⟩
       . cases i with
         | zero=>cases h
         | succ i=>exact absurd h (aV (iq ht) i o)
       . cases i with
         | zero=>cases h
         | succ i=>exact absurd h (aV (iq ht) i o)
end
noncomputable def ZL:HO->Bool
 | .lst _=>true
 | .dK _=>true
 | _=>false
noncomputable def conv (H:Hp)(p p2 q1 q2:Addr)(u1 u2 u3 u4:HO):Hp:=upd (upd (upd (upd H p u1) p2 u2) q1 u3) q2 u4
section
variable {X:Cx}{pins:List (Addr×Obj)}{σ:L2.St}{H:Hp}{s:Shared}{p p2 q1 q2:Addr}{nT Am:List (Key×V)}{f g:Nat->List (Key×FD)}
theorem Inv.Qw (I:L2.Inv X pins σ H s)(hp:H p=some (.lst [.ref q1]))(yG:H p2=some (.lst [.ref q2]))(Lc:H q1=some (.dK nT))(Uv:H q2=some (.dK Am))(f1:rK H nT (f 0))(f2:rK H Am (g 0))(n1:p≠p2)(n2:q1≠q2):∃ o1 o2,L2.Inv X pins σ (conv H p p2 q1 q2 (.memo [(p,f),(p2,g)]) (.part p) (.kd (some (p,0)) o1 nT) (.kd (some (p2,0)) o2 Am)) s:=by
 obtain⟨z1,i1,c1,r1,e1⟩:=(show aP X.prog X.w H s.heap p (.lst [.ref q1]) from I.bH p _ hp)
 obtain⟨z2,i2,c2,r2,e2⟩:=(show aP X.prog X.w H s.heap p2 (.lst [.ref q2]) from I.bH p2 _ yG)
 obtain⟨Mm,lo1,XR,XS,o1,XT,XU,Uw,XW⟩:=(show aP X.prog X.w H s.heap q1 (.dK nT) from I.bH q1 _ Lc)
 obtain⟨hz2,lo2,vs2,kr2,o2,es2,ep2,V5,hr2⟩:=(show aP X.prog X.w H s.heap q2 (.dK Am) from I.bH q2 _ Uv)
 obtain⟨u1,rfl,w1⟩:=vals1 r1
 obtain⟨u2,rfl,w2⟩:=vals1 r2
 cases (show u1=Value.ref q1 from w1)
 cases (show u2=Value.ref q2 from w2)
 refine⟨o1,o2,?_⟩
 have m1:p≠q1:=fun z=>by rw[z,Lc] at hp;cases hp
 have m2:p≠q2:=fun z=>by rw[z,Uv] at hp;cases hp
 have m3:p2≠q1:=fun z=>by rw[z,Lc] at yG;cases yG
 have m4:p2≠q2:=fun z=>by rw[z,Uv] at yG;cases yG
 generalize Mn:conv H p p2 q1 q2 (.memo [(p,f),(p2,g)]) (.part p) (.kd (some (p,0)) o1 nT) (.kd (some (p2,0)) o2 Am)=H'
 have Ux:H' p=some (.memo [(p,f),(p2,g)]):=by rw[<- Mn];unfold conv;rw[ag m2,ag m1,ag n1,ak]
 have Qx:H' p2=some (.part p):=by rw[<- Mn];unfold conv;rw[ag m4,ag m3,ak]
 have Jb:H' q1=some (.kd (some (p,0)) o1 nT):=by rw[<- Mn];unfold conv;rw[ag n2,ak]
 have Uy:H' q2=some (.kd (some (p2,0)) o2 Am):=by rw[<- Mn];unfold conv;rw[ak]
 have CZ:∀ b,b≠p->b≠p2->b≠q1->b≠q2->H' b=H b:=fun b a1 a2 a3 a4=>by rw[<- Mn];unfold conv;rw[ag a4,ag a3,ag a2,ag a1]
 have tP:∀ b o,H b=some o->ZL o=false->H' b=some o:=fun b o e n=>by
   rw[CZ b (fun z=>by rw[z,hp] at e;cases e;cases n) (fun z=>by rw[z,yG] at e;cases e;cases n) (fun z=>by rw[z,Lc] at e;cases e;cases n) (fun z=>by rw[z,Uv] at e;cases e;cases n)]
   exact e
 have kp:Kp H H':=⟨fun b o e kq=>tP b _ e (by cases o <;> first | rfl | exact(show False from kq).elim),fun b e=>by
   cases q:H b with
   | none=>rw[q] at e;exact e.elim
   | some u=>
     rw[q] at e
     rw[tP b u q (by cases u <;> first | rfl | exact e.elim)]
     exact e,fun b x e=>tP b _ e rfl⟩
 refine I.un (h':=s.heap) (t':=s.toks) ⟨fun b o e _ _ _=>e,fun b o e _ _ _=>⟨o.slots,e⟩,fun b o e n _=>?_,fun b o e _=>⟨o,e⟩,fun b xs e=>tP b _ e rfl,fun b o u e=>tP b _ e rfl,fun b ps e=>⟨#[],by rw[tP b _ e rfl];simp⟩⟩ fun b u e=>?_
 . rw[CZ b (fun z=>by rw[z,hp] at n;cases n) (fun z=>by rw[z,yG] at n;cases n) (fun z=>by rw[z,Lc] at n;cases n) (fun z=>by rw[z,Uv] at n;cases n)]
   exact n
 . by_cases b1:b=p
   . subst b1
     rw[Ux] at e;cases e
     refine⟨⟨_,e1⟩,1,by decide,⟨f,rfl⟩,rfl,fun j a h hj=>?_,by simp[n1],fun n hn=>by rw[List.mem_replicate] at hn;omega,fun j a h n hj hn=>?_⟩
     . match j,hj with
       | 0,hj=>cases hj;exact .inl rfl
       | 1,hj=>cases hj;exact .inr Qx
     . match j,hj,hn with
       | 0,hj,hn=>
         cases hj;cases hn
         refine⟨_,_,e1,rfl,fun i hi=>?_⟩
         have:i=0:=by omega
         subst this
         exact⟨q1,o1,nT,rfl,Jb,f1.kp kp⟩
       | 1,hj,hn=>
         cases hj;cases hn
         refine⟨_,_,e2,rfl,fun i hi=>?_⟩
         have:i=0:=by omega
         subst this
         exact⟨q2,o2,Am,rfl,Uy,f2.kp kp⟩
   . by_cases b2:b=p2
     . subst b2;rw[Qx] at e;cases e;exact⟨_,e2⟩
     . by_cases b3:b=q1
       . subst b3;rw[Jb] at e;cases e
         refine⟨Uw,⟨Mm,lo1,XR,XS,o1,XT,XU,Uw,XW⟩,fun a i ht=>?_⟩
         cases ht
         exact⟨by rw[Ux];trivial,_,_,e1,rfl⟩
       . by_cases b4:b=q2
         . subst b4;rw[Uy] at e;cases e
           refine⟨V5,⟨hz2,lo2,vs2,kr2,o2,es2,ep2,V5,hr2⟩,fun a i ht=>?_⟩
           cases ht
           exact⟨by rw[Qx];trivial,_,_,e2,rfl⟩
         . rw[CZ b b1 b2 b3 b4] at e
           exact(I.bH b u e).yt (fun _ _ _ q=>q) (fun c q=>tP c _ q rfl) (fun c xs q=>tP c _ q rfl) kp
end
theorem Ep (n0:Str)(v:V):∀ fv:List (Str×V),(fL n0 v fv).length<=fv.length+1
 | []=>Nat.le_refl _
 | (k,w)::r=>by
   have ih:=Ep n0 v r
   unfold fL
   split
   . simp
   . simp only[List.length_cons];omega
section
variable {X:Cx}{G:Gr}{E:XK}{e1 e2:Expr}{fs:List (Str×Dt)}{z C:Addr}{tl:List Slot}{f g:Nat->List (Key×FD)}{n0 n1 x0:Str}{Qy XY Qz XZ QA X0 q1 q2:Pos}
theorem zk (no:noOwn tl=true)(cl:ue X.K C)(Qp:bM X.K C n0)(Xv:bM X.K C n1)(X1:EO X G (.own (.AW z C fs)::tl) e1 (.dw (oi (f 0))))(TZ:EO X G (.aL::tl) e2 (.dw (oi (g 0))))(QB:∀ p ls,putD n1 (.memo p ls 1 1) (putD n0 (.memo p ls 0 1) fs)=tw fs [n0,n1] p ls 1:=by intro _ _;rfl)(hlen:Nat.ble fs.length 990=true:=by rfl)(hN:X.N[0]?=some x0:=by rfl)(hv:uU X.env.scope x0:=by first | exact Or.inl rfl | exact Or.inr (Or.inl rfl) | exact Or.inr (Or.inr rfl))(mR:(x0 == ("__debug__":Str))=false:=by decide)(my:(x0 == ("__classdict__":Str))=false:=by decide)(zi:starEach [e1] X.env=[(false,eval e1 X.env)]:=by rfl)(Ml:starEach [e2] X.env=[(false,eval e2 X.env)]:=by rfl)(GS:swapsWith (.List [e1] QA) (some (.Attribute (.Name x0 Qy) n0 Qz)) q1.line X.env=pure false:=by rfl)(AE:swapsWith (.List [e2] X0) (some (.Attribute (.Name x0 XY) n1 XZ)) q2.line X.env=pure false:=by rfl):oh X G E (.own (.AW z C fs)::tl) [.Assign [.Attribute (.Name x0 Qy) n0 Qz] (.List [e1] QA) q1,.Assign [.Attribute (.Name x0 XY) n1 XZ] (.List [e2] X0) q2] (.nx (.own (.yK z C fs [f,g] [n0,n1] 1)::tl)):=by
 intro pins s st H D I ⟨Hf,S,k⟩
 have base:=oy (u0 (pos:=q1) (pos':=Qz) (jF (pos:=Qy) hN hv mR my) (u6 (pos:=QA) (lY X1 oB zi)) GS) (mT (u0 (pos:=q2) (pos':=XZ) (jF (pos:=XY) hN hv mR my) (u6 (pos:=X0) (lY TZ oB Ml)) AE))
 let RQ:L2.St->Hp->Prop:=fun jC H'=>∃ p p2 a1 a2 nT Am,H' p=some (.lst [.ref a1])/\H' p2=some (.lst [.ref a2])/\H' a1=some (.dK nT)/\H' a2=some (.dK Am)/\rK H' nT (f 0)/\rK H' Am (g 0)/\p≠p2/\a1≠a2/\ ∀ o1 o2,D.nx jC (conv H' p p2 a1 a2 (.memo [(p,f),(p2,g)]) (.part p) (.kd (some (p,0)) o1 nT) (.kd (some (p2,0)) o2 Am))
 refine b7 (base pins s st H { D with nx:=RQ} I ?_) fun fl s7 q7=>?_
 . obtain⟨za,hz,X2,R8,ez,dx,fv,Mo,rf⟩:=S.own 0 _ rfl
   subst ez
   refine⟨Hf,S,fun a1 aw H1 g1 Uz QC ⟨nT,P9,X3⟩=>⟨Nat.le_of_ble_eq_true rfl,fun p hp=>?_⟩⟩
   have Mm:H1 za=some (.ins C dx fv):=g1.big _ _ Mo
   have Ld:za≠p:=av Mm hp
   have UA:a1≠p:=av P9 hp
   have Og:za≠a1:=fun w=>by rw[w,Uz] at Mo;cases Mo
   have X4:(upd H1 p (.lst [.ref a1])) za=some (.ins C dx fv):=by rw[ag Ld];exact Mm
   refine⟨_,hz,za,C,dx,fv,rfl,X4,cl,Qp,by rw[rf.length];exact Nat.lt_of_le_of_lt (Nat.le_of_ble_eq_true hlen) (by decide),?_⟩
   let H2:Hp:=upd (upd H1 p (.lst [.ref a1])) za (.ins C dx (fL n0 (.ref p) fv))
   have Gd:aw za=none:=g1.lH X2 Mo
   have X5:bh aw H1 aw (upd H1 p (.lst [.ref a1])):=.fU g1.sub hp
   have S0:d7 X.K G st Hf H (.aL::tl):=S.weak ⟨rfl,fun i s' e n=>by
     cases i with
     | zero=>cases e;exact absurd rfl n
     | succ i=>exact e⟩
   have V6:noOwn (.aL::tl)=true:=no
   have S2:d7 X.K G st aw H2 (.aL::tl):=pz ((S0.grow g1).grow X5) V6 Gd R8
   refine⟨aw,S2,fun a2 ko H3 g3 n3 n3' ⟨Am,T3,T4⟩=>⟨Nat.le_of_ble_eq_true rfl,fun p2 yG=>?_⟩⟩
   have X6:H2 a2=none:=n3
   have V7:H2 za=some (.ins C dx (fL n0 (.ref p) fv)):=ak
   have V8:H2 p=some (.lst [.ref a1]):=by show(upd (upd H1 p _) za _) p=_;rw[ag (Ne.symm Ld),ak]
   have V9:H2 a1=some (.dK nT):=by show(upd (upd H1 p _) za _) a1=_;rw[ag (Ne.symm Og),ag UA];exact P9
   have ZM:=g3.big _ _ V7
   have ZN:=g3.big _ _ V8
   have ZO:=g3.big _ _ V9
   have Mp:za≠p2:=av ZM yG
   have QD:p≠p2:=av ZN yG
   have Oh:a1≠p2:=av ZO yG
   have Oi:a2≠p2:=av T3 yG
   have QE:za≠a2:=fun w=>by rw[w,X6] at V7;cases V7
   have X7:p≠a2:=fun w=>by rw[w,X6] at V8;cases V8
   have UB:a1≠a2:=fun w=>by rw[w,X6] at V9;cases V9
   have X8:(upd H3 p2 (.lst [.ref a2])) za=some (.ins C dx (fL n0 (.ref p) fv)):=by rw[ag Mp];exact ZM
   refine⟨_,hz,za,C,dx,_,rfl,X8,cl,Xv,?_,?_⟩
   . have:=Ep n0 (.ref p) fv
     have h9:=Nat.le_of_ble_eq_true hlen
     have:=rf.length
     omega
   let H4:Hp:=upd (upd H3 p2 (.lst [.ref a2])) za (.ins C dx (fL n1 (.ref p2) (fL n0 (.ref p) fv)))
   have X9:H4 p=some (.lst [.ref a1]):=by show(upd (upd H3 p2 _) za _) p=_;rw[ag (Ne.symm Ld),ag QD];exact ZN
   have Ya:H4 p2=some (.lst [.ref a2]):=by show(upd (upd H3 p2 _) za _) p2=_;rw[ag (Ne.symm Mp),ak]
   have QF:H4 a1=some (.dK nT):=by show(upd (upd H3 p2 _) za _) a1=_;rw[ag (Ne.symm Og),ag Oh];exact ZO
   have Yb:H4 a2=some (.dK Am):=by show(upd (upd H3 p2 _) za _) a2=_;rw[ag (Ne.symm QE),ag Oi];exact T3
   have Yc:H4 za=some (.ins C dx (fL n1 (.ref p2) (fL n0 (.ref p) fv))):=ak
   have Yd:ko za=none:=g3.lH Gd V7
   have Wa:ko p=none:=g3.lH (g1.sub.free hp) V8
   have Ye:ko a1=none:=g3.lH QC V9
   have UC:ko p2=none:=g3.sub.free yG
   have zj:aE ko H4:=fun b o e=>by
     have b1:b≠za:=fun w=>by rw[w,Yd] at e;cases e
     have b2:b≠p2:=fun w=>by rw[w,UC] at e;cases e
     show(upd (upd H3 p2 _) za _) b=_
     rw[ag b1,ag b2];exact g3.sub _ _ e
   have S4:d7 X.K G st ko H4 (.aL::tl):=pz ((S2.grow g3).grow (.fU g3.sub yG)) V6 Yd R8
   have gp:G.H p=none:=S.gr.big.free (g1.big.free hp)
   have UD:G.H a1=none:=S.gr.big.free Uz
   have ZP:G.H p2=none:=S2.gr.big.free (g3.big.free yG)
   have ZQ:G.H a2=none:=S2.gr.big.free n3
   have UE:rK ko nT (f 0):=qp (X3.mono g3.bw)
   have ZR:rK ko Am (g 0):=qp T4
   refine⟨p,p2,a1,a2,nT,Am,X9,Ya,QF,Yb,gI (fun b u e _=>zj _ _ e) UE,gI (fun b u e _=>zj _ _ e) ZR,QD,UB,fun o1 o2=>?_⟩
   let ls:km:=[(p,f),(p2,g)]
   let u1:HO:=.memo ls
   let u3:HO:=.kd (some (p,0)) o1 nT
   let u4:HO:=.kd (some (p2,0)) o2 Am
   have m1:p≠a1:=Ne.symm UA
   have cat:∀ (B:Hp),conv B p p2 a1 a2 u1 (.part p) u3 u4 p=some u1/\conv B p p2 a1 a2 u1 (.part p) u3 u4 p2=some (.part p)/\conv B p p2 a1 a2 u1 (.part p) u3 u4 a1=some u3/\conv B p p2 a1 a2 u1 (.part p) u3 u4 a2=some u4:=fun B=>by
     unfold conv
     refine⟨?_,?_,?_,?_⟩
     . rw[ag X7,ag m1,ag QD,ak]
     . rw[ag (Ne.symm Oi),ag (Ne.symm Oh),ak]
     . rw[ag UB,ak]
     . rw[ak]
   have vD:∀ (B:Hp) b,b≠p->b≠p2->b≠a1->b≠a2->conv B p p2 a1 a2 u1 (.part p) u3 u4 b=B b:=fun B b c1 c2 c3 c4=>by unfold conv;rw[ag c4,ag c3,ag c2,ag c1]
   let wO:Hp:=conv ko p p2 a1 a2 u1 (.part p) u3 u4
   have GY:aE ko wO:=fun b o e=>by
     show conv ko p p2 a1 a2 u1 (.part p) u3 u4 b=some o
     rw[vD ko b (fun w=>by rw[w,Wa] at e;cases e) (fun w=>by rw[w,UC] at e;cases e) (fun w=>by rw[w,Ye] at e;cases e) (fun w=>by rw[w,n3'] at e;cases e)]
     exact e
   have key:∀ (A B:Hp),aE A B->aE (conv A p p2 a1 a2 u1 (.part p) u3 u4) (conv B p p2 a1 a2 u1 (.part p) u3 u4):=fun A B sm=>cH (cH (cH (cH sm)))
   have QG:aE wO (conv H4 p p2 a1 a2 u1 (.part p) u3 u4):=key _ _ zj
   have Jc:bg X.K wO (fL n1 (.ref p2) (fL n0 (.ref p) fv)) (tw fs [n0,n1] p ls 1):=by
     rw[<- QB p ls]
     refine((rf.mono ((g1.bw.trans g3.bw).trans GY)).put (f:=n0) (d:=.memo p ls 0 1) ?_).put (f:=n1) (d:=.memo p ls 1 1) ?_
     . refine .memo (f:=f) rfl (cat ko).1 (.inl rfl) fun i hi=>?_
       have:i=0:=by omega
       subst this
       exact⟨a1,o1,nT,(cat ko).2.2.1,gI (fun b u e _=>GY _ _ e) UE⟩
     . refine .memo (f:=g) rfl (cat ko).1 (.inr (cat ko).2.1) fun i hi=>?_
       have:i=0:=by omega
       subst this
       exact⟨a2,o2,Am,(cat ko).2.2.2,gI (fun b u e _=>GY _ _ e) ZR⟩
   have Yf:conv H4 p p2 a1 a2 u1 (.part p) u3 u4 za=some (.ins C dx (fL n1 (.ref p2) (fL n0 (.ref p) fv))):=by rw[vD H4 za Ld Mp Og QE];exact Yc
   have Yg:wO za=none:=by show conv ko p p2 a1 a2 u1 (.part p) u3 u4 za=none;rw[vD ko za Ld Mp Og QE];exact Yd
   refine k st wO _ ((g1.bw.trans g3.bw).trans GY) ⟨⟨fun b o e=>?_,S4.gr.bw.trans GY,QG,fun b o e=>?_⟩,by have:=S4.len;simpa using this,fun i d h=>?_,fun i o h=>?_,fun i j o o' a w1 w2=>?_⟩
   . rw[vD H4 b (fun w=>by rw[w,gp] at e;cases e) (fun w=>by rw[w,ZP] at e;cases e) (fun w=>by rw[w,UD] at e;cases e) (fun w=>by rw[w,ZQ] at e;cases e)]
     exact S4.gr.big _ _ e
   . by_cases c1:b=p
     . rw[c1];exact .inr (.inl gp)
     . by_cases c2:b=p2
       . rw[c2];exact .inr (.inl ZP)
       . by_cases c3:b=a1
         . rw[c3];exact .inr (.inl UD)
         . by_cases c4:b=a2
           . rw[c4];exact .inr (.inl ZQ)
           . have e:conv ko p p2 a1 a2 u1 (.part p) u3 u4 b=some o:=e
             rw[vD ko b c1 c2 c3 c4] at e
             exact S4.gr.new b o e
   . cases i with
     | zero=>cases h
     | succ i=>
       obtain⟨w,w1,w2⟩:=S4.val (i+1) d h
       exact⟨w,w1,w2.mono GY⟩
   . cases i with
     | zero=>
       cases h
       exact⟨za,hz,Yg,R8,rfl,dx,_,p,ls,rfl,Yf,Jc⟩
     | succ i=>exact absurd h (aV no i o)
   . cases i with
     | zero=>cases j with
       | zero=>exact fun _ _=>rfl
       | succ j=>exact absurd w2 (aV no j o')
     | succ i=>exact absurd w1 (aV no i o)
 . cases fl with
   | next=>
     obtain⟨σ7,H7,I7,p,p2,a1,a2,nT,Am,y1,y2,y3,y4,y5,y6,y7,y8,kk⟩:=q7
     obtain⟨o1,o2,I8⟩:=Inv.Qw I7 y1 y2 y3 y4 y5 y6 y7 y8
     exact⟨σ7,_,I8,kk o1 o2⟩
   | cont=>exact q7
   | brk=>exact q7
   | ret v=>exact q7
end
section
variable {X:Cx}{G:Gr}{E:XK}{dl:List Slot}{a b e o:Expr}{u:Bool}{pos p:Pos}{k:Str}{kds:List (Key×Dt)}
theorem UG (h:EO X G dl e (.dw kds)):EE X G dl e (.mV kds):=by
 intro pins s st H Q I ⟨Hf,S,kk⟩
 refine b7 (h pins s st H (fun v H'=>∃ p aH,v=.ref p/\bh Hf H aH H'/\H p=none/\aH p=none/\gZ X.K aH H' p (.dw kds)) I ⟨Hf,S,fun p aH H' g n n' r=>⟨p,aH,rfl,g,n,n',r⟩⟩) fun u s1 ⟨v,H',I1,rv,q,aH,ev,g,n,n',kvs,hq,rp⟩=>?_
 subst ev
 obtain⟨hz,lo,vs,kv,ob,es,ep,ho,hr⟩:=(show aP X.prog X.w H' s1.heap q (.dK kvs) from I1.bH q _ hq)
 have I2:L2.Inv X pins st (upd H' q (.bw ob (.dK kvs))) s1:=lZ (h':=s1.heap) (t':=s1.toks) I1 (by rw[hq];trivial) ⟨rfl,fun _ _=>rfl⟩ ⟨ob,ho⟩ ⟨ho,hz,lo,vs,kv,ob,es,ep,ho,hr⟩
 have sm:aE aH (upd aH q (.bw ob (.dK kvs))):=bE n'
 refine⟨.ref q,_,I2,rv,kk _ (upd aH q (.bw ob (.dK kvs))) _ ⟨fun b o hb=>?_,g.bw.trans sm,cH g.sub,fun b o hb=>?_⟩ (.mV ak (rp.mono sm))⟩
 . rw[ag (av hb n)];exact g.big _ _ hb
 . by_cases e:b=q
   . subst e;exact .inr (.inl n)
   . rw[ag e] at hb;exact g.new b o hb
variable {d1 d2 d3 d4:Dt}
theorem Mq (n1 n2 n3 n4:Nat){a b c f:Str}{pa pb pc pf tp:Pos}{cx:Nat}(hN:X.N.Nodup)(hc:X.calm=true)(he:EE X G dl e (.tup [d1,d2,d3,d4]))(hi1:X.N[n1]?=some a:=by rfl)(hi2:X.N[n2]?=some b:=by rfl)(hi3:X.N[n3]?=some c:=by rfl)(hi4:X.N[n4]?=some f:=by rfl)(hx1:Loc X.env.scope a:=by first | exact Or.inl rfl | exact Or.inr rfl)(hx2:Loc X.env.scope b:=by first | exact Or.inl rfl | exact Or.inr rfl)(hx3:Loc X.env.scope c:=by first | exact Or.inl rfl | exact Or.inr rfl)(hx4:Loc X.env.scope f:=by first | exact Or.inl rfl | exact Or.inr rfl)(hf1:X.fn a=true\/X.env.scope.names.lookup a=some .local:=by first | exact .inl rfl | exact .inr rfl)(hf2:X.fn b=true\/X.env.scope.names.lookup b=some .local:=by first | exact .inl rfl | exact .inr rfl)(hf3:X.fn c=true\/X.env.scope.names.lookup c=some .local:=by first | exact .inl rfl | exact .inr rfl)(hf4:X.fn f=true\/X.env.scope.names.lookup f=some .local:=by first | exact .inl rfl | exact .inr rfl)(hn:(assignEach [.Name a pa,.Name b pb,.Name c pc,.Name f pf] X.env).length=4:=by rfl)(qm:(assignEach [.Name a pa,.Name b pb,.Name c pc,.Name f pf] X.env).findIdx? (·.1)=none:=by rfl)(q1:(assignEach [.Name a pa,.Name b pb,.Name c pc,.Name f pf] X.env).map (·.2)=assign (.Name a pa) X.env::(assignEach [.Name b pb,.Name c pc,.Name f pf] X.env).map (·.2):=by rfl)(q2:(assignEach [.Name b pb,.Name c pc,.Name f pf] X.env).map (·.2)=assign (.Name b pb) X.env::(assignEach [.Name c pc,.Name f pf] X.env).map (·.2):=by rfl)(q3:(assignEach [.Name c pc,.Name f pf] X.env).map (·.2)=assign (.Name c pc) X.env::(assignEach [.Name f pf] X.env).map (·.2):=by rfl)(q4:(assignEach [.Name f pf] X.env).map (·.2)=assign (.Name f pf) X.env::(assignEach [] X.env).map (·.2):=by rfl)(hs:swapsWithSole [.Tuple [.Name a pa,.Name b pb,.Name c pc,.Name f pf] cx tp] e pos.line X.env=pure false:=by rfl)(hw:swappedStores [.Tuple [.Name a pa,.Name b pb,.Name c pc,.Name f pf] cx tp] e X.env=pure none:=by rfl)(h1:(assignEach [.Tuple [.Name a pa,.Name b pb,.Name c pc,.Name f pf] cx tp] X.env).map (·.2)=[assign (.Tuple [.Name a pa,.Name b pb,.Name c pc,.Name f pf] cx tp) X.env]:=by rfl):ES X G E dl (.Assign [.Tuple [.Name a pa,.Name b pb,.Name c pc,.Name f pf] cx tp] e pos) (.nx ((((dl.set n1 (.val d1)).set n2 (.val d2)).set n3 (.val d3)).set n4 (.val d4))):=
 uf (Hh he (rP hc (dg (bI (pos:=pa) hN hi1 hx1 hf1) (dg (bI (pos:=pb) hN hi2 hx2 hf2) (dg (bI (pos:=pc) hN hi3 hx3 hf3) (dg (bI (pos:=pf) hN hi4 hx4 hf4) o5 q4) q3) q2) q1) hn qm) hs hw h1) fun D st H ⟨Hf,S,k⟩=>⟨Hf,S,fun v aw H1 g1 r1=>by
   cases r1 with
   | @tup q vs _ hq rp=>
     cases rp with
     | cons r1 t1=>cases t1 with
       | cons r2 t2=>cases t2 with
         | cons r3 t3=>cases t3 with
           | cons r4 t4=>
             cases t4
             exact⟨q,_,rfl,gk g1.sub hq,rfl,_,_,rfl,_,_,rfl,_,_,rfl,_,_,rfl,rfl,k _ aw H1 g1.bw (((((S.grow g1).set r1).set r2).set r3).set r4)⟩⟩
end
theorem ir:PySem.Slot "reversed" "__next__" "reversed.__next__":=
 .of (owner:="reversed") (n:="__next__") (by rw[typeLookup_type,builtinLookup_eq_fast];kernel_rfl) (by decide +kernel) (by decide +kernel) (by decide +kernel)
   (by first | exact .inl (by decide +kernel) | exact .inr (by decide +kernel)) (by rw[isSubtype_type];kernel_rfl)
theorem oM:entryFor table "reversed.__next__"=some Builtin.«reversed.__next__»:=entryFor_of_tree (by kernel_rfl)
theorem nU (a:Value):argsOk "reversed.__next__" ⟨[a],[]⟩:=by unfold argsOk;kernel_rfl
theorem qe:PySem.Slot "reversed" "__iter__" "reversed.__iter__":=
 .of (owner:="reversed") (n:="__iter__") (by rw[typeLookup_type,builtinLookup_eq_fast];kernel_rfl) (by decide +kernel) (by decide +kernel) (by decide +kernel)
   (by first | exact .inl (by decide +kernel) | exact .inr (by decide +kernel)) (by rw[isSubtype_type];kernel_rfl)
theorem tQ (a:Value):argsOk "reversed.__iter__" ⟨[a],[]⟩:=by unfold argsOk;kernel_rfl
theorem vE:entryFor table "reversed.__iter__"=some Builtin.«dict_keyiterator.__iter__»:=
 entryFor_alias (id':="dict_keyiterator.__iter__") (by kernel_rfl) (by first | rfl | decide +kernel | (unfold String.splitOn;simp +decide [String.splitOnAux])) (by decide +kernel) (by kernel_rfl)
theorem wW:PySem.Slot "reversed" "__init__" "object.__init__":=
 .of (owner:="object") (n:="__init__") (by rw[typeLookup_type,builtinLookup_eq_fast];kernel_rfl) (by decide +kernel) (by decide +kernel) (by decide +kernel)
   (by first | exact .inl (by decide +kernel) | exact .inr (by decide +kernel)) (by rw[isSubtype_type];kernel_rfl)
theorem C4:TypeCalled "reversed" "reversed.__new__" "object.__init__":=
 ⟨by decide +kernel,by decide +kernel,⟨_,_,F.mro_reversed⟩,F.made_reversed,by decide +kernel,F.sub_reversed_self,wW⟩
theorem pZ:typeLookup (.type "str") "__reversed__"=pure none:=by rw[typeLookup_type,builtinLookup_eq_fast];kernel_rfl
theorem lJ:typeLookup (.type "str") "__getitem__"=pure (some (.builtin "str.__getitem__")):=by rw[typeLookup_type,builtinLookup_eq_fast];kernel_rfl
theorem wX:isSubtype (.type "str") (.type "dict")=pure false:=by rw[isSubtype_type];kernel_rfl
section
variable {prog:Program}{w:World}{A:Around}{E:Value->Shared->Prop}{s:Shared}
noncomputable def Oj (x:Str)(t:Tok)(i:Int):Obj:={ cls:=.type "reversed",data:=.fields #[.str x t,rawInt i]}
noncomputable def qt (h:Heap)(a:Addr)(x:Str)(t:Tok)(i:Int):Prop:=∃ o,h.get? a=some o/\o.cls=.type "reversed"/\o.data=.fields #[.str x t,rawInt i]
theorem qt.typeIs {a:Addr}{x:Str}{t:Tok}{i:Int}(q:qt s.heap a x t i):s.TypeIs (.ref a) "reversed":=let ⟨o,ho,hc,_⟩:=q;⟨o,ho,hc⟩
theorem Jd (x:Str)(t:Tok)(vb:¬ (x.length:Int) >= 2 ^ 63):MeetsIn prog w (Builtin.«reversed.__new__» ⟨[.type "reversed",.str x t],[]⟩) (fun A R s=>R (.ok (.ret (.ref s.heap.objs.size))) { s with heap:=s.heap.push (Oj x t ((x.length:Int) - 1)),toks:=s.toks+1+1}):=
 .of_wp fun A R s h=>by
   unfold Builtin.«reversed.__new__»
   refine wpAny_bind (wpAny_of_eq (newClass_reversed _) ?_)
   try dsimp only
   refine wpAny_bind (wpAny_of_eq (a:=()) (by first | rfl | kernel_rfl) ?_)
   refine wpAny_bind (wpAny_of_eq (a:=()) (by first | rfl | kernel_rfl) ?_)
   try dsimp only
   refine wpAny_bind (wpAny_specialOf (typeIs_str s x t) pZ ?_)
   try dsimp only
   refine wpAny_bind (wpAny_bind (wpAny_isInstance (typeIs_str s x t) wX ?_))
   rw[if_neg Bool.false_ne_true]
   refine wpAny_bind (wpAny_specialOf (typeIs_str s x t) lJ ?_)
   refine wpAny_of_eq (a:=true) (by kernel_rfl) ?_
   rw[if_neg (show ¬ ((!true)=true) from Bool.false_ne_true)]
   try dsimp only
   refine wpAny_bind (len_str vb ?_)
   refine wpAny_bind (wpAny_of_eq (a:=some (x.length:Int)) rfl ?_)
   try dsimp only
   refine wpAny_bind ?_
   show wpAny _ _ (newObj (.type "reversed") (.fields #[.str x t,rawInt ((x.length:Int) - 1)])) _ _ _
   exact wpAny_newObj_type (wpAny_pure ⟨_,rfl,h⟩)
theorem Ge {x:Str}{t:Tok}{Q:Value->Shared->Prop}(vb:¬ (x.length:Int) >= 2 ^ 63)(h:Q (.ref s.heap.objs.size) { s with heap:=s.heap.push (Oj x t ((x.length:Int) - 1)),toks:=s.toks+1+1}):wpAny (model prog w) A (call (.type "reversed") [.str x t]) Q E s:=
 callType_newIn C4 (by decide) (F.typeCall_reversed_1 _) (F.newCall_reversed_1 _) (fun obj=>F.args_object_init_2 obj _) F.entry_reversed_new (Jd x t vb) ⟨⟨_,Heap.get?_push_size _ rfl,rfl⟩,h⟩
theorem sF {it:Addr}{x:Str}{t:Tok}{i c:Nat}{Q:Option Value->Shared->Prop}(hit:qt s.heap it x t (i:Int))(hx:x.cps[i]?=some c)(vb:¬ (x.length:Int) >= 2 ^ 63)(hQ:∀ h',qt h' it x t ((i:Int) - 1)->Heap.SameBut it s.heap h'->Q (some (.str ⟨#[c]⟩ (s.toks+1))) { s with heap:=h',toks:=s.toks+1+1}):wpAny (model prog w) A (pyNext (.ref it)) Q E s:=by
 obtain⟨o,ho,hc,hd⟩:=id hit
 have VO:i < x.length:=by
   have:=(Array.getElem?_eq_some_iff.mp hx).1
   exact this
 unfold pyNext
 refine wpAny_bind (wpAny_attempt (wpAny_callSpecial?_slot (name:=Str.ofString "__next__") hit.typeIs ir
   (wpAny_call_entry ir hit.typeIs oM ?_ (nU _))))
 unfold Builtin.«reversed.__next__»
 refine wpAny_bind (wpAny_of_eq (a:=(Value.ref it,[])) rfl ?_)
 try dsimp only
 refine wpAny_bind (wpAny_field ho hd (x:=.str x t) rfl ?_)
 refine wpAny_bind (wpAny_field ho hd (x:=rawInt (i:Int)) rfl ?_)
 show wpAny _ _ (if (i:Int) < 0 then _ else _) _ _ s
 rw[if_neg (by omega)]
 refine wpAny_bind (wpAny_specialOf (typeIs_str s x t) lJ ?_)
 rw[if_neg (show ¬ ((some (Value.builtin "str.__getitem__")).isNone=true) from Bool.false_ne_true)]
 try dsimp only
 refine wpAny_bind (wpAny_mkInt ?_)
 refine wpAny_bind (wpAny_attempt (getItem_str (c:=c) ?_ ?_ ?_))
 . have e1:decide ((i:Int) < -(2 ^ 63:Int))=false:=decide_eq_false (by omega)
   have e2:decide ((i:Int) >= 2 ^ 63)=false:=decide_eq_false (by omega)
   rw[e1,e2];rfl
 . have e:seqIndex? (i:Int) x.length=some i:=by
     unfold seqIndex?
     simp
     omega
   rw[e];exact hx
 try dsimp only
 refine wpAny_bind (wpAny_field ho hd (x:=rawInt (i:Int)) rfl ?_)
 try dsimp only
 refine wpAny_bind (wpAny_setField ho hd (by simp) ?_)
 refine wpAny_pure ⟨_,rfl,wpAny_pure (hQ _ ?_ (Heap.SameBut.update ..))⟩
 exact⟨_,Heap.get?_update_self _ ho (Obj.isFreed_of_fields (Obj.data_mapFields hd _)),(Obj.cls_mapFields ..).trans hc,by
   rw[Obj.data_mapFields hd];simp⟩
theorem tR {it:Addr}{x:Str}{t:Tok}{Q:Option Value->Shared->Prop}(hh:A.handled=none)(hit:qt s.heap it x t (-1))(hQ:∀ h',Heap.ExtBut it s.heap h'->Q none { s with heap:=h'}):wpAny (model prog w) A (pyNext (.ref it)) Q E s:=by
 obtain⟨o,ho,hc,hd⟩:=id hit
 unfold pyNext
 refine wpAny_bind (wpAny_attempt (wpAny_callSpecial?_slot (name:=Str.ofString "__next__") hit.typeIs ir
   (wpAny_call_entry ir hit.typeIs oM ?_ (nU _))))
 unfold Builtin.«reversed.__next__»
 refine wpAny_bind (wpAny_of_eq (a:=(Value.ref it,[])) rfl ?_)
 try dsimp only
 refine wpAny_bind (wpAny_field ho hd (x:=.str x t) rfl ?_)
 refine wpAny_bind (wpAny_field ho hd (x:=rawInt (-1)) rfl ?_)
 show wpAny _ _ (if (-1:Int) < 0 then _ else _) _ _ s
 rw[if_pos (by decide)]
 refine wpAny_bind (wpAny_rule ?_)
 refine wpAny_bind (wpAny_bind (wpAny_setField ho hd (by simp) ?_))
 have V5:=Heap.get?_update_self (Obj.mapFields (·.setIfInBounds 1 (rawInt (-1)))) ho (Obj.isFreed_of_fields (Obj.data_mapFields hd _))
 refine wpAny_setField V5 (Obj.data_mapFields hd _) (by simp) ?_
 refine wpAny_bind ?_
 show wpAny _ _ (newExc (.type "StopIteration") [] >>= _) _ _ _
 refine wpAny_bind ?_
 simp only[newExc,newTuple]
 refine wpAny_bind (wpAny_newObj_type ?_ (by size_fits))
 refine wpAny_bind (m:=firstArgMember _ _) (wpAny_of_eq (a:=Value.none) (by first | rfl | (simp only[firstArgMember];rfl)) ?_)
 refine wpAny_newObj_type ?_ (by size_fits)
 simp only[raiseNew]
 refine wpAny_bind (wpAny_handled ?_)
 first | rw[show A.in1.handled=none from hh] | rw[hh]
 refine wpAny_bind (wpAny_pure (wpAny_throw ?_))
 refine wpAny_bind (wpAny_isInstance (T:="StopIteration") (b:=true) ⟨_,Heap.get?_push_size _ rfl,rfl⟩ isSubtype_stop ?_)
 exact wpAny_pure (hQ _ (Heap.ExtBut.push (Heap.ExtBut.push (fun b o ne e=>((Heap.SameBut.update ..).2 b ne).trans (((Heap.SameBut.update ..).2 b ne).trans e)) _) _))
theorem tH {it:Addr}{x:Str}{t:Tok}{i:Int}{Q:Value->Shared->Prop}(hit:qt s.heap it x t i)(h:Q (.ref it) s):wpAny (model prog w) A (pyIter (.ref it)) Q E s:=by
 refine wpAny_pyIter_slot hit.typeIs qe (wpAny_call_entry qe hit.typeIs vE ?_ (tQ _))
 show wpAny _ _ (ret (.ref it)) _ _ s
 exact wpAny_pure ⟨_,rfl,"reversed",_,hit.typeIs,ir.lookup,h⟩
end
noncomputable def UH (x:Str):It:=
 ⟨fun i H=>i < x.length,fun i H v H'=>H'=H/\∃ c,x.cps[x.length - 1 - i]?=some c/\v=.str ⟨#[c]⟩,fun i H=>i=x.length⟩
theorem Gf {P:Program}{w:World}{K:W.Frag}{tg:Expr}(x:Str)(t:Tok)(it:Addr)(vb:¬ (x.length:Int) >= 2 ^ 63):Turn P w K tg (UH x) [it] it (fun i h=>qt h it x t ((x.length:Int) - 1 - i)) where
 mem:=by simp
 obj:=fun i h st b hb=>by
   have e:b=it:=by simpa using hb
   subst e
   obtain⟨o,e,c,d⟩:=st
   exact⟨o,e,fun v z=>by rw[d] at z;cases z⟩
 keep:=fun i h h' st k=>let ⟨o,e,c,d⟩:=st;⟨o,k it (by simp) o e,c,d⟩
 item:=by
   intro X hP hw hK hc i pins s σ H E I hf st hg
   subst hP hw hK
   have hg:i < x.length:=hg
   obtain⟨f0,f1,f2,f3,f4,f5⟩:=hf it (by simp)
   have e1:(x.length:Int) - 1 - i=((x.length - 1 - i:Nat):Int):=by omega
   rw[e1] at st
   have dy:x.length - 1 - i < x.cps.size:=by show _ < x.length;omega
   refine sF (c:=x.cps[x.length - 1 - i]) st (Array.getElem?_eq_getElem dy) vb fun h' jC sb=>?_
   have I1:L2.Inv X pins σ H { s with heap:=h',toks:=s.toks+1+1}:=I.turned (t':=s.toks+1+1) (fun b o hb e=>(sb.2 b hb).trans e) f0 f1 f3 f4 f5
   have e2:((x.length - 1 - i:Nat):Int) - 1=(x.length:Int) - 1 - ((i+1:Nat):Int):=by omega
   rw[e2] at jC
   obtain⟨o,e,c,d⟩:=id jC
   exact⟨_,rfl,AB (s:={ s with heap:=h',toks:=s.toks+1+1}) e c d (by decide) ⟨.str ⟨#[x.cps[x.length - 1 - i]]⟩,H,I1,⟨_,rfl⟩,⟨rfl,_,Array.getElem?_eq_getElem dy,rfl⟩,jC,fun b hb=>(hf b hb).1⟩⟩
 done:=by
   intro X hP hw hK hc i pins s σ H E I hf st hg
   subst hP hw hK
   have hg:i=x.length:=hg
   subst hg
   obtain⟨f0,f1,f2,f3,f4,f5⟩:=hf it (by simp)
   have e1:(x.length:Int) - 1 - (x.length:Nat)=-1:=by omega
   rw[e1] at st
   exact tR (I.ok.hd hc) st fun h' eb=>⟨rfl,I.turned (t':=s.toks) (fun b o hb e=>eb b o hb e) f0 f1 f3 f4 f5⟩
 self:=fun _ _ _ _ _ st h=>tH st h
theorem Je:bootBuiltins "reversed"=some (.type "reversed"):=by decide +kernel
section
variable {X:Cx}{G:Gr}{dl:List Slot}{a:Expr}{x:Str}{p pos:Pos}
noncomputable def Ol (ta:TA):TI:=fun σ H R=>ta σ H fun vs H1=>∃ x,vs=[.str x]/\(¬ (x.length:Int) >= 2 ^ 63)/\R (UH x) H1
theorem Mr {tg:Expr}{ta:TA}(hm:X.mg "reversed"=none)(ha:PA X [a] ta)(hg:Gl X "reversed":=by rfl)(hs:starEach [a] X.env=[(false,eval a X.env)]:=by rfl):PI X tg (.Call (.Name "reversed" p) [a] [] pos) (Ol ta):=by
 intro pins s σ H R I h
 refine Call_ (rN I hg hm Je (PyProof.Rows.callWith_type1 (b7 (ha pos pins s σ H _ I h) fun us s1 ⟨vs,H1,I1,r1,q1⟩=>?_) hs rfl))
 obtain⟨x,e,vb,q⟩:=q1
 subst e
 cases r1 with
 | cons r rr=>
   cases rr
   obtain⟨t,rfl⟩:=(show ∃ t,_=Value.str x t from r)
   refine Ge vb (tH (x:=x) (t:=t) (i:=(x.length:Int) - 1) ⟨_,Heap.get?_push_size _ rfl,rfl,rfl⟩ ?_)
   refine⟨s1.heap.objs.size,[s1.heap.objs.size],_,_,H1,rfl,I1.kept (t':=s1.toks+1+1) fun b o e=>Heap.get?_push_of_some _ e,Gf x t _ vb,?_,fun b hb=>?_,q⟩
   . have e:((x.length:Int) - 1)=(x.length:Int) - 1 - ((0:Nat):Int):=by omega
     rw[<- e]
     exact⟨_,Heap.get?_push_size _ rfl,rfl,rfl⟩
   . have e:b=s1.heap.objs.size:=by simpa using hb
     subst e
     exact I1.uW (Nat.le_refl _) (I1.bH.fresh (Nat.le_refl _))
theorem Gg (hl:x.length<=1000000):sk X G dl (signs x).reverse (Ol (Tn X.K G dl [.str x])):=fun st H R ⟨Hf,S,k⟩=>⟨Hf,S,fun vs aw H1 g1 r1=>by
 cases r1 with
 | cons r t=>
   cases t
   cases r
   have ZT:=pv x
   refine⟨x,rfl,by omega,k _ aw H1 g1 fun bZ H2 s1 s2 i=>⟨fun z hz=>?_,fun hi=>?_⟩⟩
   . have hi:i < (signs x).length:=by
       have:=(List.getElem?_eq_some_iff.mp hz).1
       simpa using this
     rw[List.getElem?_reverse hi,signs_get,ZT] at hz
     refine⟨by show i < x.length;omega,fun v H3 hy=>?_⟩
     obtain⟨e1,c,e2,e3⟩:=hy
     subst e1 e3
     rw[e2] at hz
     cases hz
     exact⟨bZ,.refl s2,.str _⟩
   . show i=x.length
     rw[hi,List.length_reverse,ZT]⟩
theorem ya {K:W.Frag}{H:Hp}:∀ {ds:List Dt} {d:Dt} {vs:List V},bD K H vs (ds ++ [d])->∃ ws v,vs=ws ++ [v]/\bD K H ws ds/\Rep K H v d
 | [],d,_,.cons r .nil=>⟨[],_,rfl,.nil,r⟩
 | e::ds,d,_,.cons r t=>by
   obtain⟨ws,v,e1,r1,r2⟩:=ya t
   exact⟨_::ws,v,by rw[e1];rfl,.cons r r1,r2⟩
variable {E:XK}{d:Dt}{ds:List Dt}{y z:Str}{px pn apos bY:Pos}
theorem QH (m n:Nat)(hN:X.N.Nodup)(hd:dl[n]?=some (.own (.lst (ds ++ [d]))))(hm:X.N[m]?=some y:=by rfl)(hy:Loc X.env.scope y:=by first | exact Or.inl rfl | exact Or.inr rfl)(Xf:X.N[n]?=some z:=by rfl)(hv:uU X.env.scope z:=by first | exact Or.inl rfl | exact Or.inr (Or.inl rfl) | exact Or.inr (Or.inr rfl))(mR:(z == ("__debug__":Str))=false:=by decide)(my:(z == ("__classdict__":Str))=false:=by decide)(kf:attributeBase (.Name z pn) "pop" X.env (eval (.Name z pn) X.env)=eval (.Name z pn) X.env:=by rfl)(kg:(apos.endLine == bY.line)=true:=by rfl)(hs:swapsWith (.Call (.Attribute (.Name z pn) "pop" apos) [] [] bY) (some (.Name y px)) pos.line X.env=pure false:=by rfl)(hf:X.fn y=true\/X.env.scope.names.lookup y=some .local:=by first | exact .inl rfl | exact .inr rfl | assumption):ES X G E dl (.Assign [.Name y px] (.Call (.Attribute (.Name z pn) "pop" apos) [] [] bY) pos) (.nx ((dl.set n (.own (.lst ds))).set m (.val d))):=
 uf (Ck hN hm hy (Hw PySem.F.plainAttrs_list PySem.F.slot_list_pop PySem.F.type_list_pop Pp (vo (G:=G) (p:=pn) n hd Xf hv mR my) kf kg) hs hf) fun D st H ⟨Hf,S,k⟩=>by
   obtain⟨q,z1,z2,z3,vs,hq,rp⟩:=S.own n _ hd
   obtain⟨ws,v,ev,r1,r2⟩:=ya rp
   subst ev
   refine⟨Hf,q,S,z1,z2,⟨_,hq,rp⟩,.inl ⟨rfl,_,.of hq⟩,q,_,v,rfl,rfl,hq,by simp,k _ Hf _ (aE.refl _) ((S.FP hd z1 (w':=.lst ds) ⟨_,ak,?_⟩).set r2)⟩
   rw[List.dropLast_concat];exact r1
end
section
variable {ns:List Int}
theorem o9:∀ {ns:List Int} {aG:List Value},Vals (ns.map V.int) aG->IntsAre aG ns
 | [],_,r=>by cases r;exact .nil
 | n::ns,_,r=>by
   cases r with
   | cons h t=>obtain⟨tk,rfl⟩:=h;exact .cons _ tk (o9 t)
end
theorem yb {K:W.Frag}{H:Hp}:∀ (ns:List Int),bD K H (ns.map V.int) (ns.map Dt.int)
 | []=>.nil
 | n::r=>.cons (.int n) (yb r)
theorem q8 {K:W.Frag}{H:Hp}:∀ {ns:List Int} {vs:List V},bD K H vs (ns.map Dt.int)->vs=ns.map V.int
 | [],_,.nil=>rfl
 | n::r,_,.cons h t=>by cases h;rw[q8 t];rfl
noncomputable def Gh (fs:List (Str×FD)):List (Str×Dt):=fs.map fun kd=>(kd.1,VW kd.2)
theorem Er {K:W.Frag}{H:Hp}:∀ {fv:List (Str×V)} {fs:List (Str×FD)},G4 H fv fs->bg K H fv (Gh fs)
 | _,_,.nil=>.nil
 | _,_,.cons h t=>.cons (IS h) (Er t)
theorem Jf {K:W.Frag}{H:Hp}:∀ {fv:List (Str×V)} {fs:List (Str×FD)},bg K H fv (Gh fs)->G4 H fv fs
 | _,[],.nil=>.nil
 | _,(k,d)::fd,.cons h t=>.cons (Ob h) (Jf t)
section
variable {X:Cx}{G:Gr}{E:XK}{dl:List Slot}{e:Expr}{sts:List Stmt}{ou:Out}{C:Addr}{fs:List (Str×FD)}{ns:List Int}{K':W.Frag}
theorem Om (h:EE X G dl e (.i9 (.obj C fs))):EE X G dl e (.obj C (Gh fs)):=iW h fun st H Q ⟨Hf,S,k⟩=>⟨Hf,S,fun v aw H1 g1 r1=>by
 cases r1 with
 | i9 h=>cases h with
   | @obj a _ dx o fv _ e f=>exact k _ aw H1 g1 (.obj (.inr (.inr (.inr ⟨o,e⟩))) (Er f))⟩
theorem qu (h:EE X G dl e (.i9 (.lst ns))):EE X G dl e (.ow ns):=iW h fun st H Q ⟨Hf,S,k⟩=>⟨Hf,S,fun v aw H1 g1 r1=>by
 cases r1 with
 | i9 h=>cases h with
   | @lst a o _ e=>exact k _ aw H1 g1 (.ow (.inl (.inr (.inr (.inr ⟨o,e⟩)))))⟩
theorem QI (h:EE X G dl e (.i9 (.tup K' ns)))(hK:K'=X.K):EE X G dl e (.tup (ns.map .int)):=iW h fun st H Q ⟨Hf,S,k⟩=>⟨Hf,S,fun v aw H1 g1 r1=>by
 subst hK
 cases r1 with
 | i9 h=>cases h with
   | tup e=>exact k _ aw H1 g1 (.tup e (yb _))⟩
theorem QJ (h:EE X G dl e (.tup (ns.map .int)))(hK:K'=X.K):EE X G dl e (.i9 (.tup K' ns)):=iW h fun st H Q ⟨Hf,S,k⟩=>⟨Hf,S,fun v aw H1 g1 r1=>by
 subst hK
 cases r1 with
 | tup s r=>
   rw[q8 r] at s
   exact k _ aw H1 g1 (.i9 (.tup s))⟩
theorem Jg (h:EO X G dl e (.obj C (Gh fs))):EE X G dl e (.i9 (.obj C fs)):=by
 intro pins s st H Q I ⟨Hf,S,kk⟩
 refine b7 (h pins s st H (fun v H'=>∃ p aH,v=.ref p/\bh Hf H aH H'/\H p=none/\aH p=none/\gZ X.K aH H' p (.obj C (Gh fs))) I ⟨Hf,S,fun p aH H' g n n' r=>⟨p,aH,rfl,g,n,n',r⟩⟩) fun u s1 ⟨v,H',I1,rv,q,aH,ev,g,n,n',dx,fv,hq,rp⟩=>?_
 subst ev
 obtain⟨hd,hz,ne,ho,mA,hr⟩:=(show aP X.prog X.w H' s1.heap q (.ins C dx fv) from I1.bH q _ hq)
 let ob:=W.instObj C dx
 have I2:L2.Inv X pins st (upd H' q (.kx ob (.ins C dx fv))) s1:=lZ (h':=s1.heap) (t':=s1.toks) I1 (by rw[hq];trivial) ⟨rfl,fun _ _=>rfl⟩ ⟨ob,ho⟩ ⟨ho,⟨by rw[ag ne];exact hd,hz,ne,ho,mA,hr⟩⟩
 have sm:aE aH (upd aH q (.kx ob (.ins C dx fv))):=bE n'
 refine⟨.ref q,_,I2,rv,kk _ (upd aH q (.kx ob (.ins C dx fv))) _ ⟨fun b o hb=>?_,g.bw.trans sm,cH g.sub,fun b o hb=>?_⟩ (.i9 (.obj ak ((Jf rp).st fun b u e _=>sm b u e)))⟩
 . rw[ag (av hb n)];exact g.big _ _ hb
 . by_cases e:b=q
   . subst e;exact .inr (.inl n)
   . rw[ag e] at hb;exact g.new b o hb
theorem QK (h:EO X G dl e (.lst (ns.map .int))):EE X G dl e (.i9 (.lst ns)):=by
 intro pins s st H Q I ⟨Hf,S,kk⟩
 refine b7 (h pins s st H (fun v H'=>∃ p aH,v=.ref p/\bh Hf H aH H'/\H p=none/\aH p=none/\gZ X.K aH H' p (.lst (ns.map .int))) I ⟨Hf,S,fun p aH H' g n n' r=>⟨p,aH,rfl,g,n,n',r⟩⟩) fun u s1 ⟨v,H',I1,rv,q,aH,ev,g,n,n',vs,hq,rp⟩=>?_
 subst ev
 have ev:=q8 rp
 subst ev
 obtain⟨hz,aG,c,r,ho⟩:=(show aP X.prog X.w H' s1.heap q (.lst (ns.map V.int)) from I1.bH q _ hq)
 let ob:Obj:={ cls:=.type "list",data:=.seq aG.toArray c}
 have I2:L2.Inv X pins st (upd H' q (.kx ob (.lst (ns.map V.int)))) s1:=lZ (h':=s1.heap) (t':=s1.toks) I1 (by rw[hq];trivial) ⟨rfl,fun _ _=>rfl⟩ ⟨ob,ho⟩ ⟨ho,hz,aG,c,r,ho⟩
 have sm:aE aH (upd aH q (.kx ob (.lst (ns.map V.int)))):=bE n'
 refine⟨.ref q,_,I2,rv,kk _ (upd aH q (.kx ob (.lst (ns.map V.int)))) _ ⟨fun b o hb=>?_,g.bw.trans sm,cH g.sub,fun b o hb=>?_⟩ (.i9 (.lst ak))⟩
 . rw[ag (av hb n)];exact g.big _ _ hb
 . by_cases e:b=q
   . subst e;exact .inr (.inl n)
   . rw[ag e] at hb;exact g.new b o hb
theorem uv (n:Nat)(h:oh X G E (dl.set n (.val (.i9 (.lst ns)))) sts ou)(hd:dl[n]?=some (.own (.lst (ns.map .int))):=by rfl):oh X G E dl sts ou:=by
 intro pins s st H D I ⟨Hf,S,k⟩
 have ln:=S.len
 obtain⟨q,h1,h2,h3,vs,h4,h5⟩:=S.own n _ hd
 have ev:=q8 h5
 subst ev
 have hl:n < dl.length:=(List.getElem?_eq_some_iff.mp hd).1
 obtain⟨hz,aG,c,r,ho⟩:=(show aP X.prog X.w H s.heap q (.lst (ns.map V.int)) from I.bH q _ h4)
 let ob:Obj:={ cls:=.type "list",data:=.seq aG.toArray c}
 have I':L2.Inv X pins st (upd H q (.kx ob (.lst (ns.map V.int)))) s:=lZ (h':=s.heap) (t':=s.toks) I (by rw[h4];trivial) ⟨rfl,fun _ _=>rfl⟩ ⟨ob,ho⟩ ⟨ho,hz,aG,c,r,ho⟩
 have sm:aE Hf (upd Hf q (.kx ob (.lst (ns.map V.int)))):=bE h2
 refine h pins s st _ D I' ⟨upd Hf q (.kx ob (.lst (ns.map V.int))),⟨⟨fun b o hb=>?_,S.gr.bw.trans sm,cH S.sub,fun c o hc=>?_⟩,by simp[S.len],fun j y hj=>?_,fun j o' hj=>?_,fun j m o1 o2 c q1 q2 q3 q4=>?_⟩,k.mono sm⟩
 . rw[ag (av hb h3)];exact S.gr.big _ _ hb
 . by_cases hb:c=q
   . subst hb;exact .inr (.inl h3)
   . rw[ag hb] at hc;exact S.gr.new c o hc
 . by_cases e:n=j
   . subst e
     rw[List.getElem?_set_self hl] at hj;cases hj
     exact⟨_,h1,.i9 (.lst ak)⟩
   . rw[List.getElem?_set_ne e] at hj
     obtain⟨v,z1,z2⟩:=S.val j y hj
     exact⟨v,z1,z2.mono sm⟩
 . by_cases e:n=j
   . subst e;rw[List.getElem?_set_self hl] at hj;cases hj
   . rw[List.getElem?_set_ne e] at hj
     obtain⟨c,z1,z2,z3,z4⟩:=S.own j o' hj
     have ne:c≠q:=fun z=>by subst z;exact e (S.FO n j _ _ _ hd hj h1 z1)
     exact⟨c,z1,by rw[ag ne];exact z2,z3,z4.grow (ag ne) sm⟩
 . have nj:n≠j:=fun e=>by subst e;rw[List.getElem?_set_self hl] at q1;cases q1
   have nm:n≠m:=fun e=>by subst e;rw[List.getElem?_set_self hl] at q2;cases q2
   rw[List.getElem?_set_ne nj] at q1
   rw[List.getElem?_set_ne nm] at q2
   exact S.FO j m o1 o2 c q1 q2 q3 q4
theorem Ms {zs:List Int}:Ib X G dl zs.length (fun k=>(zs.map Dt.int).getD k .c9) (Hi X.K (tD X.K G dl (.ow zs))):=fun st H R ⟨Hf,S,k⟩=>⟨Hf,S,fun v aw H1 g1 r1=>by
 cases r1 with
 | @ow q _ hq=>
   refine⟨q,rfl,⟨_,g1.sub.seq hq⟩,k _ aw H1 g1 fun bZ H2 g2 i=>⟨fun hi=>?_,fun hi=>⟨_,g2.big.seq (g1.sub.seq hq),by rw[List.length_map];omega⟩⟩⟩
   have hs:oe X.K H2 q (zs.map V.int):=g2.big.seq (g1.sub.seq hq)
   have z1:(zs.map V.int)[i]?=some (.int zs[i]):=by rw[List.getElem?_map,List.getElem?_eq_getElem hi];rfl
   refine⟨⟨_,_,hs,z1⟩,fun v H3 hy=>?_⟩
   obtain⟨e1,e2⟩:=hy
   have e2:=e2 _ hs
   rw[z1] at e2;cases e2
   refine⟨e1,?_⟩
   have e3:(zs.map Dt.int).getD i .c9=.int zs[i]:=by rw[List.getD_eq_getElem?_getD,List.getElem?_map,List.getElem?_eq_getElem hi];rfl
   show Rep _ _ _ ((zs.map Dt.int).getD i .c9)
   rw[e3];exact .int _⟩
theorem Bt {x:Str}{p pos:Pos}(M:PJ X.K C)(hm:X.mg x=some (.ref C))(hg:Gl X x:=by rfl)(mR:(x == ("__debug__":Str))=false:=by decide):EE X G dl (.Call (.Name x p) [] [] pos) (.i9 (.obj C [])):=by
 refine Jg (fs:=[]) ?_
 intro pins s st H Q I ⟨Hf,S,k⟩
 refine wpAny_Call_Name_kw (ud I hg hm ?_ mR)
 refine W.callWith_K0 I.Av M.kp (FT M I fun x dx hx TQ ne=>?_)
 have GV:(upd H dx (.own x)) x=none:=by rw[ag (Ne.symm ne)];exact hx
 have g1:bh Hf H Hf (upd H dx (.own x)):=.fU S.sub TQ
 have g2:bh Hf (upd H dx (.own x)) Hf (upd (upd H dx (.own x)) x (.ins C dx [])):=.fU g1.sub GV
 exact k _ _ _ (g1.trans g2) hx (S.sub.free hx) ⟨dx,[],ak,.nil⟩
end
noncomputable def jc (H:Hp)(p q1:Addr)(u1 u3:HO):Hp:=upd (upd H p u1) q1 u3
section
variable {X:Cx}{pins:List (Addr×Obj)}{σ:L2.St}{H:Hp}{s:Shared}{p q1:Addr}{nT:List (Key×V)}{f:Nat->List (Key×FD)}
theorem Inv.Mt (I:L2.Inv X pins σ H s)(hp:H p=some (.lst [.ref q1]))(Lc:H q1=some (.dK nT))(f1:rK H nT (f 0)):∃ o1,L2.Inv X pins σ (jc H p q1 (.memo [(p,f)]) (.kd (some (p,0)) o1 nT)) s:=by
 obtain⟨z1,i1,c1,r1,e1⟩:=(show aP X.prog X.w H s.heap p (.lst [.ref q1]) from I.bH p _ hp)
 obtain⟨Mm,lo1,XR,XS,o1,XT,XU,Uw,XW⟩:=(show aP X.prog X.w H s.heap q1 (.dK nT) from I.bH q1 _ Lc)
 obtain⟨u1,rfl,w1⟩:=vals1 r1
 cases (show u1=Value.ref q1 from w1)
 refine⟨o1,?_⟩
 have m1:p≠q1:=fun z=>by rw[z,Lc] at hp;cases hp
 generalize Mn:jc H p q1 (.memo [(p,f)]) (.kd (some (p,0)) o1 nT)=H'
 have Ux:H' p=some (.memo [(p,f)]):=by rw[<- Mn];unfold jc;rw[ag m1,ak]
 have Jb:H' q1=some (.kd (some (p,0)) o1 nT):=by rw[<- Mn];unfold jc;rw[ak]
 have CZ:∀ b,b≠p->b≠q1->H' b=H b:=fun b a1 a3=>by rw[<- Mn];unfold jc;rw[ag a3,ag a1]
 have tP:∀ b o,H b=some o->ZL o=false->H' b=some o:=fun b o e n=>by
   rw[CZ b (fun z=>by rw[z,hp] at e;cases e;cases n) (fun z=>by rw[z,Lc] at e;cases e;cases n)]
   exact e
 have kp:Kp H H':=⟨fun b o e kq=>tP b _ e (by cases o <;> first | rfl | exact(show False from kq).elim),fun b e=>by
   cases q:H b with
   | none=>rw[q] at e;exact e.elim
   | some u=>
     rw[q] at e
     rw[tP b u q (by cases u <;> first | rfl | exact e.elim)]
     exact e,fun b x e=>tP b _ e rfl⟩
 refine I.un (h':=s.heap) (t':=s.toks) ⟨fun b o e _ _ _=>e,fun b o e _ _ _=>⟨o.slots,e⟩,fun b o e n _=>?_,fun b o e _=>⟨o,e⟩,fun b xs e=>tP b _ e rfl,fun b o u e=>tP b _ e rfl,fun b ps e=>⟨#[],by rw[tP b _ e rfl];simp⟩⟩ fun b u e=>?_
 . rw[CZ b (fun z=>by rw[z,hp] at n;cases n) (fun z=>by rw[z,Lc] at n;cases n)]
   exact n
 . by_cases b1:b=p
   . subst b1
     rw[Ux] at e;cases e
     refine⟨⟨_,e1⟩,1,by decide,⟨f,rfl⟩,rfl,fun j a h hj=>?_,by simp,fun n hn=>by rw[List.mem_replicate] at hn;omega,fun j a h n hj hn=>?_⟩
     . match j,hj with
       | 0,hj=>cases hj;exact .inl rfl
     . match j,hj,hn with
       | 0,hj,hn=>
         cases hj;cases hn
         refine⟨_,_,e1,rfl,fun i hi=>?_⟩
         have:i=0:=by omega
         subst this
         exact⟨q1,o1,nT,rfl,Jb,f1.kp kp⟩
   . by_cases b3:b=q1
     . subst b3;rw[Jb] at e;cases e
       refine⟨Uw,⟨Mm,lo1,XR,XS,o1,XT,XU,Uw,XW⟩,fun a i ht=>?_⟩
       cases ht
       exact⟨by rw[Ux];trivial,_,_,e1,rfl⟩
     . rw[CZ b b1 b3] at e
       exact(I.bH b u e).yt (fun _ _ _ q=>q) (fun c q=>tP c _ q rfl) (fun c xs q=>tP c _ q rfl) kp
end
section
variable {X:Cx}{G:Gr}{E:XK}{e1:Expr}{fs:List (Str×Dt)}{z C:Addr}{tl:List Slot}{f:Nat->List (Key×FD)}{n0 x0:Str}{Qy Qz QA q1:Pos}
theorem wY (no:noOwn tl=true)(cl:ue X.K C)(Qp:bM X.K C n0)(X1:EO X G (.own (.AW z C fs)::tl) e1 (.dw (oi (f 0))))(QB:∀ p ls,putD n0 (.memo p ls 0 1) fs=tw fs [n0] p ls 1:=by intro _ _;rfl)(hlen:Nat.ble fs.length 990=true:=by rfl)(hN:X.N[0]?=some x0:=by rfl)(hv:uU X.env.scope x0:=by first | exact Or.inl rfl | exact Or.inr (Or.inl rfl) | exact Or.inr (Or.inr rfl))(mR:(x0 == ("__debug__":Str))=false:=by decide)(my:(x0 == ("__classdict__":Str))=false:=by decide)(zi:starEach [e1] X.env=[(false,eval e1 X.env)]:=by rfl)(GS:swapsWith (.List [e1] QA) (some (.Attribute (.Name x0 Qy) n0 Qz)) q1.line X.env=pure false:=by rfl):oh X G E (.own (.AW z C fs)::tl) [.Assign [.Attribute (.Name x0 Qy) n0 Qz] (.List [e1] QA) q1] (.nx (.own (.yK z C fs [f] [n0] 1)::tl)):=by
 intro pins s st H D I ⟨Hf,S,k⟩
 have base:=mT (u0 (pos:=q1) (pos':=Qz) (jF (pos:=Qy) hN hv mR my) (u6 (pos:=QA) (lY X1 oB zi)) GS)
 let RQ:L2.St->Hp->Prop:=fun jC H'=>∃ p a1 nT,H' p=some (.lst [.ref a1])/\H' a1=some (.dK nT)/\rK H' nT (f 0)/\∀ o1,D.nx jC (jc H' p a1 (.memo [(p,f)]) (.kd (some (p,0)) o1 nT))
 refine b7 (base pins s st H { D with nx:=RQ} I ?_) fun fl s7 q7=>?_
 . obtain⟨za,hz,X2,R8,ez,dx,fv,Mo,rf⟩:=S.own 0 _ rfl
   subst ez
   refine⟨Hf,S,fun a1 aw H1 g1 Uz QC ⟨nT,P9,X3⟩=>⟨Nat.le_of_ble_eq_true rfl,fun p hp=>?_⟩⟩
   have Mm:H1 za=some (.ins C dx fv):=g1.big _ _ Mo
   have Ld:za≠p:=av Mm hp
   have UA:a1≠p:=av P9 hp
   have Og:za≠a1:=fun w=>by rw[w,Uz] at Mo;cases Mo
   have X4:(upd H1 p (.lst [.ref a1])) za=some (.ins C dx fv):=by rw[ag Ld];exact Mm
   refine⟨_,hz,za,C,dx,fv,rfl,X4,cl,Qp,by rw[rf.length];exact Nat.lt_of_le_of_lt (Nat.le_of_ble_eq_true hlen) (by decide),?_⟩
   let H4:Hp:=upd (upd H1 p (.lst [.ref a1])) za (.ins C dx (fL n0 (.ref p) fv))
   have Gd:aw za=none:=g1.lH X2 Mo
   have X5:bh aw H1 aw (upd H1 p (.lst [.ref a1])):=.fU g1.sub hp
   have S0:d7 X.K G st Hf H (.aL::tl):=S.weak ⟨rfl,fun i s' e n=>by
     cases i with
     | zero=>cases e;exact absurd rfl n
     | succ i=>exact e⟩
   have V6:noOwn (.aL::tl)=true:=no
   have S4:d7 X.K G st aw H4 (.aL::tl):=pz ((S0.grow g1).grow X5) V6 Gd R8
   have Yc:H4 za=some (.ins C dx (fL n0 (.ref p) fv)):=ak
   have X9:H4 p=some (.lst [.ref a1]):=by show(upd (upd H1 p _) za _) p=_;rw[ag (Ne.symm Ld),ak]
   have QF:H4 a1=some (.dK nT):=by show(upd (upd H1 p _) za _) a1=_;rw[ag (Ne.symm Og),ag UA];exact P9
   have Wa:aw p=none:=g1.sub.free hp
   have zj:aE aw H4:=fun b o e=>by
     have b1:b≠za:=fun w=>by rw[w,Gd] at e;cases e
     have b2:b≠p:=fun w=>by rw[w,Wa] at e;cases e
     show(upd (upd H1 p _) za _) b=_
     rw[ag b1,ag b2];exact g1.sub _ _ e
   have gp:G.H p=none:=S.gr.big.free (g1.big.free hp)
   have UD:G.H a1=none:=S.gr.big.free Uz
   have UE:rK aw nT (f 0):=qp X3
   refine⟨p,a1,nT,X9,QF,gI (fun b u e _=>zj _ _ e) UE,fun o1=>?_⟩
   let ls:km:=[(p,f)]
   let u1:HO:=.memo ls
   let u3:HO:=.kd (some (p,0)) o1 nT
   have m1:p≠a1:=Ne.symm UA
   have cat:∀ (B:Hp),jc B p a1 u1 u3 p=some u1/\jc B p a1 u1 u3 a1=some u3:=fun B=>by
     unfold jc
     refine⟨?_,?_⟩
     . rw[ag m1,ak]
     . rw[ak]
   have vD:∀ (B:Hp) b,b≠p->b≠a1->jc B p a1 u1 u3 b=B b:=fun B b c1 c3=>by unfold jc;rw[ag c3,ag c1]
   let wO:Hp:=jc aw p a1 u1 u3
   have GY:aE aw wO:=fun b o e=>by
     show jc aw p a1 u1 u3 b=some o
     rw[vD aw b (fun w=>by rw[w,Wa] at e;cases e) (fun w=>by rw[w,QC] at e;cases e)]
     exact e
   have key:∀ (A B:Hp),aE A B->aE (jc A p a1 u1 u3) (jc B p a1 u1 u3):=fun A B sm=>cH (cH sm)
   have QG:aE wO (jc H4 p a1 u1 u3):=key _ _ zj
   have Jc:bg X.K wO (fL n0 (.ref p) fv) (tw fs [n0] p ls 1):=by
     rw[<- QB p ls]
     refine(rf.mono (g1.bw.trans GY)).put (f:=n0) (d:=.memo p ls 0 1) ?_
     refine .memo (f:=f) rfl (cat aw).1 (.inl rfl) fun i hi=>?_
     have:i=0:=by omega
     subst this
     exact⟨a1,o1,nT,(cat aw).2,gI (fun b u e _=>GY _ _ e) UE⟩
   have Yf:jc H4 p a1 u1 u3 za=some (.ins C dx (fL n0 (.ref p) fv)):=by rw[vD H4 za Ld Og];exact Yc
   have Yg:wO za=none:=by show jc aw p a1 u1 u3 za=none;rw[vD aw za Ld Og];exact Gd
   refine k st wO _ (g1.bw.trans GY) ⟨⟨fun b o e=>?_,S4.gr.bw.trans GY,QG,fun b o e=>?_⟩,by have:=S4.len;simpa using this,fun i d h=>?_,fun i o h=>?_,fun i j o o' a w1 w2=>?_⟩
   . rw[vD H4 b (fun w=>by rw[w,gp] at e;cases e) (fun w=>by rw[w,UD] at e;cases e)]
     exact S4.gr.big _ _ e
   . by_cases c1:b=p
     . rw[c1];exact .inr (.inl gp)
     . by_cases c3:b=a1
       . rw[c3];exact .inr (.inl UD)
       . have e:jc aw p a1 u1 u3 b=some o:=e
         rw[vD aw b c1 c3] at e
         exact S4.gr.new b o e
   . cases i with
     | zero=>cases h
     | succ i=>
       obtain⟨w,w1,w2⟩:=S4.val (i+1) d h
       exact⟨w,w1,w2.mono GY⟩
   . cases i with
     | zero=>
       cases h
       exact⟨za,hz,Yg,R8,rfl,dx,_,p,ls,rfl,Yf,Jc⟩
     | succ i=>exact absurd h (aV no i o)
   . cases i with
     | zero=>cases j with
       | zero=>exact fun _ _=>rfl
       | succ j=>exact absurd w2 (aV no j o')
     | succ i=>exact absurd w1 (aV no i o)
 . cases fl with
   | next=>
     obtain⟨σ7,H7,I7,p,a1,nT,y1,y3,y5,kk⟩:=q7
     obtain⟨o1,I8⟩:=Inv.Mt I7 y1 y3 y5
     exact⟨σ7,_,I8,kk o1⟩
   | cont=>exact q7
   | brk=>exact q7
   | ret v=>exact q7
end
section
variable {X:Cx}{G0:Gr}{E:XK}{fs:List (Str×Dt)}{l C:Addr}{ls:km}{n N:Nat}{tl:List Slot}{f:Nat->List (Key×FD)}{n0 x0 xg:Str}{p1 p2 p3 a1 c1 q1:Pos}
theorem Bu (ng:Nat)(hs:kO l fs=true)(ht:qZ l tl=true)(hu:tl[ng]?=some .aL)(mx:ls.map (·.2)=[f])(hN:N < 9000)(cl:ue X.K C)(Qp:bM X.K C n0)(hA:G0.Hf l=some (.memo ls))(hB:G0.H l=some (.memo ls))
   (R6:(pY fs [n0] l ls n).lookup n0=some (.gc l ls 0 n):=by rfl)
   (R5:X.N[0]?=some x0:=by rfl) (VX:uU X.env.scope x0:=by first | exact Or.inl rfl | exact Or.inr (Or.inl rfl) | exact Or.inr (Or.inr rfl)) (VY:(x0 == ("__debug__":Str))=false:=by decide) (Um:(x0 == ("__classdict__":Str))=false:=by decide)
   (Xx:X.N[ng+1]?=some xg:=by rfl) (Xy:uU X.env.scope xg:=by first | exact Or.inl rfl | exact Or.inr (Or.inl rfl) | exact Or.inr (Or.inr rfl)) (Xz:(xg == ("__debug__":Str))=false:=by decide) (XA:(xg == ("__classdict__":Str))=false:=by decide)
   (VZ:attributeBase (.Name x0 p1) n0 X.env (eval (.Name x0 p1) X.env)=eval (.Name x0 p1) X.env:=by rfl)
   (C0:attributeBase (.Attribute (.Name x0 p1) n0 p2) "append" X.env (eval (.Attribute (.Name x0 p1) n0 p2) X.env)=eval (.Attribute (.Name x0 p1) n0 p2) X.env:=by rfl)
   (IY:((backTo c1 (starEach [.Name xg p3] X.env)).all (fun x=>!x.1) && (backToKw c1 (keywordEach [] X.env)).all (fun x=>x.1.isSome) && decide ([Expr.Name xg p3].length+([]:List Keyword).length+(if ([]:List Keyword).isEmpty then 0 else 1) < 30))=true:=by rfl)
   (C1:(a1.endLine == c1.line)=true:=by rfl) (zi:starEach [.Name xg p3] X.env=(false,eval (.Name xg p3) X.env)::starEach [] X.env:=by rfl)
   (GS:swapsWith (.Call (.Attribute (.Attribute (.Name x0 p1) n0 p2) "append" a1) [.Name xg p3] [] c1) none q1.line X.env=pure false:=by rfl) :
   oh X (Ul G0 l (.bK ls (List.replicate ls.length N))) E (.val (.obj C (pY fs [n0] l ls n))::tl.set ng (.own (.dw (oi (f N)))))
     [.Expr (.Call (.Attribute (.Attribute (.Name x0 p1) n0 p2) "append" a1) [.Name xg p3] [] c1) q1] (.raw (RM X.K G0 C fs [n0] l ls n tl (N+1))):=by
 refine AX (mT (lX (u9 PySem.F.plainAttrs_list PySem.F.slot_list_append PySem.F.type_list_append qr (uZ (jF (pos:=p1) R5 VX VY Um) VZ) (lY (jF (pos:=p3) Xx Xy Xz XA) oB zi) C0 IY C1 zi rfl) GS)) fun D st H ⟨Hf,S,k⟩=>?_
 have e2:ls.length=1:=by have:=congrArg List.length mx;simpa using this
 have eR:∀ M:Nat,List.replicate ls.length M=[M]:=fun M=>by rw[e2];rfl
 rw[eR] at S
 have Uq:ng < tl.length:=(List.getElem?_eq_some_iff.mp hu).1
 obtain⟨v0,hv,rv⟩:=S.val 0 _ rfl
 cases rv with
 | @obj sa _ dx fv _ Qs rf=>
   obtain⟨oa,C3,V0,_,back⟩:=Rd.ex Qs
   have Qt:Hf l=some (.bK ls [N]):=S.gr.bw _ _ ak
   have Oe:H l=some (.bK ls [N]):=S.sub _ _ Qt
   have hm:b6 Hf l ls:=.inr ⟨_,Qt⟩
   obtain⟨y0,XB,XC⟩:=rf.lookup R6
   obtain⟨qa,hq,Ur,XD,kvs,Of,rk⟩:=S.own (ng+1) (.dw (oi (f N))) (by show(tl.set ng _)[ng]?=_;rw[List.getElem?_set_self Uq])
   cases XC with
   | @gc _ p _ _ _ f0 Ak _ XE _=>
       have XG:f0=f:=by
         have:=congrArg (fun z=>z[0]?) mx
         simp only[List.getElem?_map,Ak] at this
         exact Option.some.inj this
       subst XG
       have V1:rK H kvs (f0 N):=gI (fun b u e _=>S.sub _ _ e) (qp rk)
       have XH:qa≠l:=fun z=>by rw[z,Oe] at Of;cases Of
       have Us:sa≠l:=fun z=>by rw[z,Qt] at C3;cases C3;cases V0
       have ZH:sa≠qa:=fun z=>by rw[z,Ur] at C3;cases C3
       refine⟨_,hv,sa,C,dx,fv,_,rfl,back _ (S.sub _ _ C3),cl,Qp,XB,.inr (.inr (.inr (.inr ⟨rfl,l,ls,[N],0,f0,N,Oe,Ak,rfl⟩))),_,hq,l,ls,[N],0,p,f0,N,qa,kvs,rfl,rfl,Oe,Ak,rfl,hN,Of,V1,fun oq=>?_⟩
       let H6:Hp:=upd (upd H l (.bK ls ([N].set 0 (N+1)))) qa (.kd (some (p,N)) oq kvs)
       show D.nx st H6
       have XJ:H6 l=some (.bK ls [N+1]):=by show(upd (upd H l _) qa _) l=_;rw[ag (Ne.symm XH),ak];rfl
       have Uu:∀ b o,H b=some o->b≠l->b≠qa->(upd H6 l (.memo ls)) b=some o:=fun b o e n1 n2=>by
         rw[ag n1]
         show(upd (upd H l _) qa _) b=_
         rw[ag n2,ag n1];exact e
       have XM:∀ b o,Hf b=some o->b≠qa:=fun b o e z=>by rw[z,Ur] at e;cases e
       have IZ:aE (upd Hf l (.memo ls)) (upd H6 l (.memo ls)):=fun b o e=>by
         by_cases bl:b=l
         . rw[bl,ak] at e ⊢;exact e
         . rw[ag bl] at e;exact Uu b o (S.sub _ _ e) bl (XM b o e)
       have Ja:=gH IZ
       have g6:bh G0.Hf G0.H (jJ (upd Hf l (.memo ls)) (upd H6 l (.memo ls))) (upd H6 l (.memo ls)):=by
         refine⟨fun b o e=>?_,fun b o e=>?_,oK IZ,fun b o e=>?_⟩
         . by_cases bl:b=l
           . rw[bl,hB] at e;cases e;rw[bl];exact ak
           . have h3:H b=some o:=S.gr.big _ _ (by show(upd G0.H l _) b=_;rw[ag bl];exact e)
             have XO:b≠qa:=fun z=>by
               have:(upd G0.H l (.bK ls [N])) qa=none:=XD
               rw[<- z,ag bl,e] at this;cases this
             exact Uu b o h3 bl XO
         . by_cases bl:b=l
           . rw[bl,hA] at e;cases e;rw[bl];exact Ja _ _ ak
           . have h3:Hf b=some o:=S.gr.bw _ _ (by show(upd G0.Hf l _) b=_;rw[ag bl];exact e)
             exact Ja _ _ (by rw[ag bl];exact h3)
         . rcases pE (Hf:=upd Hf l (.memo ls)) (H:=upd H6 l (.memo ls)) b with⟨u',z1,z2,z3⟩ | z
           . rw[z3] at e;cases e;exact .inr (.inr z2)
           . rw[z] at e
             by_cases bl:b=l
             . rw[bl];exact .inl ⟨_,hA⟩
             . rw[ag bl] at e
               rcases S.gr.new b o e with⟨Py,y⟩ | y | y
               . have y:(upd G0.Hf l _) b=some Py:=y
                 rw[ag bl] at y;exact .inl ⟨Py,y⟩
               . have y:(upd G0.H l _) b=none:=y
                 rw[ag bl] at y;exact .inr (.inl y)
               . exact .inr (.inr y)
       have Qv:∀ {v:V} {d:Dt},sC l d=true->Rep X.K Hf v d->Rep X.K (jJ (upd Hf l (.memo ls)) (upd H6 l (.memo ls))) v d:=fun {v d} hn r=>(jb hm (.inl rfl) hn r).mono Ja
       refine k st H6 ⟨by rw[eR];exact XJ,_,⟨g6,by have:=S.len;simpa using this,fun i d h=>?_,fun i o h=>?_,fun i j o o' a h=>?_⟩⟩
       . cases i with
         | zero=>
           cases h
           refine⟨_,hv,.obj (back _ (Ja _ _ (by rw[ag Us];exact C3))) ?_⟩
           exact(Od hs hm rf).mono Ja
         | succ i=>
           have h:tl[i]?=some (.val d):=h
           have e:ng≠i:=fun z=>by rw[<- z,hu] at h;cases h
           obtain⟨w,w1,w2⟩:=S.val (i+1) d (by show(tl.set ng _)[i]?=_;rw[List.getElem?_set_ne e];exact h)
           exact⟨w,w1,Qv (mF ht h) w2⟩
       . cases i with
         | zero=>cases h
         | succ i=>exact absurd h (aV (iq ht) i o)
       . cases i with
         | zero=>cases h
         | succ i=>exact absurd h (aV (iq ht) i o)
end
noncomputable abbrev R9 (g:Str)(C':Addr)(fs':List (Str×Dt))(nm':List Str)(l':Addr)(ls':km)(n':Nat):List (Str×Dt):=[(g,.obj C' (tw fs' nm' l' ls' n'))]
section
variable {X:Cx}{G:Gr}{E:XK}{dl:List Slot}{e:Expr}{pos:Pos}{sts:List Stmt}{o:Out}{C C' l l':Addr}{ls ls':km}{n n' m:Nat}{nm nm':List Str}{fs':List (Str×Dt)}{g:Str}{tl:List Slot}{K:W.Frag}{Hf H:Hp}{st:L2.St}
theorem Es {fv:List (Str×V)}(r:bg K Hf fv (tw (R9 g C' fs' nm' l' ls' n') nm l ls n)):∃ v f2,fv=(g,v)::f2/\Rep K Hf v (.obj C' (tw fs' nm' l' ls' n'))/\bg K Hf f2 ((List.range nm.length).map fun j=>(nm.getD j "",.memo l ls j n)):=by
 have r:bg K Hf fv ((g,.obj C' (tw fs' nm' l' ls' n'))::(List.range nm.length).map fun j=>(nm.getD j "",.memo l ls j n)):=r
 cases r with
 | cons h t=>exact⟨_,_,rfl,h,t⟩
theorem Gi (i:Nat)(hn:0 < nm.length)(RT:0 < nm'.length)(hl:ls'.length≠ls.length)(h:l'≠l->oh X G E dl sts o)(hd:dl[i]?=some (.val (.obj C (tw (R9 g C' fs' nm' l' ls' n') nm l ls n))):=by rfl):oh X G E dl sts o:=by
 intro pins s st H D I ⟨Hf,S,k⟩
 obtain⟨v,hv,rv⟩:=S.val i _ hd
 refine h ?_ pins s st H D I ⟨Hf,S,k⟩
 cases rv with
 | obj q r=>
   obtain⟨v',f2,_,r1,r2⟩:=Es r
   have h1:=vC hn r
   cases r1 with
   | obj q' r'=>
     have h2:=vC RT r'
     intro z
     rw[z,h1] at h2
     have:=HO.memo.inj (Option.some.inj h2)
     exact hl (by rw[this])
theorem Gj (he:EE X G (.val (.obj C (tw (R9 g C' fs' nm' l' ls' n') nm l ls n))::tl) e (.xR l' ls' m))(hs:swapsWith e none pos.line X.env=pure false:=by rfl):ES X G E (.val (.obj C (tw (R9 g C' fs' nm' l' ls' n') nm l ls n))::tl) (.Expr e pos) (.nx (.val (.obj C (tw (R9 g C' fs' nm' l' ls' m) nm l ls n))::tl)):=
 uf (lX he hs) fun D st H ⟨Hf,S,k⟩=>⟨Hf,S,fun v aw H1 g1 r1=>by
   have S1:=S.grow g1
   cases r1 with
   | xR kn=>
     refine k st aw H1 g1.bw ⟨S1.gr,S1.len,fun i d h=>?_,fun i o h=>S1.own i o ?_,fun i j o o' a h1 h2=>S1.FO i j o o' a ?_ ?_⟩
     . cases i with
       | zero=>
         cases h
         obtain⟨v,hv,rv⟩:=S1.val 0 _ rfl
         cases rv with
         | obj q r=>
           obtain⟨v',f2,ef,r1,r2⟩:=Es r
           subst ef
           cases r1 with
           | obj q' r'=>exact⟨_,hv,.obj q (.cons (.obj q' (Bp kn r')) r2)⟩
       | succ i=>exact S1.val (i+1) d h
     . cases i with
       | zero=>cases h
       | succ i=>exact h
     . cases i with
       | zero=>cases h1
       | succ i=>exact h1
     . cases j with
       | zero=>cases h2
       | succ j=>exact h2⟩
end
end Sg
namespace Pf
open PySem PySem.Spec PyProof.Rows L2 Sg
structure fM (K:W.Frag)(x q:Str)(st:Stmt)(ps:List Str)(f:Addr)(d:FuncData):Prop where
 F:RX K x q st f d
 b:Binds K d ps []
structure Mu (K:W.Frag)(x q:Str)(st:Stmt)(ps:List Str)(f:Addr)(d:FuncData):Prop where
 F:A7 K x q st f d
 b:Binds K d ps []
structure lS (K:W.Frag)(x:Str)(st:Stmt)(ps:List Str)(f:Addr)(d:FuncData):Prop where
 F:RX K x x st f d
 b:Binds K d ps []
 a:W.nsIn K mainGlobals x=some (some (.ref f))
structure Gk (K:W.Frag)(x:Str)(C:Addr):Prop where
 a:W.nsIn K mainGlobals x=some (some (.ref C))
 cl:ue K C
 kc:W.keepIn K (.ref C)=true
noncomputable abbrev QL (x q:Str)(st:Stmt)(ps:List Str):Prop:=∀ (kV doc pm:Value) (an:Option Addr) (bf ct:Value) (us:List Value),us.length=ps.length->bindArgs (W.fnOf x q (b8 st) (aB st) (af st) .none kV doc pm an bf ct) ⟨us,[]⟩=pure (ps.zip us)
section
variable {K:W.Frag}{x q:Str}{st:Stmt}{ps:List Str}{f:Addr}{oc:Value}{od an:Option Addr}{xM:Array (Option Value)}{kV doc pm bf ct:Value}
theorem QM (l:K.lookup f=some ⟨oc,od,.func (W.fnOf x q (b8 st) (aB st) (af st) .none kV doc pm an bf ct),xM⟩)(c:W.codeIn K bf q=true)(k:W.keepIn K (.ref f)=true)(b:QL x q st ps):fM K x q st ps f (W.fnOf x q (b8 st) (aB st) (af st) .none kV doc pm an bf ct):=⟨vc l c k,(vc l c k).binds b⟩
theorem QN (l:K.lookup f=some ⟨oc,od,.func (W.fnOf x q (b8 st) (aB st) (af st) .none kV doc pm an bf ct),xM⟩)(c:W.codeIn K bf q=true)(k:W.keepIn K (.ref f)=true)(b:QL x q st ps):Mu K x q st ps f (W.fnOf x q (b8 st) (aB st) (af st) .none kV doc pm an bf ct):=⟨qU l c,(vc l c k).binds b⟩
theorem QO (a:W.nsIn K mainGlobals q=some (some (.ref f)))(l:K.lookup f=some ⟨oc,od,.func (W.fnOf q q (b8 st) (aB st) (af st) .none kV doc pm an bf ct),xM⟩)(c:W.codeIn K bf q=true)(k:W.keepIn K (.ref f)=true)(b:QL q q st ps):lS K q st ps f (W.fnOf q q (b8 st) (aB st) (af st) .none kV doc pm an bf ct):=⟨vc l c k,(vc l c k).binds b,a⟩
theorem QP {C:Addr}(a:W.nsIn K mainGlobals x=some (some (.ref C)))(p:W.plainGet K C Str.empty=true)(h:W.hasDictIn K C=true)(o:W.plainOver K C=true)(s:W.findIn K (.ref C) "__setattr__"=some (some (.builtin "object.__setattr__")))(k:W.keepIn K (.ref C)=true):Gk K x C:=⟨a,⟨p,h,o,s⟩,k⟩
end
theorem g7 {N P:List Str}{sc:Scope}(h:(sc.kind == .function && !sc.isCoroutine && !sc.isGenerator && decide N.Nodup && decide (N.take P.length=P) && P.all (fun x=>decide (sc.names.lookup x=some .local\/sc.names.lookup x=some .cell)) && sc.names.all fun y=>decide (y.2≠.free))=true):aq N P sc:=by
 simp only[Bool.and_eq_true,List.all_eq_true,decide_eq_true_eq,Bool.not_eq_true',beq_iff_eq] at h
 exact⟨h.1.1.1.1.1.1,h.1.1.1.1.1.2,h.1.1.1.1.2,h.1.1.1.2,h.1.1.2,h.1.2,h.2⟩
noncomputable def top (i:Nat):Stmt:=PySem.Challenge.pw_strokegrow_k57_whole_turns_kept.main.body.getD i (.Pass ⟨0,0,0,0⟩)
noncomputable abbrev zl:Stmt:=top 13
noncomputable abbrev zm:Stmt:=top 14
noncomputable abbrev lK:Stmt:=top 15
noncomputable abbrev m6:Stmt:=inClass (top 16) 3
noncomputable abbrev m7:Stmt:=inClass (top 16) 4
noncomputable abbrev qv:Stmt:=inClass (top 16) 5
noncomputable abbrev oN:Stmt:=inClass (top 16) 6
noncomputable abbrev lL:Stmt:=inClass (top 17) 0
noncomputable abbrev fV:Stmt:=inClass (top 17) 1
noncomputable abbrev kA:Stmt:=inClass (top 17) 2
noncomputable abbrev m8:Stmt:=inClass (top 18) 0
noncomputable abbrev g8:Stmt:=inClass (top 18) 1
noncomputable abbrev mi:Stmt:=inClass (top 18) 2
noncomputable abbrev vF:Stmt:=top 19
noncomputable abbrev m9:Stmt:=inClass (top 21) 0
noncomputable abbrev nh:Stmt:=inClass (top 21) 1
noncomputable abbrev ni:Stmt:=inClass (top 21) 2
noncomputable abbrev kB:Stmt:=inClass (top 21) 3
noncomputable abbrev cy:Stmt:=inClass (top 21) 4
noncomputable abbrev fN:Stmt:=inClass (top 21) 5
noncomputable abbrev cz:Stmt:=inClass (top 21) 6
noncomputable abbrev cA:Stmt:=inClass (top 21) 7
noncomputable abbrev nr:Stmt:=inClass (top 21) 8
noncomputable abbrev lM:Stmt:=inClass (top 21) 10
noncomputable abbrev zo:Stmt:=top 22
noncomputable abbrev cP:Stmt:=top 23
noncomputable abbrev qw:Stmt:=top 24
noncomputable abbrev mj:Stmt:=top 27
noncomputable abbrev q9:Stmt:=top 28
noncomputable abbrev gv:Stmt:=inClass (top 30) 0
noncomputable abbrev iX:Stmt:=inClass (top 30) 1
noncomputable abbrev bU:Stmt:=inClass (top 30) 2
noncomputable abbrev iw:Stmt:=inClass (top 30) 3
noncomputable abbrev cI:Stmt:=inClass (top 30) 4
noncomputable abbrev jK:Stmt:=inClass (top 30) 5
noncomputable abbrev jd:Stmt:=top 32
noncomputable abbrev eQ:Stmt:=top 33
noncomputable abbrev dZ:Stmt:=inClass (top 34) 0
noncomputable abbrev g9:Stmt:=inClass (top 34) 1
noncomputable abbrev bN:Stmt:=inClass (top 34) 3
noncomputable abbrev lN:Stmt:=inClass (top 34) 4
noncomputable abbrev gw:Stmt:=inClass (top 34) 5
noncomputable abbrev dq:Stmt:=inClass (top 34) 7
noncomputable abbrev fk:Stmt:=inClass (top 34) 8
noncomputable abbrev dC:Stmt:=inClass (top 34) 9
noncomputable abbrev iy:Stmt:=inClass (top 34) 11
noncomputable abbrev eU:Stmt:=inClass (top 34) 12
noncomputable abbrev dc:Stmt:=inClass (top 34) 16
noncomputable abbrev je:Stmt:=top 38
noncomputable abbrev gx:Stmt:=top 39
noncomputable abbrev fm:Stmt:=top 40
noncomputable abbrev kP:Stmt:=inClass (top 41) 0
noncomputable abbrev oO:Stmt:=inClass (top 41) 1
noncomputable abbrev kC:Stmt:=inClass (top 41) 2
noncomputable abbrev jf:Stmt:=inClass (top 41) 4
noncomputable abbrev nu:Stmt:=inClass (top 41) 5
noncomputable abbrev nv:Stmt:=inClass (top 41) 6
noncomputable abbrev aX:Stmt:=inClass (top 41) 7
noncomputable abbrev fO:Stmt:=inClass (top 41) 8
noncomputable abbrev cX:Stmt:=inClass (top 41) 9
noncomputable abbrev C5:Stmt:=top 43
noncomputable abbrev qx:Stmt:=top 45
noncomputable abbrev C6:Stmt:=top 46
noncomputable abbrev zp:Stmt:=top 47
noncomputable abbrev Jh:Stmt:=top 48
noncomputable abbrev vG:Stmt:=top 49
noncomputable abbrev zq:Stmt:=top 50
noncomputable abbrev vH:Stmt:=top 51
noncomputable abbrev Mv:List Str:=["one","other"]
theorem Ji:aq Mv ["one","other"] (af zl):=g7 (by decide +kernel)
noncomputable abbrev Mw:List Str:=["one","other"]
theorem Jj:aq Mw ["one","other"] (af zm):=g7 (by decide +kernel)
noncomputable abbrev vI:List Str:=["deed"]
theorem tS:aq vI ["deed"] (af lK):=g7 (by decide +kernel)
noncomputable abbrev zr:List Str:=["self","number"]
theorem wZ:aq zr ["self","number"] (af m6):=g7 (by decide +kernel)
noncomputable abbrev zt:List Str:=["self","spot","by","turns"]
theorem ml:aq zt ["self","spot","by"] (af m7):=g7 (by decide +kernel)
noncomputable abbrev C7:List Str:=["self","way"]
theorem Bv:aq C7 ["self","way"] (af qv):=g7 (by decide +kernel)
noncomputable abbrev Bw:List Str:=["self","deed","spot","way"]
theorem rb:aq Bw ["self","deed","spot","way"] (af oN):=g7 (by decide +kernel)
noncomputable abbrev vJ:List Str:=["self"]
theorem tT:aq vJ ["self"] (af lL):=g7 (by decide +kernel)
noncomputable abbrev oj:List Str:=["self","spot"]
theorem ny:aq oj ["self","spot"] (af fV):=g7 (by decide +kernel)
noncomputable abbrev tU:List Str:=["self","way","spot","x","y"]
theorem jL:aq tU ["self","way","spot"] (af kA):=g7 (by decide +kernel)
noncomputable abbrev zu:List Str:=["self"]
theorem w4:aq zu ["self"] (af m8):=g7 (by decide +kernel)
noncomputable abbrev p0:List Str:=["self","spot"]
theorem oP:aq p0 ["self","spot"] (af g8):=g7 (by decide +kernel)
noncomputable abbrev w6:List Str:=["self","way","spot","x","y"]
theorem lO:aq w6 ["self","way","spot"] (af mi):=g7 (by decide +kernel)
noncomputable abbrev Jl:List Str:=["ways"]
theorem Gm:aq Jl ["ways"] (af vF):=g7 (by decide +kernel)
noncomputable abbrev zv:List Str:=["self","pen","deed_count","last_way","last_spot","stroke_count","reaches","touches","crosses"]
theorem xa:aq zv ["self","pen","deed_count","last_way","last_spot","stroke_count","reaches","touches","crosses"] (af m9):=g7 (by decide +kernel)
noncomputable abbrev zw:List Str:=["self"]
theorem xb:aq zw ["self"] (af nh):=g7 (by decide +kernel)
noncomputable abbrev zx:List Str:=["self"]
theorem xc:aq zx ["self"] (af ni):=g7 (by decide +kernel)
noncomputable abbrev tV:List Str:=["self"]
theorem sG:aq tV ["self"] (af kB):=g7 (by decide +kernel)
noncomputable abbrev xf:List Str:=["self","first"]
theorem vK:aq xf ["self","first"] (af cy):=g7 (by decide +kernel)
noncomputable abbrev nV:List Str:=["self","numbers","first"]
theorem sH:aq nV ["self","numbers","first"] (af fN):=g7 (by decide +kernel)
noncomputable abbrev xh:List Str:=["self","first"]
theorem vL:aq xh ["self","first"] (af cz):=g7 (by decide +kernel)
noncomputable abbrev xi:List Str:=["self","first"]
theorem vM:aq xi ["self","first"] (af cA):=g7 (by decide +kernel)
noncomputable abbrev zy:List Str:=["self"]
theorem xj:aq zy ["self"] (af nr):=g7 (by decide +kernel)
noncomputable abbrev vN:List Str:=["self","other","pen","shift","reaches","touches","way"]
theorem nW:aq vN ["self","other"] (af lM):=g7 (by decide +kernel)
noncomputable abbrev Mx:List Str:=["pen"]
theorem Jm:aq Mx ["pen"] (af zo):=g7 (by decide +kernel)
noncomputable abbrev kE:List Str:=["pen","deed","behind","spot","reaches","touches"]
theorem mH:aq kE ["pen","deed"] (af cP):=g7 (by decide +kernel)
noncomputable abbrev C8:List Str:=["pen","deeds","track","deed"]
theorem tJ:aq C8 ["pen","deeds"] (af qw):=g7 (by decide +kernel)
noncomputable abbrev xk:List Str:=["age","first","last"]
theorem vO:aq xk ["age","first","last"] (af mj):=g7 (by decide +kernel)
noncomputable abbrev Et:List Str:=["rules","word"]
theorem Bx:aq Et ["rules","word"] (af q9):=g7 (by decide +kernel)
noncomputable abbrev oQ:List Str:=["self","growth","rules"]
theorem nX:aq oQ ["self","growth"] (af gv):=g7 (by decide +kernel)
noncomputable abbrev qy:List Str:=["self","tracks","whole","track"]
theorem kH:aq qy ["self","tracks"] (af iX):=g7 (by decide +kernel)
noncomputable abbrev kI:List Str:=["self","age","rules","last","grown","letter"]
theorem ki:aq kI ["self","age"] (af bU):=g7 (by decide +kernel)
noncomputable abbrev tW:List Str:=["self","age","letter"]
theorem sI:aq tW ["self","age","letter"] (af iw):=g7 (by decide +kernel)
noncomputable abbrev l4:List Str:=["self","age","begin","end"]
theorem qz:aq l4 ["self","age","begin","end"] (af cI):=g7 (by decide +kernel)
noncomputable abbrev sJ:List Str:=["self","age","place","track"]
theorem l5:aq sJ ["self","age","place"] (af jK):=g7 (by decide +kernel)
noncomputable abbrev By:List Str:=["tallies","letters"]
theorem pI:aq By ["tallies","letters"] (af jd):=g7 (by decide +kernel)
noncomputable abbrev mI:List Str:=["word","rounds"]
theorem rg:aq mI ["word","rounds"] (af eQ):=g7 (by decide +kernel)
noncomputable abbrev mn:List Str:=["self","rules","start"]
theorem oR:aq mn ["self","rules","start"] (af dZ):=g7 (by decide +kernel)
noncomputable abbrev p7:List Str:=["self"]
theorem oS:aq p7 ["self"] (af g9):=g7 (by decide +kernel)
noncomputable abbrev iY:List Str:=["self","age","letters","last","grown","letter"]
theorem kJ:aq iY ["self","age"] (af bN):=g7 (by decide +kernel)
noncomputable abbrev vP:List Str:=["self","age"]
theorem tX:aq vP ["self","age"] (af lN):=g7 (by decide +kernel)
noncomputable abbrev oT:List Str:=["self","age","place"]
theorem om:aq oT ["self","age","place"] (af gw):=g7 (by decide +kernel)
noncomputable abbrev oo:List Str:=["self","letter"]
theorem nz:aq oo ["self","letter"] (af dq):=g7 (by decide +kernel)
noncomputable abbrev nA:List Str:=["self","age","begin","end"]
theorem mJ:aq nA ["self","age","begin","end"] (af fk):=g7 (by decide +kernel)
noncomputable abbrev nY:List Str:=["self","age"]
theorem sL:aq nY ["self","age"] (af dC):=g7 (by decide +kernel)
noncomputable abbrev tY:List Str:=["self","age","begin","end","between","waiting","place","piece","rounds","behind"]
theorem mK:aq tY ["self","age","begin","end"] (af iy):=g7 (by decide +kernel)
noncomputable abbrev oU:List Str:=["self","age","place","passed"]
theorem nZ:aq oU ["self","age","place"] (af eU):=g7 (by decide +kernel)
noncomputable abbrev mL:List Str:=["self","age","place","passed"]
theorem l6:aq mL ["self","age","place"] (af dc):=g7 (by decide +kernel)
noncomputable abbrev rh:List Str:=["text"]
theorem qA:aq rh ["text"] (af je):=g7 (by decide +kernel)
noncomputable abbrev oV:List Str:=["word","letters"]
theorem tZ:aq oV ["word","letters"] (af gx):=g7 (by decide +kernel)
noncomputable abbrev nB:List Str:=["rows","firsts","letters","number","row","letter_fits"]
theorem qf:aq nB ["rows"] (af fm):=g7 (by decide +kernel)
noncomputable abbrev zA:List Str:=["self","ways","rows","drawer","row"]
theorem qg:aq zA ["self","ways","rows"] (af kP):=g7 (by decide +kernel)
noncomputable abbrev Bz:List Str:=["self"]
theorem zB:aq Bz ["self"] (af oO):=g7 (by decide +kernel)
noncomputable abbrev t5:List Str:=["self"]
theorem sM:aq t5 ["self"] (af kC):=g7 (by decide +kernel)
noncomputable abbrev vQ:List Str:=["self","letter"]
theorem t6:aq vQ ["self","letter"] (af jf):=g7 (by decide +kernel)
noncomputable abbrev zC:List Str:=["self","letter"]
theorem xl:aq zC ["self","letter"] (af nu):=g7 (by decide +kernel)
noncomputable abbrev zD:List Str:=["self","letter"]
theorem xm:aq zD ["self","letter"] (af nv):=g7 (by decide +kernel)
noncomputable abbrev t7:List Str:=["self","text","most","at","sign"]
theorem mM:aq t7 ["self","text","most"] (af aX):=g7 (by decide +kernel)
noncomputable abbrev n6:List Str:=["self","word"]
theorem sN:aq n6 ["self","word"] (af fO):=g7 (by decide +kernel)
noncomputable abbrev kK:List Str:=["self"]
theorem oW:aq kK ["self"] (af cX):=g7 (by decide +kernel)
noncomputable abbrev QQ:List Str:=["_law_script","_law_k","_law_cell_here","_law_low"]
theorem uw:aq QQ ["_law_script","_law_k"] (af C5):=g7 (by decide +kernel)
noncomputable abbrev C9:List Str:=["_law_cell_here","_law_many","_law_free","_law_found","_law_k","_law_at"]
theorem tK:aq C9 ["_law_cell_here","_law_many"] (af qx):=g7 (by decide +kernel)
noncomputable abbrev QR:List Str:=["_law_number","_law_alphabet_here","_law_most","_law_found","_law_size","_law_k"]
theorem Eu:aq QR ["_law_number","_law_alphabet_here","_law_most"] (af C6):=g7 (by decide +kernel)
noncomputable abbrev My:List Str:=["_law_script","_law_far","_law_first","_law_way","_law_age","_law_many","_law_most","_law_alphabet_here","_law_rows","_law_k","_law_cell_here","_law_deed","_law_start"]
theorem BA:aq My ["_law_script","_law_far"] (af zp):=g7 (by decide +kernel)
noncomputable abbrev UI:List Str:=["_law_script","_law_k","_law_far","_law_number"]
theorem Jn:aq UI ["_law_script","_law_k"] (af Jh):=g7 (by decide +kernel)
noncomputable abbrev Jo:List Str:=["_law_rows","_law_script","_law_most","_law_plain","_law_made","_law_k","_law_row","_law_number","_law_size","_law_word","_law_j","_law_at"]
theorem Ew:aq Jo ["_law_rows","_law_script","_law_most"] (af vG):=g7 (by decide +kernel)
noncomputable abbrev Mz:List Str:=["_law_ways","_law_rows","_law_word","_law_total","_law_letter","_law_row"]
theorem BB:aq Mz ["_law_ways","_law_rows","_law_word"] (af zq):=g7 (by decide +kernel)
noncomputable abbrev Jp:List Str:=["_law_script","_law_ways","_law_rows","_law_start","_law_age","_law_rules","_law_growth","_law_drawing","_law_turns_here","_law_letter","_law_deed","_law_word","_law_place","_law_due"]
theorem Jq:aq Jp ["_law_script"] (af vH):=g7 (by decide +kernel)
set_option genInjectivity false in
set_option genSizeOf false in
structure dY where
 (ux uy jg dQ dR gy fi eV bC dD gJ bV fR rj gK gL gM dF cB dH cC cD gN eW uz iz nC jU uA eX ck br cQ bR de mN gO fS bW bO eY bP aS bo cR cS dh cm gd jh kQ fo i4 dJ di gQ gR aY dM bX zE nE zF uB Ex zG uC qh:Addr)
 (uD uE ji kR kS nF l7 jk dr iC kT d8 jV rm kU kX kY iD jW iE jX jY kZ jl uF iG nG jZ uG jm fq d9 iH gf gS rq gT j0 ee fu jo dS dt cZ iI iJ jq gU gh jr k4 k6 l8 iK jt k7 k8 iL iM eh zH nH zI uH Ey zJ uI vR:FuncData)
 (j4 j5 j6 iN:Tok)
 (aN b9 aJ ar ay ax k9 da:Addr)
 (BC vS zK:Tok)
 K:W.Frag
structure Txt (K:W.Frag)(mg:Str->Option Value)(t:dY):Prop where
 hK:t.K=K
 g:∀ {x:Str} {v:Value},W.nsIn K mainGlobals x=some (some v)->mg x=some v
 gn:∀ {x:Str},W.nsIn K mainGlobals x=some none->mg x=none
 jM:Gk K "Quarter" t.aN
 nI:Gk K "Sixth" t.b9
 c5:Gk K "Rules" t.aJ
 aK:Gk K "Growth" t.ar
 aC:Gk K "Track" t.ay
 aU:Gk K "Drawing" t.ax
 qB:PJ K t.aN
 vT:PJ K t.b9
 vU:L2.Mk K t.aJ t.fo
 sO:L2.Mk K t.ar t.fS
 vV:L2.Mk K t.ay t.gK
 qC:L2.Mk K t.ax t.eX
 fP:bM K t.aJ "drawer"
 aO:bM K t.aJ "row_by_letter"
 bJ:bM K t.ar "rules"
 gz:bM K t.ar "seed"
 bS:bM K t.ar "tallies"
 bT:bM K t.ar "lengths"
 dN:bM K t.ay "drawer"
 bu:bM K t.ay "deed_count"
 bx:bM K t.ay "last_way"
 aW:bM K t.ay "last_spot"
 cf:bM K t.ay "stroke_count"
 cn:bM K t.ay "reaches"
 eZ:bM K t.ay "touches"
 e6:bM K t.ay "crosses"
 bA:bM K t.ax "growth"
 bB:bM K t.ax "tracks"
 zL:mg "DEEDS"=some (.ref t.k9)
 zM:∀ H,Rep K H (.ref t.k9) (.tup [.str "stroke",.str "step",.str "left",.str "right",.str "rest"])
 qi:mg "GOING_DEEDS"=some (.ref t.da)
 qj:∀ H,Rep K H (.ref t.da) (.tup [.str "stroke",.str "step"])
 BD:mg "MOST_ROWS"=some (.int 6 t.BC)
 vW:mg "MOST_IN_WORD"=some (.int 8 t.vS)
 nJ:mg "LAST_ROUND"=some (.int 200 t.zK)
 pJ:lS K "added" zl ["one","other"] t.ux t.uD
 pK:lS K "cross" zm ["one","other"] t.uy t.uE
 e9:lS K "turn_of_deed" lK ["deed"] t.jg t.ji
 fW:Meth K t.aN "way_of" t.dQ
 hE:Meth K t.b9 "way_of" t.dQ
 lb:fM K "way_of" "Pen.way_of" m6 ["self","number"] t.dQ t.kR
 fX:Meth K t.aN "turned" t.dR
 hU:Meth K t.b9 "turned" t.dR
 lg:fM K "turned" "Pen.turned" m7 ["self","spot","by"] t.dR t.kS
 hV:Meth K t.aN "step" t.gy
 ju:Meth K t.b9 "step" t.gy
 nK:fM K "step" "Pen.step" qv ["self","way"] t.gy t.nF
 gA:Meth K t.aN "after" t.fi
 iZ:Meth K t.b9 "after" t.fi
 l9:fM K "after" "Pen.after" oN ["self","deed","spot","way"] t.fi t.l7
 fe:Meth K t.aN "ways" t.eV
 jv:fM K "ways" "Quarter.ways" lL ["self"] t.eV t.jk
 cq:Meth K t.aN "turned_left" t.bC
 du:fM K "turned_left" "Quarter.turned_left" fV ["self","spot"] t.bC t.dr
 d0:Meth K t.aN "along" t.dD
 iO:fM K "along" "Quarter.along" kA ["self","way","spot"] t.dD t.iC
 hX:Meth K t.b9 "ways" t.gJ
 lh:fM K "ways" "Sixth.ways" m8 ["self"] t.gJ t.kT
 dj:Meth K t.b9 "turned_left" t.bV
 eu:fM K "turned_left" "Sixth.turned_left" g8 ["self","spot"] t.bV t.d8
 gB:Meth K t.b9 "along" t.fR
 j7:fM K "along" "Sixth.along" mi ["self","way","spot"] t.fR t.jV
 mO:lS K "pen_of" vF ["ways"] t.rj t.rm
 lj:Mu K "__init__" "Track.__init__" m9 ["self","pen","deed_count","last_way","last_spot","stroke_count","reaches","touches","crosses"] t.gK t.kU
 hZ:Meth K t.ay "many" t.gL
 ll:fM K "many" "Track.many" nh ["self"] t.gL t.kX
 ia:Meth K t.ay "turn" t.gM
 lq:fM K "turn" "Track.turn" ni ["self"] t.gM t.kY
 fw:Meth K t.ay "strokes" t.dF
 iP:fM K "strokes" "Track.strokes" kB ["self"] t.dF t.iD
 dU:Meth K t.ay "shift" t.cB
 vX:Binds K t.jW ["self","first"] [.int 0 t.j4]
 xn:A7 K "shift" "Track.shift" cy t.cB t.jW
 Lf:W.keepIn K (.ref t.cB)=true
 xp:Binds K t.jW ["self","first"] []
 fz:Meth K t.ay "by_ways" t.dH
 iQ:fM K "by_ways" "Track.by_ways" fN ["self","numbers","first"] t.dH t.iE
 gC:Meth K t.ay "reach" t.cC
 Jr:Binds K t.jX ["self","first"] [.int 0 t.j5]
 xq:A7 K "reach" "Track.reach" cz t.cC t.jX
 Lg:W.keepIn K (.ref t.cC)=true
 xu:Binds K t.jX ["self","first"] []
 gD:Meth K t.ay "touch" t.cD
 Js:Binds K t.jY ["self","first"] [.int 0 t.j6]
 xv:A7 K "touch" "Track.touch" cA t.cD t.jY
 Lh:W.keepIn K (.ref t.cD)=true
 xw:Binds K t.jY ["self","first"] []
 ib:Meth K t.ay "area" t.gN
 lr:fM K "area" "Track.area" nr ["self"] t.gN t.kZ
 fY:Meth K t.ay "joined" t.eW
 jw:fM K "joined" "Track.joined" lM ["self","other"] t.eW t.jl
 pL:lS K "still" zo ["pen"] t.uz t.uF
 dO:lS K "track_of_deed" cP ["pen","deed"] t.iz t.iG
 jN:lS K "track_of" qw ["pen","deeds"] t.nC t.nG
 fT:lS K "check_round" mj ["age","first","last"] t.jU t.jZ
 pM:lS K "tally" q9 ["rules","word"] t.uA t.uG
 jx:Mu K "__init__" "Drawing.__init__" gv ["self","growth"] t.eX t.jm
 c6:Meth K t.ax "join_all" t.ck
 fA:fM K "join_all" "Drawing.join_all" iX ["self","tracks"] t.ck t.fq
 cU:Meth K t.ax "deepen_to" t.br
 eC:fM K "deepen_to" "Drawing.deepen_to" bU ["self","age"] t.br t.d9
 d5:Meth K t.ax "whole" t.cQ
 iR:fM K "whole" "Drawing.whole" iw ["self","age","letter"] t.cQ t.iH
 dk:Meth K t.ax "stretch" t.bR
 gi:fM K "stretch" "Drawing.stretch" cI ["self","age","begin","end"] t.bR t.gf
 dA:Meth K t.ax "pen_at" t.de
 gW:fM K "pen_at" "Drawing.pen_at" jK ["self","age","place"] t.de t.gS
 iu:lS K "summed" jd ["tallies","letters"] t.mN t.rq
 df:lS K "waiting_pieces" eQ ["word","rounds"] t.gO t.gT
 j8:Mu K "__init__" "Growth.__init__" dZ ["self","rules","start"] t.fS t.j0
 c7:Meth K t.ar "rules_told" t.bW
 eD:fM K "rules_told" "Growth.rules_told" g9 ["self"] t.bW t.ee
 dm:Meth K t.ar "deepen_to" t.bO
 fB:fM K "deepen_to" "Growth.deepen_to" bN ["self","age"] t.bO t.fu
 fC:Meth K t.ar "enter" t.eY
 jy:fM K "enter" "Growth.enter" lN ["self","age"] t.eY t.jo
 cV:Meth K t.ar "check_place" t.bP
 dW:fM K "check_place" "Growth.check_place" gw ["self","age","place"] t.bP t.dS
 cG:Meth K t.ar "check_letter" t.aS
 dv:fM K "check_letter" "Growth.check_letter" dq ["self","letter"] t.aS t.dt
 cu:Meth K t.ar "check_stretch" t.bo
 c8:fM K "check_stretch" "Growth.check_stretch" fk ["self","age","begin","end"] t.bo t.cZ
 ff:Meth K t.ar "length" t.cR
 iS:fM K "length" "Growth.length" dC ["self","age"] t.cR t.iI
 fg:Meth K t.ar "pieces" t.cS
 iT:fM K "pieces" "Growth.pieces" iy ["self","age","begin","end"] t.cS t.iJ
 fD:Meth K t.ar "ahead" t.dh
 jz:fM K "ahead" "Growth.ahead" eU ["self","age","place"] t.dh t.jq
 d6:Meth K t.ar "younger" t.cm
 gX:fM K "younger" "Growth.younger" dc ["self","age","place"] t.cm t.gU
 cJ:lS K "is_small_letter" je ["text"] t.gd t.gh
 fh:lS K "is_word_over" gx ["word","letters"] t.jh t.jr
 gY:lS K "check_rows" fm ["rows"] t.kQ t.k4
 lu:Mu K "__init__" "Rules.__init__" kP ["self","ways","rows"] t.fo t.k6
 i0:Meth K t.aJ "pen" t.i4
 ma:fM K "pen" "Rules.pen" oO ["self"] t.i4 t.l8
 fE:Meth K t.aJ "letters" t.dJ
 iU:fM K "letters" "Rules.letters" kC ["self"] t.dJ t.iK
 fZ:Meth K t.aJ "row_of" t.di
 jA:fM K "row_of" "Rules.row_of" jf ["self","letter"] t.di t.jt
 ig:Meth K t.aJ "deed" t.gQ
 lx:fM K "deed" "Rules.deed" nu ["self","letter"] t.gQ t.k7
 ik:Meth K t.aJ "word" t.gR
 ly:fM K "word" "Rules.word" nv ["self","letter"] t.gR t.k8
 fF:Meth K t.aJ "word_of" t.aY
 sP:Binds K t.iL ["self","text","most"] [.int 8 t.iN]
 t8:A7 K "word_of" "Rules.word_of" aX t.aY t.iL
 GZ:W.keepIn K (.ref t.aY)=true
 G1:Binds K t.iL ["self","text","most"] []
 fG:Meth K t.aJ "turn_of" t.dM
 iV:fM K "turn_of" "Rules.turn_of" fO ["self","word"] t.dM t.iM
 dn:Meth K t.aJ "keeps_turns" t.bX
 eE:fM K "keeps_turns" "Rules.keeps_turns" cX ["self"] t.bX t.eh
 sQ:lS K "_law_cell" C5 ["_law_script","_law_k"] t.zE t.zH
 jO:lS K "_law_alphabet" qx ["_law_cell_here","_law_many"] t.nE t.nH
 sR:lS K "_law_text" C6 ["_law_number","_law_alphabet_here","_law_most"] t.zF t.zI
 pN:lS K "_law_shape" zp ["_law_script","_law_far"] t.uB t.uH
 yc:lS K "_law_big" Jh ["_law_script","_law_k"] t.Ex t.Ey
 sS:lS K "_law_kept" vG ["_law_rows","_law_script","_law_most"] t.zG t.zJ
 pO:lS K "_law_turns" zq ["_law_ways","_law_rows","_law_word"] t.uC t.uI
 BE:lS K "law" vH ["_law_script"] t.qh t.vR
 yd:mg "all"=none
 nL:mg "dict"=none
 kj:mg "enumerate"=none
 tL:mg "int"=none
 jE:mg "len"=none
 vY:mg "list"=none
 Jt:mg "max"=none
 Ez:mg "min"=none
 j9:mg "range"=none
 qD:mg "reversed"=none
 rA:mg "sum"=none
 zN:mg "tuple"=none
theorem QS {K:W.Frag}{h:Heap}{mg:Str->Option Value}(X:K.In h)(G:h.Ns mainGlobals mg){ux uy jg dQ dR gy fi eV bC dD gJ bV fR rj gK gL gM dF cB dH cC cD gN eW uz iz nC jU uA eX ck br cQ bR de mN gO fS bW bO eY bP aS bo cR cS dh cm gd jh kQ fo i4 dJ di gQ gR aY dM bX zE nE zF uB Ex zG uC qh aN b9 aJ ar ay ax k9 da:Addr}{uD uE ji kR kS nF l7 jk dr iC kT d8 jV rm kU kX kY iD iE kZ jl uF iG nG jZ uG jm fq d9 iH gf gS rq gT j0 ee fu jo dS dt cZ iI iJ jq gU gh jr k4 k6 l8 iK jt k7 k8 iM eh zH nH zI uH Ey zJ uI vR:FuncData}{j4 j5 j6 iN y0 y1 y2:Tok}{y3:Option Addr}{y4:Nat}{y5:Array (Option Value)}{Ju Jv Jw Jx Jy:Tok}{y6:Option Addr}{y7:Nat}{y8:Array (Option Value)}{vZ v3:Tok}{y9 ZU:Option Addr}{y11:Array (Option Value)}{y12 ZV ZW ZX Yh ZY:Value}{mq:Addr}{y18:Option Addr}{y19:Value}{y20:Nat}{y21:Array (Option Value)}{y22 ZZ:Option Addr}{y24:Array (Option Value)}{y25 Z0 Z1 Z2 Yi Z3:Value}{mv:Addr}{y31:Option Addr}{y32:Value}{y33:Nat}{y34:Array (Option Value)}{y35 Z4:Option Addr}{y37:Array (Option Value)}{y38 Z5 Z6 Z7 Yj Z8:Value}{mw:Addr}{y44:Option Addr}{y45:Value}{y46:Nat}{y47:Array (Option Value)}{y48 Z9:Option Addr}{y50:Array (Option Value)}{y51 y52 y53 y54 Yk y56:Value}{kF:Addr}{y57:Option Addr}{y58:Value}{y59:Nat}{y60:Array (Option Value)}
   (jM:Gk K "Quarter" aN)
   (nI:Gk K "Sixth" b9)
   (c5:Gk K "Rules" aJ)
   (aK:Gk K "Growth" ar)
   (aC:Gk K "Track" ay)
   (aU:Gk K "Drawing" ax)
   (qB:PJ K aN)
   (vT:PJ K b9)
   (vU:L2.Mk K aJ fo)
   (sO:L2.Mk K ar fS)
   (vV:L2.Mk K ay gK)
   (qC:L2.Mk K ax eX)
   (fP:W.findIn K (.ref aJ) "drawer"=some none)
   (aO:W.findIn K (.ref aJ) "row_by_letter"=some none)
   (bJ:W.findIn K (.ref ar) "rules"=some none)
   (gz:W.findIn K (.ref ar) "seed"=some none)
   (bS:W.findIn K (.ref ar) "tallies"=some none)
   (bT:W.findIn K (.ref ar) "lengths"=some none)
   (dN:W.findIn K (.ref ay) "drawer"=some none)
   (bu:W.findIn K (.ref ay) "deed_count"=some none)
   (bx:W.findIn K (.ref ay) "last_way"=some none)
   (aW:W.findIn K (.ref ay) "last_spot"=some none)
   (cf:W.findIn K (.ref ay) "stroke_count"=some none)
   (cn:W.findIn K (.ref ay) "reaches"=some none)
   (eZ:W.findIn K (.ref ay) "touches"=some none)
   (e6:W.findIn K (.ref ay) "crosses"=some none)
   (bA:W.findIn K (.ref ax) "growth"=some none)
   (bB:W.findIn K (.ref ax) "tracks"=some none)
   (Jz:W.nsIn K mainGlobals "DEEDS"=some (some (.ref k9)))
   (JA:K.lookup k9=some ⟨.type "tuple",y3,.seq #[.str "stroke" Ju,.str "step" Jv,.str "left" Jw,.str "right" Jx,.str "rest" Jy] y4,y5⟩)
   (v5:W.nsIn K mainGlobals "GOING_DEEDS"=some (some (.ref da)))
   (v7:K.lookup da=some ⟨.type "tuple",y6,.seq #[.str "stroke" vZ,.str "step" v3] y7,y8⟩)
   (zO:W.nsIn K mainGlobals "MOST_ROWS"=some (some (.int 6 y0)))
   (t9:W.nsIn K mainGlobals "MOST_IN_WORD"=some (some (.int 8 y1)))
   (xx:W.nsIn K mainGlobals "LAST_ROUND"=some (some (.int 200 y2)))
   (pJ:lS K "added" zl ["one","other"] ux uD)
   (pK:lS K "cross" zm ["one","other"] uy uE)
   (e9:lS K "turn_of_deed" lK ["deed"] jg ji)
   (fW:Meth K aN "way_of" dQ)
   (hE:Meth K b9 "way_of" dQ)
   (lb:fM K "way_of" "Pen.way_of" m6 ["self","number"] dQ kR)
   (fX:Meth K aN "turned" dR)
   (hU:Meth K b9 "turned" dR)
   (lg:fM K "turned" "Pen.turned" m7 ["self","spot","by"] dR kS)
   (hV:Meth K aN "step" gy)
   (ju:Meth K b9 "step" gy)
   (nK:fM K "step" "Pen.step" qv ["self","way"] gy nF)
   (gA:Meth K aN "after" fi)
   (iZ:Meth K b9 "after" fi)
   (l9:fM K "after" "Pen.after" oN ["self","deed","spot","way"] fi l7)
   (fe:Meth K aN "ways" eV)
   (jv:fM K "ways" "Quarter.ways" lL ["self"] eV jk)
   (cq:Meth K aN "turned_left" bC)
   (du:fM K "turned_left" "Quarter.turned_left" fV ["self","spot"] bC dr)
   (d0:Meth K aN "along" dD)
   (iO:fM K "along" "Quarter.along" kA ["self","way","spot"] dD iC)
   (hX:Meth K b9 "ways" gJ)
   (lh:fM K "ways" "Sixth.ways" m8 ["self"] gJ kT)
   (dj:Meth K b9 "turned_left" bV)
   (eu:fM K "turned_left" "Sixth.turned_left" g8 ["self","spot"] bV d8)
   (gB:Meth K b9 "along" fR)
   (j7:fM K "along" "Sixth.along" mi ["self","way","spot"] fR jV)
   (mO:lS K "pen_of" vF ["ways"] rj rm)
   (lj:Mu K "__init__" "Track.__init__" m9 ["self","pen","deed_count","last_way","last_spot","stroke_count","reaches","touches","crosses"] gK kU)
   (hZ:Meth K ay "many" gL)
   (ll:fM K "many" "Track.many" nh ["self"] gL kX)
   (ia:Meth K ay "turn" gM)
   (lq:fM K "turn" "Track.turn" ni ["self"] gM kY)
   (fw:Meth K ay "strokes" dF)
   (iP:fM K "strokes" "Track.strokes" kB ["self"] dF iD)
   (dU:Meth K ay "shift" cB)
   (y61:K.lookup cB=some ⟨y12,y9,.func (W.fnOf "shift" "Track.shift" (b8 cy) (aB cy) (af cy) (.ref mq) ZV ZW ZX ZU Yh ZY),y11⟩)
   (y62:K.lookup mq=some ⟨y19,y18,.seq #[.int 0 j4] y20,y21⟩)
   (y63:W.codeIn K Yh "Track.shift"=true)
   (y64:W.keepIn K (.ref cB)=true)
   (fz:Meth K ay "by_ways" dH)
   (iQ:fM K "by_ways" "Track.by_ways" fN ["self","numbers","first"] dH iE)
   (gC:Meth K ay "reach" cC)
   (y65:K.lookup cC=some ⟨y25,y22,.func (W.fnOf "reach" "Track.reach" (b8 cz) (aB cz) (af cz) (.ref mv) Z0 Z1 Z2 ZZ Yi Z3),y24⟩)
   (y66:K.lookup mv=some ⟨y32,y31,.seq #[.int 0 j5] y33,y34⟩)
   (y67:W.codeIn K Yi "Track.reach"=true)
   (y68:W.keepIn K (.ref cC)=true)
   (gD:Meth K ay "touch" cD)
   (y69:K.lookup cD=some ⟨y38,y35,.func (W.fnOf "touch" "Track.touch" (b8 cA) (aB cA) (af cA) (.ref mw) Z5 Z6 Z7 Z4 Yj Z8),y37⟩)
   (y70:K.lookup mw=some ⟨y45,y44,.seq #[.int 0 j6] y46,y47⟩)
   (y71:W.codeIn K Yj "Track.touch"=true)
   (y72:W.keepIn K (.ref cD)=true)
   (ib:Meth K ay "area" gN)
   (lr:fM K "area" "Track.area" nr ["self"] gN kZ)
   (fY:Meth K ay "joined" eW)
   (jw:fM K "joined" "Track.joined" lM ["self","other"] eW jl)
   (pL:lS K "still" zo ["pen"] uz uF)
   (dO:lS K "track_of_deed" cP ["pen","deed"] iz iG)
   (jN:lS K "track_of" qw ["pen","deeds"] nC nG)
   (fT:lS K "check_round" mj ["age","first","last"] jU jZ)
   (pM:lS K "tally" q9 ["rules","word"] uA uG)
   (jx:Mu K "__init__" "Drawing.__init__" gv ["self","growth"] eX jm)
   (c6:Meth K ax "join_all" ck)
   (fA:fM K "join_all" "Drawing.join_all" iX ["self","tracks"] ck fq)
   (cU:Meth K ax "deepen_to" br)
   (eC:fM K "deepen_to" "Drawing.deepen_to" bU ["self","age"] br d9)
   (d5:Meth K ax "whole" cQ)
   (iR:fM K "whole" "Drawing.whole" iw ["self","age","letter"] cQ iH)
   (dk:Meth K ax "stretch" bR)
   (gi:fM K "stretch" "Drawing.stretch" cI ["self","age","begin","end"] bR gf)
   (dA:Meth K ax "pen_at" de)
   (gW:fM K "pen_at" "Drawing.pen_at" jK ["self","age","place"] de gS)
   (iu:lS K "summed" jd ["tallies","letters"] mN rq)
   (df:lS K "waiting_pieces" eQ ["word","rounds"] gO gT)
   (j8:Mu K "__init__" "Growth.__init__" dZ ["self","rules","start"] fS j0)
   (c7:Meth K ar "rules_told" bW)
   (eD:fM K "rules_told" "Growth.rules_told" g9 ["self"] bW ee)
   (dm:Meth K ar "deepen_to" bO)
   (fB:fM K "deepen_to" "Growth.deepen_to" bN ["self","age"] bO fu)
   (fC:Meth K ar "enter" eY)
   (jy:fM K "enter" "Growth.enter" lN ["self","age"] eY jo)
   (cV:Meth K ar "check_place" bP)
   (dW:fM K "check_place" "Growth.check_place" gw ["self","age","place"] bP dS)
   (cG:Meth K ar "check_letter" aS)
   (dv:fM K "check_letter" "Growth.check_letter" dq ["self","letter"] aS dt)
   (cu:Meth K ar "check_stretch" bo)
   (c8:fM K "check_stretch" "Growth.check_stretch" fk ["self","age","begin","end"] bo cZ)
   (ff:Meth K ar "length" cR)
   (iS:fM K "length" "Growth.length" dC ["self","age"] cR iI)
   (fg:Meth K ar "pieces" cS)
   (iT:fM K "pieces" "Growth.pieces" iy ["self","age","begin","end"] cS iJ)
   (fD:Meth K ar "ahead" dh)
   (jz:fM K "ahead" "Growth.ahead" eU ["self","age","place"] dh jq)
   (d6:Meth K ar "younger" cm)
   (gX:fM K "younger" "Growth.younger" dc ["self","age","place"] cm gU)
   (cJ:lS K "is_small_letter" je ["text"] gd gh)
   (fh:lS K "is_word_over" gx ["word","letters"] jh jr)
   (gY:lS K "check_rows" fm ["rows"] kQ k4)
   (lu:Mu K "__init__" "Rules.__init__" kP ["self","ways","rows"] fo k6)
   (i0:Meth K aJ "pen" i4)
   (ma:fM K "pen" "Rules.pen" oO ["self"] i4 l8)
   (fE:Meth K aJ "letters" dJ)
   (iU:fM K "letters" "Rules.letters" kC ["self"] dJ iK)
   (fZ:Meth K aJ "row_of" di)
   (jA:fM K "row_of" "Rules.row_of" jf ["self","letter"] di jt)
   (ig:Meth K aJ "deed" gQ)
   (lx:fM K "deed" "Rules.deed" nu ["self","letter"] gQ k7)
   (ik:Meth K aJ "word" gR)
   (ly:fM K "word" "Rules.word" nv ["self","letter"] gR k8)
   (fF:Meth K aJ "word_of" aY)
   (y73:K.lookup aY=some ⟨y51,y48,.func (W.fnOf "word_of" "Rules.word_of" (b8 aX) (aB aX) (af aX) (.ref kF) y52 y53 y54 Z9 Yk y56),y50⟩)
   (y74:K.lookup kF=some ⟨y58,y57,.seq #[.int 8 iN] y59,y60⟩)
   (y75:W.codeIn K Yk "Rules.word_of"=true)
   (y76:W.keepIn K (.ref aY)=true)
   (fG:Meth K aJ "turn_of" dM)
   (iV:fM K "turn_of" "Rules.turn_of" fO ["self","word"] dM iM)
   (dn:Meth K aJ "keeps_turns" bX)
   (eE:fM K "keeps_turns" "Rules.keeps_turns" cX ["self"] bX eh)
   (sQ:lS K "_law_cell" C5 ["_law_script","_law_k"] zE zH)
   (jO:lS K "_law_alphabet" qx ["_law_cell_here","_law_many"] nE nH)
   (sR:lS K "_law_text" C6 ["_law_number","_law_alphabet_here","_law_most"] zF zI)
   (pN:lS K "_law_shape" zp ["_law_script","_law_far"] uB uH)
   (yc:lS K "_law_big" Jh ["_law_script","_law_k"] Ex Ey)
   (sS:lS K "_law_kept" vG ["_law_rows","_law_script","_law_most"] zG zJ)
   (pO:lS K "_law_turns" zq ["_law_ways","_law_rows","_law_word"] uC uI)
   (BE:lS K "law" vH ["_law_script"] qh vR)
   (yd:W.nsIn K mainGlobals "all"=some none)
   (nL:W.nsIn K mainGlobals "dict"=some none)
   (kj:W.nsIn K mainGlobals "enumerate"=some none)
   (tL:W.nsIn K mainGlobals "int"=some none)
   (jE:W.nsIn K mainGlobals "len"=some none)
   (vY:W.nsIn K mainGlobals "list"=some none)
   (Jt:W.nsIn K mainGlobals "max"=some none)
   (Ez:W.nsIn K mainGlobals "min"=some none)
   (j9:W.nsIn K mainGlobals "range"=some none)
   (qD:W.nsIn K mainGlobals "reversed"=some none)
   (rA:W.nsIn K mainGlobals "sum"=some none)
   (zN:W.nsIn K mainGlobals "tuple"=some none)
   : ∃ t,Txt K mg t/\t.qh=qh:=
 ⟨⟨ux,uy,jg,dQ,dR,gy,fi,eV,bC,dD,gJ,bV,fR,rj,gK,gL,gM,dF,cB,dH,cC,cD,gN,eW,uz,iz,nC,jU,uA,eX,ck,br,cQ,bR,de,mN,gO,fS,bW,bO,eY,bP,aS,bo,cR,cS,dh,cm,gd,jh,kQ,fo,i4,dJ,di,gQ,gR,aY,dM,bX,zE,nE,zF,uB,Ex,zG,uC,qh,uD,uE,ji,kR,kS,nF,l7,jk,dr,iC,kT,d8,jV,rm,kU,kX,kY,iD,(W.fnOf "shift" "Track.shift" (b8 cy) (aB cy) (af cy) (.ref mq) ZV ZW ZX ZU Yh ZY),iE,(W.fnOf "reach" "Track.reach" (b8 cz) (aB cz) (af cz) (.ref mv) Z0 Z1 Z2 ZZ Yi Z3),(W.fnOf "touch" "Track.touch" (b8 cA) (aB cA) (af cA) (.ref mw) Z5 Z6 Z7 Z4 Yj Z8),kZ,jl,uF,iG,nG,jZ,uG,jm,fq,d9,iH,gf,gS,rq,gT,j0,ee,fu,jo,dS,dt,cZ,iI,iJ,jq,gU,gh,jr,k4,k6,l8,iK,jt,k7,k8,(W.fnOf "word_of" "Rules.word_of" (b8 aX) (aB aX) (af aX) (.ref kF) y52 y53 y54 Z9 Yk y56),iM,eh,zH,nH,zI,uH,Ey,zJ,uI,vR,j4,j5,j6,iN,aN,b9,aJ,ar,ay,ax,k9,da,y0,y1,y2,K⟩,⟨rfl,
   W.mg_of X G,
   W.mg_none_of X G,
   jM,
   nI,
   c5,
   aK,
   aC,
   aU,
   qB,
   vT,
   vU,
   sO,
   vV,
   qC,
   fP,
   aO,
   bJ,
   gz,
   bS,
   bT,
   dN,
   bu,
   bx,
   aW,
   cf,
   cn,
   eZ,
   e6,
   bA,
   bB,
   W.mg_of X G Jz,
   fun H=>.tup (vs:=[.str "stroke",.str "step",.str "left",.str "right",.str "rest"]) (.inr ⟨_,_,_,JA,rfl,rfl,Nat.le_of_ble_eq_true rfl,.cons ⟨_,rfl⟩ (.cons ⟨_,rfl⟩ (.cons ⟨_,rfl⟩ (.cons ⟨_,rfl⟩ (.cons ⟨_,rfl⟩ (.nil)))))⟩) (.cons (.str _) (.cons (.str _) (.cons (.str _) (.cons (.str _) (.cons (.str _) (.nil)))))),
   W.mg_of X G v5,
   fun H=>.tup (vs:=[.str "stroke",.str "step"]) (.inr ⟨_,_,_,v7,rfl,rfl,Nat.le_of_ble_eq_true rfl,.cons ⟨_,rfl⟩ (.cons ⟨_,rfl⟩ (.nil))⟩) (.cons (.str _) (.cons (.str _) (.nil))),
   W.mg_of X G zO,
   W.mg_of X G t9,
   W.mg_of X G xx,
   pJ,
   pK,
   e9,
   fW,
   hE,
   lb,
   fX,
   hU,
   lg,
   hV,
   ju,
   nK,
   gA,
   iZ,
   l9,
   fe,
   jv,
   cq,
   du,
   d0,
   iO,
   hX,
   lh,
   dj,
   eu,
   gB,
   j7,
   mO,
   lj,
   hZ,
   ll,
   ia,
   lq,
   fw,
   iP,
   dU,
   fun s us X hl=>by obtain⟨z,rfl⟩:=CH hl;exact BindsTo.of_defaults rfl (X _ _ y62) rfl rfl rfl,
   qU (st:=cy) y61 y63,
   y64,
   fun s us X hl=>by obtain⟨z,y,rfl⟩:=yU hl;exact BindsTo.of_defaults rfl (X _ _ y62) rfl rfl rfl,
   fz,
   iQ,
   gC,
   fun s us X hl=>by obtain⟨z,rfl⟩:=CH hl;exact BindsTo.of_defaults rfl (X _ _ y66) rfl rfl rfl,
   qU (st:=cz) y65 y67,
   y68,
   fun s us X hl=>by obtain⟨z,y,rfl⟩:=yU hl;exact BindsTo.of_defaults rfl (X _ _ y66) rfl rfl rfl,
   gD,
   fun s us X hl=>by obtain⟨z,rfl⟩:=CH hl;exact BindsTo.of_defaults rfl (X _ _ y70) rfl rfl rfl,
   qU (st:=cA) y69 y71,
   y72,
   fun s us X hl=>by obtain⟨z,y,rfl⟩:=yU hl;exact BindsTo.of_defaults rfl (X _ _ y70) rfl rfl rfl,
   ib,
   lr,
   fY,
   jw,
   pL,
   dO,
   jN,
   fT,
   pM,
   jx,
   c6,
   fA,
   cU,
   eC,
   d5,
   iR,
   dk,
   gi,
   dA,
   gW,
   iu,
   df,
   j8,
   c7,
   eD,
   dm,
   fB,
   fC,
   jy,
   cV,
   dW,
   cG,
   dv,
   cu,
   c8,
   ff,
   iS,
   fg,
   iT,
   fD,
   jz,
   d6,
   gX,
   cJ,
   fh,
   gY,
   lu,
   i0,
   ma,
   fE,
   iU,
   fZ,
   jA,
   ig,
   lx,
   ik,
   ly,
   fF,
   fun s us X hl=>by obtain⟨z,y,rfl⟩:=Qd hl;exact BindsTo.of_defaults rfl (X _ _ y74) rfl rfl rfl,
   qU (st:=aX) y73 y75,
   y76,
   fun s us X hl=>match us,hl with | [_,_,_],_=>BindsTo.of_defaults rfl (X _ _ y74) rfl rfl rfl,
   fG,
   iV,
   dn,
   eE,
   sQ,
   jO,
   sR,
   pN,
   yc,
   sS,
   pO,
   BE,
   W.mg_none_of X G yd,
   W.mg_none_of X G nL,
   W.mg_none_of X G kj,
   W.mg_none_of X G tL,
   W.mg_none_of X G jE,
   W.mg_none_of X G vY,
   W.mg_none_of X G Jt,
   W.mg_none_of X G Ez,
   W.mg_none_of X G j9,
   W.mg_none_of X G qD,
   W.mg_none_of X G rA,
   W.mg_none_of X G zN⟩,rfl⟩
theorem QT {K:W.Frag}{mg:Str->Option Value}{t:dY}(T:Txt K mg t)(s:Shared)(u:Value):BindsTo s t.vR ⟨[u],[]⟩ [("_law_script",u)]:=by
 obtain⟨oc,od,kV,doc,pm,an,bf,ct,xM,e,lk,my⟩:=T.BE.F.ex
 rw[e];exact .of_eq rfl
noncomputable abbrev CX:rT:=Zc
noncomputable def sg (c:Nat):Str:=⟨#[c]⟩
noncomputable def tx (w:List Nat):Str:=⟨w.toArray⟩
structure Row where
 c:Nat
 d:Str
 w:List Nat
noncomputable def qk:List Str:=["stroke","step","left","right","rest"]
noncomputable def f6 (r:Row):Dt:=.tup [.str (sg r.c),.str r.d,.str (tx r.w)]
noncomputable def small (c:Nat):Prop:=97<=c/\c<=122
structure aM (rows:List Row):Prop where
 pos:0 < rows.length
 le:rows.length<=6
 nd:(rows.map (·.c)).Nodup
 sm:∀ r∈rows,small r.c
 dd:∀ r∈rows,r.d∈qk
 wp:∀ r∈rows,0 < r.w.length/\r.w.length<=8
 wo:∀ r∈rows,∀ x∈r.w,x∈rows.map (·.c)
noncomputable def sT (rows:List Row):List (Key×Dt):=rows.map fun r=>(.inr (sg r.c),f6 r)
noncomputable abbrev Rl:=List Dt->Res->Prop
noncomputable def wy (six:Bool):Int:=if six then 6 else 4
noncomputable def dY.pc (t:dY)(six:Bool):Addr:=if six then t.b9 else t.aN
noncomputable def dY.uJ (t:dY)(six:Bool)(rows:List Row):Dt:=.obj t.aJ [("drawer",.i9 (.obj (t.pc six) [])),("row_by_letter",.dw (sT rows))]
theorem qE {a b:Nat}(h:sg a=sg b):a=b:=by
 have:=congrArg (fun s:Str=>s.cps.toList) h
 simpa [sg] using this
theorem JB {c:Nat}{L:List Nat}:sg c∈L.map sg ↔ c∈L:=by
 constructor
 . intro h
   obtain⟨x,hx,e⟩:=List.mem_map.mp h
   rw[<- qE e];exact hx
 . exact fun h=>List.mem_map.mpr ⟨c,h,rfl⟩
theorem Yl {c:Nat}(h:97<=c):P7 "a" (sg c)=true:=by
 have e:("a":Str).cps.toList=[97]:=rfl
 unfold P7
 rw[e]
 show(!decide ([c] < [97]))=true
 have:¬ ([c] < [97]):=by
   intro z
   rcases List.cons_lt_cons_iff.mp z with z | ⟨_,z⟩
   . omega
   . exact absurd z (by simp)
 simp[this]
theorem Ym {c:Nat}(h:c<=122):P7 (sg c) "z"=true:=by
 have e:("z":Str).cps.toList=[122]:=rfl
 unfold P7
 rw[e]
 show(!decide ([122] < [c]))=true
 have:¬ ([122] < [c]):=by
   intro z
   rcases List.cons_lt_cons_iff.mp z with z | ⟨_,z⟩
   . omega
   . exact absurd z (by simp)
 simp[this]
theorem rB (w:List Nat):Sg.signs (tx w)=(w.map sg).map Dt.str:=by
 unfold Sg.signs tx
 rw[List.map_map];rfl
theorem i3 (w:List Nat):(tx w).length=w.length:=by show w.toArray.size=w.length;simp
theorem fQ {w:List Nat}(h:∀ x∈w,x < 128):jG (tx w)=true:=by
 unfold jG tx
 rw[Array.all_eq_true_iff_forall_mem]
 intro x hx
 exact decide_eq_true (h x (by simpa using hx))
theorem sU:∀ {rows:List Row},(rows.map (·.c)).Nodup->∀ {r:Row},r∈rows->lG (sT rows) (.inr (sg r.c))=some (f6 r)
 | [],_,r,h=>by cases h
 | q::rows,nd,r,h=>by
   rw[List.map_cons,List.nodup_cons] at nd
   rcases List.mem_cons.mp h with rfl | h
   . exact qX (p:=(.inr (sg r.c),f6 r)) rfl
   . have ne:¬ (Sum.inr (sg q.c):Key)=.inr (sg r.c):=fun z=>nd.1 (by
       rw[qE (Sum.inr.inj z)]
       exact List.mem_map.mpr ⟨r,h,rfl⟩)
     show lG ((.inr (sg q.c),f6 q)::sT rows) _=_
     rw[oJ (p:=(.inr (sg q.c),f6 q)) ne]
     exact sU nd.2 h
theorem qF {n:Nat}(h:n<=2000):n<=sizeLine:=Nat.le_trans h (by decide)
noncomputable def MA:Rl:=fun ds r=>∃ c,ds=[.str (sg c)]/\small c/\r=.ret (.bl true)
noncomputable def QU:Rl:=fun ds r=>∃ (w L:List Nat),ds=[.str (tx w),.lst ((L.map sg).map .str)]/\(0 < w.length/\w.length<=8)/\(∀ x∈w,x∈L)/\(∀ x∈L,small x)/\r=.ret (.bl true)
noncomputable def MB:Rl:=fun ds r=>∃ rows,ds=[.lst (rows.map f6)]/\aM rows/\r=.ret .c9
noncomputable def QV:Stmt->Scope
 | .Return (some (.BoolOp _ [_,.Call _ [.ListComp _ _ sc _] _ _] _)) _=>sc
 | _=>af (.Pass ⟨0,0,0,0⟩)
noncomputable abbrev MC:Scope:=QV ((aB gx).getD 0 (.Pass ⟨0,0,0,0⟩))
theorem EC:gq MC (af gx) oV ["sign","letters"] ["sign"] [1]=true:=by decide +kernel
noncomputable abbrev Gn:Scope:=PX ((aB fm).getD 2 (.Pass ⟨0,0,0,0⟩))
theorem ye:gq Gn (af fm) nB ["row"] ["row"] []=true:=by decide +kernel
noncomputable abbrev MD:Scope:=PX ((aB fm).getD 3 (.Pass ⟨0,0,0,0⟩))
theorem ED:gq MD (af fm) nB ["first"] ["first"] []=true:=by decide +kernel
theorem cK {X:Cx}{G:Gr}{dl:List Slot}{zs zs':List Dt}{wi:TI}(h:sk X G dl zs wi)(e:zs'=zs):sk X G dl zs' wi:=by subst e;exact h
variable {P:Program}{w:World}{K:W.Frag}{mg:Str->Option Value}{base:Heap}{t:dY}
theorem JC (T:Txt K mg t):GF P w K mg base CX 1 "is_small_letter" 1 MA:=by
 refine⟨_,_,_,i6 T.cJ.F qA rfl fun bf A outer s H E G ds r hr hl hR=>?_,(T.g T.cJ.a),T.cJ.F.kp,T.cJ.b⟩
 obtain⟨c,rfl,⟨h1,h2⟩,rfl⟩:=hR
 exact⟨_,.rt _,ao (aF (CF (u:=true) (v:=true) (aR (vj (yO T.jE (aa 0 rfl) (qF (n:=1) (by decide))) aj) rfl) fun _=>(yM (aR (Iu cN (aa 0 rfl) cN) (by rw[Yl h1,Ym h2];rfl)))))⟩
theorem ME (T:Txt K mg t):GF P w K mg base CX 1 "is_word_over" 2 QU:=by
 refine⟨_,_,_,i6 T.fh.F tZ rfl fun bf A outer s H E G ds r hr hl hR=>?_,(T.g T.fh.a),T.fh.F.kp,T.fh.b⟩
 obtain⟨wd,L,rfl,⟨h0,h8⟩,hw,hL,rfl⟩:=hR
 have Qc:jG (tx wd)=true:=fQ fun x hx=>by have:=hL x (hw x hx);unfold small at this;omega
 have hlen:=i3 wd
 have e1:(decide ((1:Int)<=((tx wd).length:Nat)) && decide (((tx wd).length:Nat)<=(8:Int)))=true:=by
   rw[hlen,decide_eq_true (by omega),decide_eq_true (by omega)];rfl
 have e2:(((wd.filter fun _=>true).map fun x=>Dt.bl (decide (sg x∈L.map sg))))=((List.replicate wd.length true).map Dt.bl):=by
   rw[List.filter_eq_self.mpr (fun _ _=>rfl)]
   refine List.ext_getElem (by simp) fun i h1 h2=>?_
   simp only[List.getElem_map,List.getElem_replicate]
   have hi:i < wd.length:=by simpa using h1
   rw[decide_eq_true (JB.mpr (hw _ (List.getElem_mem hi)))]
 have e3:(List.replicate wd.length true).all id=true:=by simp
 have es:wd.map (fun x=>Dt.str (sg x))=Sg.signs (tx wd):=by rw[rB,List.map_map];rfl
 refine⟨_,.rt _,ao (aF (CF (u:=true) (v:=true) (aR (Iv aj (yO T.jE (aa 0 rfl) (qF (by omega))) (jS (w:=.int 8) T.vW ⟨_,rfl⟩ fun _=>.int 8)) (congrArg Dt.bl e1)) fun _=>(yM (aR (yY (bs:=List.replicate wd.length true) T.yd rfl (aR (oH (eO wd (fun x=>Dt.str (sg x)) (fun x=>.bl (decide (sg x∈L.map sg))) (fun x=>[.val (.str (sg x))]) (fun _=>true) rfl (a0 EC) (gu (aa 0 rfl)) (bF (a0 EC) rfl) (cK (cF Qc) es) (fun a _=>bQ) (.nil fun _ _=>rfl)
   (fun a ha _ C fp s' H' G'=>P8 (aa 0 rfl) (aa 1 rfl)) (qF (by omega)))) (congrArg Dt.lst e2))) (congrArg Dt.bl e3)))))⟩
theorem Dc {k:Nat}{ds:List Dt}{K:W.Frag}{H:Hp}{vs:List V}(r:bD K H vs ds)(hk:k<=ds.length):bD K H (FF vs none (some (k:Int))) (ds.take k):=by
 unfold FF
 rw[HT.Ht,HT.Lz,List.drop_zero,r.length,Nat.min_eq_left hk,Nat.sub_zero]
 exact r.take k
theorem MG {X:Cx}{G:Gr}{dl:List Slot}{a b:Expr}{ds:List Dt}{k:Nat}{pos p2:Pos}(ha:EE X G dl a (.lst ds))(hb:EE X G dl b (.int (k:Int)))(hk:k<=ds.length):EO X G dl (.Subscript a (.Slice none (some b) none p2) pos) (.lst (ds.take k)):=
 iW (AJ LC ha DS (DT hb)) fun st H Q ⟨Hf,S,kk⟩=>⟨Hf,S,fun v aw H1 g1 r1=>by
   cases r1 with
   | @lst q vs _ hq rp=>
     refine⟨aw,S.grow g1,fun z bZ H2 g2 r2=>?_⟩
     cases r2
     have g:=g1.trans g2
     refine⟨(k:Int),rfl,q,vs,rfl,.of (g2.big _ _ (g1.sub _ _ hq)),fun p hp=>kk p bZ _ (g.trans (.fU g.sub hp)) (g.big.free hp) (g.sub.free hp) ⟨_,ak,Dc (rp.mono g2.bw) hk⟩⟩⟩
theorem dB {L:List Dt}{L':List Dt}(e:L=L'){X:Cx}{G:Gr}{dl:List Slot}{z:Expr}(h:EO X G dl z (.lst L)):EE X G dl z (.lst L'):=by subst e;exact oH h
theorem JD (T:Txt K mg t):GF P w K mg base CX 2 "check_rows" 1 MB:=by
 refine⟨_,_,_,i6 T.gY.F qf rfl fun bf A outer s H E G ds r hr hl hR=>?_,(T.g T.gY.a),T.gY.F.kp,T.gY.b⟩
 obtain⟨rows,rfl,ok,rfl⟩:=hR
 have EF:=JC (P:=P) (w:=w) (base:=base) T
 have QW:=ME (P:=P) (w:=w) (base:=base) T
 have nd:=qf.nd
 have hp:=ok.pos
 have hl6:=ok.le
 let cs:=rows.map (·.c)
 let lt:List Dt:=(cs.map sg).map Dt.str
 have e0:(decide ((((rows.map f6).length:Nat):Int)=0))=false:=by rw[List.length_map];exact decide_eq_false (by omega)
 have e1:(decide ((6:Int) < (((rows.map f6).length:Nat):Int)))=false:=by rw[List.length_map];exact decide_eq_false (by omega)
 have ef:((rows.filter fun _=>true).map fun r=>Dt.str (sg r.c))=lt:=by
   rw[List.filter_eq_self.mpr (fun _ _=>rfl)]
   show _=((rows.map (·.c)).map sg).map Dt.str
   rw[List.map_map,List.map_map];rfl
 have ez:(rows.map fun r=>Dt.str (sg r.c))=lt:=by
   show _=((rows.map (·.c)).map sg).map Dt.str
   rw[List.map_map,List.map_map];rfl
 have hsz:rows.length<=sizeLine:=qF (by omega)
 let S:Nat->List Slot:=fun _=>[.val (.lst (rows.map f6)),.val (.lst lt),.val (.lst lt),.aL,.aL,.aL]
 let xs:=rows.map f6
 have MH:xs.length=rows.length:=List.length_map ..
 refine⟨.nx (S rows.length),.nx _,ah (cb (u:=false) (dP (sd (uk T.jE (aa 0 rfl)) aj) e0) (fun h=>nomatch h) (fun h=>cg))
   (ah (cb (u:=false) (dP (D5 (uk T.jE (aa 0 rfl)) (jS (w:=.int 6) T.BD ⟨_,rfl⟩ fun _=>.int 6)) e1) (fun h=>nomatch h) (fun h=>cg))
   (ah (CN 1 rows f6 (fun r=>Dt.str (sg r.c)) (fun r=>[.val (f6 r)]) (fun _=>true) rfl nd (a0 ye) (gb (aa 0 rfl)) (bF (a0 ye) rfl) eJ (fun a _=>bQ) (.nil fun _ _=>rfl) (fun a ha _ C fp s' H' G'=>aI (aa 0 rfl) aj rfl) hsz)
   ?r1))⟩
 rw[ef]
 refine vn 1 (w:=.lst lt) (ah (CN 2 rows (fun r=>Dt.str (sg r.c)) (fun r=>Dt.str (sg r.c)) (fun r=>[.val (.str (sg r.c))]) (fun _=>true) rfl nd (a0 ED) (gb (aa 1 rfl)) (bF (a0 ED) rfl) (cK eJ ez) (fun a _=>bQ)
   (.one fun a ha C fp s' H' G'=>AY (b0 EF aA hr (ae (aa 0 rfl) ai) ⟨a.c,rfl,ok.sm a ha,rfl⟩)) (fun a ha _ C fp s' H' G'=>aa 0 rfl) hsz) ?r2)
 rw[ef]
 refine vn 2 (w:=.lst lt) (ao (l3 (o:=.nx (S rows.length)) (m:=rows.length) (List.range xs.length) (fun(j:Nat)=>.tup [.int j,xs.getD j .c9]) (fun(j:Nat) dl=>(dl.set 3 (.val (.int j))).set 4 (.val (xs.getD j .c9))) S rfl PassesOwn.leaving
   (Ef rfl T.kj (ae (aa 0 rfl) ai)) (xZ (xs:=xs)) (rP rfl (dg (bI nd rfl (.inl rfl)) (dg (bI nd rfl (.inl rfl)) o5))) (fun a _=>yX) (Le.of ⟨rfl,rfl,rfl,trivial⟩) (by rw[List.length_range,MH];exact Nat.le_refl _) (fun j a hj ha=>?l) (by rw[List.length_range,MH];exact .all rfl)))
 rw[List.getElem?_range (by omega)] at ha
 cases ha
 have ex:xs.getD j .c9=f6 rows[j]:=by
   show(rows.map f6).getD j .c9=_
   rw[List.getD_eq_getElem?_getD,List.getElem?_map,List.getElem?_eq_getElem hj];rfl
 have hm:=List.getElem_mem hj
 have VU:cs.length=rows.length:=List.length_map ..
 have eT:lt.take j=((cs.take j).map sg).map Dt.str:=by
   show((cs.map sg).map Dt.str).take j=_
   rw[<- List.map_take,<- List.map_take]
 have dy:lt.length=rows.length:=by show((cs.map sg).map Dt.str).length=_;rw[List.length_map,List.length_map,VU]
 have Yn:sg rows[j].c ∉ (cs.take j).map sg:=by
   intro z
   have z:=JB.mp z
   obtain⟨i,hi,e⟩:=List.mem_iff_getElem.mp z
   rw[List.length_take] at hi
   rw[List.getElem_take] at e
   have h:=List.pairwise_iff_getElem.mp ok.nd i j (by rw[List.length_map];omega) (by rw[List.length_map];exact hj) (by omega)
   exact h (e.trans (List.getElem_map (f:=Row.c) (l:=rows) (i:=j) (h:=by rw[List.length_map];exact hj)).symm)
 have en:(!decide (sg rows[j].c∈(cs.take j).map sg))=true:=by rw[decide_eq_false Yn];rfl
 have v4:∀ {X:Cx} {G:Gr} {dl:List Slot} {e:Expr},EE X G dl e (xs.getD j .c9)->EE X G dl e (.tup [.str (sg rows[j].c),.str rows[j].d,.str (tx rows[j].w)]):=fun h=>by rw[ex] at h;exact h
 refine .nx (ah (au 5 nd (CF (u:=true) (v:=true) (b0 EF aA hr (ae (aI (v4 (aa 4 rfl)) aj rfl) ai) ⟨_,rfl,ok.sm _ hm,rfl⟩) fun _=>(yM (aR (L8 (xs:=(cs.take j).map sg) (aI (v4 (aa 4 rfl)) aj rfl) (dB eT (MG (aa 1 rfl) (aa 3 rfl) (by rw[dy];exact Nat.le_of_lt hj)))) (congrArg Dt.bl en)))))
   (ao (cb (u:=false) (CD (u:=true) (CC (vg (u:=true) (v:=true) (AY (aa 5 rfl)) fun _=>(vg (u:=true) (v:=true) (dP (CK (xs:=qk) (aI (v4 (aa 4 rfl)) aj rfl) (jS (w:=.ref t.k9) T.zL rfl T.zM)) (decide_eq_true (ok.dd _ hm))) fun _=>(yL (AY (b0 QW aA hr (ae (aI (v4 (aa 4 rfl)) aj rfl) (ae (aa 2 rfl) ai)) ⟨rows[j].w,cs,rfl,ok.wp _ hm,ok.wo _ hm,fun x hx=>?_,rfl⟩))))))) (fun h=>nomatch h) (fun h=>cg)))) (Le.of ⟨rfl,rfl,rfl,trivial⟩)
 obtain⟨r,MI,rfl⟩:=List.mem_map.mp hx
 exact ok.sm r MI
noncomputable def JE (t:dY):Rl:=fun ds r=>∃ six,ds=[.int (wy six)]/\r=.ret (.i9 (.obj (t.pc six) []))
noncomputable def MJ (t:dY):Rl:=fun ds r=>∃ six rows,ds=[.int (wy six),.lst (rows.map f6)]/\aM rows/\r=.own (.obj t.aJ [("drawer",.i9 (.obj (t.pc six) [])),("row_by_letter",.dw (sT rows))])
noncomputable def rr (r:Row):Str×List Dt:=(sg r.c,[.str r.d,.str (tx r.w)])
theorem EG (rows:List Row):rows.map f6=(rows.map rr).map vy:=by rw[List.map_map];rfl
theorem QX (rows:List Row):sT rows=qc (rows.map rr):=by unfold qc sT;rw[List.map_map];rfl
theorem UJ {rows:List Row}(nd:(rows.map (·.c)).Nodup):((rows.map rr).map (·.1)).Nodup:=by
 have e:(rows.map rr).map (·.1)=(rows.map (·.c)).map sg:=by rw[List.map_map,List.map_map];rfl
 rw[e]
 exact List.Pairwise.map sg (fun a b h z=>h (qE z)) nd
theorem Gp (T:Txt K mg t):GF P w K mg base CX 1 "pen_of" 1 (JE t):=by
 refine⟨_,_,_,i6 T.mO.F Gm rfl fun bf A outer s H E G ds r hr hl hR=>?_,(T.g T.mO.a),T.mO.F.kp,T.mO.b⟩
 obtain⟨six,rfl,rfl⟩:=hR
 cases six with
 | false=>exact⟨_,.rt _,ug (cb (sd (aa 0 rfl) aj) (fun h=>ao (aF (Bt T.qB (T.g T.jM.a)))) (fun h=>absurd h (by decide)))⟩
 | true=>exact⟨_,.rt _,ah (cb (sd (aa 0 rfl) aj) (fun h=>absurd h (by decide)) (fun h=>cg)) (ug (cb (sd (aa 0 rfl) aj) (fun h=>ao (aF (Bt T.vT (T.g T.nI.a)))) (fun h=>absurd h (by decide))))⟩
theorem JF (T:Txt K mg t):R3 P w K mg base CX 3 "Rules" t.aJ 3 (MJ t):=by
 refine⟨_,_,_,VI T.lu.F qg rfl fun bf A outer s H E G z ds r hr hl hR=>?_,T.vU,(T.g T.c5.a),T.lu.b⟩
 obtain⟨six,rows,rfl,ok,rfl⟩:=hR
 have UK:=Gp (P:=P) (w:=w) (base:=base) T
 have MK:=JD (P:=P) (w:=w) (base:=base) T
 have nd:=qg.nd
 have hu:(A.deeper (envOfC "Rules.__init__" (af kP) s.heap.objs.size t.fo bf)).units+1 < cLine:=by have:=hr.units;omega
 rw[QX,EG]
 refine⟨_,.nx ?fin,ah (au 3 nd (b0 UK aA hr (ae (aa 1 rfl) ai) ⟨six,rfl,rfl⟩))
   (ah (l1 (b0 MK aA hr (ae (aa 2 rfl) ai) ⟨rows,by rw[EG],ok,rfl⟩))
   (ah (kz (aa 3 rfl) T.c5.cl T.fP)
   (Iz 2 4 (C:=t.aJ) (rows:=rows.map rr) (dlu:=[.aL,.val (.int (wy six)),.val (.lst ((rows.map rr).map vy)),.val (.i9 (.obj (t.pc six) [])),.aL]) hu nd rfl PassesOwn.leaving T.c5.cl T.aO rfl rfl rfl rfl (by decide) (by decide) rfl (UJ ok.nd) (by rw[List.length_map];exact Nat.lt_of_le_of_lt ok.le (by decide))
     (fun r=>aI (aa 4 rfl) aj (mU (j:=0) rfl)) (fun r=>Mb T.zN (aa 4 rfl)))))⟩
 rfl
open PySem.Builtin.Str in
theorem yf (x:Str){a b:Nat}(hab:a<=b)(hb:b<=x.length){l u:Option Int}(h:strSliceIndices l u 1 x.length=strSliceIndices (some (a:Int)) (some (b:Int)) 1 x.length):Txt.slice x l u=⟨((x.cps.toList.drop a).take (b - a)).toArray⟩:=by
 unfold Txt.slice
 rw[h,PySem.StrLaws.sliced_plain x hab hb]
 split
 . rename_i q
   rw[PySem.StrLaws.strSliceIndices_plain hab hb,List.length_map,List.length_range] at q
   have q:b - a=x.length:=by simpa using q
   have ea:a=0:=by omega
   have eb:b=x.length:=by omega
   subst ea eb
   rw[List.drop_zero,Nat.sub_zero]
   have:x.cps.toList.take x.length=x.cps.toList:=List.take_of_length_le (by simp[Str.length])
   rw[this]
 . rfl
open PySem.Builtin.Str in
theorem JG (L:List Nat){k:Nat}(h:k<=L.length):Txt.slice (tx L) none (some (k:Int))=tx (L.take k):=by
 rw[yf (tx L) (a:=0) (b:=k) (Nat.zero_le _) (by rw[i3];exact h)]
 . show(⟨(((L.toArray.toList).drop 0).take (k - 0)).toArray⟩:Str)=_
   simp[tx]
 . simp[strSliceIndices]
   have e:max (0:Int) (min 0 ((tx L).length:Int))=0:=by omega
   rw[e]
open PySem.Builtin.Str in
theorem Dd (L:List Nat){k:Nat}(h:k<=L.length):Txt.slice (tx L) (some (k:Int)) none=tx (L.drop k):=by
 rw[yf (tx L) (a:=k) (b:=(tx L).length) (by rw[i3];exact h) (Nat.le_refl _)]
 . show(⟨(((L.toArray.toList).drop k).take ((tx L).length - k)).toArray⟩:Str)=_
   rw[i3,List.toList_toArray,List.take_of_length_le (by rw[List.length_drop];exact Nat.le_refl _)]
   rfl
 . simp[strSliceIndices]
   have e:max (0:Int) (min (if ((tx L).length:Int) < 0 then ((tx L).length:Int)+(tx L).length else (tx L).length) ((tx L).length:Int))=(tx L).length:=by
     rw[if_neg (by omega)];omega
   rw[e]
theorem QY (a b:List Nat):tx a ++ tx b=tx (a ++ b):=by
 show(⟨a.toArray ++ b.toArray⟩:Str)=⟨(a ++ b).toArray⟩
 simp
theorem UL (L:List Nat){k:Nat}(h:k < L.length):o7 (tx L).cps.toList (k:Int)=some (L.getD k 0):=by
 show o7 L.toArray.toList (k:Int)=_
 rw[List.toList_toArray]
 refine mU ?_
 rw[List.getD_eq_getElem?_getD,List.getElem?_eq_getElem h];rfl
section
variable {X:Cx}{G:Gr}{dl:List Slot}{a b:Expr}{L M:List Nat}{k:Nat}{pos p p2:Pos}
theorem pP (ha:EE X G dl a (.str (tx L)))(hb:EE X G dl b (.str (tx M)))(h:L.length+M.length<=2000):EE X G dl (.BinOp a .Add b pos) (.str (tx (L ++ M))):=
 aR (PB ha hb (by rw[i3,i3];exact qF h)) (by rw[QY])
theorem zP (ha:EE X G dl a (.str (tx L)))(hb:EE X G dl b (.int (k:Int)))(h:k < L.length)(hl:L.length<=2000)(hs:kM b:=by intro _ _;rfl):EE X G dl (.Subscript a b pos) (.str (tx [L.getD k 0])):=
 PF ha hb (UL L h) (by rw[i3];exact qF hl) hs
theorem EH (ha:EE X G dl a (.str (tx L)))(hb:EE X G dl b (.int (k:Int)))(h:k<=L.length)(hl:L.length<=2000):EE X G dl (.Subscript a (.Slice none (some b) none p2) pos) (.str (tx (L.take k))):=
 aR (Ip ha Io (Eg hb) (by rw[i3];exact qF hl)) (by rw[JG L h])
theorem yg (ha:EE X G dl a (.str (tx L)))(hb:EE X G dl b (.int (k:Int)))(h:k<=L.length)(hl:L.length<=2000):EE X G dl (.Subscript a (.Slice (some b) none none p2) pos) (.str (tx (L.drop k))):=
 aR (Ip ha (Eg hb) Io (by rw[i3];exact qF hl)) (by rw[Dd L h])
theorem oX (hm:X.mg "len"=none)(ha:EE X G dl a (.str (tx L)))(hl:L.length<=2000)(hg:Gl X "len":=by rfl)(he:starEach [a] X.env=[(false,eval a X.env)]:=by rfl):EE X G dl (.Call (.Name "len" p) [a] [] pos) (.int (L.length:Nat)):=
 aR (yO hm ha (by rw[i3];exact qF hl) hg he) (by rw[i3])
end
theorem EI:∀ (Ls:List (List Nat)) (a:List Nat),(Ls.map tx).foldl (fun acc p=>acc ++ (("":Str).cps) ++ p.cps) a.toArray=(a ++ Ls.flatten).toArray
 | [],a=>by simp
 | l::r,a=>by
   have e:a.toArray ++ ("":Str).cps ++ (tx l).cps=(a ++ l).toArray:=by
     show a.toArray ++ (#[]:Array Nat) ++ l.toArray=_
     simp
   rw[List.map_cons,List.foldl_cons,e,EI r,List.flatten_cons,List.append_assoc]
theorem ML (Ls:List (List Nat)):Txt.join "" (Ls.map tx)=tx Ls.flatten:=by
 cases Ls with
 | nil=>rfl
 | cons l r=>
   show(⟨(r.map tx).foldl (fun acc p=>acc ++ (("":Str).cps) ++ p.cps) l.toArray⟩:Str)=_
   rw[EI,List.flatten_cons];rfl
theorem Gq {X:Cx}{G:Gr}{dl:List Slot}{a e:Expr}{apos bY:Pos}{Ls:List (List Nat)}(ha:EE X G dl a (.str ""))(he:EE X G dl e (.lst ((Ls.map tx).map .str)))(hw:Ls.flatten.length+Ls.length<=100000)(kf:attributeBase a "join" X.env (eval a X.env)=eval a X.env:=by rfl)
   (va:((backTo bY (starEach [e] X.env)).all (fun x=>!x.1) && (backToKw bY (keywordEach [] X.env)).all (fun x=>x.1.isSome) && decide ([e].length+([]:List Keyword).length+(if ([]:List Keyword).isEmpty then 0 else 1) < 30))=true:=by rfl)
   (kg:(apos.endLine == bY.line)=true:=by rfl) (qm:starEach [e] X.env=(false,eval e X.env)::starEach [] X.env:=by rfl):EE X G dl (.Call (.Attribute a "join" apos) [e] [] bY) (.str (tx Ls.flatten)):=by
 have e1:((Ls.map tx).map (·.length)).sum=Ls.flatten.length:=by
   rw[List.length_flatten,List.map_map]
   congr 1
 exact aR (Ma ha he (joinOk_of_weight (by rw[e1,List.length_map];omega) (by decide)) kf va kg qm) (by rw[ML])
theorem BF:∀ rows:List Row,(rows.map fun r=>[r.c]).flatten=rows.map (·.c)
 | []=>rfl
 | a::r=>by rw[List.map_cons,List.flatten_cons,BF r];rfl
noncomputable def dY.qH (t:dY)(six:Bool)(rows:List Row):List (Str×Dt):=[("drawer",.i9 (.obj (t.pc six) [])),("row_by_letter",.dw (sT rows))]
noncomputable def bG (rows:List Row)(x:Nat):Str:=((rows.find? fun r=>decide (r.c=x)).map (·.d)).getD ""
noncomputable def wordOf (rows:List Row)(x:Nat):List Nat:=((rows.find? fun r=>decide (r.c=x)).map (·.w)).getD []
theorem dX {rows:List Row}{x:Nat}(h:x∈rows.map (·.c)):∃ r∈rows,r.c=x/\bG rows x=r.d/\wordOf rows x=r.w:=by
 obtain⟨q,hq,e⟩:=List.mem_map.mp h
 cases f:rows.find? (fun r=>decide (r.c=x)) with
 | none=>exact absurd (decide_eq_true e) (by simpa using List.find?_eq_none.mp f q hq)
 | some r=>
   refine⟨r,List.mem_of_find?_eq_some f,of_decide_eq_true (List.find?_some (p:=fun r:Row=>decide (r.c=x)) f),?_,?_⟩
   . unfold bG;rw[f];rfl
   . unfold wordOf;rw[f];rfl
noncomputable def De (t:dY):Rl:=fun ds r=>∃ six rows,ds=[t.uJ six rows]/\aM rows/\r=.ret (.str (tx (rows.map (·.c))))
noncomputable def JH (t:dY):Rl:=fun ds r=>∃ six rows q,ds=[t.uJ six rows,.str (sg q.c)]/\aM rows/\q∈rows/\r=.ret (f6 q)
noncomputable def MN (t:dY):Rl:=fun ds r=>∃ six rows x,ds=[t.uJ six rows,.str (sg x)]/\aM rows/\x∈rows.map (·.c)/\r=.ret (.str (bG rows x))
noncomputable def MO (t:dY):Rl:=fun ds r=>∃ six rows x,ds=[t.uJ six rows,.str (sg x)]/\aM rows/\x∈rows.map (·.c)/\r=.ret (.str (tx (wordOf rows x)))
theorem yh (T:Txt K mg t):MF P w K mg base CX 1 t.aJ "row_of" 2 (JH t):=by
 refine⟨T.c5.cl,_,_,_,i6 T.jA.F t6 rfl fun bf A outer s H E G ds r hr hl hR=>?_,T.fZ,T.jA.b⟩
 obtain⟨six,rows,q,rfl,ok,hq,rfl⟩:=hR
 have hu:(A.deeper (envOfC "Rules.row_of" (af jf) s.heap.objs.size t.di bf)).units+1 < cLine:=by have:=hr.units;omega
 have hv:=sU ok.nd hq
 exact⟨_,.rt _,ah (cb (u:=false) (dP (Ei hu (aa 1 rfl) (aD (fs:=t.qH six rows) (aa 0 rfl) T.c5.cl T.aO rfl)) (by rw[hv];rfl)) (fun h=>nomatch h) (fun h=>cg))
   (ao (aF (yZ hu (aD (fs:=t.qH six rows) (aa 0 rfl) T.c5.cl T.aO rfl) (aa 1 rfl) hv (fun _ _=>rfl))))⟩
theorem oY (T:Txt K mg t):MF P w K mg base CX 2 t.aJ "word" 2 (MO t):=by
 refine⟨T.c5.cl,_,_,_,i6 T.ly.F xm rfl fun bf A outer s H E G ds r hr hl hR=>?_,T.ik,T.ly.b⟩
 obtain⟨six,rows,x,rfl,ok,hx,rfl⟩:=hR
 obtain⟨q,hq,rfl,e1,e2⟩:=dX hx
 have m:=yh (P:=P) (w:=w) (base:=base) T
 rw[e2]
 exact⟨_,.rt _,ao (aF (aI (aQ (fs:=t.qH six rows) (aa 0 rfl) m aA hr (ae (aa 1 rfl) ai) ⟨six,rows,q,rfl,ok,hq,rfl⟩) aj rfl))⟩
theorem gF (T:Txt K mg t):MF P w K mg base CX 1 t.aJ "letters" 1 (De t):=by
 refine⟨T.c5.cl,_,_,_,i6 T.iU.F sM rfl fun bf A outer s H E G ds r hr hl hR=>?_,T.fE,T.iU.b⟩
 obtain⟨six,rows,rfl,ok,rfl⟩:=hR
 have h6:=ok.le
 have el:((sT rows).map fun kd=>kD kd.1)=((rows.map fun r=>[r.c]).map tx).map Dt.str:=by
   unfold sT
   rw[List.map_map,List.map_map,List.map_map];rfl
 have ef:(rows.map fun r=>[r.c]).flatten=rows.map (·.c):=BF rows
 refine⟨_,.rt _,ao (aF (aR (Gq (Ls:=rows.map fun r=>[r.c]) cN (dB el (IA T.vY rfl (aD (fs:=t.qH six rows) (aa 0 rfl) T.c5.cl T.aO rfl))) (by rw[ef,List.length_map,List.length_map];omega)) (by rw[ef])))⟩
theorem BG (T:Txt K mg t):MF P w K mg base CX 2 t.aJ "deed" 2 (MN t):=by
 refine⟨T.c5.cl,_,_,_,i6 T.lx.F xl rfl fun bf A outer s H E G ds r hr hl hR=>?_,T.ig,T.lx.b⟩
 obtain⟨six,rows,x,rfl,ok,hx,rfl⟩:=hR
 obtain⟨q,hq,rfl,e1,e2⟩:=dX hx
 have m:=yh (P:=P) (w:=w) (base:=base) T
 rw[e1]
 exact⟨_,.rt _,ao (aF (aI (aQ (fs:=t.qH six rows) (aa 0 rfl) m aA hr (ae (aa 1 rfl) ai) ⟨six,rows,q,rfl,ok,hq,rfl⟩) aj rfl))⟩
noncomputable def yi (t:dY):Rl:=fun ds r=>∃ (six:Bool) (rows:List Row) (w:List Nat) (m:Nat),ds=[t.uJ six rows,.str (tx w),.int (m:Nat)]/\aM rows/\(∀ x∈w,x∈rows.map (·.c))/\(0 < w.length/\w.length<=m/\m<=1000)/\r=.ret (.str (tx w))
theorem MP (w:List Nat):w.map (fun x=>Dt.str (sg x))=Sg.signs (tx w):=by rw[rB,List.map_map];rfl
theorem uK {rows:List Row}(ok:aM rows){w:List Nat}(h:∀ x∈w,x∈rows.map (·.c)):jG (tx w)=true:=fQ fun x hx=>by
 obtain⟨r,hr,rfl⟩:=List.mem_map.mp (h x hx)
 have:=ok.sm r hr
 unfold small at this;omega
theorem Df (T:Txt K mg t):ke P w K mg base CX 1 t.aY t.iL ["self","text","most"] (D3 K 3 (yi t)):=by
 refine VH T.t8 mM rfl fun bf A outer s H E G ds r hr hl hR=>?_
 obtain⟨six,rows,wd,m,rfl,ok,hw,⟨h0,hm,ZC⟩,rfl⟩:=hR
 have nd:=mM.nd
 have hu:(A.deeper (envOfC "Rules.word_of" (af aX) s.heap.objs.size t.aY bf)).units+1 < cLine:=by have:=hr.units;omega
 have ne:¬ tx wd=("":Str):=fun z=>by
   have:=congrArg Str.length z
   rw[i3] at this
   have e:("":Str).length=0:=rfl
   omega
 let xs:=Sg.signs (tx wd)
 have MH:xs.length=wd.length:=by show(Sg.signs (tx wd)).length=_;rw[pv,i3]
 let S:Nat->List Slot:=fun _=>[.val (t.uJ six rows),.val (.str (tx wd)),.val (.int (m:Nat)),.aL,.aL]
 refine⟨_,.rt _,ah (cb (u:=false) (dP (mY (aa 1 rfl) cN) (decide_eq_false ne)) (fun h=>nomatch h) (fun h=>cg))
   (ah (l3 (o:=.nx (S wd.length)) (m:=wd.length) (List.range xs.length) (fun(j:Nat)=>.tup [.int j,xs.getD j .c9]) (fun(j:Nat) dl=>(dl.set 3 (.val (.int j))).set 4 (.val (xs.getD j .c9))) S rfl PassesOwn.leaving
     (IC rfl T.kj (ae (aa 1 rfl) ai)) (CT (uK ok hw)) (rP rfl (dg (bI nd rfl (.inl rfl)) (dg (bI nd rfl (.inl rfl)) o5))) (fun a _=>yX) (Le.of ⟨rfl,rfl,rfl,trivial⟩) (by rw[List.length_range,MH];exact Nat.le_refl _) (fun j a hj ha=>?_) (by rw[List.length_range,MH];exact .all rfl))
   (ao (aF (aa 1 rfl))))⟩
 rw[List.getElem?_range (by omega)] at ha
 cases ha
 have ex:xs.getD j .c9=.str (sg wd[j]):=by
   show(Sg.signs (tx wd)).getD j .c9=_
   rw[<- MP,List.getD_eq_getElem?_getD,List.getElem?_map,List.getElem?_eq_getElem hj];rfl
 have v4:∀ {X:Cx} {G:Gr} {dl:List Slot} {e:Expr},EE X G dl e (xs.getD j .c9)->EE X G dl e (.str (sg wd[j])):=fun h=>by rw[ex] at h;exact h
 obtain⟨q,hq,hc,_,_⟩:=dX (hw _ (List.getElem_mem hj))
 have hv:=sU ok.nd hq
 rw[hc] at hv
 exact .nx (ao (cb (u:=false) (CC (HF (u:=false) (v:=false) (dP (HM (aa 3 rfl) (aa 2 rfl)) (decide_eq_false (by omega))) fun _=>(CB (dP (Ei hu (v4 (aa 4 rfl)) (aD (fs:=t.qH six rows) (aa 0 rfl) T.c5.cl T.aO rfl)) (by rw[hv];rfl))))) (fun h=>nomatch h) (fun h=>cg))) (Le.of ⟨rfl,rfl,rfl,trivial⟩)
theorem Yo {K:W.Frag}:∀ H,bD K H [.int 8] [.int 8]:=fun _=>.cons (.int 8) .nil
theorem BH (T:Txt K mg t):LY P w K mg base CX 1 t.aJ "word_of" 3 [.int 8] (yi t):=⟨T.c5.cl,_,_,_,_,[.int 8],Df T,T.fF,T.sP,.cons ⟨_,rfl⟩ .nil,Yo⟩
noncomputable def QZ (t:dY):Rl:=fun ds r=>∃ six rows,ds=[t.uJ six rows]/\r=.ret (.i9 (.obj (t.pc six) []))
theorem EJ (T:Txt K mg t):MF P w K mg base CX 1 t.aJ "pen" 1 (QZ t):=by
 refine⟨T.c5.cl,_,_,_,i6 T.ma.F zB rfl fun bf A outer s H E G ds r hr hl hR=>?_,T.i0,T.ma.b⟩
 obtain⟨six,rows,rfl,rfl⟩:=hR
 exact⟨_,.rt _,ao (aF (aD (fs:=t.qH six rows) (aa 0 rfl) T.c5.cl T.fP rfl))⟩
noncomputable def tl (six:Bool)(p:Int×Int):Int×Int:=if six then (-p.2,p.1+p.2) else (-p.2,p.1)
noncomputable def tn (six:Bool):Nat->Int×Int->Int×Int
 | 0,p=>p
 | n+1,p=>tl six (tn six n p)
noncomputable def sp (p:Int×Int):Dt:=.tup [.int p.1,.int p.2]
theorem f7 (six:Bool):0 < wy six:=by cases six <;> decide
noncomputable def Q0 (t:dY)(six:Bool):Rl:=fun ds r=>ds=[.obj (t.pc six) []]/\r=.ret (.int (wy six))
noncomputable def Q1 (t:dY)(six:Bool):Rl:=fun ds r=>∃ p,ds=[.obj (t.pc six) [],sp p]/\r=.ret (sp (tl six p))
noncomputable def JI (t:dY)(six:Bool):Rl:=fun ds r=>∃ z,ds=[.obj (t.pc six) [],.int z]/\r=.ret (.int (z % wy six))
noncomputable def JJ (t:dY)(six:Bool):Rl:=fun ds r=>∃ p b,ds=[.obj (t.pc six) [],sp p,.int b]/\r=.ret (sp (tn six (b % wy six).toNat p))
theorem uL (T:Txt K mg t)(six:Bool):MF P w K mg base CX 1 (t.pc six) "ways" 1 (Q0 t six):=by
 cases six with
 | false=>
   refine⟨T.jM.cl,_,_,_,i6 T.jv.F tT rfl fun bf A outer s H E G ds r hr hl hR=>?_,T.fe,T.jv.b⟩
   obtain⟨rfl,rfl⟩:=hR
   exact⟨_,.rt _,ao (aF aj)⟩
 | true=>
   refine⟨T.nI.cl,_,_,_,i6 T.lh.F w4 rfl fun bf A outer s H E G ds r hr hl hR=>?_,T.hX,T.lh.b⟩
   obtain⟨rfl,rfl⟩:=hR
   exact⟨_,.rt _,ao (aF aj)⟩
theorem MQ (T:Txt K mg t)(six:Bool):MF P w K mg base CX 1 (t.pc six) "turned_left" 2 (Q1 t six):=by
 cases six with
 | false=>
   refine⟨T.jM.cl,_,_,_,i6 T.du.F ny rfl fun bf A outer s H E G ds r hr hl hR=>?_,T.cq,T.du.b⟩
   obtain⟨p,rfl,rfl⟩:=hR
   exact⟨_,.rt _,(ao (aF (cY (ae (mX (aI (aa 1 rfl) aj rfl)) (ae (aI (aa 1 rfl) aj rfl) ai)) AA3)))⟩
 | true=>
   refine⟨T.nI.cl,_,_,_,i6 T.eu.F oP rfl fun bf A outer s H E G ds r hr hl hR=>?_,T.dj,T.eu.b⟩
   obtain⟨p,rfl,rfl⟩:=hR
   exact⟨_,.rt _,(ao (aF (cY (ae (mX (aI (aa 1 rfl) aj rfl)) (ae (aT (aI (aa 1 rfl) aj rfl) (aI (aa 1 rfl) aj rfl)) ai)) AA3)))⟩
theorem EK {six:Bool}{m:Str}{f:Addr}(hQ:Meth K t.aN m f)(hS:Meth K t.b9 m f):Meth K (t.pc six) m f:=by cases six <;> assumption
theorem EL (T:Txt K mg t)(six:Bool):ue K (t.pc six):=by cases six;exact T.jM.cl;exact T.nI.cl
theorem lC (T:Txt K mg t)(six:Bool):MF P w K mg base CX 2 (t.pc six) "way_of" 2 (JI t six):=by
 refine⟨EL T six,_,_,_,i6 T.lb.F wZ rfl fun bf A outer s H E G ds r hr hl hR=>?_,EK T.fW T.hE,T.lb.b⟩
 obtain⟨z,rfl,rfl⟩:=hR
 have h1:=uL (P:=P) (w:=w) (base:=base) T six
 refine⟨_,.rt _,ao (aF (cO (aa 1 rfl) (cj (aa 0 rfl) h1 aA hr ⟨rfl,rfl⟩) (f7 six)))⟩
theorem yj (T:Txt K mg t)(six:Bool):MF P w K mg base CX 3 (t.pc six) "turned" 3 (JJ t six):=by
 refine⟨EL T six,_,_,_,i6 T.lg.F ml rfl fun bf A outer s H E G ds r hr hl hR=>?_,EK T.fX T.hU,T.lg.b⟩
 obtain⟨p,b,rfl,rfl⟩:=hR
 have h1:=lC (P:=P) (w:=w) (base:=base) T six
 have h2:=MQ (P:=P) (w:=w) (base:=base) T six
 have VZ:=Int.emod_nonneg b (Int.ne_of_gt (f7 six))
 have ZG:=Int.emod_lt_of_pos b (f7 six)
 have hb3:wy six<=6:=by cases six <;> decide
 refine⟨_,.rt _,ah (lz 3 (fun k=>[.val (.obj (t.pc six) []),.val (sp (tn six k p)),.val (.int b),.aL]) ml.nd rfl PassesOwn.leaving T.j9
   (ae (aQ (aa 0 rfl) h1 aA hr (ae (aa 2 rfl) ai) ⟨b,rfl,rfl⟩) ai) ⟨by omega,by omega⟩ (Le.of ⟨rfl,rfl,rfl,trivial⟩) (Nat.le_refl _) (fun k hk=>?_) (.all rfl)) (ao (aF (aa 1 rfl)))⟩
 refine .nx (ao (au 1 ml.nd (aQ (aa 0 rfl) h2 aA hr (ae (aa 1 rfl) ai) ⟨_,rfl,rfl⟩))) (Le.of ⟨rfl,rfl,rfl,trivial⟩)
theorem BI {m n:Nat}{a b:Int}(ha:a.natAbs < 2 ^ m)(hb:b.natAbs < 2 ^ n)(h:m+n<=134217728):IntMulOk a b:=IntMulOk.of_le (PySem.intBits_le_iff.mpr ha) (PySem.intBits_le_iff.mpr hb) h
noncomputable def kL (six:Bool)(w:Int)(p:Int×Int):Int:=
 if six then (if w=0 then 2 * p.1+p.2 else if w=1 then p.1+2 * p.2 else if w=2 then p.2 - p.1 else if w=3 then -2 * p.1 - p.2 else if w=4 then -p.1 - 2 * p.2 else p.1 - p.2)
 else (if w=0 then p.1 else if w=1 then p.2 else if w=2 then -p.1 else -p.2)
theorem UM (six:Bool){w:Int}(h0:0<=w)(h1:w < wy six)(p:Int×Int):kL six ((w+1) % wy six) (Pf.tl six p)=kL six w p:=by
 obtain⟨x,y⟩:=p
 cases six with
 | false=>
   have h1:w < 4:=h1
   have h:w=0\/w=1\/w=2\/w=3:=by omega
   rcases h with rfl | rfl | rfl | rfl <;> simp[kL,Pf.tl,wy]
 | true=>
   have h1:w < 6:=h1
   have h:w=0\/w=1\/w=2\/w=3\/w=4\/w=5:=by omega
   rcases h with rfl | rfl | rfl | rfl | rfl | rfl <;> simp[kL,Pf.tl,wy] <;> omega
theorem Oo (six:Bool){w:Int}(h0:0<=w)(h1:w < wy six)(p:Int×Int):∀ n:Nat,kL six ((w+n) % wy six) (tn six n p)=kL six w p
 | 0=>by
   show kL six ((w+0) % wy six) p=_
   rw[Int.add_zero,Int.emod_eq_of_lt h0 h1]
 | n+1=>by
   have hp:=f7 six
   have a:=Int.emod_nonneg (w+n) (Int.ne_of_gt hp)
   have b:=Int.emod_lt_of_pos (w+n) hp
   show kL six ((w+((n+1:Nat):Int)) % wy six) (Pf.tl six (tn six n p))=_
   rw[<- Oo six h0 h1 p n,<- UM six a b]
   congr 1
   rw[Int.emod_add_emod]
   congr 1
   push_cast
   omega
theorem JK (six:Bool){w:Int}(h0:0<=w)(h1:w < wy six)(b:Int)(p:Int×Int):kL six ((w+b) % wy six) (tn six (b % wy six).toNat p)=kL six w p:=by
 have a:=Int.emod_nonneg b (Int.ne_of_gt (f7 six))
 have e:((((b % wy six).toNat:Nat):Int))=b % wy six:=by omega
 have:=Oo six h0 h1 p (b % wy six).toNat
 rw[e,Int.add_emod_emod] at this
 exact this
noncomputable def MR (t:dY)(six:Bool):Rl:=fun ds r=>∃ z p,ds=[.obj (t.pc six) [],.int z,sp p]/\(0<=z/\z < wy six)/\r=.ret (.int (kL six z p))
theorem Yp {z:Int}(p:Int×Int)(h0:0<=z)(h1:z < 4):o7 [Dt.int p.1,Dt.int p.2,Dt.int (-p.1),Dt.int (-p.2)] z=some (Dt.int (kL false z p)):=by
 have h:z=0\/z=1\/z=2\/z=3:=by omega
 rcases h with rfl | rfl | rfl | rfl <;> rfl
theorem Yq {z:Int}(p:Int×Int)(h0:0<=z)(h1:z < 6):o7 [Dt.int (2 * p.1+p.2),Dt.int (p.1+2 * p.2),Dt.int (p.2 - p.1),Dt.int (-2 * p.1 - p.2),Dt.int (-p.1 - 2 * p.2),Dt.int (p.1 - p.2)] z=some (Dt.int (kL true z p)):=by
 have h:z=0\/z=1\/z=2\/z=3\/z=4\/z=5:=by omega
 rcases h with rfl | rfl | rfl | rfl | rfl | rfl <;> rfl
theorem mod_lt {z m:Int}(h0:0<=z)(h1:z < m):z % m=z:=Int.emod_eq_of_lt h0 h1
theorem BJ (T:Txt K mg t)(six:Bool):MF P w K mg base CX 3 (t.pc six) "along" 3 (MR t six):=by
 have rC:=lC (P:=P) (w:=w) (base:=base) T six
 cases six with
 | false=>
   refine⟨T.jM.cl,_,_,_,i6 T.iO.F jL rfl fun bf A outer s H E G ds r hr hl hR=>?_,T.d0,T.iO.b⟩
   obtain⟨z,p,rfl,⟨h0,h1⟩,rfl⟩:=hR
   exact⟨_,.rt _,(ah (au 3 jL.nd (aI (aa 2 rfl) aj rfl))
 (ah (au 4 jL.nd (aI (aa 2 rfl) aj rfl))
 (ao (aF (aI (cY (ae (aa 3 rfl) (ae (aa 4 rfl) (ae (mX (aa 3 rfl)) (ae (mX (aa 4 rfl)) ai)))) AA3) (aQ (aa 0 rfl) rC aA hr (ae (aa 1 rfl) ai) ⟨z,rfl,rfl⟩) (by rw[mod_lt h0 h1];exact Yp p h0 h1))))))⟩
 | true=>
   refine⟨T.nI.cl,_,_,_,i6 T.j7.F lO rfl fun bf A outer s H E G ds r hr hl hR=>?_,T.gB,T.j7.b⟩
   obtain⟨z,p,rfl,⟨h0,h1⟩,rfl⟩:=hR
   exact⟨_,.rt _,(ah (au 3 lO.nd (aI (aa 2 rfl) aj rfl))
 (ah (au 4 lO.nd (aI (aa 2 rfl) aj rfl))
 (ao (aF (aI (cY (ae (aT (ja aj (aa 3 rfl) (uX.ok (Or.inl ⟨by decide,by decide⟩))) (aa 4 rfl)) (ae (aT (aa 3 rfl) (ja aj (aa 4 rfl) (uX.ok (Or.inl ⟨by decide,by decide⟩)))) (ae (lF (aa 4 rfl) (aa 3 rfl)) (ae (lF (ja (mX aj) (aa 3 rfl) (uX.ok (Or.inl ⟨by decide,by decide⟩))) (aa 4 rfl)) (ae (lF (mX (aa 3 rfl)) (ja aj (aa 4 rfl) (uX.ok (Or.inl ⟨by decide,by decide⟩)))) (ae (lF (aa 3 rfl) (aa 4 rfl)) ai)))))) AA3) (aQ (aa 0 rfl) rC aA hr (ae (aa 1 rfl) ai) ⟨z,rfl,rfl⟩) (by rw[mod_lt h0 h1];exact Yq p h0 h1))))))⟩
noncomputable def ad (p q:Int×Int):Int×Int:=(p.1+q.1,p.2+q.2)
noncomputable def MS:Rl:=fun ds r=>∃ p q,ds=[sp p,sp q]/\r=.ret (sp (ad p q))
noncomputable def JL:List Str:=["stroke","step"]
noncomputable def b5 (d:Str):Int:=if d="left" then 1 else if d="right" then -1 else 0
noncomputable def uM (six:Bool)(d:Str)(p:Int×Int)(w:Int):(Int×Int)×Int:=(if d∈JL then ad p (tn six (w % wy six).toNat (1,0)) else p,(w+b5 d) % wy six)
noncomputable def MT:Rl:=fun ds r=>∃ d:Str,ds=[.str d]/\r=.ret (.int (b5 d))
noncomputable def Q2 (t:dY)(six:Bool):Rl:=fun ds r=>∃ w,ds=[.obj (t.pc six) [],.int w]/\r=.ret (sp (tn six (w % wy six).toNat (1,0)))
noncomputable def MU (t:dY)(six:Bool):Rl:=fun ds r=>∃ d p w,ds=[.obj (t.pc six) [],.str d,sp p,.int w]/\d∈qk/\r=.ret (.tup [sp (uM six d p w).1,.int (uM six d p w).2])
theorem BK (T:Txt K mg t):GF P w K mg base CX 1 "added" 2 MS:=by
 refine⟨_,_,_,i6 T.pJ.F Ji rfl fun bf A outer s H E G ds r hr hl hR=>?_,(T.g T.pJ.a),T.pJ.F.kp,T.pJ.b⟩
 obtain⟨p,q,rfl,rfl⟩:=hR
 exact⟨_,.rt _,(ao (aF (cY (ae (aT (aI (aa 0 rfl) aj rfl) (aI (aa 1 rfl) aj rfl)) (ae (aT (aI (aa 0 rfl) aj rfl) (aI (aa 1 rfl) aj rfl)) ai)) AA3)))⟩
theorem BL (T:Txt K mg t):GF P w K mg base CX 1 "turn_of_deed" 1 MT:=by
 refine⟨_,_,_,i6 T.e9.F tS rfl fun bf A outer s H E G ds r hr hl hR=>?_,(T.g T.e9.a),T.e9.F.kp,T.e9.b⟩
 obtain⟨d,rfl,rfl⟩:=hR
 by_cases c0:d="left"
 . rw[show b5 d=1 from if_pos c0]
   exact⟨_,.rt _,ug (cb (mY (aa 0 rfl) cN) (fun h=>ao (aF aj)) (fun h=>absurd c0 (of_decide_eq_false h)))⟩
 by_cases c1:d="right"
 . rw[show b5 d=-1 by unfold b5;rw[if_neg c0,if_pos c1]]
   exact⟨_,.rt _,ah (cb (mY (aa 0 rfl) cN) (fun h=>absurd (of_decide_eq_true h) c0) (fun h=>cg)) (ug (cb (mY (aa 0 rfl) cN) (fun h=>ao (aF (mX aj))) (fun h=>absurd c1 (of_decide_eq_false h))))⟩
 . rw[show b5 d=0 by unfold b5;rw[if_neg c0,if_neg c1]]
   exact⟨_,.rt _,ah (cb (mY (aa 0 rfl) cN) (fun h=>absurd (of_decide_eq_true h) c0) (fun h=>cg)) (ah (cb (mY (aa 0 rfl) cN) (fun h=>absurd (of_decide_eq_true h) c1) (fun h=>cg)) (ao (aF aj)))⟩
theorem MV (T:Txt K mg t)(six:Bool):MF P w K mg base CX 4 (t.pc six) "step" 2 (Q2 t six):=by
 refine⟨EL T six,_,_,_,i6 T.nK.F Bv rfl fun bf A outer s H E G ds r hr hl hR=>?_,EK T.hV T.ju,T.nK.b⟩
 obtain⟨z,rfl,rfl⟩:=hR
 have h1:=yj (P:=P) (w:=w) (base:=base) T six
 exact⟨_,.rt _,ao (aF (aQ (aa 0 rfl) h1 aA hr (ae (cY (ae aj (ae aj ai)) AA3) (ae (aa 1 rfl) ai)) ⟨(1,0),z,rfl,rfl⟩))⟩
theorem JM (T:Txt K mg t)(six:Bool):MF P w K mg base CX 5 (t.pc six) "after" 4 (MU t six):=by
 refine⟨EL T six,_,_,_,i6 T.l9.F rb rfl fun bf A outer s H E G ds r hr hl hR=>?_,EK T.gA T.iZ,T.l9.b⟩
 obtain⟨d,p,z,rfl,hd,rfl⟩:=hR
 have h1:=MV (P:=P) (w:=w) (base:=base) T six
 have h2:=BK (P:=P) (w:=w) (base:=base) T
 have h3:=BL (P:=P) (w:=w) (base:=base) T
 have h4:=lC (P:=P) (w:=w) (base:=base) T six
 by_cases c:d∈JL
 . rw[show uM six d p z=(ad p (tn six (z % wy six).toNat (1,0)),(z+b5 d) % wy six) by unfold uM;rw[if_pos c]]
   exact⟨_,.rt _,(ah (cb (yW (xs:=qk) (aa 1 rfl) (jS (w:=.ref t.k9) T.zL rfl T.zM)) (fun h=>absurd h (by simp[hd])) (fun h=>cg))
 (ah (cb (CK (xs:=JL) (aa 1 rfl) (jS (w:=.ref t.da) T.qi rfl T.qj)) (fun h=>
     (ao (au 2 rb.nd (b0 h2 aA hr (ae (aa 2 rfl) (ae (aQ (aa 0 rfl) h1 aA hr (ae (aa 3 rfl) ai) ⟨_,rfl,rfl⟩) ai)) ⟨_,_,rfl,rfl⟩)))) (fun h=>absurd c (of_decide_eq_false h)))
 (ao (aF (cY (ae (aa 2 rfl) (ae (aQ (aa 0 rfl) h4 aA hr (ae (aT (aa 3 rfl) (b0 h3 aA hr (ae (aa 1 rfl) ai) ⟨_,rfl,rfl⟩)) ai) ⟨_,rfl,rfl⟩) ai)) AA3)))))⟩
 . rw[show uM six d p z=(p,(z+b5 d) % wy six) by unfold uM;rw[if_neg c]]
   exact⟨_,.rt _,(ah (cb (yW (xs:=qk) (aa 1 rfl) (jS (w:=.ref t.k9) T.zL rfl T.zM)) (fun h=>absurd h (by simp[hd])) (fun h=>cg))
 (ah (cb (CK (xs:=JL) (aa 1 rfl) (jS (w:=.ref t.da) T.qi rfl T.qj)) (fun h=>absurd (of_decide_eq_true h) c) (fun h=>cg))
 (ao (aF (cY (ae (aa 2 rfl) (ae (aQ (aa 0 rfl) h4 aA hr (ae (aT (aa 3 rfl) (b0 h3 aA hr (ae (aa 1 rfl) ai) ⟨_,rfl,rfl⟩)) ai) ⟨_,rfl,rfl⟩) ai)) AA3)))))⟩
noncomputable def sm (p:Int×Int):Prop:=p.1.natAbs < 2 ^ 1000/\p.2.natAbs < 2 ^ 1000
noncomputable def cr (p q:Int×Int):Int:=p.1 * q.2 - p.2 * q.1
noncomputable def MW:Rl:=fun ds r=>∃ p q,ds=[sp p,sp q]/\(sm p/\sm q)/\r=.ret (.int (cr p q))
theorem JN (T:Txt K mg t):GF P w K mg base CX 1 "cross" 2 MW:=by
 refine⟨_,_,_,i6 T.pK.F Jj rfl fun bf A outer s H E G ds r hr hl hR=>?_,(T.g T.pK.a),T.pK.F.kp,T.pK.b⟩
 obtain⟨p,q,rfl,⟨hp,hq⟩,rfl⟩:=hR
 exact⟨_,.rt _,(ao (aF (lF (ja (aI (aa 0 rfl) aj rfl) (aI (aa 1 rfl) aj rfl) (BI hp.1 hq.2 (by decide))) (ja (aI (aa 0 rfl) aj rfl) (aI (aa 1 rfl) aj rfl) (BI hp.2 hq.1 (by decide))))))⟩
structure Tr where
 many:Int
 turn:Int
 shift:Int×Int
 fH:Int
 reach:List Int
 cL:List Int
 lU:Int
noncomputable def dY.Yr (t:dY)(six:Bool)(x:Tr):List (Str×FD):=[("drawer",.obj (t.pc six) []),("deed_count",.int x.many),("last_way",.int x.turn),("last_spot",.tup t.K [x.shift.1,x.shift.2]),("stroke_count",.int x.fH),("reaches",.lst x.reach),("touches",.lst x.cL),("crosses",.int x.lU)]
noncomputable def dY.lV (t:dY)(six:Bool)(x:Tr):List (Str×Dt):=[("drawer",.i9 (.obj (t.pc six) [])),("deed_count",.int x.many),("last_way",.int x.turn),("last_spot",.i9 (.tup t.K [x.shift.1,x.shift.2])),("stroke_count",.int x.fH),("reaches",.i9 (.lst x.reach)),("touches",.i9 (.lst x.cL)),("crosses",.int x.lU)]
noncomputable def dY.EM (t:dY)(six:Bool)(x:Tr):Dt:=.obj t.ay (t.lV six x)
noncomputable def dY.ql (t:dY)(six:Bool)(x:Tr):Dt:=.i9 (.obj t.ay (t.Yr six x))
theorem oZ {X:Cx}{G:Gr}{dl:List Slot}{e:Expr}{t:dY}{six:Bool}{x:Tr}(h:EE X G dl e (t.ql six x)):EE X G dl e (t.EM six x):=Om h
theorem Dg {X:Cx}{G:Gr}{dl:List Slot}{e:Expr}{t:dY}{six:Bool}{x:Tr}(h:EO X G dl e (.obj t.ay (t.lV six x))):EE X G dl e (t.ql six x):=Jg (fs:=t.Yr six x) h
theorem kG {X:Cx}{G:Gr}{dl:List Slot}{e:Expr}{t:dY}{six:Bool}(h:EE X G dl e (.i9 (.obj (t.pc six) []))):EE X G dl e (.obj (t.pc six) []):=Om h
theorem v8 {X:Cx}{G:Gr}{dl:List Slot}{e:Expr}{K':W.Frag}{p:Int×Int}(hK:K'=X.K)(h:EE X G dl e (.i9 (.tup K' [p.1,p.2]))):EE X G dl e (sp p):=QI h hK
theorem Dh {X:Cx}{G:Gr}{dl:List Slot}{e:Expr}{K':W.Frag}{p:Int×Int}(hK:K'=X.K)(h:EE X G dl e (sp p)):EE X G dl e (.i9 (.tup K' [p.1,p.2])):=QJ (ns:=[p.1,p.2]) h hK
noncomputable def wn (six:Bool):Nat:=if six then 6 else 4
theorem yk (six:Bool):(wn six:Int)=wy six:=by cases six <;> rfl
noncomputable def qI (six:Bool)(ns:List Int)(f:Int):List Int:=(List.range (wn six)).map fun(w:Nat)=>ns.getD (((w:Int) - f) % wy six).toNat 0
noncomputable def xy (six:Bool)(x y:Tr)(w:Nat):Int:=if (qI six y.reach x.turn).getD w 0+kL six w x.shift<=x.reach.getD w 0 then x.reach.getD w 0 else (qI six y.reach x.turn).getD w 0+kL six w x.shift
noncomputable def zQ (six:Bool)(x y:Tr)(w:Nat):Int:=if (qI six y.reach x.turn).getD w 0+kL six w x.shift<=x.reach.getD w 0 then x.cL.getD w 0 else (qI six y.cL x.turn).getD w 0+x.many
noncomputable def jn (six:Bool)(x y:Tr):Tr where
 many:=x.many+y.many
 turn:=(x.turn+y.turn) % wy six
 shift:=ad x.shift (tn six (x.turn % wy six).toNat y.shift)
 fH:=x.fH+y.fH
 reach:=(List.range (wn six)).map (xy six x y)
 cL:=(List.range (wn six)).map (zQ six x y)
 lU:=x.lU+y.lU+cr x.shift (tn six (x.turn % wy six).toNat y.shift)
noncomputable def BM (six:Bool):Tr:=⟨0,0,(0,0),0,List.replicate (wn six) 0,List.replicate (wn six) 0,0⟩
noncomputable def one (six:Bool)(d:Str):Tr:=⟨1,(uM six d (0,0) 0).2,(uM six d (0,0) 0).1,if d="stroke" then 1 else 0,(List.range (wn six)).map fun(w:Nat)=>if kL six w (uM six d (0,0) 0).1 > 0 then kL six w (uM six d (0,0) 0).1 else 0,
 (List.range (wn six)).map fun(w:Nat)=>if (if kL six w (uM six d (0,0) 0).1 > 0 then kL six w (uM six d (0,0) 0).1 else 0) < 1 then (if kL six w (uM six d (0,0) 0).1 > 0 then kL six w (uM six d (0,0) 0).1 else 0) else 1,0⟩
noncomputable def cw (six:Bool)(ds:List Str):Tr:=ds.foldl (fun x d=>jn six x (one six d)) (BM six)
structure WF (six:Bool)(x:Tr):Prop where
 rl:x.reach.length=wn six
 tl:x.cL.length=wn six
 sm:x.shift.1.natAbs < 2 ^ 990/\x.shift.2.natAbs < 2 ^ 990
noncomputable def Q3 (t:dY):Rl:=fun ds r=>∃ six x,ds=[.i9 (.obj (t.pc six) []),.int x.many,.int x.turn,.i9 (.tup t.K [x.shift.1,x.shift.2]),.int x.fH,.i9 (.lst x.reach),.i9 (.lst x.cL),.int x.lU]/\r=.own (.obj t.ay (t.lV six x))
noncomputable def EN (t:dY)(f:Tr->Dt):Rl:=fun ds r=>∃ six x,ds=[t.EM six x]/\r=.ret (f x)
noncomputable def zR (t:dY):Rl:=fun ds r=>∃ six x f,ds=[t.EM six x,.int f]/\r=.ret (sp (tn six (f % wy six).toNat x.shift))
noncomputable def UN (t:dY):Rl:=fun ds r=>∃ six x ns f,ds=[t.EM six x,.ow ns,.int f]/\ns.length=wn six/\r=.own (.lst ((qI six ns f).map .int))
noncomputable def ER (t:dY):Rl:=fun ds r=>∃ six x f,ds=[t.EM six x,.int f]/\WF six x/\r=.own (.lst ((qI six x.reach f).map .int))
noncomputable def ET (t:dY):Rl:=fun ds r=>∃ six x f,ds=[t.EM six x,.int f]/\WF six x/\r=.own (.lst ((qI six x.cL f).map .int))
noncomputable def JO (t:dY):Rl:=fun ds r=>∃ six x y,ds=[t.EM six x,t.EM six y]/\(WF six x/\WF six y)/\r=.ret (t.ql six (jn six x y))
noncomputable def MX (t:dY):Rl:=fun ds r=>∃ six,ds=[.i9 (.obj (t.pc six) [])]/\r=.ret (t.ql six (BM six))
noncomputable def Gs (t:dY):Rl:=fun ds r=>∃ six d,ds=[.i9 (.obj (t.pc six) []),.str d]/\d∈qk/\r=.ret (t.ql six (one six d))
noncomputable def Di (t:dY):Rl:=fun ds r=>∃ (six:Bool) (xs:List Str),ds=[.i9 (.obj (t.pc six) []),.lst (xs.map .str)]/\(∀ d∈xs,d∈qk)/\xs.length<=1000/\r=.ret (t.ql six (cw six xs))
theorem zS (T:Txt K mg t):R3 P w K mg base CX 1 "Track" t.ay 9 (Q3 t):=by
 refine⟨_,_,_,VI T.lj.F xa rfl fun bf A outer s H E G z ds r hr hl hR=>?_,T.vV,(T.g T.aC.a),T.lj.b⟩
 obtain⟨six,x,rfl,rfl⟩:=hR
 exact⟨_,.nx rfl,ah (kz (aa 1 rfl) T.aC.cl T.dN) (ah (kz (aa 2 rfl) T.aC.cl T.bu) (ah (kz (aa 3 rfl) T.aC.cl T.bx) (ah (kz (aa 4 rfl) T.aC.cl T.aW)
   (ah (kz (aa 5 rfl) T.aC.cl T.cf) (ah (kz (aa 6 rfl) T.aC.cl T.cn) (ah (kz (aa 7 rfl) T.aC.cl T.eZ) (ao (kz (aa 8 rfl) T.aC.cl T.e6))))))))⟩
theorem MY (T:Txt K mg t):MF P w K mg base CX 1 t.ay "many" 1 (EN t fun x=>.int x.many):=by
 refine⟨T.aC.cl,_,_,_,i6 T.ll.F xb rfl fun bf A outer s H E G ds r hr hl hR=>?_,T.hZ,T.ll.b⟩
 obtain⟨six,x,rfl,rfl⟩:=hR
 exact⟨_,.rt _,ao (aF (aD (fs:=t.lV six x) (aa 0 rfl) T.aC.cl T.bu rfl))⟩
theorem zT (T:Txt K mg t):MF P w K mg base CX 1 t.ay "turn" 1 (EN t fun x=>.int x.turn):=by
 refine⟨T.aC.cl,_,_,_,i6 T.lq.F xc rfl fun bf A outer s H E G ds r hr hl hR=>?_,T.ia,T.lq.b⟩
 obtain⟨six,x,rfl,rfl⟩:=hR
 exact⟨_,.rt _,ao (aF (aD (fs:=t.lV six x) (aa 0 rfl) T.aC.cl T.bx rfl))⟩
theorem Dj (T:Txt K mg t):MF P w K mg base CX 1 t.ay "strokes" 1 (EN t fun x=>.int x.fH):=by
 refine⟨T.aC.cl,_,_,_,i6 T.iP.F sG rfl fun bf A outer s H E G ds r hr hl hR=>?_,T.fw,T.iP.b⟩
 obtain⟨six,x,rfl,rfl⟩:=hR
 exact⟨_,.rt _,ao (aF (aD (fs:=t.lV six x) (aa 0 rfl) T.aC.cl T.cf rfl))⟩
theorem MZ (T:Txt K mg t):MF P w K mg base CX 1 t.ay "area" 1 (EN t fun x=>.int x.lU):=by
 refine⟨T.aC.cl,_,_,_,i6 T.lr.F xj rfl fun bf A outer s H E G ds r hr hl hR=>?_,T.ib,T.lr.b⟩
 obtain⟨six,x,rfl,rfl⟩:=hR
 exact⟨_,.rt _,ao (aF (aD (fs:=t.lV six x) (aa 0 rfl) T.aC.cl T.e6 rfl))⟩
theorem BN (T:Txt K mg t):ke P w K mg base CX 4 t.cB t.jW ["self","first"] (D3 K 2 (zR t)):=by
 refine VH T.xn vK rfl fun bf A outer s H E G ds r hr hl hR=>?_
 obtain⟨six,x,f,rfl,rfl⟩:=hR
 have h1:=yj (P:=P) (w:=w) (base:=base) T six
 exact⟨_,.rt _,ao (aF (aQ (kG (aD (fs:=t.lV six x) (aa 0 rfl) T.aC.cl T.dN rfl)) h1 aA hr (ae (v8 T.hK (aD (fs:=t.lV six x) (aa 0 rfl) T.aC.cl T.aW rfl)) (ae (aa 1 rfl) ai)) ⟨_,_,rfl,rfl⟩))⟩
theorem rep0 {K:W.Frag}:∀ H,bD K H [.int 0] [.int 0]:=fun _=>.cons (.int 0) .nil
theorem JP (T:Txt K mg t):LY P w K mg base CX 4 t.ay "shift" 2 [] (zR t):=⟨T.aC.cl,_,_,_,[],[],BN T,T.dU,T.xp,.nil,fun _=>.nil⟩
theorem Gu (T:Txt K mg t):LY P w K mg base CX 4 t.ay "shift" 2 [.int 0] (zR t):=⟨T.aC.cl,_,_,_,_,[.int 0],BN T,T.dU,T.vX,.cons ⟨_,rfl⟩ .nil,rep0⟩
noncomputable abbrev Dl:Scope:=PX ((aB fN).getD 0 (.Pass ⟨0,0,0,0⟩))
theorem Dm:vv Dl (af fN) nV ["way","self","numbers","first"] [0,1,2] "way"=true:=by decide +kernel
theorem v9 {ns:List Int}{k:Int}(h0:0<=k)(h1:k < ns.length):o7 ns k=some (ns.getD k.toNat 0):=by
 obtain⟨n,rfl⟩:=Int.eq_ofNat_of_zero_le h0
 refine mU ?_
 have h:n < ns.length:=by omega
 rw[List.getElem?_eq_getElem h,Int.toNat_natCast,List.getD_eq_getElem?_getD,List.getElem?_eq_getElem h];rfl
theorem pQ {f:Nat->Int}{n k:Nat}(h:k < n):(((List.range n).map f).map Dt.int).getD k .c9=.int (f k):=by
 rw[List.getD_eq_getElem?_getD,List.getElem?_map,List.getElem?_map,List.getElem?_range h];rfl
theorem wa (T:Txt K mg t):MF P w K mg base CX 3 t.ay "by_ways" 3 (UN t):=by
 refine⟨T.aC.cl,_,_,_,i6 T.iQ.F sH rfl fun bf A outer s H E G ds r hr hl hR=>?_,T.fz,T.iQ.b⟩
 obtain⟨six,x,ns,f,rfl,hn,rfl⟩:=hR
 have h1:=lC (P:=P) (w:=w) (base:=base) T six
 have hw:=yk six
 have hw6:wn six<=6:=by cases six <;> decide
 have RT:ns.length=wn six:=hn
 refine⟨_,.ro _,ao (l2 (TN (N:=["way","self","numbers","first"]) (ix:=[0,1,2]) rfl (CJ Dm) (rQ rfl T.j9 (ae (yN T.jE (aa 1 rfl)) ai)) (vp ?_) (fun k hk C fp s' H' G'=>?_) ?_ ?_))⟩
 . omega
 . rw[Int.toNat_natCast,RT] at hk
   have e:((qI six ns f).map Dt.int).getD k .c9=.int (ns.getD (((k:Int) - f) % wy six).toNat 0):=pQ hk
   rw[e]
   have HK:=Int.emod_nonneg ((k:Int) - f) (Int.ne_of_gt (f7 six))
   have ZA:=Int.emod_lt_of_pos ((k:Int) - f) (f7 six)
   exact r0 (aa 2 rfl) (aQ (kG (aD (fs:=t.lV six x) (aa 1 rfl) T.aC.cl T.dN rfl)) h1 aA hr (ae (lF (aa 0 rfl) (aa 3 rfl)) ai) ⟨_,rfl,rfl⟩) (v9 HK (by omega))
 . rw[List.length_map,Int.toNat_natCast,RT]
   unfold qI
   simp
 . rw[Int.toNat_natCast]
   exact Nat.le_of_lt (rX (by omega))
theorem JQ (T:Txt K mg t):ke P w K mg base CX 4 t.cC t.jX ["self","first"] (D3 K 2 (ER t)):=by
 refine VH T.xq vL rfl fun bf A outer s H E G ds r hr hl hR=>?_
 obtain⟨six,x,f,rfl,hw,rfl⟩:=hR
 have h1:=Ie (wa (P:=P) (w:=w) (base:=base) T)
 exact⟨_,.ro _,ao (l2 (vt (fs:=t.lV six x) (aa 0 rfl) h1 aA hr (ae (qu (aD (fs:=t.lV six x) (aa 0 rfl) T.aC.cl T.cn rfl)) (ae (aa 1 rfl) ai)) ⟨six,x,_,_,rfl,hw.rl,rfl⟩))⟩
theorem JR (T:Txt K mg t):ke P w K mg base CX 4 t.cD t.jY ["self","first"] (D3 K 2 (ET t)):=by
 refine VH T.xv vM rfl fun bf A outer s H E G ds r hr hl hR=>?_
 obtain⟨six,x,f,rfl,hw,rfl⟩:=hR
 have h1:=Ie (wa (P:=P) (w:=w) (base:=base) T)
 exact⟨_,.ro _,ao (l2 (vt (fs:=t.lV six x) (aa 0 rfl) h1 aA hr (ae (qu (aD (fs:=t.lV six x) (aa 0 rfl) T.aC.cl T.eZ rfl)) (ae (aa 1 rfl) ai)) ⟨six,x,_,_,rfl,hw.tl,rfl⟩))⟩
theorem JS (T:Txt K mg t):LY P w K mg base CX 4 t.ay "reach" 2 [] (ER t):=⟨T.aC.cl,_,_,_,[],[],JQ T,T.gC,T.xu,.nil,fun _=>.nil⟩
theorem JT (T:Txt K mg t):LY P w K mg base CX 4 t.ay "touch" 2 [] (ET t):=⟨T.aC.cl,_,_,_,[],[],JR T,T.gD,T.xw,.nil,fun _=>.nil⟩
theorem BO (T:Txt K mg t):GF P w K mg base CX 3 "still" 1 (MX t):=by
 refine⟨_,_,_,i6 T.pL.F Jm rfl fun bf A outer s H E G ds r hr hl hR=>?_,(T.g T.pL.a),T.pL.F.kp,T.pL.b⟩
 obtain⟨six,rfl,rfl⟩:=hR
 have h1:=uL (P:=P) (w:=w) (base:=base) T six
 have h2:=zS (P:=P) (w:=w) (base:=base) T
 have e:∀ {X:Cx} {G:Gr} {dl:List Slot} {e:Expr},EO X G dl e (.lst (List.replicate (wy six).toNat [Dt.int 0]).flatten)->EE X G dl e (.i9 (.lst (List.replicate (wn six) (0:Int)))):=fun h=>by
   refine QK (D8 h ?_)
   cases six <;> rfl
 have hb:-(2 ^ 63)<=wy six/\wy six < 2 ^ 63/\[Dt.int 0].length * (wy six).toNat<=sizeLine:=by cases six <;> decide
 exact⟨_,.rt _,ao (aF (Dg (qV h2 aA hr (ae (aa 0 rfl) (ae aj (ae aj (ae (Dh (p:=(0,0)) T.hK (cY (ae aj (ae aj ai)) AA3)) (ae aj
   (ae (e (HV (HG (ae aj ai) AA3) (cj (kG (aa 0 rfl)) h1 aA hr ⟨rfl,rfl⟩) hb.1 hb.2.1 hb.2.2)) (ae (e (HV (HG (ae aj ai) AA3) (cj (kG (aa 0 rfl)) h1 aA hr ⟨rfl,rfl⟩) hb.1 hb.2.1 hb.2.2)) (ae aj ai)))))))) ⟨six,BM six,rfl,rfl⟩)))⟩
noncomputable abbrev Q4:Scope:=PX ((aB cP).getD 2 (.Pass ⟨0,0,0,0⟩))
noncomputable abbrev Q5:Scope:=PX ((aB cP).getD 3 (.Pass ⟨0,0,0,0⟩))
theorem Q6:vv Q4 (af cP) kE ["way","pen","spot"] [0,3] "way"=true:=by decide +kernel
theorem Q7:vv Q5 (af cP) kE ["reach"] [] "reach"=true:=by decide +kernel
noncomputable def nM (six:Bool)(d:Str)(w:Nat):Int:=if kL six w (uM six d (0,0) 0).1 > 0 then kL six w (uM six d (0,0) 0).1 else 0
theorem Dn (T:Txt K mg t):GF P w K mg base CX 6 "track_of_deed" 2 (Gs t):=by
 refine⟨_,_,_,i6 T.dO.F mH rfl fun bf A outer s H E G ds r hr hl hR=>?_,(T.g T.dO.a),T.dO.F.kp,T.dO.b⟩
 obtain⟨six,d,rfl,hd,rfl⟩:=hR
 have h1:=uL (P:=P) (w:=w) (base:=base) T six
 have h2:=zS (P:=P) (w:=w) (base:=base) T
 have h3:=JM (P:=P) (w:=w) (base:=base) T six
 have h4:=BJ (P:=P) (w:=w) (base:=base) T six
 have hw:=yk six
 have hw6:wn six<=6:=by cases six <;> decide
 have UO:(wy six).toNat=wn six:=by omega
 have nd:=mH.nd
 refine⟨_,.rt _,ah (au 2 nd (aQ (kG (aa 0 rfl)) h3 aA hr (ae (aa 1 rfl) (ae (cY (ae aj (ae aj ai)) AA3) (ae aj ai))) ⟨d,(0,0),0,rfl,hd,rfl⟩)) (ah (au 3 nd (aI (aa 2 rfl) aj rfl))
   (ah (N4 (ys:=((List.range (wn six)).map (nM six d)).map .int) 4 (N:=["way","pen","spot"]) (ix:=[0,3]) rfl nd (CJ Q6) (rQ rfl T.j9 (ae (cj (kG (aa 0 rfl)) h1 aA hr ⟨rfl,rfl⟩) ai)) (vp ?_) (fun k hk C fp s' H' G'=>?_) ?_ ?_)
   (uv (ns:=(List.range (wn six)).map (nM six d)) 4 (ah (N4 (ys:=((List.range (wn six)).map (fun k=>if nM six d k < 1 then nM six d k else 1)).map .int) 5 (N:=["reach"]) (ix:=[]) rfl nd (CJ Q7) (gb (qu (aa 4 rfl))) Ms (fun k hk C fp s' H' G'=>?_) ?_ ?_)
   (uv (ns:=(List.range (wn six)).map fun k=>if nM six d k < 1 then nM six d k else 1) 5 (ao (aF (Dg (qV h2 aA hr (ae (aa 0 rfl) (ae aj (ae (aI (aa 2 rfl) aj rfl) (ae (Dh T.hK (aa 3 rfl)) (ae (aR (d:=.int (if d="stroke" then 1 else 0)) ?_ rfl) (ae (aa 4 rfl) (ae (aa 5 rfl) (ae aj ai)))))))) ⟨six,one six d,rfl,rfl⟩)))))))))⟩
 . omega
 . rw[UO] at hk
   rw[pQ hk]
   exact PR T.Jt rfl (ae aj (ae (aQ (kG (aa 1 rfl)) h4 aA hr (ae (aa 0 rfl) (ae (aa 2 rfl) ai)) ⟨_,_,rfl,⟨by omega,by omega⟩,rfl⟩) ai))
 . rw[List.length_map,List.length_map,List.length_range,UO]
 . rw[UO];exact Nat.le_of_lt (rX (by omega))
 . rw[List.length_map,List.length_range] at hk
   rw[show(((List.range (wn six)).map (fun k=>if nM six d k < 1 then nM six d k else 1)).map Dt.int).getD k .c9=.int (if nM six d k < 1 then nM six d k else 1) from pQ hk]
   have e:((List.map (nM six d) (List.range (wn six))).map Dt.int).getD k .c9=.int (nM six d k):=pQ hk
   refine HW (i:=1) (j:=nM six d k) T.Ez rfl (ae aj (ae ?_ ai))
   rw[<- e]
   exact aa 0 rfl
 . simp
 . rw[List.length_map,List.length_range];exact Nat.le_of_lt (rX (by omega))
 . exact PD (mY (aa 1 rfl) cN) (fun h=>aR aj (by rw[if_pos (of_decide_eq_true h)])) (fun h=>aR aj (by rw[if_neg (of_decide_eq_false h)]))
theorem uN {f g:Nat->Int}{n k:Nat}(h:k < n):((List.range n).map fun w=>if w < k then f w else g w).set k (f k)=(List.range n).map fun w=>if w < k+1 then f w else g w:=by
 refine List.ext_getElem? fun i=>?_
 by_cases hi:i < n
 . by_cases e:k=i
   . subst e
     rw[List.getElem?_set_self (by simp;exact h),List.getElem?_map,List.getElem?_range h]
     simp
   . rw[List.getElem?_set_ne e,List.getElem?_map,List.getElem?_map,List.getElem?_range hi]
     have:(i < k+1) ↔ (i < k):=by omega
     simp[this]
 . rw[List.getElem?_eq_none (by simp;omega),List.getElem?_eq_none (by simp;omega)]
theorem Oq {f g:Nat->Int}{n:Nat}:((List.range n).map fun w=>if w < 0 then f w else g w)=(List.range n).map g:=by simp
theorem Ot {f g:Nat->Int}{n:Nat}:((List.range n).map fun w=>if w < n then f w else g w)=(List.range n).map f:=by
 refine List.map_congr_left fun i hi=>?_
 rw[if_pos (List.mem_range.mp hi)]
theorem rE {l:List Int}{k:Nat}{z:Int}:(l.map Dt.int).set k (.int z)=(l.set k z).map Dt.int:=by rw[List.map_set]
theorem EU (six:Bool)(ns:List Int)(f:Int):(List.range (wn six)).map (fun w=>(qI six ns f).getD w 0)=qI six ns f:=by
 refine List.ext_getElem? fun i=>?_
 by_cases hi:i < wn six
 . rw[List.getElem?_map,List.getElem?_range hi]
   have hl:i < (qI six ns f).length:=by unfold qI;simpa using hi
   rw[List.getElem?_eq_getElem hl]
   simp[List.getD_eq_getElem?_getD,hl]
 . rw[List.getElem?_eq_none (by simp;omega),List.getElem?_eq_none (by unfold qI;simp;omega)]
theorem M0 {n k:Nat}(h:k < n):Cu n (k:Int)=some k:=by
 unfold Cu
 simp[h]
theorem UP {six:Bool}{b:Int}{p:Int×Int}(h:p.1.natAbs < 2 ^ 990/\p.2.natAbs < 2 ^ 990):sm (tn six (b % wy six).toNat p):=by
 obtain⟨x,y⟩:=p
 obtain⟨h1,h2⟩:=h
 simp only at h1 h2
 unfold sm
 cases six with
 | false=>
   have e:wy false=4:=rfl
   rw[e]
   have h:b % 4=0\/b % 4=1\/b % 4=2\/b % 4=3:=by omega
   rcases h with h | h | h | h <;> rw[h] <;> simp[tn,Pf.tl] <;> omega
 | true=>
   have e:wy true=6:=rfl
   rw[e]
   have h:b % 6=0\/b % 6=1\/b % 6=2\/b % 6=3\/b % 6=4\/b % 6=5:=by omega
   rcases h with h | h | h | h | h | h <;> rw[h] <;> simp[tn,Pf.tl] <;> omega
theorem yl (T:Txt K mg t):MF P w K mg base CX 5 t.ay "joined" 2 (JO t):=by
 refine⟨T.aC.cl,_,_,_,i6 T.jw.F nW rfl fun bf A outer s H E G ds r hr hl hR=>?_,T.fY,T.jw.b⟩
 obtain⟨six,x,y,rfl,⟨wx,Ys⟩,rfl⟩:=hR
 have zU:=JP (P:=P) (w:=w) (base:=base) T
 have M3:=JS (P:=P) (w:=w) (base:=base) T
 have M4:=JT (P:=P) (w:=w) (base:=base) T
 have Q8:=uL (P:=P) (w:=w) (base:=base) T six
 have EV:=BJ (P:=P) (w:=w) (base:=base) T six
 have rC:=lC (P:=P) (w:=w) (base:=base) T six
 have Q9:=MY (P:=P) (w:=w) (base:=base) T
 have nO:=zT (P:=P) (w:=w) (base:=base) T
 have Gv:=Dj (P:=P) (w:=w) (base:=base) T
 have Ra:=MZ (P:=P) (w:=w) (base:=base) T
 have M5:=BK (P:=P) (w:=w) (base:=base) T
 have M6:=JN (P:=P) (w:=w) (base:=base) T
 have Rb:=zS (P:=P) (w:=w) (base:=base) T
 have hw:=yk six
 have UO:(wy six).toNat=wn six:=by omega
 have hw6:wn six<=6:=by cases six <;> decide
 have nd:=nW.nd
 let S:Nat->List Slot:=fun k=>[.val (t.EM six x),.val (t.EM six y),.val (.i9 (.obj (t.pc six) [])),.val (sp (tn six (x.turn % wy six).toNat y.shift)),
   .own (.lst (((List.range (wn six)).map fun w=>if w < k then xy six x y w else (qI six y.reach x.turn).getD w 0).map .int)),
   .own (.lst (((List.range (wn six)).map fun w=>if w < k then zQ six x y w else (qI six y.cL x.turn).getD w 0).map .int)),.aL]
 have e0:S 0=[.val (t.EM six x),.val (t.EM six y),.val (.i9 (.obj (t.pc six) [])),.val (sp (tn six (x.turn % wy six).toNat y.shift)),.own (.lst ((qI six y.reach x.turn).map .int)),.own (.lst ((qI six y.cL x.turn).map .int)),.aL]:=by
   show [_,_,_,_,Slot.own (.lst (((List.range (wn six)).map fun w=>if w < 0 then _ else _).map .int)),Slot.own (.lst (((List.range (wn six)).map fun w=>if w < 0 then _ else _).map .int)),_]=_
   rw[Oq,Oq,EU,EU]
 have en:S (wn six)=[.val (t.EM six x),.val (t.EM six y),.val (.i9 (.obj (t.pc six) [])),.val (sp (tn six (x.turn % wy six).toNat y.shift)),.own (.lst ((jn six x y).reach.map .int)),.own (.lst ((jn six x y).cL.map .int)),.aL]:=by
   show [_,_,_,_,Slot.own (.lst (((List.range (wn six)).map fun w=>if w < wn six then _ else _).map .int)),Slot.own (.lst (((List.range (wn six)).map fun w=>if w < wn six then _ else _).map .int)),_]=_
   rw[Ot,Ot];rfl
 refine⟨_,.rt _,ah (au 2 nd (aD (fs:=t.lV six x) (aa 0 rfl) T.aC.cl T.dN rfl))
   (ah (au 3 nd (Ig (fs:=t.lV six y) (aa 1 rfl) zU aA hr (ae (aD (fs:=t.lV six x) (aa 0 rfl) T.aC.cl T.bx rfl) ai) ⟨six,y,_,rfl,rfl⟩))
   (ah (kN 4 nd (vt (fs:=t.lV six y) (aa 1 rfl) M3 aA hr (ae (aD (fs:=t.lV six x) (aa 0 rfl) T.aC.cl T.bx rfl) ai) ⟨six,y,_,rfl,Ys,rfl⟩))
   (ah (kN 5 nd (vt (fs:=t.lV six y) (aa 1 rfl) M4 aA hr (ae (aD (fs:=t.lV six x) (aa 0 rfl) T.aC.cl T.bx rfl) ai) ⟨six,y,_,rfl,Ys,rfl⟩))
   (ah (lz (m:=wn six) 6 S nd rfl PassesOwn.leaving T.j9 (ae (cj (kG (aa 2 rfl)) Q8 aA hr ⟨rfl,rfl⟩) ai) ⟨by omega,by omega⟩ (by rw[e0];exact Le.of ⟨rfl,rfl,rfl,rfl,rfl,rfl,trivial⟩) (by omega) (fun k hk=>?_) (by rw[UO];exact .all rfl))
   ?_))))⟩
 . have PM:k < ((List.range (wn six)).map fun w=>if w < k then xy six x y w else (qI six y.reach x.turn).getD w 0).length:=by simpa using hk
   have acP:k < ((List.range (wn six)).map fun w=>if w < k then zQ six x y w else (qI six y.cL x.turn).getD w 0).length:=by simpa using hk
   have ga:∀ (f g:Nat->Int) (z:Int),o7 ((((List.range (wn six)).map fun w=>if w < k then f w else g w)).map Dt.int) (k:Int)=some (.int (g k)):=fun f g z=>by
     refine mU ?_
     rw[List.getElem?_map,List.getElem?_map,List.getElem?_range hk]
     simp
   have gs:∀ (l:List Int) (z:Int),l.length=wn six->o7 ((l.map Dt.int).set k (.int z)) (k:Int)=some (.int z):=fun l z hl=>by
     refine mU ?_
     rw[List.getElem?_set_self (by simp;omega)]
   have ix:∀ (l:List Dt),l.length=wn six->Cu l.length (k:Int)=some k:=fun l hl=>M0 (by omega)
   have xr:o7 x.reach (k:Int)=some (x.reach.getD k 0):=by
     have:=v9 (ns:=x.reach) (k:=k) (by omega) (by rw[wx.rl];omega)
     simpa using this
   have xt:o7 x.cL (k:Int)=some (x.cL.getD k 0):=by
     have:=v9 (ns:=x.cL) (k:=k) (by omega) (by rw[wx.tl];omega)
     simpa using this
   have lA:(((List.range (wn six)).map fun w=>if w < k then xy six x y w else (qI six y.reach x.turn).getD w 0).map Dt.int).length=wn six:=by simp
   have lB:(((List.range (wn six)).map fun w=>if w < k then zQ six x y w else (qI six y.cL x.turn).getD w 0).map Dt.int).length=wn six:=by simp
   have lA0:((List.range (wn six)).map fun w=>if w < k then xy six x y w else (qI six y.reach x.turn).getD w 0).length=wn six:=by simp
   have iA:=ix _ lA
   have iB:=ix _ lB
   have iA':∀ z,Cu (List.length (List.set (((List.range (wn six)).map fun w=>if w < k then xy six x y w else (qI six y.reach x.turn).getD w 0).map Dt.int) k z)) (k:Int)=some k:=fun z=>ix _ (by rw[List.length_set];exact lA)
   have iB':∀ z,Cu (List.length (List.set (((List.range (wn six)).map fun w=>if w < k then zQ six x y w else (qI six y.cL x.turn).getD w 0).map Dt.int) k z)) (k:Int)=some k:=fun z=>ix _ (by rw[List.length_set];exact lB)
   by_cases c:(qI six y.reach x.turn).getD k 0+kL six k x.shift<=x.reach.getD k 0
   . have eR:xy six x y k=x.reach.getD k 0:=if_pos c
     have eT:zQ six x y k=x.cL.getD k 0:=if_pos c
     refine .nx (ah (mD (m:=k) 4 (aT (se 4 (aa 6 rfl) (ga _ _ 0)) (aQ (kG (aa 2 rfl)) EV aA hr (ae (aa 6 rfl) (ae (v8 T.hK (aD (fs:=t.lV six x) (aa 0 rfl) T.aC.cl T.aW rfl)) ai)) ⟨_,_,rfl,⟨by omega,by omega⟩,rfl⟩)) (aa 6 rfl) iA)
       (ah (mD (m:=k) 5 (aT (se 5 (aa 6 rfl) (ga _ _ 0)) (aD (fs:=t.lV six x) (aa 0 rfl) T.aC.cl T.bu rfl)) (aa 6 rfl) iB)
       (ao (cb (HM (r0 (qu (aD (fs:=t.lV six x) (aa 0 rfl) T.aC.cl T.cn rfl)) (aa 6 rfl) xr) (se 4 (aa 6 rfl) (gs _ _ lA0)))
         (fun h=>ah (mD (m:=k) 4 (r0 (qu (aD (fs:=t.lV six x) (aa 0 rfl) T.aC.cl T.cn rfl)) (aa 6 rfl) xr) (aa 6 rfl) (iA' _))
           (ao (mD (m:=k) 5 (r0 (qu (aD (fs:=t.lV six x) (aa 0 rfl) T.aC.cl T.eZ rfl)) (aa 6 rfl) xt) (aa 6 rfl) (iB' _))))
         (fun h=>absurd c (of_decide_eq_false h)))))) (Le.of ⟨rfl,rfl,rfl,rfl,?_,?_,trivial⟩)
     . rw[List.set_set,rE,<- eR,uN hk]
     . rw[List.set_set,rE,<- eT,uN hk]
   . have eR:xy six x y k=(qI six y.reach x.turn).getD k 0+kL six k x.shift:=if_neg c
     have eT:zQ six x y k=(qI six y.cL x.turn).getD k 0+x.many:=if_neg c
     refine .nx (ah (mD (m:=k) 4 (aT (se 4 (aa 6 rfl) (ga _ _ 0)) (aQ (kG (aa 2 rfl)) EV aA hr (ae (aa 6 rfl) (ae (v8 T.hK (aD (fs:=t.lV six x) (aa 0 rfl) T.aC.cl T.aW rfl)) ai)) ⟨_,_,rfl,⟨by omega,by omega⟩,rfl⟩)) (aa 6 rfl) iA)
       (ah (mD (m:=k) 5 (aT (se 5 (aa 6 rfl) (ga _ _ 0)) (aD (fs:=t.lV six x) (aa 0 rfl) T.aC.cl T.bu rfl)) (aa 6 rfl) iB)
       (ao (cb (HM (r0 (qu (aD (fs:=t.lV six x) (aa 0 rfl) T.aC.cl T.cn rfl)) (aa 6 rfl) xr) (se 4 (aa 6 rfl) (gs _ _ lA0)))
         (fun h=>absurd (of_decide_eq_true h) c)
         (fun h=>cg))))) (Le.of ⟨rfl,rfl,rfl,rfl,?_,?_,trivial⟩)
     . rw[rE,<- eR,uN hk]
     . rw[rE,<- eT,uN hk]
 . rw[en]
   exact uv (ns:=(jn six x y).reach) 4 (uv (ns:=(jn six x y).cL) 5 (ao (aF (Dg (qV Rb aA hr (ae (aa 2 rfl) (ae (aT (aD (fs:=t.lV six x) (aa 0 rfl) T.aC.cl T.bu rfl) (cj (fs:=t.lV six y) (aa 1 rfl) Q9 aA hr ⟨six,y,rfl,rfl⟩))
     (ae (aQ (kG (aa 2 rfl)) rC aA hr (ae (aT (aD (fs:=t.lV six x) (aa 0 rfl) T.aC.cl T.bx rfl) (cj (fs:=t.lV six y) (aa 1 rfl) nO aA hr ⟨six,y,rfl,rfl⟩)) ai) ⟨_,rfl,rfl⟩)
     (ae (Dh T.hK (b0 M5 aA hr (ae (v8 T.hK (aD (fs:=t.lV six x) (aa 0 rfl) T.aC.cl T.aW rfl)) (ae (aa 3 rfl) ai)) ⟨_,_,rfl,rfl⟩))
     (ae (aT (aD (fs:=t.lV six x) (aa 0 rfl) T.aC.cl T.cf rfl) (cj (fs:=t.lV six y) (aa 1 rfl) Gv aA hr ⟨six,y,rfl,rfl⟩))
     (ae (aa 4 rfl) (ae (aa 5 rfl) (ae (aT (aT (aD (fs:=t.lV six x) (aa 0 rfl) T.aC.cl T.e6 rfl) (cj (fs:=t.lV six y) (aa 1 rfl) Ra aA hr ⟨six,y,rfl,rfl⟩))
       (b0 M6 aA hr (ae (v8 T.hK (aD (fs:=t.lV six x) (aa 0 rfl) T.aC.cl T.aW rfl)) (ae (aa 3 rfl) ai)) ⟨_,_,rfl,⟨⟨by have:=wx.sm;omega,by have:=wx.sm;omega⟩,UP Ys.sm⟩,rfl⟩)) ai)))))))) ⟨six,jn six x y,rfl,rfl⟩)))))
theorem lP (six:Bool)(xs:List Str)(d:Str):cw six (xs ++ [d])=jn six (cw six xs) (one six d):=by
 unfold cw
 rw[List.foldl_append];rfl
theorem uO (six:Bool):∀ n:Nat,tn six n (0,0)=(0,0)
 | 0=>rfl
 | n+1=>by rw[tn,uO six n];cases six <;> rfl
theorem wb (six:Bool)(d:Str):(uM six d (0,0) 0).1=if d∈JL then (1,0) else (0,0):=by
 have e:tn six ((0:Int) % wy six).toNat (1,0)=(1,0):=by cases six <;> rfl
 unfold uM
 show(if d∈JL then ad (0,0) (tn six ((0:Int) % wy six).toNat (1,0)) else (0,0))=_
 rw[e];rfl
theorem M7 (six:Bool)(b:Int):(tn six (b % wy six).toNat (1,0)).1.natAbs<=1/\(tn six (b % wy six).toNat (1,0)).2.natAbs<=1:=by
 cases six with
 | false=>
   have e:wy false=4:=rfl
   rw[e]
   have h:b % 4=0\/b % 4=1\/b % 4=2\/b % 4=3:=by omega
   rcases h with h | h | h | h <;> rw[h] <;> decide
 | true=>
   have e:wy true=6:=rfl
   rw[e]
   have h:b % 6=0\/b % 6=1\/b % 6=2\/b % 6=3\/b % 6=4\/b % 6=5:=by omega
   rcases h with h | h | h | h | h | h <;> rw[h] <;> decide
theorem M8 (six:Bool)(x:Tr)(d:Str):(jn six x (one six d)).shift.1.natAbs<=x.shift.1.natAbs+1/\(jn six x (one six d)).shift.2.natAbs<=x.shift.2.natAbs+1:=by
 show(x.shift.1+(tn six (x.turn % wy six).toNat (uM six d (0,0) 0).1).1).natAbs<=_/\(x.shift.2+(tn six (x.turn % wy six).toNat (uM six d (0,0) 0).1).2).natAbs<=_
 rw[wb]
 by_cases c:d∈JL
 . rw[if_pos c]
   have:=M7 six x.turn
   omega
 . rw[if_neg c,uO]
   simp
theorem Rc (six:Bool)(d:Str):WF six (one six d):=⟨by unfold one;simp,by unfold one;simp,by
 show(uM six d (0,0) 0).1.1.natAbs < _/\(uM six d (0,0) 0).1.2.natAbs < _
 rw[wb]
 by_cases c:d∈JL
 . rw[if_pos c];decide
 . rw[if_neg c];decide⟩
theorem Rf (six:Bool):WF six (BM six):=⟨by unfold BM;simp,by unfold BM;simp,by show(0:Int).natAbs < _/\(0:Int).natAbs < _;decide⟩
theorem JU (six:Bool):∀ (n:Nat) (xs:List Str),xs.length=n->(cw six xs).shift.1.natAbs<=n/\(cw six xs).shift.2.natAbs<=n/\(cw six xs).reach.length=wn six/\(cw six xs).cL.length=wn six:=by
 intro n
 induction n with
 | zero=>
   intro xs h
   have e:xs=[]:=List.eq_nil_of_length_eq_zero h
   subst e
   have w:=Rf six
   exact⟨Nat.le_refl _,Nat.le_refl _,w.rl,w.tl⟩
 | succ n ih=>
   intro xs h
   have ym:xs≠[]:=fun e=>by rw[e] at h;cases h
   have e:=List.dropLast_concat_getLast ym
   have hl:xs.dropLast.length=n:=by rw[List.length_dropLast];omega
   obtain⟨h1,h2,h3,h4⟩:=ih _ hl
   rw[<- e,lP]
   obtain⟨q1,q2⟩:=M8 six (cw six xs.dropLast) (xs.getLast ym)
   refine⟨by omega,by omega,?_,?_⟩
   . unfold jn;simp
   . unfold jn;simp
theorem zV (six:Bool){xs:List Str}(h:xs.length < 2 ^ 990):WF six (cw six xs):=by
 obtain⟨h1,h2,h3,h4⟩:=JU six _ xs rfl
 exact⟨h3,h4,Nat.lt_of_le_of_lt h1 h,Nat.lt_of_le_of_lt h2 h⟩
theorem Rg (six:Bool){xs:List Str}(h:xs.length<=100000):WF six (cw six xs):=zV six (Nat.lt_of_le_of_lt h (Nat.lt_of_lt_of_le (show 100000 < 2 ^ 20 by decide) (Nat.pow_le_pow_right (by decide) (by decide))))
theorem BP (T:Txt K mg t):GF P w K mg base CX 7 "track_of" 2 (Di t):=by
 refine⟨_,_,_,i6 T.jN.F tJ rfl fun bf A outer s H E G ds r hr hl hR=>?_,(T.g T.jN.a),T.jN.F.kp,T.jN.b⟩
 obtain⟨six,xs,rfl,hd,hn,rfl⟩:=hR
 have zW:=BO (P:=P) (w:=w) (base:=base) T
 have UQ:=Dn (P:=P) (w:=w) (base:=base) T
 have wc:=yl (P:=P) (w:=w) (base:=base) T
 have nd:=tJ.nd
 let S:Nat->List Slot:=fun k=>[.val (.i9 (.obj (t.pc six) [])),.val (.lst (xs.map .str)),.val (t.ql six (cw six (xs.take k))),.aL]
 have en:S (xs.map Dt.str).length=[.val (.i9 (.obj (t.pc six) [])),.val (.lst (xs.map .str)),.val (t.ql six (cw six xs)),.aL]:=by
   show [_,_,Slot.val (t.ql six (cw six (xs.take (xs.map Dt.str).length))),_]=_
   rw[List.length_map,List.take_length]
 refine⟨_,.rt _,ah (au 2 nd (b0 zW aA hr (ae (aa 0 rfl) ai) ⟨six,rfl,rfl⟩))
   (ah (D2 (m:=(xs.map Dt.str).length) 3 S nd rfl PassesOwn.leaving (aa 1 rfl) (Le.of ⟨rfl,rfl,rfl,trivial⟩) (Nat.le_refl _) (fun k z hk hz=>?_) (.all rfl)) ?_)⟩
 . rw[List.length_map] at hk
   rw[List.getElem?_map,List.getElem?_eq_getElem hk] at hz
   cases hz
   have hm:xs[k]∈xs:=List.getElem_mem hk
   have e:cw six (xs.take (k+1))=jn six (cw six (xs.take k)) (one six xs[k]):=by
     rw[List.take_add_one,List.getElem?_eq_getElem hk]
     exact lP _ _ _
   have hl:(xs.take k).length<=100000:=by rw[List.length_take];omega
   refine .nx (ao (au 2 nd (aQ (fs:=t.lV six (cw six (xs.take k))) (oZ (aa 2 rfl)) wc aA hr (ae (oZ (b0 UQ aA hr (ae (aa 0 rfl) (ae (aa 3 rfl) ai)) ⟨six,xs[k],rfl,hd _ hm,rfl⟩)) ai) ⟨six,_,one six xs[k],rfl,⟨Rg six hl,Rc six _⟩,rfl⟩))) (Le.of ⟨rfl,rfl,?_,trivial⟩)
   show Slot.val (t.ql six (cw six (xs.take (k+1))))=_
   rw[e]
 . rw[en]
   exact ao (aF (aa 2 rfl))
theorem JV (six:Bool):∀ (n:Nat) (xs:List Str),xs.length=n->(cw six xs).many=n/\(cw six xs).fH=(xs.count ("stroke":Str):Nat):=by
 intro n
 induction n with
 | zero=>
   intro xs h
   have e:xs=[]:=List.eq_nil_of_length_eq_zero h
   subst e
   exact⟨rfl,rfl⟩
 | succ n ih=>
   intro xs h
   have ym:xs≠[]:=fun e=>by rw[e] at h;cases h
   have e:=List.dropLast_concat_getLast ym
   have hl:xs.dropLast.length=n:=by rw[List.length_dropLast];omega
   obtain⟨h1,h2⟩:=ih _ hl
   have ec:xs.count ("stroke":Str)=xs.dropLast.count ("stroke":Str)+if xs.getLast ym="stroke" then 1 else 0:=by
     conv=>lhs;rw[<- e]
     rw[List.count_append,List.count_singleton]
     congr 1
     by_cases c:xs.getLast ym="stroke" <;> simp[c]
   rw[ec]
   conv=>lhs;rw[<- e]
   rw[show(cw six xs).fH=(cw six (xs.dropLast ++ [xs.getLast ym])).fH by rw[e],lP]
   refine⟨?_,?_⟩
   . show(cw six xs.dropLast).many+1=_
     rw[h1];omega
   . show(cw six xs.dropLast).fH+(if xs.getLast ym="stroke" then 1 else 0)=_
     rw[h2]
     by_cases c:xs.getLast ym="stroke"
     . rw[if_pos c,if_pos c];omega
     . rw[if_neg c,if_neg c];omega
noncomputable abbrev Wb:=Int×(Int×Int)×Int
noncomputable def pj (x:Tr):Wb:=(x.turn,x.shift,x.lU)
noncomputable def Sa (six:Bool)(s:Wb)(d:Str):Wb:=((s.1+b5 d) % wy six,ad s.2.1 (tn six (s.1 % wy six).toNat (if d∈JL then (1,0) else (0,0))),s.2.2+cr s.2.1 (tn six (s.1 % wy six).toNat (if d∈JL then (1,0) else (0,0))))
theorem UR (six:Bool)(x:Tr)(d:Str):pj (jn six x (one six d))=Sa six (pj x) d:=by
 unfold pj Sa jn
 have e1:(one six d).turn=(0+b5 d) % wy six:=rfl
 have e2:(one six d).shift=if d∈JL then (1,0) else (0,0):=wb six d
 have e3:(one six d).lU=0:=rfl
 simp only[e1,e2,e3]
 refine Prod.ext ?_ (Prod.ext rfl ?_)
 . show(x.turn+(0+b5 d) % wy six) % wy six=_
   rw[Int.add_emod_emod];simp
 . show x.lU+0+_=x.lU+_
   rw[Int.add_zero]
theorem Rh (six:Bool)(xs:List Str):pj (cw six xs)=xs.foldl (Sa six) (0,(0,0),0):=by
 have:∀ (xs:List Str) (x:Tr),pj (xs.foldl (fun x d=>jn six x (one six d)) x)=xs.foldl (Sa six) (pj x):=by
   intro xs
   induction xs with
   | nil=>intro x;rfl
   | cons d r ih=>intro x;rw[List.foldl_cons,List.foldl_cons,ih,UR]
 exact this xs (BM six)
noncomputable def bb (rows:List Row)(w:List Nat):Int:=(w.map fun x=>b5 (bG rows x)).sum
noncomputable def n8 (six:Bool)(rows:List Row):Bool:=(rows.map (·.c)).all fun x=>decide (bb rows (wordOf rows x) % wy six=bb rows [x] % wy six)
noncomputable def Gw (t:dY):Rl:=fun ds r=>∃ six rows w,ds=[t.uJ six rows,.str (tx w)]/\aM rows/\(∀ x∈w,x∈rows.map (·.c))/\w.length<=1000/\r=.ret (.int (bb rows w % wy six))
noncomputable def M9 (t:dY):Rl:=fun ds r=>∃ six rows,ds=[t.uJ six rows]/\aM rows/\r=.ret (.bl (n8 six rows))
noncomputable def Ri:Stmt->Scope
 | .Return (some (.Call _ [.Call _ [.ListComp _ _ sc _] _ _] _ _)) _=>sc
 | _=>af (.Pass ⟨0,0,0,0⟩)
noncomputable abbrev Na:Scope:=Ri ((aB fO).getD 0 (.Pass ⟨0,0,0,0⟩))
theorem EX:gq Na (af fO) n6 ["letter","self"] ["letter"] [0]=true:=by decide +kernel
noncomputable abbrev Nb:Scope:=PX ((aB cX).getD 0 (.Pass ⟨0,0,0,0⟩))
theorem EY:gq Nb (af cX) kK ["letter","self"] ["letter"] [0]=true:=by decide +kernel
theorem JW (w:List Nat):w.map (fun x=>Dt.str (sg x))=Sg.signs (tx w):=by rw[rB,List.map_map];rfl
theorem JX {rows:List Row}(ok:aM rows){w:List Nat}(h:∀ x∈w,x∈rows.map (·.c)):jG (tx w)=true:=fQ fun x hx=>by
 obtain⟨r,hr,rfl⟩:=List.mem_map.mp (h x hx)
 have:=ok.sm r hr
 unfold small at this;omega
theorem uP {x a:Nat}{L:List Nat}(h:x∈[a])(ha:a∈L):x∈L:=by
 have:x=a:=by simpa using h
 rw[this];exact ha
theorem Dp (T:Txt K mg t):MF P w K mg base CX 3 t.aJ "turn_of" 2 (Gw t):=by
 refine⟨T.c5.cl,_,_,_,i6 T.iV.F sN rfl fun bf A outer s H E G ds r hr hl hR=>?_,T.fG,T.iV.b⟩
 obtain⟨six,rows,wd,rfl,ok,hw,hn,rfl⟩:=hR
 have Dq:=BG (P:=P) (w:=w) (base:=base) T
 have Yt:=BL (P:=P) (w:=w) (base:=base) T
 have US:=lC (P:=P) (w:=w) (base:=base) T six
 have e2:((wd.filter fun _=>true).map fun x=>Dt.int (b5 (bG rows x)))=(wd.map fun x=>b5 (bG rows x)).map Dt.int:=by
   rw[List.filter_eq_self.mpr (fun _ _=>rfl),List.map_map];rfl
 exact⟨_,.rt _,ao (aF (aQ (kG (aD (fs:=t.qH six rows) (aa 0 rfl) T.c5.cl T.fP rfl)) US aA hr (ae (sv (ns:=wd.map fun x=>b5 (bG rows x)) T.rA rfl (dB e2 (eO wd (fun x=>Dt.str (sg x)) (fun x=>.int (b5 (bG rows x))) (fun x=>[.val (.str (sg x))]) (fun _=>true) rfl (a0 EX) (gu (aa 1 rfl)) (bF (a0 EX) rfl) (cK (cF (JX ok hw)) (JW wd)) (fun a _=>bQ) (.nil fun _ _=>rfl)
   (fun a ha _ C fp s' H' G'=>b0 Yt aA hr (ae (aQ (fs:=t.qH six rows) (aa 1 rfl) Dq aA hr (ae (aa 0 rfl) ai) ⟨six,rows,a,rfl,ok,hw a ha,rfl⟩) ai) ⟨_,rfl,rfl⟩) (qF (by omega))))) ai) ⟨_,rfl,rfl⟩))⟩
theorem JY (T:Txt K mg t):MF P w K mg base CX 4 t.aJ "keeps_turns" 1 (M9 t):=by
 refine⟨T.c5.cl,_,_,_,i6 T.eE.F oW rfl fun bf A outer s H E G ds r hr hl hR=>?_,T.dn,T.eE.b⟩
 obtain⟨six,rows,rfl,ok,rfl⟩:=hR
 have h6:=ok.le
 have cM:=gF (P:=P) (w:=w) (base:=base) T
 have nP:=oY (P:=P) (w:=w) (base:=base) T
 have nO:=Dp (P:=P) (w:=w) (base:=base) T
 let cs:=rows.map (·.c)
 let f:Nat->Bool:=fun x=>decide (bb rows (wordOf rows x) % wy six=bb rows [x] % wy six)
 have e2:((cs.filter fun _=>true).map fun x=>Dt.bl (f x))=(cs.map f).map Dt.bl:=by
   rw[List.filter_eq_self.mpr (fun _ _=>rfl)]
   exact(List.map_map ..).symm
 have e3:(cs.map f).all id=n8 six rows:=by
   rw[List.all_map];rfl
 have VU:cs.length=rows.length:=List.length_map ..
 refine⟨_,.rt _,ao (aF (aR (yY (bs:=cs.map f) T.yd rfl (dB e2 (eO cs (fun x=>Dt.str (sg x)) (fun x=>.bl (f x)) (fun x=>[.val (.str (sg x))]) (fun _=>true) rfl (a0 EY) (gu (cj (fs:=t.qH six rows) (aa 0 rfl) cM aA hr ⟨six,rows,rfl,ok,rfl⟩)) (bF (a0 EY) rfl) (cK (cF (JX ok fun x h=>h)) (JW cs)) (fun a _=>bQ) (.nil fun _ _=>rfl)
   (fun a ha _ C fp s' H' G'=>?_) (qF (by omega))))) (congrArg Dt.bl e3)))⟩
 obtain⟨q,hq,e,_,ew⟩:=dX ha
 have Wc:=ok.wp q hq
 exact vj (aQ (fs:=t.qH six rows) (aa 1 rfl) nO aA hr (ae (aQ (fs:=t.qH six rows) (aa 1 rfl) nP aA hr (ae (aa 0 rfl) ai) ⟨six,rows,a,rfl,ok,ha,rfl⟩) ai) ⟨six,rows,wordOf rows a,rfl,ok,by rw[ew];exact ok.wo q hq,by rw[ew];omega,rfl⟩)
   (aQ (fs:=t.qH six rows) (aa 1 rfl) nO aA hr (ae (aa 0 rfl) ai) ⟨six,rows,[a],rfl,ok,fun x hx=>uP hx ha,(show 1<=1000 by decide),rfl⟩)
open PySem.Builtin.Str PySem.StrLaws in
theorem zX (s:Str)(c limit:Nat):∀ (n i:Nat) (acc:Array Nat) (free:Nat),free<=i->acc.size+n<=limit->(forIn (List.range' i n) (acc,free) (occBody s ⟨#[c]⟩ s.length limit)).run.fst.size=acc.size+(List.range' i n).countP (fun j=>decide (s.cps.toList[j]?=some c))
 | 0,i,acc,free,_,_=>by simp
 | n+1,i,acc,free,hf,hl=>by
   rw[List.range'_succ,List.forIn_cons,List.countP_cons]
   have hso:=subAt_one s c i
   by_cases hc:s.cps.toList[i]?=some c
   . obtain⟨h1,h2⟩:=hso.mpr hc
     have e:occBody s ⟨#[c]⟩ s.length limit i (acc,free)=pure (ForInStep.yield (acc.push i,i+(⟨#[c]⟩:Str).length)):=by
       unfold occBody
       exact if_pos ⟨⟨⟨by show acc.size < limit;omega,hf⟩,h1⟩,h2⟩
     rw[e]
     show(forIn (List.range' (i+1) n) (acc.push i,i+(⟨#[c]⟩:Str).length) (occBody s ⟨#[c]⟩ s.length limit)).run.fst.size=_
     rw[zX s c limit n (i+1) (acc.push i) _ (by show i+1<=i+1;omega) (by rw[Array.size_push];omega),Array.size_push,if_pos (decide_eq_true hc)]
     omega
   . have e:occBody s ⟨#[c]⟩ s.length limit i (acc,free)=pure (ForInStep.yield (acc,free)):=by
       unfold occBody
       exact if_neg fun h=>hc (hso.mp ⟨h.1.2,h.2⟩)
     rw[e]
     show(forIn (List.range' (i+1) n) (acc,free) (occBody s ⟨#[c]⟩ s.length limit)).run.fst.size=_
     rw[zX s c limit n (i+1) acc free (by omega) (by omega),if_neg (by simpa using hc)]
     omega
theorem Gx (L:List Nat)(c:Nat):(List.range' 0 (L.length+1)).countP (fun j=>decide (L[j]?=some c))=L.count c:=by
 rw[<- List.range_eq_range',List.range_succ,List.countP_append]
 have e1:(List.range L.length).map (fun j=>L[j]?)=L.map some:=by
   refine List.ext_getElem? fun i=>?_
   rw[List.getElem?_map,List.getElem?_map]
   by_cases h:i < L.length
   . rw[List.getElem?_range h];simp[h]
   . rw[List.getElem?_eq_none (by simp;omega),List.getElem?_eq_none (by omega)];rfl
 have e2:(List.range L.length).countP (fun j=>decide (L[j]?=some c))=((List.range L.length).map (fun j=>L[j]?)).countP (fun o=>decide (o=some c)):=by
   rw[List.countP_map];rfl
 rw[e2,e1,List.countP_map]
 have e3:((fun o=>decide (o=some c)) ∘ some)=fun x:Nat=>x == c:=by
   funext x
   by_cases h:x=c <;> simp[h]
 rw[e3]
 simp[List.count]
open PySem.Builtin.Str PySem.StrLaws in
theorem JZ (w:List Nat)(x:Nat):Txt.count (tx w) (sg x)=((w.count x:Nat):Int):=by
 unfold Txt.count
 have hl:=i3 w
 rw[occ_eq,Array.length_toList]
 show(((forIn (List.range' 0 ((tx w).length+1 - 0)) (#[],0) (occBody (tx w) ⟨#[x]⟩ (tx w).length ((tx w).length+1))).run.fst.size:Nat):Int)=_
 rw[zX (tx w) x _ _ 0 #[] 0 (Nat.le_refl _) (by simp)]
 have e:(tx w).cps.toList=w:=by show w.toArray.toList=w;simp
 rw[e,hl,Nat.sub_zero,Gx]
 simp
noncomputable def Ou (L w:List Nat):List (Key×Int):=L.map fun x=>(.inr (sg x),((w.count x:Nat):Int))
theorem J0 (L w:List Nat):(dI (Ou L w)).map (·.1)=L.map fun x=>(Sum.inr (sg x):Key):=by
 unfold dI Ou
 rw[List.map_map,List.map_map];rfl
theorem jP {L:List Nat}(h:L.Nodup):(L.map fun x=>(Sum.inr (sg x):Key)).Nodup:=by
 rw[List.nodup_iff_pairwise_ne,List.pairwise_map]
 exact(List.nodup_iff_pairwise_ne.mp h).imp fun hn e=>hn (qE (Sum.inr.inj e))
theorem Rj (L w:List Nat):(L.map fun x=>Dt.tup [.str (sg x),.int ((w.count x:Nat):Int)])=(dI (Ou L w)).map IH:=by
 unfold dI Ou
 rw[List.map_map,List.map_map];rfl
noncomputable def Nc (t:dY):Rl:=fun ds r=>∃ six rows w,ds=[t.uJ six rows,.str (tx w)]/\aM rows/\r=.own (.dw (dI (Ou (rows.map (·.c)) w)))
noncomputable abbrev Yu:Stmt->Scope
 | .Return (some (.Call _ (.ListComp _ _ sc _::_) _ _)) _=>sc
 | _=>af (.Pass ⟨0,0,0,0⟩)
noncomputable abbrev J1:Scope:=Yu ((aB q9).getD 0 (.Pass ⟨0,0,0,0⟩))
theorem BQ:gq J1 (af q9) Et ["letter","word"] ["letter"] [1]=true:=by decide +kernel
theorem fJ (w:List Nat):w.map (fun x=>Dt.str (sg x))=Sg.signs (tx w):=by rw[rB,List.map_map];rfl
theorem we {rows:List Row}(ok:aM rows):jG (tx (rows.map (·.c)))=true:=fQ fun x hx=>by
 obtain⟨r,hr,rfl⟩:=List.mem_map.mp hx
 have:=ok.sm r hr
 unfold small at this;omega
theorem J2 (T:Txt K mg t):GF P w K mg base CX 3 "tally" 2 (Nc t):=by
 refine⟨_,_,_,i6 T.pM.F Bx rfl fun bf A outer s H E G ds r hr hl hR=>?_,(T.g T.pM.a),T.pM.F.kp,T.pM.b⟩
 obtain⟨six,rows,wd,rfl,ok,rfl⟩:=hR
 have cM:=gF (P:=P) (w:=w) (base:=base) T
 have nd:=Bx.nd
 have h6:=ok.le
 let L:=rows.map (·.c)
 have e2:((L.filter fun _=>true).map fun x=>Dt.tup [.str (sg x),.int ((wd.count x:Nat):Int)])=(dI (Ou L wd)).map IH:=by
   rw[List.filter_eq_self.mpr (fun _ _=>rfl)]
   exact Rj L wd
 refine⟨_,.ro _,ao (l2 (lI T.nL rfl (dB e2 (eO L (fun x=>Dt.str (sg x)) (fun x=>.tup [.str (sg x),.int ((wd.count x:Nat):Int)]) (fun x=>[.val (.str (sg x))]) (fun _=>true) rfl (a0 BQ) (gu (cj (fs:=t.qH six rows) (aa 0 rfl) cM aA hr ⟨six,rows,rfl,ok,rfl⟩)) (bF (a0 BQ) rfl) (cK (cF (we ok)) (fJ L)) (fun a _=>bQ) (.nil fun _ _=>rfl)
     (fun a ha _ C fp s' H' G'=>cY (ae (aa 0 rfl) (ae (aR (F7 (aa 1 rfl) (aa 0 rfl)) (congrArg Dt.int (JZ wd a))) ai)) AA3) (qF (by show(rows.map (·.c)).length<=_;rw[List.length_map];omega)))) ?_ ?_))⟩
 . rw[J0];exact jP ok.nd
 . show((Ou (rows.map (·.c)) wd).map _).length<=_
   unfold Ou
   rw[List.length_map,List.length_map,List.length_map]
   exact qF (by omega)
noncomputable def cT (rows:List Row):Nat->Nat->Nat->Int
 | 0,c,x=>(([c].count x:Nat):Int)
 | i+1,c,x=>((wordOf rows c).map fun y=>cT rows i y x).sum
noncomputable def kc (L:List Nat)(T:Nat->Int):List (Key×Int):=L.map fun x=>(.inr (sg x),T x)
noncomputable def lT (rows:List Row)(i c:Nat):Int:=((rows.map (·.c)).map fun x=>cT rows i c x).sum
noncomputable def ua (rows:List Row)(i:Nat):List (Key×FD):=(rows.map (·.c)).map fun c=>(.inr (sg c),.dw (kc (rows.map (·.c)) (cT rows i c)))
noncomputable def xA (rows:List Row)(i:Nat):List (Key×FD):=(rows.map (·.c)).map fun c=>(.inr (sg c),.int (lT rows i c))
theorem Nd (L:List Nat)(T:Nat->Int):(kc L T).map (·.2)=L.map T:=by unfold kc;rw[List.map_map];rfl
theorem EZ (L:List Nat)(T:Nat->Int):(dI (kc L T)).map (·.1)=L.map fun x=>(Sum.inr (sg x):Key):=by unfold dI kc;rw[List.map_map,List.map_map];rfl
theorem J3 (L:List Nat)(T:Nat->Int):(dI (kc L T)).length=L.length:=by unfold dI kc;rw[List.length_map,List.length_map]
noncomputable def kd (L:List Nat)(D:Nat->Dt):List (Key×Dt):=L.map fun x=>(.inr (sg x),D x)
theorem fK {D:Nat->Dt}:∀ {L:List Nat} {x:Nat},x∈L->lG (kd L D) (.inr (sg x))=some (D x)
 | [],_,h=>by cases h
 | y::L,x,h=>by
   by_cases e:y=x
   . subst e
     exact qX (p:=((.inr (sg y):Key),D y)) rfl
   . have ne:¬ (Sum.inr (sg y):Key)=.inr (sg x):=fun z=>e (qE (Sum.inr.inj z))
     have hx:x∈L:=by
       rcases List.mem_cons.mp h with z | z
       . exact absurd z.symm e
       . exact z
     exact(oJ (p:=((.inr (sg y):Key),D y)) ne).trans (fK hx)
theorem BR (L:List Nat)(T:Nat->Int):dI (kc L T)=kd L fun x=>.int (T x):=by unfold dI kc kd;rw[List.map_map];rfl
theorem Gh (rows:List Row)(i:Nat):oi (ua rows i)=kd (rows.map (·.c)) fun c=>.eG (dI (kc (rows.map (·.c)) (cT rows i c))):=by unfold oi ua kd;rw[List.map_map];rfl
theorem Nf (rows:List Row)(i:Nat):oi (xA rows i)=kd (rows.map (·.c)) fun c=>.int (lT rows i c):=by unfold oi xA kd;rw[List.map_map];rfl
theorem rF (L:List Nat)(D:Nat->Dt):(kd L D).map (·.1)=L.map fun x=>(Sum.inr (sg x):Key):=by unfold kd;rw[List.map_map];rfl
theorem yn (L:List Nat)(D:Nat->Dt):(L.map fun x=>Dt.tup [.str (sg x),D x])=(kd L D).map IH:=by unfold kd;rw[List.map_map];rfl
theorem Dr {L:List Nat}(nd:L.Nodup){D:Nat->Dt}{j:Nat}(hj:j < L.length):tG (kd (L.take j) D) (.inr (sg L[j])) (D L[j])=kd (L.take (j+1)) D:=by
 have hn:lG (kd (L.take j) D) (.inr (sg L[j]))=none:=by
   refine sx fun kv Xd=>?_
   have:kv.1∈(kd (L.take j) D).map (·.1):=List.mem_map.mpr ⟨kv,Xd,rfl⟩
   rw[rF] at this
   obtain⟨y,hy,e⟩:=List.mem_map.mp this
   intro z
   rw[<- e] at z
   have z:y=L[j]:=qE (Sum.inr.inj z)
   obtain⟨i,hi,e⟩:=List.mem_iff_getElem.mp hy
   rw[List.length_take] at hi
   rw[List.getElem_take] at e
   exact List.pairwise_iff_getElem.mp nd i j (by omega) hj (by omega) (e.trans z)
 unfold tG
 rw[hn,if_neg (by simp)]
 unfold kd
 rw[List.take_add_one,List.getElem?_eq_getElem hj,List.map_append];rfl
noncomputable def BS (L:List Nat)(T:Nat->Int):Dt:=.eG (dI (kc L T))
noncomputable def J4:Rl:=fun ds r=>∃ (L:List Nat) (ts:List (Nat->Int)),ds=[.lst (ts.map (BS L)),.str (tx L)]/\L.Nodup/\L.length<=6/\(∀ x∈L,x < 128)/\ts.length<=1000/\r=.own (.dw (dI (kc L fun x=>(ts.map fun T=>T x).sum)))
noncomputable abbrev Rk:Stmt->Scope
 | .Return (some (.Call _ (.ListComp _ _ sc _::_) _ _)) _=>sc
 | _=>af (.Pass ⟨0,0,0,0⟩)
noncomputable abbrev UT:Stmt->Scope
 | .Return (some (.Call _ (.ListComp (.Tuple [_,.Call _ (.ListComp _ _ sc _::_) _ _] _ _) _ _ _::_) _ _)) _=>sc
 | _=>af (.Pass ⟨0,0,0,0⟩)
noncomputable abbrev Ov:Scope:=Rk ((aB jd).getD 0 (.Pass ⟨0,0,0,0⟩))
noncomputable abbrev Rm:Scope:=UT ((aB jd).getD 0 (.Pass ⟨0,0,0,0⟩))
noncomputable def Yv (sc:Scope):Env:={ scope:=sc,locals:=0,globals:=0,cells:=[],qual:="",func:=none,code:=.none,frame:=none,builtins:=0}
noncomputable abbrev UU:Scope:=relabel Ov (Yv (af jd))
theorem E1:IM Ov (af jd) By ["letter","tallies"] "letter" [0]=true:=by decide +kernel
theorem zY:gq Rm UU ["letter","tallies"] ["counts","letter"] ["counts"] [0]=true:=by decide +kernel
theorem Gy (T:Txt K mg t):GF P w K mg base CX 2 "summed" 2 J4:=by
 refine⟨_,_,_,i6 T.iu.F pI rfl fun bf A outer s H E G ds r hr hl hR=>?_,(T.g T.iu.a),T.iu.F.kp,T.iu.b⟩
 obtain⟨L,ts,rfl,Yw,hL,h7,Yx,rfl⟩:=hR
 have nd:=pI.nd
 have hu:(A.deeper (envOfC "summed" (af jd) s.heap.objs.size t.mN bf)).units+1 < cLine:=by have:=hr.units;omega
 let D:Nat->Dt:=fun x=>.int (ts.map fun T=>T x).sum
 have e2:((L.filter fun _=>true).map fun x=>Dt.tup [.str (sg x),D x])=(dI (kc L fun x=>(ts.map fun T=>T x).sum)).map IH:=by
   rw[List.filter_eq_self.mpr (fun _ _=>rfl),BR]
   exact yn L D
 refine⟨_,.ro _,ao (l2 (lI T.nL rfl (dB e2 (IL L (fun x=>Dt.str (sg x)) (fun x=>.tup [.str (sg x),D x]) (fun x=>[.val (.str (sg x))]) (fun _=>true) rfl (Em E1) (gu (aa 1 rfl)) (Bm (Em E1)) (cK (cF (fQ h7)) (fJ L)) (fun a _=>bQ) (.nil fun _ _=>rfl)
     (fun a ha _ c C fp s' H' G'=>?_) (qF (by omega)))) (by rw[EZ];exact jP Yw) (by rw[J3];exact qF (by omega))))⟩
 have e3:((ts.filter fun _=>true).map fun T=>Dt.int (T a))=(ts.map fun T=>T a).map Dt.int:=by
   rw[List.filter_eq_self.mpr (fun _ _=>rfl),List.map_map];rfl
 refine cY (ae (aa 0 rfl) (ae (sv T.rA rfl (dB e3 (eO ts (BS L) (fun T=>Dt.int (T a)) (fun T=>[.val (BS L T)]) (fun _=>true) rfl (a0 zY) (gb (aa 1 rfl)) (bF (a0 zY) rfl) eJ (fun a _=>bQ) (.nil fun _ _=>rfl)
   (fun T' hT' _ C2 VS s2 H2 G2=>?_) (qF (by omega))))) ai)) AA3
 exact ip hu (aa 0 rfl) (aa 1 rfl) (by rw[BR];exact fK ha) (fun _ _=>rfl)
noncomputable def dY.zZ (t:dY)(six:Bool)(rows:List Row)(w:List Nat):List (Str×Dt):=[("rules",t.uJ six rows),("seed",.str (tx w))]
noncomputable def o3 (rows:List Row):List (Nat->List (Key×FD)):=[ua rows,xA rows]
noncomputable abbrev dY.f9 (t:dY)(six:Bool)(rows:List Row)(w:List Nat)(l:Addr)(ls:km)(n:Nat):List (Str×Dt):=tw (t.zZ six rows w) ["tallies","lengths"] l ls n
noncomputable abbrev dY.Gz (t:dY)(six:Bool)(rows:List Row)(w:List Nat)(l:Addr)(ls:km)(n:Nat):List (Str×Dt):=pY (t.zZ six rows w) ["tallies","lengths"] l ls n
noncomputable abbrev dY.Yy (t:dY)(six:Bool)(rows:List Row)(w:List Nat)(n:Nat):Dt:=.yI t.ar (t.zZ six rows w) (o3 rows) ["tallies","lengths"] n
structure lW (rows:List Row)(w:List Nat):Prop where
 ok:aM rows
 w0:0 < w.length
 w8:w.length<=8
 wm:∀ x∈w,x∈rows.map (·.c)
theorem BU {a:Addr}:∀ rows:List Row,zg a (sT rows)=true
 | []=>rfl
 | r::rows=>by
   show(sC a (f6 r) && zg a (sT rows))=true
   rw[BU rows];rfl
theorem Ds {a:Addr}(t:dY)(six:Bool)(rows:List Row):sC a (t.uJ six rows)=true:=by
 show kO a [("drawer",.i9 (.obj (t.pc six) [])),("row_by_letter",.dw (sT rows))]=true
 show(true && (zg a (sT rows) && true))=true
 rw[BU];rfl
theorem BV {a:Addr}(t:dY)(six:Bool)(rows:List Row)(w:List Nat):kO a (t.zZ six rows w)=true:=by
 show(sC a (t.uJ six rows) && (true && true))=true
 rw[Ds];rfl
noncomputable def Ng (t:dY):Rl:=fun ds r=>∃ six rows w,ds=[t.uJ six rows,.str (tx w)]/\lW rows w/\r=.own (.rY t.ar (t.zZ six rows w) (o3 rows) ["tallies","lengths"] 1)
noncomputable abbrev Du:Stmt->Scope
 | .Assign _ (.List [.Call _ (.ListComp _ _ sc _::_) _ _] _) _=>sc
 | _=>af (.Pass ⟨0,0,0,0⟩)
noncomputable abbrev Rn:Scope:=Du ((aB dZ).getD 2 (.Pass ⟨0,0,0,0⟩))
noncomputable abbrev Ro:Scope:=Du ((aB dZ).getD 3 (.Pass ⟨0,0,0,0⟩))
theorem J5:gq Rn (af dZ) mn ["letter","rules"] ["letter"] [1]=true:=by decide +kernel
theorem J6:gq Ro (af dZ) mn ["letter"] ["letter"] []=true:=by decide +kernel
theorem E2:∀ {L:List Nat} {c:Nat},L.Nodup->c∈L->(L.map fun x=>(([c].count x:Nat):Int)).sum=1
 | [],_,_,h=>by cases h
 | y::L,c,nd,h=>by
   rw[List.nodup_cons] at nd
   rw[List.map_cons,List.sum_cons]
   by_cases e:c=y
   . subst e
     have z:(L.map fun x=>(([c].count x:Nat):Int)).sum=0:=by
       have:∀ x∈L,(([c].count x:Nat):Int)=0:=fun x hx=>by
         have:¬ c=x:=fun z=>nd.1 (z ▸ hx)
         simp[List.count_cons,this]
       rw[List.map_congr_left this]
       clear this nd h
       induction L with
       | nil=>rfl
       | cons a r ih=>rw[List.map_cons,List.sum_cons,ih];rfl
     rw[z]
     simp
   . have hc:c∈L:=by
       rcases List.mem_cons.mp h with z | z
       . exact absurd z e
       . exact z
     rw[E2 nd.2 hc]
     simp[List.count_cons,e]
theorem UW {rows:List Row}(ok:aM rows){c:Nat}(h:c∈rows.map (·.c)):lT rows 0 c=1:=E2 ok.nd h
theorem J7 (T:Txt K mg t):R3 P w K mg base CX 4 "Growth" t.ar 3 (Ng t):=by
 refine⟨_,_,_,VI T.j8.F oR rfl fun bf A outer s H E G z ds r hr hl hR=>?_,T.sO,(T.g T.aK.a),T.j8.b⟩
 obtain⟨six,rows,wd,rfl,ok,rfl⟩:=hR
 have cM:=gF (P:=P) (w:=w) (base:=base) T
 have GA:=BH (P:=P) (w:=w) (base:=base) T
 have Nh:=J2 (P:=P) (w:=w) (base:=base) T
 have h6:=ok.ok.le
 let L:=rows.map (·.c)
 have hL:L.length<=6:=by show(rows.map (·.c)).length<=6;rw[List.length_map];exact h6
 have nd:=oR.nd
 have e1:((L.filter fun _=>true).map fun x=>Dt.tup [.str (sg x),BS L (cT rows 0 x)])=(oi (ua rows 0)).map IH:=by
   rw[List.filter_eq_self.mpr (fun _ _=>rfl),Gh]
   exact yn L _
 have e2:((L.filter fun _=>true).map fun x=>Dt.tup [.str (sg x),.int 1])=(oi (xA rows 0)).map IH:=by
   rw[List.filter_eq_self.mpr (fun _ _=>rfl),Nf,<- yn]
   exact List.map_congr_left fun x hx=>by rw[UW ok.ok hx]
 refine⟨_,.W5 (fs:=t.zZ six rows wd) (gs:=o3 rows) (nm:=["tallies","lengths"]) (n:=1) rfl,ah (kz (aa 1 rfl) T.aK.cl T.bJ) (ah (kz (Ig (fs:=t.qH six rows) (aa 1 rfl) GA aA hr (ae (aa 2 rfl) ai) ⟨six,rows,wd,8,rfl,ok.ok,ok.wm,⟨ok.w0,ok.w8,by decide⟩,rfl⟩) T.aK.cl T.gz)
   (zk (f:=ua rows) (g:=xA rows) rfl T.aK.cl T.bS T.bT ?_ ?_))⟩
 . refine lI T.nL rfl (dB e1 (eO L (fun x=>Dt.str (sg x)) (fun x=>.tup [.str (sg x),BS L (cT rows 0 x)]) (fun x=>[.val (.str (sg x))]) (fun _=>true) rfl (a0 J5) (gu (cj (fs:=t.qH six rows) (aa 1 rfl) cM aA hr ⟨six,rows,rfl,ok.ok,rfl⟩)) (bF (a0 J5) rfl) (cK (cF (we ok.ok)) (fJ L)) (fun a _=>bQ) (.nil fun _ _=>rfl)
     (fun a ha _ C fp s' H' G'=>cY (ae (aa 0 rfl) (ae (Oc (xX Nh aA hr (ae (aa 1 rfl) (ae (aa 0 rfl) ai)) ⟨six,rows,[a],rfl,ok.ok,rfl⟩)) ai)) AA3) (qF (by omega)))) (by rw[Gh,rF];exact jP ok.ok.nd) (by rw[Gh];show(List.map _ _).length<=_;rw[List.length_map,List.length_map];exact qF (by omega))
 . refine lI T.nL rfl (dB e2 (eO L (fun x=>Dt.str (sg x)) (fun x=>.tup [.str (sg x),.int 1]) (fun x=>[.val (.str (sg x))]) (fun _=>true) rfl (a0 J6) (gu (cj (fs:=t.qH six rows) (aa 1 rfl) cM aA hr ⟨six,rows,rfl,ok.ok,rfl⟩)) (bF (a0 J6) rfl) (cK (cF (we ok.ok)) (fJ L)) (fun a _=>bQ) (.nil fun _ _=>rfl)
     (fun a ha _ C fp s' H' G'=>cY (ae (aa 0 rfl) (ae aj ai)) AA3) (qF (by omega)))) (by rw[Nf,rF];exact jP ok.ok.nd) (by rw[Nf];show(List.map _ _).length<=_;rw[List.length_map,List.length_map];exact qF (by omega))
noncomputable def J8 (t:dY):Rl:=fun ds r=>∃ six rows w l ls n age,ds=[.obj t.ar (t.f9 six rows w l ls n),.int ((age:Nat):Int)]/\lW rows w/\ls.map (·.2)=o3 rows/\age<=1000/\r=.ret (.xR l ls (age+1))
noncomputable abbrev UX:Stmt->List Stmt
 | .While _ b _ _=>b
 | _=>[]
noncomputable abbrev BW:Stmt->Scope
 | .For _ _ [.Assign _ (.Call _ (.ListComp _ _ sc _::_) _ _) _] _ _=>sc
 | _=>af (.Pass ⟨0,0,0,0⟩)
noncomputable abbrev Ni:Stmt->Scope
 | .Expr (.Call _ [.Call _ (.ListComp _ _ sc _::_) _ _] _ _) _=>sc
 | _=>af (.Pass ⟨0,0,0,0⟩)
noncomputable abbrev wB:List Stmt:=UX ((aB bN).getD 1 (.Pass ⟨0,0,0,0⟩))
noncomputable abbrev UY:Scope:=BW (wB.getD 2 (.Pass ⟨0,0,0,0⟩))
noncomputable abbrev UZ:Scope:=Ni (wB.getD 4 (.Pass ⟨0,0,0,0⟩))
theorem Ow:gq UY (af bN) iY ["younger","last"] ["younger"] [3]=true:=by decide +kernel
theorem Ox:gq UZ (af bN) iY ["letter","grown"] ["letter"] [4]=true:=by decide +kernel
theorem GB (T:Txt K mg t):MF P w K mg base CX 4 t.ar "deepen_to" 2 (J8 t):=by
 refine⟨T.aK.cl,_,_,_,i6 T.fB.F kJ rfl fun bf A outer s H E G ds r hr hl hR=>?_,T.dm,T.fB.b⟩
 obtain⟨six,rows,wd,l,ls,n,age,rfl,ok,mx,i7,rfl⟩:=hR
 have cM:=gF (P:=P) (w:=w) (base:=base) T
 have nP:=oY (P:=P) (w:=w) (base:=base) T
 have wg:=Gy (P:=P) (w:=w) (base:=base) T
 have nd:=kJ.nd
 have h6:=ok.ok.le
 let L:=rows.map (·.c)
 have hL:L.length<=6:=by show(rows.map (·.c)).length<=6;rw[List.length_map];exact h6
 have h7:∀ x∈L,x < 128:=fun x hx=>by
   obtain⟨r,hr,rfl⟩:=List.mem_map.mp hx
   have:=ok.ok.sm r hr
   unfold small at this;omega
 have hu:(A.deeper (envOfC "Growth.deepen_to" (af bN) s.heap.objs.size t.bO bf)).units+1 < cLine:=by have:=hr.units;omega
 have e2:ls.length=2:=by have:=congrArg List.length mx;simpa [o3] using this
 let tl:List Slot:=[.val (.int ((age:Nat):Int)),.val (.str (tx L)),.aL,.aL,.aL]
 refine⟨_,pH (by rw[e2];exact Nat.le_refl 2),ah (dl1:=Al t.ar (t.zZ six rows wd) ["tallies","lengths"] l ls n tl) (au 2 nd (cj (fs:=t.qH six rows) (aD (fs:=t.f9 six rows wd l ls n) (aa 0 rfl) T.aK.cl T.bJ rfl) cM aA hr ⟨six,rows,rfl,ok.ok,rfl⟩))
   (ao (x8 (age:=age) PassesOwn.leaving (BV t six rows wd) rfl (by decide) (by omega) (fun N G hx=>?_) (fun N hN hNa G0 hA hB=>?_)))⟩
 . exact dP (tE (Eo (N:=N) T.jE hx (aD (fs:=t.Gz six rows wd l ls n) (aa 0 rfl) T.aK.cl T.bS rfl) (by rw[e2];rfl)) (aa 1 rfl)) (decide_eq_decide.mpr (by omega))
 . let Dk:Nat->Dt:=fun c=>BS L (cT rows N c)
   let S:Nat->List Slot:=fun k=>[.val (.obj t.ar (t.Gz six rows wd l ls n)),.val (.int ((age:Nat):Int)),.val (.str (tx L)),.val (.eG (oi (ua rows (N - 1)))),.own (.dw (kd (L.take k) Dk)),.aL]
   have eS:S L.length=[.val (.obj t.ar (t.Gz six rows wd l ls n)),.val (.int ((age:Nat):Int)),.val (.str (tx L)),.val (.eG (oi (ua rows (N - 1)))),.own (.dw (oi (ua rows N))),.aL]:=by
     show [_,_,_,_,Slot.own (.dw (kd (L.take L.length) Dk)),_]=_
     rw[List.take_length,Gh rows N];rfl
   refine ah (au 3 nd (Bo (f:=ua rows) (N:=N) ak (aD (fs:=t.Gz six rows wd l ls n) (aa 0 rfl) T.aK.cl T.bS rfl) (mX aj) (by rw[mx];rfl) (by rw[e2];rfl) hN)) (ah (kN 4 nd zb)
     (ah (dl1:=S L.length) (l3 (o:=.nx (S L.length)) (m:=L.length) L (fun x=>Dt.str (sg x)) (fun x dl=>dl.set 5 (.val (.str (sg x)))) S rfl PassesOwn.leaving (gu (aa 2 rfl)) (cK (cF (fQ h7)) (fJ L)) (bI nd rfl (.inl rfl)) (fun a _=>uo) (Le.of ⟨rfl,rfl,rfl,rfl,rfl,trivial⟩) (Nat.le_refl _) (fun k a hk ha=>?_) (.all rfl)) ?_))
   . rw[List.getElem?_eq_getElem hk] at ha
     cases ha
     have hm:L[k]∈L:=List.getElem_mem hk
     obtain⟨q,hq,hc,_,ew⟩:=dX hm
     have Wc:=ok.ok.wp q hq
     have U0:∀ y∈wordOf rows L[k],y∈L:=fun y hy=>ok.ok.wo q hq y (by rw[ew] at hy;exact hy)
     have DY:(wordOf rows L[k]).length<=8:=by rw[ew];exact Wc.2
     have Qa:(kd (L.take k) Dk).length < sizeLine:=by
       unfold kd
       rw[List.length_map,List.length_take];exact Nat.lt_of_lt_of_le (show min k L.length < 2000 by omega) (by decide)
     have e3:(((wordOf rows L[k]).filter fun _=>true).map fun y=>BS L (cT rows (N - 1) y))=((wordOf rows L[k]).map fun y=>cT rows (N - 1) y).map (BS L):=by
       rw[List.filter_eq_self.mpr (fun _ _=>rfl),List.map_map];rfl
     have eN:N=(N - 1)+1:=by omega
     have ed:Dk L[k]=.eG (dI (kc L fun x=>(((wordOf rows L[k]).map fun y=>cT rows (N - 1) y).map fun T=>T x).sum)):=by
       have e7:(cT rows N L[k])=fun x=>(((wordOf rows L[k]).map fun y=>cT rows (N - 1) y).map fun T=>T x).sum:=by
         funext x
         rw[List.map_map]
         obtain⟨M,rfl⟩:∃ M,N=M+1:=⟨N - 1,eN⟩
         rfl
       show BS L (cT rows N L[k])=_
       rw[e7];rfl
     refine .nx (ao (zc (kds:=kd (L.take k) Dk) (d:=Dk L[k]) 4 hu (by rw[ed];exact Oc (xX wg aA hr (ae (dB e3 (eO (wordOf rows L[k]) (fun x=>Dt.str (sg x)) (fun y=>BS L (cT rows (N - 1) y)) (fun x=>[.val (.str (sg x))]) (fun _=>true) rfl (a0 Ow) (gu (aQ (fs:=t.qH six rows) (aD (fs:=t.Gz six rows wd l ls n) (aa 0 rfl) T.aK.cl T.bJ rfl) nP aA hr (ae (aa 5 rfl) ai) ⟨six,rows,L[k],rfl,ok.ok,hm,rfl⟩)) (bF (a0 Ow) rfl) (cK (cF (uK ok.ok U0)) (fJ _)) (fun a _=>bQ) (.nil fun _ _=>rfl)
       (fun y hy _ C fp s' H' G'=>ip hu (aa 1 rfl) (aa 0 rfl) (by rw[Gh];exact fK (U0 y hy)) (fun _ _=>rfl)) (qF (by omega)))) (ae (aa 2 rfl) ai)) ⟨L,_,rfl,ok.ok.nd,hL,h7,by rw[List.length_map];omega,rfl⟩)) (aa 5 rfl) Qa)) (Le.of ⟨rfl,rfl,rfl,rfl,?_,trivial⟩)
     show Slot.own (.dw (kd (L.take (k+1)) Dk))=Slot.own (.dw (tG (kd (L.take k) Dk) (.inr (sg L[k])) (Dk L[k])))
     rw[Dr ok.ok.nd hk]
   . rw[eS]
     refine D1 (dl1:=.val (.obj t.ar (t.Gz six rows wd l ls n))::tl.set 3 (.own (.dw (oi (ua rows N))))) (Bs (f:=ua rows) (g:=xA rows) (tl:=tl) 3 (BV t six rows wd) rfl rfl mx (by omega) T.aK.cl T.bS T.bT hA hB (fun G2=>?_)) (Le.of ⟨rfl,rfl,rfl,rfl,trivial⟩)
     have e4:((L.filter fun _=>true).map fun x=>Dt.tup [.str (sg x),.int (lT rows N x)])=(oi (xA rows N)).map IH:=by
       rw[List.filter_eq_self.mpr (fun _ _=>rfl),Nf]
       exact yn L _
     exact lI T.nL rfl (dB e4 (eO L (fun x=>Dt.str (sg x)) (fun x=>.tup [.str (sg x),.int (lT rows N x)]) (fun x=>[.val (.str (sg x))]) (fun _=>true) rfl (a0 Ox) (gu (aa 2 rfl)) (bF (a0 Ox) rfl) (cK (cF (fQ h7)) (fJ L)) (fun a _=>bQ) (.nil fun _ _=>rfl)
       (fun a ha _ C fp s' H' G'=>cY (ae (aa 0 rfl) (ae (aR (Mi (kds:=kc L (cT rows N a)) T.rA rfl (ip (d:=BS L (cT rows N a)) hu (aa 1 rfl) (aa 0 rfl) (by rw[Gh];exact fK ha) (fun _ _=>rfl)) (.inl rfl)) (by rw[Nd];rfl)) ai)) AA3) (qF (by omega)))) (by rw[Nf,rF];exact jP ok.ok.nd) (by rw[Nf];show(List.map _ _).length<=_;rw[List.length_map,List.length_map];exact qF (by omega))
noncomputable def Yz:Rl:=fun ds r=>∃ z f l:Int,ds=[.int z,.int f,.int l]/\f<=z/\z<=l/\r=.ret .c9
noncomputable def Nj (t:dY):Rl:=fun ds r=>∃ six rows w l ls n age,ds=[.obj t.ar (t.f9 six rows w l ls n),.int ((age:Nat):Int)]/\lW rows w/\ls.map (·.2)=o3 rows/\age<=200/\r=.ret (.xR l ls (age+1))
noncomputable def YA (rows:List Row)(w:List Nat)(age:Nat):Int:=(w.map (lT rows age)).sum
noncomputable def J9 (t:dY):Rl:=fun ds r=>∃ six rows w l ls n age,ds=[.obj t.ar (t.f9 six rows w l ls n),.int ((age:Nat):Int)]/\lW rows w/\ls.map (·.2)=o3 rows/\age<=200/\r=.ret (.int (YA rows w age))
noncomputable def Rp (t:dY):Rl:=fun ds r=>∃ six rows w l ls n,ds=[.obj t.ar (t.f9 six rows w l ls n)]/\r=.ret (t.uJ six rows)
noncomputable abbrev Ka:Stmt->Scope
 | .Return (some (.Call _ (.ListComp _ _ sc _::_) _ _)) _=>sc
 | _=>af (.Pass ⟨0,0,0,0⟩)
noncomputable abbrev U1:Scope:=Ka ((aB dC).getD 1 (.Pass ⟨0,0,0,0⟩))
theorem Oy:gq U1 (af dC) nY ["letter","self","age"] ["letter"] [0,1]=true:=by decide +kernel
theorem lW.asc {rows:List Row}{w:List Nat}(ok:lW rows w):jG (tx w)=true:=uK ok.ok ok.wm
theorem Kb (T:Txt K mg t):GF P w K mg base CX 1 "check_round" 3 Yz:=by
 refine⟨_,_,_,i6 T.fT.F vO rfl fun bf A outer s H E G ds r hr hl hR=>?_,(T.g T.fT.a),T.fT.F.kp,T.fT.b⟩
 obtain⟨z,f,l,rfl,h1,h2,rfl⟩:=hR
 exact⟨_,.nx _,ao (cb (u:=false) (CC (HF (u:=false) (v:=false) (dP (A0 (aa 0 rfl) (aa 1 rfl)) (decide_eq_false (by omega))) fun _=>(CB (dP (D5 (aa 0 rfl) (aa 2 rfl)) (decide_eq_false (by omega)))))) (fun h=>nomatch h) (fun h=>cg))⟩
theorem wj (T:Txt K mg t):MF P w K mg base CX 5 t.ar "enter" 2 (Nj t):=by
 refine⟨T.aK.cl,_,_,_,i6 T.jy.F tX rfl fun bf A outer s H E G ds r hr hl hR=>?_,T.fC,T.jy.b⟩
 obtain⟨six,rows,wd,l,ls,n,age,rfl,ok,mx,i7,rfl⟩:=hR
 have Kc:=Kb (P:=P) (w:=w) (base:=base) T
 have wk:=GB (P:=P) (w:=w) (base:=base) T
 have e2:ls.length=2:=by have:=congrArg List.length mx;simpa [o3] using this
 exact⟨_,pH (nm:=["tallies","lengths"]) (by rw[e2];exact Nat.le_refl 2),ah (l1 (b0 Kc aA hr (ae (aa 1 rfl) (ae aj (ae (jS (w:=.int 200) T.nJ ⟨_,rfl⟩ fun _=>.int 200) ai))) ⟨_,_,_,rfl,by omega,by omega,rfl⟩))
   (ao (mG (m:=age+1) (tl:=[.val (.int ((age:Nat):Int))]) (aQ (fs:=t.f9 six rows wd l ls n) (aa 0 rfl) wk aA hr (ae (aa 1 rfl) ai) ⟨six,rows,wd,l,ls,n,age,rfl,ok,mx,by omega,rfl⟩)))⟩
theorem E3 (T:Txt K mg t):MF P w K mg base CX 6 t.ar "length" 2 (J9 t):=by
 refine⟨T.aK.cl,_,_,_,i6 T.iS.F sL rfl fun bf A outer s H E G ds r hr hl hR=>?_,T.ff,T.iS.b⟩
 obtain⟨six,rows,wd,l,ls,n,age,rfl,ok,mx,i7,rfl⟩:=hR
 have BX:=wj (P:=P) (w:=w) (base:=base) T
 have hu:(A.deeper (envOfC "Growth.length" (af dC) s.heap.objs.size t.cR bf)).units+1 < cLine:=by have:=hr.units;omega
 have w8:=ok.w8
 have e3:((wd.filter fun _=>true).map fun x=>Dt.int (lT rows age x))=(wd.map (lT rows age)).map Dt.int:=by
   rw[List.filter_eq_self.mpr (fun _ _=>rfl),List.map_map];rfl
 exact⟨_,.rt _,ah (mG (m:=age+1) (tl:=[.val (.int ((age:Nat):Int))]) (aQ (fs:=t.f9 six rows wd l ls n) (aa 0 rfl) BX aA hr (ae (aa 1 rfl) ai) ⟨six,rows,wd,l,ls,n,age,rfl,ok,mx,by omega,rfl⟩))
   (ao (aF (sv T.rA rfl (dB e3 (eO wd (fun x=>Dt.str (sg x)) (fun x=>Dt.int (lT rows age x)) (fun x=>[.val (.str (sg x))]) (fun _=>true) rfl (a0 Oy) (gu (aD (fs:=t.f9 six rows wd l ls (age+1)) (aa 0 rfl) T.aK.cl T.gz rfl)) (bF (a0 Oy) rfl) (cK (cF ok.asc) (fJ wd)) (fun a _=>bQ) (.nil fun _ _=>rfl)
     (fun a ha _ C fp s' H' G'=>ip hu (sE (n:=age+1) (j:=1) (f:=xA rows) (aD (fs:=t.f9 six rows wd l ls (age+1)) (aa 1 rfl) T.aK.cl T.bT rfl) (aa 2 rfl) (by rw[mx];rfl) (by omega) (by omega)) (aa 0 rfl) (by rw[Nf];exact fK (ok.wm a ha)) (fun _ _=>rfl)) (qF (by omega)))))))⟩
theorem z5 (T:Txt K mg t):MF P w K mg base CX 1 t.ar "rules_told" 1 (Rp t):=by
 refine⟨T.aK.cl,_,_,_,i6 T.eD.F oS rfl fun bf A outer s H E G ds r hr hl hR=>?_,T.c7,T.eD.b⟩
 obtain⟨six,rows,wd,l,ls,n,rfl,rfl⟩:=hR
 exact⟨_,.rt _,ao (aF (aD (fs:=t.f9 six rows wd l ls n) (aa 0 rfl) T.aK.cl T.bJ rfl))⟩
noncomputable def MM:Int:=2305843009213693951
noncomputable def nQ (ns:List Int)(k:Nat):Int:=ns.getD (k % ns.length) 0
noncomputable def bc (ns:List Int)(k:Nat):Int:=nQ ns k % 10 ^ 60 / MM * MM+(nQ ns k+7919 * ((k:Int)+1)) * 6364136223846793005 % MM
theorem rG (ns:List Int)(k:Nat):0<=bc ns k:=by
 have h1:=Int.emod_nonneg (nQ ns k) (show(10:Int) ^ 60≠0 by decide)
 have h2:=Int.emod_nonneg ((nQ ns k+7919 * ((k:Int)+1)) * 6364136223846793005) (show MM≠0 by decide)
 have h3:0<=nQ ns k % 10 ^ 60 / MM:=Int.ediv_nonneg h1 (by decide)
 unfold bc
 have h4:0<=nQ ns k % 10 ^ 60 / MM * MM:=Int.mul_nonneg h3 (by decide)
 omega
noncomputable def U2:Rl:=fun ds r=>∃ ns:List Int,ns.length<=63/\ds=[.ow ns]/\r=.ret (.bl true)
noncomputable def Kd (K:W.Frag):Sp:=D3 K 1 U2
theorem Rq {K:W.Frag}{H:Hp}{a:Addr}{ns:List Int}(hl:ns.length<=63)(hS:oe K H a (ns.map V.int)):Kd K [.ref a] H (fun v _=>v=.bl true) fun _ _ _=>False:=
 ⟨H,[.ow ns],.ret (.bl true),aE.refl H,.cons (.ow hS) .nil,rfl,⟨ns,hl,rfl,rfl⟩,fun v aH H' g r=>by cases r;rfl⟩
noncomputable def z6:Rl:=fun ds r=>∃ (ns:List Int) (k:Nat),ds=[.ow ns,.int k]/\k<=100/\r=.ret (.int (bc ns k))
theorem Ke (ns:List Int)(k:Nat)(h:k < ns.length):o7 ns (k:Int)=some (ns.getD k 0):=by
 refine mU ?_
 rw[List.getD_eq_getElem?_getD,List.getElem?_eq_getElem h];rfl
theorem wq (T:Txt K mg t):GF P w K mg base CX 1 "_law_cell" 2 z6:=by
 refine⟨_,_,_,i6 T.sQ.F uw rfl fun bf A outer s H E G ds r hr hl hR=>?_,(T.g T.sQ.a),T.sQ.F.kp,T.sQ.b⟩
 obtain⟨ns,k,rfl,hk,rfl⟩:=hR
 refine⟨_,.rt _,ah (au 2 uw.nd aj) (ah (dl1:=[.val (.ow ns),.val (.int k),.val (.int (nQ ns k)),.aL]) (cb (D5 (yN T.jE (aa 0 rfl)) aj) (fun h=>?_) (fun h=>?_))
   (ah (au 3 uw.nd (cO (ja (aT (aa 2 rfl) (ja aj (aT (aa 1 rfl) aj) (uX.ok (Or.inl ⟨by decide,by decide⟩)))) aj (uX.ok (Or.inr ⟨by decide,by decide⟩))) aj (by decide)))
 (ao (aF (aT (ja (gG (cO (aa 2 rfl) (HE aj aj ⟨by decide,by decide,by decide⟩) (by decide)) aj ⟨by decide,by decide +kernel⟩) aj (uX.ok (Or.inr ⟨by decide,by decide⟩))) (aa 3 rfl))))))⟩
 . have h:=of_decide_eq_true h
   have hl:0 < ns.length:=by omega
   have e:((k:Nat):Int) % ((ns.length:Nat):Int)=((k % ns.length:Nat):Int):=by omega
   exact ao (au 2 uw.nd (r0 (aa 0 rfl) (aR (cO (aa 1 rfl) (yN T.jE (aa 0 rfl)) (by omega)) (congrArg Dt.int e)) (Ke ns _ (Nat.mod_lt _ hl))))
 . have h:=of_decide_eq_false h
   have e:nQ ns k=0:=by unfold nQ;rw[List.getD_eq_getElem?_getD,List.getElem?_eq_none (by omega)];rfl
   rw[e]
   exact cg
noncomputable def YB:List Nat:=(List.range 26).map (97 + ·)
structure LS where
 left:List Nat
 rest:Int
 out:List Nat
noncomputable def ls (c:Int):Nat->LS
 | 0=>⟨YB,c,[]⟩
 | k+1=>let s:=ls c k;let at_:=(s.rest % (s.left.length:Nat)).toNat;⟨s.left.take at_ ++ s.left.drop (at_+1),s.rest / (s.left.length:Nat),s.out ++ [s.left.getD at_ 0]⟩
noncomputable def pR (s:LS):Nat:=(s.rest % (s.left.length:Nat)).toNat
structure LOk (k:Nat)(s:LS):Prop where
 len:s.left.length+k=26
 ol:s.out.length=k
 sm:∀ x∈s.left,small x
 so:∀ x∈s.out,small x
 nl:s.left.Nodup
 no:s.out.Nodup
 ap:∀ x∈s.out,x ∉ s.left
theorem Kf {s:LS}(h:0 < s.left.length):pR s < s.left.length:=by
 have h0:=Int.emod_nonneg s.rest (show((s.left.length:Nat):Int)≠0 by omega)
 have h1:=Int.emod_lt_of_pos s.rest (show(0:Int) < (s.left.length:Nat) by omega)
 unfold pR
 omega
theorem Kg (c:Int):∀ k,k<=6->LOk k (ls c k)
 | 0,_=>⟨show YB.length+0=26 by decide,rfl,fun x hx=>by
     obtain⟨i,hi,rfl⟩:=List.mem_map.mp (show x∈(List.range 26).map (97 + ·) from hx)
     have:=List.mem_range.mp hi
     unfold small;omega,fun x h=>absurd h (List.not_mem_nil),show YB.Nodup by decide,List.nodup_nil,fun x h=>absurd h (List.not_mem_nil)⟩
 | k+1,hk=>by
   have ih:=Kg c k (by omega)
   have hl:=ih.len
   have dy:pR (ls c k) < (ls c k).left.length:=Kf (by omega)
   generalize hs:ls c k=s at ih hl dy
   have e:ls c (k+1)=⟨s.left.take (pR s) ++ s.left.drop (pR s+1),s.rest / (s.left.length:Nat),s.out ++ [s.left.getD (pR s) 0]⟩:=by rw[<- hs];rfl
   rw[e]
   have eg:s.left.getD (pR s) 0=s.left[pR s]:=by rw[List.getD_eq_getElem?_getD,List.getElem?_eq_getElem dy];rfl
   have sub:s.left.take (pR s) ++ s.left.drop (pR s+1)=s.left.eraseIdx (pR s):=(List.eraseIdx_eq_take_drop_succ _ _).symm
   have mem:∀ x∈s.left.take (pR s) ++ s.left.drop (pR s+1),x∈s.left:=fun x hx=>by
     rcases List.mem_append.mp hx with h | h
     . exact List.mem_of_mem_take h
     . exact List.mem_of_mem_drop h
   have Qg:s.left[pR s]∈s.left:=List.getElem_mem dy
   have nin:s.left[pR s] ∉ s.left.take (pR s) ++ s.left.drop (pR s+1):=by
     have pw:=List.pairwise_iff_getElem.mp ih.nl
     intro h
     rcases List.mem_append.mp h with h | h
     . obtain⟨i,hi,e⟩:=List.mem_iff_getElem.mp h
       rw[List.length_take] at hi
       rw[List.getElem_take] at e
       exact pw i (pR s) (by omega) dy (by omega) e
     . obtain⟨i,hi,e⟩:=List.mem_iff_getElem.mp h
       rw[List.length_drop] at hi
       rw[List.getElem_drop] at e
       exact pw (pR s) (pR s+1+i) dy (by omega) (by omega) e.symm
   refine⟨?_,?_,fun x hx=>ih.sm x (mem x hx),fun x hx=>?_,?_,?_,fun x hx=>?_⟩
   . show(s.left.take (pR s) ++ s.left.drop (pR s+1)).length+(k+1)=26
     rw[List.length_append,List.length_take,List.length_drop];omega
   . show(s.out ++ [s.left.getD (pR s) 0]).length=k+1
     rw[List.length_append,ih.ol];rfl
   . rcases List.mem_append.mp hx with h | h
     . exact ih.so x h
     . have:x=s.left[pR s]:=by rw[<- eg];simpa using h
       rw[this];exact ih.sm _ Qg
   . show(s.left.take (pR s) ++ s.left.drop (pR s+1)).Nodup
     rw[sub]
     exact List.Nodup.sublist (List.eraseIdx_sublist _ _) ih.nl
   . show(s.out ++ [s.left.getD (pR s) 0]).Nodup
     rw[eg]
     refine List.nodup_append.mpr ⟨ih.no,by simp,fun a ha b hb z=>?_⟩
     have:b=s.left[pR s]:=by simpa using hb
     subst z this
     exact ih.ap _ ha Qg
   . rcases List.mem_append.mp hx with h | h
     . exact fun z=>ih.ap x h (mem x z)
     . have:x=s.left[pR s]:=by rw[<- eg];simpa using h
       rw[this];exact nin
noncomputable def ws (L:List Nat)(c m:Int):Nat->Int×List Nat
 | 0=>(c / m,[])
 | k+1=>let s:=ws L c m k;(s.1 / (L.length:Nat),s.2 ++ [L.getD (s.1 % (L.length:Nat)).toNat 0])
noncomputable def wt (L:List Nat)(c m:Int):List Nat:=(ws L c m (1+c % m).toNat).2
theorem sV (L:List Nat)(c m:Int):∀ k,(ws L c m k).2.length=k
 | 0=>rfl
 | k+1=>by show((ws L c m k).2 ++ [_]).length=_;rw[List.length_append,sV L c m k];rfl
theorem z7 (L:List Nat)(hL:0 < L.length)(c m:Int):∀ k,∀ x∈(ws L c m k).2,x∈L
 | 0,x,h=>by cases h
 | k+1,x,h=>by
   rcases List.mem_append.mp h with h | h
   . exact z7 L hL c m k x h
   . have h0:=Int.emod_nonneg (ws L c m k).1 (show((L.length:Nat):Int)≠0 by omega)
     have h1:=Int.emod_lt_of_pos (ws L c m k).1 (show(0:Int) < (L.length:Nat) by omega)
     have dy:((ws L c m k).1 % (L.length:Nat)).toNat < L.length:=by omega
     have:x=L.getD ((ws L c m k).1 % (L.length:Nat)).toNat 0:=by simpa using h
     rw[this,List.getD_eq_getElem?_getD,List.getElem?_eq_getElem dy]
     exact List.getElem_mem dy
theorem at_getD {L:List Str}{i:Int}{n:Nat}(hn:L.length=n)(h0:0<=i)(h1:i < n):o7 (L.map Dt.str) i=some (.str (L.getD i.toNat "")):=by
 have e:i=((i.toNat:Nat):Int):=by omega
 rw[e]
 have hk:i.toNat < L.length:=by omega
 refine(mU (j:=i.toNat) ?_).trans rfl
 rw[List.getElem?_map,List.getElem?_eq_getElem hk,List.getD_eq_getElem?_getD]
 show some (Dt.str L[i.toNat])=some (Dt.str ((L[(i.toNat:Int).toNat]?).getD ""))
 rw[Int.toNat_natCast,List.getElem?_eq_getElem hk];rfl
theorem z8 {L:List Nat}(hL:0 < L.length)(c m:Int)(hm:0 < m):0 < (wt L c m).length/\(wt L c m).length<=m.toNat/\∀ x∈wt L c m,x∈L:=by
 have h0:=Int.emod_nonneg c (show m≠0 by omega)
 have h1:=Int.emod_lt_of_pos c hm
 have hl:=sV L c m (1+c % m).toNat
 refine⟨?_,?_,z7 L hL c m _⟩
 . show 0 < (ws L c m (1+c % m).toNat).2.length;omega
 . show(ws L c m (1+c % m).toNat).2.length<=_;omega
noncomputable def wu (c:Int)(n:Nat):List Nat:=(ls c n).out
theorem BY (c:Int){n:Nat}(h:n<=6):(wu c n).length=n/\(wu c n).Nodup/\∀ x∈wu c n,small x:=let ok:=Kg c n h;⟨ok.ol,ok.no,ok.so⟩
noncomputable def Nk:Rl:=fun ds r=>∃ (c:Int) (n:Nat),ds=[.int c,.int n]/\n<=6/\r=.ret (.str (tx (wu c n)))
noncomputable def Rr:Rl:=fun ds r=>∃ (L:List Nat) (c m:Int),ds=[.int c,.str (tx L),.int m]/\(0 < L.length/\L.length<=100)/\(0<=c/\0 < m/\m<=500)/\r=.ret (.str (tx (wt L c m)))
theorem Kh (T:Txt K mg t):GF P w K mg base CX 1 "_law_alphabet" 2 Nk:=by
 refine⟨_,_,_,i6 T.jO.F tK rfl fun bf A outer s H E G ds r hr hl hR=>?_,(T.g T.jO.a),T.jO.F.kp,T.jO.b⟩
 obtain⟨c,n,rfl,hn,rfl⟩:=hR
 have nd:=tK.nd
 let S:Nat->List Slot:=fun k=>[.val (.int (ls c k).rest),.val (.int n),.val (.str (tx (ls c k).left)),.val (.str (tx (ls c k).out)),.aL,.aL]
 refine⟨_,.rt _,ah (au 2 nd cN) (ah (au 3 nd cN)
   (ah (lz (o:=.nx (S n)) (m:=n) 4 S nd rfl PassesOwn.leaving T.j9 (ae (aa 1 rfl) ai) ⟨by omega,by omega⟩ (Le.of ⟨rfl,rfl,rfl,rfl,trivial⟩) (by omega) (fun k hk=>?_) (by rw[Int.toNat_natCast];exact .all rfl)) (ao (aF (aa 3 rfl)))))⟩
 have ok:=Kg c k (by omega)
 have hl:=ok.len
 have hol:=ok.ol
 have dy:pR (ls c k) < (ls c k).left.length:=Kf (by omega)
 have ea:(ls c k).rest % (((ls c k).left.length:Nat):Int)=((pR (ls c k):Nat):Int):=by
   have h0:=Int.emod_nonneg (ls c k).rest (show(((ls c k).left.length:Nat):Int)≠0 by omega)
   unfold pR;omega
 have ea1:((pR (ls c k):Nat):Int)+1=((pR (ls c k)+1:Nat):Int):=by omega
 have hb:0 < (((ls c k).left.length:Nat):Int)/\(((ls c k).left.length:Nat):Int).natAbs.log2 < 9000:=⟨by omega,by
   have:(((ls c k).left.length:Nat):Int).natAbs<=26:=by omega
   exact Nat.lt_of_le_of_lt (Nat.log2_le_self _) (by omega)⟩
 exact .nx (ah (au 5 nd (aR (cO (aa 0 rfl) (oX T.jE (aa 2 rfl) (by omega)) (by omega)) (congrArg Dt.int ea)))
   (ah (au 0 nd (gG (aa 0 rfl) (oX T.jE (aa 2 rfl) (by omega)) hb))
   (ah (au 3 nd (pP (aa 3 rfl) (zP (aa 2 rfl) (aa 5 rfl) dy (by omega)) (by rw[hol];show k+1<=2000;omega)))
   (ao (au 2 nd (pP (EH (aa 2 rfl) (aa 5 rfl) (Nat.le_of_lt dy) (by omega)) (yg (aa 2 rfl) (aR (aT (aa 5 rfl) aj) (congrArg Dt.int ea1)) dy (by omega)) (by rw[List.length_take,List.length_drop];omega))))))) (Le.of ⟨rfl,rfl,rfl,rfl,trivial⟩)
theorem Nl (T:Txt K mg t):GF P w K mg base CX 1 "_law_text" 3 Rr:=by
 refine⟨_,_,_,i6 T.sR.F Eu rfl fun bf A outer s H E G ds r hr hl hR=>?_,(T.g T.sR.a),T.sR.F.kp,T.sR.b⟩
 obtain⟨L,c,m,rfl,⟨hL0,hL⟩,⟨hc,HK,hm⟩,rfl⟩:=hR
 have nd:=Eu.nd
 have h0:=Int.emod_nonneg c (show m≠0 by omega)
 have h1:=Int.emod_lt_of_pos c HK
 have YC:0 < m/\m.natAbs.log2 < 9000:=⟨HK,Nat.lt_of_le_of_lt (Nat.log2_le_self _) (by omega)⟩
 have hLb:0 < ((L.length:Nat):Int)/\((L.length:Nat):Int).natAbs.log2 < 9000:=⟨by omega,Nat.lt_of_le_of_lt (Nat.log2_le_self _) (by omega)⟩
 let S:Nat->List Slot:=fun k=>[.val (.int (ws L c m k).1),.val (.str (tx L)),.val (.int m),.val (.str (tx (ws L c m k).2)),.val (.int (1+c % m)),.aL]
 refine⟨_,.rt _,ah (au 3 nd cN) (ah (au 4 nd (aT aj (cO (aa 0 rfl) (aa 2 rfl) HK))) (ah (au 0 nd (gG (aa 0 rfl) (aa 2 rfl) YC))
   (ah (lz (m:=(1+c % m).toNat) 5 S nd rfl PassesOwn.leaving T.j9 (ae (aa 4 rfl) ai) ⟨by omega,by omega⟩ (Le.of ⟨rfl,rfl,rfl,rfl,rfl,trivial⟩) (Nat.le_refl _) (fun k hk=>?_) (.all rfl)) (ao (aF (aa 3 rfl))))))⟩
 have DY:=sV L c m k
 have h2:=Int.emod_nonneg (ws L c m k).1 (show((L.length:Nat):Int)≠0 by omega)
 have h3:=Int.emod_lt_of_pos (ws L c m k).1 (show(0:Int) < (L.length:Nat) by omega)
 have ea:(ws L c m k).1 % ((L.length:Nat):Int)=((((ws L c m k).1 % (L.length:Nat)).toNat:Nat):Int):=by omega
 exact .nx (ah (au 3 nd (pP (aa 3 rfl) (zP (aa 1 rfl) (aR (cO (aa 0 rfl) (oX T.jE (aa 1 rfl) (by omega)) (by omega)) (congrArg Dt.int ea)) (by omega) (by omega)) (by rw[DY];show k+1<=2000;omega)))
   (ao (au 0 nd (gG (aa 0 rfl) (oX T.jE (aa 1 rfl) (by omega)) hLb)))) (Le.of ⟨rfl,rfl,rfl,rfl,rfl,trivial⟩)
noncomputable def E4:List Str:=["stroke","left","right","step","rest"]
noncomputable def dG (c:Int):Str:=E4.getD (c % 5).toNat ""
theorem GC:∀ x∈E4,x∈qk:=by decide
theorem Rt (c:Int):dG c∈qk:=by
 have h0:=Int.emod_nonneg c (show(5:Int)≠0 by decide)
 have h1:=Int.emod_lt_of_pos c (show(0:Int) < 5 by decide)
 have hk:(c % 5).toNat < E4.length:=by show _ < 5;omega
 refine GC _ ?_
 unfold dG
 rw[List.getD_eq_getElem?_getD,List.getElem?_eq_getElem hk]
 exact List.getElem_mem hk
noncomputable def xB (L:List Nat)(ns:List Int)(m:Int)(k:Nat):Row:=⟨L.getD k 0,dG (bc ns (3+k)),wt L (bc ns (3+k) / 5) m⟩
noncomputable def wz (L:List Nat)(ns:List Int)(m:Int):List Row:=(List.range L.length).map (xB L ns m)
theorem Dv (L:List Nat)(ns:List Int)(m:Int):(wz L ns m).map (·.c)=L:=by
 unfold wz
 rw[List.map_map]
 refine List.ext_getElem (by simp) fun i h1 h2=>?_
 simp only[List.getElem_map,List.getElem_range,Function.comp]
 show L.getD i 0=L[i]
 rw[List.getD_eq_getElem?_getD,List.getElem?_eq_getElem h2];rfl
theorem Ki {L:List Nat}(ns:List Int){m:Int}(hm:0 < m/\m<=8)(h0:0 < L.length)(h6:L.length<=6)(nd:L.Nodup)(sm:∀ x∈L,small x):aM (wz L ns m):=by
 have hl:(wz L ns m).length=L.length:=by unfold wz;rw[List.length_map,List.length_range]
 have get:∀ r∈wz L ns m,∃ k,k < L.length/\r=xB L ns m k:=fun r hr=>by
   obtain⟨k,hk,e⟩:=List.mem_map.mp hr
   exact⟨k,List.mem_range.mp hk,e.symm⟩
 refine⟨by omega,by omega,by rw[Dv];exact nd,fun r hr=>?_,fun r hr=>?_,fun r hr=>?_,fun r hr x hx=>?_⟩
 . obtain⟨k,hk,rfl⟩:=get r hr
   refine sm _ ?_
   show L.getD k 0∈L
   rw[List.getD_eq_getElem?_getD,List.getElem?_eq_getElem hk]
   exact List.getElem_mem hk
 . obtain⟨k,hk,rfl⟩:=get r hr
   exact Rt _
 . obtain⟨k,hk,rfl⟩:=get r hr
   have:=z8 h0 (bc ns (3+k) / 5) m hm.1
   exact⟨this.1,by have:=this.2.1;show(wt _ _ _).length<=8;omega⟩
 . obtain⟨k,hk,rfl⟩:=get r hr
   rw[Dv]
   exact(z8 h0 (bc ns (3+k) / 5) m hm.1).2.2 x hx
noncomputable def sW (ns:List Int)(far:Int):Int:=if bc ns 1 % 8=6 then bc ns 1 / 8 % (far+1) else bc ns 1 / 8 % 13
noncomputable def n9 (ns:List Int)(far:Int):Int:=if bc ns 1 % 8=7 then 200 - bc ns 1 / 8 % 100 else sW ns far
noncomputable def jB (ns:List Int):Int:=if bc ns 1 % 8=7 then 1+bc ns 0 / 2 % 2 else 1+bc ns 0 / 2 % 6
noncomputable def sX (ns:List Int):Int:=if bc ns 1 % 8=7 then 2 else 8
noncomputable def E5 (ns:List Int):List Nat:=wu (bc ns 0 / 12) (jB ns).toNat
noncomputable def wA (ns:List Int):List Row:=wz (E5 ns) ns (sX ns)
noncomputable def uQ (ns:List Int):List Nat:=wt (E5 ns) (bc ns 2) 8
noncomputable def E6 (ns:List Int):Bool:=decide (bc ns 0 % 2=1)
theorem U3 (ns:List Int):4+2 * (bc ns 0 % 2)=wy (E6 ns):=by
 have:bc ns 0 % 2=0\/bc ns 0 % 2=1:=by omega
 unfold E6
 rcases this with h | h <;> rw[h] <;> rfl
theorem wC (ns:List Int):1<=jB ns/\jB ns<=6:=by
 unfold jB
 split <;> omega
theorem BZ (ns:List Int):0 < sX ns/\sX ns<=8:=by
 unfold sX
 split <;> omega
theorem Nm (ns:List Int){far:Int}(h0:0<=far)(h:far<=200):0<=n9 ns far/\n9 ns far<=200:=by
 have h1:=Int.emod_nonneg (bc ns 1 / 8) (show far+1≠0 by omega)
 have h2:=Int.emod_lt_of_pos (bc ns 1 / 8) (show(0:Int) < far+1 by omega)
 unfold n9 sW
 split
 . omega
 . split <;> omega
theorem Dw (ns:List Int):0 < (E5 ns).length/\(E5 ns).length<=6/\(E5 ns).Nodup/\∀ x∈E5 ns,small x:=by
 have hb:=wC ns
 have ok:=BY (bc ns 0 / 12) (n:=(jB ns).toNat) (by omega)
 unfold E5
 exact⟨by omega,by omega,ok.2.1,ok.2.2⟩
theorem Ru (ns:List Int):(E5 ns).length=(jB ns).toNat:=by
 have hb:=wC ns
 exact(BY (bc ns 0 / 12) (n:=(jB ns).toNat) (by omega)).1
theorem U4 (ns:List Int):aM (wA ns):=let h:=Dw ns;Ki ns (BZ ns) h.1 h.2.1 h.2.2.1 h.2.2.2
theorem U5 (ns:List Int):lW (wA ns) (uQ ns):=by
 have h:=Dw ns
 have w:=z8 h.1 (bc ns 2) 8 (by decide)
 exact⟨U4 ns,w.1,w.2.1,fun x hx=>by unfold wA;rw[Dv];exact w.2.2 x hx⟩
noncomputable def Nn:Rl:=fun ds r=>∃ (ns:List Int) (far:Int),ds=[.ow ns,.int far]/\(0<=far/\far<=200)/\r=.ret (.tup [.int (wy (E6 ns)),.lst ((wA ns).map f6),.str (tx (uQ ns)),.int (n9 ns far)])
theorem Kj (T:Txt K mg t):GF P w K mg base CX 2 "_law_shape" 2 Nn:=by
 refine⟨_,_,_,i6 T.pN.F BA rfl fun bf A outer s H E G ds r hr hl hR=>?_,(T.g T.pN.a),T.pN.F.kp,T.pN.b⟩
 obtain⟨ns,far,rfl,⟨hf0,hf⟩,rfl⟩:=hR
 have nd:=BA.nd
 have jQ:=wq (P:=P) (w:=w) (base:=base) T
 have Np:=Kh (P:=P) (w:=w) (base:=base) T
 have Kk:=Nl (P:=P) (w:=w) (base:=base) T
 have hM:=wC ns
 have hm:=BZ ns
 have hL:=Dw ns
 have hlen:=Ru ns
 have eM:jB ns=(((jB ns).toNat:Nat):Int):=by omega
 let c0:=bc ns 0
 let c1:=bc ns 1
 let L:=E5 ns
 let m:=sX ns
 let D:Int->Int->Int->List Slot:=fun a b c=>[.val (.ow ns),.val (.int far),.val (.int c0),.val (.int (c1 % 8)),.val (.int a),.val (.int b),.val (.int c),.aL,.aL,.aL,.aL,.aL,.aL]
 let S:Nat->List Slot:=fun k=>[.val (.ow ns),.val (.int far),.val (.int c0),.val (.int (c1 % 8)),.val (.int (n9 ns far)),.val (.int (jB ns)),.val (.int m),.val (.str (tx L)),.own (.lst (((List.range k).map (xB L ns m)).map f6)),.aL,.aL,.aL,.aL]
 have cl:∀ (j:Nat),j<=100->z6 [.ow ns,.int j] (.ret (.int (bc ns j))):=fun j hj=>⟨ns,j,rfl,hj,rfl⟩
 refine⟨_,.rt _,ah (au 2 nd (b0 jQ aA hr (ae (aa 0 rfl) (ae aj ai)) (cl 0 (by decide))))
   (ah (au 3 nd (cO (b0 jQ aA hr (ae (aa 0 rfl) (ae aj ai)) (cl 1 (by decide))) aj (by decide)))
   (ah (au 4 nd (cO (gG (b0 jQ aA hr (ae (aa 0 rfl) (ae aj ai)) (cl 1 (by decide))) aj ⟨by decide,by decide +kernel⟩) aj (by decide)))
   (ah (au 5 nd (aT aj (cO (gG (aa 2 rfl) aj ⟨by decide,by decide +kernel⟩) aj (by decide))))
   (ah (au 6 nd aj)
   (ah (dl1:=D (sW ns far) (1+c0 / 2 % 6) 8) (cb (sd (aa 3 rfl) aj) (fun h=>?_) (fun h=>?_))
   (ah (dl1:=D (n9 ns far) (jB ns) m) (cb (sd (aa 3 rfl) aj) (fun h=>?_) (fun h=>?_))
   (ah (au 7 nd (d:=.str (tx L)) (b0 Np aA hr (ae (gG (aa 2 rfl) aj ⟨by decide,by decide +kernel⟩) (ae (aR (aa 5 rfl) (congrArg Dt.int eM)) ai)) ⟨c0 / 12,(jB ns).toNat,rfl,by omega,rfl⟩))
   (ah (kN 8 nd (sh ai AA3))
   (ah (dl1:=S L.length) (lz (o:=.nx (S L.length)) (m:=L.length) 9 S nd rfl PassesOwn.leaving T.j9 (ae (aR (aa 5 rfl) (congrArg Dt.int eM)) ai) ⟨by omega,by omega⟩ (Le.of ⟨rfl,rfl,rfl,rfl,rfl,rfl,rfl,rfl,rfl,trivial⟩) (by show(E5 ns).length<=_;omega) (fun k hk=>?_) (by rw[Int.toNat_natCast,<- hlen];exact .all rfl))
   (ah (au 12 nd (d:=.str (tx (uQ ns))) (b0 Kk aA hr (ae (b0 jQ aA hr (ae (aa 0 rfl) (ae aj ai)) (cl 2 (by decide))) (ae (aa 7 rfl) (ae aj ai))) ⟨L,bc ns 2,8,rfl,⟨hL.1,by show(E5 ns).length<=100;omega⟩,⟨rG _ _,by decide,by decide⟩,rfl⟩))
   (vn (w:=.lst (((List.range L.length).map (xB L ns m)).map f6)) 8 (ao (aF (cY (ae (aR (aT aj (ja aj (cO (aa 2 rfl) aj (by decide)) (uX.ok (Or.inl ⟨by decide,by decide⟩)))) (congrArg Dt.int (U3 ns))) (ae (aa 8 rfl) (ae (aa 12 rfl) (ae (aa 4 rfl) ai)))) AA3))))))))))))))⟩
 . have h:=of_decide_eq_true h
   have e:sW ns far=c1 / 8 % (far+1):=if_pos h
   rw[e]
   exact ao (au 4 nd (cO (gG (b0 jQ aA hr (ae (aa 0 rfl) (ae aj ai)) (cl 1 (by decide))) aj ⟨by decide,by decide +kernel⟩) (aT (aa 1 rfl) aj) (by omega)))
 . have h:=of_decide_eq_false h
   have e:sW ns far=c1 / 8 % 13:=if_neg h
   rw[e]
   exact cg
 . have h:=of_decide_eq_true h
   have e1:n9 ns far=200 - c1 / 8 % 100:=if_pos h
   have e2:jB ns=1+c0 / 2 % 2:=if_pos h
   have e3:m=2:=if_pos h
   rw[e1,e2,e3]
   exact ah (au 4 nd (lF aj (cO (gG (b0 jQ aA hr (ae (aa 0 rfl) (ae aj ai)) (cl 1 (by decide))) aj ⟨by decide,by decide +kernel⟩) aj (by decide))))
     (ah (au 5 nd (aT aj (cO (gG (aa 2 rfl) aj ⟨by decide,by decide +kernel⟩) aj (by decide)))) (ao (au 6 nd aj)))
 . have h:=of_decide_eq_false h
   have e1:n9 ns far=sW ns far:=if_neg h
   have e2:jB ns=1+c0 / 2 % 6:=if_neg h
   have e3:m=8:=if_neg h
   rw[e1,e2,e3]
   exact cg
 . have hk:k < (E5 ns).length:=hk
   have h0:=Int.emod_nonneg (bc ns (3+k)) (show(5:Int)≠0 by decide)
   have h1:=Int.emod_lt_of_pos (bc ns (3+k)) (show(0:Int) < 5 by decide)
   have hnn:=rG ns (3+k)
   have e:((List.range (k+1)).map (xB L ns m)).map f6=((List.range k).map (xB L ns m)).map f6 ++ [f6 (xB L ns m k)]:=by
     rw[List.range_succ,List.map_append,List.map_append];rfl
   refine .nx (ah (au 10 nd (b0 jQ aA hr (ae (aa 0 rfl) (ae (aR (aT aj (aa 9 rfl)) (congrArg Dt.int (show(3:Int)+(k:Int)=((3+k:Nat):Int) by omega))) ai)) (cl (3+k) (by omega))))
     (ah (au 11 nd (d:=.str (dG (bc ns (3+k)))) (aI (cY (ae cN (ae cN (ae cN (ae cN (ae cN ai))))) AA3) (cO (aa 10 rfl) aj (by decide)) (at_getD (L:=E4) (n:=5) rfl h0 h1)))
     (ao (si (ds:=((List.range k).map (xB L ns m)).map f6) 8 (d:=f6 (xB L ns m k)) (cY (ae (zP (aa 7 rfl) (aa 9 rfl) hk (by show(E5 ns).length<=2000;omega)) (ae (aa 11 rfl) (ae (b0 Kk aA hr (ae (gG (aa 10 rfl) aj ⟨by decide,by decide +kernel⟩) (ae (aa 7 rfl) (ae (aa 6 rfl) ai))) ⟨L,bc ns (3+k) / 5,m,rfl,⟨hL.1,by show(E5 ns).length<=100;omega⟩,⟨Int.ediv_nonneg hnn (by decide),hm.1,by have:=hm.2;show sX ns<=500;omega⟩,rfl⟩) ai))) AA3) (by rw[List.length_map,List.length_map,List.length_range];exact Nat.lt_of_lt_of_le (show k < 2000 by omega) (by decide)))))) (Le.of ⟨rfl,rfl,rfl,rfl,rfl,rfl,rfl,rfl,?_,trivial⟩)
   show Slot.own (.lst (((List.range (k+1)).map (xB L ns m)).map f6))=_
   rw[e]
theorem B0 (B:List Nat)(f g:Nat->Int):(B.map fun b=>f b+g b).sum=(B.map f).sum+(B.map g).sum:=by
 induction B with
 | nil=>rfl
 | cons b B ih=>rw[List.map_cons,List.sum_cons,ih,List.map_cons,List.sum_cons,List.map_cons,List.sum_cons];omega
theorem wD (B:List Nat):(B.map fun _=>(0:Int)).sum=0:=by
 induction B with
 | nil=>rfl
 | cons b B ih=>rw[List.map_cons,List.sum_cons,ih];rfl
theorem GD (A B:List Nat)(f:Nat->Nat->Int):(A.map fun a=>(B.map fun b=>f a b).sum).sum=(B.map fun b=>(A.map fun a=>f a b).sum).sum:=by
 induction A with
 | nil=>exact(wD B).symm
 | cons a A ih=>
   rw[List.map_cons,List.sum_cons,ih,<- B0]
   rfl
noncomputable def gP (rows:List Row):Nat->Nat->List Nat
 | 0,c=>[c]
 | r+1,c=>(wordOf rows c).flatMap (gP rows r)
theorem YD (rows:List Row)(r c:Nat):lT rows (r+1) c=((wordOf rows c).map (lT rows r)).sum:=by
 unfold lT
 exact(GD (wordOf rows c) (rows.map (·.c)) fun y x=>cT rows r y x).symm
theorem i5 {rows:List Row}(ok:aM rows){c:Nat}(hc:c∈rows.map (·.c)):(∀ y∈wordOf rows c,y∈rows.map (·.c))/\0 < (wordOf rows c).length/\(wordOf rows c).length<=8:=by
 obtain⟨q,hq,_,_,ew⟩:=dX hc
 rw[ew]
 exact⟨ok.wo q hq,ok.wp q hq⟩
theorem wF {f:Nat->List Nat}{g:Nat->Int}:∀ {w:List Nat},(∀ y∈w,(((f y).length:Nat):Int)=g y)->(((w.flatMap f).length:Nat):Int)=(w.map g).sum
 | [],_=>rfl
 | y::w,h=>by
   rw[List.flatMap_cons,List.length_append,List.map_cons,List.sum_cons,<- h y (by simp),<- wF (f:=f) (g:=g) fun z hz=>h z (by simp[hz])]
   omega
theorem Dx {rows:List Row}(ok:aM rows):∀ (r:Nat) {c:Nat},c∈rows.map (·.c)->(((gP rows r c).length:Nat):Int)=lT rows r c
 | 0,c,hc=>by rw[UW ok hc];rfl
 | r+1,c,hc=>by
   rw[YD]
   exact wF fun y hy=>Dx ok r ((i5 ok hc).1 y hy)
theorem Kl {rows:List Row}(ok:aM rows):∀ (r:Nat) {c:Nat},c∈rows.map (·.c)->0 < (gP rows r c).length
 | 0,c,hc=>by show 0 < [c].length;simp
 | r+1,c,hc=>by
   obtain⟨h1,h2,_⟩:=i5 ok hc
   show 0 < ((wordOf rows c).flatMap (gP rows r)).length
   cases hw:wordOf rows c with
   | nil=>rw[hw] at h2;simp at h2
   | cons y w=>
     have:=Kl ok r (h1 y (by rw[hw];simp))
     rw[List.flatMap_cons,List.length_append];omega
noncomputable abbrev Pc:=Nat×Nat
noncomputable def sY (p:Pc):Dt:=.tup [.int ((p.1:Nat):Int),.str (sg p.2)]
noncomputable def flat (rows:List Row)(st:List Pc):List Nat:=st.flatMap fun p=>gP rows p.1 p.2
noncomputable def wp (r:Nat)(w:List Nat):List Pc:=w.map fun c=>(r,c)
theorem B1 (rows:List Row)(a b:List Pc):flat rows (a ++ b)=flat rows a ++ flat rows b:=List.flatMap_append
theorem z9 (rows:List Row)(r:Nat)(w:List Nat):flat rows (wp r w)=w.flatMap (gP rows r):=by unfold flat wp;rw[List.flatMap_map]
theorem U6 (rows:List Row)(p:Pc):flat rows [p]=gP rows p.1 p.2:=by unfold flat;simp
theorem sZ (rows:List Row)(p:Pc)(st:List Pc):flat rows (p::st)=gP rows p.1 p.2 ++ flat rows st:=by unfold flat;rw[List.flatMap_cons]
structure PS where
 place:Nat
 st:List Pc
 bt:List Pc
noncomputable def o4 (rows:List Row)(b e:Nat)(s:PS):PS:=match s.st with
 | []=>s
 | p::st=>
   if s.place+(gP rows p.1 p.2).length<=b then ⟨s.place+(gP rows p.1 p.2).length,st,s.bt⟩
   else if b<=s.place/\s.place+(gP rows p.1 p.2).length<=e then ⟨s.place+(gP rows p.1 p.2).length,st,s.bt ++ [p]⟩
   else ⟨s.place,wp (p.1 - 1) (wordOf rows p.2) ++ st,s.bt⟩
noncomputable def run (rows:List Row)(b e:Nat)(s:PS):Nat->PS
 | 0=>s
 | k+1=>o4 rows b e (run rows b e s k)
theorem Km (rows:List Row)(b e:Nat)(s:PS):∀ k,run rows b e s (k+1)=run rows b e (o4 rows b e s) k
 | 0=>rfl
 | k+1=>by
   show o4 rows b e (run rows b e s (k+1))=o4 rows b e (run rows b e (o4 rows b e s) k)
   rw[Km rows b e s k]
structure Sb (rows:List Row)(age b e:Nat)(W:List Nat)(s:PS):Prop where
 be:b<=e
 ew:e<=W.length
 pe:s.place<=e
 fl:flat rows s.st=W.drop s.place
 fb:flat rows s.bt=(W.take s.place).drop b
 mb:∀ p∈s.st,p.2∈rows.map (·.c)/\p.1<=age
 mt:∀ p∈s.bt,p.2∈rows.map (·.c)/\p.1<=age
noncomputable def ins (b p q:Nat):Nat:=if p < b/\b < q then 1 else 0
theorem Kn (b p q:Nat):ins b p q<=1:=by unfold ins;split <;> omega
theorem E7 (b:Nat){p q r:Nat}(h1:p<=q)(h2:q<=r):ins b p q+ins b q r<=ins b p r:=by
 unfold ins
 split <;> split <;> split <;> omega
noncomputable def mu (rows:List Row)(b e:Nat):Nat->List Pc->Nat
 | _,[]=>0
 | p,x::st=>1+8 * x.1 * (ins b p (p+(gP rows x.1 x.2).length)+ins e p (p+(gP rows x.1 x.2).length))+mu rows b e (p+(gP rows x.1 x.2).length) st
theorem Ko (rows:List Row)(b e:Nat):∀ (p:Nat) (st:List Pc),st.length<=mu rows b e p st
 | _,[]=>Nat.le_refl 0
 | p,x::st=>by
   have:=Ko rows b e (p+(gP rows x.1 x.2).length) st
   rw[mu,List.length_cons];omega
theorem Kq (rows:List Row)(b e r:Nat)(st:List Pc):∀ (p:Nat) (w:List Nat),mu rows b e p (wp r w ++ st)<=w.length+8 * r * (ins b p (p+(flat rows (wp r w)).length)+ins e p (p+(flat rows (wp r w)).length))+mu rows b e (p+(flat rows (wp r w)).length) st
 | p,[]=>by
   show mu rows b e p st<=_
   have:p+(flat rows (wp r [])).length=p:=rfl
   rw[this];omega
 | p,c::w=>by
   have ih:=Kq rows b e r st (p+(gP rows r c).length) w
   have el:p+(flat rows (wp r (c::w))).length=p+(gP rows r c).length+(flat rows (wp r w)).length:=by
     show p+(flat rows ((r,c)::wp r w)).length=_
     rw[sZ,List.length_append];exact(Nat.add_assoc _ _ _).symm
   rw[el]
   have c1:=E7 b (Nat.le_add_right p (gP rows r c).length) (Nat.le_add_right (p+(gP rows r c).length) (flat rows (wp r w)).length)
   have c2:=E7 e (Nat.le_add_right p (gP rows r c).length) (Nat.le_add_right (p+(gP rows r c).length) (flat rows (wp r w)).length)
   have m:=Nat.mul_le_mul_left (8 * r) (Nat.add_le_add c1 c2)
   have m2:8 * r * (ins b p (p+(gP rows r c).length)+ins e p (p+(gP rows r c).length))+8 * r * (ins b (p+(gP rows r c).length) (p+(gP rows r c).length+(flat rows (wp r w)).length)+ins e (p+(gP rows r c).length) (p+(gP rows r c).length+(flat rows (wp r w)).length))<=8 * r * (ins b p (p+(gP rows r c).length+(flat rows (wp r w)).length)+ins e p (p+(gP rows r c).length+(flat rows (wp r w)).length)):=by
     rw[<- Nat.mul_add]
     refine Nat.le_trans (Nat.mul_le_mul_left _ ?_) m
     omega
   show mu rows b e p ((r,c)::(wp r w ++ st))<=_
   rw[mu,List.length_cons]
   show 1+8 * r * (ins b p (p+(gP rows r c).length)+ins e p (p+(gP rows r c).length))+mu rows b e (p+(gP rows r c).length) (wp r w ++ st)<=_
   omega
theorem Dy {rows:List Row}(ok:aM rows){age b e:Nat}{W:List Nat}{s:PS}(I:Sb rows age b e W s)(hp:s.place < e):Sb rows age b e W (o4 rows b e s)/\mu rows b e (o4 rows b e s).place (o4 rows b e s).st < mu rows b e s.place s.st/\(o4 rows b e s).bt.length+mu rows b e (o4 rows b e s).place (o4 rows b e s).st<=s.bt.length+mu rows b e s.place s.st/\∃ p st,s.st=p::st/\(¬ s.place+(gP rows p.1 p.2).length<=b->¬ (b<=s.place/\s.place+(gP rows p.1 p.2).length<=e)->0 < p.1):=by
 obtain⟨be,ew,pe,fl,fb,mb,mt⟩:=I
 obtain⟨place,st,bt⟩:=s
 simp only at pe fl fb mb mt hp ⊢
 cases st with
 | nil=>
   have:=congrArg List.length fl
   rw[List.length_drop] at this
   have z:(flat rows []).length=0:=rfl
   omega
 | cons p st=>
   rw[sZ] at fl
   have GG:=Kl ok p.1 (mb p (by simp)).1
   have qm:∀ x∈st,x.2∈rows.map (·.c)/\x.1<=age:=fun x hx=>mb x (by simp[hx])
   have hlen:=congrArg List.length fl
   rw[List.length_drop,List.length_append] at hlen
   have fl2:flat rows st=W.drop (place+(gP rows p.1 p.2).length):=by
     rw[<- List.drop_drop,<- fl,List.drop_left]
   have ft:W.take (place+(gP rows p.1 p.2).length)=W.take place ++ gP rows p.1 p.2:=by
     rw[List.take_add,<- fl,List.take_left]
   have Ak:(¬ place+(gP rows p.1 p.2).length<=b->¬ (b<=place/\place+(gP rows p.1 p.2).length<=e)->0 < p.1):=fun h1 h2=>by
     rcases Nat.eq_zero_or_pos p.1 with z | z
     . rw[z] at h1 h2
       have e1:(gP rows 0 p.2).length=1:=rfl
       rw[e1] at h1 h2
       omega
     . exact z
   refine⟨?_,?_,?_,p,st,rfl,Ak⟩
   . unfold o4
     simp only
     split
     . rename_i h
       refine⟨be,ew,by show place+_<=e;omega,fl2,?_,qm,mt⟩
       have n1:(W.take place).drop b=[]:=List.drop_eq_nil_of_le (by rw[List.length_take];omega)
       have n2:(W.take (place+(gP rows p.1 p.2).length)).drop b=[]:=List.drop_eq_nil_of_le (by rw[List.length_take];omega)
       show flat rows bt=(W.take (place+(gP rows p.1 p.2).length)).drop b
       rw[fb,n1,n2]
     . split
       . rename_i h1 h2
         refine⟨be,ew,h2.2,fl2,?_,qm,fun x hx=>?_⟩
         . show flat rows (bt ++ [p])=(W.take (place+(gP rows p.1 p.2).length)).drop b
           rw[B1,U6,fb,ft,List.drop_append_of_le_length (by rw[List.length_take];omega)]
         . rcases List.mem_append.mp hx with hx | hx
           . exact mt x hx
           . have:x=p:=by simpa using hx
             rw[this];exact mb p (by simp)
       . rename_i h1 h2
         have hz:=Ak h1 h2
         refine⟨be,ew,pe,?_,fb,fun x hx=>?_,mt⟩
         . show flat rows (wp (p.1 - 1) (wordOf rows p.2) ++ st)=_
           rw[B1,z9,<- fl]
           congr 1
           obtain⟨r,hr⟩:∃ r,p.1=r+1:=⟨p.1 - 1,by omega⟩
           rw[hr];rfl
         . rcases List.mem_append.mp hx with hx | hx
           . obtain⟨y,hy,rfl⟩:=List.mem_map.mp hx
             exact⟨(i5 ok (mb p (by simp)).1).1 y hy,by have:=(mb p (by simp)).2;show p.1 - 1<=age;omega⟩
           . exact qm x hx
   all_goals
     unfold o4
     simp only
     rw[mu]
     split
     . show _;simp only;omega
     . split
       . simp only[List.length_append,List.length_singleton];omega
       . rename_i h1 h2
         have hz:=Ak h1 h2
         have hw8:=(i5 ok (mb p (by simp)).1).2.2
         have key:=Kq rows b e (p.1 - 1) st place (wordOf rows p.2)
         have ef:(flat rows (wp (p.1 - 1) (wordOf rows p.2))).length=(gP rows p.1 p.2).length:=by
           rw[z9]
           obtain⟨r,hr⟩:∃ r,p.1=r+1:=⟨p.1 - 1,by omega⟩
           rw[hr];rfl
         rw[ef] at key
         have hI:1<=ins b place (place+(gP rows p.1 p.2).length)+ins e place (place+(gP rows p.1 p.2).length):=by
           unfold ins
           split <;> split <;> omega
         generalize ins b place (place+(gP rows p.1 p.2).length)+ins e place (place+(gP rows p.1 p.2).length)=J at key hI ⊢
         have m:8+8 * (p.1 - 1) * J<=8 * p.1 * J:=by
           obtain⟨r,hr⟩:∃ r,p.1=r+1:=⟨p.1 - 1,by omega⟩
           rw[hr,Nat.add_sub_cancel,Nat.mul_add,Nat.add_mul]
           omega
         simp only
         omega
theorem Dz {rows:List Row}(ok:aM rows){age b e:Nat}{W:List Nat}{s:PS}(I:Sb rows age b e W s){n:Nat}(h:∀ k,k < n->(run rows b e s k).place < e):∀ k,k<=n->Sb rows age b e W (run rows b e s k)/\(run rows b e s k).bt.length+mu rows b e (run rows b e s k).place (run rows b e s k).st<=s.bt.length+mu rows b e s.place s.st
 | 0,_=>⟨I,Nat.le_refl _⟩
 | k+1,hk=>by
   obtain⟨i1,i2⟩:=Dz ok I h k (by omega)
   obtain⟨j1,_,j3,_⟩:=Dy ok i1 (h k (by omega))
   exact⟨j1,Nat.le_trans j3 i2⟩
theorem B2 {rows:List Row}(ok:aM rows){age b e:Nat}{W:List Nat}:∀ (m:Nat) {s:PS},Sb rows age b e W s->mu rows b e s.place s.st<=m->∃ n,e<=(run rows b e s n).place/\∀ k,k < n->(run rows b e s k).place < e
 | m,s,I,hm=>by
   by_cases hp:s.place < e
   . obtain⟨j1,j2,_⟩:=Dy ok I hp
     cases m with
     | zero=>omega
     | succ m=>
       obtain⟨n,h1,h2⟩:=B2 ok m j1 (by omega)
       refine⟨n+1,by rw[Km];exact h1,fun k hk=>?_⟩
       cases k with
       | zero=>exact hp
       | succ k=>rw[Km];exact h2 k (by omega)
   . exact⟨0,by show e<=s.place;omega,fun k hk=>by omega⟩
noncomputable def mS (rows:List Row)(w:List Nat)(age:Nat):List Nat:=w.flatMap (gP rows age)
noncomputable def xC (w:List Nat)(age:Nat):PS:=⟨0,wp age w,[]⟩
theorem DA {rows:List Row}{w:List Nat}(ok:lW rows w){age b e:Nat}(be:b<=e)(ew:e<=(mS rows w age).length):Sb rows age b e (mS rows w age) (xC w age):=
 ⟨be,ew,Nat.zero_le _,z9 rows age w,by show []=(List.take 0 _).drop b;simp,fun p hp=>by
   obtain⟨y,hy,rfl⟩:=List.mem_map.mp hp
   exact⟨ok.wm y hy,Nat.le_refl _⟩,fun p hp=>by cases hp⟩
theorem Kr {rows:List Row}{w:List Nat}(ok:lW rows w){age b e:Nat}(ha:age<=200):mu rows b e (xC w age).place (xC w age).st<=4000:=by
 have key:=Kq rows b e age [] 0 w
 rw[List.append_nil] at key
 have w8:=ok.w8
 have i1:=Kn b 0 (0+(flat rows (wp age w)).length)
 have i2:=Kn e 0 (0+(flat rows (wp age w)).length)
 have m:8 * age * (ins b 0 (0+(flat rows (wp age w)).length)+ins e 0 (0+(flat rows (wp age w)).length))<=8 * 200 * 2:=Nat.mul_le_mul (by omega) (by omega)
 have z:mu rows b e (0+(flat rows (wp age w)).length) []=0:=rfl
 show mu rows b e 0 (wp age w)<=4000
 omega
theorem E8 {rows:List Row}{w:List Nat}(ok:lW rows w)(age:Nat):(((mS rows w age).length:Nat):Int)=YA rows w age:=wF fun y hy=>Dx ok.ok age (ok.wm y hy)
noncomputable def Rv:Rl:=fun ds r=>∃ (w:List Nat) (n:Nat),ds=[.str (tx w),.int ((n:Nat):Int)]/\w.length<=1000/\r=.own (.lst ((wp n w).reverse.map sY))
noncomputable abbrev Rw:Stmt->Scope
 | .Return (some (.ListComp _ _ sc _)) _=>sc
 | _=>af (.Pass ⟨0,0,0,0⟩)
noncomputable abbrev U7:Scope:=Rw ((aB eQ).getD 0 (.Pass ⟨0,0,0,0⟩))
theorem Oz:gq U7 (af eQ) mI ["letter","rounds"] ["letter"] [1]=true:=by decide +kernel
noncomputable def Kt (t:dY):Rl:=fun ds r=>∃ six rows w l ls N age b e n,ds=[.obj t.ar (t.f9 six rows w l ls N),.int ((age:Nat):Int),.int ((b:Nat):Int),.int ((e:Nat):Int)]/\(lW rows w/\ls.map (·.2)=o3 rows/\age < N/\N<=1000/\age<=200)/\(b<=e/\e<=(mS rows w age).length)/\(e<=(run rows b e (xC w age) n).place/\∀ k,k < n->(run rows b e (xC w age) k).place < e) /\
 r=.own (.lst ((run rows b e (xC w age) n).bt.map sY))
theorem Nq (T:Txt K mg t):GF P w K mg base CX 1 "waiting_pieces" 2 Rv:=by
 refine⟨_,_,_,i6 T.df.F rg rfl fun bf A outer s H E G ds r hr hl hR=>?_,(T.g T.df.a),T.df.F.kp,T.df.b⟩
 obtain⟨wd,n,rfl,hw,rfl⟩:=hR
 have e1:(wd.reverse.map fun x=>Dt.str (sg x))=(Sg.signs (tx wd)).reverse:=by rw[<- fJ,List.map_reverse]
 have e2:((wd.reverse.filter fun _=>true).map fun x=>Dt.tup [.int ((n:Nat):Int),.str (sg x)])=(wp n wd).reverse.map sY:=by
   rw[List.filter_eq_self.mpr (fun _ _=>rfl)]
   unfold wp
   rw[<- List.map_reverse,List.map_map];rfl
 exact⟨_,.ro _,ao (l2 (D8 (eO wd.reverse (fun x=>Dt.str (sg x)) (fun x=>Dt.tup [.int ((n:Nat):Int),.str (sg x)]) (fun x=>[.val (.str (sg x))]) (fun _=>true) rfl (a0 Oz) (Mr T.qD (ae (aa 0 rfl) ai)) (bF (a0 Oz) rfl) (cK (Gg (by rw[i3];omega)) e1) (fun a _=>bQ) (.nil fun _ _=>rfl)
   (fun a ha _ C fp s' H' G'=>cY (ae (aa 1 rfl) (ae (aa 0 rfl) ai)) AA3) (qF (by rw[List.length_reverse];omega))) (congrArg Own.lst e2)))⟩
theorem yo (T:Txt K mg t):MF P w K mg base CX 4 t.ar "pieces" 4 (Kt t):=by
 refine⟨T.aK.cl,_,_,_,i6 T.iT.F mK rfl fun bf A outer s H E G ds r hr hl hR=>?_,T.fg,T.iT.b⟩
 obtain⟨six,rows,wd,l,ls,N,age,b,e,n,rfl,⟨ok,mx,hN,hN1,i7⟩,⟨Ap,Ku⟩,⟨hen,dy⟩,rfl⟩:=hR
 have Kv:=Nq (P:=P) (w:=w) (base:=base) T
 have nP:=oY (P:=P) (w:=w) (base:=base) T
 have nd:=mK.nd
 have hu:(A.deeper (envOfC "Growth.pieces" (af iy) s.heap.objs.size t.cS bf)).units+1 < cLine:=by have:=hr.units;omega
 have w8:=ok.w8
 let R:Nat->PS:=run rows b e (xC wd age)
 have Qg:=Dz ok.ok (DA ok Ap Ku) dy
 have h0:(xC wd age).bt.length+mu rows b e (xC wd age).place (xC wd age).st<=4000:=by
   have:=Kr ok (b:=b) (e:=e) i7
   show 0+_<=_;omega
 have hsz:∀ k,k<=n->(R k).bt.length<=4000/\(R k).st.length<=4000:=fun k hk=>by
   have h1:=(Qg k hk).2
   have h2:=Ko rows b e (run rows b e (xC wd age) k).place (run rows b e (xC wd age) k).st
   exact⟨by show(run rows b e (xC wd age) k).bt.length<=4000;omega,by show(run rows b e (xC wd age) k).st.length<=4000;omega⟩
 have szq:∀ {m:Nat},m<=8000->m < sizeLine:=fun h=>Nat.lt_of_le_of_lt h (by decide)
 let sf:Dt:=.obj t.ar (t.f9 six rows wd l ls N)
 let S:Nat->List Slot:=fun k=>[.val sf,.val (.int ((age:Nat):Int)),.val (.int ((b:Nat):Int)),.val (.int ((e:Nat):Int)),.own (.lst ((R k).bt.map sY)),.own (.lst ((R k).st.reverse.map sY)),.val (.int (((R k).place:Nat):Int)),.aL,.aL,.aL]
 refine⟨_,.ro _,ah (kN 4 nd (sh ai AA3)) (ah (kN 5 nd (xX Kv aA hr (ae (aD (fs:=t.f9 six rows wd l ls N) (aa 0 rfl) T.aK.cl T.gz rfl) (ae (aa 1 rfl) ai)) ⟨wd,age,rfl,by omega,rfl⟩))
   (ah (au 6 nd aj) (ah (dl1:=S n) (Ih S n PassesOwn.leaving (Le.of ⟨rfl,rfl,rfl,rfl,rfl,rfl,rfl,trivial⟩) (fun k hk=>dP (A0 (aa 6 rfl) (aa 3 rfl)) (decide_eq_true ?c1)) (dP (A0 (aa 6 rfl) (aa 3 rfl)) (decide_eq_false ?c2)) (fun k hk=>?body)) (ao (D9 4)))))⟩
 case c1=>have:=dy k hk;show(((run rows b e (xC wd age) k).place:Nat):Int) < _;omega
 case c2=>show ¬ (((run rows b e (xC wd age) n).place:Nat):Int) < _;omega
 case body=>
   have PM:=dy k hk
   obtain⟨Ik,_⟩:=Qg k (Nat.le_of_lt hk)
   obtain⟨_,_,_,p,st,es,Ak⟩:=Dy ok.ok Ik PM
   have eR:R (k+1)=o4 rows b e (R k):=rfl
   obtain⟨GS,AE⟩:=hsz k (Nat.le_of_lt hk)
   have G8:(R k).st=p::st:=es
   have GX:=Ik.mb p (by rw[es];simp)
   have GG:p.1 < N:=by omega
   have hg:=Dx ok.ok p.1 GX.1
   have YE:(R k).st.reverse.map sY=st.reverse.map sY ++ [sY p]:=by rw[G8,List.reverse_cons,List.map_append];rfl
   have ac2:st.length<=4000:=by have:=congrArg List.length G8;rw[List.length_cons] at this;omega
   let q:Nat:=(R k).place+(gP rows p.1 p.2).length
   have eq:(((R k).place:Nat):Int)+lT rows p.1 p.2=((q:Nat):Int):=by rw[<- hg];show _=(((R k).place+(gP rows p.1 p.2).length:Nat):Int);omega
   let U:List Slot:=[.val sf,.val (.int ((age:Nat):Int)),.val (.int ((b:Nat):Int)),.val (.int ((e:Nat):Int)),.own (.lst ((R k).bt.map sY)),.own (.lst (st.reverse.map sY)),.val (.int (((R k).place:Nat):Int)),.val (sY p),.val (.int ((p.1:Nat):Int)),.val (.int ((q:Nat):Int))]
   have hS:S k=[.val sf,.val (.int ((age:Nat):Int)),.val (.int ((b:Nat):Int)),.val (.int ((e:Nat):Int)),.own (.lst ((R k).bt.map sY)),.own (.lst (st.reverse.map sY ++ [sY p])),.val (.int (((R k).place:Nat):Int)),.aL,.aL,.aL]:=by
     show [_,_,_,_,_,Slot.own (.lst ((R k).st.reverse.map sY)),_,_,_,_]=_
     rw[YE]
   rw[hS]
   refine .nx (dl':=[.val sf,.val (.int ((age:Nat):Int)),.val (.int ((b:Nat):Int)),.val (.int ((e:Nat):Int)),.own (.lst ((R (k+1)).bt.map sY)),.own (.lst ((R (k+1)).st.reverse.map sY)),.val (.int (((R (k+1)).place:Nat):Int)),.val (sY p),.val (.int ((p.1:Nat):Int)),.val (.int ((q:Nat):Int))]) (ah (QH (ds:=st.reverse.map sY) (d:=sY p) 7 5 nd rfl) (ah (au 8 nd (aI (aa 7 rfl) aj rfl)) (ah (dl1:=U) (au 9 nd (aR (aT (aa 6 rfl) (ip hu (sE (n:=N) (j:=1) (f:=xA rows) (aD (fs:=t.f9 six rows wd l ls N) (aa 0 rfl) T.aK.cl T.bT rfl) (aa 8 rfl) (by rw[mx];rfl) GG hN1) (aI (aa 7 rfl) aj rfl) (by rw[Nf];exact fK GX.1) (fun _ _=>rfl))) (congrArg Dt.int eq)))
     (ao (cb (u:=decide (q<=b)) (dP (tE (aa 9 rfl) (aa 2 rfl)) (decide_eq_decide.mpr (Int.ofNat_le (m:=q) (n:=b)))) (fun h=>?b1) (fun h=>ao (cb (u:=decide (b<=(R k).place/\q<=e)) ?cc (fun h'=>?b2) (fun h'=>?b3)))))))) (Le.of ⟨rfl,rfl,rfl,rfl,rfl,rfl,rfl,trivial⟩)
   case b1=>
     have h:q<=b:=of_decide_eq_true h
     have e1:R (k+1)=⟨q,st,(R k).bt⟩:=by rw[eR];unfold o4;rw[G8];exact if_pos h
     rw[e1]
     exact ao (au 6 nd (aa 9 rfl))
   case cc=>
     by_cases h1:b<=(R k).place
     . by_cases h2:q<=e
       . rw[decide_eq_true (⟨h1,h2⟩:b<=(R k).place/\q<=e)]
         exact CC (vg (u:=true) (v:=true) (dP (tE (aa 2 rfl) (aa 6 rfl)) (decide_eq_true (by omega))) fun _=>yL (dP (tE (aa 9 rfl) (aa 3 rfl)) (decide_eq_true (by omega))))
       . rw[decide_eq_false (fun z:b<=(R k).place/\q<=e=>h2 z.2)]
         exact CC (vg (u:=true) (v:=false) (dP (tE (aa 2 rfl) (aa 6 rfl)) (decide_eq_true (by omega))) fun _=>yL (dP (tE (aa 9 rfl) (aa 3 rfl)) (decide_eq_false (by omega))))
     . rw[decide_eq_false (fun z:b<=(R k).place/\q<=e=>h1 z.1)]
       exact CC (vg (u:=false) (v:=false) (dP (tE (aa 2 rfl) (aa 6 rfl)) (decide_eq_false (by omega))) fun z=>nomatch z)
   case b2=>
     have h:¬ q<=b:=of_decide_eq_false h
     have h':=of_decide_eq_true h'
     have e1:R (k+1)=⟨q,st,(R k).bt ++ [p]⟩:=by rw[eR];unfold o4;rw[G8];exact(if_neg h).trans (if_pos h')
     rw[e1]
     show oh _ _ _ _ _ (.nx [_,_,_,_,.own (.lst (((R k).bt ++ [p]).map sY)),_,_,_,_,_])
     rw[List.map_append]
     exact ah (si (ds:=(R k).bt.map sY) 4 (aa 7 rfl) (by rw[List.length_map];exact szq (by omega))) (ao (au 6 nd (aa 9 rfl)))
   case b3=>
     have h:¬ q<=b:=of_decide_eq_false h
     have h':=of_decide_eq_false h'
     have hz:=Ak h h'
     have e1:R (k+1)=⟨(R k).place,wp (p.1 - 1) (wordOf rows p.2) ++ st,(R k).bt⟩:=by rw[eR];unfold o4;rw[G8];exact(if_neg h).trans (if_neg h')
     rw[e1]
     have hw:=i5 ok.ok GX.1
     show oh _ _ _ _ _ (.nx [_,_,_,_,_,.own (.lst ((wp (p.1 - 1) (wordOf rows p.2) ++ st).reverse.map sY)),_,_,_,_])
     rw[List.reverse_append,List.map_append]
     exact ao (F4 (ds:=st.reverse.map sY) 5 (oH (xX Kv aA hr (ae (aQ (fs:=t.qH six rows) (aD (fs:=t.f9 six rows wd l ls N) (aa 0 rfl) T.aK.cl T.bJ rfl) nP aA hr (ae (aI (aa 7 rfl) aj rfl) ai) ⟨six,rows,p.2,rfl,ok.ok,GX.1,rfl⟩) (ae (aR (lF (aa 8 rfl) aj) (congrArg Dt.int (show((p.1:Nat):Int) - 1=((p.1 - 1:Nat):Int) by omega))) ai)) ⟨wordOf rows p.2,p.1 - 1,rfl,by omega,rfl⟩)) (by
       rw[List.length_map,List.length_map,List.length_reverse,List.length_reverse]
       show st.length+((wordOf rows p.2).map fun c=>(p.1 - 1,c)).length<=_
       rw[List.length_map]
       exact Nat.le_of_lt (szq (by omega))))
noncomputable def grow (rows:List Row)(w:List Nat):List Nat:=(w.map (wordOf rows)).flatten
theorem wG (rows:List Row)(a b:List Nat):grow rows (a ++ b)=grow rows a ++ grow rows b:=by
 unfold grow;rw[List.map_append,List.flatten_append]
theorem Aa (rows:List Row)(f:Nat->List Nat):∀ w:List Nat,grow rows (w.flatMap f)=w.flatMap fun y=>grow rows (f y)
 | []=>rfl
 | y::w=>by rw[List.flatMap_cons,List.flatMap_cons,wG,Aa rows f w]
theorem Ab (rows:List Row):∀ (r c:Nat),grow rows (gP rows r c)=gP rows (r+1) c
 | 0,c=>by
   show [wordOf rows c].flatten=(wordOf rows c).flatMap fun y=>[y]
   simp
 | r+1,c=>by
   show grow rows ((wordOf rows c).flatMap (gP rows r))=_
   rw[Aa]
   show _=(wordOf rows c).flatMap (gP rows (r+1))
   congr 1
   funext y
   exact Ab rows r y
theorem B3 (rows:List Row)(w:List Nat)(n:Nat):grow rows (mS rows w n)=mS rows w (n+1):=by
 unfold mS
 rw[Aa]
 congr 1
 funext y
 exact Ab rows n y
theorem Kw (rows:List Row)(w:List Nat):mS rows w 0=w:=by
 show w.flatMap (fun y=>[y])=w
 simp
theorem pS {rows:List Row}(ok:aM rows){w:List Nat}(h:∀ x∈w,x∈rows.map (·.c)):∀ n,∀ x∈mS rows w n,x∈rows.map (·.c)
 | 0=>by rw[Kw];exact h
 | n+1=>fun x hx=>by
   rw[<- B3] at hx
   obtain⟨l,hl,hx⟩:=List.mem_flatten.mp hx
   obtain⟨y,hy,rfl⟩:=List.mem_map.mp hl
   exact(i5 ok (pS ok h n y hy)).1 x hx
theorem E9 {rows:List Row}(ok:aM rows):∀ {w:List Nat},(∀ x∈w,x∈rows.map (·.c))->w.length<=(grow rows w).length/\(grow rows w).length<=8 * w.length
 | [],_=>⟨Nat.zero_le _,Nat.zero_le _⟩
 | x::w,h=>by
   have ih:=E9 ok (w:=w) fun y hy=>h y (List.mem_cons_of_mem _ hy)
   have hw:=i5 ok (h x (List.mem_cons_self ..))
   have e:(grow rows (x::w)).length=(wordOf rows x).length+(grow rows w).length:=by
     show((wordOf rows x::w.map (wordOf rows)).flatten).length=_
     rw[List.flatten_cons,List.length_append];rfl
   rw[e,List.length_cons];omega
noncomputable abbrev xD (t:dY)(six:Bool)(rows:List Row)(w:List Nat)(l:Addr)(ls:km)(n:Nat):Dt:=.obj t.ar (t.f9 six rows w l ls n)
noncomputable def YF (t:dY):Rl:=fun ds r=>∃ six rows w l ls n age z,ds=[xD t six rows w l ls n,.int ((age:Nat):Int),.int z]/\lW rows w/\ls.map (·.2)=o3 rows/\age<=200/\(0<=z/\z<=((mS rows w age).length:Nat))/\r=.ret .c9
noncomputable def YG (t:dY):Rl:=fun ds r=>∃ six rows w l ls n age,∃ b e:Nat,ds=[xD t six rows w l ls n,.int ((age:Nat):Int),.int (b:Int),.int (e:Int)]/\lW rows w/\ls.map (·.2)=o3 rows/\age<=200/\(b<=e/\e<=(mS rows w age).length)/\r=.ret (.xR l ls (age+1))
noncomputable def cut (W:List Nat)(b e:Nat):List Nat:=(W.take e).drop b
theorem Nr (rows:List Row)(c n:Nat):mS rows [c] n=gP rows n c:=by unfold mS;simp
theorem OA (T:Txt K mg t):MF P w K mg base CX 7 t.ar "check_place" 3 (YF t):=by
 refine⟨T.aK.cl,_,_,_,i6 T.dW.F om rfl fun bf A outer s H E G ds r hr hl hR=>?_,T.cV,T.dW.b⟩
 obtain⟨six,rows,wd,l,ls,n,age,z,rfl,ok,mx,i7,hz,rfl⟩:=hR
 have Fb:=E3 (P:=P) (w:=w) (base:=base) T
 have e:=E8 ok age
 exact⟨_,.nx _,ao (cb (u:=false) (CC (HF (u:=false) (v:=false) (dP (A0 (aa 2 rfl) aj) (decide_eq_false (by omega))) fun _=>(CB (dP (D5 (aa 2 rfl) (aQ (fs:=t.f9 six rows wd l ls n) (aa 0 rfl) Fb aA hr (ae (aa 1 rfl) ai) ⟨six,rows,wd,l,ls,n,age,rfl,ok,mx,i7,rfl⟩)) (decide_eq_false (by omega)))))) (fun h=>nomatch h) (fun h=>cg))⟩
theorem U8 (T:Txt K mg t):MF P w K mg base CX 8 t.ar "check_stretch" 4 (YG t):=by
 refine⟨T.aK.cl,_,_,_,i6 T.c8.F mJ rfl fun bf A outer s H E G ds r hr hl hR=>?_,T.cu,T.c8.b⟩
 obtain⟨six,rows,wd,l,ls,n,age,b,e,rfl,ok,mx,i7,⟨Ap,Ku⟩,rfl⟩:=hR
 have BX:=wj (P:=P) (w:=w) (base:=base) T
 have Nt:=OA (P:=P) (w:=w) (base:=base) T
 have e2:ls.length=2:=by have:=congrArg List.length mx;simpa [o3] using this
 exact⟨_,pH (nm:=["tallies","lengths"]) (tl:=[.val (.int ((age:Nat):Int)),.val (.int (b:Int)),.val (.int (e:Int))]) (by rw[e2];exact Nat.le_refl 2),ah (mG (m:=age+1) (tl:=[.val (.int ((age:Nat):Int)),.val (.int (b:Int)),.val (.int (e:Int))]) (aQ (fs:=t.f9 six rows wd l ls n) (aa 0 rfl) BX aA hr (ae (aa 1 rfl) ai) ⟨six,rows,wd,l,ls,n,age,rfl,ok,mx,by omega,rfl⟩))
   (ah (l1 (aQ (fs:=t.f9 six rows wd l ls (age+1)) (aa 0 rfl) Nt aA hr (ae (aa 1 rfl) (ae (aa 2 rfl) ai)) ⟨six,rows,wd,l,ls,_,age,b,rfl,ok,mx,i7,⟨by omega,by omega⟩,rfl⟩))
   (ah (cb (u:=false) (dP (A0 (aa 3 rfl) (aa 2 rfl)) (decide_eq_false (by omega))) (fun h=>nomatch h) (fun h=>cg))
   (ao (l1 (aQ (fs:=t.f9 six rows wd l ls (age+1)) (aa 0 rfl) Nt aA hr (ae (aa 1 rfl) (ae (aa 3 rfl) ai)) ⟨six,rows,wd,l,ls,_,age,e,rfl,ok,mx,i7,⟨by omega,by omega⟩,rfl⟩)))))⟩
theorem U9 {n:Nat}(h:n<=100000):n<=sizeLine:=Nat.le_trans h (by decide)
theorem Kx {f:Nat->List Nat}{g:Nat->Int}(x:Nat):∀ {w:List Nat},(∀ y∈w,(((f y).count x:Nat):Int)=g y)->(((w.flatMap f).count x:Nat):Int)=(w.map g).sum
 | [],_=>rfl
 | y::w,h=>by
   rw[List.flatMap_cons,List.count_append,List.map_cons,List.sum_cons,<- h y (by simp),<- Kx (f:=f) (g:=g) x fun z hz=>h z (by simp[hz])]
   omega
theorem Ky (rows:List Row)(x:Nat):∀ (r c:Nat),(((gP rows r c).count x:Nat):Int)=cT rows r c x
 | 0,c=>rfl
 | r+1,c=>Kx x fun y _=>Ky rows x r y
theorem B4 (rows:List Row)(x:Nat):∀ st:List Pc,(((flat rows st).count x:Nat):Int)=(st.map fun p=>cT rows p.1 p.2 x).sum
 | []=>rfl
 | p::st=>by
   rw[sZ,List.count_append,List.map_cons,List.sum_cons,<- B4 rows x st,<- Ky]
   omega
noncomputable def Li (W:List Nat)(x:Nat):Int:=((W.count x:Nat):Int)
theorem Kz {rows:List Row}{w:List Nat}(ok:lW rows w){age b e:Nat}(i7:age<=200)(Ap:b<=e)(Ku:e<=(mS rows w age).length):∃ k bt,(e<=(run rows b e (xC w age) k).place/\∀ j,j < k->(run rows b e (xC w age) j).place < e)/\(run rows b e (xC w age) k).bt=bt/\flat rows bt=cut (mS rows w age) b e/\bt.length<=4000/\∀ p∈bt,p.2∈rows.map (·.c)/\p.1<=age:=by
 obtain⟨k,YH,Wd⟩:=B2 ok.ok _ (DA ok Ap Ku) (Nat.le_refl _)
 obtain⟨Ik,Jk⟩:=Dz ok.ok (DA ok Ap Ku) Wd k (Nat.le_refl _)
 have hmu:=Kr ok (b:=b) (e:=e) i7
 have hp:(run rows b e (xC w age) k).place=e:=by have:=Ik.pe;omega
 refine⟨k,_,⟨YH,Wd⟩,rfl,by rw[Ik.fb,hp];rfl,?_,Ik.mt⟩
 have:(xC w age).bt.length=0:=rfl
 omega
noncomputable def Nu (t:dY):Rl:=fun ds r=>∃ six rows w l ls n age,∃ b:Nat,ds=[xD t six rows w l ls n,.int ((age:Nat):Int),.int (b:Int)]/\lW rows w/\ls.map (·.2)=o3 rows/\age<=200/\b<=(mS rows w age).length/\r=.own (.dw (dI (kc (rows.map (·.c)) (Li ((mS rows w age).take b)))))
noncomputable abbrev KA:Stmt->Scope
 | .Return (some (.Call _ (.ListComp _ _ sc _::_) _ _)) _=>sc
 | _=>af (.Pass ⟨0,0,0,0⟩)
noncomputable abbrev Va:Scope:=KA ((aB eU).getD 3 (.Pass ⟨0,0,0,0⟩))
theorem OB:gq Va (af eU) oU ["rounds","letter","self"] ["rounds","letter"] [0]=true:=by decide +kernel
noncomputable def GH:Rl:=fun ds r=>∃ (L:List Nat) (ts:List (Nat->Int)),ds=[.lst (ts.map (BS L)),.str (tx L)]/\L.Nodup/\L.length<=6/\(∀ x∈L,x < 128)/\ts.length<=4000/\r=.own (.dw (dI (kc L fun x=>(ts.map fun T=>T x).sum)))
theorem DB (T:Txt K mg t):GF P w K mg base CX 2 "summed" 2 GH:=by
 refine⟨_,_,_,i6 T.iu.F pI rfl fun bf A outer s H E G ds r hr hl hR=>?_,(T.g T.iu.a),T.iu.F.kp,T.iu.b⟩
 obtain⟨L,ts,rfl,Yw,hL,h7,Yx,rfl⟩:=hR
 have nd:=pI.nd
 have hu:(A.deeper (envOfC "summed" (af jd) s.heap.objs.size t.mN bf)).units+1 < cLine:=by have:=hr.units;omega
 let D:Nat->Dt:=fun x=>.int (ts.map fun T=>T x).sum
 have e2:((L.filter fun _=>true).map fun x=>Dt.tup [.str (sg x),D x])=(dI (kc L fun x=>(ts.map fun T=>T x).sum)).map IH:=by
   rw[List.filter_eq_self.mpr (fun _ _=>rfl),BR]
   exact yn L D
 refine⟨_,.ro _,ao (l2 (lI T.nL rfl (dB e2 (IL L (fun x=>Dt.str (sg x)) (fun x=>.tup [.str (sg x),D x]) (fun x=>[.val (.str (sg x))]) (fun _=>true) rfl (Em E1) (gu (aa 1 rfl)) (Bm (Em E1)) (cK (cF (fQ h7)) (fJ L)) (fun a _=>bQ) (.nil fun _ _=>rfl)
     (fun a ha _ c C fp s' H' G'=>?_) (qF (by omega)))) (by rw[EZ];exact jP Yw) (by rw[J3];exact qF (by omega))))⟩
 have e3:((ts.filter fun _=>true).map fun T=>Dt.int (T a))=(ts.map fun T=>T a).map Dt.int:=by
   rw[List.filter_eq_self.mpr (fun _ _=>rfl),List.map_map];rfl
 refine cY (ae (aa 0 rfl) (ae (sv T.rA rfl (dB e3 (eO ts (BS L) (fun T=>Dt.int (T a)) (fun T=>[.val (BS L T)]) (fun _=>true) rfl (a0 zY) (gb (aa 1 rfl)) (bF (a0 zY) rfl) eJ (fun a _=>bQ) (.nil fun _ _=>rfl)
   (fun T' hT' _ C2 VS s2 H2 G2=>?_) (U9 (by omega))))) ai)) AA3
 exact ip hu (aa 0 rfl) (aa 1 rfl) (by rw[BR];exact fK ha) (fun _ _=>rfl)
theorem KC (T:Txt K mg t):MF P w K mg base CX 8 t.ar "ahead" 3 (Nu t):=by
 refine⟨T.aK.cl,_,_,_,i6 T.jz.F nZ rfl fun bf A outer s H E G ds r hr hl hR=>?_,T.fD,T.jz.b⟩
 obtain⟨six,rows,wd,l,ls,n,age,b,rfl,ok,mx,i7,hb,rfl⟩:=hR
 have BX:=wj (P:=P) (w:=w) (base:=base) T
 have Nt:=OA (P:=P) (w:=w) (base:=base) T
 have wH:=yo (P:=P) (w:=w) (base:=base) T
 have cM:=gF (P:=P) (w:=w) (base:=base) T
 have wg:=DB (P:=P) (w:=w) (base:=base) T
 have nd:=nZ.nd
 have hu:(A.deeper (envOfC "Growth.ahead" (af eU) s.heap.objs.size t.dh bf)).units+1 < cLine:=by have:=hr.units;omega
 obtain⟨k,bt,hk,YI,VL,hb4,We⟩:=Kz ok (b:=0) i7 (Nat.zero_le _) hb
 have h6:=ok.ok.le
 let L:=rows.map (·.c)
 have hL:L.length<=6:=by show(rows.map (·.c)).length<=6;rw[List.length_map];exact h6
 have h7:∀ x∈L,x < 128:=fun x hx=>by
   obtain⟨r,hr,rfl⟩:=List.mem_map.mp hx
   have:=ok.ok.sm r hr
   unfold small at this;omega
 have e3:((bt.filter fun _=>true).map fun p=>BS L (cT rows p.1 p.2))=(bt.map fun p=>cT rows p.1 p.2).map (BS L):=by
   rw[List.filter_eq_self.mpr (fun _ _=>rfl),List.map_map];rfl
 have e4:(Li ((mS rows wd age).take b))=fun x=>((bt.map fun p=>cT rows p.1 p.2).map fun T=>T x).sum:=by
   funext x
   show((((mS rows wd age).take b).count x:Nat):Int)=_
   have e:(mS rows wd age).take b=flat rows bt:=by rw[VL];rfl
   rw[e,B4,List.map_map];rfl
 exact⟨_,.ro _,ah (mG (m:=age+1) (tl:=[.val (.int ((age:Nat):Int)),.val (.int (b:Int)),.aL]) (aQ (fs:=t.f9 six rows wd l ls n) (aa 0 rfl) BX aA hr (ae (aa 1 rfl) ai) ⟨six,rows,wd,l,ls,n,age,rfl,ok,mx,by omega,rfl⟩))
   (ah (l1 (aQ (fs:=t.f9 six rows wd l ls (age+1)) (aa 0 rfl) Nt aA hr (ae (aa 1 rfl) (ae (aa 2 rfl) ai)) ⟨six,rows,wd,l,ls,_,age,b,rfl,ok,mx,i7,⟨by omega,by omega⟩,rfl⟩))
   (ah (au 3 nd (d:=.lst (bt.map sY)) (oH (D8 (vt (fs:=t.f9 six rows wd l ls (age+1)) (aa 0 rfl) (Ie wH) aA hr (ae (aa 1 rfl) (ae aj (ae (aa 2 rfl) ai))) ⟨six,rows,wd,l,ls,age+1,age,0,b,k,rfl,⟨ok,mx,by omega,by omega,i7⟩,⟨Nat.zero_le _,hb⟩,hk,rfl⟩) (by rw[YI]))))
   (ao (l2 (xX wg aA hr (ae (dB e3 (eO bt sY (fun p=>BS L (cT rows p.1 p.2)) (fun p=>[.val (.int ((p.1:Nat):Int)),.val (.str (sg p.2))]) (fun _=>true) rfl (a0 OB) (gb (aa 3 rfl)) (Be rfl (a0 OB) rfl) eJ (fun a _=>Ee) (.nil fun _ _=>rfl)
     (fun p hp _ C fp s' H' G'=>ip hu (sE (n:=age+1) (j:=0) (f:=ua rows) (aD (fs:=t.f9 six rows wd l ls (age+1)) (aa 2 rfl) T.aK.cl T.bS rfl) (aa 0 rfl) (by rw[mx];rfl) (by have:=(We p hp).2;omega) (by omega)) (aa 1 rfl) (by rw[Gh];exact fK (We p hp).1) (fun _ _=>rfl)) (U9 (by omega)))) (ae (cj (fs:=t.qH six rows) (aD (fs:=t.f9 six rows wd l ls (age+1)) (aa 0 rfl) T.aK.cl T.bJ rfl) cM aA hr ⟨six,rows,rfl,ok.ok,rfl⟩) ai)) ⟨L,_,rfl,ok.ok.nd,hL,h7,by rw[List.length_map];omega,by rw[e4]⟩)))))⟩
theorem Ac {y x:Nat}:(([y].count x:Nat):Int)=if y=x then 1 else 0:=by
 by_cases h:y=x
 . subst h;simp
 . simp[List.count_cons,h]
theorem OC (z:Nat->Int):∀ {L:List Nat} {c:Nat},L.Nodup->c∈L->(L.map fun x=>(([c].count x:Nat):Int) * z x).sum=z c
 | [],_,_,h=>by cases h
 | y::L,c,nd,h=>by
   rw[List.nodup_cons] at nd
   rw[List.map_cons,List.sum_cons]
   by_cases e:c=y
   . subst e
     have e0:(L.map fun x=>(([c].count x:Nat):Int) * z x)=L.map fun _=>(0:Int):=List.map_congr_left fun x hx=>by
       have:¬ c=x:=fun q=>nd.1 (q ▸ hx)
       rw[Ac,if_neg this];simp
     rw[e0,wD,Ac,if_pos rfl]
     omega
   . have hc:c∈L:=by
       rcases List.mem_cons.mp h with q | q
       . exact absurd q e
       . exact q
     rw[OC z nd.2 hc,Ac,if_neg e]
     omega
theorem GI (rows:List Row)(y:Nat)(u:List Nat):grow rows (y::u)=wordOf rows y ++ grow rows u:=rfl
theorem B5 {rows:List Row}(ok:aM rows):∀ {u:List Nat},(∀ x∈u,x∈rows.map (·.c))->((rows.map (·.c)).map fun x=>Li u x * (((wordOf rows x).length:Nat):Int)).sum=(((grow rows u).length:Nat):Int)
 | [],_=>by
   have:((rows.map (·.c)).map fun x=>Li [] x * (((wordOf rows x).length:Nat):Int))=(rows.map (·.c)).map fun _=>(0:Int):=List.map_congr_left fun x _=>by show((0:Nat):Int) * _=0;simp
   rw[this,wD];rfl
 | y::u,h=>by
   have ih:=B5 ok (u:=u) fun x hx=>h x (by simp[hx])
   have e:((rows.map (·.c)).map fun x=>Li (y::u) x * (((wordOf rows x).length:Nat):Int))=(rows.map (·.c)).map fun x=>(([y].count x:Nat):Int) * (((wordOf rows x).length:Nat):Int)+Li u x * (((wordOf rows x).length:Nat):Int):=List.map_congr_left fun x _=>by
     have:Li (y::u) x=(([y].count x:Nat):Int)+Li u x:=by
       unfold Li
       rw[show y::u=[y] ++ u from rfl,List.count_append];omega
     rw[this,Int.add_mul]
   rw[e,B0,ih,OC (fun x=>(((wordOf rows x).length:Nat):Int)) ok.nd (h y (by simp)),GI,List.length_append]
   omega
theorem Fc {rows:List Row}{w:List Nat}(ok:lW rows w):∀ n,(mS rows w n).length<=8 ^ (n+1)
 | 0=>by rw[Kw];exact ok.w8
 | n+1=>by
   have ih:=Fc ok n
   have:=(E9 ok.ok (pS ok.ok ok.wm n)).2
   rw[B3] at this
   rw[Nat.pow_succ];omega
noncomputable def Fd (t:dY):Rl:=fun ds r=>∃ six rows w l ls n age,∃ b:Nat,ds=[xD t six rows w l ls n,.int ((age:Nat):Int),.int (b:Int)]/\lW rows w/\ls.map (·.2)=o3 rows/\age<=199/\b<=(mS rows w age).length/\r=.ret (.int (((grow rows ((mS rows w age).take b)).length:Nat):Int))
noncomputable abbrev Vb:Scope:=KA ((aB dc).getD 2 (.Pass ⟨0,0,0,0⟩))
theorem OD:gq Vb (af dc) mL ["letter","passed","self"] ["letter"] [3,0]=true:=by decide +kernel
theorem Vc (L:List Nat)(C:Nat->Int):(L.map fun x=>Dt.str (sg x))=(dI (kc L C)).map fun kd=>kD kd.1:=by unfold dI kc;rw[List.map_map,List.map_map];rfl
theorem Nv (L:List Nat)(f:Nat->Int):((L.filter fun _=>true).map fun x=>Dt.int (f x))=(L.map f).map Dt.int:=by
 rw[List.filter_eq_self.mpr (fun _ _=>rfl),List.map_map];rfl
theorem KD (T:Txt K mg t):MF P w K mg base CX 9 t.ar "younger" 3 (Fd t):=by
 refine⟨T.aK.cl,_,_,_,i6 T.gX.F l6 rfl fun bf A outer s H E G ds r hr hl hR=>?_,T.d6,T.gX.b⟩
 obtain⟨six,rows,wd,l,ls,n,age,b,rfl,ok,mx,i7,hb,rfl⟩:=hR
 have Kc:=Kb (P:=P) (w:=w) (base:=base) T
 have Nw:=KC (P:=P) (w:=w) (base:=base) T
 have nP:=oY (P:=P) (w:=w) (base:=base) T
 have nd:=l6.nd
 have hu:(A.deeper (envOfC "Growth.younger" (af dc) s.heap.objs.size t.cm bf)).units+1 < cLine:=by have:=hr.units;omega
 have h6:=ok.ok.le
 let L:=rows.map (·.c)
 have hL:L.length<=6:=by show(rows.map (·.c)).length<=6;rw[List.length_map];exact h6
 let u:=(mS rows wd age).take b
 let C:=Li u
 have e1:(L.map fun x=>Dt.str (sg x))=(dI (kc L C)).map fun kd=>kD kd.1:=Vc L C
 have e2:((L.filter fun _=>true).map fun x=>Dt.int (C x * (((wordOf rows x).length:Nat):Int)))=(L.map fun x=>C x * (((wordOf rows x).length:Nat):Int)).map Dt.int:=Nv L fun x=>C x * (((wordOf rows x).length:Nat):Int)
 have YJ:∀ x,(C x).natAbs < 2 ^ 700:=fun x=>by
   have h1:u.count x<=u.length:=List.count_le_length ..
   have h2:u.length<=(mS rows wd age).length:=by show((mS rows wd age).take b).length<=_;rw[List.length_take];omega
   have h3:=Fc ok age
   have h4:8 ^ (age+1)<=8 ^ 201:=Nat.pow_le_pow_right (by decide) (by omega)
   have h5:(8:Nat) ^ 201 < 2 ^ 700:=by decide
   show((u.count x:Nat):Int).natAbs < 2 ^ 700
   rw[Int.natAbs_natCast]
   exact Nat.lt_of_le_of_lt (Nat.le_trans (Nat.le_trans (Nat.le_trans h1 h2) h3) h4) h5
 refine⟨_,.rt _,ah (l1 (b0 Kc aA hr (ae (aa 1 rfl) (ae aj (ae (lF (jS (w:=.int 200) T.nJ ⟨_,rfl⟩ fun _=>.int 200) aj) ai))) ⟨_,_,_,rfl,by omega,by omega,rfl⟩))
   (ah (au 3 nd (d:=.mV (dI (kc L C))) (UG (vt (fs:=t.f9 six rows wd l ls n) (aa 0 rfl) (Ie Nw) aA hr (ae (aa 1 rfl) (ae (aa 2 rfl) ai)) ⟨six,rows,wd,l,ls,n,age,b,rfl,ok,mx,by omega,hb,rfl⟩)))
   (ao (aF (aR (sv T.rA rfl (dB e2 (eO L (fun x=>Dt.str (sg x)) (fun x=>Dt.int (C x * (((wordOf rows x).length:Nat):Int))) (fun x=>[.val (.str (sg x))]) (fun _=>true) rfl (a0 OD) (IE (aa 3 rfl)) (bF (a0 OD) rfl) (cK CV e1) (fun a _=>bQ) (.nil fun _ _=>rfl)
     (fun x hx _ C' fp s' H' G'=>?_) (qF (by omega))))) (by rw[B5 ok.ok fun x hx=>pS ok.ok ok.wm age x (List.mem_of_mem_take hx)])))))⟩
 have hw:=i5 ok.ok hx
 exact ja (IF hu (aa 1 rfl) (aa 0 rfl) (by rw[BR];exact fK hx) (fun _ _=>rfl)) (oX T.jE (aQ (fs:=t.qH six rows) (aD (fs:=t.f9 six rows wd l ls n) (aa 2 rfl) T.aK.cl T.bJ rfl) nP aA hr (ae (aa 0 rfl) ai) ⟨six,rows,x,rfl,ok.ok,hx,rfl⟩) (by omega)) (BI (m:=700) (n:=20) (YJ x) (by omega) (by decide))
theorem DC (six:Bool)(w:Int)(p q:Int×Int):kL six w (ad p q)=kL six w p+kL six w q:=by
 unfold kL ad
 cases six
 . simp only[Bool.false_eq_true,if_false]
   split
   . rfl
   . split
     . rfl
     . split <;> omega
 . simp only[if_true]
   split
   . omega
   . split
     . omega
     . split
       . omega
       . split
         . omega
         . split <;> omega
theorem B6 (six:Bool){w:Nat}(h:w < wn six)(b:Int)(p:Int×Int):kL six (((w:Int) - b) % wy six) p=kL six w (tn six (b % wy six).toNat p):=by
 have hw:=yk six
 have h0:=Int.emod_nonneg ((w:Int) - b) (Int.ne_of_gt (f7 six))
 have h1:=Int.emod_lt_of_pos ((w:Int) - b) (f7 six)
 have k:=JK six h0 h1 b p
 rw[<- k]
 congr 1
 cases six with
 | false=>show(((w:Int) - b) % 4+b) % 4=w;have:w < 4:=h;omega
 | true=>show(((w:Int) - b) % 6+b) % 6=w;have:w < 6:=h;omega
theorem DD (six:Bool)(ns:List Int)(f:Int){w:Nat}(h:w < wn six):(qI six ns f).getD w 0=ns.getD (((w:Int) - f) % wy six).toNat 0:=by
 unfold qI
 rw[List.getD_eq_getElem?_getD,List.getElem?_map,List.getElem?_range h];rfl
theorem Ad (six:Bool)(w:Nat)(b:Int):(((w:Int) - b) % wy six).toNat < wn six/\((((w:Int) - b) % wy six).toNat:Int)=((w:Int) - b) % wy six:=by
 have hw:=yk six
 have h0:=Int.emod_nonneg ((w:Int) - b) (Int.ne_of_gt (f7 six))
 have h1:=Int.emod_lt_of_pos ((w:Int) - b) (f7 six)
 omega
theorem nS {f:Nat->Int}{n k:Nat}(h:k < n):((List.range n).map f).getD k 0=f k:=by
 rw[List.getD_eq_getElem?_getD,List.getElem?_map,List.getElem?_range h];rfl
noncomputable def Rx (p q:Int):Int:=if q<=p then p else q
theorem kl (six:Bool)(x y:Tr){w:Nat}(h:w < wn six):(jn six x y).reach.getD w 0=Rx (x.reach.getD w 0) (y.reach.getD (((w:Int) - x.turn) % wy six).toNat 0+kL six w x.shift):=by
 show((List.range (wn six)).map (xy six x y)).getD w 0=_
 rw[nS h]
 unfold xy Rx
 rw[DD six _ _ h]
theorem mP (six:Bool)(x y:Tr){w:Nat}(h:w < wn six):(jn six x y).cL.getD w 0=if y.reach.getD (((w:Int) - x.turn) % wy six).toNat 0+kL six w x.shift<=x.reach.getD w 0 then x.cL.getD w 0 else y.cL.getD (((w:Int) - x.turn) % wy six).toNat 0+x.many:=by
 show((List.range (wn six)).map (zQ six x y)).getD w 0=_
 rw[nS h]
 unfold zQ
 rw[DD six _ _ h,DD six _ _ h]
theorem KG (six:Bool):∀ (n:Nat) (p q:Int×Int),tn six n (ad p q)=ad (tn six n p) (tn six n q)
 | 0,p,q=>rfl
 | n+1,p,q=>by
   rw[tn,tn,tn,KG six n]
   generalize tn six n p=a
   generalize tn six n q=b
   cases six
   . simp only[Pf.tl,ad,Bool.false_eq_true,if_false];refine Prod.ext ?_ ?_ <;> simp only <;> omega
   . simp only[Pf.tl,ad,if_true];refine Prod.ext ?_ ?_ <;> simp only <;> omega
theorem DE (six:Bool)(p:Int×Int)(b:Nat):∀ a:Nat,tn six (a+b) p=tn six a (tn six b p)
 | 0=>by rw[Nat.zero_add];rfl
 | a+1=>by
   rw[Nat.succ_add]
   show Pf.tl six (tn six (a+b) p)=Pf.tl six (tn six a (tn six b p))
   rw[DE six p b a]
theorem Ry (six:Bool)(p:Int×Int):tn six (wn six) p=p:=by
 obtain⟨x,y⟩:=p
 cases six with
 | false=>show Pf.tl false (Pf.tl false (Pf.tl false (Pf.tl false (x,y))))=_;simp[Pf.tl]
 | true=>show Pf.tl true (Pf.tl true (Pf.tl true (Pf.tl true (Pf.tl true (Pf.tl true (x,y))))))=_;simp[Pf.tl];omega
theorem KH (six:Bool)(p:Int×Int)(r:Nat):∀ q:Nat,tn six (r+wn six * q) p=tn six r p
 | 0=>rfl
 | q+1=>by rw[Nat.mul_succ,<- Nat.add_assoc,DE,Ry,KH six p r q]
theorem KI (six:Bool)(a b:Int)(p:Int×Int):tn six (a % wy six).toNat (tn six (b % wy six).toNat p)=tn six (((a+b) % wy six) % wy six).toNat p:=by
 rw[<- DE,<- Nat.mod_add_div ((a % wy six).toNat+(b % wy six).toNat) (wn six),KH]
 congr 1
 have hw:=yk six
 have hp:=f7 six
 have h1:=Int.emod_nonneg a (Int.ne_of_gt hp)
 have h2:=Int.emod_nonneg b (Int.ne_of_gt hp)
 have e:((((a % wy six).toNat+(b % wy six).toNat) % wn six:Nat):Int)=((a+b) % wy six) % wy six:=by
   rw[Int.natCast_emod,hw,Int.natCast_add,Int.toNat_of_nonneg h1,Int.toNat_of_nonneg h2,Int.emod_emod,<- Int.add_emod]
 omega
theorem Vd (six:Bool)(p q:Int×Int):cr (Pf.tl six p) (Pf.tl six q)=cr p q:=by
 unfold cr Pf.tl
 cases six
 . simp only[Bool.false_eq_true,if_false]
   have h1:-p.2 * q.1=-(p.2 * q.1):=Int.neg_mul _ _
   have h2:p.1 * -q.2=-(p.1 * q.2):=Int.mul_neg _ _
   omega
 . simp only[if_true]
   have h1:-p.2 * (q.1+q.2)=-(p.2 * q.1) - p.2 * q.2:=by rw[Int.neg_mul,Int.mul_add];omega
   have h2:(p.1+p.2) * -q.2=-(p.1 * q.2) - p.2 * q.2:=by rw[Int.mul_neg,Int.add_mul];omega
   omega
theorem OE (six:Bool):∀ (n:Nat) (p q:Int×Int),cr (tn six n p) (tn six n q)=cr p q
 | 0,_,_=>rfl
 | n+1,p,q=>by rw[tn,tn,Vd,OE six n]
theorem Nx (p q r:Int×Int):cr p (ad q r)=cr p q+cr p r:=by
 unfold cr ad
 simp only[Int.mul_add];omega
theorem Ny (p q r:Int×Int):cr (ad p q) r=cr p r+cr q r:=by
 unfold cr ad
 simp only[Int.add_mul];omega
theorem KJ (p q r:Int×Int):ad p (ad q r)=ad (ad p q) r:=by
 unfold ad
 refine Prod.ext ?_ ?_ <;> simp only <;> omega
theorem list_eq {six:Bool}{a b:List Int}(ha:a.length=wn six)(hb:b.length=wn six)(h:∀ w,w < wn six->a.getD w 0=b.getD w 0):a=b:=by
 refine List.ext_getElem (by omega) fun i h1 h2=>?_
 have:=h i (by omega)
 rw[List.getD_eq_getElem?_getD,List.getD_eq_getElem?_getD,List.getElem?_eq_getElem h1,List.getElem?_eq_getElem h2] at this
 exact this
theorem tf (six:Bool)(x y:Tr):(jn six x y).reach.length=wn six/\(jn six x y).cL.length=wn six:=by unfold jn;simp
theorem KL (six:Bool)(x y z:Tr):jn six x (jn six y z)=jn six (jn six x y) z:=by
 have key:∀ w,w < wn six->∃ v u:Nat,v < wn six/\u < wn six/\(((w:Int) - x.turn) % wy six).toNat=v/\(((v:Int) - y.turn) % wy six).toNat=u/\(((w:Int) - (x.turn+y.turn) % wy six) % wy six).toNat=u/\kL six w (tn six (x.turn % wy six).toNat y.shift)=kL six v y.shift:=by
   intro w hw
   obtain⟨h1,h2⟩:=Ad six w x.turn
   obtain⟨h3,h4⟩:=Ad six (((w:Int) - x.turn) % wy six).toNat y.turn
   refine⟨_,_,h1,h3,rfl,rfl,?_,?_⟩
   . rw[h2]
     cases six with
     | false=>show(((w:Int) - (x.turn+y.turn) % 4) % 4).toNat=(((w - x.turn) % 4 - y.turn) % 4).toNat;congr 1;omega
     | true=>show(((w:Int) - (x.turn+y.turn) % 6) % 6).toNat=(((w - x.turn) % 6 - y.turn) % 6).toNat;congr 1;omega
   . rw[h2,B6 six hw]
 have hr:(jn six x (jn six y z)).reach=(jn six (jn six x y) z).reach:=by
   refine list_eq (tf _ _ _).1 (tf _ _ _).1 fun w hw=>?_
   obtain⟨v,u,hv,hu,e1,e2,e3,e4⟩:=key w hw
   rw[kl six _ _ hw,kl six _ _ hw,kl six _ _ hw,e1,kl six _ _ hv,e2]
   show _=Rx _ (z.reach.getD (((w:Int) - (x.turn+y.turn) % wy six) % wy six).toNat 0+kL six w (ad x.shift (tn six (x.turn % wy six).toNat y.shift)))
   rw[e3,DC,e4]
   unfold Rx
   split <;> split <;> split <;> (try split) <;> omega
 have ht:(jn six x (jn six y z)).cL=(jn six (jn six x y) z).cL:=by
   refine list_eq (tf _ _ _).2 (tf _ _ _).2 fun w hw=>?_
   obtain⟨v,u,hv,hu,e1,e2,e3,e4⟩:=key w hw
   rw[mP six _ _ hw,mP six (jn six x y) _ hw,mP six x y hw,kl six x y hw,e1,kl six _ _ hv,mP six _ _ hv,e2]
   show _=if z.reach.getD (((w:Int) - (x.turn+y.turn) % wy six) % wy six).toNat 0+kL six w (ad x.shift (tn six (x.turn % wy six).toNat y.shift))<=_ then _ else z.cL.getD (((w:Int) - (x.turn+y.turn) % wy six) % wy six).toNat 0+(x.many+y.many)
   rw[e3,DC,e4]
   unfold Rx
   split <;> split <;> split <;> (try split) <;> (try split) <;> omega
 have e1:(jn six x (jn six y z)).turn=(jn six (jn six x y) z).turn:=by
   show(x.turn+(y.turn+z.turn) % wy six) % wy six=((x.turn+y.turn) % wy six+z.turn) % wy six
   rw[Int.add_emod_emod,Int.emod_add_emod,Int.add_assoc]
 have e2:(jn six x (jn six y z)).shift=(jn six (jn six x y) z).shift:=by
   show ad x.shift (tn six (x.turn % wy six).toNat (ad y.shift (tn six (y.turn % wy six).toNat z.shift)))=ad (ad x.shift (tn six (x.turn % wy six).toNat y.shift)) (tn six (((x.turn+y.turn) % wy six) % wy six).toNat z.shift)
   rw[KG,KI,KJ]
 have e3:(jn six x (jn six y z)).lU=(jn six (jn six x y) z).lU:=by
   show x.lU+(y.lU+z.lU+cr y.shift (tn six (y.turn % wy six).toNat z.shift))+cr x.shift (tn six (x.turn % wy six).toNat (ad y.shift (tn six (y.turn % wy six).toNat z.shift)))
     = x.lU+y.lU+cr x.shift (tn six (x.turn % wy six).toNat y.shift)+z.lU+cr (ad x.shift (tn six (x.turn % wy six).toNat y.shift)) (tn six (((x.turn+y.turn) % wy six) % wy six).toNat z.shift)
   have q:=OE six (x.turn % wy six).toNat y.shift (tn six (y.turn % wy six).toNat z.shift)
   rw[KI] at q
   rw[KG,KI,Nx,Ny,<- q]
   omega
 have e4:(jn six x (jn six y z)).many=(jn six (jn six x y) z).many:=(Int.add_assoc _ _ _).symm
 have e5:(jn six x (jn six y z)).fH=(jn six (jn six x y) z).fH:=(Int.add_assoc _ _ _).symm
 generalize jn six x (jn six y z)=a at hr ht e1 e2 e3 e4 e5
 generalize jn six (jn six x y) z=b at hr ht e1 e2 e3 e4 e5
 cases a;cases b
 simp only at hr ht e1 e2 e3 e4 e5
 subst hr ht e1 e2 e3 e4 e5
 rfl
noncomputable def B7 (six:Bool)(xs:List Str)(k:Nat):Int×Int:=(cw six (xs.take k)).shift
theorem KN (six:Bool)(xs:List Str):0<=(cw six xs).turn/\(cw six xs).turn < wy six:=by
 by_cases h:xs=[]
 . subst h;exact⟨Int.le_refl _,f7 six⟩
 . rw[<- List.dropLast_concat_getLast h,lP]
   exact⟨Int.emod_nonneg _ (Int.ne_of_gt (f7 six)),Int.emod_lt_of_pos _ (f7 six)⟩
noncomputable def rec (six:Bool)(xs:List Str)(w:Int):Nat->Int×Int
 | 0=>(0,0)
 | j+1=>if (rec six xs w j).1 < kL six w (B7 six xs j) then (kL six w (B7 six xs j),j) else rec six xs w j
theorem B8 (six:Bool)(xs:List Str)(d:Str)(w:Int):∀ j,j<=xs.length+1->rec six (xs ++ [d]) w j=rec six xs w j
 | 0,_=>rfl
 | j+1,h=>by
   rw[rec,rec,B8 six xs d w j (by omega)]
   have e:B7 six (xs ++ [d]) j=B7 six xs j:=by
     unfold B7
     rw[List.take_append_of_le_length (by omega)]
   rw[e]
theorem B9 (six:Bool)(w:Int):kL six w (0,0)=0:=by
 unfold kL
 cases six <;> simp
theorem Fe (six:Bool){w:Nat}(hw:w < wn six):∀ (n:Nat) (xs:List Str),xs.length=n->rec six xs w (n+1)=((cw six xs).reach.getD w 0,(cw six xs).cL.getD w 0)/\kL six w (cw six xs).shift<=(cw six xs).reach.getD w 0:=by
 intro n
 induction n with
 | zero=>
   intro xs h
   have e:xs=[]:=List.eq_nil_of_length_eq_zero h
   subst e
   have e1:(cw six []).reach.getD w 0=0:=by
     show(List.replicate (wn six) (0:Int)).getD w 0=0
     rw[List.getD_eq_getElem?_getD,List.getElem?_replicate];split <;> rfl
   have e2:(cw six []).cL.getD w 0=0:=e1
   have e3:kL six w (B7 six [] 0)=0:=B9 six w
   have e4:kL six w (cw six []).shift=0:=B9 six w
   rw[e1,e2,e4,rec,rec,e3]
   simp
 | succ n ih=>
   intro xs h
   have ym:xs≠[]:=fun e=>by rw[e] at h;cases h
   have e:=List.dropLast_concat_getLast ym
   have hl:xs.dropLast.length=n:=by rw[List.length_dropLast];omega
   generalize xs.getLast ym=d at e
   generalize xs.dropLast=ys at e hl
   subst e
   obtain⟨h1,h2⟩:=ih ys hl
   rw[rec,B8 six ys d w (n+1) (by omega),h1]
   have es:B7 six (ys ++ [d]) (n+1)=(cw six (ys ++ [d])).shift:=by
     unfold B7
     rw[List.take_of_length_le (by rw[List.length_append];simp;omega)]
   rw[es,lP,kl six _ _ hw,mP six _ _ hw]
   obtain⟨b1,b2⟩:=Ad six w (cw six ys).turn
   have r1:(one six d).reach.getD (((w:Int) - (cw six ys).turn) % wy six).toNat 0=nM six d (((w:Int) - (cw six ys).turn) % wy six).toNat:=nS b1
   have t1:(one six d).cL.getD (((w:Int) - (cw six ys).turn) % wy six).toNat 0=if nM six d (((w:Int) - (cw six ys).turn) % wy six).toNat < 1 then nM six d (((w:Int) - (cw six ys).turn) % wy six).toNat else 1:=nS (f:=fun k=>if nM six d k < 1 then nM six d k else 1) b1
   rw[r1,t1]
   unfold nM
   rw[b2,B6 six hw]
   have ec:kL six w (jn six (cw six ys) (one six d)).shift=kL six w (cw six ys).shift+kL six w (tn six ((cw six ys).turn % wy six).toNat (uM six d (0,0) 0).1):=DC six w _ _
   rw[ec]
   have hm:=(JV six n ys hl).1
   rw[hm]
   generalize kL six w (tn six ((cw six ys).turn % wy six).toNat (uM six d (0,0) 0).1)=D
   generalize kL six w (cw six ys).shift=B at h2 ⊢
   generalize (cw six ys).reach.getD w 0=A at h2 ⊢
   generalize (cw six ys).cL.getD w 0=U
   unfold Rx
   refine⟨?_,?_⟩
   . by_cases c1:D > 0
     . simp only[if_pos c1]
       by_cases c2:D+B<=A
       . simp only[if_pos c2]
         rw[if_neg (by omega)]
       . simp only[if_neg c2]
         rw[if_pos (by omega),if_neg (by omega)]
         refine Prod.ext ?_ ?_
         . show B+D=D+B;omega
         . show((n+1:Nat):Int)=1+n;omega
     . simp only[if_neg c1]
       rw[if_neg (by omega)]
       have c2:0+B<=A:=by omega
       simp only[if_pos c2]
   . by_cases c1:D > 0
     . simp only[if_pos c1];split <;> omega
     . simp only[if_neg c1];split <;> omega
theorem Rz (six:Bool)(xs:List Str):jn six (cw six xs) (BM six)=cw six xs:=by
 have w:=JU six _ xs rfl
 have tt:=KN six xs
 have z:∀ k,(BM six).reach.getD k 0=0:=fun k=>by
   show(List.replicate (wn six) (0:Int)).getD k 0=0
   rw[List.getD_eq_getElem?_getD,List.getElem?_replicate];split <;> rfl
 have hr:(jn six (cw six xs) (BM six)).reach=(cw six xs).reach:=list_eq (tf _ _ _).1 w.2.2.1 fun v hv=>by
   have:=(Fe six hv _ xs rfl).2
   rw[kl six _ _ hv,z]
   unfold Rx
   rw[if_pos (by omega)]
 have ht:(jn six (cw six xs) (BM six)).cL=(cw six xs).cL:=list_eq (tf _ _ _).2 w.2.2.2 fun v hv=>by
   have:=(Fe six hv _ xs rfl).2
   rw[mP six _ _ hv,z,if_pos (by omega)]
 have e1:(jn six (cw six xs) (BM six)).turn=(cw six xs).turn:=by
   show((cw six xs).turn+0) % wy six=_
   rw[Int.add_zero,Int.emod_eq_of_lt tt.1 tt.2]
 have e2:(jn six (cw six xs) (BM six)).shift=(cw six xs).shift:=by
   show ad (cw six xs).shift (tn six _ (0,0))=_
   rw[uO];unfold ad;simp
 have e3:(jn six (cw six xs) (BM six)).lU=(cw six xs).lU:=by
   show(cw six xs).lU+0+cr (cw six xs).shift (tn six _ (0,0))=_
   rw[uO];unfold cr;simp
 have e4:(jn six (cw six xs) (BM six)).many=(cw six xs).many:=Int.add_zero _
 have e5:(jn six (cw six xs) (BM six)).fH=(cw six xs).fH:=Int.add_zero _
 generalize jn six (cw six xs) (BM six)=a at hr ht e1 e2 e3 e4 e5 ⊢
 generalize cw six xs=b at hr ht e1 e2 e3 e4 e5 ⊢
 cases a;cases b
 simp only at hr ht e1 e2 e3 e4 e5
 subst hr ht e1 e2 e3 e4 e5
 rfl
theorem Nz (six:Bool)(xs:List Str):∀ (n:Nat) (ys:List Str),ys.length=n->jn six (cw six xs) (cw six ys)=cw six (xs ++ ys):=by
 intro n
 induction n with
 | zero=>
   intro ys h
   have e:ys=[]:=List.eq_nil_of_length_eq_zero h
   subst e
   rw[List.append_nil]
   exact Rz six xs
 | succ n ih=>
   intro ys h
   have ym:ys≠[]:=fun e=>by rw[e] at h;cases h
   have e:=List.dropLast_concat_getLast ym
   have hl:ys.dropLast.length=n:=by rw[List.length_dropLast];omega
   rw[<- e,lP,KL,ih _ hl,<- List.append_assoc,lP]
noncomputable def uR (rows:List Row)(w:List Nat):List Str:=w.map (bG rows)
theorem KO {rows:List Row}(ok:aM rows):∀ (r:Nat) {c:Nat},c∈rows.map (·.c)->(gP rows r c).length<=8 ^ r
 | 0,_,_=>Nat.le_refl _
 | r+1,c,h=>by
   obtain⟨q,hq,_,_,ew⟩:=dX h
   have hw:∀ y∈wordOf rows c,y∈rows.map (·.c):=fun y hy=>ok.wo q hq y (by rw[ew] at hy;exact hy)
   have hl:(wordOf rows c).length<=8:=by rw[ew];exact(ok.wp q hq).2
   have:∀ (w:List Nat),(∀ y∈w,y∈rows.map (·.c))->(w.flatMap (gP rows r)).length<=w.length * 8 ^ r:=by
     intro w
     induction w with
     | nil=>intro _;simp
     | cons a w ih=>
       intro h
       rw[List.flatMap_cons,List.length_append,List.length_cons,Nat.add_mul,Nat.one_mul]
       have h1:=KO ok r (h a (by simp))
       have h2:=ih fun y hy=>h y (by simp[hy])
       omega
   have h3:=this _ hw
   have h4:(wordOf rows c).length * 8 ^ r<=8 * 8 ^ r:=Nat.mul_le_mul_right _ hl
   show((wordOf rows c).flatMap (gP rows r)).length<=8 ^ (r+1)
   rw[Nat.pow_succ];omega
theorem Ve {rows:List Row}{w:List Nat}(ok:lW rows w){age:Nat}(h:age<=200):(mS rows w age).length < 2 ^ 990:=by
 have:∀ (v:List Nat),(∀ y∈v,y∈rows.map (·.c))->(v.flatMap (gP rows age)).length<=v.length * 8 ^ age:=by
   intro v
   induction v with
   | nil=>intro _;simp
   | cons a v ih=>
     intro h
     rw[List.flatMap_cons,List.length_append,List.length_cons,Nat.add_mul,Nat.one_mul]
     have h1:=KO ok.ok age (h a (by simp))
     have h2:=ih fun y hy=>h y (by simp[hy])
     omega
 have h1:=this w ok.wm
 have h2:w.length * 8 ^ age<=8 * 8 ^ 200:=Nat.mul_le_mul ok.w8 (Nat.pow_le_pow_right (by decide) h)
 have h3:8 * 8 ^ 200 < 2 ^ 990:=by decide +kernel
 exact Nat.lt_of_le_of_lt (Nat.le_trans h1 h2) h3
theorem YK {rows:List Row}(ok:aM rows){r c:Nat}(h:c∈rows.map (·.c))(hr:r<=200):(gP rows r c).length < 2 ^ 990:=by
 have h1:=KO ok r h
 have h2:8 ^ r<=8 ^ 200:=Nat.pow_le_pow_right (by decide) hr
 exact Nat.lt_of_le_of_lt (Nat.le_trans h1 h2) (by decide +kernel)
noncomputable def G3 (six:Bool)(rows:List Row)(i c:Nat):Tr:=cw six (uR rows (gP rows i c))
noncomputable def dY.p8 (t:dY)(six:Bool)(rows:List Row)(i:Nat):List (Key×FD):=(rows.map (·.c)).map fun c=>(.inr (sg c),.obj t.ay (t.Yr six (G3 six rows i c)))
theorem RA (t:dY)(six:Bool)(rows:List Row)(i:Nat):oi (t.p8 six rows i)=kd (rows.map (·.c)) fun c=>t.ql six (G3 six rows i c):=by unfold oi dY.p8 kd;rw[List.map_map];rfl
noncomputable abbrev dY.xE (t:dY)(six:Bool)(rows:List Row)(w:List Nat)(l':Addr)(ls':km)(n':Nat):List (Str×Dt):=R9 "growth" t.ar (t.zZ six rows w) ["tallies","lengths"] l' ls' n'
noncomputable abbrev dY.Ae (t:dY)(six:Bool)(rows:List Row)(w:List Nat)(l':Addr)(ls':km)(n':Nat)(l:Addr)(ls:km)(n:Nat):List (Str×Dt):=tw (t.xE six rows w l' ls' n') ["tracks"] l ls n
noncomputable abbrev dY.Vf (t:dY)(six:Bool)(rows:List Row)(w:List Nat)(l':Addr)(ls':km)(n':Nat)(l:Addr)(ls:km)(n:Nat):List (Str×Dt):=pY (t.xE six rows w l' ls' n') ["tracks"] l ls n
theorem RB {l l':Addr}{ls':km}{n':Nat}(h:l'≠l)(t:dY)(six:Bool)(rows:List Row)(w:List Nat):kO l (t.xE six rows w l' ls' n')=true:=by
 have e:sC l (.memo l' ls' 0 n')=true/\sC l (.memo l' ls' 1 n')=true:=by
   unfold sC
   simp[h]
 show((sC l (t.uJ six rows) && (sC l (.str (tx w)) && (sC l (.memo l' ls' 0 n') && (sC l (.memo l' ls' 1 n') && true)))) && true)=true
 rw[Ds,e.1,e.2];rfl
theorem KP (six:Bool)(xs:List (List Str)){k:Nat}(h:k < xs.length):jn six (cw six (xs.take k).flatten) (cw six xs[k])=cw six (xs.take (k+1)).flatten:=by
 rw[Nz six _ _ _ rfl,List.take_add_one,List.getElem?_eq_getElem h,List.flatten_append]
 simp
noncomputable def GJ (t:dY):Rl:=fun ds r=>∃ six rows w l ls n rest,∃ xs:List (List Str),ds=[.obj t.ax (("growth",xD t six rows w l ls n)::rest),.lst (xs.map fun x=>t.ql six (cw six x))]/\xs.flatten.length < 2 ^ 990/\r=.ret (t.ql six (cw six xs.flatten))
noncomputable def NA (t:dY):Rl:=fun ds r=>∃ six rows w l ls n,ds=[xD t six rows w l ls n]/\lW rows w/\r=.own (.rY t.ax (t.xE six rows w l ls n) [t.p8 six rows] ["tracks"] 1)
structure KQ (t:dY)(six:Bool)(rows:List Row)(w:List Nat)(ls' ls:km):Prop where
 ok:lW rows w
 gs:ls'.map (·.2)=o3 rows
 ts:ls.map (·.2)=[t.p8 six rows]
noncomputable def NB (t:dY):Rl:=fun ds r=>∃ six rows w l' ls' n' l ls n age,ds=[.obj t.ax (t.Ae six rows w l' ls' n' l ls n),.int ((age:Nat):Int)]/\KQ t six rows w ls' ls/\age<=200/\r=.ret (.xR l ls (age+1))
noncomputable def yp (t:dY):Rl:=fun ds r=>∃ six rows w l' ls' n' l ls n age,∃ b e:Nat,ds=[.obj t.ax (t.Ae six rows w l' ls' n' l ls n),.int ((age:Nat):Int),.int (b:Int),.int (e:Int)]/\KQ t six rows w ls' ls/\age<=200/\(b<=e/\e<=(mS rows w age).length)/\r=.ret (t.ql six (cw six (uR rows (cut (mS rows w age) b e))))
noncomputable abbrev Vg:Scope:=Du ((aB gv).getD 2 (.Pass ⟨0,0,0,0⟩))
theorem OF:gq Vg (af gv) oQ ["letter","rules"] ["letter"] [2]=true:=by decide +kernel
noncomputable abbrev wBd:List Stmt:=UX ((aB bU).getD 1 (.Pass ⟨0,0,0,0⟩))
noncomputable abbrev Vh:Scope:=BW (wBd.getD 2 (.Pass ⟨0,0,0,0⟩))
theorem OG:gq Vh (af bU) kI ["younger","last"] ["younger"] [3]=true:=by decide +kernel
noncomputable abbrev Vi:Scope:=Ka ((aB cI).getD 2 (.Pass ⟨0,0,0,0⟩))
theorem OH:gq Vi (af cI) l4 ["rounds","letter","self"] ["rounds","letter"] [0]=true:=by decide +kernel
theorem KR {rows:List Row}(ok:aM rows){x:Nat}(h:x∈rows.map (·.c)):bG rows x∈qk:=by
 obtain⟨q,hq,_,e,_⟩:=dX h
 rw[e];exact ok.dd q hq
theorem wI (T:Txt K mg t):MF P w K mg base CX 6 t.ax "join_all" 2 (GJ t):=by
 refine⟨T.aU.cl,_,_,_,i6 T.fA.F kH rfl fun bf A outer s H E G ds r hr hl hR=>?_,T.c6,T.fA.b⟩
 obtain⟨six,rows,wd,l,ls,n,rest,xs,rfl,hx,rfl⟩:=hR
 have zW:=BO (P:=P) (w:=w) (base:=base) T
 have Ca:=z5 (P:=P) (w:=w) (base:=base) T
 have KS:=EJ (P:=P) (w:=w) (base:=base) T
 have wc:=yl (P:=P) (w:=w) (base:=base) T
 have nd:=kH.nd
 let D:Dt:=.obj t.ax (("growth",xD t six rows wd l ls n)::rest)
 let tr:List Str->Dt:=fun x=>t.ql six (cw six x)
 let S:Nat->List Slot:=fun k=>[.val D,.val (.lst (xs.map tr)),.val (t.ql six (cw six (xs.take k).flatten)),.aL]
 have en:S (xs.map tr).length=[.val D,.val (.lst (xs.map tr)),.val (t.ql six (cw six xs.flatten)),.aL]:=by
   show [_,_,Slot.val (t.ql six (cw six (xs.take (xs.map tr).length).flatten)),_]=_
   rw[List.length_map,List.take_length]
 have hle:∀ k,(xs.take k).flatten.length < 2 ^ 990:=fun k=>by
   have e:=List.take_append_drop k xs
   rw[<- e,List.flatten_append,List.length_append] at hx
   omega
 refine⟨_,.rt _,ah (au 2 nd (b0 zW aA hr (ae (cj (fs:=t.qH six rows) (cj (fs:=t.f9 six rows wd l ls n) (aD (fs:=("growth",xD t six rows wd l ls n)::rest) (aa 0 rfl) T.aU.cl T.bA rfl) Ca aA hr ⟨six,rows,wd,l,ls,n,rfl,rfl⟩) KS aA hr ⟨six,rows,rfl,rfl⟩) ai) ⟨six,rfl,rfl⟩))
   (ah (D2 (m:=(xs.map tr).length) 3 S nd rfl PassesOwn.leaving (aa 1 rfl) (Le.of ⟨rfl,rfl,rfl,trivial⟩) (Nat.le_refl _) (fun k z hk hz=>?_) (.all rfl)) ?_)⟩
 . rw[List.length_map] at hk
   rw[List.getElem?_map,List.getElem?_eq_getElem hk] at hz
   cases hz
   have h1:xs[k].length < 2 ^ 990:=by
     have:=hle (k+1)
     rw[List.take_add_one,List.getElem?_eq_getElem hk,List.flatten_append,List.length_append] at this
     simp at this
     omega
   refine .nx (ao (au 2 nd (aQ (fs:=t.lV six (cw six (xs.take k).flatten)) (oZ (aa 2 rfl)) wc aA hr (ae (oZ (x:=cw six xs[k]) (aa 3 rfl)) ai) ⟨six,_,cw six xs[k],rfl,⟨zV six (hle k),zV six h1⟩,rfl⟩))) (Le.of ⟨rfl,rfl,?_,trivial⟩)
   show Slot.val (t.ql six (cw six (xs.take (k+1)).flatten))=_
   rw[KP six xs hk]
 . rw[en]
   exact ao (aF (aa 2 rfl))
theorem KU (T:Txt K mg t):R3 P w K mg base CX 8 "Drawing" t.ax 2 (NA t):=by
 refine⟨_,_,_,VI T.jx.F nX rfl fun bf A outer s H E G z ds r hr hl hR=>?_,T.qC,(T.g T.aU.a),T.jx.b⟩
 obtain⟨six,rows,wd,l,ls,n,rfl,ok,rfl⟩:=hR
 have cM:=gF (P:=P) (w:=w) (base:=base) T
 have Ca:=z5 (P:=P) (w:=w) (base:=base) T
 have KS:=EJ (P:=P) (w:=w) (base:=base) T
 have Dq:=BG (P:=P) (w:=w) (base:=base) T
 have YL:=BP (P:=P) (w:=w) (base:=base) T
 have h6:=ok.ok.le
 let L:=rows.map (·.c)
 have hL:L.length<=6:=by show(rows.map (·.c)).length<=6;rw[List.length_map];exact h6
 have nd:=nX.nd
 have e1:((L.filter fun _=>true).map fun x=>Dt.tup [.str (sg x),t.ql six (G3 six rows 0 x)])=(oi (t.p8 six rows 0)).map IH:=by
   rw[List.filter_eq_self.mpr (fun _ _=>rfl),RA]
   exact yn L _
 have h7:∀ x∈L,x < 128:=fun x hx=>by
   obtain⟨r,hr,rfl⟩:=List.mem_map.mp hx
   have:=ok.ok.sm r hr
   unfold small at this;omega
 refine⟨_,.W5 (fs:=t.xE six rows wd l ls n) (gs:=[t.p8 six rows]) (nm:=["tracks"]) (n:=1) rfl,ah (kz (aa 1 rfl) T.aU.cl T.bA) (ah (au 2 nd (cj (fs:=t.f9 six rows wd l ls n) (aa 1 rfl) Ca aA hr ⟨six,rows,wd,l,ls,n,rfl,rfl⟩))
   (wY (f:=t.p8 six rows) rfl T.aU.cl T.bB ?_))⟩
 refine lI T.nL rfl (dB e1 (eO L (fun x=>Dt.str (sg x)) (fun x=>.tup [.str (sg x),t.ql six (G3 six rows 0 x)]) (fun x=>[.val (.str (sg x))]) (fun _=>true) rfl (a0 OF) (gu (cj (fs:=t.qH six rows) (aa 2 rfl) cM aA hr ⟨six,rows,rfl,ok.ok,rfl⟩)) (bF (a0 OF) rfl) (cK (cF (fQ h7)) (fJ L)) (fun a _=>bQ) (.nil fun _ _=>rfl)
     (fun a ha _ C fp s' H' G'=>cY (ae (aa 0 rfl) (ae (b0 YL aA hr (ae (cj (fs:=t.qH six rows) (aa 1 rfl) KS aA hr ⟨six,rows,rfl,rfl⟩) (ae (oH (sh (ae (aQ (fs:=t.qH six rows) (aa 1 rfl) Dq aA hr (ae (aa 0 rfl) ai) ⟨six,rows,a,rfl,ok.ok,ha,rfl⟩) ai) AA3)) ai)) ⟨six,[bG rows a],rfl,fun d hd=>by
       have:d=bG rows a:=by simpa using hd
       rw[this];exact KR ok.ok ha,by simp,rfl⟩) ai)) AA3) (qF (by omega)))) (by rw[RA,rF];exact jP ok.ok.nd) (by rw[RA];show(List.map _ _).length<=_;rw[List.length_map,List.length_map];exact qF (by omega))
theorem Cb (T:Txt K mg t):MF P w K mg base CX 7 t.ax "deepen_to" 2 (NB t):=by
 refine⟨T.aU.cl,_,_,_,i6 T.eC.F ki rfl fun bf A outer s H E G ds r hr hl hR=>?_,T.cU,T.eC.b⟩
 obtain⟨six,rows,wd,l',ls',n',l,ls,n,age,rfl,ok,i7,rfl⟩:=hR
 have mx:=ok.ts
 have NC:=ok.ok.ok
 have Ca:=z5 (P:=P) (w:=w) (base:=base) T
 have cM:=gF (P:=P) (w:=w) (base:=base) T
 have nP:=oY (P:=P) (w:=w) (base:=base) T
 have DF:=wI (P:=P) (w:=w) (base:=base) T
 have nd:=ki.nd
 have h6:=NC.le
 let L:=rows.map (·.c)
 have hL:L.length<=6:=by show(rows.map (·.c)).length<=6;rw[List.length_map];exact h6
 have h7:∀ x∈L,x < 128:=fun x hx=>by
   obtain⟨r,hr,rfl⟩:=List.mem_map.mp hx
   have:=NC.sm r hr
   unfold small at this;omega
 have hu:(A.deeper (envOfC "Drawing.deepen_to" (af bU) s.heap.objs.size t.br bf)).units+1 < cLine:=by have:=hr.units;omega
 have e1:ls.length=1:=by have:=congrArg List.length mx;simpa using this
 have e2:ls'.length=2:=by have:=congrArg List.length ok.gs;simpa [o3] using this
 let tl:List Slot:=[.val (.int ((age:Nat):Int)),.val (t.uJ six rows),.aL,.aL,.aL]
 refine⟨_,pH (C:=t.ax) (fs:=t.xE six rows wd l' ls' n') (nm:=["tracks"]) (tl:=tl) (by rw[e1];exact Nat.le_refl 1),Gi (nm:=["tracks"]) (nm':=["tallies","lengths"]) (C:=t.ax) (C':=t.ar) (l:=l) (l':=l') (ls:=ls) (ls':=ls') (n:=n) (n':=n') (fs':=t.zZ six rows wd) (g:="growth") 0 (by decide) (by decide) (by omega) (fun ym=>?_) rfl⟩
 have hs:=RB (ls':=ls') (n':=n') ym t six rows wd
 have ht:qZ l tl=true:=by
   have:qZ l [.val (t.uJ six rows),.aL,.aL,.aL]=true:=by
     unfold qZ;rw[Ds];rfl
   exact this
 refine ah (dl1:=Al t.ax (t.xE six rows wd l' ls' n') ["tracks"] l ls n tl) (au 2 nd (cj (fs:=t.f9 six rows wd l' ls' n') (aD (fs:=t.Ae six rows wd l' ls' n' l ls n) (aa 0 rfl) T.aU.cl T.bA rfl) Ca aA hr ⟨six,rows,wd,l',ls',n',rfl,rfl⟩))
   (ao (x8 (age:=age) PassesOwn.leaving hs ht (by decide) (by omega) (fun N G hx=>?_) (fun N hN hNa G0 hA hB=>?_)))
 . exact dP (tE (Eo (N:=N) T.jE hx (aD (fs:=t.Vf six rows wd l' ls' n' l ls n) (aa 0 rfl) T.aU.cl T.bB rfl) (by rw[e1];rfl)) (aa 1 rfl)) (decide_eq_decide.mpr (by omega))
 . let Dk:Nat->Dt:=fun c=>t.ql six (G3 six rows N c)
   let O:Dt:=.obj t.ax (t.Vf six rows wd l' ls' n' l ls n)
   let S:Nat->List Slot:=fun k=>[.val O,.val (.int ((age:Nat):Int)),.val (t.uJ six rows),.val (.eG (oi (t.p8 six rows (N - 1)))),.own (.dw (kd (L.take k) Dk)),.aL]
   have eS:S L.length=[.val O,.val (.int ((age:Nat):Int)),.val (t.uJ six rows),.val (.eG (oi (t.p8 six rows (N - 1)))),.own (.dw (oi (t.p8 six rows N))),.aL]:=by
     show [_,_,_,_,Slot.own (.dw (kd (L.take L.length) Dk)),_]=_
     rw[List.take_length,RA t six rows N]
   refine ah (au 3 nd (Bo (f:=t.p8 six rows) (N:=N) ak (aD (fs:=t.Vf six rows wd l' ls' n' l ls n) (aa 0 rfl) T.aU.cl T.bB rfl) (mX aj) (by rw[mx];rfl) (by rw[e1];rfl) hN)) (ah (kN 4 nd zb)
     (ah (dl1:=S L.length) (l3 (o:=.nx (S L.length)) (m:=L.length) L (fun x=>Dt.str (sg x)) (fun x dl=>dl.set 5 (.val (.str (sg x)))) S rfl PassesOwn.leaving (gu (cj (fs:=t.qH six rows) (aa 2 rfl) cM aA hr ⟨six,rows,rfl,NC,rfl⟩)) (cK (cF (fQ h7)) (fJ L)) (bI nd rfl (.inl rfl)) (fun a _=>uo) (Le.of ⟨rfl,rfl,rfl,rfl,rfl,trivial⟩) (Nat.le_refl _) (fun k a hk ha=>?_) (.all rfl)) ?_))
   . rw[List.getElem?_eq_getElem hk] at ha
     cases ha
     have hm:L[k]∈L:=List.getElem_mem hk
     obtain⟨q,hq,hc,_,ew⟩:=dX hm
     have Wc:=NC.wp q hq
     have U0:∀ y∈wordOf rows L[k],y∈L:=fun y hy=>NC.wo q hq y (by rw[ew] at hy;exact hy)
     have DY:(wordOf rows L[k]).length<=8:=by rw[ew];exact Wc.2
     have Qa:(kd (L.take k) Dk).length < sizeLine:=by
       unfold kd
       rw[List.length_map,List.length_take];exact Nat.lt_of_lt_of_le (show min k L.length < 2000 by omega) (by decide)
     let xs:List (List Str):=(wordOf rows L[k]).map fun y=>uR rows (gP rows (N - 1) y)
     have e3:(((wordOf rows L[k]).filter fun _=>true).map fun y=>t.ql six (G3 six rows (N - 1) y))=xs.map fun x=>t.ql six (cw six x):=by
       rw[List.filter_eq_self.mpr (fun _ _=>rfl),List.map_map];rfl
     have Vj:xs.flatten=uR rows (gP rows N L[k]):=by
       obtain⟨M,rfl⟩:∃ M,N=M+1:=⟨N - 1,by omega⟩
       show((wordOf rows L[k]).map fun y=>uR rows (gP rows M y)).flatten=((wordOf rows L[k]).flatMap (gP rows M)).map (bG rows)
       rw[List.map_flatMap,List.flatMap_def];rfl
     have ed:Dk L[k]=t.ql six (cw six xs.flatten):=by rw[Vj];rfl
     have hb:xs.flatten.length < 2 ^ 990:=by
       rw[Vj];unfold uR;rw[List.length_map];exact YK NC hm (by omega)
     refine .nx (ao (zc (kds:=kd (L.take k) Dk) (d:=Dk L[k]) 4 hu (by rw[ed];exact aQ (fs:=t.Vf six rows wd l' ls' n' l ls n) (aa 0 rfl) DF aA hr (ae (dB e3 (eO (wordOf rows L[k]) (fun x=>Dt.str (sg x)) (fun y=>t.ql six (G3 six rows (N - 1) y)) (fun x=>[.val (.str (sg x))]) (fun _=>true) rfl (a0 OG) (gu (aQ (fs:=t.qH six rows) (aa 2 rfl) nP aA hr (ae (aa 5 rfl) ai) ⟨six,rows,L[k],rfl,NC,hm,rfl⟩)) (bF (a0 OG) rfl) (cK (cF (uK NC U0)) (fJ _)) (fun a _=>bQ) (.nil fun _ _=>rfl)
       (fun y hy _ C fp s' H' G'=>ip hu (aa 1 rfl) (aa 0 rfl) (by rw[RA];exact fK (U0 y hy)) (fun _ _=>rfl)) (qF (by omega)))) ai) ⟨six,rows,wd,l',ls',n',_,xs,rfl,hb,rfl⟩) (aa 5 rfl) Qa)) (Le.of ⟨rfl,rfl,rfl,rfl,?_,trivial⟩)
     show Slot.own (.dw (kd (L.take (k+1)) Dk))=Slot.own (.dw (tG (kd (L.take k) Dk) (.inr (sg L[k])) (Dk L[k])))
     rw[Dr NC.nd hk]
   . rw[eS]
     exact D1 (dl1:=.val (.obj t.ax (t.Vf six rows wd l' ls' n' l ls n))::tl.set 3 (.own (.dw (oi (t.p8 six rows N))))) (Bu (f:=t.p8 six rows) (tl:=tl) 3 hs ht rfl mx (by omega) T.aU.cl T.bB hA hB) (Le.of ⟨rfl,rfl,rfl,rfl,trivial⟩)
theorem wJ (T:Txt K mg t):MF P w K mg base CX 9 t.ax "stretch" 4 (yp t):=by
 refine⟨T.aU.cl,_,_,_,i6 T.gi.F qz rfl fun bf A outer s H E G ds r hr hl hR=>?_,T.dk,T.gi.b⟩
 obtain⟨six,rows,wd,l',ls',n',l,ls,n,age,b,e,rfl,ok,i7,⟨Ap,Ku⟩,rfl⟩:=hR
 have YM:=U8 (P:=P) (w:=w) (base:=base) T
 have wk:=Cb (P:=P) (w:=w) (base:=base) T
 have DF:=wI (P:=P) (w:=w) (base:=base) T
 have wH:=yo (P:=P) (w:=w) (base:=base) T
 have hu:(A.deeper (envOfC "Drawing.stretch" (af cI) s.heap.objs.size t.bR bf)).units+1 < cLine:=by have:=hr.units;omega
 obtain⟨k,bt,⟨YH,Wd⟩,YI,VL,hb4,We⟩:=Kz ok.ok i7 Ap Ku
 let xs:List (List Str):=bt.map fun p=>uR rows (gP rows p.1 p.2)
 have e3:((bt.filter fun _=>true).map fun p=>t.ql six (G3 six rows p.1 p.2))=xs.map fun x=>t.ql six (cw six x):=by
   rw[List.filter_eq_self.mpr (fun _ _=>rfl),List.map_map];rfl
 have Vj:xs.flatten=uR rows (cut (mS rows wd age) b e):=by
   rw[<- VL]
   show(bt.map fun p=>uR rows (gP rows p.1 p.2)).flatten=(bt.flatMap fun p=>gP rows p.1 p.2).map (bG rows)
   rw[List.map_flatMap,List.flatMap_def];rfl
 have hb:xs.flatten.length < 2 ^ 990:=by
   rw[Vj];unfold uR cut
   rw[List.length_map,List.length_drop,List.length_take]
   have:=Ve ok.ok i7
   omega
 rw[<- Vj]
 refine⟨_,.rt _,ah (Gj (m:=age+1) (tl:=[.val (.int ((age:Nat):Int)),.val (.int (b:Int)),.val (.int (e:Int))]) (aQ (fs:=t.f9 six rows wd l' ls' n') (aD (fs:=t.Ae six rows wd l' ls' n' l ls n) (aa 0 rfl) T.aU.cl T.bA rfl) YM aA hr (ae (aa 1 rfl) (ae (aa 2 rfl) (ae (aa 3 rfl) ai))) ⟨six,rows,wd,l',ls',n',age,b,e,rfl,ok.ok,ok.gs,i7,⟨Ap,Ku⟩,rfl⟩))
   (ah (mG (m:=age+1) (fs:=t.xE six rows wd l' ls' (age+1)) (nm:=["tracks"]) (tl:=[.val (.int ((age:Nat):Int)),.val (.int (b:Int)),.val (.int (e:Int))]) (aQ (fs:=t.Ae six rows wd l' ls' (age+1) l ls n) (aa 0 rfl) wk aA hr (ae (aa 1 rfl) ai) ⟨six,rows,wd,l',ls',_,l,ls,n,age,rfl,ok,i7,rfl⟩))
   (ao (aF (aQ (fs:=t.Ae six rows wd l' ls' (age+1) l ls (age+1)) (aa 0 rfl) DF aA hr (ae (dB e3 (eO bt sY (fun p=>t.ql six (G3 six rows p.1 p.2)) (fun p=>[.val (.int ((p.1:Nat):Int)),.val (.str (sg p.2))]) (fun _=>true) rfl (a0 OH) (gb (oH (D8 (vt (fs:=t.f9 six rows wd l' ls' (age+1)) (aD (fs:=t.Ae six rows wd l' ls' (age+1) l ls (age+1)) (aa 0 rfl) T.aU.cl T.bA rfl) (Ie wH) aA hr (ae (aa 1 rfl) (ae (aa 2 rfl) (ae (aa 3 rfl) ai))) ⟨six,rows,wd,l',ls',age+1,age,b,e,k,rfl,⟨ok.ok,ok.gs,by omega,by omega,i7⟩,⟨Ap,Ku⟩,⟨YH,Wd⟩,rfl⟩) (by rw[YI])))) (Be rfl (a0 OH) rfl) eJ (fun a _=>Ee) (.nil fun _ _=>rfl)
     (fun p hp _ C fp s' H' G'=>?_) (Nat.le_trans hb4 (by decide)))) ai) ⟨six,rows,wd,l',ls',age+1,_,xs,rfl,hb,rfl⟩))))⟩
 obtain⟨m1,m2⟩:=We p hp
 exact ip hu (sE (n:=age+1) (j:=0) (f:=t.p8 six rows) (aD (fs:=t.Ae six rows wd l' ls' (age+1) l ls (age+1)) (aa 2 rfl) T.aU.cl T.bB rfl) (aa 0 rfl) (by rw[ok.ts];rfl) (by omega) (by omega)) (aa 1 rfl) (by rw[RA];exact fK m1) (fun _ _=>rfl)
noncomputable def KW (ns:List Int)(k:Nat):Int:=(bc ns k % 10 ^ 59 * 10 ^ 59+bc ns (k+1) % 10 ^ 59) * 10 ^ 59+bc ns (k+2) % 10 ^ 59
noncomputable def Vk:Rl:=fun ds r=>∃ (ns:List Int) (k:Nat),ds=[.ow ns,.int k]/\k<=90/\r=.ret (.int (KW ns k))
theorem RC (T:Txt K mg t):GF P w K mg base CX 2 "_law_big" 2 Vk:=by
 refine⟨_,_,_,i6 T.yc.F Jn rfl fun bf A outer s H E G ds r hr hl hR=>?_,(T.g T.yc.a),T.yc.F.kp,T.yc.b⟩
 obtain⟨ns,k,rfl,hk,rfl⟩:=hR
 have jQ:=wq (P:=P) (w:=w) (base:=base) T
 have nd:=Jn.nd
 have cl:∀ (j:Nat),j<=100->z6 [.ow ns,.int j] (.ret (.int (bc ns j))):=fun j hj=>⟨ns,j,rfl,hj,rfl⟩
 have fb:∀ z:Int,0<=z % 10 ^ 59/\z % 10 ^ 59 < 10 ^ 59:=fun z=>⟨Int.emod_nonneg _ (by decide),Int.emod_lt_of_pos _ (by decide)⟩
 have f59:(10 ^ 59:Int) < 2 ^ 200:=by decide
 have ac4:(10 ^ 59 * 10 ^ 59:Int) < 2 ^ 400:=by decide
 have h1:=fb (bc ns k)
 have h2:=fb (bc ns (k+1))
 exact⟨_,.rt _,ah (au 2 nd (d:=.int (10 ^ 59)) (HE aj aj ⟨by decide,by decide,by decide⟩))
   (ah (au 3 nd (aT (ja (cO (b0 jQ aA hr (ae (aa 0 rfl) (ae (aa 1 rfl) ai)) (cl k (by omega))) (aa 2 rfl) (by decide)) (aa 2 rfl) (BI (m:=200) (n:=200) (by omega) (by decide) (by decide))) (cO (b0 jQ aA hr (ae (aa 0 rfl) (ae (aR (aT (aa 1 rfl) aj) (congrArg Dt.int (show(k:Int)+1=((k+1:Nat):Int) by omega))) ai)) (cl (k+1) (by omega))) (aa 2 rfl) (by decide))))
   (ao (aF (aT (ja (aa 3 rfl) (aa 2 rfl) (BI (m:=401) (n:=200) (by omega) (by decide) (by decide))) (cO (b0 jQ aA hr (ae (aa 0 rfl) (ae (aR (aT (aa 1 rfl) aj) (congrArg Dt.int (show(k:Int)+2=((k+2:Nat):Int) by omega))) ai)) (cl (k+2) (by omega))) (aa 2 rfl) (by decide))))))⟩
section
variable {X:Cx}{G:Gr}{dl:List Slot}{i o:Expr}{kds:List (Key×Dt)}{k:Str}{pos:Pos}
theorem ND (hu:X.A.units+1 < cLine)(hi:EE X G dl i (.str k))(ho:EE X G dl o (.eG kds))(hm:behindInMarks .NotIn o=false:=by rfl):EB X G dl (.Compare i [.NotIn] [o] pos) (!(lG kds (.inr k)).isSome):=
 RY (He (xQ hu hi ho) hm) fun st H Q ⟨Hf,S,kk⟩=>⟨Hf,S,fun v aw H1 g1 r1=>⟨aw,S.grow g1,fun w bZ H2 g2 r2=>by
     cases r1
     cases r2 with
     | @eG q tg ob kvs _ hq rp=>exact⟨q,_,rfl,.inl ⟨kvs,.inr k,.inr (.inr (.inl ⟨tg,ob,kvs,g2.sub _ _ hq,rfl⟩)),rfl,rfl⟩,by rw[rp.x5];exact⟨_,rfl,kk bZ H2 (g1.trans g2)⟩⟩⟩⟩
end
noncomputable def YN (t:dY):Rl:=fun ds r=>∃ six rows w l ls n x,ds=[xD t six rows w l ls n,.str (sg x)]/\ls.map (·.2)=o3 rows/\0 < n/\n<=1000/\x∈rows.map (·.c)/\r=.ret .c9
noncomputable def KY (t:dY):Rl:=fun ds r=>∃ six rows w l' ls' n' l ls n age x,ds=[.obj t.ax (t.Ae six rows w l' ls' n' l ls n),.int ((age:Nat):Int),.str (sg x)]/\KQ t six rows w ls' ls/\(0 < n'/\n'<=1000)/\age<=200/\x∈rows.map (·.c)/\r=.ret (t.ql six (G3 six rows age x))
theorem Vl (T:Txt K mg t):MF P w K mg base CX 1 t.ar "check_letter" 2 (YN t):=by
 refine⟨T.aK.cl,_,_,_,i6 T.dv.F nz rfl fun bf A outer s H E G ds r hr hl hR=>?_,T.cG,T.dv.b⟩
 obtain⟨six,rows,wd,l,ls,n,x,rfl,mx,hn,RD,hx,rfl⟩:=hR
 have hu:(A.deeper (envOfC "Growth.check_letter" (af dq) s.heap.objs.size t.aS bf)).units+1 < cLine:=by have:=hr.units;omega
 exact⟨_,.nx _,ao (cb (u:=false) (dP (ND hu (aa 1 rfl) (sE (n:=n) (j:=1) (f:=xA rows) (k:=0) (aD (fs:=t.f9 six rows wd l ls n) (aa 0 rfl) T.aK.cl T.bT rfl) aj (by rw[mx];rfl) hn RD)) (by rw[Nf,fK hx];rfl)) (fun h=>nomatch h) (fun h=>cg))⟩
theorem GK (T:Txt K mg t):MF P w K mg base CX 8 t.ax "whole" 3 (KY t):=by
 refine⟨T.aU.cl,_,_,_,i6 T.iR.F sI rfl fun bf A outer s H E G ds r hr hl hR=>?_,T.d5,T.iR.b⟩
 obtain⟨six,rows,wd,l',ls',n',l,ls,n,age,x,rfl,ok,⟨Xe,RD⟩,i7,hx,rfl⟩:=hR
 have Kc:=Kb (P:=P) (w:=w) (base:=base) T
 have YO:=Vl (P:=P) (w:=w) (base:=base) T
 have wk:=Cb (P:=P) (w:=w) (base:=base) T
 have hu:(A.deeper (envOfC "Drawing.whole" (af iw) s.heap.objs.size t.cQ bf)).units+1 < cLine:=by have:=hr.units;omega
 exact⟨_,.rt _,ah (l1 (b0 Kc aA hr (ae (aa 1 rfl) (ae aj (ae (jS (w:=.int 200) T.nJ ⟨_,rfl⟩ fun _=>.int 200) ai))) ⟨_,0,200,rfl,by omega,by omega,rfl⟩))
   (ah (l1 (aQ (fs:=t.f9 six rows wd l' ls' n') (aD (fs:=t.Ae six rows wd l' ls' n' l ls n) (aa 0 rfl) T.aU.cl T.bA rfl) YO aA hr (ae (aa 2 rfl) ai) ⟨six,rows,wd,l',ls',n',x,rfl,ok.gs,Xe,RD,hx,rfl⟩))
   (ah (mG (m:=age+1) (fs:=t.xE six rows wd l' ls' n') (nm:=["tracks"]) (tl:=[.val (.int ((age:Nat):Int)),.val (.str (sg x))]) (aQ (fs:=t.Ae six rows wd l' ls' n' l ls n) (aa 0 rfl) wk aA hr (ae (aa 1 rfl) ai) ⟨six,rows,wd,l',ls',_,l,ls,n,age,rfl,ok,i7,rfl⟩))
   (ao (aF (ip hu (sE (n:=age+1) (j:=0) (f:=t.p8 six rows) (aD (fs:=t.Ae six rows wd l' ls' n' l ls (age+1)) (aa 0 rfl) T.aU.cl T.bB rfl) (aa 1 rfl) (by rw[ok.ts];rfl) (by omega) (by omega)) (aa 2 rfl) (by rw[RA];exact fK hx) (fun _ _=>rfl))))))⟩
noncomputable def Vm (x:Tr):Dt:=.tup [sp x.shift,.int x.turn]
noncomputable def Ff (t:dY):Rl:=fun ds r=>∃ six rows w l' ls' n' l ls n age,∃ e:Nat,ds=[.obj t.ax (t.Ae six rows w l' ls' n' l ls n),.int ((age:Nat):Int),.int (e:Int)]/\KQ t six rows w ls' ls/\age<=200/\e<=(mS rows w age).length/\r=.ret (Vm (cw six (uR rows (cut (mS rows w age) 0 e))))
theorem KZ (T:Txt K mg t):MF P w K mg base CX 10 t.ax "pen_at" 3 (Ff t):=by
 refine⟨T.aU.cl,_,_,_,i6 T.gW.F l5 rfl fun bf A outer s H E G ds r hr hl hR=>?_,T.dA,T.gW.b⟩
 obtain⟨six,rows,wd,l',ls',n',l,ls,n,age,e,rfl,ok,i7,Ku,rfl⟩:=hR
 have RE:=wJ (P:=P) (w:=w) (base:=base) T
 have zU:=Gu (P:=P) (w:=w) (base:=base) T
 have nO:=zT (P:=P) (w:=w) (base:=base) T
 have nd:=l5.nd
 obtain⟨x,hx⟩:∃ x,x=cw six (uR rows (cut (mS rows wd age) 0 e)):=⟨_,rfl⟩
 rw[<- hx]
 have e0:tn six ((0:Int) % wy six).toNat x.shift=x.shift:=by cases six <;> rfl
 refine⟨_,.rt _,ah (au 3 nd (d:=t.ql six x) (aQ (fs:=t.Ae six rows wd l' ls' n' l ls n) (aa 0 rfl) RE aA hr (ae (aa 1 rfl) (ae aj (ae (aa 2 rfl) ai))) ⟨six,rows,wd,l',ls',n',l,ls,n,age,0,e,rfl,ok,i7,⟨Nat.zero_le _,Ku⟩,by rw[hx]⟩))
   (ao (aF (aR (cY (ae (LZ (fs:=t.lV six x) (oZ (aa 3 rfl)) zU aA hr ⟨six,x,0,rfl,rfl⟩) (ae (cj (fs:=t.lV six x) (oZ (aa 3 rfl)) nO aA hr ⟨six,x,rfl,rfl⟩) ai)) AA3) (by rw[e0];rfl))))⟩
noncomputable def DG (rows:List Row):List Nat:=(rows.filter fun r=>!decide (r.d∈(["left","right"]:List Str))).map (·.c)
noncomputable def Cc (pl:List Nat)(c m:Int):Nat:=if pl=[] then 0 else (c % m).toNat
noncomputable def Wf (pl:List Nat)(c m:Int):Nat:=((ws pl c m (Cc pl c m)).1 % ((Cc pl c m:Nat)+1:Int)).toNat
noncomputable def kW (pl:List Nat)(c m:Int)(x:Nat):List Nat:=(ws pl c m (Cc pl c m)).2.take (Wf pl c m) ++ [x] ++ (ws pl c m (Cc pl c m)).2.drop (Wf pl c m)
noncomputable def Af (rows:List Row)(ns:List Int)(m:Int)(k:Nat):Row:=⟨(rows.map (·.c)).getD k 0,(rows.map (·.d)).getD k "",kW (DG rows) (bc ns (12+k)) m ((rows.map (·.c)).getD k 0)⟩
noncomputable def md (rows:List Row)(ns:List Int)(m:Int):List Row:=(List.range rows.length).map (Af rows ns m)
theorem wK (rows:List Row)(ns:List Int)(m:Int):(md rows ns m).map (·.c)=rows.map (·.c):=by
 unfold md
 rw[List.map_map]
 apply List.ext_getElem?
 intro i
 rw[List.getElem?_map,List.getElem?_map]
 by_cases h:i < rows.length
 . rw[List.getElem?_range h,List.getElem?_eq_getElem h]
   show some ((rows.map (·.c)).getD i 0)=some rows[i].c
   rw[List.getD_eq_getElem?_getD,List.getElem?_map,List.getElem?_eq_getElem h];rfl
 . rw[List.getElem?_eq_none (by rw[List.length_range];omega),List.getElem?_eq_none (by omega)];rfl
theorem Fg {rows:List Row}(ns:List Int)(m:Int){k:Nat}(h:k < rows.length):Af rows ns m k=⟨rows[k].c,rows[k].d,kW (DG rows) (bc ns (12+k)) m rows[k].c⟩:=by
 unfold Af
 rw[List.getD_eq_getElem?_getD,List.getElem?_map,List.getElem?_eq_getElem h,List.getD_eq_getElem?_getD,List.getElem?_map,List.getElem?_eq_getElem h];rfl
theorem rH {rows:List Row}{ns:List Int}{m:Int}{r:Row}(h:r∈md rows ns m):∃ q∈rows,∃ c:Int,0<=c/\r=⟨q.c,q.d,kW (DG rows) c m q.c⟩:=by
 obtain⟨k,hk,rfl⟩:=List.mem_map.mp h
 have hk:=List.mem_range.mp hk
 exact⟨rows[k],List.getElem_mem hk,bc ns (12+k),rG ns _,Fg ns m hk⟩
theorem DH {rows:List Row}{x:Nat}(h:x∈DG rows):∃ r∈rows,r.c=x/\r.d≠"left"/\r.d≠"right":=by
 obtain⟨r,hr,rfl⟩:=List.mem_map.mp h
 obtain⟨h1,h2⟩:=List.mem_filter.mp hr
 simp at h2
 exact⟨r,h1,rfl,h2⟩
theorem K0 {pl:List Nat}{c m:Int}(hm:0 < m):(Cc pl c m:Int) < m:=by
 unfold Cc
 split
 . omega
 . have:=Int.emod_lt_of_pos c hm
   have:=Int.emod_nonneg c (Int.ne_of_gt hm)
   omega
theorem RF {pl:List Nat}{c m:Int}{x y:Nat}(h:y∈kW pl c m x):y=x\/y∈pl:=by
 unfold kW at h
 have hp:∀ z∈(ws pl c m (Cc pl c m)).2,z∈pl:=fun z hz=>by
   by_cases e:pl=[]
   . have:Cc pl c m=0:=by unfold Cc;rw[if_pos e]
     rw[this] at hz
     cases hz
   . exact z7 pl (List.length_pos_iff.mpr e) c m _ z hz
 rcases List.mem_append.mp h with h | h
 . rcases List.mem_append.mp h with h | h
   . exact .inr (hp _ (List.mem_of_mem_take h))
   . exact .inl (by simpa using h)
 . exact .inr (hp _ (List.mem_of_mem_drop h))
theorem RG (pl:List Nat)(c m:Int)(x:Nat):(kW pl c m x).length=Cc pl c m+1:=by
 unfold kW
 have:=sV pl c m (Cc pl c m)
 rw[List.length_append,List.length_append,List.length_take,List.length_drop,this]
 simp;omega
theorem NF {rows:List Row}(ok:aM rows)(ns:List Int){m:Int}(hm:0 < m/\m<=8):aM (md rows ns m):=by
 have hl:(md rows ns m).length=rows.length:=by unfold md;simp
 refine⟨by rw[hl];exact ok.pos,by rw[hl];exact ok.le,by rw[wK];exact ok.nd,fun r h=>?_,fun r h=>?_,fun r h=>?_,fun r h x hx=>?_⟩
 . obtain⟨q,hq,c,_,rfl⟩:=rH h;exact ok.sm q hq
 . obtain⟨q,hq,c,_,rfl⟩:=rH h;exact ok.dd q hq
 . obtain⟨q,hq,c,_,rfl⟩:=rH h
   have:=K0 (pl:=DG rows) (c:=c) hm.1
   show 0 < (kW (DG rows) c m q.c).length/\(kW (DG rows) c m q.c).length<=8
   rw[RG];omega
 . obtain⟨q,hq,c,_,rfl⟩:=rH h
   rw[wK]
   rcases RF hx with rfl | hx
   . exact List.mem_map_of_mem hq
   . obtain⟨r,hr,rfl,_⟩:=DH hx
     exact List.mem_map_of_mem hr
theorem Ag {rows:List Row}(nd:(rows.map (·.c)).Nodup){i j:Nat}(hi:i < rows.length)(hj:j < rows.length)(e:rows[i].c=rows[j].c):i=j:=by
 rcases Nat.lt_trichotomy i j with h | h | h
 . have:=List.pairwise_iff_getElem.mp nd i j (by rw[List.length_map];exact hi) (by rw[List.length_map];exact hj) h
   rw[List.getElem_map,List.getElem_map] at this
   exact absurd e this
 . exact h
 . have:=List.pairwise_iff_getElem.mp nd j i (by rw[List.length_map];exact hj) (by rw[List.length_map];exact hi) h
   rw[List.getElem_map,List.getElem_map] at this
   exact absurd e.symm this
theorem yq {rows:List Row}(ok:aM rows)(ns:List Int){m:Int}(hm:0 < m/\m<=8){x:Nat}(hx:x∈rows.map (·.c)):bG (md rows ns m) x=bG rows x/\∃ c:Int,wordOf (md rows ns m) x=kW (DG rows) c m x:=by
 obtain⟨r,hr,hc,hd,hw⟩:=dX (rows:=md rows ns m) (x:=x) (by rw[wK];exact hx)
 obtain⟨q,hq,c,_,rfl⟩:=rH hr
 obtain⟨q',Pe,xG,NN,_⟩:=dX hx
 have e:q=q':=by
   have e1:q.c=q'.c:=by rw[xG,<- hc]
   obtain⟨i,hi,rfl⟩:=List.mem_iff_getElem.mp hq
   obtain⟨j,hj,rfl⟩:=List.mem_iff_getElem.mp Pe
   have h3:i=j:=(Ag ok.nd hi hj) e1
   subst h3;rfl
 refine⟨by rw[hd,NN,e],c,by rw[hw];show kW (DG rows) c m q.c=_;rw[show q.c=x from hc]⟩
theorem mQ (rows:List Row)(a b:List Nat):bb rows (a ++ b)=bb rows a+bb rows b:=by unfold bb;rw[List.map_append,List.sum_append]
theorem Ah {rows:List Row}:∀ {w:List Nat},(∀ x∈w,b5 (bG rows x)=0)->bb rows w=0
 | [],_=>rfl
 | x::w,h=>by
   have h1:=Ah (w:=w) fun y hy=>h y (List.mem_cons_of_mem _ hy)
   unfold bb at h1 ⊢
   rw[List.map_cons,List.sum_cons,h1,h x List.mem_cons_self];rfl
theorem DI {rows:List Row}(ok:aM rows)(ns:List Int){m:Int}(hm:0 < m/\m<=8)(six:Bool):n8 six (md rows ns m)=true:=by
 unfold n8
 rw[wK]
 refine List.all_eq_true.mpr fun x hx=>decide_eq_true ?_
 obtain⟨_,c,ew⟩:=yq ok ns hm hx
 rw[ew]
 unfold kW
 have hp:∀ z∈(ws (DG rows) c m (Cc (DG rows) c m)).2,b5 (bG (md rows ns m) z)=0:=fun z hz=>by
   have VT:z∈DG rows:=by
     by_cases e:DG rows=[]
     . have:Cc (DG rows) c m=0:=by unfold Cc;rw[if_pos e]
       rw[this] at hz
       cases hz
     . exact z7 _ (List.length_pos_iff.mpr e) c m _ z hz
   obtain⟨r,hr,hc,h1,h2⟩:=DH VT
   have hzc:z∈rows.map (·.c):=by rw[<- hc];exact List.mem_map_of_mem hr
   rw[(yq ok ns hm hzc).1]
   obtain⟨q,hq,xG,hd,_⟩:=dX hzc
   have e:q=r:=by
     have e1:q.c=r.c:=by rw[xG,hc]
     obtain⟨i,hi,rfl⟩:=List.mem_iff_getElem.mp hq
     obtain⟨j,hj,rfl⟩:=List.mem_iff_getElem.mp hr
     have h3:i=j:=(Ag ok.nd hi hj) e1
     subst h3;rfl
   rw[hd,e]
   unfold b5
   rw[if_neg h1,if_neg h2]
 rw[mQ,mQ,Ah fun z hz=>hp z (List.mem_of_mem_take hz),Ah fun z hz=>hp z (List.mem_of_mem_drop hz)]
 rw[Int.zero_add,Int.add_zero]
theorem rJ (six:Bool)(rows:List Row):∀ w:List Nat,(cw six (uR rows w)).turn=bb rows w % wy six:=by
 intro w
 have h:=congrArg (·.1) (Rh six (uR rows w))
 have:∀ (xs:List Nat) (s:Wb),s.1 % wy six=s.1->((xs.map (bG rows)).foldl (Sa six) s).1=(s.1+bb rows xs) % wy six:=by
   intro xs
   induction xs with
   | nil=>intro s hs;show s.1=(s.1+0) % wy six;rw[Int.add_zero,hs]
   | cons x xs ih=>
     intro s hs
     rw[List.map_cons,List.foldl_cons,ih _ (by show(s.1+b5 (bG rows x)) % wy six % wy six=(s.1+b5 (bG rows x)) % wy six;rw[Int.emod_emod])]
     show((s.1+b5 (bG rows x)) % wy six+bb rows xs) % wy six=_
     rw[Int.emod_add_emod]
     unfold bb
     rw[List.map_cons,List.sum_cons,Int.add_assoc]
 have h2:=this w (0,(0,0),0) (by cases six <;> rfl)
 rw[show(uR rows w)=w.map (bG rows) from rfl] at h
 show(cw six (uR rows w)).turn=_
 have h3:(cw six (uR rows w)).turn=((w.map (bG rows)).foldl (Sa six) (0,(0,0),0)).1:=h
 rw[h3,h2]
 show(0+bb rows w) % wy six=_
 rw[Int.zero_add]
theorem pT {six:Bool}{rows:List Row}(hk:n8 six rows=true):∀ {w:List Nat},(∀ x∈w,x∈rows.map (·.c))->bb rows (grow rows w) % wy six=bb rows w % wy six
 | [],_=>rfl
 | x::w,h=>by
   have h1:=pT hk (w:=w) fun y hy=>h y (List.mem_cons_of_mem _ hy)
   have h2:bb rows (wordOf rows x) % wy six=bb rows [x] % wy six:=of_decide_eq_true (List.all_eq_true.mp hk x (h x List.mem_cons_self))
   have e1:grow rows (x::w)=wordOf rows x ++ grow rows w:=rfl
   have e2:bb rows (x::w)=bb rows [x]+bb rows w:=mQ rows [x] w
   rw[e1,mQ,e2,Int.add_emod,h1,h2,<- Int.add_emod]
theorem Fh {six:Bool}{rows:List Row}(ok:aM rows)(hk:n8 six rows=true){x:Nat}(hx:x∈rows.map (·.c)):∀ n,bb rows (gP rows n x) % wy six=bb rows [x] % wy six
 | 0=>rfl
 | n+1=>by
   have hm:∀ y∈gP rows n x,y∈rows.map (·.c):=fun y hy=>by
     have hz:∀ z∈[x],z∈rows.map (·.c):=fun z hz=>uP hz hx
     have:=pS ok (w:=[x]) hz n y (by rw[Nr];exact hy)
     exact this
   rw[<- Ab,pT hk hm]
   exact Fh ok hk hx n
theorem Cd {six:Bool}{rows:List Row}(ok:aM rows)(hk:n8 six rows=true){w:List Nat}(hw:∀ x∈w,x∈rows.map (·.c)):∀ n,bb rows (mS rows w n) % wy six=bb rows w % wy six
 | 0=>by rw[Kw]
 | n+1=>by
   rw[<- B3,pT hk (pS ok hw n)]
   exact Cd ok hk hw n
theorem wL:∀ xs:List Str,HL (xs.map Dt.str)=xs.map PyData.str
 | []=>by simp[HL]
 | x::xs=>by rw[List.map_cons,HL,wL xs];simp[pd]
theorem Vn:∀ {x:Nat},x < 128->PyData.strOk (sg x)=true:=by
 have:∀ x:Fin 128,PyData.strOk (sg x.1)=true:=by decide +kernel
 exact fun {x} h=>this ⟨x,h⟩
theorem yr (xs:List Str)(hd:∀ d∈xs,PyData.strOk d=true):LQ (.lst (xs.map .str)):=by
 have h1:oF (xs.map Dt.str)=true:=by
   clear hd
   induction xs with
   | nil=>simp[oF]
   | cons x xs ih=>rw[List.map_cons,oF,ih];simp[Sg.plain]
 have h2:∀ ys:List Str,(∀ d∈ys,PyData.strOk d=true)->PyData.canLayAll0 (ys.map PyData.str)=true/\PyData.depthAll (ys.map PyData.str)=0:=by
   intro ys
   induction ys with
   | nil=>intro _;simp[PyData.canLayAll0,PyData.depthAll]
   | cons y ys ih=>
     intro h
     have q:=ih fun d hd=>h d (List.mem_cons_of_mem _ hd)
     have s:=h y List.mem_cons_self
     rw[List.map_cons];simp[PyData.canLayAll0,PyData.depthAll,PyData.canLay0,PyData.depth,q,s]
 refine⟨by rw[Sg.plain];exact h1,?_⟩
 unfold SeqAt.shaped
 rw[pd,wL]
 simp[PyData.canLay0,PyData.depth,h2 xs hd]
theorem NG (xs:List Str):PyData.eqv (pd (.lst (xs.map .str))) (pd (.lst []))=decide (xs=[]):=by
 rw[pd,pd,wL]
 cases xs with
 | nil=>simp[HL,PyData.eqv,PyData.eqvAll]
 | cons x xs=>simp[HL,PyData.eqv,PyData.eqvAll]
theorem K1 (d:Str):((if decide (d="left") then 1 else 0:Int) - (if decide (d="right") then 1 else 0))=b5 d:=by
 unfold b5
 by_cases h1:d="left"
 . subst h1;decide
 . by_cases h2:d="right"
   . subst h2;decide
   . simp[h1,h2]
noncomputable def NH:Rl:=fun ds r=>∃ six rows w,ds=[.int (wy six),.lst (rows.map f6),.str (tx w)]/\aM rows/\(∀ x∈w,x∈rows.map (·.c))/\w.length<=1000/\r=.ret (.int (bb rows w % wy six))
noncomputable def RH:Rl:=fun ds r=>∃ (rows:List Row) (ns:List Int) (m:Int),ds=[.lst (rows.map f6),.ow ns,.int m]/\aM rows/\(0 < m/\m<=8)/\r=.own (.lst ((md rows ns m).map f6))
noncomputable abbrev Vo:Scope:=PX ((aB vG).getD 0 (.Pass ⟨0,0,0,0⟩))
theorem OI:gq Vo (af vG) Jo ["_law_row"] ["_law_row"] []=true:=by decide +kernel
theorem K2 (T:Txt K mg t):GF P w K mg base CX 1 "_law_turns" 3 NH:=by
 refine⟨_,_,_,i6 T.pO.F BB rfl fun bf A outer s H E G ds r hr hl hR=>?_,(T.g T.pO.a),T.pO.F.kp,T.pO.b⟩
 obtain⟨six,rows,wd,rfl,ok,hw,hl9,rfl⟩:=hR
 have nd:=BB.nd
 let S:Nat->List Slot:=fun k=>[.val (.int (wy six)),.val (.lst (rows.map f6)),.val (.str (tx wd)),.val (.int (bb rows (wd.take k))),.aL,.aL]
 have h7:∀ x∈wd,x < 128:=fun x hx=>by
   obtain⟨q,hq,hc⟩:=List.mem_map.mp (hw x hx)
   have:=ok.sm q hq
   rw[hc] at this
   unfold small at this;omega
 have eS:S wd.length=[.val (.int (wy six)),.val (.lst (rows.map f6)),.val (.str (tx wd)),.val (.int (bb rows wd)),.aL,.aL]:=by
   show [_,_,_,Slot.val (.int (bb rows (wd.take wd.length))),_,_]=_
   rw[List.take_length]
 refine⟨_,.rt _,ah (au 3 nd aj) (ah (dl1:=S wd.length) (l3 (o:=.nx (S wd.length)) (m:=wd.length) wd (fun x=>Dt.str (sg x)) (fun x dl=>dl.set 4 (.val (.str (sg x)))) S rfl PassesOwn.leaving (gu (aa 2 rfl)) (cK (cF (fQ h7)) (fJ wd)) (bI nd rfl (.inl rfl)) (fun a _=>uo) (Le.of ⟨rfl,rfl,rfl,rfl,trivial⟩) (Nat.le_refl _) (fun k a hk ha=>?_) (.all rfl)) ?_)⟩
 . rw[List.getElem?_eq_getElem hk] at ha
   cases ha
   obtain⟨q,hq,hc,ed,_⟩:=dX (hw _ (List.getElem_mem hk))
   obtain⟨m,hm,rfl⟩:=List.mem_iff_getElem.mp hq
   have ym:∀ j (hj:j < rows.length),j≠m->rows[j].c≠wd[k]:=fun j hj WZ z=>by
     have h3:j=m:=Ag ok.nd hj hm (by rw[z,hc])
     exact WZ h3
   let T0:=bb rows (wd.take k)
   let S2:Nat->List Slot:=fun j=>[.val (.int (wy six)),.val (.lst (rows.map f6)),.val (.str (tx wd)),.val (.int (T0+if m < j then b5 rows[m].d else 0)),.val (.str (sg wd[k])),.aL]
   have e1:bb rows (wd.take (k+1))=T0+b5 rows[m].d:=by
     rw[List.take_add_one,List.getElem?_eq_getElem hk]
     show bb rows (wd.take k ++ [wd[k]])=_
     rw[mQ,<- ed]
     show T0+(b5 (bG rows wd[k])+0)=_
     rw[Int.add_zero]
   refine .nx (dl':=S2 rows.length) (ao (l3 (o:=.nx (S2 rows.length)) (m:=rows.length) rows f6 (fun r dl=>dl.set 5 (.val (f6 r))) S2 rfl PassesOwn.leaving (gb (aa 1 rfl)) eJ (bI nd rfl (.inl rfl)) (fun a _=>uo) (Le.of ⟨rfl,rfl,rfl,by rw[if_neg (Nat.not_lt_zero _),Int.add_zero],rfl,trivial⟩) (Nat.le_refl _) (fun j a hj ha=>?_) (.all rfl))) (Le.of ⟨rfl,rfl,rfl,by rw[if_pos hm,e1],trivial⟩)
   rw[List.getElem?_eq_getElem hj] at ha
   cases ha
   by_cases c:j=m
   . subst c
     refine .nx (dl':=[.val (.int (wy six)),.val (.lst (rows.map f6)),.val (.str (tx wd)),.val (.int (T0+b5 rows[j].d)),.val (.str (sg wd[k])),.val (f6 rows[j])]) (ao (cb (u:=true) (dP (mY (aI (d:=.str (sg rows[j].c)) (ds:=[.str (sg rows[j].c),.str rows[j].d,.str (tx rows[j].w)]) (aa 5 rfl) aj rfl) (aa 4 rfl)) (decide_eq_true (by rw[hc]))) (fun _=>ao (au 3 nd (d:=.int (T0+b5 rows[j].d)) (aR (lF (aT (aa 3 rfl) (pA T.tL (yP (aI (d:=.str rows[j].d) (ds:=[.str (sg rows[j].c),.str rows[j].d,.str (tx rows[j].w)]) (aa 5 rfl) aj rfl) cN))) (pA T.tL (yP (aI (d:=.str rows[j].d) (ds:=[.str (sg rows[j].c),.str rows[j].d,.str (tx rows[j].w)]) (aa 5 rfl) aj rfl) cN))) (congrArg Dt.int ?_)))) (fun h=>nomatch h))) (Le.of ⟨rfl,rfl,rfl,by rw[if_pos (Nat.lt_succ_self _)],rfl,trivial⟩)
     have:=K1 rows[j].d
     rw[if_neg (Nat.lt_irrefl _)]
     omega
   . exact .nx (dl':=[.val (.int (wy six)),.val (.lst (rows.map f6)),.val (.str (tx wd)),.val (.int (T0+if m < j then b5 rows[m].d else 0)),.val (.str (sg wd[k])),.val (f6 rows[j])]) (ao (cb (u:=false) (dP (mY (aI (d:=.str (sg rows[j].c)) (ds:=[.str (sg rows[j].c),.str rows[j].d,.str (tx rows[j].w)]) (aa 5 rfl) aj rfl) (aa 4 rfl)) (decide_eq_false fun z=>ym j hj c (qE z))) (fun h=>nomatch h) (fun _=>cg))) (Le.of ⟨rfl,rfl,rfl,by
       have:(m < j+1)=(m < j):=propext ⟨fun h=>by omega,fun h=>by omega⟩
       simp only[this],rfl,trivial⟩)
 . rw[eS]
   exact ao (aF (cO (aa 3 rfl) (aa 0 rfl) (f7 six)))
theorem NI (T:Txt K mg t):GF P w K mg base CX 2 "_law_kept" 3 RH:=by
 refine⟨_,_,_,i6 T.sS.F Ew rfl fun bf A outer s H E G ds r hr hl hR=>?_,(T.g T.sS.a),T.sS.F.kp,T.sS.b⟩
 obtain⟨rows,ns,m,rfl,ok,hm,rfl⟩:=hR
 have jQ:=wq (P:=P) (w:=w) (base:=base) T
 have nd:=Ew.nd
 have h6:=ok.le
 let pl:=DG rows
 have pW:pl.length<=6:=by
   show((rows.filter _).map _).length<=6
   rw[List.length_map]
   exact Nat.le_trans (List.length_filter_le _ _) h6
 have eP:((rows.filter fun r=>!decide (r.d∈(["left","right"]:List Str))).map fun r=>Dt.str (sg r.c))=(pl.map sg).map .str:=by
   show _=(((rows.filter fun r=>!decide (r.d∈(["left","right"]:List Str))).map (·.c)).map sg).map Dt.str
   rw[List.map_map,List.map_map];rfl
 let pD:Dt:=.lst ((pl.map sg).map .str)
 have Vp:∀ n:Nat,n<=2000->n<=sizeLine:=fun n h=>Nat.le_trans h (by decide)
 let mk:Nat->List Dt:=fun k=>((List.range k).map (Af rows ns m)).map f6
 have emk:∀ k,mk k ++ [f6 (Af rows ns m k)]=mk (k+1):=fun k=>by
   show((List.range k).map _).map _ ++ _=((List.range (k+1)).map _).map _
   rw[List.range_succ,List.map_append,List.map_append];rfl
 let S:Nat->List Slot:=fun k=>[.val (.lst (rows.map f6)),.val (.ow ns),.val (.int m),.val pD,.own (.lst (mk k)),.aL,.aL,.aL,.aL,.aL,.aL,.aL]
 have MH:(rows.map f6).length=rows.length:=List.length_map ..
 have YC:0 < m/\m.natAbs.log2 < 9000:=⟨hm.1,Nat.lt_of_le_of_lt (Nat.log2_le_self _) (by omega)⟩
 have okP:LQ pD:=yr _ fun d hd=>by
   obtain⟨x,hx,rfl⟩:=List.mem_map.mp hd
   obtain⟨r,hr,rfl,_⟩:=DH hx
   have:=ok.sm r hr
   unfold small at this
   exact Vn (by omega)
 have Ai:LQ (.lst []):=yr [] fun _ h=>nomatch h
 have eqP:(!PyData.eqv (pd pD) (pd (.lst [])))=!decide (pl=[]):=by
   show(!PyData.eqv (pd (.lst ((pl.map sg).map .str))) (pd (.lst [])))=_
   rw[NG]
   congr 2
   simp
 refine⟨_,.ro _,ah (CN 3 rows f6 (fun r=>Dt.str (sg r.c)) (fun r=>[.val (f6 r)]) (fun r=>!decide (r.d∈(["left","right"]:List Str))) rfl nd (a0 OI) (gb (aa 0 rfl)) (bF (a0 OI) rfl) eJ (fun a _=>bQ) (.one fun a ha C fp s' H' G'=>yW (xs:=["left","right"]) (aI (ds:=[.str (sg a.c),.str a.d,.str (tx a.w)]) (aa 0 rfl) aj rfl) (cY (ae cN (ae cN ai)) AA3))
   (fun a ha _ C fp s' H' G'=>aI (ds:=[.str (sg a.c),.str a.d,.str (tx a.w)]) (aa 0 rfl) aj rfl) (Vp _ (by omega))) ?_⟩
 rw[eP]
 refine vn 3 (w:=.lst ((pl.map sg).map .str)) (ah (kN 4 nd (sh ai AA3)) (ah (dl1:=S rows.length) ?lp ?_))
 . refine LO (dl2:=S (List.range (rows.map f6).length).length) (l3 (o:=.nx (S (List.range (rows.map f6).length).length)) (m:=(List.range (rows.map f6).length).length) (List.range (rows.map f6).length) (fun(k:Nat)=>Dt.tup [.int k,(rows.map f6).getD k .c9]) (fun(k:Nat) dl=>(dl.set 5 (.val (.int k))).set 6 (.val ((rows.map f6).getD k .c9))) S rfl PassesOwn.leaving (Ef rfl T.kj (ae (aa 0 rfl) ai)) (xZ (xs:=rows.map f6)) (rP rfl (dg (bI nd rfl (.inl rfl)) (dg (bI nd rfl (.inl rfl)) o5))) (fun a _=>yX) (Le.of ⟨rfl,rfl,rfl,rfl,rfl,trivial⟩) (Nat.le_refl _) (fun k a hk ha=>?bd) (.all rfl)) (by rw[List.length_range,MH];exact Le.refl _)
   case bd=>
     rw[List.length_range,MH] at hk
     rw[MH,List.getElem?_range hk] at ha
     cases ha
     have hg:(rows.map f6).getD k .c9=f6 rows[k]:=by rw[List.getD_eq_getElem?_getD,List.getElem?_map,List.getElem?_eq_getElem hk];rfl
     obtain⟨q,hq⟩:∃ q,q=rows[k]:=⟨_,rfl⟩
     have ekr:Af rows ns m k=⟨q.c,q.d,kW pl (bc ns (12+k)) m q.c⟩:=by rw[hq];exact Fg ns m hk
     obtain⟨c,hc⟩:∃ c,c=bc ns (12+k):=⟨_,rfl⟩
     have Um:0<=c:=by rw[hc];exact rG ns _
     obtain⟨z,hz⟩:∃ z,z=Cc pl c m:=⟨_,rfl⟩
     have hz8:z < 8:=by have:=K0 (pl:=pl) (c:=c) hm.1;omega
     have La:(mk k).length < sizeLine:=by
       show(((List.range k).map _).map _).length < _
       rw[List.length_map,List.length_map,List.length_range];exact Nat.lt_of_lt_of_le (show k < 2000 by omega) (by decide)
     let B:Slot->Slot->Slot->Slot->Slot->List Slot:=fun a7 a8 a9 YQ YR=>[.val (.lst (rows.map f6)),.val (.ow ns),.val (.int m),.val pD,.own (.lst (mk k)),.val (.int (k:Nat)),.val (f6 q),a7,a8,a9,YQ,YR]
     have eB:((S k).set 5 (.val (.int (k:Nat)))).set 6 (.val ((rows.map f6).getD k .c9))=B .aL .aL .aL .aL .aL:=by rw[hg,<- hq];rfl
     rw[eB]
     let ww:Nat->List Nat:=fun j=>(ws pl c m j).2
     let S2:Nat->List Slot:=fun j=>B (.val (.int (ws pl c m j).1)) (.val (.int (z:Nat))) (.val (.str (tx (ww j)))) .aL .aL
     have ez:c % m * (if (!decide (pl=[]))=true then 1 else 0)=((z:Nat):Int):=by
       rw[hz];unfold Cc
       by_cases e:pl=[]
       . rw[if_pos e,decide_eq_true e];simp
       . rw[if_neg e,decide_eq_false e]
         have:=Int.emod_nonneg c (Int.ne_of_gt hm.1)
         simp;omega
     obtain⟨a,Oa⟩:∃ a,a=Wf pl c m:=⟨_,rfl⟩
     have GG:(0:Int) < ((z:Nat):Int)+1:=by omega
     have YS:(ws pl c m z).1 % (((z:Nat):Int)+1)=((a:Nat):Int)/\a<=z:=by
       have h1:=Int.emod_nonneg (ws pl c m z).1 (Int.ne_of_gt GG)
       have h2:=Int.emod_lt_of_pos (ws pl c m z).1 GG
       rw[Oa];unfold Wf
       rw[<- hz]
       omega
     have DY:(ww z).length=z:=sV pl c m z
     have eK:f6 (Af rows ns m k)=.tup [.str (sg q.c),.str q.d,.str (tx ((ww z).take a ++ [q.c] ++ (ww z).drop a))]:=by
       rw[ekr,<- hc,Oa];show Dt.tup [.str (sg q.c),.str q.d,.str (tx (kW pl c m q.c))]=_
       unfold kW;rw[<- hz]
     refine .nx (dl':=[.val (.lst (rows.map f6)),.val (.ow ns),.val (.int m),.val pD,.own (.lst (mk k ++ [f6 (Af rows ns m k)])),.val (.int (k:Nat)),.val (f6 q),.val (.int (ws pl c m z).1),.val (.int (z:Nat)),.val (.str (tx (ww z))),.aL,.val (.int (a:Nat))]) (ah (dl1:=B (.val (.int c)) .aL .aL .aL .aL) (au 7 nd (aR (b0 jQ aA hr (ae (aa 1 rfl) (ae (aR (aT aj (aa 5 rfl)) (congrArg Dt.int (show(12:Int)+(k:Int)=((12+k:Nat):Int) by omega))) ai)) ⟨ns,12+k,rfl,by omega,rfl⟩) (by rw[hc])))
       (ah (dl1:=B (.val (.int c)) (.val (.int (z:Nat))) .aL .aL .aL) (au 8 nd (aR (ja (cO (aa 7 rfl) (aa 2 rfl) hm.1) (pA T.tL (Tt (u:=!decide (pl=[])) hr.units (aa 3 rfl) (oH (sh ai AA3)) okP Ai eqP)) (uX.ok (Or.inr ⟨by split <;> decide,by split <;> decide⟩))) (congrArg Dt.int ez)))
       (ah (dl1:=B (.val (.int (c / m))) (.val (.int (z:Nat))) .aL .aL .aL) (au 7 nd (gG (aa 7 rfl) (aa 2 rfl) YC))
       (ah (dl1:=S2 0) (au 9 nd cN)
       (ah (dl1:=S2 z) (lz (o:=.nx (S2 z)) (m:=z) 10 S2 nd rfl PassesOwn.leaving T.j9 (ae (aa 8 rfl) ai) ⟨by omega,by omega⟩ (Le.of ⟨rfl,rfl,rfl,rfl,rfl,rfl,rfl,rfl,rfl,rfl,trivial⟩) (by rw[Int.toNat_natCast];exact Nat.le_refl _) (fun j hj=>?ij) (by rw[Int.toNat_natCast];exact .all rfl))
       (ah (au 11 nd (d:=.int (a:Nat)) (aR (cO (aa 7 rfl) (aT (aa 8 rfl) aj) GG) (congrArg Dt.int YS.1)))
       (ao (si 4 (d:=f6 (Af rows ns m k)) (aR (cY (ae (aI (d:=.str (sg q.c)) (ds:=[.str (sg q.c),.str q.d,.str (tx q.w)]) (aa 6 rfl) aj rfl) (ae (aI (d:=.str q.d) (ds:=[.str (sg q.c),.str q.d,.str (tx q.w)]) (aa 6 rfl) aj rfl) (ae (pP (pP (EH (aa 9 rfl) (aa 11 rfl) (by rw[DY];exact YS.2) (by rw[DY];omega)) (aI (d:=.str (tx [q.c])) (ds:=[.str (sg q.c),.str q.d,.str (tx q.w)]) (aa 6 rfl) aj rfl) (by rw[List.length_take,DY];show min a z+1<=2000;omega)) (yg (aa 9 rfl) (aa 11 rfl) (by rw[DY];exact YS.2) (by rw[DY];omega)) (by rw[List.length_append,List.length_take,List.length_drop,DY];show min a z+1+(z - a)<=2000;omega)) ai))) AA3) eK.symm) La)))))))) (Le.of ⟨rfl,rfl,rfl,rfl,by rw[emk k],trivial⟩)
     case ij=>
       have ym:pl≠[]:=fun e=>by
         have:z=0:=by rw[hz];unfold Cc;rw[if_pos e]
         omega
       have Ak:0 < pl.length:=List.length_pos_iff.mpr ym
       have RI:((((pl.map sg).map Dt.str).length:Nat):Int)=((pl.length:Nat):Int):=by rw[List.length_map,List.length_map]
       have Wg:(0:Int) < ((((pl.map sg).map Dt.str).length:Nat):Int):=by rw[RI];omega
       have hpd:0 < ((((pl.map sg).map Dt.str).length:Nat):Int)/\((((pl.map sg).map Dt.str).length:Nat):Int).natAbs.log2 < 9000:=⟨Wg,Nat.lt_of_le_of_lt (Nat.log2_le_self _) (by rw[RI];omega)⟩
       obtain⟨n1,RD⟩:∃ n1,n1=(ws pl c m j).1:=⟨_,rfl⟩
       have h1:=Int.emod_nonneg n1 (Int.ne_of_gt Wg)
       have h2:=Int.emod_lt_of_pos n1 Wg
       have hat:o7 ((pl.map sg).map Dt.str) (n1 % ((((pl.map sg).map Dt.str).length:Nat):Int))=some (.str (tx [pl.getD (n1 % ((pl.length:Nat):Int)).toNat 0])):=by
         rw[at_getD (n:=pl.length) (by rw[List.length_map]) h1 (by rw[RI] at h2;rw[RI];exact h2),RI]
         have dy:(n1 % ((pl.length:Nat):Int)).toNat < pl.length:=by rw[RI] at h1 h2;omega
         rw[List.getD_eq_getElem?_getD,List.getElem?_map,List.getElem?_eq_getElem dy,List.getD_eq_getElem?_getD,List.getElem?_eq_getElem dy];rfl
       have ew:ws pl c m (j+1)=(n1 / ((pl.length:Nat):Int),(ws pl c m j).2 ++ [pl.getD (n1 % ((pl.length:Nat):Int)).toNat 0]):=by rw[RD];rfl
       have hwj:=sV pl c m j
       refine .nx (dl':=[.val (.lst (rows.map f6)),.val (.ow ns),.val (.int m),.val pD,.own (.lst (mk k)),.val (.int (k:Nat)),.val (f6 q),.val (.int (n1 / ((((pl.map sg).map Dt.str).length:Nat):Int))),.val (.int (z:Nat)),.val (.str (tx ((ws pl c m j).2 ++ [pl.getD (n1 % ((pl.length:Nat):Int)).toNat 0]))),.val (.int (j:Nat)),.aL]) (ah (au 9 nd (pP (L:=(ws pl c m j).2) (aa 9 rfl) (HH (aa 3 rfl) (cO (i:=n1) (aR (aa 7 rfl) (by rw[RD])) (uk T.jE (aa 3 rfl)) Wg) hat) (by rw[hwj];show j+1<=2000;omega)))
         (ao (au 7 nd (gG (aR (aa 7 rfl) (by rw[RD])) (uk T.jE (aa 3 rfl)) hpd)))) (Le.of ⟨rfl,rfl,rfl,rfl,rfl,rfl,rfl,?_,rfl,?_,trivial⟩)
       . show Slot.val (.int (ws pl c m (j+1)).1)=_
         rw[ew,RI]
       . show Slot.val (.str (tx (ws pl c m (j+1)).2))=_
         rw[ew]
 . exact ao (D9 4)
theorem wM {rows:List Row}(ok:aM rows){r:Row}(h:r∈rows):bG rows r.c=r.d/\wordOf rows r.c=r.w:=by
 obtain⟨q,hq,hc,hd,hw⟩:=dX (List.mem_map_of_mem (f:=(·.c)) h)
 obtain⟨i,hi,rfl⟩:=List.mem_iff_getElem.mp hq
 obtain⟨j,hj,rfl⟩:=List.mem_iff_getElem.mp h
 have e:=Ag ok.nd hi hj hc
 subst e
 exact⟨hd,hw⟩
theorem wN {six:Bool}{rows:List Row}(ok:aM rows):(rows.map fun r=>decide (bb rows r.w % wy six=bb rows [r.c] % wy six)).all id=n8 six rows:=by
 unfold n8
 rw[List.all_map,List.all_map,Bool.eq_iff_iff,List.all_eq_true,List.all_eq_true]
 constructor
 . intro h r hr
   have:=h r hr
   show decide (bb rows (wordOf rows r.c) % wy six=bb rows [r.c] % wy six)=true
   rw[(wM ok hr).2];exact this
 . intro h r hr
   have:=h r hr
   have e:decide (bb rows (wordOf rows r.c) % wy six=bb rows [r.c] % wy six)=true:=this
   rw[(wM ok hr).2] at e;exact e
theorem Fi (rows:List Row)(y:Int):∀ w:List Nat,(w.map fun x=>b5 (bG rows x) % y).sum % y=bb rows w % y
 | []=>rfl
 | x::w=>by
   have h:=Fi rows y w
   unfold bb at h ⊢
   rw[List.map_cons,List.sum_cons,List.map_cons,List.sum_cons,Int.add_emod,Int.emod_emod,h,<- Int.add_emod]
theorem GL (rows:List Row)(W:List Nat)(b:Nat):cut (grow rows W) 0 (grow rows (W.take b)).length=grow rows (W.take b):=by
 have e:grow rows W=grow rows (W.take b) ++ grow rows (W.drop b):=by rw[<- wG,List.take_append_drop]
 unfold cut
 rw[List.drop_zero,e,List.take_left]
noncomputable abbrev lSt (i:Nat):Stmt:=(aB vH).getD i (.Pass ⟨0,0,0,0⟩)
noncomputable abbrev YT:Stmt->Scope
 | .If (.UnaryOp _ (.Call _ (.ListComp _ _ sc _::_) _ _) _) _ _ _=>sc
 | _=>af (.Pass ⟨0,0,0,0⟩)
noncomputable abbrev YU:Stmt->Scope
 | .Assign _ (.BinOp (.Call _ (.ListComp _ _ sc _::_) _ _) _ _ _) _=>sc
 | _=>af (.Pass ⟨0,0,0,0⟩)
noncomputable abbrev Vq:Scope:=YT (lSt 2)
noncomputable abbrev Vr:Scope:=YU (lSt 11)
theorem Fj:gq Vq (af vH) Jp ["_law_row","_law_ways","_law_rows"] ["_law_row"] [1,2]=true:=by decide +kernel
theorem OJ:gq Vr (af vH) Jp ["_law_letter","_law_turns_here"] ["_law_letter"] [8]=true:=by decide +kernel
theorem RJ (T:Txt K mg t):ke P w K mg base CX 12 t.qh t.vR ["_law_script"] (Kd K):=by
 refine i6 T.BE.F Jq rfl fun bf A outer s H E G ds r hr hl hR=>?_
 obtain⟨ns,hlen,rfl,rfl⟩:=hR
 have Vs:=RC (P:=P) (w:=w) (base:=base) T
 have NJ:=Kj (P:=P) (w:=w) (base:=base) T
 have uS:=K2 (P:=P) (w:=w) (base:=base) T
 have RK:=NI (P:=P) (w:=w) (base:=base) T
 have Fl:=JF (P:=P) (w:=w) (base:=base) T
 have RL:=J7 (P:=P) (w:=w) (base:=base) T
 have YV:=KU (P:=P) (w:=w) (base:=base) T
 have Fm:=JY (P:=P) (w:=w) (base:=base) T
 have Fb:=E3 (P:=P) (w:=w) (base:=base) T
 have YW:=KD (P:=P) (w:=w) (base:=base) T
 have YX:=GK (P:=P) (w:=w) (base:=base) T
 have RE:=wJ (P:=P) (w:=w) (base:=base) T
 have Vt:=KZ (P:=P) (w:=w) (base:=base) T
 have nO:=zT (P:=P) (w:=w) (base:=base) T
 have nd:=Jq.nd
 have hu:(A.deeper (envOfC "law" (af vH) s.heap.objs.size t.qh bf)).units+1 < cLine:=by have:=hr.units;omega
 let six:=E6 ns
 let rows0:=wA ns
 let wd:=uQ ns
 have NK:lW rows0 wd:=U5 ns
 have Ai:aM rows0:=NK.ok
 have hb:=Nm ns (far:=16) (by decide) (by decide)
 obtain⟨age,i7,T3⟩:∃ age:Nat,(if (199:Int) < n9 ns 16 then 199 else n9 ns 16)=((age:Nat):Int)/\age<=199:=by
   refine⟨(if (199:Int) < n9 ns 16 then 199 else n9 ns 16).toNat,?_,?_⟩ <;> split <;> omega
 obtain⟨m,hm,HK⟩:∃ m:Int,o7 [Dt.int 8,Dt.int 2] (if decide ((24:Int) < ((age:Nat):Int))=true then 1 else 0)=some (.int m)/\(0 < m/\m<=8):=by
   by_cases c:(24:Int) < ((age:Nat):Int)
   . rw[decide_eq_true c];exact⟨2,rfl,by decide⟩
   . rw[decide_eq_false c];exact⟨8,rfl,by decide⟩
 obtain⟨rows,Ce⟩:∃ rows,rows=if n8 six rows0=true then rows0 else md rows0 ns m:=⟨_,rfl⟩
 have hcs:rows.map (·.c)=rows0.map (·.c):=by
   rw[Ce];split
   . rfl
   . exact wK _ _ _
 have ok:aM rows:=by
   rw[Ce];split
   . exact Ai
   . exact NF Ai ns HK
 have hk:n8 six rows=true:=by
   rw[Ce];split
   . assumption
   . exact DI Ai ns HK six
 have K3:lW rows wd:=⟨ok,NK.w0,NK.w8,fun x hx=>by rw[hcs];exact NK.wm x hx⟩
 obtain⟨W,hW⟩:∃ W:List Nat,W=mS rows wd age:=⟨_,rfl⟩
 obtain⟨sz,hsz⟩:∃ sz:Nat,sz=W.length:=⟨_,rfl⟩
 have esz:((sz:Nat):Int)=YA rows wd age:=by rw[hsz,hW];exact E8 K3 age
 have hWm:∀ x∈W,x∈rows.map (·.c):=fun x hx=>by rw[hW] at hx;exact pS ok K3.wm age x hx
 obtain⟨b,eb,hbs⟩:∃ b:Nat,KW ns 9 % (((sz:Nat):Int)+1)=((b:Nat):Int)/\b<=sz:=by
   have a:=Int.emod_nonneg (KW ns 9) (show((sz:Nat):Int)+1≠0 by omega)
   have b:=Int.emod_lt_of_pos (KW ns 9) (show(0:Int) < ((sz:Nat):Int)+1 by omega)
   generalize KW ns 9 % (((sz:Nat):Int)+1)=y at a b ⊢
   exact⟨y.toNat,by omega,by omega⟩
 let nD:Nat->Dt:=fun a=>.int ((a:Nat):Int)
 have Vp:∀ n:Nat,n<=2000->n<=sizeLine:=fun n h=>Nat.le_trans h (by decide)
 have h60:rows0.length<=6:=Ai.le
 have h6:rows.length<=6:=ok.le
 let f0:Row->Bool:=fun r=>decide (bb rows0 r.w % wy six=bb rows0 [r.c] % wy six)
 have eA:((rows0.filter fun _=>true).map fun r=>Dt.bl (f0 r))=(rows0.map f0).map .bl:=by
   rw[List.filter_eq_self.mpr (fun _ _=>rfl),List.map_map];rfl
 let D0:Dt->Slot->Slot->Slot->Slot->Slot->Slot->Slot->Slot->Slot->List Slot:=fun rD a5 a6 a7 a8 a9 YQ YR a12 a13=>[.val (.ow ns),.val (.int (wy six)),.val rD,.val (.str (tx wd)),.val (nD age),a5,a6,a7,a8,a9,YQ,YR,a12,a13]
 refine⟨_,.rt _,?_⟩
 refine ah (Mq 1 2 3 4 nd rfl (b0 NJ aA hr (ae (aa 0 rfl) (ae aj ai)) ⟨ns,16,rfl,⟨by decide,by decide⟩,rfl⟩)) ?_
 refine ah (dl1:=D0 (.lst (rows0.map f6)) .aL .aL .aL .aL .aL .aL .aL .aL .aL) (au 4 nd (aR (HW T.Ez rfl (ae (aa 4 rfl) (ae aj ai))) (congrArg Dt.int i7))) ?_
 refine ah (dl1:=D0 (.lst (rows.map f6)) .aL .aL .aL .aL .aL .aL .aL .aL .aL) ?iF ?_
 case iF=>
   cases hc:n8 six rows0
   . have er:rows=md rows0 ns m:=by rw[Ce,if_neg (by rw[hc];decide)]
     rw[er]
     refine cb (u:=true) (CD (u:=false) (AY (aR (yY (bs:=rows0.map f0) T.yd rfl (dB eA (eO rows0 f6 (fun r=>Dt.bl (f0 r)) (fun r=>[.val (f6 r)]) (fun _=>true) rfl (a0 Fj) (gb (aa 2 rfl)) (bF (a0 Fj) rfl) eJ (fun a _=>bQ) (.nil fun _ _=>rfl) (fun r MI _ C fp s' H' G'=>?te) (Vp _ (by omega))))) (congrArg Dt.bl ((wN Ai).trans hc))))) (fun _=>ah (cb (u:=false) (dP (A4 (u:=false) (aR (cj (fs:=t.qH six rows0) (N3 (qV Fl aA hr (ae (aa 1 rfl) (ae (oH (Ea T.vY (aa 2 rfl))) ai)) ⟨six,rows0,rfl,Ai,rfl⟩)) Fm aA hr ⟨six,rows0,rfl,Ai,rfl⟩) (congrArg Dt.bl hc)) NZ) rfl) (fun h=>nomatch h) (fun _=>cg)) (ao (au 2 nd (oH (xX RK aA hr (ae (aa 2 rfl) (ae (aa 0 rfl) (ae (HH (oH (sh (ae aj (ae aj ai)) AA3)) (pA T.tL (Tp (aa 4 rfl) aj)) hm) ai))) ⟨rows0,ns,m,rfl,Ai,HK,rfl⟩))))) (fun h=>nomatch h)
     case te=>
       have hw1:=Ai.wp r MI
       exact vj (b0 uS aA hr (ae (aa 1 rfl) (ae (aa 2 rfl) (ae (aI (d:=.str (tx r.w)) (ds:=[.str (sg r.c),.str r.d,.str (tx r.w)]) (aa 0 rfl) aj rfl) ai))) ⟨six,rows0,r.w,rfl,Ai,Ai.wo r MI,by omega,rfl⟩) (b0 uS aA hr (ae (aa 1 rfl) (ae (aa 2 rfl) (ae (aI (d:=.str (tx [r.c])) (ds:=[.str (sg r.c),.str r.d,.str (tx r.w)]) (aa 0 rfl) aj rfl) ai))) ⟨six,rows0,[r.c],rfl,Ai,fun x hx=>uP hx (List.mem_map_of_mem MI),(show 1<=1000 by decide),rfl⟩)
   . have er:rows=rows0:=by rw[Ce,if_pos hc]
     rw[er]
     refine cb (u:=false) (CD (u:=true) (AY (aR (yY (bs:=rows0.map f0) T.yd rfl (dB eA (eO rows0 f6 (fun r=>Dt.bl (f0 r)) (fun r=>[.val (f6 r)]) (fun _=>true) rfl (a0 Fj) (gb (aa 2 rfl)) (bF (a0 Fj) rfl) eJ (fun a _=>bQ) (.nil fun _ _=>rfl) (fun r MI _ C fp s' H' G'=>?te) (Vp _ (by omega))))) (congrArg Dt.bl ((wN Ai).trans hc))))) (fun h=>nomatch h) (fun _=>cg)
     case te=>
       have hw1:=Ai.wp r MI
       exact vj (b0 uS aA hr (ae (aa 1 rfl) (ae (aa 2 rfl) (ae (aI (d:=.str (tx r.w)) (ds:=[.str (sg r.c),.str r.d,.str (tx r.w)]) (aa 0 rfl) aj rfl) ai))) ⟨six,rows0,r.w,rfl,Ai,Ai.wo r MI,by omega,rfl⟩) (b0 uS aA hr (ae (aa 1 rfl) (ae (aa 2 rfl) (ae (aI (d:=.str (tx [r.c])) (ds:=[.str (sg r.c),.str r.d,.str (tx r.w)]) (aa 0 rfl) aj rfl) ai))) ⟨six,rows0,[r.c],rfl,Ai,fun x hx=>uP hx (List.mem_map_of_mem MI),(show 1<=1000 by decide),rfl⟩)
 refine ah (dl1:=D0 (.lst (rows.map f6)) (.val (t.uJ six rows)) .aL .aL .aL .aL .aL .aL .aL .aL) (au 5 nd (N3 (qV Fl aA hr (ae (aa 1 rfl) (ae (oH (Ea T.vY (aa 2 rfl))) ai)) ⟨six,rows,rfl,ok,rfl⟩))) ?_
 refine ah (dl1:=D0 (.lst (rows.map f6)) (.val (t.uJ six rows)) (.val (t.Yy six rows wd 1)) .aL .aL .aL .aL .aL .aL .aL) (au 6 nd (LV (A8 RL aA hr (ae (aa 5 rfl) (ae (aa 3 rfl) ai)) ⟨six,rows,wd,rfl,K3,rfl⟩))) ?_
 refine Bq 6 fun l' ls' mx=>?_
 let gE:Dt:=xD t six rows wd l' ls' 1
 refine ah (dl1:=D0 (.lst (rows.map f6)) (.val (t.uJ six rows)) (.val gE) (.val (.yI t.ax (t.xE six rows wd l' ls' 1) [t.p8 six rows] ["tracks"] 1)) .aL .aL .aL .aL .aL .aL) (au 7 nd (LV (A8 YV aA hr (ae (aa 6 rfl) ai) ⟨six,rows,wd,l',ls',1,rfl,K3,rfl⟩))) ?_
 refine Bq 7 fun l ls Yx=>?_
 have YY:KQ t six rows wd ls' ls:=⟨K3,mx,Yx⟩
 let dE:Dt:=.obj t.ax (t.Ae six rows wd l' ls' 1 l ls 1)
 let D:Slot->Slot->Slot->Slot->Slot->Slot->List Slot:=D0 (.lst (rows.map f6)) (.val (t.uJ six rows)) (.val gE) (.val dE)
 show oh _ _ _ (D .aL .aL .aL .aL .aL .aL) _ _
 refine ah (cb (u:=false) (dP (A4 (u:=true) (aR (cj (fs:=t.qH six rows) (aa 5 rfl) Fm aA hr ⟨six,rows,rfl,ok,rfl⟩) (congrArg Dt.bl hk)) NZ) rfl) (fun h=>nomatch h) (fun _=>cg)) ?_
 let L:=rows.map (·.c)
 have hL:L.length=rows.length:=List.length_map ..
 let Dk:Nat->Dt:=fun x=>.int (b5 (bG rows x) % wy six)
 let S:Nat->List Slot:=fun k=>D (.own (.dw (kd (L.take k) Dk))) .aL .aL .aL .aL .aL
 refine ah (dl1:=S 0) (kN 8 nd zb) ?_
 have whT:∀ x∈L,(G3 six rows age x).turn=b5 (bG rows x) % wy six:=fun x hx=>by
   show(cw six (uR rows (gP rows age x))).turn=_
   rw[rJ,Fh ok hk hx age]
   show(b5 (bG rows x)+0) % wy six=_
   rw[Int.add_zero]
 refine ah (dl1:=S rows.length) (l3 (o:=.nx (S rows.length)) (m:=rows.length) rows f6 (fun r dl=>((dl.set 9 (.val (.str (sg r.c)))).set 10 (.val (.str r.d))).set 11 (.val (.str (tx r.w)))) S rfl PassesOwn.leaving (gb (aa 2 rfl)) eJ (rP rfl (dg (bI nd rfl (.inl rfl)) (dg (bI nd rfl (.inl rfl)) (dg (bI nd rfl (.inl rfl)) o5)))) (fun a _=>Qb) (Le.of ⟨rfl,rfl,rfl,rfl,rfl,rfl,rfl,rfl,rfl,trivial⟩) (Nat.le_refl _) (fun k a PM ha=>?lp) (.all rfl)) ?_
 case lp=>
   rw[List.getElem?_eq_getElem PM] at ha
   cases ha
   obtain⟨q,hq⟩:∃ q,q=rows[k]:=⟨_,rfl⟩
   have hqm:q∈rows:=by rw[hq];exact List.getElem_mem PM
   have hkL:k < L.length:=by omega
   have eL:L[k]=q.c:=by rw[hq];show(rows.map (·.c))[k]=_;rw[List.getElem_map]
   have hx:q.c∈L:=List.mem_map_of_mem hqm
   have ed:Dk q.c=.int (b5 q.d % wy six):=by show Dt.int (b5 (bG rows q.c) % wy six)=_;rw[(wM ok hqm).1]
   have YZ:tG (kd (L.take k) Dk) (.inr (sg q.c)) (Dk q.c)=kd (L.take (k+1)) Dk:=by rw[<- eL];exact Dr ok.nd hkL
   have Qa:(kd (L.take k) Dk).length < sizeLine:=by
     unfold kd
     rw[List.length_map,List.length_take];exact Nat.lt_of_lt_of_le (show min k L.length < 2000 by omega) (by decide)
   have Y0:lG (kd (L.take (k+1)) Dk) (.inr (sg q.c))=some (Dk q.c):=fK (by rw[<- eL];exact List.mem_iff_getElem.mpr ⟨k,by rw[List.length_take];omega,by rw[List.getElem_take]⟩)
   rw[<- hq]
   refine .nx (dl':=D (.own (.dw (kd (L.take (k+1)) Dk))) (.val (.str (sg q.c))) (.val (.str q.d)) (.val (.str (tx q.w))) .aL .aL) (ah (dl1:=D (.own (.dw (kd (L.take (k+1)) Dk))) (.val (.str (sg q.c))) (.val (.str q.d)) (.val (.str (tx q.w))) .aL .aL) ?pt
     (ao (cb (u:=false) (L7 (w:=.dw (kd (L.take (k+1)) Dk)) 8 (dP (HN (cj (fs:=t.lV six (G3 six rows age q.c)) (oZ (aQ (fs:=t.Ae six rows wd l' ls' 1 l ls 1) (aa 7 rfl) YX aA hr (ae (aa 4 rfl) (ae (aa 9 rfl) ai)) ⟨six,rows,wd,l',ls',1,l,ls,1,age,q.c,rfl,YY,⟨by decide,by decide⟩,by omega,hx,rfl⟩)) nO aA hr ⟨six,_,rfl,rfl⟩) (yZ (d:=Dk q.c) hu (aa 8 rfl) (aa 9 rfl) Y0 (fun _ _=>rfl))) (by rw[whT q.c hx,decide_eq_true rfl];rfl))) (fun h=>nomatch h) (fun _=>cg)))) (Le.of ⟨rfl,rfl,rfl,rfl,rfl,rfl,rfl,rfl,rfl,trivial⟩)
   case pt=>
     show ES _ _ _ (D (.own (.dw (kd (L.take k) Dk))) (.val (.str (sg q.c))) (.val (.str q.d)) (.val (.str (tx q.w))) .aL .aL) _ (.nx (D (.own (.dw (kd (L.take (k+1)) Dk))) (.val (.str (sg q.c))) (.val (.str q.d)) (.val (.str (tx q.w))) .aL .aL))
     rw[<- YZ]
     exact zc (kds:=kd (L.take k) Dk) (d:=Dk q.c) 8 hu (aR (cO (lF (pA T.tL (yP (aa 10 rfl) cN)) (pA T.tL (yP (aa 10 rfl) cN))) (aa 1 rfl) (f7 six)) (by rw[K1,ed])) (aa 9 rfl) Qa
 have eS:S rows.length=D (.own (.dw (kd L Dk))) .aL .aL .aL .aL .aL:=by
   show D (.own (.dw (kd (L.take rows.length) Dk))) .aL .aL .aL .aL .aL=_
   rw[<- hL,List.take_length]
 rw[eS]
 have lnR:J9 t [gE,nD age] (.ret (nD sz)):=⟨six,rows,wd,l',ls',1,age,rfl,K3,mx,by omega,by show Res.ret (.int ((sz:Nat):Int))=_;rw[esz]⟩
 refine vn 8 (w:=.dw (kd L Dk)) (ah (dl1:=D (.val (.dw (kd L Dk))) .aL .aL .aL (.val (nD b)) .aL) (au 12 nd (aR (cO (b0 Vs aA hr (ae (aa 0 rfl) (ae aj ai)) ⟨ns,9,rfl,by decide,rfl⟩) (aT (aQ (fs:=t.f9 six rows wd l' ls' 1) (aa 6 rfl) Fb aA hr (ae (aa 4 rfl) ai) lnR) aj) (by omega)) (congrArg Dt.int eb))) ?_)
 let X:Nat->Nat->Tr:=fun a p=>cw six (uR rows (cut (mS rows wd a) 0 p))
 have paR:∀ a p:Nat,a<=200->p<=(mS rows wd a).length->Ff t [dE,nD a,nD p] (.ret (Vm (X a p))):=fun a p h1 h2=>⟨six,rows,wd,l',ls',1,l,ls,1,a,p,rfl,YY,h1,h2,rfl⟩
 obtain⟨y,hy⟩:∃ y,y=(grow rows (W.take b)).length:=⟨_,rfl⟩
 have yoR:Fd t [gE,nD age,nD b] (.ret (nD y)):=⟨six,rows,wd,l',ls',1,age,b,rfl,K3,mx,by omega,by rw[<- hW];omega,by rw[<- hW,<- hy]⟩
 have ctb:cut W 0 b=W.take b:=by unfold cut;rw[List.drop_zero]
 have FV:y<=(mS rows wd (age+1)).length:=by
   rw[<- B3,<- hW,hy]
   have e:grow rows W=grow rows (W.take b) ++ grow rows (W.drop b):=by rw[<- wG,List.take_append_drop]
   rw[e,List.length_append];omega
 have eT:(X age b).turn=(X (age+1) y).turn:=by
   show(cw six (uR rows (cut (mS rows wd age) 0 b))).turn=(cw six (uR rows (cut (mS rows wd (age+1)) 0 y))).turn
   rw[rJ,rJ,<- B3,<- hW,hy,GL,ctb,pT hk fun x hx=>hWm x (List.mem_of_mem_take hx)]
 refine ah (cb (u:=false) (dP (HN (aI (ds:=[sp (X age b).shift,.int (X age b).turn]) (aQ (fs:=t.Ae six rows wd l' ls' 1 l ls 1) (aa 7 rfl) Vt aA hr (ae (aa 4 rfl) (ae (aa 12 rfl) ai)) (paR age b (by omega) (by rw[<- hW];omega))) aj rfl) (aI (ds:=[sp (X (age+1) y).shift,.int (X (age+1) y).turn]) (aQ (fs:=t.Ae six rows wd l' ls' 1 l ls 1) (aa 7 rfl) Vt aA hr (ae (aR (aT (aa 4 rfl) aj) (congrArg Dt.int (show((age:Nat):Int)+1=((age+1:Nat):Int) by omega))) (ae (aQ (fs:=t.f9 six rows wd l' ls' 1) (aa 6 rfl) YW aA hr (ae (aa 4 rfl) (ae (aa 12 rfl) ai)) yoR) ai)) (paR (age+1) y (by omega) FV)) aj rfl)) (by rw[eT,decide_eq_true rfl];rfl)) (fun h=>nomatch h) (fun _=>cg)) ?_
 have eI:((wd.filter fun _=>true).map fun x=>Dk x)=(wd.map fun x=>b5 (bG rows x) % wy six).map .int:=by
   rw[List.filter_eq_self.mpr (fun _ _=>rfl),List.map_map];rfl
 have hw8:=K3.w8
 have h7:∀ x∈wd,x < 128:=fun x hx=>by
   obtain⟨q,hq,hc⟩:=List.mem_map.mp (K3.wm x hx)
   have:=ok.sm q hq
   rw[hc] at this
   unfold small at this;omega
 refine ah (dl1:=D (.val (.dw (kd L Dk))) .aL .aL .aL (.val (nD b)) (.val (.int (bb rows wd % wy six)))) (au 13 nd (aR (cO (sv T.rA rfl (dB eI (eO wd (fun x=>Dt.str (sg x)) Dk (fun x=>[.val (.str (sg x))]) (fun _=>true) rfl (a0 OJ) (gu (aa 3 rfl)) (bF (a0 OJ) rfl) (cK (cF (fQ h7)) (fJ wd)) (fun a _=>bQ) (.nil fun _ _=>rfl) (fun x hx _ C fp s' H' G'=>yZ hu (aa 1 rfl) (aa 0 rfl) (fK (K3.wm x hx)) (fun _ _=>rfl)) (Vp _ (by omega))))) (aa 1 rfl) (f7 six)) (congrArg Dt.int (Fi rows (wy six) wd)))) ?_
 have stR:yp t [dE,nD age,.int 0,nD sz] (.ret (t.ql six (cw six (uR rows (cut W 0 sz))))):=by
   rw[hW]
   exact⟨six,rows,wd,l',ls',1,l,ls,1,age,0,sz,rfl,YY,by omega,⟨Nat.zero_le _,by rw[<- hW];omega⟩,rfl⟩
 have eF:(cw six (uR rows (cut W 0 sz))).turn=bb rows wd % wy six:=by
   have e1:cut W 0 sz=W:=by unfold cut;rw[hsz,List.take_length,List.drop_zero]
   rw[rJ,e1,hW,Cd ok hk K3.wm]
 exact ao (aF (aR (vj (cj (fs:=t.lV six (cw six (uR rows (cut W 0 sz)))) (oZ (aQ (fs:=t.Ae six rows wd l' ls' 1 l ls 1) (aa 7 rfl) RE aA hr (ae (aa 4 rfl) (ae aj (ae (aQ (fs:=t.f9 six rows wd l' ls' 1) (aa 6 rfl) Fb aA hr (ae (aa 4 rfl) ai) lnR) ai))) stR)) nO aA hr ⟨six,_,rfl,rfl⟩) (aa 13 rfl)) (congrArg Dt.bl (decide_eq_true eF))))
end Pf
local macro_rules | `(tactic| walk_at "b")=>`(tactic| first
 | exact fun _ _ _ _ _ _ us hl=>match us,hl with | [_],_=>rfl
 | exact fun _ _ _ _ _ _ us hl=>match us,hl with | [_,_],_=>rfl
 | exact fun _ _ _ _ _ _ us hl=>match us,hl with | [_,_,_],_=>rfl
 | exact fun _ _ _ _ _ _ us hl=>match us,hl with | [_,_,_,_],_=>rfl
 | exact fun _ _ _ _ _ _ us hl=>match us,hl with | [_,_,_,_,_],_=>rfl
 | exact fun _ _ _ _ _ _ us hl=>match us,hl with | [_,_,_,_,_,_],_=>rfl
 | exact fun _ _ _ _ _ _ us hl=>match us,hl with | [_,_,_,_,_,_,_],_=>rfl
 | exact fun _ _ _ _ _ _ us hl=>match us,hl with | [_,_,_,_,_,_,_,_],_=>rfl
 | exact fun _ _ _ _ _ _ us hl=>match us,hl with | [_,_,_,_,_,_,_,_,_],_=>rfl
 | exact fun _ _ _ _ _ _ us hl=>match us,hl with | [],_=>rfl)
local macro_rules | `(tactic| walk_at "z")=>`(tactic| first
 | (refine' Pf.QO ?a ?l ?c ?k ?b;(case a=>k_is);(case l=>k_is);(case c=>k_is);(case k=>k_is);(case b=>walk_at "b"))
 | (refine' Pf.QM ?l ?c ?k ?b;(case l=>k_is);(case c=>k_is);(case k=>k_is);(case b=>walk_at "b"))
 | (refine' Pf.QN ?l ?c ?k ?b;(case l=>k_is);(case c=>k_is);(case k=>k_is);(case b=>walk_at "b"))
 | (refine' Pf.QP ?a ?p ?h ?o ?s ?k;(case a=>k_is);(case p=>k_is);(case h=>k_is);(case o=>k_is);(case s=>k_is);(case k=>k_is))
 | (refine' L2.Meth.mk ?a ?i ?k;(case a=>k_is);(case i=>k_is);(case k=>k_is))
 | (refine' L2.Mk.mk ?a ?i ?f ?k;(case a=>k_is);(case i=>k_is);(case f=>k_is);(case k=>k_is))
 | (refine' Sg.PJ.mk ?a ?i ?k;(case a=>k_is);(case i=>k_is);(case k=>k_is))
 | k_is | kernel_rfl)
namespace PySem.W.Fast
theorem tw7808144018799208511:True:=⟨⟩
theorem tw8373990731495907317:True:=⟨⟩
theorem tw14163468646418006100:True:=⟨⟩
theorem tw8802969532376530458:True:=⟨⟩
theorem tw6743869876261401718:True:=⟨⟩
theorem tw10679349953415392482:True:=⟨⟩
theorem tw6015521564325929892:True:=⟨⟩
theorem tw2169611139863143467:True:=⟨⟩
theorem tw7813632140780288681:True:=⟨⟩
theorem tw14919215826266166128:True:=⟨⟩
theorem tw9140629334672202215:True:=⟨⟩
theorem tw14347163244303540926:True:=⟨⟩
theorem tw5312841435977341129:True:=⟨⟩
theorem tw2061692958791545898:True:=⟨⟩
theorem tw8851481986078935152:True:=⟨⟩
theorem tw3963055075838405569:True:=⟨⟩
theorem tw15522798544995731867:True:=⟨⟩
theorem tw264672868802081329:True:=⟨⟩
theorem tw7576923601238466940:True:=⟨⟩
theorem tw1919228635342673371:True:=⟨⟩
theorem tw14465493510401575948:True:=⟨⟩
theorem tw8966205203377357309:True:=⟨⟩
theorem tw10070070125457041908:True:=⟨⟩
theorem tw11058521924715000717:True:=⟨⟩
theorem tw4492703818295266462:True:=⟨⟩
theorem tw9328473015703441697:True:=⟨⟩
theorem tw16357384653894842915:True:=⟨⟩
theorem tw6304497618156218797:True:=⟨⟩
theorem tw7973784276684173715:True:=⟨⟩
theorem tw13466813930470313639:True:=⟨⟩
theorem tw6086184267449183447:True:=⟨⟩
theorem tw16072284080332657520:True:=⟨⟩
theorem tw10253937043830439809:True:=⟨⟩
theorem tw13566022234097798352:True:=⟨⟩
theorem tw8416590853144523138:True:=⟨⟩
theorem tw15863307720696874745:True:=⟨⟩
theorem tw8762803095341655671:True:=⟨⟩
theorem tw16167739261424128496:True:=⟨⟩
theorem tw4174888802406380256:True:=⟨⟩
theorem tw14973072038940677321:True:=⟨⟩
theorem tw18167429200050020596:True:=⟨⟩
theorem tw10700340138952188866:True:=⟨⟩
theorem tw8645171154520823012:True:=⟨⟩
theorem tw17367371550678979585:True:=⟨⟩
theorem tw12194657994052887784:True:=⟨⟩
theorem tw9740272991299571481:True:=⟨⟩
theorem tw5859891810355240221:True:=⟨⟩
theorem tw7838310204581333302:True:=⟨⟩
theorem tw1579262452871277371:True:=⟨⟩
theorem tw643682394221188074:True:=⟨⟩
theorem tw7818904357406691898:True:=⟨⟩
theorem tw15547414878648588548:True:=⟨⟩
theorem tw14129962515551157840:True:=⟨⟩
theorem tw12329409907466463416:True:=⟨⟩
theorem tw4650757755910356660:True:=⟨⟩
theorem tw15989728155002907739:True:=⟨⟩
theorem tw16312415002143973685:True:=⟨⟩
theorem tw3178568647098109905:True:=⟨⟩
theorem tw6034476748395069717:True:=⟨⟩
theorem tw15740388767943316839:True:=⟨⟩
theorem tw13184399881884712964:True:=⟨⟩
theorem tw16055160307829271736:True:=⟨⟩
theorem tw5920076630150275007:True:=⟨⟩
theorem tw6290325453566203892:True:=⟨⟩
theorem tw11541119750968995225:True:=⟨⟩
theorem tw4363787186356792352:True:=⟨⟩
theorem tw9939009740208300967:True:=⟨⟩
theorem tw13413795182255490622:True:=⟨⟩
theorem tw10480723558106799540:True:=⟨⟩
theorem tw10632586306949609940:True:=⟨⟩
theorem tw6322671242694332995:True:=⟨⟩
theorem tw14317583577383633856:True:=⟨⟩
theorem tw4675586434960852720:True:=⟨⟩
theorem tw16653061767823820633:True:=⟨⟩
theorem tw16147604142157760403:True:=⟨⟩
theorem tw623225087045292796:True:=⟨⟩
theorem tw5245137488153217760:True:=⟨⟩
theorem tw1217124389579215077:True:=⟨⟩
theorem tw6632575840238454068:True:=⟨⟩
theorem tw13089117074547689435:True:=⟨⟩
theorem tw10688532705473623585:True:=⟨⟩
theorem tw10847042264196108216:True:=⟨⟩
theorem tw6212509274803540981:True:=⟨⟩
theorem tw11533585142750998503:True:=⟨⟩
theorem tw12998521172554003656:True:=⟨⟩
theorem tw8496800502955032983:True:=⟨⟩
theorem tw7858563575447434339:True:=⟨⟩
theorem tw4945851322747291040:True:=⟨⟩
theorem tw4603693433449938738:True:=⟨⟩
theorem tw14756293048602043287:True:=⟨⟩
theorem tw8196249975248529081:True:=⟨⟩
theorem tw6068426033020396420:True:=⟨⟩
theorem tw2669178965770876127:True:=⟨⟩
theorem tw13421520944549060292:True:=⟨⟩
theorem tw6904961480351758828:True:=⟨⟩
theorem tw16768061125350231393:True:=⟨⟩
theorem tw1980800478300778065:True:=⟨⟩
theorem tw7649208396724872968:True:=⟨⟩
theorem tw1223871905512179780:True:=⟨⟩
theorem tw13995477047786187783:True:=⟨⟩
theorem tw11247457671405813132:True:=⟨⟩
theorem tw6601207077766259847:True:=⟨⟩
theorem tw14047266019169813940:True:=⟨⟩
theorem tw13478444664418902774:True:=⟨⟩
theorem tw3630560505020869472:True:=⟨⟩
theorem tw6679633538818444558:True:=⟨⟩
theorem tw14456118758442813603:True:=⟨⟩
theorem tw5038300656938953138:True:=⟨⟩
theorem tw13023852763161208332:True:=⟨⟩
theorem tw17811169986109813305:True:=⟨⟩
theorem tw8093134534597911840:True:=⟨⟩
theorem tw8747695283189104198:True:=⟨⟩
theorem tw12204246971504311953:True:=⟨⟩
theorem tw13636056493816177752:True:=⟨⟩
theorem tw18139292070449184524:True:=⟨⟩
theorem tw5856324211620927689:True:=⟨⟩
theorem tw18106362693045402195:True:=⟨⟩
theorem tw10326334458719500758:True:=⟨⟩
theorem tw14236062537456991923:True:=⟨⟩
theorem tw11947456257912906671:True:=⟨⟩
theorem tw6173558475753806145:True:=⟨⟩
theorem tw5652960644696063145:True:=⟨⟩
theorem tw1336310341198026088:True:=⟨⟩
theorem tw4710815433460069607:True:=⟨⟩
theorem tw3445387511123335327:True:=⟨⟩
theorem tw280506281963547087:True:=⟨⟩
theorem tw2264726456538374444:True:=⟨⟩
theorem tw3054806354414275771:True:=⟨⟩
theorem tw438859612046224751:True:=⟨⟩
theorem tw2317452392178138740:True:=⟨⟩
theorem tw16766170775896842389:True:=⟨⟩
theorem tw3101032385666502211:True:=⟨⟩
theorem tw938098185268472050:True:=⟨⟩
theorem tw4741592054146600412:True:=⟨⟩
theorem tw17396575588990527810:True:=⟨⟩
theorem tw4443774325389142807:True:=⟨⟩
theorem tw4587728382710488278:True:=⟨⟩
theorem tw15410922760283300403:True:=⟨⟩
theorem tw6898399356625014326:True:=⟨⟩
theorem tw16327283665270135521:True:=⟨⟩
theorem tw15931912017660878485:True:=⟨⟩
theorem tw10859277221328489894:True:=⟨⟩
theorem tw104698571633513600:True:=⟨⟩
theorem tw5283792434968853976:True:=⟨⟩
theorem tw6464161040977245290:True:=⟨⟩
theorem tw623599773334309911:True:=⟨⟩
theorem tw5833212590118854744:True:=⟨⟩
theorem tw5744286285430410048:True:=⟨⟩
theorem tw3993776865448191938:True:=⟨⟩
theorem tw9457674819693677022:True:=⟨⟩
theorem tw9343874405184552204:True:=⟨⟩
theorem tw3665741312671281930:True:=⟨⟩
theorem tw14405343872414371595:True:=⟨⟩
theorem tw16381824011902857496:True:=⟨⟩
theorem tw11475936340433064428:True:=⟨⟩
theorem tw9819719238690289744:True:=⟨⟩
theorem tw11589966861052122818:True:=⟨⟩
theorem tw16455881401504478151:True:=⟨⟩
theorem tw5280143739736284484:True:=⟨⟩
theorem tw4880187252241990550:True:=⟨⟩
theorem tw2693313692295268953:True:=⟨⟩
theorem tw1701887262327849723:True:=⟨⟩
theorem tw1160474060691606263:True:=⟨⟩
theorem tw15026837797189850666:True:=⟨⟩
theorem tw16601273750645312408:True:=⟨⟩
theorem tw12151182306881581996:True:=⟨⟩
theorem tw3318326386559927945:True:=⟨⟩
theorem tw2957574924243210954:True:=⟨⟩
theorem tw556417528111261798:True:=⟨⟩
theorem tw3782147186039717556:True:=⟨⟩
theorem tw6821170078748152115:True:=⟨⟩
theorem tw10706902417308371786:True:=⟨⟩
theorem tw4353331078353348156:True:=⟨⟩
theorem tw2446850325954493580:True:=⟨⟩
theorem tw9038611742239635661:True:=⟨⟩
theorem tw15938404094617063117:True:=⟨⟩
theorem tw7105799102097670144:True:=⟨⟩
theorem tw13154669959262222959:True:=⟨⟩
theorem tw14268287645940171922:True:=⟨⟩
theorem tw8968811347318767313:True:=⟨⟩
theorem tw3940591522810891861:True:=⟨⟩
theorem tw6056738986234561363:True:=⟨⟩
theorem tw12917190874999703854:True:=⟨⟩
theorem tw7750922984542407569:True:=⟨⟩
theorem tw7621078548922518597:True:=⟨⟩
theorem tw11845079102527712972:True:=⟨⟩
theorem tw9846318790630719036:True:=⟨⟩
theorem tw17399780407322543725:True:=⟨⟩
theorem tw13226745253219304761:True:=⟨⟩
theorem tw15627822721850337409:True:=⟨⟩
theorem tw10485222128240462449:True:=⟨⟩
theorem tw12152761754682031436:True:=⟨⟩
theorem tw1777498867829018497:True:=⟨⟩
theorem tw17426873780493055247:True:=⟨⟩
theorem tw8847531552954312089:True:=⟨⟩
theorem tw8271226601933415180:True:=⟨⟩
theorem tw14884699594045185566:True:=⟨⟩
theorem tw14723246444180799021:True:=⟨⟩
theorem tw8353304857753566887:True:=⟨⟩
theorem tw10884085976554478730:True:=⟨⟩
theorem tw8620244355372514392:True:=⟨⟩
theorem tw17685348009839537602:True:=⟨⟩
theorem tw10380707451038710001:True:=⟨⟩
theorem tw17911622386589953249:True:=⟨⟩
theorem tw4067490125760788501:True:=⟨⟩
theorem tw6901951662891154539:True:=⟨⟩
theorem tw6183008321525183327:True:=⟨⟩
theorem tw5156257220346405910:True:=⟨⟩
theorem tw11503115075464409647:True:=⟨⟩
theorem tw11989957675827106065:True:=⟨⟩
theorem tw1472282278536927889:True:=⟨⟩
theorem tw13284264923284689198:True:=⟨⟩
theorem tw15306571136360844586:True:=⟨⟩
theorem tw11625970812455457229:True:=⟨⟩
theorem tw17232662599739997889:True:=⟨⟩
theorem tw14353384922834554498:True:=⟨⟩
theorem tw3326155659531000973:True:=⟨⟩
theorem tw12517135339717623651:True:=⟨⟩
theorem tw2002806082495706677:True:=⟨⟩
theorem tw3568243064194881860:True:=⟨⟩
theorem tw16422580070620835231:True:=⟨⟩
theorem tw13158963173406830602:True:=⟨⟩
theorem tw870920506768601595:True:=⟨⟩
theorem tw10871631187252742853:True:=⟨⟩
theorem tw11098030537316925052:True:=⟨⟩
theorem tw15442999955996296548:True:=⟨⟩
theorem tw10464627400524147342:True:=⟨⟩
theorem tw18416140343004741061:True:=⟨⟩
theorem tw9752360972930909222:True:=⟨⟩
theorem tw22486829837275744:True:=⟨⟩
theorem tw6654271434464847587:True:=⟨⟩
theorem tw11522596132731574904:True:=⟨⟩
theorem tw5896267610544071089:True:=⟨⟩
theorem tw6839868828740107186:True:=⟨⟩
theorem tw612886606168586602:True:=⟨⟩
theorem tw5897041214638657819:True:=⟨⟩
theorem tw15462664475906649210:True:=⟨⟩
theorem tw14844749320319885203:True:=⟨⟩
theorem tw11998153422121393100:True:=⟨⟩
theorem tw7234087987838794842:True:=⟨⟩
theorem tw9902195822271023523:True:=⟨⟩
theorem tw14832671625579774451:True:=⟨⟩
theorem tw1641693050370684994:True:=⟨⟩
theorem tw13104762189986734065:True:=⟨⟩
theorem tw9000434345390193831:True:=⟨⟩
theorem tw10574964328077535221:True:=⟨⟩
theorem tw5271722703218143375:True:=⟨⟩
theorem tw13926883956906936822:True:=⟨⟩
theorem tw16344570710763425947:True:=⟨⟩
theorem tw6927048678443615269:True:=⟨⟩
theorem tw12393064955512656356:True:=⟨⟩
theorem tw8485732357524353865:True:=⟨⟩
theorem tw4833321417125718072:True:=⟨⟩
theorem tw4837964773829943329:True:=⟨⟩
theorem tw3984095623487762548:True:=⟨⟩
theorem tw15724578283598246733:True:=⟨⟩
theorem tw10778705838357086246:True:=⟨⟩
theorem tw1964246752346961166:True:=⟨⟩
theorem tw10186099958960495339:True:=⟨⟩
theorem tw10205925648497961865:True:=⟨⟩
theorem tw17070923002334780090:True:=⟨⟩
theorem tw2205815080671951440:True:=⟨⟩
theorem tw503157032304977561:True:=⟨⟩
theorem tw11625330410850150037:True:=⟨⟩
theorem tw9598937797645691766:True:=⟨⟩
theorem tw17804188413815373738:True:=⟨⟩
theorem tw9113464493582121932:True:=⟨⟩
theorem tw745648672125466043:True:=⟨⟩
theorem tw9439001095335053545:True:=⟨⟩
theorem tw10874637816107240673:True:=⟨⟩
theorem tw4451438073381356994:True:=⟨⟩
theorem tw17529474153023987983:True:=⟨⟩
theorem tw7427845316322934820:True:=⟨⟩
theorem tw9533946528503168380:True:=⟨⟩
theorem tw11460210742778864230:True:=⟨⟩
theorem tw3052140835398928206:True:=⟨⟩
theorem tw17531014727180892494:True:=⟨⟩
theorem tw4350226068362888131:True:=⟨⟩
theorem tw8130712491992952421:True:=⟨⟩
theorem tw16900105779417779884:True:=⟨⟩
theorem tw15240961381561330633:True:=⟨⟩
theorem tw6814238859504148015:True:=⟨⟩
theorem tw11113592869107291792:True:=⟨⟩
theorem tw4597598031334586182:True:=⟨⟩
theorem tw10559976217229736273:True:=⟨⟩
theorem tw13819434724796117442:True:=⟨⟩
theorem tw15120250299770876893:True:=⟨⟩
theorem tw4700255176544390794:True:=⟨⟩
theorem tw15871551686030097789:True:=⟨⟩
theorem tw4533225841112481392:True:=⟨⟩
theorem tw9913555321885072379:True:=⟨⟩
theorem tw1930995622678069823:True:=⟨⟩
theorem tw11003788452167972778:True:=⟨⟩
theorem tw3421137610238059298:True:=⟨⟩
theorem tw14876516402999062648:True:=⟨⟩
theorem tw9201129997369173260:True:=⟨⟩
theorem tw7436343663119100013:True:=⟨⟩
theorem tw10743927042972613855:True:=⟨⟩
theorem tw3191423970765268172:True:=⟨⟩
theorem tw5635144206070768130:True:=⟨⟩
theorem tw8690638414446780109:True:=⟨⟩
theorem tw2478511216229530555:True:=⟨⟩
theorem tw10295250408502298333:True:=⟨⟩
theorem tw9915952818006206727:True:=⟨⟩
theorem tw8815743703710526359:True:=⟨⟩
theorem tw15696676967267336438:True:=⟨⟩
theorem tw3254577838533918927:True:=⟨⟩
theorem tw18332879423927599752:True:=⟨⟩
theorem tw17066418601550491059:True:=⟨⟩
theorem tw15691288397997077998:True:=⟨⟩
theorem tw14499202117008353465:True:=⟨⟩
theorem tw188650115846648319:True:=⟨⟩
theorem tw9186219954037669777:True:=⟨⟩
theorem tw9830759594245708853:True:=⟨⟩
theorem tw14817702853156986162:True:=⟨⟩
theorem tw16317049769843787082:True:=⟨⟩
theorem tw12671148747537200415:True:=⟨⟩
theorem tw1829360391257306651:True:=⟨⟩
theorem tw14977835757208692734:True:=⟨⟩
theorem tw9704141616916721739:True:=⟨⟩
theorem tw4728798146735756647:True:=⟨⟩
theorem tw13955733752899276572:True:=⟨⟩
theorem tw10606666526310865425:True:=⟨⟩
theorem tw9273252385366589215:True:=⟨⟩
theorem tw11613695955933968549:True:=⟨⟩
theorem tw13330791941655062812:True:=⟨⟩
theorem tw7738489345509845265:True:=⟨⟩
theorem tw957177303667752633:True:=⟨⟩
theorem tw10878621029578694291:True:=⟨⟩
theorem tw8867004610297111468:True:=⟨⟩
theorem tw3627622815642241425:True:=⟨⟩
theorem tw5076097514287116251:True:=⟨⟩
theorem tw6718735531941433446:True:=⟨⟩
theorem tw4312881361272468864:True:=⟨⟩
theorem tw15681066637722750015:True:=⟨⟩
theorem tw16120568411009927216:True:=⟨⟩
theorem tw1139217051659354956:True:=⟨⟩
theorem tw15732083480163033309:True:=⟨⟩
theorem tw9919371328571992687:True:=⟨⟩
theorem tw6527547320081023949:True:=⟨⟩
theorem tw5897375517791161061:True:=⟨⟩
theorem tw9632447755598589035:True:=⟨⟩
theorem tw2417074030744178093:True:=⟨⟩
theorem tw10615339219733686109:True:=⟨⟩
theorem tw12232731776377142938:True:=⟨⟩
theorem tw4067061450342869110:True:=⟨⟩
theorem tw7964751926532033344:True:=⟨⟩
theorem tw7062397799756366217:True:=⟨⟩
theorem tw9243073674254527578:True:=⟨⟩
theorem tw14442629481672293537:True:=⟨⟩
theorem tw3077363531570359889:True:=⟨⟩
theorem tw5574184830868921649:True:=⟨⟩
theorem tw11882736534609576984:True:=⟨⟩
theorem tw12542268155339856407:True:=⟨⟩
theorem tw3341112024907669554:True:=⟨⟩
theorem tw14312221190705449087:True:=⟨⟩
theorem tw4233260822882454299:True:=⟨⟩
theorem tw3503437078987906675:True:=⟨⟩
theorem tw3547573414660851287:True:=⟨⟩
theorem tw13798664522813183348:True:=⟨⟩
theorem tw4825405060701344275:True:=⟨⟩
theorem tw138345008644103039:True:=⟨⟩
theorem tw15212274911081536754:True:=⟨⟩
theorem tw18219266545495539516:True:=⟨⟩
theorem tw3173607154668445623:True:=⟨⟩
theorem tw2907625233784483127:True:=⟨⟩
theorem tw3162580743008635675:True:=⟨⟩
theorem tw18086947323770486287:True:=⟨⟩
theorem tw5557367109848538097:True:=⟨⟩
theorem tw14294899473425162731:True:=⟨⟩
theorem tw4385907463500370945:True:=⟨⟩
theorem tw11622683824297587133:True:=⟨⟩
theorem tw3689854879175210734:True:=⟨⟩
theorem tw3393909624817283987:True:=⟨⟩
theorem tw12207486880535703404:True:=⟨⟩
theorem tw8694246180288651217:True:=⟨⟩
theorem tw14152117696201638219:True:=⟨⟩
theorem tw9154715665010012302:True:=⟨⟩
theorem tw4756295398326147701:True:=⟨⟩
theorem tw4421537638148400765:True:=⟨⟩
theorem tw11078386068872579993:True:=⟨⟩
theorem tw14494852992279223319:True:=⟨⟩
theorem tw11734253268520212946:True:=⟨⟩
theorem tw14256235281507434604:True:=⟨⟩
theorem tw10414902288148764977:True:=⟨⟩
theorem tw12568861626699859747:True:=⟨⟩
theorem tw2164371593397940027:True:=⟨⟩
theorem tw9886356140544758253:True:=⟨⟩
theorem tw12699651575200922061:True:=⟨⟩
theorem tw12046395443097185836:True:=⟨⟩
theorem tw2847776058916333402:True:=⟨⟩
theorem tw16295051322108716653:True:=⟨⟩
theorem tw10062570337220286699:True:=⟨⟩
theorem tw5131569652587552016:True:=⟨⟩
theorem tw17848166933355755795:True:=⟨⟩
theorem tw13743180013228346558:True:=⟨⟩
theorem tw2120207675310598647:True:=⟨⟩
theorem tw11789627233999842330:True:=⟨⟩
theorem tw4071628701536749062:True:=⟨⟩
theorem tw6418053725369278204:True:=⟨⟩
theorem tw16604978150793726206:True:=⟨⟩
theorem tw13039912355134009181:True:=⟨⟩
theorem tw8094681658666170462:True:=⟨⟩
theorem tw9286797589306272233:True:=⟨⟩
theorem tw4468660773971274553:True:=⟨⟩
theorem tw11276503883944284243:True:=⟨⟩
theorem tw4737256125473319644:True:=⟨⟩
theorem tw13747614502781937613:True:=⟨⟩
theorem tw511699495204214775:True:=⟨⟩
theorem tw642149296340157127:True:=⟨⟩
theorem tw6957242558883142449:True:=⟨⟩
theorem tw16619958056155432115:True:=⟨⟩
theorem tw8902481167557080150:True:=⟨⟩
theorem tw16026823950639410994:True:=⟨⟩
theorem tw6300197010159190574:True:=⟨⟩
theorem tw8028781014074983292:True:=⟨⟩
theorem tw6520317117276119263:True:=⟨⟩
theorem tw9578872480372401401:True:=⟨⟩
theorem tw7153475952686370643:True:=⟨⟩
theorem tw966509293693760568:True:=⟨⟩
theorem tw15714115196782314427:True:=⟨⟩
theorem tw13377361514075868293:True:=⟨⟩
theorem tw565494414300077368:True:=⟨⟩
theorem tw3244063098604224429:True:=⟨⟩
theorem tw13883914767602626964:True:=⟨⟩
theorem tw3043572196189550382:True:=⟨⟩
theorem tw5508602507248454487:True:=⟨⟩
theorem tw2134301439141402635:True:=⟨⟩
theorem tw10652944686164066327:True:=⟨⟩
theorem tw9571936628326754196:True:=⟨⟩
theorem tw13693884475773933178:True:=⟨⟩
theorem tw8844463972275279564:True:=⟨⟩
theorem tw5731782751237433364:True:=⟨⟩
theorem tw8627874079733976183:True:=⟨⟩
theorem tw5031062291260986323:True:=⟨⟩
theorem tw17390630485754507635:True:=⟨⟩
theorem tw8394008317635984370:True:=⟨⟩
theorem tw7982267482627524771:True:=⟨⟩
theorem tw3133463705133016955:True:=⟨⟩
theorem tw813404430704293285:True:=⟨⟩
theorem tw16483386233252560515:True:=⟨⟩
theorem tw12693162670144270998:True:=⟨⟩
theorem tw2899644973872273721:True:=⟨⟩
theorem tw1484982886150822656:True:=⟨⟩
theorem tw1510542088044219512:True:=⟨⟩
theorem tw837002147555858275:True:=⟨⟩
theorem tw12385250624276793645:True:=⟨⟩
theorem tw4121795940905744108:True:=⟨⟩
theorem tw13832428461783199810:True:=⟨⟩
theorem tw7240549733166620412:True:=⟨⟩
theorem tw5960997163284078499:True:=⟨⟩
theorem tw2024534254055255937:True:=⟨⟩
theorem tw842419889509163521:True:=⟨⟩
theorem tw13000764682072795786:True:=⟨⟩
theorem tw5257625553221202774:True:=⟨⟩
theorem tw17876471449558066817:True:=⟨⟩
theorem tw5325648371644635233:True:=⟨⟩
theorem tw8093953909448992699:True:=⟨⟩
theorem tw2066229245145207502:True:=⟨⟩
theorem tw16207690902796911034:True:=⟨⟩
theorem tw3563016199666111650:True:=⟨⟩
theorem tw11094972913071927202:True:=⟨⟩
theorem tw18189522423893570566:True:=⟨⟩
theorem tw7117183362663229757:True:=⟨⟩
theorem tw16918376143177579633:True:=⟨⟩
theorem tw17015641270338501775:True:=⟨⟩
theorem tw16240917146958156270:True:=⟨⟩
theorem tw6802137447747076482:True:=⟨⟩
theorem tw6034612325217351812:True:=⟨⟩
theorem tw9000070263045896212:True:=⟨⟩
theorem tw3054594101466112093:True:=⟨⟩
theorem tw16645182981654350371:True:=⟨⟩
theorem tw7404194149661910249:True:=⟨⟩
theorem tw1486022344819011457:True:=⟨⟩
theorem tw2941065206279665944:True:=⟨⟩
theorem tw10348666161531487728:True:=⟨⟩
theorem tw7204453900192807007:True:=⟨⟩
theorem tw415735038923164164:True:=⟨⟩
theorem tw14007198004914317534:True:=⟨⟩
theorem tw6663333833311486057:True:=⟨⟩
theorem tw12502359201585267784:True:=⟨⟩
theorem tw302220093628427170:True:=⟨⟩
theorem tw3097499290797036854:True:=⟨⟩
theorem tw8474393380745143872:True:=⟨⟩
theorem tw6045881173173104716:True:=⟨⟩
theorem tw13544140746731252053:True:=⟨⟩
theorem tw10593256526601471346:True:=⟨⟩
theorem tw10792216835388038661:True:=⟨⟩
theorem tw14212441213750055805:True:=⟨⟩
theorem tw15010232538809426434:True:=⟨⟩
theorem tw18410929589426380916:True:=⟨⟩
theorem tw16744631980679204093:True:=⟨⟩
theorem tw8022961558196254104:True:=⟨⟩
theorem tw15925820565890799686:True:=⟨⟩
theorem tw6048120616950791370:True:=⟨⟩
theorem tw11865431000128165876:True:=⟨⟩
theorem tw13144437035395418053:True:=⟨⟩
theorem tw4919514692224780419:True:=⟨⟩
theorem tw4763651080794325568:True:=⟨⟩
theorem tw2326887869661883178:True:=⟨⟩
theorem tw16423249846764661055:True:=⟨⟩
theorem tw639143568106636195:True:=⟨⟩
theorem tw1257193043770856539:True:=⟨⟩
theorem tw8766121270618625589:True:=⟨⟩
theorem tw17973089576050595117:True:=⟨⟩
theorem tw9220205690446620593:True:=⟨⟩
theorem tw13855381988566669824:True:=⟨⟩
theorem tw14135627238018207041:True:=⟨⟩
theorem tw7966129269738198497:True:=⟨⟩
theorem tw6659833494912175404:True:=⟨⟩
theorem tw15888978731875634241:True:=⟨⟩
theorem tw14286556098760989886:True:=⟨⟩
theorem tw10492180148535659208:True:=⟨⟩
theorem tw535897690563028482:True:=⟨⟩
theorem tw4288913648092299879:True:=⟨⟩
theorem tw13076708836540931214:True:=⟨⟩
theorem tw5180673356607309420:True:=⟨⟩
theorem tw14306623984588330085:True:=⟨⟩
theorem tw16513205385118686015:True:=⟨⟩
theorem tw16514571584838662797:True:=⟨⟩
theorem tw17326787706669112046:True:=⟨⟩
theorem tw4867767424229228530:True:=⟨⟩
theorem tw12724248664043613810:True:=⟨⟩
theorem tw12755783022466553554:True:=⟨⟩
theorem tw6132039717750765722:True:=⟨⟩
theorem tw9020515476693982624:True:=⟨⟩
theorem tw15383928658869637879:True:=⟨⟩
theorem tw967593722462407900:True:=⟨⟩
theorem tw12692970592713030014:True:=⟨⟩
theorem tw14863636652995872905:True:=⟨⟩
theorem tw4361752125422660110:True:=⟨⟩
theorem tw5114472763960990386:True:=⟨⟩
theorem tw17332839895810616365:True:=⟨⟩
theorem tw1113402836937196556:True:=⟨⟩
theorem tw15586783356951179971:True:=⟨⟩
theorem tw4347333360294164167:True:=⟨⟩
theorem tw10463674389799414921:True:=⟨⟩
theorem tw165908093585066450:True:=⟨⟩
theorem tw692294356868167012:True:=⟨⟩
theorem tw9106333069050693935:True:=⟨⟩
theorem tw15643465775719701960:True:=⟨⟩
theorem tw14646851903968105202:True:=⟨⟩
theorem tw11147629602119021033:True:=⟨⟩
theorem tw16435845120072102756:True:=⟨⟩
theorem tw15115487148434324068:True:=⟨⟩
theorem tw15066004033905381532:True:=⟨⟩
theorem tw6030484059226424850:True:=⟨⟩
theorem tw14863868225291340847:True:=⟨⟩
theorem tw17996485157960512755:True:=⟨⟩
theorem tw2651506231939141244:True:=⟨⟩
theorem tw15358106555664596384:True:=⟨⟩
theorem tw3530045832636311678:True:=⟨⟩
theorem tw15082111325888706938:True:=⟨⟩
theorem tw11004331221084956503:True:=⟨⟩
theorem tw15205332066148542106:True:=⟨⟩
theorem tw5456346801123475969:True:=⟨⟩
theorem tw8896236339529278413:True:=⟨⟩
theorem tw13171036110850346208:True:=⟨⟩
theorem tw2668746697984101574:True:=⟨⟩
theorem tw5732098360621323865:True:=⟨⟩
theorem tw14603665556803286301:True:=⟨⟩
theorem tw7191485163325261671:True:=⟨⟩
theorem tw12530401215616699756:True:=⟨⟩
theorem tw767604861180984480:True:=⟨⟩
theorem tw10134928739956414820:True:=⟨⟩
theorem tw13600062489195590808:True:=⟨⟩
theorem tw1896104799329329708:True:=⟨⟩
theorem tw11616328547094098098:True:=⟨⟩
theorem tw5241484010233157155:True:=⟨⟩
theorem tw9914722229845385952:True:=⟨⟩
theorem tw9144107289101433521:True:=⟨⟩
theorem tw1363521742755444951:True:=⟨⟩
theorem tw6896470674363903790:True:=⟨⟩
theorem tw17442315619694247890:True:=⟨⟩
theorem tw2944426786726339612:True:=⟨⟩
theorem tw15036300820776859779:True:=⟨⟩
theorem tw7241063946059397182:True:=⟨⟩
theorem tw1440590356774545369:True:=⟨⟩
theorem tw15420183355150567609:True:=⟨⟩
theorem tw7006890325117049355:True:=⟨⟩
theorem tw2797720579887378053:True:=⟨⟩
theorem tw11815599227863094611:True:=⟨⟩
theorem tw1638574493494996539:True:=⟨⟩
theorem tw16917806724990658760:True:=⟨⟩
theorem tw7046363297849509160:True:=⟨⟩
theorem tw13973442317774737653:True:=⟨⟩
theorem tw11698973448864915186:True:=⟨⟩
theorem tw11158646388235653241:True:=⟨⟩
theorem tw7968270371719720981:True:=⟨⟩
theorem tw17363121963479602590:True:=⟨⟩
theorem tw4781940245031156931:True:=⟨⟩
theorem tw793619381891908551:True:=⟨⟩
theorem tw15137872783925035133:True:=⟨⟩
theorem tw1285859066791218309:True:=⟨⟩
theorem tw8651119687935981597:True:=⟨⟩
theorem tw17913995666274313940:True:=⟨⟩
theorem tw16599807236866438020:True:=⟨⟩
theorem tw8773626764681849763:True:=⟨⟩
theorem tw11583978991228457843:True:=⟨⟩
theorem tw7424550085733284373:True:=⟨⟩
theorem tw9478651374380650028:True:=⟨⟩
theorem tw9204330485812518338:True:=⟨⟩
theorem tw8921101173482208136:True:=⟨⟩
theorem tw10257441140932501250:True:=⟨⟩
theorem tw6434012112117512581:True:=⟨⟩
theorem tw13240110850409645410:True:=⟨⟩
theorem tw1067237127033413305:True:=⟨⟩
theorem tw9700034413031178476:True:=⟨⟩
theorem tw887963668028921358:True:=⟨⟩
theorem tw2966604449401789301:True:=⟨⟩
theorem tw1464110173865921299:True:=⟨⟩
theorem tw6652651124143846717:True:=⟨⟩
theorem tw9132208461336657721:True:=⟨⟩
theorem tw11041313973466486356:True:=⟨⟩
theorem tw14004694753041726434:True:=⟨⟩
theorem tw8532870297194004447:True:=⟨⟩
theorem tw15262908679321577821:True:=⟨⟩
theorem tw9973517321363465636:True:=⟨⟩
theorem tw13513683317899674237:True:=⟨⟩
theorem tw269719931253475023:True:=⟨⟩
theorem tw5208100647359256709:True:=⟨⟩
theorem tw13553124327501721125:True:=⟨⟩
theorem tw16392164131783990559:True:=⟨⟩
theorem tw15612099332218191836:True:=⟨⟩
theorem tw8937525800717478266:True:=⟨⟩
theorem tw2521085816469348972:True:=⟨⟩
theorem tw7268635335780668726:True:=⟨⟩
theorem tw10798150817873169758:True:=⟨⟩
theorem tw16517691126014630892:True:=⟨⟩
theorem tw10642496833152680037:True:=⟨⟩
theorem tw12783547719227592203:True:=⟨⟩
theorem tw15675948760546457458:True:=⟨⟩
theorem tw10783306138154319614:True:=⟨⟩
theorem tw13015762819161827315:True:=⟨⟩
theorem tw3966668999547130968:True:=⟨⟩
theorem tw13248233181298689118:True:=⟨⟩
theorem tw12884316578405186940:True:=⟨⟩
theorem tw15945371001667937548:True:=⟨⟩
theorem tw627832592164417095:True:=⟨⟩
theorem tw7558246788732287532:True:=⟨⟩
theorem tw9710595133616039030:True:=⟨⟩
theorem tw10355263075105395894:True:=⟨⟩
theorem tw5420920203430981697:True:=⟨⟩
theorem tw12916019524394709284:True:=⟨⟩
theorem tw8506248314452800493:True:=⟨⟩
theorem tw3675572561455109872:True:=⟨⟩
theorem tw7906998484442740874:True:=⟨⟩
theorem tw4369652705417528567:True:=⟨⟩
theorem tw10085461483445925898:True:=⟨⟩
theorem tw16163976806773407390:True:=⟨⟩
theorem tw1795248694321504027:True:=⟨⟩
theorem tw5756469217219147557:True:=⟨⟩
theorem tw17886624706669243549:True:=⟨⟩
theorem tw11982141218618267640:True:=⟨⟩
theorem tw1917667611252346885:True:=⟨⟩
theorem tw6514530918747728094:True:=⟨⟩
theorem tw15905227283781684255:True:=⟨⟩
theorem tw2213058624759880342:True:=⟨⟩
theorem tw16823408022725149891:True:=⟨⟩
theorem tw10905631038473296033:True:=⟨⟩
theorem tw12261864355367418570:True:=⟨⟩
theorem tw14213572488083666191:True:=⟨⟩
theorem tw2642559665796117086:True:=⟨⟩
theorem tw16568328752046214118:True:=⟨⟩
theorem tw14199337969830788542:True:=⟨⟩
theorem tw14908488707898766177:True:=⟨⟩
theorem tw6403909255329094:True:=⟨⟩
theorem tw15606774230198074186:True:=⟨⟩
theorem tw14778638732953841560:True:=⟨⟩
theorem tw12545362307864422326:True:=⟨⟩
theorem tw16898444765968399021:True:=⟨⟩
theorem tw17737519000778685000:True:=⟨⟩
theorem tw6493178164955408856:True:=⟨⟩
theorem tw7578018274516943889:True:=⟨⟩
theorem tw6752972493631370080:True:=⟨⟩
theorem tw14407578589192284862:True:=⟨⟩
theorem tw14226822545352930361:True:=⟨⟩
theorem tw108602131211318585:True:=⟨⟩
theorem tw12292428350515937510:True:=⟨⟩
theorem tw7222698864389092330:True:=⟨⟩
theorem tw13502907350776829016:True:=⟨⟩
theorem tw6699274333724430831:True:=⟨⟩
theorem tw3312715589178188615:True:=⟨⟩
theorem tw18041125856433003254:True:=⟨⟩
theorem tw15451629200770404952:True:=⟨⟩
theorem tw16536795258769385650:True:=⟨⟩
theorem tw15759022582900874716:True:=⟨⟩
theorem tw4702653024145997955:True:=⟨⟩
theorem tw9997727248390248747:True:=⟨⟩
theorem tw3604574315697848120:True:=⟨⟩
theorem tw15927464240102581374:True:=⟨⟩
theorem tw2687802179727205868:True:=⟨⟩
theorem tw8272300764358538779:True:=⟨⟩
theorem tw6419906097555884436:True:=⟨⟩
theorem tw12854903245872823142:True:=⟨⟩
theorem tw16638491791681927871:True:=⟨⟩
theorem tw9393371806699288136:True:=⟨⟩
theorem tw5008257257457204750:True:=⟨⟩
theorem tw13243645238944553479:True:=⟨⟩
theorem tw5432776536603151115:True:=⟨⟩
theorem tw13717814165647673011:True:=⟨⟩
theorem tw9745370364460575009:True:=⟨⟩
theorem tw9516460305408444118:True:=⟨⟩
theorem tw10904321642621822238:True:=⟨⟩
theorem tw11597157513671448801:True:=⟨⟩
theorem tw406629224975607562:True:=⟨⟩
theorem tw9159781132328546349:True:=⟨⟩
theorem tw17844266071266400988:True:=⟨⟩
theorem tw4593876186022534813:True:=⟨⟩
theorem tw15045903921840748883:True:=⟨⟩
theorem tw10641652687799644071:True:=⟨⟩
theorem tw16642750398036919070:True:=⟨⟩
theorem tw10249600973122610678:True:=⟨⟩
theorem tw7713860191567363140:True:=⟨⟩
theorem tw7502797834335168025:True:=⟨⟩
theorem tw3160841548641867548:True:=⟨⟩
theorem tw9106698243239929572:True:=⟨⟩
theorem tw10293999324604026802:True:=⟨⟩
theorem tw12271583846172038435:True:=⟨⟩
theorem tw3940434281516816714:True:=⟨⟩
theorem tw12336751762684251832:True:=⟨⟩
theorem tw14800409890429183956:True:=⟨⟩
theorem tw12422646714513033341:True:=⟨⟩
theorem tw8559967188299325594:True:=⟨⟩
theorem tw12952205875570850685:True:=⟨⟩
theorem tw978159213783911871:True:=⟨⟩
theorem tw3614349890593381853:True:=⟨⟩
theorem tw13995867518179276179:True:=⟨⟩
theorem tw8424147533960692625:True:=⟨⟩
theorem tw6071100309916212391:True:=⟨⟩
theorem tw1593292355009098763:True:=⟨⟩
theorem tw14434630788791797792:True:=⟨⟩
theorem tw17947954630535562598:True:=⟨⟩
theorem tw9436497187382359035:True:=⟨⟩
theorem tw2481343213285112347:True:=⟨⟩
theorem tw12354016219625379448:True:=⟨⟩
theorem tw5120494421445806187:True:=⟨⟩
theorem tw9840491358139299872:True:=⟨⟩
theorem tw4809766265745964916:True:=⟨⟩
theorem tw8447120450844142654:True:=⟨⟩
theorem tw10154906384449224353:True:=⟨⟩
theorem tw1835636303496354926:True:=⟨⟩
theorem tw16102811570779172236:True:=⟨⟩
theorem tw16505268642793792843:True:=⟨⟩
theorem tw17203620353628049199:True:=⟨⟩
theorem tw10116890219467374787:True:=⟨⟩
theorem tw13333715294313598856:True:=⟨⟩
theorem tw3636928443232288545:True:=⟨⟩
theorem tw3251116211473685148:True:=⟨⟩
theorem tw17622222482803288263:True:=⟨⟩
theorem tw6502744819795398277:True:=⟨⟩
theorem tw16672782220148602761:True:=⟨⟩
theorem tw14998434112059519757:True:=⟨⟩
theorem tw997513418032126630:True:=⟨⟩
theorem tw13763557241832835665:True:=⟨⟩
theorem tw838544266687091165:True:=⟨⟩
theorem tw5629718689433768496:True:=⟨⟩
theorem tw7776821019844430661:True:=⟨⟩
theorem tw1961884677937760674:True:=⟨⟩
theorem tw162799200814359321:True:=⟨⟩
theorem tw15166356879256473235:True:=⟨⟩
theorem tw16774206362269261911:True:=⟨⟩
theorem tw14884551506109587875:True:=⟨⟩
theorem tw13349131289044591319:True:=⟨⟩
theorem tw6208107498597502719:True:=⟨⟩
theorem tw11346015904222454643:True:=⟨⟩
theorem tw13593330265403322159:True:=⟨⟩
theorem tw3423635826703521847:True:=⟨⟩
theorem tw1334303237387128430:True:=⟨⟩
theorem tw13966168410735613586:True:=⟨⟩
theorem tw15984817603832847006:True:=⟨⟩
theorem tw5950949554673264189:True:=⟨⟩
theorem tw14223129527373006820:True:=⟨⟩
theorem tw15999308669376233326:True:=⟨⟩
theorem tw2513391462387178986:True:=⟨⟩
theorem tw9150112738302054625:True:=⟨⟩
theorem tw16072613675034622556:True:=⟨⟩
theorem tw5413155816902919662:True:=⟨⟩
theorem tw12265899773744276429:True:=⟨⟩
theorem tw17255719325959304007:True:=⟨⟩
theorem tw16373144612755166370:True:=⟨⟩
theorem tw6331408502848845676:True:=⟨⟩
theorem tw3390679718296778906:True:=⟨⟩
theorem tw16655684208027421621:True:=⟨⟩
theorem tw6009953981801592533:True:=⟨⟩
theorem tw4368071478851348438:True:=⟨⟩
theorem tw12908331620905550982:True:=⟨⟩
theorem tw4318403405089999801:True:=⟨⟩
theorem tw17082432564814773096:True:=⟨⟩
theorem tw13386803262450271764:True:=⟨⟩
theorem tw12419120210795111044:True:=⟨⟩
theorem tw8232978971624502581:True:=⟨⟩
theorem tw8481415146262470669:True:=⟨⟩
theorem tw6523048374753113972:True:=⟨⟩
theorem tw2526134611450613482:True:=⟨⟩
theorem tw5770944239088385672:True:=⟨⟩
theorem tw13574243348833214338:True:=⟨⟩
theorem tw5531129022155106572:True:=⟨⟩
theorem tw4326368819142362314:True:=⟨⟩
theorem tw9619945617913706823:True:=⟨⟩
theorem tw7736035283678908099:True:=⟨⟩
theorem tw4922030599288287636:True:=⟨⟩
theorem tw127914577049886896:True:=⟨⟩
theorem tw8371599962356722117:True:=⟨⟩
theorem tw15742154377564500299:True:=⟨⟩
theorem tw6461026567385786203:True:=⟨⟩
theorem tw976876869871271186:True:=⟨⟩
end PySem.W.Fast
open PySem PySem.W PyProof.Rows
set_option maxRecDepth 100000 in
set_option maxHeartbeats 0 in
theorem PySem.Challenge.cw_strokegrow_k57_whole_turns_kept_holds : PySem.Challenge.rw_strokegrow_k57_whole_turns_kept.Holds := by
 w_on;o_law;k_head;(case hw=>w_witness2)
 k_fill
 refine L2.HC (l:=PySem.Challenge.rw_strokegrow_k57_whole_turns_kept) (n:=63) (k:=12) (x:="_law_script") (CX:=Pf.CX) (sp:=fun K=>Pf.Kd K) rfl (by decide) rfl ⟨rfl,by decide,by decide⟩ (fun w h Y=>PySem.W.kIn_of Y) ?F ?S ?C
 case F=>
   intro w mg fa h KX G Te
   have T:∃ t,Pf.Txt (L2.Zb KX) mg t∧t.qh=fa:=by
     dsimp only [L2.Zb]
     obtain⟨t,T,e⟩:∃ t,Pf.Txt _ mg t∧t.qh=_:=by
       refine' Pf.QS KX G ?_ ?_ ?_ ?_ ?_ ?_ ?_ ?_ ?_ ?_ ?_ ?_ ?_ ?_ ?_ ?_ ?_ ?_ ?_ ?_ ?_ ?_ ?_ ?_ ?_ ?_ ?_ ?_ ?_ ?_ ?_ ?_ ?_ ?_ ?_ ?_ ?_ ?_ ?_ ?_ ?_ ?_ ?_ ?_ ?_ ?_ ?_ ?_ ?_ ?_ ?_ ?_ ?_ ?_ ?_ ?_ ?_ ?_ ?_ ?_ ?_ ?_ ?_ ?_ ?_ ?_ ?_ ?_ ?_ ?_ ?_ ?_ ?_ ?_ ?_ ?_ ?_ ?_ ?_ ?_ ?_ ?_ ?_ ?_ ?_ ?_ ?_ ?_ ?_ ?_ ?_ ?_ ?_ ?_ ?_ ?_ ?_ ?_ ?_ ?_ ?_ ?_ ?_ ?_ ?_ ?_ ?_ ?_ ?_ ?_ ?_ ?_ ?_ ?_ ?_ ?_ ?_ ?_ ?_ ?_ ?_ ?_ ?_ ?_ ?_ ?_ ?_ ?_ ?_ ?_ ?_ ?_ ?_ ?_ ?_ ?_ ?_ ?_ ?_ ?_ ?_ ?_ ?_ ?_ ?_ ?_ ?_ ?_ ?_ ?_ ?_ ?_ ?_ ?_ ?_ ?_ ?_ ?_ ?_ ?_ ?_ ?_ ?_ ?_ ?_ ?_ ?_ ?_ ?_ ?_ ?_ ?_ ?_
       any_goals walk_at "z"
     refine⟨t,T,?_⟩
     have e0:=Te.symm.trans (T.g T.BE.a)
     cases e0
     rfl
   obtain⟨t,T,e⟩:=T
   subst e
   refine' ⟨t.vR,?b,fun base kb nb=>Pf.RJ T⟩
   exact Pf.QT T
 case S=>exact fun K H a ns hl hO hS=>Pf.Rq hl hS
 case C=>exact fun H s e s' h=>h
